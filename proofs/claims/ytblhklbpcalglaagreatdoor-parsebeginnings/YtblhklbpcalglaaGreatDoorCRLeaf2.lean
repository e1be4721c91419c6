import Derived.Test.YtblhklbpcalglaaGreatDoorCQL
import Derived.Deep.AppendLies
import Derived.Deep.RegionLaw
namespace Go.Proofs.YtblhklbpcalglaaGreatDoor
open Go.RowKit
set_option linter.unusedVariables false
set_option linter.unusedSimpArgs false
variable {w0 : World} {rb : Nat} {srcV tokV : Value} {TL : List Tok} {xs : List UInt8} {U : Nat → Prop}
def faultP (p : Nat) : Ending := .panicked [{ v := .iface 27 (.agg #[.int .i64 p, .int .i64 30]), recovered := false }]
set_option maxRecDepth 100000 in
set_option maxHeartbeats 1000000 in
theorem refuse_any (hT : RT w0 rb srcV tokV TL xs) {W : World} {i : Nat} {ns : List Nd} (hS : RS w0 rb srcV tokV U W i ns) (hi : i < TL.length) :
    Calls Tryz.prog 50 #[.pointer (some ⟨rb, 0, none⟩)] W fun e W' => e = faultP TL[i].place ∧ Below rb w0 W' := by
  have HN : Bx _ := ⟨rnext_any hT hS hi⟩
  have HE : Bx (∀ W1, Below W.heap.size W W1 → Below rb w0 W1) := ⟨fun W1 b => (hS.ext b).bel⟩
  unfold Go.Proofs.YtblhklbpcalglaaGreatDoor.tokV at HN
  have hf1 := tok_f1
  generalize TL[i] = t at *
  clear hS hT
  go_enter Tryz.func50, Tryz.ntmps50
  go_wp2_with (first
    | (go_at_call 33; refine Calls.mono HN.out ?_; rintro e W1 ⟨rfl, b1⟩))
  exact ⟨rfl, rfl, HE.out _ b1⟩
set_option maxRecDepth 100000 in
set_option maxHeartbeats 1000000 in
theorem want_yes (hT : RT w0 rb srcV tokV TL xs) {W : World} {i : Nat} {ns : List Nd} (hS : RS w0 rb srcV tokV U W i ns) (hi : i < TL.length) (s : ByteArray) (hs : textK (TL[i].kind : Nat) = s.data.toList) :
    Calls Tryz.prog 34 #[.pointer (some ⟨rb, 0, none⟩), .string s] W fun e W' => e = .returned (.int .i64 TL[i].place) ∧ RS w0 rb srcV tokV U W' (i + 1) ns ∧ KeepR rb W W' := by
  have HN : Bx _ := ⟨rnext_any hT hS hi⟩
  have HK : Bx (∀ W1, Below W.heap.size W W1 → _) := ⟨fun W1 b => skip_yes hT (hS.ext b) hi s hs⟩
  have hrW := hS.lt
  unfold Go.Proofs.YtblhklbpcalglaaGreatDoor.tokV at HN
  have hf1 := tok_f1
  generalize TL[i] = t at *
  clear hS hT hs
  go_enter Tryz.func34, Tryz.ntmps34
  go_wp2_with (first
    | (go_at_call 33; refine Calls.mono HN.out ?_; rintro e W1 ⟨rfl, b1⟩)
    | (go_at_call 49; refine Calls.mono (HK.out _ b1) ?_; rintro e W2 ⟨rfl, q1, q2⟩))
  go_ret
  exact ⟨rfl, q1, (KeepR.ext hrW b1).trans q2⟩
set_option maxRecDepth 100000 in
set_option maxHeartbeats 1000000 in
theorem want_no (hT : RT w0 rb srcV tokV TL xs) {W : World} {i : Nat} {ns : List Nd} (hS : RS w0 rb srcV tokV U W i ns) (hi : i < TL.length) (s : ByteArray) (hs : ¬ textK (TL[i].kind : Nat) = s.data.toList) :
    Calls Tryz.prog 34 #[.pointer (some ⟨rb, 0, none⟩), .string s] W fun e W' => e = faultP TL[i].place ∧ Below rb w0 W' := by
  have HN : Bx _ := ⟨rnext_any hT hS hi⟩
  have HK : Bx (∀ W1, Below W.heap.size W W1 → _) := ⟨fun W1 b => skip_no hT (hS.ext b) hi s hs⟩
  have HR : Bx (∀ W1, Below W.heap.size W W1 → _) := ⟨fun W1 b => refuse_any hT (hS.ext b) hi⟩
  unfold Go.Proofs.YtblhklbpcalglaaGreatDoor.tokV at HN
  have hf1 := tok_f1
  generalize TL[i] = t at *
  clear hS hT hs
  go_enter Tryz.func34, Tryz.ntmps34
  go_wp2_with (first
    | (go_at_call 33; refine Calls.mono HN.out ?_; rintro e W1 ⟨rfl, b1⟩)
    | (go_at_call 49; refine Calls.mono (HK.out _ b1) ?_; rintro e W2 ⟨rfl, b2⟩; have b3 := b1.trans (b2.mono b1.size))
    | (go_at_call 50; refine Calls.mono (HR.out _ b3) ?_; rintro e W3 ⟨rfl, b4⟩; unfold faultP))
  exact ⟨rfl, rfl, b4⟩
end Go.Proofs.YtblhklbpcalglaaGreatDoor
namespace Go.Proofs.YtblhklbpcalglaaGreatDoor
open Go.RowKit
set_option linter.unusedVariables false
set_option linter.unusedSimpArgs false
variable {w0 : World} {rb : Nat} {srcV tokV : Value} {TL : List Tok} {xs : List UInt8} {U : Nat → Prop}
def ptok (xs : List UInt8) (t : Tok) : PTok := ⟨t.kind, t.place, t.num, cut xs t.place (t.place + t.len)⟩
def pts (xs : List UInt8) (TL : List Tok) (i : Nat) : List PTok := (TL.drop i).map (ptok xs)
theorem pts_cons {i : Nat} (hi : i < TL.length) : pts xs TL i = ptok xs TL[i] :: pts xs TL (i + 1) := by
  unfold pts
  rw [List.drop_eq_getElem_cons hi, List.map_cons]
theorem pts_kd {i : Nat} (hi : i < TL.length) : kd (pts xs TL i) = TL[i].kind := by rw [pts_cons hi]; rfl
theorem pts_tl {i : Nat} (hi : i < TL.length) : tl (pts xs TL i) = pts xs TL (i + 1) := by rw [pts_cons hi]; rfl
theorem pts_hd {i : Nat} (hi : i < TL.length) : hd (pts xs TL i) = ptok xs TL[i] := by rw [pts_cons hi]; rfl
structure Kinds (TL : List Tok) : Prop where
  ok : ∀ i (h : i < TL.length), TL[i].kind = 0 ∨ TL[i].kind = 1 ∨ TL[i].kind = 2 ∨ (10 ≤ TL[i].kind ∧ TL[i].kind < 31) ∨ (40 ≤ TL[i].kind ∧ TL[i].kind < 67)
  last : ∀ i (h : i < TL.length), TL[i].kind = 0 ↔ i + 1 = TL.length
theorem text_is {k c : Nat} (hk : k = 0 ∨ k = 1 ∨ k = 2 ∨ (10 ≤ k ∧ k < 31) ∨ (40 ≤ k ∧ k < 67)) (hc : (10 ≤ c ∧ c < 31) ∨ (40 ≤ c ∧ c < 67)) : textK (k : Int) = textK (c : Int) ↔ k = c := by
  constructor
  · intro h
    have hne : textK (c : Int) ≠ [] := by
      have hw : ∀ i : Fin 21, wordsT.getD i [] ≠ [] := by decide
      have hs : ∀ i : Fin 27, signsT.getD i [] ≠ [] := by decide
      unfold textK
      rcases hc with hc | hc
      · rw [if_pos (by omega)]
        exact hw ⟨((c : Int) - 10).toNat, by omega⟩
      · rw [if_neg (by omega), if_pos (by omega)]
        exact hs ⟨((c : Int) - 40).toNat, by omega⟩
    have h1 := text_kind (c : Int) hne
    have h2 := text_kind (k : Int) (by rw [h]; exact hne)
    rw [h] at h2
    omega
  · intro h; rw [h]
theorem want_any (hT : RT w0 rb srcV tokV TL xs) (hK : Kinds TL) {W : World} {i : Nat} {ns : List Nd} (hS : RS w0 rb srcV tokV U W i ns) (hi : i < TL.length) (c : Nat) (hc : (10 ≤ c ∧ c < 31) ∨ (40 ≤ c ∧ c < 67)) (s : ByteArray) (hs : textK (c : Int) = s.data.toList) :
    Calls Tryz.prog 34 #[.pointer (some ⟨rb, 0, none⟩), .string s] W fun e W' => (kd (pts xs TL i) = c ∧ e = .returned (.int .i64 TL[i].place) ∧ RS w0 rb srcV tokV U W' (i + 1) ns ∧ KeepR rb W W') ∨ (kd (pts xs TL i) ≠ c ∧ e = faultP TL[i].place ∧ Below rb w0 W') := by
  have hiff := text_is (hK.ok i hi) hc
  rw [pts_kd hi]
  by_cases h : TL[i].kind = c
  · exact (want_yes hT hS hi s ((hiff.2 h).trans hs)).mono fun e W' h' => .inl ⟨h, h'⟩
  · exact (want_no hT hS hi s (fun h' => h (hiff.1 (h'.trans hs.symm)))).mono fun e W' h' => .inr ⟨h, h'⟩
theorem rskip_any (hT : RT w0 rb srcV tokV TL xs) (hK : Kinds TL) {W : World} {i : Nat} {ns : List Nd} (hS : RS w0 rb srcV tokV U W i ns) (hi : i < TL.length) (c : Nat) (hc : (10 ≤ c ∧ c < 31) ∨ (40 ≤ c ∧ c < 67)) (s : ByteArray) (hs : textK (c : Int) = s.data.toList) :
    Calls Tryz.prog 49 #[.pointer (some ⟨rb, 0, none⟩), .string s] W fun e W' => (kd (pts xs TL i) = c ∧ e = .returned (.bool true) ∧ RS w0 rb srcV tokV U W' (i + 1) ns ∧ KeepR rb W W') ∨ (kd (pts xs TL i) ≠ c ∧ e = .returned (.bool false) ∧ RS w0 rb srcV tokV U W' i ns ∧ KeepR rb W W') := by
  have hiff := text_is (hK.ok i hi) hc
  rw [pts_kd hi]
  by_cases h : TL[i].kind = c
  · exact (skip_yes hT hS hi s ((hiff.2 h).trans hs)).mono fun e W' h' => .inl ⟨h, h'⟩
  · exact (skip_no hT hS hi s (fun h' => h (hiff.1 (h'.trans hs.symm)))).mono fun e W' h' => .inr ⟨h, h'.1, hS.ext h'.2, KeepR.ext hS.lt h'.2⟩
theorem adv (hK : Kinds TL) {i : Nat} (hi : i < TL.length) (hc : TL[i].kind ≠ 0) : i + 1 < TL.length := by
  have := hK.last i hi
  rcases Nat.lt_or_ge (i + 1) TL.length with h1 | h1
  · exact h1
  · exact absurd (this.2 (by omega)) hc
def RSs (w0 : World) (rb : Nat) (srcV tokV : Value) (TL : List Tok) (xs : List UInt8) (U : Nat → Prop) (W : World) (s : List PTok) (ns : List Nd) : Prop := ∃ i, s = pts xs TL i ∧ i < TL.length ∧ RS w0 rb srcV tokV U W i ns ∧ ns.length ≤ i ∧ ∀ g, U g → g < W.heap.size
theorem RSs.ext {W W' : World} {s : List PTok} {ns : List Nd} (h : RSs w0 rb srcV tokV TL xs U W s ns) (hb : Below W.heap.size W W') : RSs w0 rb srcV tokV TL xs U W' s ns := by
  obtain ⟨i, h1, h2, h3, h4, h5⟩ := h
  exact ⟨i, h1, h2, h3.ext hb, h4, fun g hg => by have := h5 g hg; have := hb.size; omega⟩
theorem RSs.lt {W : World} {s : List PTok} {ns : List Nd} (h : RSs w0 rb srcV tokV TL xs U W s ns) : rb < W.heap.size := by
  obtain ⟨i, h1, h2, h3, h4⟩ := h
  exact h3.lt
theorem RSs.bel {W : World} {s : List PTok} {ns : List Nd} (h : RSs w0 rb srcV tokV TL xs U W s ns) : Below rb w0 W := by
  obtain ⟨i, h1, h2, h3, h4⟩ := h
  exact h3.bel
theorem RSs.ints {W W' : World} {s : List PTok} {ns : List Nd} (h : RSs w0 rb srcV tokV TL xs U W s ns) {v : Value} {ys : List Int} (hI : IntsO W rb v ys) (hk : KeepR rb W W') : IntsO W' rb v ys := by
  obtain ⟨i, h1, h2, h3, h4⟩ := h
  exact h3.ints hI hk
theorem wantS (hT : RT w0 rb srcV tokV TL xs) (hK : Kinds TL) {W : World} {s : List PTok} {ns : List Nd} (h : RSs w0 rb srcV tokV TL xs U W s ns) (c : Nat) (hc : (10 ≤ c ∧ c < 31) ∨ (40 ≤ c ∧ c < 67)) (tx : ByteArray) (ht : textK (c : Int) = tx.data.toList) :
    Calls Tryz.prog 34 #[.pointer (some ⟨rb, 0, none⟩), .string tx] W fun e W' => (kd s = c ∧ e = .returned (.int .i64 (hd s).place) ∧ RSs w0 rb srcV tokV TL xs U W' (tl s) ns ∧ (tl s).length + 1 = s.length ∧ KeepR rb W W') ∨ (kd s ≠ c ∧ e = faultP (hd s).place ∧ Below rb w0 W') := by
  obtain ⟨i, rfl, hi, hS, hni, hU⟩ := h
  refine (want_any hT hK hS hi c hc tx ht).mono ?_
  rintro e W' (⟨h1, h2, h3, h4⟩ | ⟨h1, h2, h3⟩)
  · refine .inl ⟨h1, by rw [h2, pts_hd hi]; rfl, ⟨i + 1, by rw [pts_tl hi], adv hK hi (by rw [pts_kd hi] at h1; omega), h3, by omega, fun g hg => by have := hU g hg; have := h4.size; omega⟩, by rw [pts_cons hi]; rfl, h4⟩
  · exact .inr ⟨h1, by rw [h2, pts_hd hi]; rfl, h3⟩
theorem skipS (hT : RT w0 rb srcV tokV TL xs) (hK : Kinds TL) {W : World} {s : List PTok} {ns : List Nd} (h : RSs w0 rb srcV tokV TL xs U W s ns) (c : Nat) (hc : (10 ≤ c ∧ c < 31) ∨ (40 ≤ c ∧ c < 67)) (tx : ByteArray) (ht : textK (c : Int) = tx.data.toList) :
    Calls Tryz.prog 49 #[.pointer (some ⟨rb, 0, none⟩), .string tx] W fun e W' => (kd s = c ∧ e = .returned (.bool true) ∧ RSs w0 rb srcV tokV TL xs U W' (tl s) ns ∧ (tl s).length + 1 = s.length ∧ KeepR rb W W') ∨ (kd s ≠ c ∧ e = .returned (.bool false) ∧ RSs w0 rb srcV tokV TL xs U W' s ns ∧ KeepR rb W W') := by
  obtain ⟨i, rfl, hi, hS, hni, hU⟩ := h
  refine (rskip_any hT hK hS hi c hc tx ht).mono ?_
  rintro e W' (⟨h1, h2, h3, h4⟩ | ⟨h1, h2, h3, h4⟩)
  · exact .inl ⟨h1, h2, ⟨i + 1, by rw [pts_tl hi], adv hK hi (by rw [pts_kd hi] at h1; omega), h3, by omega, fun g hg => by have := hU g hg; have := h4.size; omega⟩, by rw [pts_cons hi]; rfl, h4⟩
  · exact .inr ⟨h1, h2, ⟨i, rfl, hi, h3, hni, fun g hg => by have := hU g hg; have := h4.size; omega⟩, h4⟩
theorem textS (hT : RT w0 rb srcV tokV TL xs) {W : World} {s : List PTok} {ns : List Nd} (h : RSs w0 rb srcV tokV TL xs U W s ns) :
    Calls Tryz.prog 23 #[.pointer (some ⟨rb, 0, none⟩)] W fun e W' => e = .returned (.string ⟨(textK (kd s : Nat)).toArray⟩) ∧ Below W.heap.size W W' := by
  obtain ⟨i, rfl, hi, hS, hni, hU⟩ := h
  rw [pts_kd hi]
  exact rtext_any hT hS hi
theorem nextS (hT : RT w0 rb srcV tokV TL xs) {W : World} {s : List PTok} {ns : List Nd} (h : RSs w0 rb srcV tokV TL xs U W s ns) :
    Calls Tryz.prog 33 #[.pointer (some ⟨rb, 0, none⟩)] W fun e W' => ∃ n : Nat, e = .returned (.agg #[.int .i64 (kd s), .int .i64 (hd s).place, .int .i64 n, .int .i64 (hd s).num]) ∧ Below W.heap.size W W' := by
  obtain ⟨i, rfl, hi, hS, hni, hU⟩ := h
  refine (rnext_any hT hS hi).mono ?_
  rintro e W' ⟨h1, h2⟩
  refine ⟨TL[i].len, ?_, h2⟩
  rw [h1, pts_kd hi, pts_hd hi]
  rfl
theorem kind_ok (hK : Kinds TL) {W : World} {s : List PTok} {ns : List Nd} (h : RSs w0 rb srcV tokV TL xs U W s ns) : kd s = 0 ∨ kd s = 1 ∨ kd s = 2 ∨ (10 ≤ kd s ∧ kd s < 31) ∨ (40 ≤ kd s ∧ kd s < 67) := by
  obtain ⟨i, rfl, hi, hS, hni, hU⟩ := h
  rw [pts_kd hi]
  exact hK.ok i hi
def Post1 (w0 : World) (rb : Nat) (srcV tokV : Value) (TL : List Tok) (xs : List UInt8) (U : Nat → Prop) (W : World) (s : List PTok) (ns : List Nd) (res : Res) (e : Ending) (W' : World) : Prop :=
  match res with
  | .ok ts s' => ts.length = 1 ∧ s'.length + sizes ts ≤ s.length ∧ e = .returned (.int .i64 ((ns.length + sizes ts - 1 : Nat) : Int)) ∧ RSs w0 rb srcV tokV TL xs U W' s' (ns ++ flats ts ns.length) ∧ KeepR rb W W'
  | .err s' => e = faultP (hd s').place ∧ Below rb w0 W'
  | .out => False
def RC (w0 : World) (rb : Nat) (srcV tokV : Value) (TL : List Tok) (xs : List UInt8) (S : List PTok → Res) (F : Nat) (vs : Array Value) : Prop :=
  ∀ U W s ns, RSs w0 rb srcV tokV TL xs U W s ns → S s ≠ .out → Calls Tryz.prog F (#[.pointer (some ⟨rb, 0, none⟩)] ++ vs) W (Post1 w0 rb srcV tokV TL xs U W s ns (S s))
theorem ends_one {ts : List Tr} (h : ts.length = 1) (o : Nat) : ends ts o = [((o + sizes ts - 1 : Nat) : Int)] := by
  match ts, h with
  | [t], _ => simp [ends, sizes]
theorem ends_append : ∀ (a b : List Tr) (o : Nat), ends (a ++ b) o = ends a o ++ ends b (o + sizes a)
  | [], b, o => by simp [ends, sizes]
  | t :: r, b, o => by
    rw [List.cons_append, ends, ends, ends_append r b, sizes, List.cons_append, Nat.add_assoc]
theorem flats_append : ∀ (a b : List Tr) (o : Nat), flats (a ++ b) o = flats a o ++ flats b (o + sizes a)
  | [], b, o => by simp [flats, sizes]
  | t :: r, b, o => by
    rw [List.cons_append, flats, flats, flats_append r b, sizes, List.append_assoc, Nat.add_assoc]
theorem two_lists (ns : List Nd) (a b : List Tr) : (ns ++ flats a ns.length) ++ flats b (ns ++ flats a ns.length).length = ns ++ flats (a ++ b) ns.length := by
  rw [flats_append, List.append_assoc, List.length_append, flats_len]
theorem two_len (ns : List Nd) (a : List Tr) : (ns ++ flats a ns.length).length = ns.length + sizes a := by rw [List.length_append, flats_len]
theorem want_pos {c : Nat} {s : List PTok} {k : List PTok → Res} (h : kd s = c) : want c s k = k (tl s) := by
  unfold want
  rw [if_pos h]
theorem want_neg {c : Nat} {s : List PTok} {k : List PTok → Res} (h : kd s ≠ c) : want c s k = .err s := by
  unfold want
  rw [if_neg h]
theorem nameK_pos {s : List PTok} {k : List UInt8 → List PTok → Res} (h : kd s = 1) : nameK s k = k (hd s).name (tl s) := by
  unfold nameK
  rw [if_pos h]
theorem nameK_neg {s : List PTok} {k : List UInt8 → List PTok → Res} (h : kd s ≠ 1) : nameK s k = .err s := by
  unfold nameK
  rw [if_neg h]
theorem numK_pos {s : List PTok} {k : Nat → List PTok → Res} (h : kd s = 2) : numK s k = k (hd s).num (tl s) := by
  unfold numK
  rw [if_pos h]
theorem numK_neg {s : List PTok} {k : Nat → List PTok → Res} (h : kd s ≠ 2) : numK s k = .err s := by
  unfold numK
  rw [if_neg h]
theorem ints_new {W : World} {o : Array Value} {ys : List Int} {n : Nat} (hn : ys.length = n) (h0 : 0 < n) (hm : n ≤ 100) (hr : rb < W.heap.size) (ho : o.toList = intsC ys) : IntsO (W.alloc (.cells o 3)) rb (.slice (some ⟨W.heap.size, 0, none⟩) n n) ys := by
  unfold IntsO
  rw [hn]
  have hl : o.size = n := by
    have := congrArg List.length ho
    simpa [intsC, hn] using this
  refine ⟨by simp [intsC, hn], .inr ⟨W.heap.size, n, o, rfl, by omega, heap_alloc_new W _, Nat.le_refl _, by unfold maxLen; omega, by omega, ?_⟩⟩
  rw [ho, List.take_of_length_le (by simp [intsC, hn])]
end Go.Proofs.YtblhklbpcalglaaGreatDoor
namespace Go.Proofs.YtblhklbpcalglaaGreatDoor
open Go.RowKit
set_option linter.unusedVariables false
set_option linter.unusedSimpArgs false
variable {w0 : World} {rb : Nat} {srcV tokV : Value} {TL : List Tok} {xs : List UInt8} {U : Nat → Prop}
def zeroNd : Value := .agg #[.int .i64 0, .int .i64 0, .slice none 0 0, .string ⟨#[]⟩, .int .i64 0]
theorem infoNd : (Tryz.prog.info? 38).map (fun i => (i.zero, i.size, i.bytes)) = some (some zeroNd, 5, 64) := by kernel_rfl
theorem ndsC_snoc (n : Nd) (k : Option Addr × Nat) : ∀ (ns : List Nd) (ks : List (Option Addr × Nat)), ks.length = ns.length → ndsC (ns ++ [n]) (ks ++ [k]) = ndsC ns ks ++ ndC n k
  | [], [], _ => by simp [ndsC]
  | x :: r, y :: q, h => by
    simp only [List.cons_append, ndsC]
    rw [ndsC_snoc n k r q (by simpa using h), List.append_assoc]
theorem nd_news (X : World) (H : Nat) (hH : X.heap.size = H) (a b c d e : Value) : ∀ (j : Nat) (u : Value), [a, b, c, d, e][j]? = some u → (X.alloc (.cells #[a, b, c, d, e] 38)).drew.cell? ((⟨H, 0, none⟩ : Addr).add j) = some u := by
  subst hH
  have h := heap_alloc_new X (.cells #[a, b, c, d, e] 38)
  exact World.news_of_block (w := (X.alloc (.cells #[a, b, c, d, e] 38)).drew) (cs := #[a, b, c, d, e]) h
theorem nd_one (a b d e : Value) (k : Option Addr) (m c : Nat) (ha : a.oneCell' = true) (hb : b.oneCell' = true) (hd : d.oneCell' = true) (he : e.oneCell' = true) : ∀ u ∈ [a, b, .slice k m c, d, e], u.oneCell' = true := by
  intro u hu
  simp only [List.mem_cons, List.not_mem_nil, or_false] at hu
  rcases hu with rfl | rfl | rfl | rfl | rfl
  · exact ha
  · exact hb
  · rfl
  · exact hd
  · exact he
theorem RS.added {W w1 : World} {i : Nat} {ns : List Nd} {nv : Value} {ks : List (Option Addr × Nat)} (hS : RS w0 rb srcV tokV U W i ns) (k1 : ks.length = ns.length) (k3 : ∀ j (h : j < ns.length) (h' : j < ks.length), IntsO W rb (.slice ks[j].1 ns[j].kids.length ks[j].2) ns[j].kids ∧ ∀ g, ks[j].1 = some ⟨g, 0, none⟩ → ¬ U g) (n : Nd) (ka : Option Addr) (kc : Nat) (hk : IntsO W rb (.slice ka n.kids.length kc) n.kids) (hkU : ∀ g, ka = some ⟨g, 0, none⟩ → ¬ U g)
    (hr0 : W.heap[rb]? = some (rdO srcV tokV i nv)) (hr1 : w1.heap[rb]? = some (rdO srcV tokV i nv)) (hkp : KeepR rb W w1) (hb : Below rb w0 w1) (g cap H : Nat) (hat : nv.ownBlock = some g ∨ g = H) (hH : W.heap.size ≤ H) (hown : w1.ownsRow (rb + 1) 38 5 (.slice (some ⟨g, 0, none⟩) (ns.length + 1) cap) (ns.length + 1) (ndsC ns ks ++ ndC n (ka, kc))) :
    RS w0 rb srcV tokV U (w1.setCell ⟨rb, 3, none⟩ (.slice (some ⟨g, 0, none⟩) (ns.length + 1) cap)) i (ns ++ [n]) ∧ KeepR rb W (w1.setCell ⟨rb, 3, none⟩ (.slice (some ⟨g, 0, none⟩) (ns.length + 1) cap)) := by
  generalize hv0 : (.slice (some ⟨g, 0, none⟩) (ns.length + 1) cap : Value) = v at *
  have hr2 : (w1.setCell ⟨rb, 3, none⟩ v).heap[rb]? = some (rdO srcV tokV i v) := by
    rw [heap_setCell_same w1 rb 3 _ 46 _ hr1]
    rfl
  have hkw : KeepR rb W (w1.setCell ⟨rb, 3, none⟩ v) := by
    refine ⟨by have := hkp.size; simp; omega, fun x hx hxr ho => ?_, ?_⟩
    · rw [heap_setCell_other w1 ⟨rb, 3, none⟩ x _ (by show x ≠ rb; omega)]
      exact hkp.same x hx hxr ho
    · rw [ownN_rd hr2, ownN_rd hr0, ← hv0]
      rcases hat with h | h
      · left
        rw [h]
        rfl
      · right
        exact ⟨g, rfl, by omega⟩
  refine ⟨⟨⟨v, hr2, ⟨ks ++ [(ka, kc)], by simp [k1], ?_, fun j hj hj' => ?_⟩⟩, ?_⟩, hkw⟩
  · rw [ndsC_snoc n (ka, kc) ns ks k1, List.length_append]
    obtain ⟨q1, q2⟩ := hown
    refine ⟨q1, ?_⟩
    rcases q2 with q2 | ⟨g, cap, cur, hv, hg, hh, hr⟩
    · exact .inl q2
    · refine .inr ⟨g, cap, cur, hv, hg, ?_, hr⟩
      rw [heap_setCell_other w1 ⟨rb, 3, none⟩ g _ (by show g ≠ rb; omega)]
      exact hh
  · by_cases hj2 : j < ns.length
    · have h1 := hS.ints (k3 j hj2 (by omega)).1 hkw
      have h2 := (k3 j hj2 (by omega)).2
      have e : (ks ++ [(ka, kc)])[j] = ks[j]'(by omega) := by simp [List.getElem_append, hj2, k1]
      have e2 : (ns ++ [n])[j] = ns[j] := by simp [List.getElem_append, hj2]
      rw [e, e2]
      exact ⟨h1, h2⟩
    · have hje : j = ns.length := by simp at hj; omega
      subst hje
      have h1 := hS.ints hk hkw
      have e : (ks ++ [(ka, kc)])[ns.length] = (ka, kc) := by simp [List.getElem_append, k1]
      have e2 : (ns ++ [n])[ns.length] = n := by simp
      rw [e, e2]
      exact ⟨h1, hkU⟩
  · exact Below.setCell (p := ⟨rb, 3, none⟩) hb (Nat.le_refl _) _
set_option maxRecDepth 100000 in
set_option maxHeartbeats 2000000 in
theorem add_any {W : World} {i : Nat} {ns : List Nd} (hS : RS w0 rb srcV tokV U W i ns) (kd ps num : Int) (nm : ByteArray) (kv : Value) (ka : Option Addr) (kc : Nat) (kids : List Int) (hk : IntsO W rb (.slice ka kids.length kc) kids) (hkU : ∀ g, ka = some ⟨g, 0, none⟩ → ¬ U g) (hn : ns.length ≤ 1000000) :
    Calls Tryz.prog 27 #[.pointer (some ⟨rb, 0, none⟩), .agg #[.int .i64 kd, .int .i64 ps, kv, .string nm, .int .i64 num], .slice ka kids.length kc] W fun e W' => e = .returned (.int .i64 ns.length) ∧ RS w0 rb srcV tokV U W' i (ns ++ [⟨kd, ps, kids, nm, num⟩]) ∧ KeepR rb W W' := by
  obtain ⟨i0, hi, hz0, hz1, hz2⟩ := info_parts infoNd
  obtain ⟨nv, hr, hN⟩ := hS.rd
  obtain ⟨c0, c1, c2, c3, hlt⟩ := rd_cells hr
  obtain ⟨ks, k1, k2, k3⟩ := hN.ex
  have HO : Bx (∀ W1, Below W.heap.size W W1 → W1.ownsRow (rb + 1) 38 5 nv ns.length (ndsC ns ks)) := ⟨fun W1 b => owns_bel k2 b⟩
  have f3 : W.frozen? ⟨rb, 3, none⟩ = false := by simp [World.frozen?, hr, rdO]
  have HG : Bx (∀ w1, ((W.alloc (.cells #[.int .i64 kd, .int .i64 ps, .slice ka kids.length kc, .string nm, .int .i64 num] 38)).alloc (.cells #[.int .i64 kd, .int .i64 ps, .slice ka kids.length kc, .string nm, .int .i64 num] 38)).drew.grownBy w1 nv.ownBlock → w1.heap[rb]? = some (rdO srcV tokV i nv) ∧ KeepR rb W w1 ∧ Below rb w0 w1) := ⟨fun w1 hg => by
    have hb2 : Below W.heap.size W ((W.alloc (.cells #[.int .i64 kd, .int .i64 ps, .slice ka kids.length kc, .string nm, .int .i64 num] 38)).alloc (.cells #[.int .i64 kd, .int .i64 ps, .slice ka kids.length kc, .string nm, .int .i64 num] 38)).drew := (((Below.refl _ _).alloc (Nat.le_refl _) _).alloc (by simp) _).drew
    have hne : ∀ x, some x = nv.ownBlock → rb + 1 ≤ x := fun x hx => (k2.lt x hx.symm).1
    have hr1 : w1.heap[rb]? = some (rdO srcV tokV i nv) := by
      rw [hg.block rb (by have := hb2.size; omega) (fun e => by have := hne rb e; omega), hb2.block rb hlt]
      exact hr
    refine ⟨hr1, ⟨?_, ?_, .inl (by rw [ownN_rd hr1, ownN_rd hr])⟩, ?_⟩
    · have := hb2.size
      have := hg.size
      omega
    · intro x hx hlx ho
      rw [ownN_rd hr] at ho
      rw [hg.block x (by have := hb2.size; omega) (fun e => ho e.symm), hb2.block x hx]
    · exact Below.grown (hS.bel.trans (hb2.mono (by omega))) hg (by have := hb2.size; omega) (fun x hx => by have := hne x hx.symm; omega)⟩
  have HF : Bx (∀ g cap w1, w1.heap[rb]? = some (rdO srcV tokV i nv) → KeepR rb W w1 → Below rb w0 w1 → (nv.ownBlock = some g ∨ g = W.heap.size + 2) → w1.ownsRow (rb + 1) 38 5 (.slice (some ⟨g, 0, none⟩) (ns.length + 1) cap) (ns.length + 1) (ndsC ns ks ++ [.int .i64 kd, .int .i64 ps, .slice ka kids.length kc, .string nm, .int .i64 num]) → RS w0 rb srcV tokV U (w1.setCell ⟨rb, 3, none⟩ (.slice (some ⟨g, 0, none⟩) (ns.length + 1) cap)) i (ns ++ [⟨kd, ps, kids, nm, num⟩]) ∧ KeepR rb W (w1.setCell ⟨rb, 3, none⟩ (.slice (some ⟨g, 0, none⟩) (ns.length + 1) cap))) := ⟨fun g cap w1 h1 h2 h3 h4 h5 => RS.added hS k1 k3 ⟨kd, ps, kids, nm, num⟩ ka kc hk hkU hr h1 h2 h3 g cap _ h4 (by omega) h5⟩
  clear hS hr hN k3 hk k2 hkU
  go_enter Tryz.func27, Tryz.ntmps27
  go_wp2
  go_region_law (refine step_append_lies _ rfl (.tmp 13) (.tmp 15) 24 rfl (rb + 1) 38 i0 zeroNd 5 64 Tryz.underlying24 hi hz0 hz1 hz2 rfl (by decide) nv ns.length (ndsC ns ks) (by simp [Act.eval, Act.put]) (HO.out _ ((((Below.refl _ _).alloc (Nat.le_refl _) _).alloc (by simp) _).drew)) ⟨W.heap.size + 1, 0, none⟩ 1 1 [.int .i64 kd, .int .i64 ps, .slice ka kids.length kc, .string nm, .int .i64 num] (by simp [Act.eval, Act.put]) rfl (nd_news _ _ (by simp) _ _ _ _ _) (nd_one _ _ _ _ _ _ _ rfl rfl rfl rfl) (by omega) (by unfold maxLen; omega) (by omega) (by simp; omega) (W.heap.size + 2) (by simp) ?_; intro g cap w1 hown hgrow hat hlt1; obtain ⟨hr1, hkp1, hb1⟩ := HG.out w1 hgrow; obtain ⟨d0, d1, d2, d3, dlt⟩ := rd_cells hr1; have g3 : w1.frozen? ⟨rb, 3, none⟩ = false := (by simp [World.frozen?, hr1, rdO]); have HW := HF.out g cap w1 hr1 hkp1 hb1 hat hown; have HWB : Bx _ := ⟨HW⟩; clear hgrow hat hown HW hr1)
  all_goals
    go_wp2
    go_ret
    exact ⟨by first | rfl | go_num | (congr 2; omega), HWB.out⟩
end Go.Proofs.YtblhklbpcalglaaGreatDoor
namespace Go.Proofs.YtblhklbpcalglaaGreatDoor
open Go.RowKit
set_option linter.unusedVariables false
set_option linter.unusedSimpArgs false
variable {w0 : World} {rb : Nat} {srcV tokV : Value} {TL : List Tok} {xs : List UInt8} {U : Nat → Prop}
theorem box4 {W : World} {x : Nat} {a b c d : Value} (h : W.heap[x]? = some (.cells #[a, b, c, d] 34 (0, 0))) : W.cell? ⟨x, 0, none⟩ = some a ∧ W.cell? ⟨x, 1, none⟩ = some b ∧ W.cell? ⟨x, 2, none⟩ = some c ∧ W.cell? ⟨x, 3, none⟩ = some d ∧ W.frozen? ⟨x, 0, none⟩ = false ∧ W.frozen? ⟨x, 1, none⟩ = false ∧ W.frozen? ⟨x, 2, none⟩ = false ∧ W.frozen? ⟨x, 3, none⟩ = false ∧ x < W.heap.size := by
  refine ⟨?_, ?_, ?_, ?_, ?_, ?_, ?_, ?_, heapLt h⟩ <;> simp [World.cell?, World.frozen?, h]
theorem kind_end {W W1 : World} {i : Nat} {ns : List Nd} (h : RS w0 rb srcV tokV U W i ns) (b : Below W.heap.size W W1) (hlt : W.heap.size < W1.heap.size) (a1 a2 a3 a4 : Value) (o : Obj) :
    RS w0 rb srcV tokV U ((((((W1.setCell ⟨rb, 2, none⟩ (.int .i64 ((i : Int) + 1))).setCell ⟨W.heap.size, 0, none⟩ a1).setCell ⟨W.heap.size, 1, none⟩ a2).setCell ⟨W.heap.size, 2, none⟩ a3).setCell ⟨W.heap.size, 3, none⟩ a4).alloc o) (i + 1) ns ∧ KeepR rb W ((((((W1.setCell ⟨rb, 2, none⟩ (.int .i64 ((i : Int) + 1))).setCell ⟨W.heap.size, 0, none⟩ a1).setCell ⟨W.heap.size, 1, none⟩ a2).setCell ⟨W.heap.size, 2, none⟩ a3).setCell ⟨W.heap.size, 3, none⟩ a4).alloc o) := by
  have hrW : rb < W.heap.size := by
    obtain ⟨nv, h, _⟩ := h.rd
    exact heapLt h
  have hs := (h.ext b)
  have b1 : Below rb w0 (W1.setCell ⟨rb, 2, none⟩ (.int .i64 ((i : Int) + 1))) := Below.setCell (p := ⟨rb, 2, none⟩) hs.bel (Nat.le_refl _) _
  have b2 := Below.setCell (p := ⟨W.heap.size, 0, none⟩) b1 (by show rb ≤ W.heap.size; omega) a1
  have b3 := Below.setCell (p := ⟨W.heap.size, 1, none⟩) b2 (by show rb ≤ W.heap.size; omega) a2
  have b4 := Below.setCell (p := ⟨W.heap.size, 2, none⟩) b3 (by show rb ≤ W.heap.size; omega) a3
  have b5 := Below.setCell (p := ⟨W.heap.size, 3, none⟩) b4 (by show rb ≤ W.heap.size; omega) a4
  have low : ∀ x, x < W.heap.size → ((((((W1.setCell ⟨rb, 2, none⟩ (.int .i64 ((i : Int) + 1))).setCell ⟨W.heap.size, 0, none⟩ a1).setCell ⟨W.heap.size, 1, none⟩ a2).setCell ⟨W.heap.size, 2, none⟩ a3).setCell ⟨W.heap.size, 3, none⟩ a4).alloc o).heap[x]? = (W1.setCell ⟨rb, 2, none⟩ (.int .i64 ((i : Int) + 1))).heap[x]? := fun x hx => by
    rw [(below1 _ o).block x (by simp; omega), heap_setCell_other _ ⟨W.heap.size, 3, none⟩ x _ (by show x ≠ W.heap.size; omega), heap_setCell_other _ ⟨W.heap.size, 2, none⟩ x _ (by show x ≠ W.heap.size; omega), heap_setCell_other _ ⟨W.heap.size, 1, none⟩ x _ (by show x ≠ W.heap.size; omega), heap_setCell_other _ ⟨W.heap.size, 0, none⟩ x _ (by show x ≠ W.heap.size; omega)]
  refine h.upd (by simp; omega) (fun x hx hne => ?_) (fun nv hr => ?_) (b5.alloc (by simp; omega) _)
  · rw [low x hx, heap_setCell_other W1 ⟨rb, 2, none⟩ x _ (by show x ≠ rb; omega), b.block x hx]
  · rw [low rb hrW]
    have hr1 : W1.heap[rb]? = some (rdO srcV tokV i nv) := by rw [b.block rb hrW]; exact hr
    rw [heap_setCell_same W1 rb 2 _ 46 _ hr1]
    rfl
set_option maxRecDepth 100000 in
set_option maxHeartbeats 1000000 in
theorem wantKind_any (hT : RT w0 rb srcV tokV TL xs) {W : World} {i : Nat} {ns : List Nd} (hS : RS w0 rb srcV tokV U W i ns) (hi : i < TL.length) (c : Nat) :
    Calls Tryz.prog 51 #[.pointer (some ⟨rb, 0, none⟩), .int .i64 c] W fun e W' => (TL[i].kind = c ∧ e = .returned (Go.Proofs.YtblhklbpcalglaaGreatDoor.tokV TL[i]) ∧ RS w0 rb srcV tokV U W' (i + 1) ns ∧ KeepR rb W W') ∨ (TL[i].kind ≠ c ∧ e = faultP TL[i].place ∧ Below rb w0 W') := by
  have HN : Bx (∀ W1, Below W.heap.size W W1 → Calls Tryz.prog 33 #[.pointer (some ⟨rb, 0, none⟩)] W1 fun e W' => e = .returned (Go.Proofs.YtblhklbpcalglaaGreatDoor.tokV TL[i]) ∧ Below W1.heap.size W1 W') := ⟨fun W1 b => rnext_any hT (hS.ext b) hi⟩
  have b0 : ∀ o, Below W.heap.size W (W.alloc o) := fun o => below1 W o
  have HR : Bx (∀ W1, Below W.heap.size W W1 → _) := ⟨fun W1 b => refuse_any hT (hS.ext b) hi⟩
  have HC : Bx (∀ W1, Below W.heap.size W W1 → ∃ nv, W1.heap[rb]? = some (rdO srcV tokV i nv)) := ⟨fun W1 b => by
    obtain ⟨nv, h, _⟩ := (hS.ext b).rd
    exact ⟨nv, h⟩⟩
  have HE : Bx (∀ W1, Below W.heap.size W W1 → W.heap.size < W1.heap.size → ∀ a1 a2 a3 a4 o, _) := ⟨fun W1 b hl a1 a2 a3 a4 o => kind_end hS b hl a1 a2 a3 a4 o⟩
  have hsm := hT.small
  have hrW : rb < W.heap.size := by
    obtain ⟨nv, h, _⟩ := hS.rd
    exact heapLt h
  unfold Go.Proofs.YtblhklbpcalglaaGreatDoor.tokV at HN ⊢
  have hf0 := tok_f0
  generalize TL[i] = t at *
  clear hS hT
  generalize TL.length = n at *
  by_cases hk : t.kind = c
  · have d0 : ((t.kind : Int) != (c : Int)) = false := by rw [bne_eq_false_iff_eq]; omega
    go_enter Tryz.func51, Tryz.ntmps51
    go_wp2_with (first
      | (go_at_call 33; refine Calls.mono (HN.out _ (b0 _)) ?_; rintro e W1 ⟨rfl, b1'⟩; have b1 := (b0 _).trans (b1'.mono (b0 _).size); obtain ⟨nv, hr⟩ := HC.out W1 b1; obtain ⟨c0, c1, c2, c3, hlt⟩ := rd_cells hr; have hfz : W1.frozen? ⟨rb, 2, none⟩ = false := (by simp [World.frozen?, hr, rdO]); clear hr; have hR : W1.heap[W.heap.size]? = some (.cells #[.int .i64 0, .int .i64 0, .int .i64 0, .int .i64 0] 34 (0, 0)) := (by rw [b1'.block _ (by simp)]; exact heap_alloc_new W _); obtain ⟨p0, p1, p2, p3, z0, z1, z2, z3, plt⟩ := box4 hR; clear hR))
    refine bodyPost_ret (v := .agg #[.int .i64 t.kind, .int .i64 t.place, .int .i64 t.len, .int .i64 t.num]) (by subst hk; simp [results, Tryz.results51, go_sem, p0, p1, p2, p3, plt, Nat.ne_of_lt plt]) rfl (.inl ⟨hk, rfl, HE.out _ b1 plt _ _ _ _ _⟩)
  · have d0 : ((t.kind : Int) != (c : Int)) = true := by rw [bne_iff_ne]; omega
    go_enter Tryz.func51, Tryz.ntmps51
    go_wp2_with (first
      | (go_at_call 33; refine Calls.mono (HN.out _ (b0 _)) ?_; rintro e W1 ⟨rfl, b1'⟩; have b1 := (b0 _).trans (b1'.mono (b0 _).size))
      | (go_at_call 50; refine Calls.mono (HR.out _ (b1.trans ((below1 _ _).mono b1.size))) ?_; rintro e W2 ⟨rfl, b2⟩; unfold faultP))
    exact ⟨rfl, .inr ⟨hk, rfl, b2⟩⟩
end Go.Proofs.YtblhklbpcalglaaGreatDoor
