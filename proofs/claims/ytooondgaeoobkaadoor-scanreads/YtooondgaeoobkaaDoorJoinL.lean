import Derived.Test.YtooondgaeoobkaaDoorJoinP
import Derived.Lib.AppendStr
import Derived.Laws.AppendOwnNone
import Derived.Deep.RegionHeldLaw
import Derived.Deep.DrawnRows
import Derived.Deep.AppendLies
namespace Go.Proofs.YtooondgaeoobkaaDoor
open Go.RowKit
set_option linter.unusedVariables false
set_option linter.unusedSimpArgs false

def bC (ys : List UInt8) : List Value := ys.map fun c => Value.int .u8 (c.toNat : Int)
theorem bC_append (a b : List UInt8) : bC (a ++ b) = bC a ++ bC b := by unfold bC; simp
theorem bC_one (ys : List UInt8) : ∀ u ∈ bC ys, u.oneCell' = true := by
  intro u hu
  unfold bC at hu
  obtain ⟨c, _, rfl⟩ := List.mem_map.1 hu
  rfl
/-- bytes that the call itself made -/
structure OwnB (w : World) (B g n cp : Nat) (ys : List UInt8) : Prop where
  row : w.ownsRow B 5 1 (.slice (some ⟨g, 0, none⟩) n cp) n (bC ys)
theorem OwnB.len {w : World} {B g n cp : Nat} {ys : List UInt8} (h : OwnB w B g n cp ys) : ys.length = n := by
  have := h.row.1
  unfold bC at this
  simpa using this
theorem OwnB.lt {w : World} {B g n cp : Nat} {ys : List UInt8} (h : OwnB w B g n cp ys) : B ≤ g ∧ g < w.heap.size := h.row.lt g rfl
theorem OwnB.below {w w' : World} {B g n cp : Nat} {ys : List UInt8} (h : OwnB w B g n cp ys) (hb : Below w.heap.size w w') : OwnB w' B g n cp ys := ⟨owns_below h.row hb⟩
theorem OwnB.cap {w : World} {B g n cp : Nat} {ys : List UInt8} (h : OwnB w B g n cp ys) : n ≤ cp ∧ cp ≤ maxLen := by
  rcases h.row.2 with ⟨e, _⟩ | ⟨g', c', cur, hv, _, _, h3, h4, _⟩
  · cases e
  · injection hv with h1 h2 h5
    subst h5
    exact ⟨h3, h4⟩
theorem OwnB.src {w : World} {B g n cp : Nat} {ys : List UInt8} (h : OwnB w B g n cp ys) : IsSrc w (some ⟨g, 0, none⟩) cp ys := by
  have hl := h.len
  have hc := h.cap
  refine ⟨fun h0 => ⟨g, 0, rfl, h.lt.2, fun i hi => ?_⟩, by omega, by omega⟩
  have := h.row.cellAt i (by omega)
  rw [Nat.zero_add, this]
  unfold bC
  simp [hi]
theorem OwnB.made (w : World) (B : Nat) (hB : B ≤ w.heap.size) : OwnB (w.alloc (.cells #[] 5)) B w.heap.size 0 0 [] :=
  ⟨World.ownsRow_made w #[] 0 hB (Nat.zero_le _) rfl⟩
theorem info5 : (Tryd.prog.info? 5).map (fun i => (i.zero, i.size, i.bytes)) = some (some (.int .u8 0), 1, 1) := by kernel_rfl

theorem own_form {w w' : World} {B g n cp m : Nat} {v' : Value} {ys xs : List UInt8} (h : OwnB w B g n cp ys) (hown : w'.ownsRow B 5 1 v' (n + m) (bC ys ++ bC xs)) (hg : w.grownBy w' (Value.slice (some ⟨g, 0, none⟩) n cp).ownBlock) (hB : B ≤ w.heap.size) (hne : v' ≠ .slice none 0 0) :
    ∃ g' cp', v' = .slice (some ⟨g', 0, none⟩) (n + m) cp' ∧ OwnB w' B g' (n + m) cp' (ys ++ xs) ∧ Below B w w' := by
  have hbl : Below B w w' := (Below.refl B w).grown hg hB (fun k hk => by
    have : g = k := by simpa [Value.ownBlock] using hk
    have := h.lt; omega)
  rcases hown.2 with ⟨e, _⟩ | ⟨g', c', cur, hv, r⟩
  · exact absurd e hne
  · subst hv
    exact ⟨g', c', rfl, ⟨by rw [bC_append]; exact hown⟩, hbl⟩

theorem app_src {ops : Array Oper} {rest : List Oper} {op : Oper} {a : Act} {Q : Exit → Act → World → Prop} {w : World} (hgd : op.guard = none) (s x : Operand)
    (ho : op.op = .call { callee := .builtin .append, args := #[s, x], argTypes := #[26, 26] }) (B g n cp : Nat) (ys : List UInt8) (hs : a.eval s = .slice (some ⟨g, 0, none⟩) n cp) (hown : OwnB w B g n cp ys)
    (ax : Option Addr) (capx : Nat) (xs : List UInt8) (hx : a.eval x = .slice ax xs.length capx) (hsrc : IsSrc w ax capx xs) (hnil : ax = none → capx = 0) (hsz : n + xs.length ≤ 1000000) (hB : B ≤ w.heap.size)
    (h : ∀ g' cp' w', OwnB w' B g' (n + xs.length) cp' (ys ++ xs) → Below B w w' → wpList Tryd.prog ops Q rest (a.put op.dst (.slice (some ⟨g', 0, none⟩) (n + xs.length) cp')) w') : wpList Tryd.prog ops Q (op :: rest) a w := by
  obtain ⟨i0, hi, hz0, hz1, hz2⟩ := info_parts info5
  cases ax with
  | none =>
    have h0 : xs.length = 0 := by
      rcases Nat.eq_zero_or_pos xs.length with e | e
      · exact e
      · obtain ⟨b, o, he, _⟩ := hsrc.at_ e; cases he
    have hc := hnil rfl
    have hxs : xs = [] := List.eq_nil_of_length_eq_zero h0
    subst hxs
    subst hc
    refine wpList_append_own_none hgd s x 26 ho B 5 i0 1 Tryd.underlying26 hi _ n (bC ys) hs hown.row hx ?_
    exact h g cp w (by simpa using hown) (Below.refl _ _)
  | some ad =>
    have hnews : ∀ j u, (bC xs)[j]? = some u → w.cell? (ad.add j) = some u := by
      intro j u hu
      have hj : j < xs.length := by
        rcases Nat.lt_or_ge j xs.length with e | e
        · exact e
        · rw [List.getElem?_eq_none (by unfold bC; simpa using e)] at hu; cases hu
      obtain ⟨b, o, he, _, hc⟩ := hsrc.at_ (by omega)
      injection he with he
      subst he
      have e : (⟨b, o, none⟩ : Addr).add j = ⟨b, o + j, none⟩ := by unfold Addr.add; split <;> simp_all
      rw [e, hc j hj]
      unfold bC at hu
      simpa [hj] using hu
    refine wpList_append_own_at w hgd s x 26 ho B 5 i0 (.int .u8 0) 1 1 Tryd.underlying26 hi hz0 hz1 hz2 rfl (by omega) _ n (bC ys) hs hown.row ad xs.length capx (bC xs) hx (by unfold bC; simp) hnews (bC_one xs) (by unfold maxLen; omega) (by omega) hB ?_
    intro v' w' h1 h2 h3 _
    obtain ⟨g', cp', rfl, h4, h5⟩ := own_form hown h1 h2 hB (fun e => by have := (h3.1 e).1; cases this)
    exact h g' cp' w' h4 h5

theorem app_one {ops : Array Oper} {rest : List Oper} {op : Oper} {a : Act} {Q : Exit → Act → World → Prop} {w : World} (hgd : op.guard = none) (s x : Operand)
    (ho : op.op = .call { callee := .builtin .append, args := #[s, x], argTypes := #[26, 26] }) (B g n cp : Nat) (ys : List UInt8) (hs : a.eval s = .slice (some ⟨g, 0, none⟩) n cp) (hown : OwnB w B g n cp ys)
    (N : Nat) (c : UInt8) (hx : a.eval x = .slice (some ⟨N, 0, none⟩) 1 1) (hc : w.cell? ⟨N, 0, none⟩ = some (.int .u8 (c.toNat : Int))) (hsz : n + 1 ≤ 1000000) (hB : B ≤ w.heap.size)
    (h : ∀ g' cp' w', OwnB w' B g' (n + 1) cp' (ys ++ [c]) → Below B w w' → wpList Tryd.prog ops Q rest (a.put op.dst (.slice (some ⟨g', 0, none⟩) (n + 1) cp')) w') : wpList Tryd.prog ops Q (op :: rest) a w := by
  obtain ⟨i0, hi, hz0, hz1, hz2⟩ := info_parts info5
  have hnews : ∀ j u, (bC [c])[j]? = some u → w.cell? ((⟨N, 0, none⟩ : Addr).add j) = some u := by
    intro j u hu
    match j with
    | 0 =>
      have : u = .int .u8 (c.toNat : Int) := by simpa [bC] using hu.symm
      subst this
      simpa [Addr.add] using hc
    | j + 1 => simp [bC] at hu
  refine wpList_append_own_at w hgd s x 26 ho B 5 i0 (.int .u8 0) 1 1 Tryd.underlying26 hi hz0 hz1 hz2 rfl (by omega) _ n (bC ys) hs hown.row ⟨N, 0, none⟩ 1 1 (bC [c]) hx rfl hnews (bC_one [c]) (by unfold maxLen; omega) (by omega) hB ?_
  intro v' w' h1 h2 h3 _
  obtain ⟨g', cp', rfl, h4, h5⟩ := own_form hown h1 h2 hB (fun e => by have := (h3.1 e).1; cases this)
  exact h g' cp' w' h4 h5

theorem app_str {ops : Array Oper} {rest : List Oper} {op : Oper} {a : Act} {Q : Exit → Act → World → Prop} {w : World} (hgd : op.guard = none) (s x : Operand)
    (ho : op.op = .call { callee := .builtin .append, args := #[s, x], argTypes := #[26, 9] }) (B g n cp : Nat) (ys : List UInt8) (hs : a.eval s = .slice (some ⟨g, 0, none⟩) n cp) (hown : OwnB w B g n cp ys)
    (l : List UInt8) (m : Nat) (hm : l.length = m) (hx : a.eval x = .string ⟨l.toArray⟩) (hsz : n + m ≤ 1000000) (hB : B ≤ w.heap.size)
    (h : ∀ g' cp' w', OwnB w' B g' (n + m) cp' (ys ++ l) → Below B w w' → wpList Tryd.prog ops Q rest (a.put op.dst (.slice (some ⟨g', 0, none⟩) (n + m) cp')) w') : wpList Tryd.prog ops Q (op :: rest) a w := by
  obtain ⟨i0, hi, hz0, hz1, hz2⟩ := info_parts info5
  subst hm
  have hz : (⟨l.toArray⟩ : ByteArray).size = l.length := by simp [ByteArray.size]
  refine Lib.wpList_append_own_string w hgd s x 26 9 ho B 5 i0 Tryd.underlying26 Tryd.underlying9 hi hz0 hz1 hz2 _ n (bC ys) hs hown.row ⟨l.toArray⟩ hx (by rw [hz]; unfold maxLen; omega) (by rw [hz]; omega) hB ?_
  intro v' w' h1 h2 h3
  rw [hz] at h1
  obtain ⟨g', cp', rfl, h4, h5⟩ := own_form (xs := l) hown h1 h2 hB (fun e => by have := (h3.1 e).1; cases this)
  exact h g' cp' w' h4 h5

theorem step_app {ops : Array Oper} {op : Oper} {a : Act} {K : Act → World → Prop} {Q : Exit → Act → World → Prop} {E : Prop} {w : World} (hgd : op.guard = none) (s x : Operand)
    (ho : op.op = .call { callee := .builtin .append, args := #[s, x], argTypes := #[26, 26] }) (B g n cp : Nat) (ys : List UInt8) (hs : a.eval s = .slice (some ⟨g, 0, none⟩) n cp) (hown : OwnB w B g n cp ys)
    (b o m c : Nat) (xs : List UInt8) (hx : a.eval x = .slice (some ⟨b, o, none⟩) m c) (hm : xs.length = m) (h0 : 0 < m) (hsrc : Src w b o xs) (hsz : n + m ≤ 1000000) (hB : B ≤ w.heap.size)
    (h : ∀ g' cp' w', OwnB w' B g' (n + m) cp' (ys ++ xs) → Below B w w' → K (a.put op.dst (.slice (some ⟨g', 0, none⟩) (n + m) cp')) w') :
    if Region.wanted op (yielded ops a.tmps) = true then Oper.wp Tryd.prog op a w K Q else E := by
  obtain ⟨i0, hi, hz0, hz1, hz2⟩ := info_parts info5
  have hnews : ∀ j u, (bC xs)[j]? = some u → w.cell? ((⟨b, o, none⟩ : Addr).add j) = some u := by
    intro j u hu
    have hj : j < xs.length := by
      rcases Nat.lt_or_ge j xs.length with e | e
      · exact e
      · rw [List.getElem?_eq_none (by unfold bC; simpa using e)] at hu; cases hu
    have e : (⟨b, o, none⟩ : Addr).add j = ⟨b, o + j, none⟩ := by unfold Addr.add; split <;> simp_all
    rw [e, hsrc j hj]
    unfold bC at hu
    simpa [hj] using hu
  refine step_append_lies w hgd s x 26 ho B 5 i0 (.int .u8 0) 1 1 Tryd.underlying26 hi hz0 hz1 hz2 rfl (by omega) _ n (bC ys) hs hown.row ⟨b, o, none⟩ m c (bC xs) hx (by unfold bC; simp [hm]) hnews (bC_one xs) h0 (by unfold maxLen; omega) (by omega) hB _ rfl ?_
  intro g' cp' w' h1 h2 _ _
  obtain ⟨g'', cp'', e, h4, h5⟩ := own_form hown h1 h2 hB (fun e => by cases e)
  cases e
  exact h g' cp' w' h4 h5

/-- tokens that Scan answered -/
structure TokX (w : World) (x : Option Addr) (cp : Nat) (l : List Tok) : Prop where
  at_ : 0 < l.length → ∃ g, x = some ⟨g, 0, none⟩ ∧ Toks w g l
  cap : l.length ≤ cp
theorem TokX.later {w w' : World} {x : Option Addr} {cp : Nat} {l : List Tok} (h : TokX w x cp l) (hb : Below w.heap.size w w') : TokX w' x cp l :=
  ⟨fun h0 => by obtain ⟨g, e, ht⟩ := h.at_ h0; exact ⟨g, e, ht.later hb⟩, h.cap⟩
theorem tokX_of_owns {w : World} {B : Nat} {v : Value} {l : List Tok} (h : w.ownsRow B 40 4 v l.length (toksC l)) : ∃ x cp, v = .slice x l.length cp ∧ TokX w x cp l := by
  by_cases hn : 0 < l.length
  · obtain ⟨g, cp, hv, _, h3, hT⟩ := toks_of_owns h hn
    exact ⟨_, cp, hv, fun _ => ⟨g, rfl, hT⟩, h3⟩
  · have h0 : l.length = 0 := by omega
    rw [h0] at h ⊢
    obtain ⟨x, cp, hv⟩ := owns_zero h
    exact ⟨x, cp, hv, fun e => absurd e hn, by omega⟩
theorem Scan_x (a : Option Addr) (cap : Nat) (xs : List UInt8) (w : World) (hs : IsSrc w a cap xs) (hL : Laid w) (n : Nat) (hn : n = xs.length) :
    Calls Tryd.prog 13 #[.slice a n cap] w fun e w' => ∃ x cp, e = .returned (.tuple #[.slice x (scanAll xs).1.length cp, .agg #[.int .i64 (scanAll xs).2.1, .int .i64 (scanAll xs).2.2]]) ∧ TokX w' x cp (scanAll xs).1 ∧ Below w.heap.size w w' := by
  subst hn
  refine (Scan_any a cap xs w hs hL).mono ?_
  rintro e w' ⟨v, rfl, hown, hbl⟩
  obtain ⟨x, cp, rfl, hT⟩ := tokX_of_owns hown
  exact ⟨x, cp, rfl, hT, hbl⟩
theorem wideS_append (one : List UInt8) : ∀ (l r : List Tok), wideS one (l ++ r) = wideS one l ++ wideS one r
  | [], r => rfl
  | t :: l, r => by simp only [List.cons_append, wideS, wideS_append one l r]; simp
theorem wide_len (one : List UInt8) : ∀ (l : List Tok) (k : Nat), k ≤ one.length → Covers one k l → (wideS one l).length + k ≤ 5 * l.length + one.length
  | [], k, hk, _ => by simp [wideS]; omega
  | t :: r, k, hk, h => by
    obtain ⟨q1, q2, q3, q4⟩ := h
    have hlen := nextR_len one t.place q2 (by rw [q3])
    rw [q3] at hlen
    simp only at hlen
    have ih := wide_len one r (t.place + t.len) hlen.2 q4
    have hcl : (cut one t.place (t.place + t.len)).length = t.len := by rw [cut_len _ _ _ hlen.2]; omega
    have hkp := (skipTo_le one k hk).1
    simp only [wideS, List.length_append, hcl, sepB, List.length_cons, List.length_nil] at ih ⊢
    omega
theorem wide_step (one : List UInt8) (l : List Tok) (j : Nat) (h : j < l.length) : wideS one (l.take (j + 1)) = wideS one (l.take j) ++ [9, 35, 32, 59] ++ [10] ++ cut one l[j].place (l[j].place + l[j].len) := by
  rw [List.take_succ_eq_append_getElem h, wideS_append]
  simp [wideS, sepB]
theorem wide_pre (one : List UInt8) (l : List Tok) (j : Nat) : (wideS one (l.take j)).length ≤ (wideS one l).length := by
  have : wideS one l = wideS one (l.take j) ++ wideS one (l.drop j) := by rw [← wideS_append, List.take_append_drop]
  rw [this]; simp
theorem covers_get (xs : List UInt8) : ∀ (l : List Tok) (k j : Nat) (hk : k ≤ xs.length) (h : j < l.length), Covers xs k l → 1 ≤ l[j].len ∧ l[j].place + l[j].len ≤ xs.length
  | t :: r, k, 0, hk, h, hc => by
    obtain ⟨q1, q2, q3, q4⟩ := hc
    have hlen := nextR_len xs t.place q2 (by rw [q3])
    rw [q3] at hlen
    exact hlen
  | t :: r, k, j + 1, hk, h, hc => by
    obtain ⟨q1, q2, q3, q4⟩ := hc
    have hlen := nextR_len xs t.place q2 (by rw [q3])
    rw [q3] at hlen
    exact covers_get xs r _ j hlen.2 (by simpa using h) q4
end Go.Proofs.YtooondgaeoobkaaDoor
