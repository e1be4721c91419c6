import Derived.Test.YtecodpdfckjalaaGreatDoorCTCurA
import Derived.Test.YtecodpdfckjalaaGreatDoorCPW
import Derived.Test.YtecodpdfckjalaaGreatDoorCNext
namespace Go.Proofs.YtecodpdfckjalaaGreatDoor
open Go.RowKit
set_option linter.unusedVariables false
set_option linter.unusedSimpArgs false

/-- the row of the firsts -/
def FirstsAt (w : World) (fb : Nat) (fs : List Nat) : Prop := ∀ j, j < fs.length → w.cell? ⟨fb, j, none⟩ = some (.int .i64 (fs.getD j 0 : Nat))

theorem rev_take {kids : List Int} {m : Nat} (h : m < kids.length) : (kids.take (m + 1)).reverse = kids[m] :: (kids.take m).reverse := by
  rw [List.take_succ_eq_append_getElem h]
  simp

set_option maxHeartbeats 1000000 in
theorem inOrder_any (kids : List Int) (fs : List Nat) (ka : Option Addr) (kc fb N fc B : Nat) (w : World) (hk : IntsV w B (.slice ka kids.length kc) kids) (hf : FirstsAt w fb fs) (hle : ∀ j, j < fs.length → fs.getD j 0 ≤ j) (hN : fs.length ≤ N) (hNm : N ≤ maxLen) :
    Calls Tryz.prog 25 #[.slice ka kids.length kc, .slice (some ⟨fb, 0, none⟩) N fc, .int .i64 fs.length] w fun e w' => e = .returned (.bool (orderI fs fs.length kids)) ∧ w = w' := by
  obtain ⟨a, cap, he, h1, h2, h3⟩ := hk.ex
  simp only [Value.slice.injEq, true_and] at he
  obtain ⟨rfl, rfl⟩ := he
  clear hk
  unfold maxLen at *
  generalize hF : orderI fs fs.length kids = F
  have HF : Bx _ := ⟨hF⟩
  clear hF
  go_enter Tryz.func25, Tryz.ntmps25
  go_wp2
  go_loop [7, 8] (fun x i => ∃ m nx : Nat, m ≤ kids.length ∧ nx ≤ fs.length ∧ x = .int .i64 nx ∧ i = .int .i64 ((m : Int) - 1) ∧ Bx (orderGo fs nx (kids.take m).reverse = F)) (fun _ i => ((intOf i) + 1).toNat)
  case atStart => exact ⟨kids.length, fs.length, Nat.le_refl _, Nat.le_refl _, rfl, by go_num, ⟨by rw [← HF.out]; unfold orderI; simp⟩⟩
  case round =>
    obtain ⟨m, nx, hm, hnx, rfl, rfl, HO⟩ := hrel
    match m, hm, HO with
    | 0, hm, HO =>
      go_wp2
      go_ret
      exact ⟨ret_bool (by rw [← HO.out]; rfl), rfl⟩
    | m + 1, hm, HO =>
      obtain ⟨b, o, rfl, hbB, hcell⟩ := h3 (by omega)
      have hc := hcell m (by omega)
      have HO' : Bx (orderGo fs nx (kids[m] :: (kids.take m).reverse) = F) := ⟨by rw [← rev_take (by omega)]; exact HO.out⟩
      have hm1 : ((m + 1 : Nat) : Int) - 1 = (m : Int) := by omega
      rw [hm1]
      generalize hx : kids[m] = x at *
      clear HO hcell h3 hm1 hx
      by_cases e1 : x = (nx : Int) - 1
      · subst e1
        by_cases e2 : nx = 0
        · subst e2
          go_wp2
          go_ret
          exact ⟨ret_bool (by rw [← HO'.out]; rfl), rfl⟩
        · obtain ⟨y, rfl⟩ : ∃ y, nx = y + 1 := ⟨nx - 1, by omega⟩
          have hy : ((y + 1 : Nat) : Int) - 1 = (y : Int) := by omega
          rw [hy] at hc HO'
          have hcf := hf y (by omega)
          have hly := hle y (by omega)
          have HO2 : Bx (orderGo fs (fs.getD y 0) (kids.take m).reverse = F) := ⟨by rw [← HO'.out, orderGo]; rw [if_pos ⟨by omega, by omega⟩]; simp⟩
          clear HO' hf hle
          generalize fs.getD y 0 = z at *
          go_wp2
          go_round
          case rel => exact ⟨m, z, by omega, by omega, rfl, by go_num, HO2⟩
          case measure => simp [intOf]
      · have e3 : (x != (nx : Int) - 1) = true := by rw [bne_iff_ne]; exact e1
        have HO2 : Bx (false = F) := ⟨by rw [← HO'.out, orderGo]; rw [if_neg (fun h => e1 h.1)]⟩
        clear HO' hf hle
        go_wp2
        go_ret
        exact ⟨ret_bool HO2.out, rfl⟩
end Go.Proofs.YtecodpdfckjalaaGreatDoor
namespace Go.Proofs.YtecodpdfckjalaaGreatDoor
open Go.RowKit
set_option linter.unusedVariables false
set_option linter.unusedSimpArgs false

/-- a text that is one token, a name, from its first byte to its last -/
def nameToks (n : Nat) : List Tok → Bool
  | [t] => ((t.kind : Int) == 1) && ((t.len : Int) == (n : Int))
  | _ => false
def nameOk (xs : List UInt8) : Bool := nameToks xs.length (scanAll xs).1

theorem bl (s : ByteArray) : s.data.toList.length = s.size := by rw [Array.length_toList]; rfl
theorem src_bytes (w : World) (s : ByteArray) : Src (Lib.bytesWorld w 5 s) w.heap.size 0 s.data.toList := by
  intro i hi
  rw [Nat.zero_add, Lib.bytesWorld_cell _ _ _ _ (by rw [← bl]; exact hi)]
  rw [List.getD_eq_getElem?_getD, List.getElem?_eq_getElem hi]
  rfl

theorem owns_first {w : World} {B : Nat} {v : Value} {ts : List Tok} (h : w.ownsRow B 62 4 v ts.length (toksC ts)) :
    ∃ a cap, v = .slice a ts.length cap ∧ ∀ t, ts = [t] → ∃ g, a = some ⟨g, 0, none⟩ ∧ g < w.heap.size ∧ w.cell? ⟨g, 0, none⟩ = some (.int .i64 t.kind) ∧ w.cell? ⟨g, 2, none⟩ = some (.int .i64 t.len) := by
  obtain ⟨h1, h2⟩ := h
  rcases h2 with ⟨hv, h0⟩ | ⟨g, cap, cur, hv, hg, hh, hc, hm, hz, ht⟩
  · have h0 : ts.length = 0 := h0
    refine ⟨none, 0, by rw [hv, h0], fun t e => ?_⟩
    rw [e] at h0; cases h0
  · refine ⟨some ⟨g, 0, none⟩, cap, hv, fun t e => ⟨g, rfl, ?_, ?_, ?_⟩⟩
    · rcases Nat.lt_or_ge g w.heap.size with hlt | hge
      · exact hlt
      · rw [Array.getElem?_eq_none hge] at hh; cases hh
    all_goals
      subst e
      rw [cell_of_row w g _ cur 62 (0, 0) hh]
    · have : (toksC [t])[0]? = some (.int .i64 t.kind) := by simp [toksC, tokC]
      rw [← ht, List.getElem?_take_of_lt (by simp)] at this
      simpa using this
    · have : (toksC [t])[2]? = some (.int .i64 t.len) := by simp [toksC, tokC]
      rw [← ht, List.getElem?_take_of_lt (by simp)] at this
      simpa using this

set_option maxRecDepth 100000 in
set_option maxHeartbeats 1000000 in
theorem isName_any (s : ByteArray) (w : World) (hl : s.size ≤ maxLen) (hL : Laid w) :
    Calls Tryz.prog 40 #[.string s] w fun e w' => e = .returned (.bool (nameOk s.data.toList)) ∧ Below w.heap.size w w' := by
  have hb : Below w.heap.size w (Lib.bytesWorld w 5 s) := below_bytes w s
  have hS : Bx _ := ⟨Scan_any (some ⟨w.heap.size, 0, none⟩) (grownCap w s.size 0 5) s.data.toList (Lib.bytesWorld w 5 s) ⟨fun _ => ⟨_, _, rfl, by rw [Lib.bytesWorld_size]; omega, src_bytes w s⟩, by rw [bl]; exact grownCap_ge w s.size 0 5, by rw [bl]; exact hl⟩ (hL.below hb)⟩
  have kc := conv_bytes s
  unfold nameOk
  have hsz := bl s
  rw [hsz] at hS ⊢
  generalize hT : (scanAll s.data.toList).1 = ts at *
  generalize (scanAll s.data.toList).2 = fl at *
  have hsz1 := Lib.bytesWorld_size w 5 s
  clear hT hL
  match ts, hS with
  | [], hS =>
    go_enter Tryz.func40, Tryz.ntmps40
    go_wp2_with (first | (go_at_call 19; refine Calls.mono hS.out ?_; rintro e w1 ⟨v, rfl, hown, hb1⟩; obtain ⟨a, cap, rfl, hx⟩ := owns_first hown; have hw1 := hb1.size; clear hx hown))
    go_ret
    exact ⟨rfl, (hb.trans (hb1.mono (by omega))).alloc (by omega) _⟩
  | [t], hS =>
    cases hk : ((t.kind : Int) == 1)
    · go_enter Tryz.func40, Tryz.ntmps40
      go_wp2_with (first | (go_at_call 19; refine Calls.mono hS.out ?_; rintro e w1 ⟨v, rfl, hown, hb1⟩; obtain ⟨a, cap, rfl, hx⟩ := owns_first hown; have hw1 := hb1.size; obtain ⟨g, rfl, hg, k0, k2⟩ := hx t rfl; clear hx hown))
      go_ret
      exact ⟨ret_bool (by simp [nameToks, hk]), (hb.trans (hb1.mono (by omega))).alloc (by omega) _⟩
    · go_enter Tryz.func40, Tryz.ntmps40
      go_wp2_with (first | (go_at_call 19; refine Calls.mono hS.out ?_; rintro e w1 ⟨v, rfl, hown, hb1⟩; obtain ⟨a, cap, rfl, hx⟩ := owns_first hown; have hw1 := hb1.size; obtain ⟨g, rfl, hg, k0, k2⟩ := hx t rfl; clear hx hown))
      go_ret
      exact ⟨ret_bool (by simp [nameToks, hk]), (hb.trans (hb1.mono (by omega))).alloc (by omega) _⟩
  | t :: t' :: r, hS =>
    have hne : (((t :: t' :: r).length : Int) == 1) = false := by rw [beq_eq_false_iff_ne]; simp; omega
    generalize hR : (t :: t' :: r) = rs at *
    go_enter Tryz.func40, Tryz.ntmps40
    go_wp2_with (first | (go_at_call 19; refine Calls.mono hS.out ?_; rintro e w1 ⟨v, rfl, hown, hb1⟩; obtain ⟨a, cap, rfl, hx⟩ := owns_first hown; have hw1 := hb1.size; clear hx hown))
    go_ret
    exact ⟨ret_bool (by rw [← hR]; rfl), (hb.trans (hb1.mono (by omega))).alloc (by omega) _⟩
end Go.Proofs.YtecodpdfckjalaaGreatDoor
namespace Go.Proofs.YtecodpdfckjalaaGreatDoor
open Go.RowKit
set_option linter.unusedVariables false
set_option linter.unusedSimpArgs false

def emptyB (s : ByteArray) : Bool := s.toList.isEmpty
def nameFitsI (kind : Int) (nm : ByteArray) : Bool :=
  if kind = 20 ∨ kind = 43 then emptyB nm || nameOk nm.data.toList
  else if kind = 3 ∨ kind = 13 ∨ kind = 31 ∨ kind = 32 ∨ kind = 42 ∨ kind = 45 then nameOk nm.data.toList
  else emptyB nm

set_option maxRecDepth 100000 in
set_option maxHeartbeats 1000000 in
theorem nameFits_any (ka : Option Addr) (kc : Nat) (n : Nd) (w : World) (hl : n.name.size ≤ maxLen) (hL : Laid w) : Calls Tryz.prog 24 #[ndV ka kc n] w fun e w' => e = .returned (.bool (nameFitsI n.kind n.name)) ∧ Below w.heap.size w w' := by
  obtain ⟨k, p, ks, nm, num⟩ := n
  unfold ndV
  simp only at *
  have HN : Bx (∀ w', Laid w' → Calls Tryz.prog 40 #[.string nm] w' fun e w'' => e = .returned (.bool (nameOk nm.data.toList)) ∧ Below w'.heap.size w' w'') := ⟨fun w' h => isName_any nm w' hl h⟩
  have HL := hL.below (below1 w (.cells #[.int .i64 k, .int .i64 p, .slice ka ks.length kc, .string nm, .int .i64 num] 44))
  generalize hok : nameOk nm.data.toList = ok at *
  have HF : Bx (nameFitsI k nm = if k = 20 ∨ k = 43 then emptyB nm || ok else if k = 3 ∨ k = 13 ∨ k = 31 ∨ k = 32 ∨ k = 42 ∨ k = 45 then ok else emptyB nm) := ⟨by rw [← hok]; rfl⟩
  generalize nameFitsI k nm = F at *
  clear hok
  go_enter Tryz.func24, Tryz.ntmps24
  go_wp2_with (first | (go_at_call 40; refine Calls.mono (HN.out _ HL) ?_; rintro e w1 ⟨rfl, hb1⟩))
  all_goals
    go_ret
    refine ⟨ret_bool ?_, by first | exact below1 _ _ | exact below2 _ _ _ hb1⟩
    rw [HF.out]
    clear HF HN HL hL
    unfold emptyB
    simp at *
    (repeat' split) <;> first | rfl | omega | (simp_all; done) | (simp_all; omega)
end Go.Proofs.YtecodpdfckjalaaGreatDoor
namespace Go.Proofs.YtecodpdfckjalaaGreatDoor
open Go.RowKit
set_option linter.unusedVariables false
set_option linter.unusedSimpArgs false

/-- a node in memory -/
structure NdAt (w : World) (B b o : Nat) (n : Nd) (ka : Option Addr) (kc : Nat) : Prop where
  c0 : w.cell? ⟨b, o, none⟩ = some (.int .i64 n.kind)
  c1 : w.cell? ⟨b, o + 1, none⟩ = some (.int .i64 n.pos)
  c2 : w.cell? ⟨b, o + 2, none⟩ = some (.slice ka n.kids.length kc)
  c3 : w.cell? ⟨b, o + 3, none⟩ = some (.string n.name)
  c4 : w.cell? ⟨b, o + 4, none⟩ = some (.int .i64 n.num)
  kids : IntsV w B (.slice ka n.kids.length kc) n.kids
def I64 (x : Int) : Prop := -9223372036854775808 ≤ x ∧ x ≤ 9223372036854775807
structure NdWf (n : Nd) : Prop where
  kind : I64 n.kind
  pos : I64 n.pos
  num : I64 n.num
  name : n.name.size ≤ maxLen
  kids : ∀ k ∈ n.kids, I64 k
/-- nodes in memory, below a block's number -/
structure Nodes (w : World) (B nb no nc : Nat) (l : List Nd) : Prop where
  at_ : ∀ j, j < l.length → ∃ ka kc, NdAt w B nb (no + j * 5) (ndN l j) ka kc
  wf : ∀ j, j < l.length → NdWf (ndN l j)
  lo : nb < B
  hi : B ≤ w.heap.size
  max : l.length ≤ maxLen
  cap : l.length ≤ nc
theorem NdAt.below {w w' : World} {B b o : Nat} {n : Nd} {ka : Option Addr} {kc : Nat} (h : NdAt w B b o n ka kc) (hb : Below B w w') (hlt : b < B) : NdAt w' B b o n ka kc := by
  have hc : ∀ i, w'.cell? ⟨b, i, none⟩ = w.cell? ⟨b, i, none⟩ := fun i => hb.cell (p := ⟨b, i, none⟩) hlt
  exact ⟨by rw [hc]; exact h.c0, by rw [hc]; exact h.c1, by rw [hc]; exact h.c2, by rw [hc]; exact h.c3, by rw [hc]; exact h.c4, h.kids.below hb⟩
theorem Nodes.below {w w' : World} {B nb no nc : Nat} {l : List Nd} (h : Nodes w B nb no nc l) (hb : Below B w w') : Nodes w' B nb no nc l := by
  refine ⟨fun j hj => ?_, h.wf, h.lo, Nat.le_trans h.hi hb.size, h.max, h.cap⟩
  obtain ⟨ka, kc, hn⟩ := h.at_ j hj
  exact ⟨ka, kc, hn.below hb h.lo⟩
theorem Nodes.kinds {w : World} {B nb no nc : Nat} {l : List Nd} (h : Nodes w B nb no nc l) (j : Nat) (hj : j < l.length) : w.cell? ⟨nb, no + j * 5, none⟩ = some (.int .i64 (kdN l j)) := by
  obtain ⟨ka, kc, hn⟩ := h.at_ j hj
  exact hn.c0

/-- all nodes ahead of i have kids ahead of them, and one where one is followed -/
def Led (l : List Nd) (i : Nat) : Prop := ∀ j, j < i → (22 ≤ kdN l j → kdN l j ≤ 25 → ∃ k : Nat, ∃ r, (ndN l j).kids = (k : Int) :: r ∧ k < j)

theorem ndAt_nat (l : List Nd) (k : Nat) : ndAt l (k : Int) = ndN l k := rfl
theorem begins_step {l : List Nd} {f : Nat} {k k' : Nat} {r : List Int} (h1 : 22 ≤ kdN l k) (h2 : kdN l k ≤ 25) (hk : (ndN l k).kids = (k' : Int) :: r) : beginsI l (f + 1) k = beginsI l f k' := by
  unfold kdN at *
  rw [beginsI, ndAt_nat, if_pos ⟨h1, h2⟩, hk]
  rfl
theorem begins_end {l : List Nd} {f : Nat} {k : Nat} (h : ¬ (22 ≤ kdN l k ∧ kdN l k ≤ 25)) : beginsI l (f + 1) k = (kdN l k == 21 && (ndN l k).num == 3) := by
  unfold kdN at *
  rw [beginsI, ndAt_nat, if_neg h]

set_option maxHeartbeats 1000000 in
theorem begins_any (w : World) (B nb no nc : Nat) (l : List Nd) (i k f : Nat) (hn : Nodes w B nb no nc l) (hl : Led l i) (hi : i ≤ l.length) (hk : k < i) (hf : k < f) :
    Calls Tryz.prog 48 #[.slice (some ⟨nb, no, none⟩) l.length nc, .int .i64 k] w fun e w' => e = .returned (.bool (beginsI l f k)) ∧ w = w' := by
  have hmax := hn.max
  unfold maxLen at hmax
  generalize hF : beginsI l f k = F
  have HS : Bx (k < f ∧ beginsI l f k = F) := ⟨hf, hF⟩
  clear hF hf
  go_enter Tryz.func48, Tryz.ntmps48
  go_wp2
  go_loop [1] (fun x => ∃ j f : Nat, j < i ∧ x = .int .i64 j ∧ Bx (j < f ∧ beginsI l f j = F)) (fun x => (intOf x).toNat)
  case atStart => exact ⟨k, f, hk, rfl, HS⟩
  case round =>
    obtain ⟨j, g, hj, rfl, HR⟩ := hrel
    obtain ⟨g, rfl⟩ : ∃ g', g = g' + 1 := ⟨g - 1, by have := HR.out.1; omega⟩
    obtain ⟨ka, kc, ⟨c0, c1, c2, c3, c4, hkk⟩⟩ := hn.at_ j (by omega)
    have hjl : j < l.length := by omega
    change w.cell? _ = some (.int .i64 (kdN l j)) at c0
    by_cases hkd : 22 ≤ kdN l j ∧ kdN l j ≤ 25
    · obtain ⟨k', r, hks, hlt⟩ := hl j hj hkd.1 hkd.2
      have HR2 : Bx (k' < g ∧ beginsI l g k' = F) := ⟨by have := HR.out.1; omega, by rw [← HR.out.2, begins_step hkd.1 hkd.2 hks]⟩
      obtain ⟨a, cap, he, h1, h2, h3⟩ := hkk.ex
      simp only [Value.slice.injEq, true_and] at he
      obtain ⟨rfl, rfl⟩ := he
      rw [hks] at h3
      obtain ⟨b, o, rfl, hbB, hcell⟩ := h3 (by simp)
      have hc0 := hcell 0 (by simp)
      simp only [List.getElem_cons_zero, Nat.add_zero] at hc0
      have hlen : 0 < (ndN l j).kids.length := by rw [hks]; simp
      generalize (ndN l j).kids.length = nk at *
      clear hcell h3 hks hkk HR HS hl hn
      unfold maxLen at h2
      generalize kdN l j = kd at *
      obtain ⟨q1, q2⟩ := hkd
      have hcs : kd = 22 ∨ kd = 23 ∨ kd = 24 ∨ kd = 25 := by omega
      rcases hcs with rfl | rfl | rfl | rfl <;>
      · go_wp2
        go_round
        case rel => exact ⟨k', g, by omega, rfl, HR2⟩
        case measure => simp [intOf]; omega
    · have HR2 : Bx ((kdN l j == 21 && (ndN l j).num == 3) = F) := ⟨by rw [← HR.out.2, begins_end hkd]⟩
      clear HR HS hl hn hkk
      generalize (ndN l j).num = nu at *
      generalize kdN l j = kd at *
      have e1 : (kd == 22) = false := by rw [beq_eq_false_iff_ne]; omega
      have e2 : (kd == 23) = false := by rw [beq_eq_false_iff_ne]; omega
      have e3 : (kd == 24) = false := by rw [beq_eq_false_iff_ne]; omega
      have e4 : (kd == 25) = false := by rw [beq_eq_false_iff_ne]; omega
      clear hkd
      cases e5 : (kd == 21)
      · go_wp2
        go_ret
        exact ⟨ret_bool (by rw [← HR2.out, e5]; rfl), rfl⟩
      · go_wp2
        go_ret
        exact ⟨ret_bool (by rw [← HR2.out, e5]; rfl), rfl⟩
end Go.Proofs.YtecodpdfckjalaaGreatDoor
