import Derived.Test.YtjjbgbadkbomlaaDoorCTCur
import Derived.Test.YtjjbgbadkbomlaaDoorCTName
import Derived.Deep.DeepFit
import Derived.Deep.DrawnRows
namespace Go.Proofs.YtjjbgbadkbomlaaDoor
open Go.RowKit
set_option linter.unusedVariables false
set_option linter.unusedSimpArgs false

/-- the row of the firsts -/
def FirstsAt (w : World) (fb : Nat) (fs : List Nat) : Prop := ∀ j, j < fs.length → w.cell? ⟨fb, j, none⟩ = some (.int .i64 (fs.getD j 0 : Nat))

theorem rev_take {kids : List Int} {m : Nat} (h : m < kids.length) : (kids.take (m + 1)).reverse = kids[m] :: (kids.take m).reverse := by
  rw [List.take_succ_eq_append_getElem h]
  simp

set_option maxHeartbeats 1000000 in
theorem inOrder_any (kids : List Int) (fs : List Nat) (ka : Option Addr) (kc fb N fc B : Nat) (w : World) (hk : IntsV w B (.slice ka kids.length kc) kids) (hf : FirstsAt w fb fs) (hle : ∀ j, j < fs.length → fs.getD j 0 ≤ j) (hN : fs.length ≤ N) (hNm : N ≤ maxLen) :
    Calls Tryd.prog 37 #[.slice ka kids.length kc, .slice (some ⟨fb, 0, none⟩) N fc, .int .i64 fs.length] w fun e w' => e = .returned (.bool (orderI fs fs.length kids)) ∧ w = w' := by
  obtain ⟨a, cap, he, h1, h2, h3⟩ := hk.ex
  simp only [Value.slice.injEq, true_and] at he
  obtain ⟨rfl, rfl⟩ := he
  clear hk
  unfold maxLen at *
  generalize hF : orderI fs fs.length kids = F
  have HF : Bx _ := ⟨hF⟩
  clear hF
  go_enter Tryd.func37, Tryd.ntmps37
  go_wp2
  go_loop [7, 8] (fun x i => ∃ m nx : Nat, m ≤ kids.length ∧ nx ≤ fs.length ∧ x = .int .i64 nx ∧ i = .int .i64 ((m : Int) - 1) ∧ Bx (orderGo fs nx (kids.take m).reverse = F)) (fun _ i => ((intOf i) + 1).toNat)
  case atStart => exact ⟨kids.length, fs.length, Nat.le_refl _, Nat.le_refl _, rfl, by go_num, ⟨by rw [← HF.out]; unfold orderI; simp⟩⟩
  case round =>
    obtain ⟨m, nx, hm, hnx, rfl, rfl, HO⟩ := hrel
    match m, hm, HO with
    | 0, hm, HO =>
      go_wp2
      go_ret
      exact ⟨ret_bool (by rw [← HO.out]; rfl), rfl⟩
    | m + 1, hm, HO =>
      obtain ⟨b, o, rfl, hbB, hcell⟩ := h3 (by omega)
      have hc := hcell m (by omega)
      have HO' : Bx (orderGo fs nx (kids[m] :: (kids.take m).reverse) = F) := ⟨by rw [← rev_take (by omega)]; exact HO.out⟩
      have hm1 : ((m + 1 : Nat) : Int) - 1 = (m : Int) := by omega
      rw [hm1]
      generalize hx : kids[m] = x at *
      clear HO hcell h3 hm1 hx
      by_cases e1 : x = (nx : Int) - 1
      · subst e1
        by_cases e2 : nx = 0
        · subst e2
          go_wp2
          go_ret
          exact ⟨ret_bool (by rw [← HO'.out]; rfl), rfl⟩
        · obtain ⟨y, rfl⟩ : ∃ y, nx = y + 1 := ⟨nx - 1, by omega⟩
          have hy : ((y + 1 : Nat) : Int) - 1 = (y : Int) := by omega
          rw [hy] at hc HO'
          have hcf := hf y (by omega)
          have hly := hle y (by omega)
          have HO2 : Bx (orderGo fs (fs.getD y 0) (kids.take m).reverse = F) := ⟨by rw [← HO'.out, orderGo]; rw [if_pos ⟨by omega, by omega⟩]; simp⟩
          clear HO' hf hle
          generalize fs.getD y 0 = z at *
          go_wp2
          go_round
          case rel => exact ⟨m, z, by omega, by omega, rfl, by go_num, HO2⟩
          case measure => simp [intOf]
      · have e3 : (x != (nx : Int) - 1) = true := by rw [bne_iff_ne]; exact e1
        have HO2 : Bx (false = F) := ⟨by rw [← HO'.out, orderGo]; rw [if_neg (fun h => e1 h.1)]⟩
        clear HO' hf hle
        go_wp2
        go_ret
        exact ⟨ret_bool HO2.out, rfl⟩
end Go.Proofs.YtjjbgbadkbomlaaDoor
namespace Go.Proofs.YtjjbgbadkbomlaaDoor
open Go.RowKit
set_option linter.unusedVariables false
set_option linter.unusedSimpArgs false

/-- a node in memory -/
structure NdAt (w : World) (B b o : Nat) (n : Nd) (ka : Option Addr) (kc : Nat) : Prop where
  c0 : w.cell? ⟨b, o, none⟩ = some (.int .i64 n.kind)
  c1 : w.cell? ⟨b, o + 1, none⟩ = some (.int .i64 n.pos)
  c2 : w.cell? ⟨b, o + 2, none⟩ = some (.slice ka n.kids.length kc)
  c3 : w.cell? ⟨b, o + 3, none⟩ = some (.string n.name)
  c4 : w.cell? ⟨b, o + 4, none⟩ = some (.int .i64 n.num)
  kids : IntsV w B (.slice ka n.kids.length kc) n.kids
def I64 (x : Int) : Prop := -9223372036854775808 ≤ x ∧ x ≤ 9223372036854775807
structure NdWf (n : Nd) : Prop where
  kind : I64 n.kind
  pos : I64 n.pos
  num : I64 n.num
  name : n.name.size ≤ maxLen
  kids : ∀ k ∈ n.kids, I64 k
/-- nodes in memory, below a block's number -/
structure Nodes (w : World) (B nb no nc : Nat) (l : List Nd) : Prop where
  at_ : ∀ j, j < l.length → ∃ ka kc, NdAt w B nb (no + j * 5) (ndN l j) ka kc
  wf : ∀ j, j < l.length → NdWf (ndN l j)
  lo : nb < B
  hi : B ≤ w.heap.size
  max : l.length ≤ maxLen
  cap : l.length ≤ nc
theorem NdAt.below {w w' : World} {B b o : Nat} {n : Nd} {ka : Option Addr} {kc : Nat} (h : NdAt w B b o n ka kc) (hb : Below B w w') (hlt : b < B) : NdAt w' B b o n ka kc := by
  have hc : ∀ i, w'.cell? ⟨b, i, none⟩ = w.cell? ⟨b, i, none⟩ := fun i => hb.cell (p := ⟨b, i, none⟩) hlt
  exact ⟨by rw [hc]; exact h.c0, by rw [hc]; exact h.c1, by rw [hc]; exact h.c2, by rw [hc]; exact h.c3, by rw [hc]; exact h.c4, h.kids.below hb⟩
theorem Nodes.below {w w' : World} {B nb no nc : Nat} {l : List Nd} (h : Nodes w B nb no nc l) (hb : Below B w w') : Nodes w' B nb no nc l := by
  refine ⟨fun j hj => ?_, h.wf, h.lo, Nat.le_trans h.hi hb.size, h.max, h.cap⟩
  obtain ⟨ka, kc, hn⟩ := h.at_ j hj
  exact ⟨ka, kc, hn.below hb h.lo⟩
theorem Nodes.kinds {w : World} {B nb no nc : Nat} {l : List Nd} (h : Nodes w B nb no nc l) (j : Nat) (hj : j < l.length) : w.cell? ⟨nb, no + j * 5, none⟩ = some (.int .i64 (kdN l j)) := by
  obtain ⟨ka, kc, hn⟩ := h.at_ j hj
  exact hn.c0

/-- all nodes ahead of i have kids ahead of them, and one where one is followed -/
def Led (l : List Nd) (i : Nat) : Prop := ∀ j, j < i → (22 ≤ kdN l j → kdN l j ≤ 25 → ∃ k : Nat, ∃ r, (ndN l j).kids = (k : Int) :: r ∧ k < j)

theorem ndAt_nat (l : List Nd) (k : Nat) : ndAt l (k : Int) = ndN l k := rfl
theorem begins_step {l : List Nd} {f : Nat} {k k' : Nat} {r : List Int} (h1 : 22 ≤ kdN l k) (h2 : kdN l k ≤ 25) (hk : (ndN l k).kids = (k' : Int) :: r) : beginsI l (f + 1) k = beginsI l f k' := by
  unfold kdN at *
  rw [beginsI, ndAt_nat, if_pos ⟨h1, h2⟩, hk]
  rfl
theorem begins_end {l : List Nd} {f : Nat} {k : Nat} (h : ¬ (22 ≤ kdN l k ∧ kdN l k ≤ 25)) : beginsI l (f + 1) k = (kdN l k == 21 && (ndN l k).num == 3) := by
  unfold kdN at *
  rw [beginsI, ndAt_nat, if_neg h]

set_option maxHeartbeats 1000000 in
theorem begins_any (w : World) (B nb no nc : Nat) (l : List Nd) (i k f : Nat) (hn : Nodes w B nb no nc l) (hl : Led l i) (hi : i ≤ l.length) (hk : k < i) (hf : k < f) :
    Calls Tryd.prog 58 #[.slice (some ⟨nb, no, none⟩) l.length nc, .int .i64 k] w fun e w' => e = .returned (.bool (beginsI l f k)) ∧ w = w' := by
  have hmax := hn.max
  unfold maxLen at hmax
  generalize hF : beginsI l f k = F
  have HS : Bx (k < f ∧ beginsI l f k = F) := ⟨hf, hF⟩
  clear hF hf
  go_enter Tryd.func58, Tryd.ntmps58
  go_wp2
  go_loop [1] (fun x => ∃ j f : Nat, j < i ∧ x = .int .i64 j ∧ Bx (j < f ∧ beginsI l f j = F)) (fun x => (intOf x).toNat)
  case atStart => exact ⟨k, f, hk, rfl, HS⟩
  case round =>
    obtain ⟨j, g, hj, rfl, HR⟩ := hrel
    obtain ⟨g, rfl⟩ : ∃ g', g = g' + 1 := ⟨g - 1, by have := HR.out.1; omega⟩
    obtain ⟨ka, kc, ⟨c0, c1, c2, c3, c4, hkk⟩⟩ := hn.at_ j (by omega)
    have hjl : j < l.length := by omega
    change w.cell? _ = some (.int .i64 (kdN l j)) at c0
    by_cases hkd : 22 ≤ kdN l j ∧ kdN l j ≤ 25
    · obtain ⟨k', r, hks, hlt⟩ := hl j hj hkd.1 hkd.2
      have HR2 : Bx (k' < g ∧ beginsI l g k' = F) := ⟨by have := HR.out.1; omega, by rw [← HR.out.2, begins_step hkd.1 hkd.2 hks]⟩
      obtain ⟨a, cap, he, h1, h2, h3⟩ := hkk.ex
      simp only [Value.slice.injEq, true_and] at he
      obtain ⟨rfl, rfl⟩ := he
      rw [hks] at h3
      obtain ⟨b, o, rfl, hbB, hcell⟩ := h3 (by simp)
      have hc0 := hcell 0 (by simp)
      simp only [List.getElem_cons_zero, Nat.add_zero] at hc0
      have hlen : 0 < (ndN l j).kids.length := by rw [hks]; simp
      generalize (ndN l j).kids.length = nk at *
      clear hcell h3 hks hkk HR HS hl hn
      unfold maxLen at h2
      generalize kdN l j = kd at *
      obtain ⟨q1, q2⟩ := hkd
      have hcs : kd = 22 ∨ kd = 23 ∨ kd = 24 ∨ kd = 25 := by omega
      rcases hcs with rfl | rfl | rfl | rfl <;>
      · go_wp2
        go_round
        case rel => exact ⟨k', g, by omega, rfl, HR2⟩
        case measure => simp [intOf]; omega
    · have HR2 : Bx ((kdN l j == 21 && (ndN l j).num == 3) = F) := ⟨by rw [← HR.out.2, begins_end hkd]⟩
      clear HR HS hl hn hkk
      generalize (ndN l j).num = nu at *
      generalize kdN l j = kd at *
      have e1 : (kd == 22) = false := by rw [beq_eq_false_iff_ne]; omega
      have e2 : (kd == 23) = false := by rw [beq_eq_false_iff_ne]; omega
      have e3 : (kd == 24) = false := by rw [beq_eq_false_iff_ne]; omega
      have e4 : (kd == 25) = false := by rw [beq_eq_false_iff_ne]; omega
      clear hkd
      cases e5 : (kd == 21)
      · go_wp2
        go_ret
        exact ⟨ret_bool (by rw [← HR2.out, e5]; rfl), rfl⟩
      · go_wp2
        go_ret
        exact ⟨ret_bool (by rw [← HR2.out, e5]; rfl), rfl⟩
end Go.Proofs.YtjjbgbadkbomlaaDoor
namespace Go.Proofs.YtjjbgbadkbomlaaDoor
open Go.RowKit
set_option linter.unusedVariables false
set_option linter.unusedSimpArgs false

theorem levelsGo_drop (l : List Nd) (n : Nd) (ks : List Int) (p : Nat) (h : p < ks.length) : levelsGo l n p (ks.drop p) = if levelI (ndAt l ks[p]).kind (ndAt l ks[p]).num < wantedI n.kind n.num p then false else levelsGo l n (p + 1) (ks.drop (p + 1)) := by
  rw [List.drop_eq_getElem_cons h]
  rfl
theorem levelsGo_end (l : List Nd) (n : Nd) (ks : List Int) (p : Nat) (h : ks.length ≤ p) : levelsGo l n p (ks.drop p) = true := by
  rw [List.drop_eq_nil_of_le h]
  rfl

/-- five cells -/
def Five (w : World) (b o : Nat) (k p : Int) (ka : Option Addr) (n kc : Nat) (nm : ByteArray) (num : Int) : Prop :=
  w.cell? ⟨b, o, none⟩ = some (.int .i64 k) ∧ w.cell? ⟨b, o + 1, none⟩ = some (.int .i64 p) ∧ w.cell? ⟨b, o + 2, none⟩ = some (.slice ka n kc) ∧ w.cell? ⟨b, o + 3, none⟩ = some (.string nm) ∧ w.cell? ⟨b, o + 4, none⟩ = some (.int .i64 num)
theorem Five.below {w w' : World} {B b o : Nat} {k p : Int} {ka : Option Addr} {n kc : Nat} {nm : ByteArray} {num : Int} (h : Five w b o k p ka n kc nm num) (hb : Below B w w') (hlt : b < B) : Five w' b o k p ka n kc nm num := by
  have hc : ∀ i, w'.cell? ⟨b, i, none⟩ = w.cell? ⟨b, i, none⟩ := fun i => hb.cell (p := ⟨b, i, none⟩) hlt
  obtain ⟨a1, a2, a3, a4, a5⟩ := h
  exact ⟨by rw [hc]; exact a1, by rw [hc]; exact a2, by rw [hc]; exact a3, by rw [hc]; exact a4, by rw [hc]; exact a5⟩
theorem NdAt.five {w : World} {B b o : Nat} {n : Nd} {ka : Option Addr} {kc : Nat} (h : NdAt w B b o n ka kc) : Five w b o n.kind n.pos ka n.kids.length kc n.name n.num := ⟨h.c0, h.c1, h.c2, h.c3, h.c4⟩
theorem five_new (w : World) (k p : Int) (ka : Option Addr) (n kc : Nat) (nm : ByteArray) (num : Int) : Five (w.alloc (.cells #[.int .i64 k, .int .i64 p, .slice ka n kc, .string nm, .int .i64 num] 36)) w.heap.size 0 k p ka n kc nm num := by
  unfold Five
  simp

/-- in the midst of levelsFit -/
def LfMem (w : World) (o : Obj) (wr : World) : Prop := Below (w.heap.size + 1) (w.alloc o) wr
theorem LfMem.below {w wr : World} {o : Obj} (h : LfMem w o wr) : Below w.heap.size w wr := (below1 w o).trans (Below.mono h (by omega))

theorem lf_keep {wr W w1 : World} {nb o bx nk2 c2 nk kc : Nat} {kd2 ps2 num2 kd ps num : Int} {a2 ka : Option Addr} {nm2 nm : ByteArray} (hb1 : Below W.heap.size W w1) (h1 : nb < wr.heap.size) (h2 : bx < wr.heap.size)
    (hS : W.cell? ⟨nb, o, none⟩ = some (.int .i64 kd2) ∧ W.cell? ⟨nb, o + 1, none⟩ = some (.int .i64 ps2) ∧ W.cell? ⟨nb, o + 2, none⟩ = some (.slice a2 nk2 c2) ∧ W.cell? ⟨nb, o + 3, none⟩ = some (.string nm2) ∧ W.cell? ⟨nb, o + 4, none⟩ = some (.int .i64 num2)
          ∧ W.cell? ⟨bx, 0, none⟩ = some (.int .i64 kd) ∧ W.cell? ⟨bx, 1, none⟩ = some (.int .i64 ps) ∧ W.cell? ⟨bx, 2, none⟩ = some (.slice ka nk kc) ∧ W.cell? ⟨bx, 3, none⟩ = some (.string nm) ∧ W.cell? ⟨bx, 4, none⟩ = some (.int .i64 num) ∧ Below wr.heap.size wr W) :
    w1.cell? ⟨nb, o, none⟩ = some (.int .i64 kd2) ∧ w1.cell? ⟨nb, o + 1, none⟩ = some (.int .i64 ps2) ∧ w1.cell? ⟨nb, o + 2, none⟩ = some (.slice a2 nk2 c2) ∧ w1.cell? ⟨nb, o + 3, none⟩ = some (.string nm2) ∧ w1.cell? ⟨nb, o + 4, none⟩ = some (.int .i64 num2)
          ∧ w1.cell? ⟨bx, 0, none⟩ = some (.int .i64 kd) ∧ w1.cell? ⟨bx, 1, none⟩ = some (.int .i64 ps) ∧ w1.cell? ⟨bx, 2, none⟩ = some (.slice ka nk kc) ∧ w1.cell? ⟨bx, 3, none⟩ = some (.string nm) ∧ w1.cell? ⟨bx, 4, none⟩ = some (.int .i64 num) ∧ Below wr.heap.size wr w1 := by
  obtain ⟨x0, x1, x2, x3, x4, y0, y1, y2, y3, y4, hb⟩ := hS
  have hz := hb.size
  have c1 : ∀ i, w1.cell? ⟨nb, i, none⟩ = W.cell? ⟨nb, i, none⟩ := fun i => hb1.cell (p := ⟨nb, i, none⟩) (by simp; omega)
  have d1 : ∀ i, w1.cell? ⟨bx, i, none⟩ = W.cell? ⟨bx, i, none⟩ := fun i => hb1.cell (p := ⟨bx, i, none⟩) (by simp; omega)
  rw [c1, c1, c1, c1, c1, d1, d1, d1, d1, d1]
  exact ⟨x0, x1, x2, x3, x4, y0, y1, y2, y3, y4, hb.trans (hb1.mono hz)⟩

theorem lf_last {wr W : World} {nb o bx nk2 c2 nk kc : Nat} {kd2 ps2 num2 kd ps num : Int} {a2 ka : Option Addr} {nm2 nm : ByteArray}
    (hS : W.cell? ⟨nb, o, none⟩ = some (.int .i64 kd2) ∧ W.cell? ⟨nb, o + 1, none⟩ = some (.int .i64 ps2) ∧ W.cell? ⟨nb, o + 2, none⟩ = some (.slice a2 nk2 c2) ∧ W.cell? ⟨nb, o + 3, none⟩ = some (.string nm2) ∧ W.cell? ⟨nb, o + 4, none⟩ = some (.int .i64 num2)
          ∧ W.cell? ⟨bx, 0, none⟩ = some (.int .i64 kd) ∧ W.cell? ⟨bx, 1, none⟩ = some (.int .i64 ps) ∧ W.cell? ⟨bx, 2, none⟩ = some (.slice ka nk kc) ∧ W.cell? ⟨bx, 3, none⟩ = some (.string nm) ∧ W.cell? ⟨bx, 4, none⟩ = some (.int .i64 num) ∧ Below wr.heap.size wr W) : Below wr.heap.size wr W := hS.2.2.2.2.2.2.2.2.2.2

set_option maxHeartbeats 2000000 in
theorem levelsFit_any (w : World) (B nb no nc : Nat) (l : List Nd) (i : Nat) (ka : Option Addr) (kc : Nat) (n : Nd) (hn : Nodes w B nb no nc l) (hl : Led l i) (hi : i ≤ l.length) (hk : IntsV w B (.slice ka n.kids.length kc) n.kids)
    (hkid : ∀ j (h : j < n.kids.length), ∃ k : Nat, n.kids[j] = (k : Int) ∧ k < i) (h44 : n.kind = 44 → 0 < n.kids.length) :
    Calls Tryd.prog 39 #[.slice (some ⟨nb, no, none⟩) l.length nc, ndV ka kc n] w fun e w' => e = .returned (.bool (levelsFitI l n)) ∧ Below w.heap.size w w' := by
  obtain ⟨kd, ps, ks, nm, num⟩ := n
  unfold ndV
  simp only at *
  obtain ⟨a, cap, he, h1, h2, h3⟩ := hk.ex
  simp only [Value.slice.injEq, true_and] at he
  obtain ⟨rfl, rfl⟩ := he
  have hB := hn.hi
  have hmax := hn.max
  unfold maxLen at hmax h2
  have HW : Bx (∀ pl w', (pl : Nat) ≤ maxLen → Calls Tryd.prog 57 #[.agg #[.int .i64 kd, .int .i64 ps, .slice ka ks.length kc, .string nm, .int .i64 num], .int .i64 pl] w' fun e w'' => e = .returned (.int .i64 (wantedI kd num pl)) ∧ Below w'.heap.size w' w'') := ⟨fun pl w' hp => wanted_any ka kc ⟨kd, ps, ks, nm, num⟩ pl hp w'⟩
  have HX : Bx (Nodes w B nb no nc l ∧ IntsV w B (.slice ka ks.length kc) ks ∧ Led l i) := ⟨hn, hk, hl⟩
  have HK : Bx _ := ⟨h3⟩
  have HF : Bx (levelsFitI l ⟨kd, ps, ks, nm, num⟩ = (levelsGo l ⟨kd, ps, ks, nm, num⟩ 0 (ks.drop 0) && (kd != 44 || !beginsI l (l.length + 1) (ks.getD 0 0)))) := ⟨rfl⟩
  generalize hFF : levelsFitI l ⟨kd, ps, ks, nm, num⟩ = F at *
  clear hFF hn hk hl h3
  go_enter Tryd.func39, Tryd.ntmps39
  go_wp2
  go_loopw [10] (fun x wr => ∃ p : Nat, p ≤ ks.length ∧ x = .int .i64 p ∧ Bx (LfMem w (.cells #[.int .i64 kd, .int .i64 ps, .slice ka ks.length kc, .string nm, .int .i64 num] 36) wr ∧ F = (levelsGo l ⟨kd, ps, ks, nm, num⟩ p (ks.drop p) && (kd != 44 || !beginsI l (l.length + 1) (ks.getD 0 0))))) (fun x _ => ks.length - (intOf x).toNat)
  case atStart => exact ⟨0, Nat.zero_le _, rfl, ⟨Below.refl _ _, HF.out⟩⟩
  case round =>
    obtain ⟨p, hp, rfl, HR⟩ := hrel
    have hsz : w.heap.size + 1 ≤ wr.heap.size := by
      have := HR.out.1.size
      simpa using this
    have hbx := (five_new w kd ps ka ks.length kc nm num).below (B := w.heap.size + 1) HR.out.1 (by omega)
    have hbw := HR.out.1.below
    by_cases hlt : p < ks.length
    · obtain ⟨b, o, rfl, hbB, hcell⟩ := HK.out (by omega)
      obtain ⟨k, hkp, hki⟩ := hkid p hlt
      have hc : wr.cell? ⟨b, o + p, none⟩ = some (.int .i64 (k : Int)) := by rw [hbw.cell (p := ⟨b, o + p, none⟩) (by simp; omega), ← hkp]; exact hcell p hlt
      obtain ⟨a2, c2, hnd⟩ := (HX.out.1.below (hbw.mono hB)).at_ k (by omega)
      have hnb := HX.out.1.lo
      have h5 := hnd.five
      have HV : Bx (∀ w', Calls Tryd.prog 49 #[.agg #[.int .i64 (ndN l k).kind, .int .i64 (ndN l k).pos, .slice a2 (ndN l k).kids.length c2, .string (ndN l k).name, .int .i64 (ndN l k).num]] w' fun e w'' => e = .returned (.int .i64 (levelI (ndN l k).kind (ndN l k).num)) ∧ Below w'.heap.size w' w'') := ⟨fun w' => Level_any a2 c2 (ndN l k) w'⟩
      have HG := levelsGo_drop l ⟨kd, ps, ks, nm, num⟩ ks p hlt
      rw [hkp, ndAt_nat] at HG
      have HG' : Bx _ := ⟨HG⟩
      have hle1 := levelI_le (ndN l k).kind (ndN l k).num
      generalize (ndN l k).kids.length = nk2 at *
      generalize (ndN l k).pos = ps2 at *
      generalize (ndN l k).name = nm2 at *
      generalize hLV : levelI (ndN l k).kind (ndN l k).num = LV at *
      generalize (ndN l k).kind = kd2 at *
      generalize (ndN l k).num = num2 at *
      have hWP := HW.out p
      have HW' : Bx (∀ w', Calls Tryd.prog 57 #[.agg #[.int .i64 kd, .int .i64 ps, .slice (some ⟨b, o, none⟩) ks.length kc, .string nm, .int .i64 num], .int .i64 p] w' fun e w'' => e = .returned (.int .i64 (wantedI kd num p)) ∧ Below w'.heap.size w' w'') := ⟨fun w' => hWP w' (by unfold maxLen; omega)⟩
      generalize wantedI kd num p = WV at *
      have hkl : k < l.length := by omega
      have HB0 : Below wr.heap.size wr wr := Below.refl _ _
      clear HG hWP hnd hcell HF HK hLV
      unfold Five at h5 hbx
      obtain ⟨x0, x1, x2, x3, x4⟩ := h5
      obtain ⟨y0, y1, y2, y3, y4⟩ := hbx
      go_wp2
      go_region_held (fun w' => w'.cell? ⟨nb, no + k * 5, none⟩ = some (.int .i64 kd2) ∧ w'.cell? ⟨nb, no + k * 5 + 1, none⟩ = some (.int .i64 ps2) ∧ w'.cell? ⟨nb, no + k * 5 + 2, none⟩ = some (.slice a2 nk2 c2) ∧ w'.cell? ⟨nb, no + k * 5 + 3, none⟩ = some (.string nm2) ∧ w'.cell? ⟨nb, no + k * 5 + 4, none⟩ = some (.int .i64 num2)
          ∧ w'.cell? ⟨w.heap.size, 0, none⟩ = some (.int .i64 kd) ∧ w'.cell? ⟨w.heap.size, 1, none⟩ = some (.int .i64 ps) ∧ w'.cell? ⟨w.heap.size, 2, none⟩ = some (.slice (some ⟨b, o, none⟩) ks.length kc) ∧ w'.cell? ⟨w.heap.size, 3, none⟩ = some (.string nm) ∧ w'.cell? ⟨w.heap.size, 4, none⟩ = some (.int .i64 num) ∧ Below wr.heap.size wr w')
        (first | exact ⟨x0, x1, x2, x3, x4, y0, y1, y2, y3, y4, HB0.drew⟩ | exact lf_keep hb1 (by omega) (by omega) ‹_›)
        (first | (go_at_call 49; refine Calls.mono (HV.out _) ?_; rintro e w1 ⟨rfl, hb1⟩) | (go_at_call 57; refine Calls.mono (HW'.out _) ?_; rintro e w1 ⟨rfl, hb1⟩))
      all_goals
        have hw1 := lf_last (wr := wr) (W := w1) ‹_›
        by_cases hcmp : LV < WV
        · have HE : Bx (F = false) := ⟨by rw [HR.out.2, HG'.out, if_pos hcmp]; rfl⟩
          go_wp2
          go_ret
          exact ⟨ret_bool HE.out.symm, hbw.trans (hw1.mono (by omega))⟩
        · have HE : Bx (F = (levelsGo l ⟨kd, ps, ks, nm, num⟩ (p + 1) (ks.drop (p + 1)) && (kd != 44 || !beginsI l (l.length + 1) (ks.getD 0 0)))) := ⟨by rw [HR.out.2, HG'.out, if_neg hcmp]⟩
          have HM := HR.out.1
          go_wp2
          go_roundw
          case rel => exact ⟨p + 1, by omega, by go_num, ⟨Below.trans HM (hw1.mono (by omega)), HE.out⟩⟩
          case measure => simp [intOf]; omega
    · have HE : Bx (F = (kd != 44 || !beginsI l (l.length + 1) (ks.getD 0 0))) := ⟨by rw [HR.out.2, levelsGo_end _ _ _ _ (by omega)]; rfl⟩
      unfold Five at hbx
      obtain ⟨y0, y1, y2, y3, y4⟩ := hbx
      have hpe : p = ks.length := by omega
      by_cases hkd : kd = 44
      · obtain ⟨b, o, rfl, hbB, hcell⟩ := HK.out (h44 hkd)
        obtain ⟨k, hkp, hki⟩ := hkid 0 (h44 hkd)
        have hpos := h44 hkd
        have hc : wr.cell? ⟨b, o, none⟩ = some (.int .i64 (k : Int)) := by
          rw [hbw.cell (p := ⟨b, o, none⟩) (by simp; omega), ← hkp]
          have := hcell 0 hpos
          rw [Nat.add_zero] at this
          exact this
        have hgd : ks.getD 0 0 = (k : Int) := by
          rw [List.getD_eq_getElem?_getD, List.getElem?_eq_getElem hpos, hkp]; rfl
        have HC : Bx _ := ⟨begins_any wr B nb no nc l i k (l.length + 1) (HX.out.1.below (hbw.mono hB)) HX.out.2.2 hi hki (by omega)⟩
        rw [hgd] at HE
        have HE' : Bx (F = !beginsI l (l.length + 1) k) := ⟨by rw [HE.out, hkd]; rfl⟩
        generalize beginsI l (l.length + 1) k = bg at *
        subst hkd
        clear HE HR HF HX HW HK hcell hkp hgd
        go_wp2_with (first | (go_at_call 58; refine Calls.mono HC.out ?_; rintro e w1 ⟨rfl, rfl⟩))
        go_ret
        exact ⟨ret_bool HE'.out.symm, hbw⟩
      · have e44 : (kd != 44) = true := by rw [bne_iff_ne]; exact hkd
        have HE' : Bx (F = true) := ⟨by rw [HE.out, e44]; rfl⟩
        clear HE HR HF HX HW HK
        go_wp2
        go_ret
        exact ⟨ret_bool HE'.out.symm, hbw⟩
end Go.Proofs.YtjjbgbadkbomlaaDoor
