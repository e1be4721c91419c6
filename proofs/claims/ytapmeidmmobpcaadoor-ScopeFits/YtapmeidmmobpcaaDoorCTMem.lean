import Derived.Test.YtapmeidmmobpcaaDoorCTCur
import Derived.Test.YtapmeidmmobpcaaDoorCTName
namespace Go.Proofs.YtapmeidmmobpcaaDoor
open Go.RowKit
set_option linter.unusedVariables false
set_option linter.unusedSimpArgs false

/-- a node in memory -/
structure NdAt (w : World) (B b o : Nat) (n : Nd) (ka : Option Addr) (kc : Nat) : Prop where
  c0 : w.cell? ⟨b, o, none⟩ = some (.int .i64 n.kind)
  c1 : w.cell? ⟨b, o + 1, none⟩ = some (.int .i64 n.pos)
  c2 : w.cell? ⟨b, o + 2, none⟩ = some (.slice ka n.kids.length kc)
  c3 : w.cell? ⟨b, o + 3, none⟩ = some (.string n.name)
  c4 : w.cell? ⟨b, o + 4, none⟩ = some (.int .i64 n.num)
  kids : IntsV w B (.slice ka n.kids.length kc) n.kids
def I64 (x : Int) : Prop := -9223372036854775808 ≤ x ∧ x ≤ 9223372036854775807
structure NdWf (n : Nd) : Prop where
  kind : I64 n.kind
  pos : I64 n.pos
  num : I64 n.num
  name : n.name.size ≤ maxLen
  kids : ∀ k ∈ n.kids, I64 k
/-- nodes in memory, below a block's number -/
structure Nodes (w : World) (B nb no nc : Nat) (l : List Nd) : Prop where
  at_ : ∀ j, j < l.length → ∃ ka kc, NdAt w B nb (no + j * 5) (ndN l j) ka kc
  wf : ∀ j, j < l.length → NdWf (ndN l j)
  lo : nb < B
  hi : B ≤ w.heap.size
  max : l.length ≤ maxLen
  cap : l.length ≤ nc
theorem NdAt.below {w w' : World} {B b o : Nat} {n : Nd} {ka : Option Addr} {kc : Nat} (h : NdAt w B b o n ka kc) (hb : Below B w w') (hlt : b < B) : NdAt w' B b o n ka kc := by
  have hc : ∀ i, w'.cell? ⟨b, i, none⟩ = w.cell? ⟨b, i, none⟩ := fun i => hb.cell (p := ⟨b, i, none⟩) hlt
  exact ⟨by rw [hc]; exact h.c0, by rw [hc]; exact h.c1, by rw [hc]; exact h.c2, by rw [hc]; exact h.c3, by rw [hc]; exact h.c4, h.kids.below hb⟩
theorem Nodes.below {w w' : World} {B nb no nc : Nat} {l : List Nd} (h : Nodes w B nb no nc l) (hb : Below B w w') : Nodes w' B nb no nc l := by
  refine ⟨fun j hj => ?_, h.wf, h.lo, Nat.le_trans h.hi hb.size, h.max, h.cap⟩
  obtain ⟨ka, kc, hn⟩ := h.at_ j hj
  exact ⟨ka, kc, hn.below hb h.lo⟩
theorem Nodes.kinds {w : World} {B nb no nc : Nat} {l : List Nd} (h : Nodes w B nb no nc l) (j : Nat) (hj : j < l.length) : w.cell? ⟨nb, no + j * 5, none⟩ = some (.int .i64 (kdN l j)) := by
  obtain ⟨ka, kc, hn⟩ := h.at_ j hj
  exact hn.c0

/-- all nodes ahead of i have kids ahead of them, and one where one is followed -/
def Led (l : List Nd) (i : Nat) : Prop := ∀ j, j < i → (22 ≤ kdN l j → kdN l j ≤ 25 → ∃ k : Nat, ∃ r, (ndN l j).kids = (k : Int) :: r ∧ k < j)

theorem ndAt_nat (l : List Nd) (k : Nat) : ndAt l (k : Int) = ndN l k := rfl
theorem begins_step {l : List Nd} {f : Nat} {k k' : Nat} {r : List Int} (h1 : 22 ≤ kdN l k) (h2 : kdN l k ≤ 25) (hk : (ndN l k).kids = (k' : Int) :: r) : beginsI l (f + 1) k = beginsI l f k' := by
  unfold kdN at *
  rw [beginsI, ndAt_nat, if_pos ⟨h1, h2⟩, hk]
  rfl
theorem begins_end {l : List Nd} {f : Nat} {k : Nat} (h : ¬ (22 ≤ kdN l k ∧ kdN l k ≤ 25)) : beginsI l (f + 1) k = (kdN l k == 21 && (ndN l k).num == 3) := by
  unfold kdN at *
  rw [beginsI, ndAt_nat, if_neg h]

set_option maxHeartbeats 1000000 in
theorem begins_any (w : World) (B nb no nc : Nat) (l : List Nd) (i k f : Nat) (hn : Nodes w B nb no nc l) (hl : Led l i) (hi : i ≤ l.length) (hk : k < i) (hf : k < f) :
    Calls Tryd.prog 58 #[.slice (some ⟨nb, no, none⟩) l.length nc, .int .i64 k] w fun e w' => e = .returned (.bool (beginsI l f k)) ∧ w = w' := by
  have hmax := hn.max
  unfold maxLen at hmax
  generalize hF : beginsI l f k = F
  have HS : Bx (k < f ∧ beginsI l f k = F) := ⟨hf, hF⟩
  clear hF hf
  go_enter Tryd.func58, Tryd.ntmps58
  go_wp2
  go_loop [1] (fun x => ∃ j f : Nat, j < i ∧ x = .int .i64 j ∧ Bx (j < f ∧ beginsI l f j = F)) (fun x => (intOf x).toNat)
  case atStart => exact ⟨k, f, hk, rfl, HS⟩
  case round =>
    obtain ⟨j, g, hj, rfl, HR⟩ := hrel
    obtain ⟨g, rfl⟩ : ∃ g', g = g' + 1 := ⟨g - 1, by have := HR.out.1; omega⟩
    obtain ⟨ka, kc, ⟨c0, c1, c2, c3, c4, hkk⟩⟩ := hn.at_ j (by omega)
    have hjl : j < l.length := by omega
    change w.cell? _ = some (.int .i64 (kdN l j)) at c0
    by_cases hkd : 22 ≤ kdN l j ∧ kdN l j ≤ 25
    · obtain ⟨k', r, hks, hlt⟩ := hl j hj hkd.1 hkd.2
      have HR2 : Bx (k' < g ∧ beginsI l g k' = F) := ⟨by have := HR.out.1; omega, by rw [← HR.out.2, begins_step hkd.1 hkd.2 hks]⟩
      obtain ⟨a, cap, he, h1, h2, h3⟩ := hkk.ex
      simp only [Value.slice.injEq, true_and] at he
      obtain ⟨rfl, rfl⟩ := he
      rw [hks] at h3
      obtain ⟨b, o, rfl, hbB, hcell⟩ := h3 (by simp)
      have hc0 := hcell 0 (by simp)
      simp only [List.getElem_cons_zero, Nat.add_zero] at hc0
      have hlen : 0 < (ndN l j).kids.length := by rw [hks]; simp
      generalize (ndN l j).kids.length = nk at *
      clear hcell h3 hks hkk HR HS hl hn
      unfold maxLen at h2
      generalize kdN l j = kd at *
      obtain ⟨q1, q2⟩ := hkd
      have hcs : kd = 22 ∨ kd = 23 ∨ kd = 24 ∨ kd = 25 := by omega
      rcases hcs with rfl | rfl | rfl | rfl <;>
      · go_wp2
        go_round
        case rel => exact ⟨k', g, by omega, rfl, HR2⟩
        case measure => simp [intOf]; omega
    · have HR2 : Bx ((kdN l j == 21 && (ndN l j).num == 3) = F) := ⟨by rw [← HR.out.2, begins_end hkd]⟩
      clear HR HS hl hn hkk
      generalize (ndN l j).num = nu at *
      generalize kdN l j = kd at *
      have e1 : (kd == 22) = false := by rw [beq_eq_false_iff_ne]; omega
      have e2 : (kd == 23) = false := by rw [beq_eq_false_iff_ne]; omega
      have e3 : (kd == 24) = false := by rw [beq_eq_false_iff_ne]; omega
      have e4 : (kd == 25) = false := by rw [beq_eq_false_iff_ne]; omega
      clear hkd
      cases e5 : (kd == 21)
      · go_wp2
        go_ret
        exact ⟨ret_bool (by rw [← HR2.out, e5]; rfl), rfl⟩
      · go_wp2
        go_ret
        exact ⟨ret_bool (by rw [← HR2.out, e5]; rfl), rfl⟩
end Go.Proofs.YtapmeidmmobpcaaDoor
