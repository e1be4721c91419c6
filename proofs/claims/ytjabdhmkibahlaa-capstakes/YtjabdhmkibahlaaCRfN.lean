import Derived.Test.YtjabdhmkibahlaaCRfB
import Derived.Test.YtjabdhmkibahlaaCGRp
namespace Go.Proofs.Ytjabdhmkibahlaa
open Go.RowKit
set_option linter.unusedVariables false
set_option linter.unusedSimpArgs false

/-! ### the reference's at and hand -/
def atV (s : List Ag) (n : Int) : Int := match rAt s n with
  | none => -1
  | some i => (i : Int)
theorem atV_found {s : List Ag} {n : Int} {i : Nat} (hi : i < s.length) (h : s[i].id = n) (hb : ∀ j (hj : j < s.length), j < i → s[j].id ≠ n) : atV s n = i := by
  have : rAt s n = some i := by
    unfold rAt
    refine List.findIdx?_eq_some_iff_getElem.2 ⟨hi, by simpa using h, fun j hj => ?_⟩
    have := hb j (by omega) hj
    simpa using this
  unfold atV
  rw [this]
theorem atV_none {s : List Ag} {n : Int} (hb : ∀ j (hj : j < s.length), s[j].id ≠ n) : atV s n = -1 := by
  have : rAt s n = none := by
    unfold rAt
    refine List.findIdx?_eq_none_iff.2 (fun a ha => ?_)
    obtain ⟨j, hj, rfl⟩ := List.getElem_of_mem ha
    have := hb j hj
    simpa using this
  unfold atV
  rw [this]
set_option maxRecDepth 100000 in
set_option maxHeartbeats 1000000 in
theorem rat_any (w : World) (p : Option Addr) (c : Nat) (s : List Ag) (n : Int) (h : AgsR w p c s) (hn : I64 n) :
    Calls Try.prog 61 #[.slice p s.length c, .int .i64 n] w fun e w' => e = .returned (.int .i64 (atV s n)) ∧ w' = w := by
  have hlc := h.len
  have hcm := h.max
  unfold maxLen at hcm
  have HS : Bx _ := ⟨h⟩
  clear h
  go_enter Try.func61, Try.ntmps61
  go_wp2
  go_loopg [5] (s.length + 1) (fun k v5 wr => ∃ i : Nat, k = s.length + 1 - i ∧ i ≤ s.length ∧ v5 = .int .i64 i ∧ Bx ((∀ j (hj : j < s.length), j < i → s[j].id ≠ n) ∧ wr = w))
  case atStart => exact ⟨0, by simp, by omega, rfl, ⟨fun j _ hj => absurd hj (by omega), rfl⟩⟩
  case round =>
    obtain ⟨i, hk, hil, rfl, HR⟩ := hrel
    by_cases hlt : i < s.length
    · obtain ⟨b, o, ap, ac, hp, hc, rfl, hA, hcl⟩ := HS.out.at_ i hlt
      obtain ⟨c0, c1, c2, c3⟩ := hcl wr (by rw [HR.out.2]; exact Below.refl _ _)
      have HD : Bx ((s[i].id = n → atV s n = i) ∧ (s[i].id ≠ n → ∀ j (hj : j < s.length), j < i + 1 → s[j].id ≠ n)) := ⟨fun e => atV_found hlt e HR.out.1, fun e j hj hji => by
        by_cases h1 : j = i
        · subst h1; exact e
        · exact HR.out.1 j hj (by omega)⟩
      clear hcl hA HS c1 c2 c3
      generalize s[i].id = z at *
      by_cases hz : z = n
      · subst hz
        have HF : Bx (atV s z = i) := ⟨HD.out.1 rfl⟩
        go_wp2
        go_ret
        exact ⟨by rw [HF.out]; rfl, HR.out.2⟩
      · have HF := HD.out.2 hz
        have HG : Bx _ := ⟨HF⟩
        clear HF HD
        go_wp2
        go_roundg (s.length + 1 - (i + 1))
        case measure => omega
        case rel => exact ⟨i + 1, rfl, by omega, by simp, ⟨HG.out, HR.out.2⟩⟩
    · have hie : i = s.length := by omega
      subst hie
      have HF : Bx (atV s n = -1) := ⟨atV_none (fun j hj => HR.out.1 j hj hj)⟩
      go_wp2
      go_ret
      exact ⟨by rw [HF.out]; rfl, HR.out.2⟩
set_option maxRecDepth 100000 in
set_option maxHeartbeats 2000000 in
theorem rhand_any (w : World) (a : Ag) (ap : Option Addr) (ac : Nat) (hp : Option Addr) (hc : Nat) (h : AgR w a ap ac hp hc) (n : Int) (hn : I64 n) (sd : Bool) :
    Calls Try.prog 43 #[agV a ap ac hp hc, .int .i64 n, .bool sd] w fun e w' => e = .returned (.bool (hnI a n sd)) ∧ Below w.heap.size w w' := by
  obtain ⟨id, aw, arms, held⟩ := a
  simp only [agV]
  have hS := h.arms
  simp only at hS
  have hlc := hS.len
  have hcm := hS.max
  unfold maxLen at hcm
  obtain ⟨W, hW⟩ : ∃ W, w.alloc (.cells #[.int .i64 id, .bool aw, .slice ap arms.length ac, .slice hp held.length hc] 53) = W := ⟨_, rfl⟩
  have hb : Below w.heap.size w W := by rw [← hW]; exact below1 _ _
  have hbk : W.heap[w.heap.size]? = some (.cells #[.int .i64 id, .bool aw, .slice ap arms.length ac, .slice hp held.length hc] 53 (0, 0)) := by rw [← hW]; exact World.alloc_heap_new _ _
  have d2 : W.cell? ⟨w.heap.size, 2, none⟩ = some (.slice ap arms.length ac) := cell_of hbk rfl
  have HN : Bx (hnI ⟨id, aw, arms, held⟩ n sd = arms.any fun h => h.chan == n && h.send == sd) := ⟨rfl⟩
  have HS : Bx (HdsR w ap ac arms) := ⟨hS⟩
  have HB : Bx (Below w.heap.size w W ∧ W.cell? ⟨w.heap.size, 2, none⟩ = some (.slice ap arms.length ac)) := ⟨hb, d2⟩
  have HXE : Bx (_ = W) := ⟨hW⟩
  clear h hS hbk d2 hb hW
  go_enter Try.func43, Try.ntmps43
  go_wp2
  rw [HXE.out]
  generalize hv : hnI ⟨id, aw, arms, held⟩ n sd = V at *
  go_loopg [7] (arms.length + 1) (fun k v7 wr => ∃ i : Nat, k = arms.length + 1 - i ∧ i ≤ arms.length ∧ v7 = .int .i64 i ∧ Bx ((arms.drop i).any (fun h => h.chan == n && h.send == sd) = V ∧ wr = W))
  case atStart => exact ⟨0, by simp, by omega, rfl, ⟨by rw [HN.out]; simp, rfl⟩⟩
  case round =>
    obtain ⟨i, hk, hil, rfl, HR⟩ := hrel
    have d2 : wr.cell? ⟨w.heap.size, 2, none⟩ = some (.slice ap arms.length ac) := by rw [HR.out.2]; exact HB.out.2
    by_cases hlt : i < arms.length
    · obtain ⟨b, o, rfl, h64, hcl⟩ := HS.out.at_ i hlt
      obtain ⟨c0, c1⟩ := hcl wr (by rw [HR.out.2]; exact HB.out.1)
      have HD : Bx ((arms.drop i).any (fun h => h.chan == n && h.send == sd) = ((arms[i].chan == n && arms[i].send == sd) || (arms.drop (i + 1)).any (fun h => h.chan == n && h.send == sd))) := ⟨by rw [List.drop_eq_getElem_cons hlt, List.any_cons]⟩
      clear hcl HS h64
      generalize arms[i].chan = z at *
      generalize arms[i].send = y at *
      by_cases hz : z = n
      · subst hz
        by_cases hy : y = sd
        · subst hy
          have HF : Bx (V = true) := ⟨by rw [← HR.out.1, HD.out]; simp⟩
          clear HD
          cases y <;> (go_wp2; go_ret; exact ⟨by rw [hv, HF.out]; rfl, by rw [HR.out.2]; exact HB.out.1⟩)
        · have HF : Bx ((arms.drop (i + 1)).any (fun h => h.chan == z && h.send == sd) = V) := ⟨by
            rw [← HR.out.1, HD.out]
            have : (y == sd) = false := beq_eq_false_iff_ne.2 hy
            rw [this, Bool.and_false, Bool.false_or]⟩
          clear HD
          cases y <;> cases sd <;> first
            | exact absurd rfl hy
            | (go_wp2
               go_roundg (arms.length + 1 - (i + 1))
               case measure => omega
               case rel => exact ⟨i + 1, rfl, by omega, by simp, ⟨HF.out, HR.out.2⟩⟩)
      · have HF : Bx ((arms.drop (i + 1)).any (fun h => h.chan == n && h.send == sd) = V) := ⟨by
          rw [← HR.out.1, HD.out]
          have : (z == n) = false := beq_eq_false_iff_ne.2 hz
          rw [this, Bool.false_and, Bool.false_or]⟩
        clear HD
        go_wp2
        go_roundg (arms.length + 1 - (i + 1))
        case measure => omega
        case rel => exact ⟨i + 1, rfl, by omega, by simp, ⟨HF.out, HR.out.2⟩⟩
    · have hie : i = arms.length := by omega
      subst hie
      have HF : Bx (V = false) := ⟨by rw [← HR.out.1, List.drop_length]; rfl⟩
      go_wp2
      go_ret
      exact ⟨by rw [hv, HF.out]; rfl, by rw [HR.out.2]; exact HB.out.1⟩
end Go.Proofs.Ytjabdhmkibahlaa
