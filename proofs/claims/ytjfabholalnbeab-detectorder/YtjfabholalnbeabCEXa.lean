import Derived.Test.YtjfabholalnbeabCEX
import Derived.Test.YtjfabholalnbeabCEY
namespace Go.Proofs.Ytjfabholalnbeab
open Go.RowKit
set_option linter.unusedVariables false
set_option linter.unusedSimpArgs false

/-! ### who is among some; who is awake -/
def hasL (l : List Int) (n : Int) : Bool := l.any fun x => x == n
theorem hasL_iff {l : List Int} {n : Int} : hasL l n = true ↔ n ∈ l := by
  unfold hasL
  rw [List.any_eq_true]
  constructor
  · rintro ⟨x, h1, h2⟩
    have : x = n := by simpa using h2
    rw [← this]; exact h1
  · intro h; exact ⟨n, h, by simp⟩
set_option maxRecDepth 100000 in
set_option maxHeartbeats 2000000 in
theorem has_any (w : World) (p : Option Addr) (c : Nat) (l : List Int) (n : Int) (h : IntsR w p c l) (hn : I64 n) :
    Calls Try.prog 13 #[.slice p l.length c, .int .i64 n] w fun e w' => e = .returned (.bool (hasL l n)) ∧ w' = w := by
  have hlc := h.len
  have hcm := h.max
  unfold maxLen at hcm
  have HS : Bx _ := ⟨h⟩
  clear h
  go_enter Try.func13, Try.ntmps13
  go_wp2
  go_loopg [9] (l.length + 1) (fun k v9 wr => ∃ i : Nat, k = l.length + 1 - i ∧ i ≤ l.length ∧ v9 = .int .i64 i ∧ Bx (hasL (l.drop i) n = hasL l n ∧ wr = w))
  case atStart => exact ⟨0, by simp, by omega, rfl, ⟨by simp, rfl⟩⟩
  case round =>
    obtain ⟨i, hk, hil, rfl, HR⟩ := hrel
    by_cases hlt : i < l.length
    · obtain ⟨b, o, rfl, _, hc⟩ := HS.out.at_ i hlt
      have c0 := hc wr (by rw [HR.out.2]; exact Below.refl _ _)
      have HD : Bx (hasL (l.drop i) n = (l[i] == n || hasL (l.drop (i + 1)) n)) := ⟨by rw [List.drop_eq_getElem_cons hlt]; rfl⟩
      clear hc HS
      generalize l[i] = z at *
      by_cases hz : z = n
      · subst hz
        have HF : Bx (hasL l z = true) := ⟨by rw [← HR.out.1, HD.out]; simp⟩
        go_wp2
        go_ret
        exact ⟨by rw [HF.out]; rfl, HR.out.2⟩
      · have HF : Bx (hasL (l.drop (i + 1)) n = hasL l n) := ⟨by rw [← HR.out.1, HD.out]; simp [hz]⟩
        go_wp2
        go_roundg (l.length + 1 - (i + 1))
        case measure => omega
        case rel => exact ⟨i + 1, rfl, by omega, by simp, ⟨HF.out, HR.out.2⟩⟩
    · have hie : i = l.length := by omega
      subst hie
      have HF : Bx (hasL l n = false) := ⟨by rw [← HR.out.1, List.drop_length]; rfl⟩
      go_wp2
      go_ret
      exact ⟨by rw [HF.out]; rfl, HR.out.2⟩
def awkI : List Ag → Int → Bool
  | [], _ => false
  | a :: r, id => if a.id = id then a.awake else awkI r id
set_option maxRecDepth 100000 in
set_option maxHeartbeats 2000000 in
theorem awk_any (w : World) (p : Option Addr) (c : Nat) (s : List Ag) (n : Int) (h : AgsR w p c s) (hn : I64 n) :
    Calls Try.prog 14 #[.slice p s.length c, .int .i64 n] w fun e w' => e = .returned (.bool (awkI s n)) ∧ Below w.heap.size w w' := by
  have hlc := h.len
  have hcm := h.max
  unfold maxLen at hcm
  have HS : Bx _ := ⟨h⟩
  clear h
  go_enter Try.func14, Try.ntmps14
  go_wp2
  go_loopg [9] (s.length + 1) (fun k v9 wr => ∃ i : Nat, k = s.length + 1 - i ∧ i ≤ s.length ∧ v9 = .int .i64 i ∧ Bx (awkI (s.drop i) n = awkI s n ∧ Below w.heap.size w wr))
  case atStart => exact ⟨0, by simp, by omega, rfl, ⟨by simp, Below.refl _ _⟩⟩
  case round =>
    obtain ⟨i, hk, hil, rfl, HR⟩ := hrel
    by_cases hlt : i < s.length
    · obtain ⟨b, o, ap, ac, hp, hc, rfl, hA, hcl⟩ := HS.out.at_ i hlt
      obtain ⟨c0, c1, c2, c3⟩ := hcl wr HR.out.2
      have HD : Bx (awkI (s.drop i) n = if s[i].id = n then s[i].awake else awkI (s.drop (i + 1)) n) := ⟨by rw [List.drop_eq_getElem_cons hlt]; rfl⟩
      clear hcl hA HS
      generalize s[i] = a at *
      obtain ⟨id, aw, arms, held⟩ := a
      simp only at c0 c1 c2 c3 HD
      obtain ⟨X, hX⟩ : ∃ X, wr.alloc (.cells #[.int .i64 id, .bool aw, .slice ap arms.length ac, .slice hp held.length hc] 32) = X := ⟨_, rfl⟩
      have HB : Bx (Below w.heap.size w X) := ⟨by rw [← hX]; exact HR.out.2.trans ((below1 _ _).mono HR.out.2.size)⟩
      have hkX : X.heap[wr.heap.size]? = some (.cells #[.int .i64 id, .bool aw, .slice ap arms.length ac, .slice hp held.length hc] 32 (0, 0)) := by rw [← hX]; exact World.alloc_heap_new _ _
      have d0 : X.cell? ⟨wr.heap.size, 0, none⟩ = some (.int .i64 id) := cell_of hkX rfl
      have d1 : X.cell? ⟨wr.heap.size, 1, none⟩ = some (.bool aw) := cell_of hkX rfl
      have HXE : Bx (_ = X) := ⟨hX⟩
      rw [← hX] at d0 d1
      clear hX hkX
      by_cases hz : id = n
      · subst hz
        have HF : Bx (awkI s id = aw) := ⟨by rw [← HR.out.1, HD.out, if_pos rfl]⟩
        go_wp2
        rw [HXE.out]
        go_ret
        exact ⟨by rw [HF.out]; rfl, HB.out⟩
      · have HF : Bx (awkI (s.drop (i + 1)) n = awkI s n) := ⟨by rw [← HR.out.1, HD.out, if_neg hz]⟩
        go_wp2
        rw [HXE.out]
        go_roundg (s.length + 1 - (i + 1))
        case measure => omega
        case rel => exact ⟨i + 1, rfl, by omega, by simp, ⟨HF.out, HB.out⟩⟩
    · have hie : i = s.length := by omega
      subst hie
      have HF : Bx (awkI s n = false) := ⟨by rw [← HR.out.1, List.drop_length]; rfl⟩
      go_wp2
      go_ret
      exact ⟨by rw [HF.out]; rfl, HR.out.2⟩
theorem awk_in : ∀ (s : List Ag) (id : Int), awkI s id = true → ∃ a ∈ s, a.id = id ∧ a.awake = true
  | [], id, h => by cases h
  | a :: r, id, h => by
    rw [awkI] at h
    split at h
    · exact ⟨a, List.mem_cons_self, by assumption, h⟩
    · obtain ⟨b, h1, h2⟩ := awk_in r id h
      exact ⟨b, List.mem_cons_of_mem _ h1, h2⟩
end Go.Proofs.Ytjfabholalnbeab
