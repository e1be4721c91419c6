import Derived.Test.YtjabdhmkibahlaaCGC
namespace Go.Proofs.Ytjabdhmkibahlaa
open Go.RowKit
set_option linter.unusedVariables false
set_option linter.unusedSimpArgs false

theorem blz {a b c : World} (h1 : Below a.heap.size a b) (h2 : Below b.heap.size b c) : Below a.heap.size a c := h1.trans (h2.mono h1.size)
set_option maxRecDepth 100000 in
set_option maxHeartbeats 1000000 in
theorem rholds_any (w : World) (id : Int) (aw : Bool) (arms : List Hd) (held : List Int) (ap hp : Option Addr) (ac hc : Nat) (h : IntsR w hp hc held) (n : Int) (hn : I64 n) :
    Calls Try.prog 97 #[.agg #[.int .i64 id, .bool aw, .slice ap arms.length ac, .slice hp held.length hc], .int .i64 n] w fun e w' => e = .returned (.bool (held.contains n)) ∧ Below w.heap.size w w' := by
  have hlc := h.len
  have hcm := h.max
  unfold maxLen at hcm
  have HS : Bx _ := ⟨h⟩
  obtain ⟨X, hX⟩ : ∃ X, w.alloc (.cells #[.int .i64 id, .bool aw, .slice ap arms.length ac, .slice hp held.length hc] 53) = X := ⟨_, rfl⟩
  have hbX : Below w.heap.size w X := by rw [← hX]; exact below1 _ _
  have hkX : X.heap[w.heap.size]? = some (.cells #[.int .i64 id, .bool aw, .slice ap arms.length ac, .slice hp held.length hc] 53 (0, 0)) := by rw [← hX]; exact World.alloc_heap_new _ _
  have d3 : X.cell? ⟨w.heap.size, 3, none⟩ = some (.slice hp held.length hc) := cell_of hkX rfl
  have HXE : Bx (_ = X) := ⟨hX⟩
  have BX : Bx (Below w.heap.size w X) := ⟨hbX⟩
  rw [← hX] at d3
  clear hX hbX hkX h
  go_enter Try.func97, Try.ntmps97
  go_wp2
  rw [HXE.out]
  clear d3
  go_loopg [10] (held.length + 1) (fun k v10 wr => ∃ i : Nat, k = held.length + 1 - i ∧ i ≤ held.length ∧ v10 = .int .i64 i ∧ Bx ((held.drop i).contains n = held.contains n ∧ wr = X))
  case atStart => exact ⟨0, by simp, by omega, rfl, ⟨by simp, rfl⟩⟩
  case round =>
    obtain ⟨i, hk, hil, rfl, HR⟩ := hrel
    by_cases hlt : i < held.length
    · obtain ⟨b, o, rfl, _, hc2⟩ := HS.out.at_ i hlt
      have c0 := hc2 wr (by rw [HR.out.2]; exact BX.out)
      have HD : Bx ((held.drop i).contains n = (n == held[i] || (held.drop (i + 1)).contains n)) := ⟨by rw [List.drop_eq_getElem_cons hlt, List.contains_cons]⟩
      clear hc2 HS
      generalize held[i] = z at *
      by_cases hz : z = n
      · subst hz
        have HF : Bx (held.contains z = true) := ⟨by rw [← HR.out.1, HD.out]; simp⟩
        go_wp2
        go_ret
        exact ⟨by rw [HF.out]; rfl, by rw [HR.out.2]; exact BX.out⟩
      · have HF : Bx ((held.drop (i + 1)).contains n = held.contains n) := ⟨by
          rw [← HR.out.1, HD.out]
          have : (n == z) = false := beq_eq_false_iff_ne.2 (fun e => hz e.symm)
          rw [this, Bool.false_or]⟩
        go_wp2
        go_roundg (held.length + 1 - (i + 1))
        case measure => omega
        case rel => exact ⟨i + 1, rfl, by omega, by simp, ⟨HF.out, HR.out.2⟩⟩
    · have hie : i = held.length := by omega
      subst hie
      have HF : Bx (held.contains n = false) := ⟨by rw [← HR.out.1, List.drop_length]; rfl⟩
      go_wp2
      go_ret
      exact ⟨by rw [HF.out]; rfl, by rw [HR.out.2]; exact BX.out⟩
/-- the first agent of a level, not this one, that holds a channel -/
def hlF (me : Nat) (lv : List Int) (k ch : Int) : Nat → List Ag → Option Int
  | _, [] => none
  | i, a :: r => if i ≠ me ∧ lv[i]? = some k ∧ ch ≠ 0 ∧ a.held.contains ch = true then some a.id else hlF me lv k ch (i + 1) r
def hlI (s : List Ag) (me : Nat) (lv : List Int) (k ch : Int) : Option Int := hlF me lv k ch 0 s
set_option maxRecDepth 100000 in
set_option maxHeartbeats 1000000 in
theorem rholder_any (w : World) (p : Option Addr) (c : Nat) (s : List Ag) (h : AgsR w p c s) (me : Nat) (hme : me ≤ 4096) (q : Option Addr) (d : Nat) (lv : List Int) (hq : IntsR w q d lv) (hlv : lv.length = s.length) (k ch : Int) (hch : I64 ch) (hk64 : I64 k) :
    Calls Try.prog 84 #[.slice p s.length c, .int .i64 (me : Int), .slice q s.length d, .int .i64 k, .int .i64 ch] w fun e w' => e = .returned (.tuple #[.int .i64 ((hlI s me lv k ch).getD 0), .bool (hlI s me lv k ch).isSome]) ∧ Below w.heap.size w w' := by
  have hlc := h.len
  have hcm := h.max
  have qlc := hq.len
  have qcm := hq.max
  unfold maxLen at hcm qcm
  rw [hlv] at qlc
  have HS : Bx (AgsR w p c s ∧ IntsR w q d lv) := ⟨h, hq⟩
  clear h hq
  go_enter Try.func84, Try.ntmps84
  go_wp2
  go_loopg [16] (s.length + 1) (fun g v16 wr => ∃ i : Nat, g = s.length + 1 - i ∧ i ≤ s.length ∧ v16 = .int .i64 (i : Nat) ∧ Bx (Below w.heap.size w wr ∧ hlF me lv k ch i (s.drop i) = hlI s me lv k ch))
  case atStart => exact ⟨0, by simp, by omega, rfl, ⟨Below.refl _ _, by simp [hlI]⟩⟩
  case round =>
    obtain ⟨i, hg, hil, rfl, HR⟩ := hrel
    by_cases hlt : i < s.length
    · obtain ⟨b, o, ap, ac, hp, hc, rfl, hA, hcl⟩ := HS.out.1.at_ i hlt
      obtain ⟨c0, c1, c2, c3⟩ := hcl wr HR.out.1
      obtain ⟨qb, qo, rfl, _, hqc⟩ := HS.out.2.at_ i (by omega)
      have HD : Bx (hlF me lv k ch i (s.drop i) = if i ≠ me ∧ lv[i]? = some k ∧ ch ≠ 0 ∧ s[i].held.contains ch = true then some s[i].id else hlF me lv k ch (i + 1) (s.drop (i + 1))) := ⟨by rw [List.drop_eq_getElem_cons hlt, hlF]⟩
      obtain ⟨y, hy⟩ : ∃ y, lv[i]'(by omega) = y := ⟨_, rfl⟩
      have HLV : Bx (lv[i]? = some y) := ⟨by rw [List.getElem?_eq_getElem (by omega), hy]⟩
      have HQ : Bx (∀ V, Below w.heap.size w V → V.cell? ⟨qb, qo + i, none⟩ = some (.int .i64 y)) := ⟨fun V hV => by rw [← hy]; exact hqc V hV⟩
      have HHL : Bx (∀ V, Below w.heap.size w V → Calls Try.prog 97 #[.agg #[.int .i64 s[i].id, .bool s[i].awake, .slice ap s[i].arms.length ac, .slice hp s[i].held.length hc], .int .i64 ch] V fun e w' => e = .returned (.bool (s[i].held.contains ch)) ∧ Below V.heap.size V w') := ⟨fun V hV => rholds_any V s[i].id s[i].awake s[i].arms s[i].held ap hp ac hc (hA.held.later hV) ch hch⟩
      clear hcl hA hqc hy
      generalize s[i] = a at *
      obtain ⟨X, hX⟩ : ∃ X, wr.alloc (.cells #[.int .i64 a.id, .bool a.awake, .slice ap a.arms.length ac, .slice hp a.held.length hc] 53) = X := ⟨_, rfl⟩
      have hbX : Below wr.heap.size wr X := by rw [← hX]; exact below1 _ _
      have hkX : X.heap[wr.heap.size]? = some (.cells #[.int .i64 a.id, .bool a.awake, .slice ap a.arms.length ac, .slice hp a.held.length hc] 53 (0, 0)) := by rw [← hX]; exact World.alloc_heap_new _ _
      have HCE : Bx (∀ V, Below X.heap.size X V → V.cell? ⟨wr.heap.size, 0, none⟩ = some (.int .i64 a.id) ∧ V.cell? ⟨wr.heap.size, 1, none⟩ = some (.bool a.awake) ∧ V.cell? ⟨wr.heap.size, 2, none⟩ = some (.slice ap a.arms.length ac) ∧ V.cell? ⟨wr.heap.size, 3, none⟩ = some (.slice hp a.held.length hc)) := ⟨fun V hV => by
        have e := (hV.block _ (Array.getElem?_eq_some_iff.1 hkX).1).trans hkX
        exact ⟨cell_of e rfl, cell_of e rfl, cell_of e rfl, cell_of e rfl⟩⟩
      obtain ⟨d0, d1, d2, d3⟩ := HCE.out X (Below.refl _ _)
      have BX : Bx (Below w.heap.size w X) := ⟨blz HR.out.1 hbX⟩
      have z0 := HQ.out X BX.out
      have HXE : Bx (_ = X) := ⟨hX⟩
      rw [← hX] at d0 d1 d2 d3 z0
      clear hX hbX hkX
      by_cases h1 : i = me
      · subst h1
        have HN : Bx (hlF i lv k ch (i + 1) (s.drop (i + 1)) = hlI s i lv k ch) := ⟨by rw [← HR.out.2, HD.out, if_neg (fun h => h.1 rfl)]⟩
        go_wp2
        rw [HXE.out]
        go_roundg (s.length + 1 - (i + 1))
        case measure => omega
        case rel => exact ⟨i + 1, rfl, by omega, by simp, ⟨BX.out, HN.out⟩⟩
      · have g1 : ((i : Int) != (me : Int)) = true := by simp; omega
        by_cases h2 : y = k
        · subst h2
          by_cases h3 : ch = 0
          · subst h3
            have HN : Bx (hlF me lv y 0 (i + 1) (s.drop (i + 1)) = hlI s me lv y 0) := ⟨by rw [← HR.out.2, HD.out, if_neg (fun h => h.2.2.1 rfl)]⟩
            go_wp2
            rw [HXE.out]
            go_roundg (s.length + 1 - (i + 1))
            case measure => omega
            case rel => exact ⟨i + 1, rfl, by omega, by simp, ⟨BX.out, HN.out⟩⟩
          · have g3 : (ch != 0) = true := by simp; omega
            cases hh : a.held.contains ch with
            | true =>
              have HF : Bx (hlI s me lv y ch = some a.id) := ⟨by rw [← HR.out.2, HD.out, if_pos ⟨h1, HLV.out, h3, hh⟩]⟩
              rw [hh] at HHL
              go_wp2_with (first | (go_at_call 97; rw [HXE.out]; refine Calls.mono (HHL.out X BX.out) ?_; rintro e w5 ⟨rfl, hb5⟩; have B5 : Bx (Below w.heap.size w w5) := ⟨blz BX.out hb5⟩; obtain ⟨e0, _, _, _⟩ := HCE.out w5 hb5; clear hb5))
              exact bodyPost_ret (v := .tuple #[.int .i64 a.id, .bool true]) (by simp [results, Try.results84, go_sem]) rfl ⟨by rw [HF.out]; rfl, B5.out⟩
            | false =>
              have HN : Bx (hlF me lv y ch (i + 1) (s.drop (i + 1)) = hlI s me lv y ch) := ⟨by rw [← HR.out.2, HD.out, if_neg (fun h => by rw [hh] at h; cases h.2.2.2)]⟩
              rw [hh] at HHL
              go_wp2_with (first | (go_at_call 97; rw [HXE.out]; refine Calls.mono (HHL.out X BX.out) ?_; rintro e w5 ⟨rfl, hb5⟩; have B5 : Bx (Below w.heap.size w w5) := ⟨blz BX.out hb5⟩; clear hb5))
              go_roundg (s.length + 1 - (i + 1))
              case measure => omega
              case rel => exact ⟨i + 1, rfl, by omega, by simp, ⟨B5.out, HN.out⟩⟩
        · have g2 : (y == k) = false := beq_eq_false_iff_ne.2 h2
          have HN : Bx (hlF me lv k ch (i + 1) (s.drop (i + 1)) = hlI s me lv k ch) := ⟨by rw [← HR.out.2, HD.out, if_neg (fun h => by rw [HLV.out] at h; exact h2 (Option.some.inj h.2.1))]⟩
          go_wp2
          rw [HXE.out]
          go_roundg (s.length + 1 - (i + 1))
          case measure => omega
          case rel => exact ⟨i + 1, rfl, by omega, by simp, ⟨BX.out, HN.out⟩⟩
    · have hie : i = s.length := by omega
      subst hie
      have HF : Bx (hlI s me lv k ch = none) := ⟨by rw [← HR.out.2, List.drop_length]; rfl⟩
      go_wp2
      exact bodyPost_ret (v := .tuple #[.int .i64 0, .bool false]) (by simp [results, Try.results84, go_sem]) rfl ⟨by rw [HF.out]; rfl, HR.out.1⟩
end Go.Proofs.Ytjabdhmkibahlaa
