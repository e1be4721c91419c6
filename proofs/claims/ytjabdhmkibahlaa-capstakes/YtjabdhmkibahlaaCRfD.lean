import Derived.Test.YtjabdhmkibahlaaCRfA
import Derived.Test.YtjabdhmkibahlaaCRfN
import Derived.Test.YtjabdhmkibahlaaCRfC
import Derived.Test.YtjabdhmkibahlaaCFL
namespace Go.Proofs.Ytjabdhmkibahlaa
open Go.RowKit
set_option linter.unusedVariables false
set_option linter.unusedSimpArgs false

theorem blz {a b c : World} (h1 : Below a.heap.size a b) (h2 : Below b.heap.size b c) : Below a.heap.size a c := h1.trans (h2.mono h1.size)
set_option maxRecDepth 100000 in
set_option maxHeartbeats 1000000 in
theorem rholds_any (w : World) (id : Int) (aw : Bool) (arms : List Hd) (held : List Int) (ap hp : Option Addr) (ac hc : Nat) (h : IntsR w hp hc held) (n : Int) (hn : I64 n) :
    Calls Try.prog 97 #[.agg #[.int .i64 id, .bool aw, .slice ap arms.length ac, .slice hp held.length hc], .int .i64 n] w fun e w' => e = .returned (.bool (held.contains n)) ∧ Below w.heap.size w w' := by
  have hlc := h.len
  have hcm := h.max
  unfold maxLen at hcm
  have HS : Bx _ := ⟨h⟩
  obtain ⟨X, hX⟩ : ∃ X, w.alloc (.cells #[.int .i64 id, .bool aw, .slice ap arms.length ac, .slice hp held.length hc] 53) = X := ⟨_, rfl⟩
  have hbX : Below w.heap.size w X := by rw [← hX]; exact below1 _ _
  have hkX : X.heap[w.heap.size]? = some (.cells #[.int .i64 id, .bool aw, .slice ap arms.length ac, .slice hp held.length hc] 53 (0, 0)) := by rw [← hX]; exact World.alloc_heap_new _ _
  have d3 : X.cell? ⟨w.heap.size, 3, none⟩ = some (.slice hp held.length hc) := cell_of hkX rfl
  have HXE : Bx (_ = X) := ⟨hX⟩
  have BX : Bx (Below w.heap.size w X) := ⟨hbX⟩
  rw [← hX] at d3
  clear hX hbX hkX h
  go_enter Try.func97, Try.ntmps97
  go_wp2
  rw [HXE.out]
  clear d3
  go_loopg [10] (held.length + 1) (fun k v10 wr => ∃ i : Nat, k = held.length + 1 - i ∧ i ≤ held.length ∧ v10 = .int .i64 i ∧ Bx ((held.drop i).contains n = held.contains n ∧ wr = X))
  case atStart => exact ⟨0, by simp, by omega, rfl, ⟨by simp, rfl⟩⟩
  case round =>
    obtain ⟨i, hk, hil, rfl, HR⟩ := hrel
    by_cases hlt : i < held.length
    · obtain ⟨b, o, rfl, _, hc2⟩ := HS.out.at_ i hlt
      have c0 := hc2 wr (by rw [HR.out.2]; exact BX.out)
      have HD : Bx ((held.drop i).contains n = (n == held[i] || (held.drop (i + 1)).contains n)) := ⟨by rw [List.drop_eq_getElem_cons hlt, List.contains_cons]⟩
      clear hc2 HS
      generalize held[i] = z at *
      by_cases hz : z = n
      · subst hz
        have HF : Bx (held.contains z = true) := ⟨by rw [← HR.out.1, HD.out]; simp⟩
        go_wp2
        go_ret
        exact ⟨by rw [HF.out]; rfl, by rw [HR.out.2]; exact BX.out⟩
      · have HF : Bx ((held.drop (i + 1)).contains n = held.contains n) := ⟨by
          rw [← HR.out.1, HD.out]
          have : (n == z) = false := beq_eq_false_iff_ne.2 (fun e => hz e.symm)
          rw [this, Bool.false_or]⟩
        go_wp2
        go_roundg (held.length + 1 - (i + 1))
        case measure => omega
        case rel => exact ⟨i + 1, rfl, by omega, by simp, ⟨HF.out, HR.out.2⟩⟩
    · have hie : i = held.length := by omega
      subst hie
      have HF : Bx (held.contains n = false) := ⟨by rw [← HR.out.1, List.drop_length]; rfl⟩
      go_wp2
      go_ret
      exact ⟨by rw [HF.out]; rfl, by rw [HR.out.2]; exact BX.out⟩
/-- the first agent of a level, not this one, that holds a channel -/
def hlF (me : Nat) (lv : List Int) (k ch : Int) : Nat → List Ag → Option Int
  | _, [] => none
  | i, a :: r => if i ≠ me ∧ lv[i]? = some k ∧ ch ≠ 0 ∧ a.held.contains ch = true then some a.id else hlF me lv k ch (i + 1) r
def hlI (s : List Ag) (me : Nat) (lv : List Int) (k ch : Int) : Option Int := hlF me lv k ch 0 s
set_option maxRecDepth 100000 in
set_option maxHeartbeats 1000000 in
theorem rholder_any (w : World) (p : Option Addr) (c : Nat) (s : List Ag) (h : AgsR w p c s) (me : Nat) (hme : me ≤ 4096) (q : Option Addr) (d : Nat) (lv : List Int) (hq : IntsR w q d lv) (hlv : lv.length = s.length) (k ch : Int) (hch : I64 ch) (hk64 : I64 k) :
    Calls Try.prog 84 #[.slice p s.length c, .int .i64 (me : Int), .slice q s.length d, .int .i64 k, .int .i64 ch] w fun e w' => e = .returned (.tuple #[.int .i64 ((hlI s me lv k ch).getD 0), .bool (hlI s me lv k ch).isSome]) ∧ Below w.heap.size w w' := by
  have hlc := h.len
  have hcm := h.max
  have qlc := hq.len
  have qcm := hq.max
  unfold maxLen at hcm qcm
  rw [hlv] at qlc
  have HS : Bx (AgsR w p c s ∧ IntsR w q d lv) := ⟨h, hq⟩
  clear h hq
  go_enter Try.func84, Try.ntmps84
  go_wp2
  go_loopg [16] (s.length + 1) (fun g v16 wr => ∃ i : Nat, g = s.length + 1 - i ∧ i ≤ s.length ∧ v16 = .int .i64 (i : Nat) ∧ Bx (Below w.heap.size w wr ∧ hlF me lv k ch i (s.drop i) = hlI s me lv k ch))
  case atStart => exact ⟨0, by simp, by omega, rfl, ⟨Below.refl _ _, by simp [hlI]⟩⟩
  case round =>
    obtain ⟨i, hg, hil, rfl, HR⟩ := hrel
    by_cases hlt : i < s.length
    · obtain ⟨b, o, ap, ac, hp, hc, rfl, hA, hcl⟩ := HS.out.1.at_ i hlt
      obtain ⟨c0, c1, c2, c3⟩ := hcl wr HR.out.1
      obtain ⟨qb, qo, rfl, _, hqc⟩ := HS.out.2.at_ i (by omega)
      have HD : Bx (hlF me lv k ch i (s.drop i) = if i ≠ me ∧ lv[i]? = some k ∧ ch ≠ 0 ∧ s[i].held.contains ch = true then some s[i].id else hlF me lv k ch (i + 1) (s.drop (i + 1))) := ⟨by rw [List.drop_eq_getElem_cons hlt, hlF]⟩
      obtain ⟨y, hy⟩ : ∃ y, lv[i]'(by omega) = y := ⟨_, rfl⟩
      have HLV : Bx (lv[i]? = some y) := ⟨by rw [List.getElem?_eq_getElem (by omega), hy]⟩
      have HQ : Bx (∀ V, Below w.heap.size w V → V.cell? ⟨qb, qo + i, none⟩ = some (.int .i64 y)) := ⟨fun V hV => by rw [← hy]; exact hqc V hV⟩
      have HHL : Bx (∀ V, Below w.heap.size w V → Calls Try.prog 97 #[.agg #[.int .i64 s[i].id, .bool s[i].awake, .slice ap s[i].arms.length ac, .slice hp s[i].held.length hc], .int .i64 ch] V fun e w' => e = .returned (.bool (s[i].held.contains ch)) ∧ Below V.heap.size V w') := ⟨fun V hV => rholds_any V s[i].id s[i].awake s[i].arms s[i].held ap hp ac hc (hA.held.later hV) ch hch⟩
      clear hcl hA hqc hy
      generalize s[i] = a at *
      obtain ⟨X, hX⟩ : ∃ X, wr.alloc (.cells #[.int .i64 a.id, .bool a.awake, .slice ap a.arms.length ac, .slice hp a.held.length hc] 53) = X := ⟨_, rfl⟩
      have hbX : Below wr.heap.size wr X := by rw [← hX]; exact below1 _ _
      have hkX : X.heap[wr.heap.size]? = some (.cells #[.int .i64 a.id, .bool a.awake, .slice ap a.arms.length ac, .slice hp a.held.length hc] 53 (0, 0)) := by rw [← hX]; exact World.alloc_heap_new _ _
      have HCE : Bx (∀ V, Below X.heap.size X V → V.cell? ⟨wr.heap.size, 0, none⟩ = some (.int .i64 a.id) ∧ V.cell? ⟨wr.heap.size, 1, none⟩ = some (.bool a.awake) ∧ V.cell? ⟨wr.heap.size, 2, none⟩ = some (.slice ap a.arms.length ac) ∧ V.cell? ⟨wr.heap.size, 3, none⟩ = some (.slice hp a.held.length hc)) := ⟨fun V hV => by
        have e := (hV.block _ (Array.getElem?_eq_some_iff.1 hkX).1).trans hkX
        exact ⟨cell_of e rfl, cell_of e rfl, cell_of e rfl, cell_of e rfl⟩⟩
      obtain ⟨d0, d1, d2, d3⟩ := HCE.out X (Below.refl _ _)
      have BX : Bx (Below w.heap.size w X) := ⟨blz HR.out.1 hbX⟩
      have z0 := HQ.out X BX.out
      have HXE : Bx (_ = X) := ⟨hX⟩
      rw [← hX] at d0 d1 d2 d3 z0
      clear hX hbX hkX
      by_cases h1 : i = me
      · subst h1
        have HN : Bx (hlF i lv k ch (i + 1) (s.drop (i + 1)) = hlI s i lv k ch) := ⟨by rw [← HR.out.2, HD.out, if_neg (fun h => h.1 rfl)]⟩
        go_wp2
        rw [HXE.out]
        go_roundg (s.length + 1 - (i + 1))
        case measure => omega
        case rel => exact ⟨i + 1, rfl, by omega, by simp, ⟨BX.out, HN.out⟩⟩
      · have g1 : ((i : Int) != (me : Int)) = true := by simp; omega
        by_cases h2 : y = k
        · subst h2
          by_cases h3 : ch = 0
          · subst h3
            have HN : Bx (hlF me lv y 0 (i + 1) (s.drop (i + 1)) = hlI s me lv y 0) := ⟨by rw [← HR.out.2, HD.out, if_neg (fun h => h.2.2.1 rfl)]⟩
            go_wp2
            rw [HXE.out]
            go_roundg (s.length + 1 - (i + 1))
            case measure => omega
            case rel => exact ⟨i + 1, rfl, by omega, by simp, ⟨BX.out, HN.out⟩⟩
          · have g3 : (ch != 0) = true := by simp; omega
            cases hh : a.held.contains ch with
            | true =>
              have HF : Bx (hlI s me lv y ch = some a.id) := ⟨by rw [← HR.out.2, HD.out, if_pos ⟨h1, HLV.out, h3, hh⟩]⟩
              rw [hh] at HHL
              go_wp2_with (first | (go_at_call 97; rw [HXE.out]; refine Calls.mono (HHL.out X BX.out) ?_; rintro e w5 ⟨rfl, hb5⟩; have B5 : Bx (Below w.heap.size w w5) := ⟨blz BX.out hb5⟩; obtain ⟨e0, _, _, _⟩ := HCE.out w5 hb5; clear hb5))
              exact bodyPost_ret (v := .tuple #[.int .i64 a.id, .bool true]) (by simp [results, Try.results84, go_sem]) rfl ⟨by rw [HF.out]; rfl, B5.out⟩
            | false =>
              have HN : Bx (hlF me lv y ch (i + 1) (s.drop (i + 1)) = hlI s me lv y ch) := ⟨by rw [← HR.out.2, HD.out, if_neg (fun h => by rw [hh] at h; cases h.2.2.2)]⟩
              rw [hh] at HHL
              go_wp2_with (first | (go_at_call 97; rw [HXE.out]; refine Calls.mono (HHL.out X BX.out) ?_; rintro e w5 ⟨rfl, hb5⟩; have B5 : Bx (Below w.heap.size w w5) := ⟨blz BX.out hb5⟩; clear hb5))
              go_roundg (s.length + 1 - (i + 1))
              case measure => omega
              case rel => exact ⟨i + 1, rfl, by omega, by simp, ⟨B5.out, HN.out⟩⟩
        · have g2 : (y == k) = false := beq_eq_false_iff_ne.2 h2
          have HN : Bx (hlF me lv k ch (i + 1) (s.drop (i + 1)) = hlI s me lv k ch) := ⟨by rw [← HR.out.2, HD.out, if_neg (fun h => by rw [HLV.out] at h; exact h2 (Option.some.inj h.2.1))]⟩
          go_wp2
          rw [HXE.out]
          go_roundg (s.length + 1 - (i + 1))
          case measure => omega
          case rel => exact ⟨i + 1, rfl, by omega, by simp, ⟨BX.out, HN.out⟩⟩
    · have hie : i = s.length := by omega
      subst hie
      have HF : Bx (hlI s me lv k ch = none) := ⟨by rw [← HR.out.2, List.drop_length]; rfl⟩
      go_wp2
      exact bodyPost_ret (v := .tuple #[.int .i64 0, .bool false]) (by simp [results, Try.results84, go_sem]) rfl ⟨by rw [HF.out]; rfl, HR.out.1⟩
end Go.Proofs.Ytjabdhmkibahlaa
namespace Go.Proofs.Ytjabdhmkibahlaa
open Go.RowKit
set_option linter.unusedVariables false
set_option linter.unusedSimpArgs false

theorem atV_some {s : List Ag} {n : Int} {i : Nat} (h : rAt s n = some i) : atV s n = i := by unfold atV; rw [h]
theorem atV_no {s : List Ag} {n : Int} (h : rAt s n = none) : atV s n = -1 := by unfold atV; rw [h]
/-- what is told of the link behind the first looks -/
def rfT (s : List Ag) (a : Ag) (l : Lk) (i : Nat) : Bool := if !hnI a l.chan false && !hnI a l.chan true then false else if l.waker = -1 then rfW a l.chan else rfO s l i
set_option maxRecDepth 100000 in
set_option maxHeartbeats 3000000 in
theorem rfits_any (w : World) (p : Option Addr) (c : Nat) (s : List Ag) (l : Lk) (h : AgsR w p c s) (h64 : Lk64 l) :
    Calls Try.prog 44 #[.slice p s.length c, lkV l] w fun e w' => e = .returned (.bool (rfI s l)) ∧ Below w.heap.size w w' := by
  have hlc := h.len
  have hcm := h.max
  unfold maxLen at hcm
  obtain ⟨lr, ln, lc⟩ := l
  simp only [lkV]
  obtain ⟨W, hW⟩ : ∃ W, w.alloc (.cells #[.int .i64 lr, .int .i64 ln, .int .i64 lc] 24) = W := ⟨_, rfl⟩
  have hb : Below w.heap.size w W := by rw [← hW]; exact below1 _ _
  have hbk : W.heap[w.heap.size]? = some (.cells #[.int .i64 lr, .int .i64 ln, .int .i64 lc] 24 (0, 0)) := by rw [← hW]; exact World.alloc_heap_new _ _
  have BW : Bx (Below w.heap.size w W) := ⟨hb⟩
  have HW : Bx (_ = W) := ⟨hW⟩
  have HC : Bx (∀ Y, Below W.heap.size W Y → Y.cell? ⟨w.heap.size, 0, none⟩ = some (.int .i64 lr) ∧ Y.cell? ⟨w.heap.size, 1, none⟩ = some (.int .i64 ln) ∧ Y.cell? ⟨w.heap.size, 2, none⟩ = some (.int .i64 lc)) := ⟨fun Y hY => by
    have e := (hY.block w.heap.size (Array.getElem?_eq_some_iff.1 hbk).1).trans hbk
    exact ⟨cell_of e rfl, cell_of e rfl, cell_of e rfl⟩⟩
  have HA1 : Bx (∀ Y, Below W.heap.size W Y → Calls Try.prog 61 #[.slice p s.length c, .int .i64 ln] Y fun e w' => e = .returned (.int .i64 (atV s ln)) ∧ w' = Y) := ⟨fun Y hY => rat_any Y p c s ln (h.later (blz hb hY)) h64.woken⟩
  have HA2 : Bx (∀ Y, Below W.heap.size W Y → Calls Try.prog 61 #[.slice p s.length c, .int .i64 lr] Y fun e w' => e = .returned (.int .i64 (atV s lr)) ∧ w' = Y) := ⟨fun Y hY => rat_any Y p c s lr (h.later (blz hb hY)) h64.waker⟩
  have HS : Bx (AgsR w p c s) := ⟨h⟩
  have H64 : Bx (Lk64 ⟨lr, ln, lc⟩) := ⟨h64⟩
  have ⟨k0, k1, k2⟩ := HC.out W (Below.refl _ _)
  have B1 : Bx (Below W.heap.size W W) := ⟨Below.refl _ _⟩
  clear hW hbk hb h h64
  by_cases hc1 : lc < 1
  · have HE : Bx (rfI s ⟨lr, ln, lc⟩ = false) := ⟨by unfold rfI; rw [if_pos hc1]⟩
    go_enter Try.func44, Try.ntmps44
    go_wp2_with (first | (go_at_call 61; rw [HW.out]; refine Calls.mono (HA1.out W (Below.refl _ _)) ?_; rintro e w1 ⟨rfl, hw1⟩; rw [hw1]; clear hw1 w1))
    go_ret
    exact ⟨by rw [HE.out]; rfl, BW.out⟩
  have HE1 : Bx (rfI s ⟨lr, ln, lc⟩ = match rAt s ln with
    | none => false
    | some i => if (agA s i).awake then false else rfT s (agA s i) ⟨lr, ln, lc⟩ i) := ⟨by unfold rfI; rw [if_neg hc1]; rfl⟩
  have hcd : decide (lc < 1) = false := by simpa using hc1
  cases hat : rAt s ln with
  | none =>
    have HE : Bx (rfI s ⟨lr, ln, lc⟩ = false) := ⟨by rw [HE1.out, hat]⟩
    simp only [atV_no hat] at HA1
    clear hat HE1 HA2
    go_enter Try.func44, Try.ntmps44
    go_wp2_with (first | (go_at_call 61; rw [HW.out]; refine Calls.mono (HA1.out W (Below.refl _ _)) ?_; rintro e w1 ⟨rfl, hw1⟩; rw [hw1]; clear hw1 w1))
    go_ret
    exact ⟨by rw [HE.out]; rfl, BW.out⟩
  | some i =>
  obtain ⟨hi, hag, hid⟩ := rAt_some hat
  obtain ⟨b, o, ap, ac, hp, hc, rfl, hA, hcl⟩ := HS.out.at_ i hi
  have HV : Bx (atV s ln = i) := ⟨atV_some hat⟩
  have HI : Bx (∀ V, Below w.heap.size w V → V.cell? ⟨b, o + i * 4, none⟩ = some (.int .i64 s[i].id) ∧ V.cell? ⟨b, o + i * 4 + 1, none⟩ = some (.bool s[i].awake) ∧ V.cell? ⟨b, o + i * 4 + 2, none⟩ = some (.slice ap s[i].arms.length ac) ∧ V.cell? ⟨b, o + i * 4 + 3, none⟩ = some (.slice hp s[i].held.length hc)) := ⟨hcl⟩
  obtain ⟨bi, hbi⟩ : ∃ x, x = hnI s[i] lc false := ⟨_, rfl⟩
  obtain ⟨bo, hbo⟩ : ∃ x, x = hnI s[i] lc true := ⟨_, rfl⟩
  have HHf : Bx (∀ Y, Below W.heap.size W Y → Calls Try.prog 43 #[agV s[i] ap ac hp hc, .int .i64 lc, .bool false] Y fun e w' => e = .returned (.bool bi) ∧ Below Y.heap.size Y w') := ⟨fun Y hY => by rw [hbi]; exact rhand_any Y s[i] ap ac hp hc (hA.later (blz BW.out hY)) lc H64.out.chan false⟩
  have HHt : Bx (∀ Y, Below W.heap.size W Y → Calls Try.prog 43 #[agV s[i] ap ac hp hc, .int .i64 lc, .bool true] Y fun e w' => e = .returned (.bool bo) ∧ Below Y.heap.size Y w') := ⟨fun Y hY => by rw [hbo]; exact rhand_any Y s[i] ap ac hp hc (hA.later (blz BW.out hY)) lc H64.out.chan true⟩
  have HE2 : Bx (rfI s ⟨lr, ln, lc⟩ = if s[i].awake then false else if !bi && !bo then false else if lr = -1 then (lc == 1 && bi || lc == 2 && bo) else rfO s ⟨lr, ln, lc⟩ i) := ⟨by rw [HE1.out, hat]; simp only [hag]; unfold rfT rfW; rw [hbi, hbo]⟩
  have HO : Bx (rfO s ⟨lr, ln, lc⟩ i = match rAt s lr with
    | none => false
    | some k => if k = i then false else if (agA s k).awake then (agA s k).held.contains lc else bi && hnI (agA s k) lc true || bo && hnI (agA s k) lc false) := ⟨by unfold rfO rfB; simp only [hag]; rw [hbi, hbo]; rfl⟩
  simp only [agV] at HHf HHt
  simp only [HV.out] at HA1
  have hi2 : (i : Int) < (s.length : Int) := by omega
  have hi1 : (0 : Int) ≤ (i : Int) := by omega
  clear hat HE1 HV hA hcl hag hid hbi hbo
  obtain ⟨s0, s1, s2, s3⟩ := HI.out W BW.out
  generalize s[i] = a at *
  cases haw : a.awake with
  | true =>
    have HE : Bx (rfI s ⟨lr, ln, lc⟩ = false) := ⟨by rw [HE2.out, haw]; rfl⟩
    rw [haw] at s1
    clear HE2 HO HHf HHt HI
    go_enter Try.func44, Try.ntmps44
    go_wp2_with (first | (go_at_call 61; rw [HW.out]; refine Calls.mono (HA1.out W (Below.refl _ _)) ?_; rintro e w1 ⟨rfl, hw1⟩; rw [hw1]; clear hw1 w1))
    go_ret
    exact ⟨by rw [HE.out]; rfl, BW.out⟩
  | false =>
  rw [haw] at s1
  rw [haw] at HE2
  simp only [Bool.false_eq_true, if_false] at HE2
  go_enter Try.func44, Try.ntmps44
  go_wp2_with (first | (go_at_call 61; rw [HW.out]; refine Calls.mono (HA1.out W (Below.refl _ _)) ?_; rintro e w1 ⟨rfl, hw1⟩; rw [hw1]; clear hw1 w1))
  clear s0 s1 s2 s3 k0 k1 k2 HA1
  refine region_flowL [?fi1x0, ?fi1x1, ?fi1x2, ?fi1x3, ?fi1x4, ?fi1x5, .bool bi, ?fi1x7] (fun Y => Below W.heap.size W Y) (by kernel_rfl) (by decide +kernel) ((B1.out).drew) (flowF 27 7 (by decide +kernel) (by rfl) (by exact Nat.le_of_ble_eq_true rfl) (by exact Nat.le_of_ble_eq_true rfl) (by simp only [List.drop_succ_cons, List.drop_zero, List.drop_nil, List.take_succ_cons, List.take_zero, List.cons_append, List.nil_append, flowEnd, Act.put, List.setIfInBounds_toArray, List.set_cons_zero, List.set_cons_succ]; rfl)) ?fi1st ?fi1en
  case fi1st =>
    refine flow_cons (flow_pure (by rfl) (fun Y hY => ?_)) ?_
    · go_simp; try rfl
    refine flow_cons (flow_pure (by rfl) (fun Y hY => ?_)) ?_
    · go_simp; try rfl
    refine flow_cons (flow_pure (by rfl) (fun Y hY => ?_)) ?_
    · go_simp; try rfl
    refine flow_cons (flow_pure (by rfl) (fun Y hY => ?_)) ?_
    · obtain ⟨s0, s1, s2, s3⟩ := HI.out Y (blz BW.out hY); go_simp; try rfl
    refine flow_cons (flow_pure (by rfl) (fun Y hY => ?_)) ?_
    · go_simp; try rfl
    refine flow_cons (flow_pure (by rfl) (fun Y hY => ?_)) ?_
    · have s4 := (HC.out Y hY).2.2; go_simp; try rfl
    refine flow_cons (flow_call 43 #[.agg #[.int .i64 a.id, .bool a.awake, .slice ap a.arms.length ac, .slice hp a.held.length hc], .int .i64 lc, .bool false] (by rfl) (fun Y hY => ?_) (fun Y hY => ?_)) ?_
    · simp only [execOp]; go_simp
    · refine Calls.mono (HHf.out Y hY) ?_; rintro e z ⟨rfl, hb⟩; exact ⟨rfl, hY.trans (hb.mono hY.size)⟩
    refine flow_cons (flow_pure (by rfl) (fun Y hY => ?_)) ?_
    · go_simp; try rfl
    exact flow_nil
  intro w4 hz4
  have B4 : Bx _ := ⟨hz4⟩
  clear hz4
  go_wp2
  refine region_flowL [?fi2x0, ?fi2x1, ?fi2x2, ?fi2x3, ?fi2x4, ?fi2x5, .bool bo, ?fi2x7] (fun Y => Below W.heap.size W Y) (by kernel_rfl) (by decide +kernel) (B4.out.drew) (flowF 34 7 (by decide +kernel) (by rfl) (by exact Nat.le_of_ble_eq_true rfl) (by exact Nat.le_of_ble_eq_true rfl) (by simp only [List.drop_succ_cons, List.drop_zero, List.drop_nil, List.take_succ_cons, List.take_zero, List.cons_append, List.nil_append, flowEnd, Act.put, List.setIfInBounds_toArray, List.set_cons_zero, List.set_cons_succ]; rfl)) ?fi2st ?fi2en
  case fi2st =>
    refine flow_cons (flow_pure (by rfl) (fun Y hY => ?_)) ?_
    · go_simp; try rfl
    refine flow_cons (flow_pure (by rfl) (fun Y hY => ?_)) ?_
    · go_simp; try rfl
    refine flow_cons (flow_pure (by rfl) (fun Y hY => ?_)) ?_
    · go_simp; try rfl
    refine flow_cons (flow_pure (by rfl) (fun Y hY => ?_)) ?_
    · obtain ⟨s0, s1, s2, s3⟩ := HI.out Y (blz BW.out hY); go_simp; try rfl
    refine flow_cons (flow_pure (by rfl) (fun Y hY => ?_)) ?_
    · go_simp; try rfl
    refine flow_cons (flow_pure (by rfl) (fun Y hY => ?_)) ?_
    · have s4 := (HC.out Y hY).2.2; go_simp; try rfl
    refine flow_cons (flow_call 43 #[.agg #[.int .i64 a.id, .bool a.awake, .slice ap a.arms.length ac, .slice hp a.held.length hc], .int .i64 lc, .bool true] (by rfl) (fun Y hY => ?_) (fun Y hY => ?_)) ?_
    · simp only [execOp]; go_simp
    · refine Calls.mono (HHt.out Y hY) ?_; rintro e z ⟨rfl, hb⟩; exact ⟨rfl, hY.trans (hb.mono hY.size)⟩
    refine flow_cons (flow_pure (by rfl) (fun Y hY => ?_)) ?_
    · go_simp; try rfl
    exact flow_nil
  intro w5 hz5
  clear B4 HHf HHt HI
  have B5 : Bx (Below W.heap.size W w5) := ⟨hz5⟩
  obtain ⟨k0, k1, k2⟩ := HC.out w5 hz5
  clear hz5
  by_cases hno : bi = false ∧ bo = false
  · obtain ⟨rfl, rfl⟩ := hno
    have HE : Bx (rfI s ⟨lr, ln, lc⟩ = false) := ⟨by rw [HE2.out]; rfl⟩
    clear HE2 HO HA2
    go_wp2
    go_ret
    exact ⟨by rw [HE.out]; rfl, blz BW.out B5.out⟩
  have HE3 : Bx (rfI s ⟨lr, ln, lc⟩ = if lr = -1 then (lc == 1 && bi || lc == 2 && bo) else rfO s ⟨lr, ln, lc⟩ i) := ⟨by
    rw [HE2.out, if_neg]
    intro hh
    rw [Bool.and_eq_true] at hh
    apply hno
    cases bi <;> cases bo <;> simp_all⟩
  clear HE2
  by_cases hr : lr = -1
  · subst hr
    have HE : Bx (rfI s ⟨-1, ln, lc⟩ = (lc == 1 && bi || lc == 2 && bo)) := ⟨by rw [HE3.out, if_pos rfl]⟩
    clear HE3 HO HA2
    by_cases h1 : lc = 1
    · subst h1
      cases bi <;> cases bo <;> first
        | exact absurd ⟨rfl, rfl⟩ hno
        | (go_wp2; go_ret; exact ⟨by rw [HE.out]; rfl, blz BW.out B5.out⟩)
    · by_cases h2 : lc = 2
      · subst h2
        cases bi <;> cases bo <;> first
          | exact absurd ⟨rfl, rfl⟩ hno
          | (go_wp2; go_ret; exact ⟨by rw [HE.out]; rfl, blz BW.out B5.out⟩)
      · have HF : Bx (rfI s ⟨-1, ln, lc⟩ = false) := ⟨by
          rw [HE.out, beq_eq_false_iff_ne.2 h1, beq_eq_false_iff_ne.2 h2]; rfl⟩
        clear HE
        cases bi <;> cases bo <;> first
          | exact absurd ⟨rfl, rfl⟩ hno
          | (go_wp2; go_ret; exact ⟨by rw [HF.out]; rfl, blz BW.out B5.out⟩)
  have HE4 : Bx (rfI s ⟨lr, ln, lc⟩ = rfO s ⟨lr, ln, lc⟩ i) := ⟨by rw [HE3.out, if_neg hr]⟩
  clear HE3
  cases hat : rAt s lr with
  | none =>
    have HE : Bx (rfI s ⟨lr, ln, lc⟩ = false) := ⟨by rw [HE4.out, HO.out, hat]⟩
    simp only [atV_no hat] at HA2
    clear hat HE4 HO
    cases bi <;> cases bo <;> first
      | exact absurd ⟨rfl, rfl⟩ hno
      | (go_wp2_with (first | (go_at_call 61; refine Calls.mono (HA2.out w5 B5.out) ?_; rintro e w1 ⟨rfl, hw1⟩; rw [hw1]; clear hw1 w1))
         go_ret
         exact ⟨by rw [HE.out]; rfl, blz BW.out B5.out⟩)
  | some k =>
  obtain ⟨hk, hagk, hidk⟩ := rAt_some hat
  simp only [atV_some hat] at HA2
  have hk2 : (k : Int) < (s.length : Int) := by omega
  have hk1 : (0 : Int) ≤ (k : Int) := by omega
  by_cases hki : k = i
  · subst hki
    have HE : Bx (rfI s ⟨lr, ln, lc⟩ = false) := ⟨by rw [HE4.out, HO.out, hat]; simp⟩
    clear hat HE4 HO hagk
    cases bi <;> cases bo <;> first
      | exact absurd ⟨rfl, rfl⟩ hno
      | (go_wp2_with (first | (go_at_call 61; refine Calls.mono (HA2.out w5 B5.out) ?_; rintro e w1 ⟨rfl, hw1⟩; rw [hw1]; clear hw1 w1))
         go_ret
         exact ⟨by rw [HE.out]; rfl, blz BW.out B5.out⟩)
  have hkiI : ((k : Int) == (i : Int)) = false := beq_eq_false_iff_ne.2 (by omega)
  have hkn : ¬ ((k : Int) < 0) := by omega
  obtain ⟨b', o', bp, bc, kp, kc, hbo, hAk, hclk⟩ := HS.out.at_ k hk
  cases hbo
  have HK : Bx (∀ V, Below w.heap.size w V → V.cell? ⟨b, o + k * 4, none⟩ = some (.int .i64 s[k].id) ∧ V.cell? ⟨b, o + k * 4 + 1, none⟩ = some (.bool s[k].awake) ∧ V.cell? ⟨b, o + k * 4 + 2, none⟩ = some (.slice bp s[k].arms.length bc) ∧ V.cell? ⟨b, o + k * 4 + 3, none⟩ = some (.slice kp s[k].held.length kc)) := ⟨hclk⟩
  obtain ⟨x, hx⟩ : ∃ x, x = hnI s[k] lc true := ⟨_, rfl⟩
  obtain ⟨y, hy⟩ : ∃ x, x = hnI s[k] lc false := ⟨_, rfl⟩
  have HE5 : Bx (rfI s ⟨lr, ln, lc⟩ = if s[k].awake then s[k].held.contains lc else bi && x || bo && y) := ⟨by rw [HE4.out, HO.out, hat]; simp only [if_neg hki, hagk]; rw [hx, hy]⟩
  have HHas : Bx (∀ Y, Below W.heap.size W Y → Calls Try.prog 62 #[.slice kp s[k].held.length kc, .int .i64 lc] Y fun e w' => e = .returned (.bool (s[k].held.contains lc)) ∧ w' = Y) := ⟨fun Y hY => rhas_any Y kp kc s[k].held lc (hAk.later (blz BW.out hY)).held H64.out.chan⟩
  have HKt : Bx (∀ Y, Below W.heap.size W Y → Calls Try.prog 43 #[agV s[k] bp bc kp kc, .int .i64 lc, .bool true] Y fun e w' => e = .returned (.bool x) ∧ Below Y.heap.size Y w') := ⟨fun Y hY => by rw [hx]; exact rhand_any Y s[k] bp bc kp kc (hAk.later (blz BW.out hY)) lc H64.out.chan true⟩
  have HKf : Bx (∀ Y, Below W.heap.size W Y → Calls Try.prog 43 #[agV s[k] bp bc kp kc, .int .i64 lc, .bool false] Y fun e w' => e = .returned (.bool y) ∧ Below Y.heap.size Y w') := ⟨fun Y hY => by rw [hy]; exact rhand_any Y s[k] bp bc kp kc (hAk.later (blz BW.out hY)) lc H64.out.chan false⟩
  simp only [agV] at HKt HKf
  obtain ⟨s0, s1, s2, s3⟩ := HK.out w5 (blz BW.out B5.out)
  clear hat HE4 HO hclk hAk hx hy hagk hidk
  generalize s[k] = d at *
  cases hdw : d.awake with
  | true =>
    rw [hdw] at s1
    have HE : Bx (rfI s ⟨lr, ln, lc⟩ = d.held.contains lc) := ⟨by rw [HE5.out, hdw]; rfl⟩
    clear HE5 HKt HKf
    obtain ⟨zc, hzc⟩ : ∃ z, z = d.held.contains lc := ⟨_, rfl⟩
    rw [← hzc] at HE HHas
    clear hzc
    cases bi with
    | true =>
      cases bo with
      | true =>
        go_wp2_with (first | (go_at_call 61; refine Calls.mono (HA2.out w5 B5.out) ?_; rintro e w1 ⟨rfl, hw1⟩; rw [hw1]; clear hw1 w1))
        clear s0 s1 s2 s3 k0 k1 k2
        refine region_flowL [?fi3x0, ?fi3x1, ?fi3x2, ?fi3x3, ?fi3x4, ?fi3x5, ?fi3x6, .bool zc, ?fi3x8] (fun Y => Below W.heap.size W Y) (by kernel_rfl) (by decide +kernel) (B5.out.drew) (flowF 80 8 (by decide +kernel) (by rfl) (by exact Nat.le_of_ble_eq_true rfl) (by exact Nat.le_of_ble_eq_true rfl) (by simp only [List.drop_succ_cons, List.drop_zero, List.drop_nil, List.take_succ_cons, List.take_zero, List.cons_append, List.nil_append, flowEnd, Act.put, List.setIfInBounds_toArray, List.set_cons_zero, List.set_cons_succ]; rfl)) ?fi3st ?fi3en
        case fi3st =>
          refine flow_cons (flow_pure (by rfl) (fun Y hY => ?_)) ?_
          · go_simp; try rfl
          refine flow_cons (flow_pure (by rfl) (fun Y hY => ?_)) ?_
          · go_simp; try rfl
          refine flow_cons (flow_pure (by rfl) (fun Y hY => ?_)) ?_
          · go_simp; try rfl
          refine flow_cons (flow_pure (by rfl) (fun Y hY => ?_)) ?_
          · go_simp; try rfl
          refine flow_cons (flow_pure (by rfl) (fun Y hY => ?_)) ?_
          · obtain ⟨s0, s1, s2, s3⟩ := HK.out Y (blz BW.out hY); go_simp; try rfl
          refine flow_cons (flow_pure (by rfl) (fun Y hY => ?_)) ?_
          · go_simp; try rfl
          refine flow_cons (flow_pure (by rfl) (fun Y hY => ?_)) ?_
          · have s4 := (HC.out Y hY).2.2; go_simp; try rfl
          refine flow_cons (flow_call 62 #[.slice kp d.held.length kc, .int .i64 lc] (by rfl) (fun Y hY => ?_) (fun Y hY => ?_)) ?_
          · simp only [execOp]; go_simp
          · refine Calls.mono (HHas.out Y hY) ?_; rintro e z ⟨rfl, rfl⟩; exact ⟨rfl, hY⟩
          refine flow_cons (flow_pure (by rfl) (fun Y hY => ?_)) ?_
          · go_simp; try rfl
          exact flow_nil
        intro w7 hz7
        have HZ7 : Bx _ := ⟨hz7⟩
        go_wp2
        go_ret
        exact ⟨by rw [HE.out]; rfl, blz BW.out HZ7.out⟩
      | false =>
        go_wp2_with (first | (go_at_call 61; refine Calls.mono (HA2.out w5 B5.out) ?_; rintro e w1 ⟨rfl, hw1⟩; rw [hw1]; clear hw1 w1))
        clear s0 s1 s2 s3 k0 k1 k2
        refine region_flowL [?fi4x0, ?fi4x1, ?fi4x2, ?fi4x3, ?fi4x4, ?fi4x5, ?fi4x6, .bool zc, ?fi4x8] (fun Y => Below W.heap.size W Y) (by kernel_rfl) (by decide +kernel) (B5.out.drew) (flowF 80 8 (by decide +kernel) (by rfl) (by exact Nat.le_of_ble_eq_true rfl) (by exact Nat.le_of_ble_eq_true rfl) (by simp only [List.drop_succ_cons, List.drop_zero, List.drop_nil, List.take_succ_cons, List.take_zero, List.cons_append, List.nil_append, flowEnd, Act.put, List.setIfInBounds_toArray, List.set_cons_zero, List.set_cons_succ]; rfl)) ?fi4st ?fi4en
        case fi4st =>
          refine flow_cons (flow_pure (by rfl) (fun Y hY => ?_)) ?_
          · go_simp; try rfl
          refine flow_cons (flow_pure (by rfl) (fun Y hY => ?_)) ?_
          · go_simp; try rfl
          refine flow_cons (flow_pure (by rfl) (fun Y hY => ?_)) ?_
          · go_simp; try rfl
          refine flow_cons (flow_pure (by rfl) (fun Y hY => ?_)) ?_
          · go_simp; try rfl
          refine flow_cons (flow_pure (by rfl) (fun Y hY => ?_)) ?_
          · obtain ⟨s0, s1, s2, s3⟩ := HK.out Y (blz BW.out hY); go_simp; try rfl
          refine flow_cons (flow_pure (by rfl) (fun Y hY => ?_)) ?_
          · go_simp; try rfl
          refine flow_cons (flow_pure (by rfl) (fun Y hY => ?_)) ?_
          · have s4 := (HC.out Y hY).2.2; go_simp; try rfl
          refine flow_cons (flow_call 62 #[.slice kp d.held.length kc, .int .i64 lc] (by rfl) (fun Y hY => ?_) (fun Y hY => ?_)) ?_
          · simp only [execOp]; go_simp
          · refine Calls.mono (HHas.out Y hY) ?_; rintro e z ⟨rfl, rfl⟩; exact ⟨rfl, hY⟩
          refine flow_cons (flow_pure (by rfl) (fun Y hY => ?_)) ?_
          · go_simp; try rfl
          exact flow_nil
        intro w7 hz7
        have HZ7 : Bx _ := ⟨hz7⟩
        go_wp2
        go_ret
        exact ⟨by rw [HE.out]; rfl, blz BW.out HZ7.out⟩
    | false =>
      cases bo with
      | true =>
        go_wp2_with (first | (go_at_call 61; refine Calls.mono (HA2.out w5 B5.out) ?_; rintro e w1 ⟨rfl, hw1⟩; rw [hw1]; clear hw1 w1))
        clear s0 s1 s2 s3 k0 k1 k2
        refine region_flowL [?fi5x0, ?fi5x1, ?fi5x2, ?fi5x3, ?fi5x4, ?fi5x5, ?fi5x6, .bool zc, ?fi5x8] (fun Y => Below W.heap.size W Y) (by kernel_rfl) (by decide +kernel) (B5.out.drew) (flowF 80 8 (by decide +kernel) (by rfl) (by exact Nat.le_of_ble_eq_true rfl) (by exact Nat.le_of_ble_eq_true rfl) (by simp only [List.drop_succ_cons, List.drop_zero, List.drop_nil, List.take_succ_cons, List.take_zero, List.cons_append, List.nil_append, flowEnd, Act.put, List.setIfInBounds_toArray, List.set_cons_zero, List.set_cons_succ]; rfl)) ?fi5st ?fi5en
        case fi5st =>
          refine flow_cons (flow_pure (by rfl) (fun Y hY => ?_)) ?_
          · go_simp; try rfl
          refine flow_cons (flow_pure (by rfl) (fun Y hY => ?_)) ?_
          · go_simp; try rfl
          refine flow_cons (flow_pure (by rfl) (fun Y hY => ?_)) ?_
          · go_simp; try rfl
          refine flow_cons (flow_pure (by rfl) (fun Y hY => ?_)) ?_
          · go_simp; try rfl
          refine flow_cons (flow_pure (by rfl) (fun Y hY => ?_)) ?_
          · obtain ⟨s0, s1, s2, s3⟩ := HK.out Y (blz BW.out hY); go_simp; try rfl
          refine flow_cons (flow_pure (by rfl) (fun Y hY => ?_)) ?_
          · go_simp; try rfl
          refine flow_cons (flow_pure (by rfl) (fun Y hY => ?_)) ?_
          · have s4 := (HC.out Y hY).2.2; go_simp; try rfl
          refine flow_cons (flow_call 62 #[.slice kp d.held.length kc, .int .i64 lc] (by rfl) (fun Y hY => ?_) (fun Y hY => ?_)) ?_
          · simp only [execOp]; go_simp
          · refine Calls.mono (HHas.out Y hY) ?_; rintro e z ⟨rfl, rfl⟩; exact ⟨rfl, hY⟩
          refine flow_cons (flow_pure (by rfl) (fun Y hY => ?_)) ?_
          · go_simp; try rfl
          exact flow_nil
        intro w7 hz7
        have HZ7 : Bx _ := ⟨hz7⟩
        go_wp2
        go_ret
        exact ⟨by rw [HE.out]; rfl, blz BW.out HZ7.out⟩
      | false => exact absurd ⟨rfl, rfl⟩ hno
  | false =>
  rw [hdw] at s1
  have HE6 : Bx (rfI s ⟨lr, ln, lc⟩ = (bi && x || bo && y)) := ⟨by rw [HE5.out, hdw]; rfl⟩
  clear HE5 HHas
  cases bi with
  | true =>
    cases bo with
    | true =>
      cases x with
      | true =>
        have HE : Bx (rfI s ⟨lr, ln, lc⟩ = true) := ⟨by rw [HE6.out]; simp⟩
        clear HE6
        go_wp2_with (first | (go_at_call 61; refine Calls.mono (HA2.out w5 B5.out) ?_; rintro e w1 ⟨rfl, hw1⟩; rw [hw1]; clear hw1 w1))
        clear s0 s1 s2 s3 k0 k1 k2
        refine region_flowL [?fi6x0, ?fi6x1, ?fi6x2, ?fi6x3, ?fi6x4, ?fi6x5, ?fi6x6, ?fi6x7, .bool true, ?fi6x9, ?fi6x10, undef, undef, undef, undef, undef, undef, undef, undef, undef, undef, ?fi6x21, ?fi6x22] (fun Y => Below W.heap.size W Y) (by kernel_rfl) (by decide +kernel) (B5.out.drew) (flowF 88 22 (by decide +kernel) (by rfl) (by exact Nat.le_of_ble_eq_true rfl) (by exact Nat.le_of_ble_eq_true rfl) (by simp only [List.drop_succ_cons, List.drop_zero, List.drop_nil, List.take_succ_cons, List.take_zero, List.cons_append, List.nil_append, flowEnd, Act.put, List.setIfInBounds_toArray, List.set_cons_zero, List.set_cons_succ]; rfl)) ?fi6st ?fi6en
        case fi6st =>
          refine flow_cons (flow_pure (by rfl) (fun Y hY => ?_)) ?_
          · go_simp; try rfl
          refine flow_cons (flow_pure (by rfl) (fun Y hY => ?_)) ?_
          · go_simp; try rfl
          refine flow_cons (flow_pure (by rfl) (fun Y hY => ?_)) ?_
          · go_simp; try rfl
          refine flow_cons (flow_pure (by rfl) (fun Y hY => ?_)) ?_
          · go_simp; try rfl
          refine flow_cons (flow_pure (by rfl) (fun Y hY => ?_)) ?_
          · go_simp; try rfl
          refine flow_cons (flow_pure (by rfl) (fun Y hY => ?_)) ?_
          · obtain ⟨s0, s1, s2, s3⟩ := HK.out Y (blz BW.out hY); go_simp; try rfl
          refine flow_cons (flow_pure (by rfl) (fun Y hY => ?_)) ?_
          · go_simp; try rfl
          refine flow_cons (flow_pure (by rfl) (fun Y hY => ?_)) ?_
          · have s4 := (HC.out Y hY).2.2; go_simp; try rfl
          refine flow_cons (flow_call 43 #[.agg #[.int .i64 d.id, .bool d.awake, .slice bp d.arms.length bc, .slice kp d.held.length kc], .int .i64 lc, .bool true] (by rfl) (fun Y hY => ?_) (fun Y hY => ?_)) ?_
          · simp only [execOp]; go_simp
          · refine Calls.mono (HKt.out Y hY) ?_; rintro e z ⟨rfl, hb⟩; exact ⟨rfl, hY.trans (hb.mono hY.size)⟩
          refine flow_cons (flow_pure (by rfl) (fun Y hY => ?_)) ?_
          · go_simp; try rfl
          refine flow_cons (flow_pure (by rfl) (fun Y hY => ?_)) ?_
          · go_simp; try rfl
          refine flow_cons (flow_not (by rfl)) ?_
          refine flow_cons (flow_not (by rfl)) ?_
          refine flow_cons (flow_not (by rfl)) ?_
          refine flow_cons (flow_not (by rfl)) ?_
          refine flow_cons (flow_not (by rfl)) ?_
          refine flow_cons (flow_not (by rfl)) ?_
          refine flow_cons (flow_not (by rfl)) ?_
          refine flow_cons (flow_not (by rfl)) ?_
          refine flow_cons (flow_not (by rfl)) ?_
          refine flow_cons (flow_not (by rfl)) ?_
          refine flow_cons (flow_pure (by rfl) (fun Y hY => ?_)) ?_
          · go_simp; try rfl
          refine flow_cons (flow_pure (by rfl) (fun Y hY => ?_)) ?_
          · go_simp; try rfl
          exact flow_nil
        intro w7 hz7
        have HZ7 : Bx _ := ⟨hz7⟩
        go_wp2
        go_ret
        exact ⟨by rw [HE.out]; rfl, blz BW.out HZ7.out⟩
      | false =>
        cases y with
        | true =>
          have HE : Bx (rfI s ⟨lr, ln, lc⟩ = true) := ⟨by rw [HE6.out]; simp⟩
          clear HE6
          go_wp2_with (first | (go_at_call 61; refine Calls.mono (HA2.out w5 B5.out) ?_; rintro e w1 ⟨rfl, hw1⟩; rw [hw1]; clear hw1 w1))
          clear s0 s1 s2 s3 k0 k1 k2
          refine region_flowL [?fi7x0, ?fi7x1, ?fi7x2, ?fi7x3, ?fi7x4, ?fi7x5, ?fi7x6, ?fi7x7, .bool false, ?fi7x9, ?fi7x10, ?fi7x11, ?fi7x12, ?fi7x13, ?fi7x14, ?fi7x15, ?fi7x16, ?fi7x17, ?fi7x18, .bool true, ?fi7x20, ?fi7x21, ?fi7x22] (fun Y => Below W.heap.size W Y) (by kernel_rfl) (by decide +kernel) (B5.out.drew) (flowF 88 22 (by decide +kernel) (by rfl) (by exact Nat.le_of_ble_eq_true rfl) (by exact Nat.le_of_ble_eq_true rfl) (by simp only [List.drop_succ_cons, List.drop_zero, List.drop_nil, List.take_succ_cons, List.take_zero, List.cons_append, List.nil_append, flowEnd, Act.put, List.setIfInBounds_toArray, List.set_cons_zero, List.set_cons_succ]; rfl)) ?fi7st ?fi7en
          case fi7st =>
            refine flow_cons (flow_pure (by rfl) (fun Y hY => ?_)) ?_
            · go_simp; try rfl
            refine flow_cons (flow_pure (by rfl) (fun Y hY => ?_)) ?_
            · go_simp; try rfl
            refine flow_cons (flow_pure (by rfl) (fun Y hY => ?_)) ?_
            · go_simp; try rfl
            refine flow_cons (flow_pure (by rfl) (fun Y hY => ?_)) ?_
            · go_simp; try rfl
            refine flow_cons (flow_pure (by rfl) (fun Y hY => ?_)) ?_
            · go_simp; try rfl
            refine flow_cons (flow_pure (by rfl) (fun Y hY => ?_)) ?_
            · obtain ⟨s0, s1, s2, s3⟩ := HK.out Y (blz BW.out hY); go_simp; try rfl
            refine flow_cons (flow_pure (by rfl) (fun Y hY => ?_)) ?_
            · go_simp; try rfl
            refine flow_cons (flow_pure (by rfl) (fun Y hY => ?_)) ?_
            · have s4 := (HC.out Y hY).2.2; go_simp; try rfl
            refine flow_cons (flow_call 43 #[.agg #[.int .i64 d.id, .bool d.awake, .slice bp d.arms.length bc, .slice kp d.held.length kc], .int .i64 lc, .bool true] (by rfl) (fun Y hY => ?_) (fun Y hY => ?_)) ?_
            · simp only [execOp]; go_simp
            · refine Calls.mono (HKt.out Y hY) ?_; rintro e z ⟨rfl, hb⟩; exact ⟨rfl, hY.trans (hb.mono hY.size)⟩
            refine flow_cons (flow_pure (by rfl) (fun Y hY => ?_)) ?_
            · go_simp; try rfl
            refine flow_cons (flow_pure (by rfl) (fun Y hY => ?_)) ?_
            · go_simp; try rfl
            refine flow_cons (flow_pure (by rfl) (fun Y hY => ?_)) ?_
            · go_simp; try rfl
            refine flow_cons (flow_pure (by rfl) (fun Y hY => ?_)) ?_
            · go_simp; try rfl
            refine flow_cons (flow_pure (by rfl) (fun Y hY => ?_)) ?_
            · go_simp; try rfl
            refine flow_cons (flow_pure (by rfl) (fun Y hY => ?_)) ?_
            · go_simp; try rfl
            refine flow_cons (flow_pure (by rfl) (fun Y hY => ?_)) ?_
            · go_simp; try rfl
            refine flow_cons (flow_pure (by rfl) (fun Y hY => ?_)) ?_
            · obtain ⟨s0, s1, s2, s3⟩ := HK.out Y (blz BW.out hY); go_simp; try rfl
            refine flow_cons (flow_pure (by rfl) (fun Y hY => ?_)) ?_
            · go_simp; try rfl
            refine flow_cons (flow_pure (by rfl) (fun Y hY => ?_)) ?_
            · have s4 := (HC.out Y hY).2.2; go_simp; try rfl
            refine flow_cons (flow_call 43 #[.agg #[.int .i64 d.id, .bool d.awake, .slice bp d.arms.length bc, .slice kp d.held.length kc], .int .i64 lc, .bool false] (by rfl) (fun Y hY => ?_) (fun Y hY => ?_)) ?_
            · simp only [execOp]; go_simp
            · refine Calls.mono (HKf.out Y hY) ?_; rintro e z ⟨rfl, hb⟩; exact ⟨rfl, hY.trans (hb.mono hY.size)⟩
            refine flow_cons (flow_pure (by rfl) (fun Y hY => ?_)) ?_
            · go_simp; try rfl
            refine flow_cons (flow_pure (by rfl) (fun Y hY => ?_)) ?_
            · go_simp; try rfl
            refine flow_cons (flow_pure (by rfl) (fun Y hY => ?_)) ?_
            · go_simp; try rfl
            exact flow_nil
          intro w7 hz7
          have HZ7 : Bx _ := ⟨hz7⟩
          go_wp2
          go_ret
          exact ⟨by rw [HE.out]; rfl, blz BW.out HZ7.out⟩
        | false =>
          have HE : Bx (rfI s ⟨lr, ln, lc⟩ = false) := ⟨by rw [HE6.out]; simp⟩
          clear HE6
          go_wp2_with (first | (go_at_call 61; refine Calls.mono (HA2.out w5 B5.out) ?_; rintro e w1 ⟨rfl, hw1⟩; rw [hw1]; clear hw1 w1))
          clear s0 s1 s2 s3 k0 k1 k2
          refine region_flowL [?fi8x0, ?fi8x1, ?fi8x2, ?fi8x3, ?fi8x4, ?fi8x5, ?fi8x6, ?fi8x7, .bool false, ?fi8x9, ?fi8x10, ?fi8x11, ?fi8x12, ?fi8x13, ?fi8x14, ?fi8x15, ?fi8x16, ?fi8x17, ?fi8x18, .bool false, ?fi8x20, ?fi8x21, ?fi8x22] (fun Y => Below W.heap.size W Y) (by kernel_rfl) (by decide +kernel) (B5.out.drew) (flowF 88 22 (by decide +kernel) (by rfl) (by exact Nat.le_of_ble_eq_true rfl) (by exact Nat.le_of_ble_eq_true rfl) (by simp only [List.drop_succ_cons, List.drop_zero, List.drop_nil, List.take_succ_cons, List.take_zero, List.cons_append, List.nil_append, flowEnd, Act.put, List.setIfInBounds_toArray, List.set_cons_zero, List.set_cons_succ]; rfl)) ?fi8st ?fi8en
          case fi8st =>
            refine flow_cons (flow_pure (by rfl) (fun Y hY => ?_)) ?_
            · go_simp; try rfl
            refine flow_cons (flow_pure (by rfl) (fun Y hY => ?_)) ?_
            · go_simp; try rfl
            refine flow_cons (flow_pure (by rfl) (fun Y hY => ?_)) ?_
            · go_simp; try rfl
            refine flow_cons (flow_pure (by rfl) (fun Y hY => ?_)) ?_
            · go_simp; try rfl
            refine flow_cons (flow_pure (by rfl) (fun Y hY => ?_)) ?_
            · go_simp; try rfl
            refine flow_cons (flow_pure (by rfl) (fun Y hY => ?_)) ?_
            · obtain ⟨s0, s1, s2, s3⟩ := HK.out Y (blz BW.out hY); go_simp; try rfl
            refine flow_cons (flow_pure (by rfl) (fun Y hY => ?_)) ?_
            · go_simp; try rfl
            refine flow_cons (flow_pure (by rfl) (fun Y hY => ?_)) ?_
            · have s4 := (HC.out Y hY).2.2; go_simp; try rfl
            refine flow_cons (flow_call 43 #[.agg #[.int .i64 d.id, .bool d.awake, .slice bp d.arms.length bc, .slice kp d.held.length kc], .int .i64 lc, .bool true] (by rfl) (fun Y hY => ?_) (fun Y hY => ?_)) ?_
            · simp only [execOp]; go_simp
            · refine Calls.mono (HKt.out Y hY) ?_; rintro e z ⟨rfl, hb⟩; exact ⟨rfl, hY.trans (hb.mono hY.size)⟩
            refine flow_cons (flow_pure (by rfl) (fun Y hY => ?_)) ?_
            · go_simp; try rfl
            refine flow_cons (flow_pure (by rfl) (fun Y hY => ?_)) ?_
            · go_simp; try rfl
            refine flow_cons (flow_pure (by rfl) (fun Y hY => ?_)) ?_
            · go_simp; try rfl
            refine flow_cons (flow_pure (by rfl) (fun Y hY => ?_)) ?_
            · go_simp; try rfl
            refine flow_cons (flow_pure (by rfl) (fun Y hY => ?_)) ?_
            · go_simp; try rfl
            refine flow_cons (flow_pure (by rfl) (fun Y hY => ?_)) ?_
            · go_simp; try rfl
            refine flow_cons (flow_pure (by rfl) (fun Y hY => ?_)) ?_
            · go_simp; try rfl
            refine flow_cons (flow_pure (by rfl) (fun Y hY => ?_)) ?_
            · obtain ⟨s0, s1, s2, s3⟩ := HK.out Y (blz BW.out hY); go_simp; try rfl
            refine flow_cons (flow_pure (by rfl) (fun Y hY => ?_)) ?_
            · go_simp; try rfl
            refine flow_cons (flow_pure (by rfl) (fun Y hY => ?_)) ?_
            · have s4 := (HC.out Y hY).2.2; go_simp; try rfl
            refine flow_cons (flow_call 43 #[.agg #[.int .i64 d.id, .bool d.awake, .slice bp d.arms.length bc, .slice kp d.held.length kc], .int .i64 lc, .bool false] (by rfl) (fun Y hY => ?_) (fun Y hY => ?_)) ?_
            · simp only [execOp]; go_simp
            · refine Calls.mono (HKf.out Y hY) ?_; rintro e z ⟨rfl, hb⟩; exact ⟨rfl, hY.trans (hb.mono hY.size)⟩
            refine flow_cons (flow_pure (by rfl) (fun Y hY => ?_)) ?_
            · go_simp; try rfl
            refine flow_cons (flow_pure (by rfl) (fun Y hY => ?_)) ?_
            · go_simp; try rfl
            refine flow_cons (flow_pure (by rfl) (fun Y hY => ?_)) ?_
            · go_simp; try rfl
            exact flow_nil
          intro w7 hz7
          have HZ7 : Bx _ := ⟨hz7⟩
          go_wp2
          go_ret
          exact ⟨by rw [HE.out]; rfl, blz BW.out HZ7.out⟩
    | false =>
      cases x with
      | true =>
        have HE : Bx (rfI s ⟨lr, ln, lc⟩ = true) := ⟨by rw [HE6.out]; simp⟩
        clear HE6
        go_wp2_with (first | (go_at_call 61; refine Calls.mono (HA2.out w5 B5.out) ?_; rintro e w1 ⟨rfl, hw1⟩; rw [hw1]; clear hw1 w1))
        clear s0 s1 s2 s3 k0 k1 k2
        refine region_flowL [?fi9x0, ?fi9x1, ?fi9x2, ?fi9x3, ?fi9x4, ?fi9x5, ?fi9x6, ?fi9x7, .bool true, ?fi9x9, ?fi9x10, undef, undef, undef, undef, undef, undef, undef, undef, undef, undef, ?fi9x21, ?fi9x22] (fun Y => Below W.heap.size W Y) (by kernel_rfl) (by decide +kernel) (B5.out.drew) (flowF 88 22 (by decide +kernel) (by rfl) (by exact Nat.le_of_ble_eq_true rfl) (by exact Nat.le_of_ble_eq_true rfl) (by simp only [List.drop_succ_cons, List.drop_zero, List.drop_nil, List.take_succ_cons, List.take_zero, List.cons_append, List.nil_append, flowEnd, Act.put, List.setIfInBounds_toArray, List.set_cons_zero, List.set_cons_succ]; rfl)) ?fi9st ?fi9en
        case fi9st =>
          refine flow_cons (flow_pure (by rfl) (fun Y hY => ?_)) ?_
          · go_simp; try rfl
          refine flow_cons (flow_pure (by rfl) (fun Y hY => ?_)) ?_
          · go_simp; try rfl
          refine flow_cons (flow_pure (by rfl) (fun Y hY => ?_)) ?_
          · go_simp; try rfl
          refine flow_cons (flow_pure (by rfl) (fun Y hY => ?_)) ?_
          · go_simp; try rfl
          refine flow_cons (flow_pure (by rfl) (fun Y hY => ?_)) ?_
          · go_simp; try rfl
          refine flow_cons (flow_pure (by rfl) (fun Y hY => ?_)) ?_
          · obtain ⟨s0, s1, s2, s3⟩ := HK.out Y (blz BW.out hY); go_simp; try rfl
          refine flow_cons (flow_pure (by rfl) (fun Y hY => ?_)) ?_
          · go_simp; try rfl
          refine flow_cons (flow_pure (by rfl) (fun Y hY => ?_)) ?_
          · have s4 := (HC.out Y hY).2.2; go_simp; try rfl
          refine flow_cons (flow_call 43 #[.agg #[.int .i64 d.id, .bool d.awake, .slice bp d.arms.length bc, .slice kp d.held.length kc], .int .i64 lc, .bool true] (by rfl) (fun Y hY => ?_) (fun Y hY => ?_)) ?_
          · simp only [execOp]; go_simp
          · refine Calls.mono (HKt.out Y hY) ?_; rintro e z ⟨rfl, hb⟩; exact ⟨rfl, hY.trans (hb.mono hY.size)⟩
          refine flow_cons (flow_pure (by rfl) (fun Y hY => ?_)) ?_
          · go_simp; try rfl
          refine flow_cons (flow_pure (by rfl) (fun Y hY => ?_)) ?_
          · go_simp; try rfl
          refine flow_cons (flow_not (by rfl)) ?_
          refine flow_cons (flow_not (by rfl)) ?_
          refine flow_cons (flow_not (by rfl)) ?_
          refine flow_cons (flow_not (by rfl)) ?_
          refine flow_cons (flow_not (by rfl)) ?_
          refine flow_cons (flow_not (by rfl)) ?_
          refine flow_cons (flow_not (by rfl)) ?_
          refine flow_cons (flow_not (by rfl)) ?_
          refine flow_cons (flow_not (by rfl)) ?_
          refine flow_cons (flow_not (by rfl)) ?_
          refine flow_cons (flow_pure (by rfl) (fun Y hY => ?_)) ?_
          · go_simp; try rfl
          refine flow_cons (flow_pure (by rfl) (fun Y hY => ?_)) ?_
          · go_simp; try rfl
          exact flow_nil
        intro w7 hz7
        have HZ7 : Bx _ := ⟨hz7⟩
        go_wp2
        go_ret
        exact ⟨by rw [HE.out]; rfl, blz BW.out HZ7.out⟩
      | false =>
        have HE : Bx (rfI s ⟨lr, ln, lc⟩ = false) := ⟨by rw [HE6.out]; simp⟩
        clear HE6
        go_wp2_with (first | (go_at_call 61; refine Calls.mono (HA2.out w5 B5.out) ?_; rintro e w1 ⟨rfl, hw1⟩; rw [hw1]; clear hw1 w1))
        clear s0 s1 s2 s3 k0 k1 k2
        refine region_flowL [?fi10x0, ?fi10x1, ?fi10x2, ?fi10x3, ?fi10x4, ?fi10x5, ?fi10x6, ?fi10x7, .bool false, ?fi10x9, ?fi10x10, ?fi10x11, ?fi10x12, undef, undef, undef, undef, undef, undef, undef, ?fi10x20, ?fi10x21, ?fi10x22] (fun Y => Below W.heap.size W Y) (by kernel_rfl) (by decide +kernel) (B5.out.drew) (flowF 88 22 (by decide +kernel) (by rfl) (by exact Nat.le_of_ble_eq_true rfl) (by exact Nat.le_of_ble_eq_true rfl) (by simp only [List.drop_succ_cons, List.drop_zero, List.drop_nil, List.take_succ_cons, List.take_zero, List.cons_append, List.nil_append, flowEnd, Act.put, List.setIfInBounds_toArray, List.set_cons_zero, List.set_cons_succ]; rfl)) ?fi10st ?fi10en
        case fi10st =>
          refine flow_cons (flow_pure (by rfl) (fun Y hY => ?_)) ?_
          · go_simp; try rfl
          refine flow_cons (flow_pure (by rfl) (fun Y hY => ?_)) ?_
          · go_simp; try rfl
          refine flow_cons (flow_pure (by rfl) (fun Y hY => ?_)) ?_
          · go_simp; try rfl
          refine flow_cons (flow_pure (by rfl) (fun Y hY => ?_)) ?_
          · go_simp; try rfl
          refine flow_cons (flow_pure (by rfl) (fun Y hY => ?_)) ?_
          · go_simp; try rfl
          refine flow_cons (flow_pure (by rfl) (fun Y hY => ?_)) ?_
          · obtain ⟨s0, s1, s2, s3⟩ := HK.out Y (blz BW.out hY); go_simp; try rfl
          refine flow_cons (flow_pure (by rfl) (fun Y hY => ?_)) ?_
          · go_simp; try rfl
          refine flow_cons (flow_pure (by rfl) (fun Y hY => ?_)) ?_
          · have s4 := (HC.out Y hY).2.2; go_simp; try rfl
          refine flow_cons (flow_call 43 #[.agg #[.int .i64 d.id, .bool d.awake, .slice bp d.arms.length bc, .slice kp d.held.length kc], .int .i64 lc, .bool true] (by rfl) (fun Y hY => ?_) (fun Y hY => ?_)) ?_
          · simp only [execOp]; go_simp
          · refine Calls.mono (HKt.out Y hY) ?_; rintro e z ⟨rfl, hb⟩; exact ⟨rfl, hY.trans (hb.mono hY.size)⟩
          refine flow_cons (flow_pure (by rfl) (fun Y hY => ?_)) ?_
          · go_simp; try rfl
          refine flow_cons (flow_pure (by rfl) (fun Y hY => ?_)) ?_
          · go_simp; try rfl
          refine flow_cons (flow_pure (by rfl) (fun Y hY => ?_)) ?_
          · go_simp; try rfl
          refine flow_cons (flow_pure (by rfl) (fun Y hY => ?_)) ?_
          · go_simp; try rfl
          refine flow_cons (flow_not (by rfl)) ?_
          refine flow_cons (flow_not (by rfl)) ?_
          refine flow_cons (flow_not (by rfl)) ?_
          refine flow_cons (flow_not (by rfl)) ?_
          refine flow_cons (flow_not (by rfl)) ?_
          refine flow_cons (flow_not (by rfl)) ?_
          refine flow_cons (flow_not (by rfl)) ?_
          refine flow_cons (flow_pure (by rfl) (fun Y hY => ?_)) ?_
          · go_simp; try rfl
          refine flow_cons (flow_pure (by rfl) (fun Y hY => ?_)) ?_
          · go_simp; try rfl
          refine flow_cons (flow_pure (by rfl) (fun Y hY => ?_)) ?_
          · go_simp; try rfl
          exact flow_nil
        intro w7 hz7
        have HZ7 : Bx _ := ⟨hz7⟩
        go_wp2
        go_ret
        exact ⟨by rw [HE.out]; rfl, blz BW.out HZ7.out⟩
  | false =>
    cases bo with
    | true =>
      cases y with
      | true =>
        have HE : Bx (rfI s ⟨lr, ln, lc⟩ = true) := ⟨by rw [HE6.out]; simp⟩
        clear HE6
        go_wp2_with (first | (go_at_call 61; refine Calls.mono (HA2.out w5 B5.out) ?_; rintro e w1 ⟨rfl, hw1⟩; rw [hw1]; clear hw1 w1))
        clear s0 s1 s2 s3 k0 k1 k2
        refine region_flowL [?fi11x0, ?fi11x1, undef, undef, undef, undef, undef, undef, undef, ?fi11x9, ?fi11x10, ?fi11x11, ?fi11x12, ?fi11x13, ?fi11x14, ?fi11x15, ?fi11x16, ?fi11x17, ?fi11x18, .bool true, ?fi11x20, ?fi11x21, ?fi11x22] (fun Y => Below W.heap.size W Y) (by kernel_rfl) (by decide +kernel) (B5.out.drew) (flowF 88 22 (by decide +kernel) (by rfl) (by exact Nat.le_of_ble_eq_true rfl) (by exact Nat.le_of_ble_eq_true rfl) (by simp only [List.drop_succ_cons, List.drop_zero, List.drop_nil, List.take_succ_cons, List.take_zero, List.cons_append, List.nil_append, flowEnd, Act.put, List.setIfInBounds_toArray, List.set_cons_zero, List.set_cons_succ]; rfl)) ?fi11st ?fi11en
        case fi11st =>
          refine flow_cons (flow_pure (by rfl) (fun Y hY => ?_)) ?_
          · go_simp; try rfl
          refine flow_cons (flow_pure (by rfl) (fun Y hY => ?_)) ?_
          · go_simp; try rfl
          refine flow_cons (flow_not (by rfl)) ?_
          refine flow_cons (flow_not (by rfl)) ?_
          refine flow_cons (flow_not (by rfl)) ?_
          refine flow_cons (flow_not (by rfl)) ?_
          refine flow_cons (flow_not (by rfl)) ?_
          refine flow_cons (flow_not (by rfl)) ?_
          refine flow_cons (flow_not (by rfl)) ?_
          refine flow_cons (flow_pure (by rfl) (fun Y hY => ?_)) ?_
          · go_simp; try rfl
          refine flow_cons (flow_pure (by rfl) (fun Y hY => ?_)) ?_
          · go_simp; try rfl
          refine flow_cons (flow_pure (by rfl) (fun Y hY => ?_)) ?_
          · go_simp; try rfl
          refine flow_cons (flow_pure (by rfl) (fun Y hY => ?_)) ?_
          · go_simp; try rfl
          refine flow_cons (flow_pure (by rfl) (fun Y hY => ?_)) ?_
          · go_simp; try rfl
          refine flow_cons (flow_pure (by rfl) (fun Y hY => ?_)) ?_
          · go_simp; try rfl
          refine flow_cons (flow_pure (by rfl) (fun Y hY => ?_)) ?_
          · go_simp; try rfl
          refine flow_cons (flow_pure (by rfl) (fun Y hY => ?_)) ?_
          · obtain ⟨s0, s1, s2, s3⟩ := HK.out Y (blz BW.out hY); go_simp; try rfl
          refine flow_cons (flow_pure (by rfl) (fun Y hY => ?_)) ?_
          · go_simp; try rfl
          refine flow_cons (flow_pure (by rfl) (fun Y hY => ?_)) ?_
          · have s4 := (HC.out Y hY).2.2; go_simp; try rfl
          refine flow_cons (flow_call 43 #[.agg #[.int .i64 d.id, .bool d.awake, .slice bp d.arms.length bc, .slice kp d.held.length kc], .int .i64 lc, .bool false] (by rfl) (fun Y hY => ?_) (fun Y hY => ?_)) ?_
          · simp only [execOp]; go_simp
          · refine Calls.mono (HKf.out Y hY) ?_; rintro e z ⟨rfl, hb⟩; exact ⟨rfl, hY.trans (hb.mono hY.size)⟩
          refine flow_cons (flow_pure (by rfl) (fun Y hY => ?_)) ?_
          · go_simp; try rfl
          refine flow_cons (flow_pure (by rfl) (fun Y hY => ?_)) ?_
          · go_simp; try rfl
          refine flow_cons (flow_pure (by rfl) (fun Y hY => ?_)) ?_
          · go_simp; try rfl
          exact flow_nil
        intro w7 hz7
        have HZ7 : Bx _ := ⟨hz7⟩
        go_wp2
        go_ret
        exact ⟨by rw [HE.out]; rfl, blz BW.out HZ7.out⟩
      | false =>
        have HE : Bx (rfI s ⟨lr, ln, lc⟩ = false) := ⟨by rw [HE6.out]; simp⟩
        clear HE6
        go_wp2_with (first | (go_at_call 61; refine Calls.mono (HA2.out w5 B5.out) ?_; rintro e w1 ⟨rfl, hw1⟩; rw [hw1]; clear hw1 w1))
        clear s0 s1 s2 s3 k0 k1 k2
        refine region_flowL [?fi12x0, ?fi12x1, undef, undef, undef, undef, undef, undef, undef, ?fi12x9, ?fi12x10, ?fi12x11, ?fi12x12, ?fi12x13, ?fi12x14, ?fi12x15, ?fi12x16, ?fi12x17, ?fi12x18, .bool false, ?fi12x20, ?fi12x21, ?fi12x22] (fun Y => Below W.heap.size W Y) (by kernel_rfl) (by decide +kernel) (B5.out.drew) (flowF 88 22 (by decide +kernel) (by rfl) (by exact Nat.le_of_ble_eq_true rfl) (by exact Nat.le_of_ble_eq_true rfl) (by simp only [List.drop_succ_cons, List.drop_zero, List.drop_nil, List.take_succ_cons, List.take_zero, List.cons_append, List.nil_append, flowEnd, Act.put, List.setIfInBounds_toArray, List.set_cons_zero, List.set_cons_succ]; rfl)) ?fi12st ?fi12en
        case fi12st =>
          refine flow_cons (flow_pure (by rfl) (fun Y hY => ?_)) ?_
          · go_simp; try rfl
          refine flow_cons (flow_pure (by rfl) (fun Y hY => ?_)) ?_
          · go_simp; try rfl
          refine flow_cons (flow_not (by rfl)) ?_
          refine flow_cons (flow_not (by rfl)) ?_
          refine flow_cons (flow_not (by rfl)) ?_
          refine flow_cons (flow_not (by rfl)) ?_
          refine flow_cons (flow_not (by rfl)) ?_
          refine flow_cons (flow_not (by rfl)) ?_
          refine flow_cons (flow_not (by rfl)) ?_
          refine flow_cons (flow_pure (by rfl) (fun Y hY => ?_)) ?_
          · go_simp; try rfl
          refine flow_cons (flow_pure (by rfl) (fun Y hY => ?_)) ?_
          · go_simp; try rfl
          refine flow_cons (flow_pure (by rfl) (fun Y hY => ?_)) ?_
          · go_simp; try rfl
          refine flow_cons (flow_pure (by rfl) (fun Y hY => ?_)) ?_
          · go_simp; try rfl
          refine flow_cons (flow_pure (by rfl) (fun Y hY => ?_)) ?_
          · go_simp; try rfl
          refine flow_cons (flow_pure (by rfl) (fun Y hY => ?_)) ?_
          · go_simp; try rfl
          refine flow_cons (flow_pure (by rfl) (fun Y hY => ?_)) ?_
          · go_simp; try rfl
          refine flow_cons (flow_pure (by rfl) (fun Y hY => ?_)) ?_
          · obtain ⟨s0, s1, s2, s3⟩ := HK.out Y (blz BW.out hY); go_simp; try rfl
          refine flow_cons (flow_pure (by rfl) (fun Y hY => ?_)) ?_
          · go_simp; try rfl
          refine flow_cons (flow_pure (by rfl) (fun Y hY => ?_)) ?_
          · have s4 := (HC.out Y hY).2.2; go_simp; try rfl
          refine flow_cons (flow_call 43 #[.agg #[.int .i64 d.id, .bool d.awake, .slice bp d.arms.length bc, .slice kp d.held.length kc], .int .i64 lc, .bool false] (by rfl) (fun Y hY => ?_) (fun Y hY => ?_)) ?_
          · simp only [execOp]; go_simp
          · refine Calls.mono (HKf.out Y hY) ?_; rintro e z ⟨rfl, hb⟩; exact ⟨rfl, hY.trans (hb.mono hY.size)⟩
          refine flow_cons (flow_pure (by rfl) (fun Y hY => ?_)) ?_
          · go_simp; try rfl
          refine flow_cons (flow_pure (by rfl) (fun Y hY => ?_)) ?_
          · go_simp; try rfl
          refine flow_cons (flow_pure (by rfl) (fun Y hY => ?_)) ?_
          · go_simp; try rfl
          exact flow_nil
        intro w7 hz7
        have HZ7 : Bx _ := ⟨hz7⟩
        go_wp2
        go_ret
        exact ⟨by rw [HE.out]; rfl, blz BW.out HZ7.out⟩
    | false => exact absurd ⟨rfl, rfl⟩ hno
end Go.Proofs.Ytjabdhmkibahlaa
