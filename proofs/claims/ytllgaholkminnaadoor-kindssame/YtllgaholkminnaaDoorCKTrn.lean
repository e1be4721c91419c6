import Derived.Test.YtllgaholkminnaaDoorCKRs
import Derived.Test.YtllgaholkminnaaDoorCKLawP
import Derived.Test.YtllgaholkminnaaDoorCKValid
namespace Go.Proofs.YtllgaholkminnaaDoor
open Go.RowKit
set_option linter.unusedVariables false
set_option linter.unusedSimpArgs false

/-- what Same must say, of whatever rows and numbers -/
structure SameR (t : List Ty) (a b : Int) : Prop where
  va : validI t = true
  ra : isRowI t.length a = true
  rb : isRowI t.length b = true
  bis : Bis t a.toNat b.toNat
theorem SameR.symm {t : List Ty} {a b : Int} (h : SameR t a b) : SameR t b a := ⟨h.va, h.rb, h.ra, bis_symm h.bis⟩
theorem same_r (t : List Ty) (a b : Int) : ∃ r : Bool, r = true ↔ SameR t a b := by
  rcases Classical.em (SameR t a b) with h | h
  · exact ⟨true, by simp [h]⟩
  · exact ⟨false, by simp [h]⟩
theorem isRow_nat {n : Nat} {a : Int} (h : isRowI n a = true) : ∃ m : Nat, a = m ∧ m < n ∧ a.toNat = m := by
  unfold isRowI at h
  simp only [Bool.and_eq_true, decide_eq_true_eq] at h
  exact ⟨a.toNat, by omega, by omega, rfl⟩
/-- **kinds.Same**, whatever rows and numbers -/
theorem Same_r (w : World) (B nb no cap : Nat) (t : List Ty) (a b : Int) (hn : Types w B nb no cap t) (hM : load t id ≤ 2147483647) (r : Bool) (hr : r = true ↔ SameR t a b) :
    Calls Tryd.prog 15 #[.slice (some ⟨nb, no, none⟩) t.length cap, .int .i64 a, .int .i64 b] w fun e w' => e = .returned (.bool r) ∧ Below w.heap.size w w' := by
  by_cases h : (validI t && (isRowI t.length a && isRowI t.length b)) = true
  · simp only [Bool.and_eq_true] at h
    obtain ⟨hv, ha, hb⟩ := h
    obtain ⟨x, rfl, hx, ex⟩ := isRow_nat ha
    obtain ⟨y, rfl, hy, ey⟩ := isRow_nat hb
    refine Calls.mono (Same_yes w B nb no cap t x y hn hv hx hy hM) ?_
    rintro e w' ⟨r', rfl, h1, h2⟩
    have : r' = r := by
      have q : r = true ↔ Bis t x y := hr.trans ⟨fun q => by have := q.bis; rw [ex, ey] at this; exact this, fun q => ⟨hv, ha, hb, by rw [ex, ey]; exact q⟩⟩
      cases r <;> cases r' <;> simp_all
    subst this
    exact ⟨rfl, h2⟩
  · have h' : (validI t && (isRowI t.length a && isRowI t.length b)) = false := by simpa using h
    have : r = false := by
      cases r with
      | false => rfl
      | true => exact absurd (by have q := hr.1 rfl; rw [q.va, q.ra, q.rb]; rfl) h
    subst this
    exact Same_no w B (some ⟨nb, no, none⟩) cap t a b ⟨fun _ => ⟨nb, no, rfl, hn⟩, hn.hi⟩ h'
set_option maxRecDepth 100000 in
set_option maxHeartbeats 4000000 in
theorem refSame_no (w : World) (ad : Option Addr) (cap n : Nat) (v : Bool) (a b : Int) (hV : Calls Tryd.prog 14 #[.slice ad n cap] w fun e w' => e = .returned (.bool v) ∧ w = w') (h : v = false ∨ a < 0 ∨ (n : Int) ≤ a ∨ b < 0 ∨ (n : Int) ≤ b) :
    Calls Tryd.prog 16 #[.slice ad n cap, .int .i64 a, .int .i64 b] w fun e w' => e = .returned (.bool false) ∧ Below w.heap.size w w' := by
  have HV : Bx _ := ⟨hV⟩
  clear hV
  cases v
  · clear h
    go_enter Tryd.func16, Tryd.ntmps16
    go_wp2_with (first | (go_at_call 14; refine Calls.mono HV.out ?_; rintro e w1 ⟨rfl, rfl⟩))
    go_ret
    exact ⟨rfl, Below.refl _ _⟩
  · by_cases h1 : a < 0
    · clear h
      go_enter Tryd.func16, Tryd.ntmps16
      go_wp2_with (first | (go_at_call 14; refine Calls.mono HV.out ?_; rintro e w1 ⟨rfl, rfl⟩))
      go_ret
      exact ⟨rfl, Below.refl _ _⟩
    · by_cases h2 : (n : Int) ≤ a
      · clear h
        go_enter Tryd.func16, Tryd.ntmps16
        go_wp2_with (first | (go_at_call 14; refine Calls.mono HV.out ?_; rintro e w1 ⟨rfl, rfl⟩))
        go_ret
        exact ⟨rfl, Below.refl _ _⟩
      · by_cases h3 : b < 0
        · clear h
          go_enter Tryd.func16, Tryd.ntmps16
          go_wp2_with (first | (go_at_call 14; refine Calls.mono HV.out ?_; rintro e w1 ⟨rfl, rfl⟩))
          go_ret
          exact ⟨rfl, Below.refl _ _⟩
        · have h4 : (n : Int) ≤ b := by
            rcases h with q | q | q | q | q
            · cases q
            · exact absurd q h1
            · exact absurd q h2
            · exact absurd q h3
            · exact q
          clear h
          go_enter Tryd.func16, Tryd.ntmps16
          go_wp2_with (first | (go_at_call 14; refine Calls.mono HV.out ?_; rintro e w1 ⟨rfl, rfl⟩))
          go_ret
          exact ⟨rfl, Below.refl _ _⟩
/-- **the reference's Same**, whatever rows and numbers -/
theorem refSame_r (w : World) (B nb no cap : Nat) (t : List Ty) (a b : Int) (hn : Types w B nb no cap t) (hM : load t id ≤ 2147483647) (h2k : t.length ≤ 2000) (r : Bool) (hr : r = true ↔ SameR t a b) :
    Calls Tryd.prog 16 #[.slice (some ⟨nb, no, none⟩) t.length cap, .int .i64 a, .int .i64 b] w fun e w' => e = .returned (.bool r) ∧ Below w.heap.size w w' := by
  by_cases h : (validI t && (isRowI t.length a && isRowI t.length b)) = true
  · simp only [Bool.and_eq_true] at h
    obtain ⟨hv, ha, hb⟩ := h
    obtain ⟨x, rfl, hx, ex⟩ := isRow_nat ha
    obtain ⟨y, rfl, hy, ey⟩ := isRow_nat hb
    refine Calls.mono (refSame_yes w B nb no cap t x y hn hv hx hy hM h2k) ?_
    rintro e w' ⟨r', rfl, h1, h2⟩
    have : r' = r := by
      have q : r = true ↔ Bis t x y := hr.trans ⟨fun q => by have := q.bis; rw [ex, ey] at this; exact this, fun q => ⟨hv, ha, hb, by rw [ex, ey]; exact q⟩⟩
      cases r <;> cases r' <;> simp_all
    subst this
    exact ⟨rfl, h2⟩
  · have : r = false := by
      cases r with
      | false => rfl
      | true => exact absurd (by have q := hr.1 rfl; rw [q.va, q.ra, q.rb]; rfl) h
    subst this
    refine refSame_no w _ cap t.length (validI t) a b (refValid_some w B nb no cap t hn) ?_
    cases hv : validI t
    · exact .inl rfl
    · rw [hv] at h
      unfold isRowI at h
      simp only [Bool.true_and, Bool.and_eq_true, decide_eq_true_eq] at h
      omega
/-- kinds are turned -/
def turnK (k : Int) : Int := if k = 3 then 5 else if k = 2 then 1 else k
def turnT (t : List Ty) (n : Nat) : List Ty := (List.range t.length).map fun i => if i < n then ⟨turnK (tyN t i).kind, (tyN t i).kids, (tyN t i).res⟩ else tyN t i
theorem turnT_len (t : List Ty) (n : Nat) : (turnT t n).length = t.length := by simp [turnT]
theorem turnT_at {t : List Ty} {n i : Nat} (h : i < t.length) : tyN (turnT t n) i = if i < n then ⟨turnK (tyN t i).kind, (tyN t i).kids, (tyN t i).res⟩ else tyN t i := by
  simp [turnT, tyN, List.getD_eq_getElem?_getD, h]
theorem turnT_zero (t : List Ty) : turnT t 0 = t := ty_ext (turnT_len _ _) fun j hj => by rw [turnT_len] at hj; rw [turnT_at hj, if_neg (by omega)]
theorem turnT_kids {t : List Ty} {n i : Nat} (h : i < t.length) : (tyN (turnT t n) i).kids = (tyN t i).kids := by
  rw [turnT_at h]; split <;> rfl
theorem turn_load (t : List Ty) (n : Nat) : load (turnT t n) id = load t id := by
  unfold load
  rw [turnT_len]
  refine sumTo_congr _ fun i hi => ?_
  unfold loadF
  rw [turnT_kids hi]
theorem turn_wf {t : List Ty} {n : Nat} (hwf : ∀ j, j < t.length → TyWf (tyN t j)) : ∀ j, j < (turnT t n).length → TyWf (tyN (turnT t n) j) := fun j hj => by
  rw [turnT_len] at hj
  rw [turnT_at hj]
  split
  · refine ⟨?_, (hwf j hj).kids⟩
    have := (hwf j hj).kind
    unfold turnK I64 at *
    show _ ∧ _
    dsimp only
    split
    · omega
    · split
      · omega
      · exact this
  · exact hwf j hj
theorem turn_keep {t : List Ty} {i : Nat} (hi : i < t.length) (h3 : (tyN t i).kind ≠ 3) (h2 : (tyN t i).kind ≠ 2) : turnT t (i + 1) = turnT t i := ty_ext (by rw [turnT_len, turnT_len]) fun j hj => by
  rw [turnT_len] at hj
  rw [turnT_at hj, turnT_at hj]
  by_cases e : j = i
  · subst e
    rw [if_pos (by omega), if_neg (by omega)]
    unfold turnK
    rw [if_neg h3, if_neg h2]
  · by_cases q : j < i
    · rw [if_pos q, if_pos (by omega)]
    · rw [if_neg q, if_neg (by omega)]
theorem OwT.kind_ {W : World} {H : Nat} {t : List Ty} {gs : Nat → Nat} (h : OwT W H 0 t gs t.length) {i : Nat} (hi : i < t.length) : W.cell? ⟨H, i * 3, none⟩ = some (.int .i64 (tyN t i).kind) ∧ W.frozen? ⟨H, i * 3, none⟩ = false ∧ H < W.heap.size := by
  obtain ⟨C, c1, c2, c3, c4⟩ := h.ex
  exact ⟨(cell_of_row _ H _ _ _ (0, 0) c1).trans (c3 i hi).1, by simp [World.frozen?, c1], (Array.getElem?_eq_some_iff.1 c1).1⟩
/-- a kind is written over -/
theorem OwT.turn {W : World} {H : Nat} {t : List Ty} {gs : Nat → Nat} {i : Nat} (h : OwT W H 0 (turnT t i) gs (turnT t i).length) (hi : i < t.length) (v : Int) (hv : v = turnK (tyN t i).kind) : OwT (W.setCell ⟨H, i * 3, none⟩ (.int .i64 v)) H 0 (turnT t (i + 1)) gs (turnT t (i + 1)).length := by
  obtain ⟨C, c1, c2, c3, c4⟩ := h.ex
  have hl : (turnT t (i + 1)).length = (turnT t i).length := by rw [turnT_len, turnT_len]
  have hll := turnT_len t i
  have kd : ∀ j, j < t.length → (tyN (turnT t (i + 1)) j).kids = (tyN (turnT t i) j).kids := fun j hj => by rw [turnT_kids hj, turnT_kids hj]
  rw [hl]
  refine ⟨⟨_, heap_setCell_same W H (i * 3) C _ _ c1, by rw [hl]; simpa using c2, fun j hj => ?_, fun j hj => ?_⟩, fun j hj => ?_, h.lo, h.mo⟩
  · rw [hl] at hj
    rw [Array.getElem?_setIfInBounds, Array.getElem?_setIfInBounds, if_neg (c := i * 3 = j * 3 + 2) (by omega), (c3 j hj).2, turnT_at (by omega : j < t.length), turnT_at (by omega : j < t.length)]
    by_cases e : i = j
    · subst e
      rw [if_pos rfl, if_pos (by omega), if_pos (by omega), if_neg (by omega)]
      exact ⟨by rw [hv], rfl⟩
    · rw [if_neg (by omega), (c3 j hj).1, turnT_at (by omega : j < t.length)]
      by_cases q : j < i
      · rw [if_pos q, if_pos (by omega)]; exact ⟨rfl, rfl⟩
      · rw [if_neg q, if_neg (by omega)]; exact ⟨rfl, rfl⟩
  · rw [Array.getElem?_setIfInBounds, if_neg (by omega), kd j (by omega)]
    exact c4 j hj
  · have := h.lo j hj
    rw [heap_setCell_other _ _ (gs j) _ (by show gs j ≠ H; omega), kd j (by omega)]
    exact h.kd j hj
end Go.Proofs.YtllgaholkminnaaDoor
namespace Go.Proofs.YtllgaholkminnaaDoor
open Go.RowKit
set_option linter.unusedVariables false
set_option linter.unusedSimpArgs false

set_option maxRecDepth 100000 in
theorem samek_skip (by_ : Bool) (w : World) (nb no nc : Nat) (t : List Ty) (a b : Int) (hn : Types w w.heap.size nb no nc t) (hb : t.length ≤ 3518437208883) (hby : beyondI 0 (lensT t) = by_) (h : by_ = true ∨ 2000 < t.length) :
    Calls Tryd.prog 4 #[.slice (some ⟨nb, no, none⟩) t.length nc, .int .i64 a, .int .i64 b] w fun e w' => e = .returned (.bool true) ∧ Below w.heap.size w w' := by
  have HOR : Bx _ := ⟨ofRows_some w w.heap.size nb no nc t hn hb⟩
  have HBY : Bx _ := ⟨beyond_types w w.heap.size nb no nc t hn⟩
  rw [hby] at HBY
  clear hn
  cases by_
  · have h2 : decide ((2000 : Int) < t.length) = true := by
      rcases h with h | h
      · cases h
      · simp; omega
    clear h
    go_enter Tryd.func4, Tryd.ntmps4
    go_wp2_with (first
      | (go_at_call 9; refine Calls.mono HOR.out ?_; rintro e w1 ⟨a1, c1, rfl, ⟨hiv, hb1⟩⟩; have HIV : Bx _ := ⟨hiv⟩; clear hiv)
      | (go_at_call 8; refine Calls.mono (HBY.out _ _ _ HIV.out) ?_; rintro e w2 ⟨rfl, rfl⟩))
    go_ret
    exact ⟨rfl, hb1⟩
  · clear h
    go_enter Tryd.func4, Tryd.ntmps4
    go_wp2_with (first
      | (go_at_call 9; refine Calls.mono HOR.out ?_; rintro e w1 ⟨a1, c1, rfl, ⟨hiv, hb1⟩⟩; have HIV : Bx _ := ⟨hiv⟩; clear hiv)
      | (go_at_call 8; refine Calls.mono (HBY.out _ _ _ HIV.out) ?_; rintro e w2 ⟨rfl, rfl⟩))
    go_ret
    exact ⟨rfl, hb1⟩
set_option maxRecDepth 100000 in
set_option maxHeartbeats 8000000 in
theorem samek_some (w : World) (nb no nc : Nat) (t : List Ty) (a b : Int) (hn : Types w w.heap.size nb no nc t) (hL : Laid w) (h0 : 0 < t.length) (h2k : t.length ≤ 2000) (hby : beyondI 0 (lensT t) = false) :
    Calls Tryd.prog 4 #[.slice (some ⟨nb, no, none⟩) t.length nc, .int .i64 a, .int .i64 b] w fun e w' => e = .returned (.bool true) ∧ Below w.heap.size w w' := by
  have HOR : Bx _ := ⟨ofRows_some w w.heap.size nb no nc t hn (by omega)⟩
  have HBY : Bx _ := ⟨beyond_types w w.heap.size nb no nc t hn⟩
  have HS : Bx _ := ⟨shown_in w hL⟩
  rw [hby] at HBY
  have hld := load_of_not_beyond hby
  have h2' : decide ((2000 : Int) < t.length) = false := by simp; omega
  obtain ⟨r, hr⟩ := same_r t a b
  obtain ⟨r2, hr2⟩ := same_r (turnT t t.length) a b
  have hml : ∀ j, j < t.length → (tyN t j).kids.length ≤ maxLen := fun j hj => by have := kids_few hld hj; unfold maxLen; omega
  have HN : Bx (∀ W, Below w.heap.size w W → Types W W.heap.size nb no nc t) := ⟨fun W hb => (hn.below hb).mono hb.size (Nat.le_refl _)⟩
  have HOW : Bx (∀ W, Below w.heap.size w W → Calls Tryd.prog 11 #[.slice (some ⟨nb, no, none⟩) t.length nc] W fun e w' => e = .returned (.slice (some ⟨W.heap.size, 0, none⟩) t.length (t.length + 1)) ∧ ∃ gs, OwT w' W.heap.size 0 t gs t.length ∧ Below W.heap.size W w') := ⟨fun W hb => ownRows_own W W.heap.size nb no nc t (HN.out W hb) hld⟩
  have HTY : Bx (∀ W g gs, OwT W g 0 t gs t.length → Types W W.heap.size g 0 (t.length + 1) t) := ⟨fun W g gs h => h.types hn.wf hml hn.max⟩
  have HSA : Bx (∀ W g gs, OwT W g 0 t gs t.length → Calls Tryd.prog 15 #[.slice (some ⟨g, 0, none⟩) t.length (t.length + 1), .int .i64 a, .int .i64 b] W fun e w' => e = .returned (.bool r) ∧ Below W.heap.size W w') := ⟨fun W g gs h => Same_r W W.heap.size g 0 (t.length + 1) t a b (HTY.out W g gs h) hld r hr⟩
  have HSB : Bx (∀ W g gs, OwT W g 0 t gs t.length → Calls Tryd.prog 15 #[.slice (some ⟨g, 0, none⟩) t.length (t.length + 1), .int .i64 b, .int .i64 a] W fun e w' => e = .returned (.bool r) ∧ Below W.heap.size W w') := ⟨fun W g gs h => Same_r W W.heap.size g 0 (t.length + 1) t b a (HTY.out W g gs h) hld r ⟨fun q => (hr.1 q).symm, fun q => hr.2 q.symm⟩⟩
  have HR : Bx (∀ W g gs, Below w.heap.size w W → OwT W g 0 t gs t.length → Calls Tryd.prog 13 #[.slice (some ⟨g, 0, none⟩) t.length (t.length + 1), .slice (some ⟨nb, no, none⟩) t.length nc] W fun e w' => e = .returned (.bool true) ∧ Below W.heap.size W w') := ⟨fun W g gs hb h => lrows_eq W W.heap.size g 0 (t.length + 1) nb no nc t (HTY.out W g gs h) (HN.out W hb)⟩
  have HRS : Bx (∀ W, Below w.heap.size w W → Calls Tryd.prog 16 #[.slice (some ⟨nb, no, none⟩) t.length nc, .int .i64 a, .int .i64 b] W fun e w' => e = .returned (.bool r) ∧ Below W.heap.size W w') := ⟨fun W hb => refSame_r W W.heap.size nb no nc t a b (HN.out W hb) hld h2k r hr⟩
  have hlt := turnT_len t t.length
  have hld2 : load (turnT t t.length) id ≤ 2147483647 := by rw [turn_load]; exact hld
  have HTZ : Bx (∀ W g gs, OwT W g 0 (turnT t t.length) gs (turnT t t.length).length → Types W W.heap.size g 0 (t.length + 1) (turnT t t.length)) := ⟨fun W g gs h => by
    have := h.types (turn_wf hn.wf) (fun j hj => by rw [turnT_len] at hj; rw [turnT_kids hj]; exact hml j hj) (by rw [turnT_len]; exact hn.max)
    rw [hlt] at this
    exact this⟩
  have HO2 : Bx (∀ W g, Types W W.heap.size g 0 (t.length + 1) (turnT t t.length) → Calls Tryd.prog 11 #[.slice (some ⟨g, 0, none⟩) t.length (t.length + 1)] W fun e w' => e = .returned (.slice (some ⟨W.heap.size, 0, none⟩) t.length (t.length + 1)) ∧ Types w' w'.heap.size W.heap.size 0 (t.length + 1) (turnT t t.length) ∧ Below W.heap.size W w') := ⟨fun W g h => by
    have := ownRows_some W W.heap.size g 0 (t.length + 1) (turnT t t.length) h hld2
    rw [hlt] at this
    exact this⟩
  have HS2 : Bx (∀ W g, Types W W.heap.size g 0 (t.length + 1) (turnT t t.length) → Calls Tryd.prog 15 #[.slice (some ⟨g, 0, none⟩) t.length (t.length + 1), .int .i64 a, .int .i64 b] W fun e w' => e = .returned (.bool r2) ∧ Below W.heap.size W w') := ⟨fun W g h => by
    have := Same_r W W.heap.size g 0 (t.length + 1) (turnT t t.length) a b h hld2 r2 hr2
    rw [hlt] at this
    exact this⟩
  have HR2 : Bx (∀ W g, Types W W.heap.size g 0 (t.length + 1) (turnT t t.length) → Calls Tryd.prog 16 #[.slice (some ⟨g, 0, none⟩) t.length (t.length + 1), .int .i64 a, .int .i64 b] W fun e w' => e = .returned (.bool r2) ∧ Below W.heap.size W w') := ⟨fun W g h => by
    have := refSame_r W W.heap.size g 0 (t.length + 1) (turnT t t.length) a b h hld2 (by rw [hlt]; exact h2k) r2 hr2
    rw [hlt] at this
    exact this⟩
  have HTG : Bx (∀ W W' g, Types W W.heap.size g 0 (t.length + 1) (turnT t t.length) → Below W.heap.size W W' → Types W' W'.heap.size g 0 (t.length + 1) (turnT t t.length)) := ⟨fun W W' g h hb => (h.below hb).mono hb.size (Nat.le_refl _)⟩
  have V1 : Bx True := ⟨trivial⟩
  have V2 : Bx True := ⟨trivial⟩
  clear hn hL hby hld hld2 hlt HN HTY hr hr2 hml
  cases r
  all_goals
    go_enter Tryd.func4, Tryd.ntmps4
    go_wp2_with (first
      | (go_at_call 9; refine Calls.mono HOR.out ?_; rintro e w1 ⟨a1, c1, rfl, ⟨hiv, hb1⟩⟩; have HIV : Bx _ := ⟨hiv⟩; clear hiv)
      | (go_at_call 8; refine Calls.mono (HBY.out _ _ _ HIV.out) ?_; rintro e w2 ⟨rfl, rfl⟩)
      | (go_at_call 10; refine Calls.mono (HS.out _ hb1) ?_; rintro e w3 ⟨rfl, hb3⟩; have hb4 := hb1.trans (hb3.mono hb1.size); clear hb3)
      | (go_at_call 11; refine Calls.mono (HOW.out _ hb4) ?_; rintro e w5 ⟨rfl, gs, ho5, hb5⟩; have O5 : Bx _ := ⟨ho5⟩; have hb6 := hb4.trans (hb5.mono hb4.size); clear hb5 ho5)
      | (go_at_call 15; have := V1; refine Calls.mono (HSA.out _ _ _ O5.out) ?_; clear this V1; rintro e w7 ⟨rfl, hb7⟩; have O7 : Bx _ := ⟨O5.out.ext hb7⟩; have hb8 := hb6.trans (hb7.mono hb6.size); clear hb7 O5)
      | (go_at_call 15; refine Calls.mono (HSB.out _ _ _ O7.out) ?_; rintro e w9 ⟨rfl, hb9⟩; have O9 : Bx _ := ⟨O7.out.ext hb9⟩; have hb10 := hb8.trans (hb9.mono hb8.size); clear hb9 O7)
      | (go_at_call 13; refine Calls.mono (HR.out _ _ _ hb10 O9.out) ?_; rintro e w11 ⟨rfl, hb11⟩; have O11 : Bx _ := ⟨O9.out.ext hb11⟩; have hb12 := hb10.trans (hb11.mono hb10.size); clear hb11 O9)
      | (go_at_call 16; refine Calls.mono (HRS.out _ hb12) ?_; rintro e w13 ⟨rfl, hb13⟩; have O13 : Bx _ := ⟨O11.out.ext hb13⟩; have hb14 := hb12.trans (hb13.mono hb12.size); clear hb13 O11))
    have hHw := hb4.size
    have HB14 : Bx _ := ⟨hb14⟩
    clear hb1 hb4 hb6 hb8 hb10 hb12 hb14 HOR HBY HS HOW HSA HSB HR HRS HIV
    generalize w3.heap.size = HH at *
    go_loopw [13] (fun x wr => ∃ i : Nat, i ≤ t.length ∧ x = .int .i64 i ∧ Bx (OwT wr HH 0 (turnT t i) gs (turnT t i).length ∧ Below w.heap.size w wr)) (fun x _ => t.length - (intOf x).toNat)
    case atStart => exact ⟨0, Nat.zero_le _, rfl, ⟨by rw [turnT_zero]; exact O13.out, HB14.out⟩⟩
    case round =>
      obtain ⟨i, hi, rfl, HQ⟩ := hrel
      clear O13 HB14
      by_cases hlt : i < t.length
      · obtain ⟨p1, p2, p3⟩ := HQ.out.1.kind_ (i := i) (by rw [turnT_len]; exact hlt)
        rw [turnT_at hlt, if_neg (by omega)] at p1
        have HT : Bx (∀ v, v = turnK (tyN t i).kind → OwT (wr.setCell ⟨HH, i * 3, none⟩ (.int .i64 v)) HH 0 (turnT t (i + 1)) gs (turnT t (i + 1)).length ∧ Below w.heap.size w (wr.setCell ⟨HH, i * 3, none⟩ (.int .i64 v))) := ⟨fun v hv => ⟨HQ.out.1.turn hlt v hv, Below.setCell (p := ⟨HH, i * 3, none⟩) HQ.out.2 hHw _⟩⟩
        have HK : Bx ((tyN t i).kind ≠ 3 → (tyN t i).kind ≠ 2 → OwT wr HH 0 (turnT t (i + 1)) gs (turnT t (i + 1)).length ∧ Below w.heap.size w wr) := ⟨fun h3 h2 => ⟨by rw [turn_keep hlt h3 h2]; exact HQ.out.1, HQ.out.2⟩⟩
        clear HQ
        generalize (tyN t i).kind = kd at *
        by_cases e3 : kd = 3
        · subst e3
          have HX : Bx _ := ⟨HT.out 5 rfl⟩
          clear HT HK
          go_wp2
          go_roundw
          case rel => exact ⟨i + 1, by omega, by go_num, HX⟩
          case measure => simp [intOf]; omega
        · have e3' : (kd == 3) = false := by rw [beq_eq_false_iff_ne]; exact e3
          by_cases e2 : kd = 2
          · subst e2
            have HX : Bx _ := ⟨HT.out 1 rfl⟩
            clear HT HK e3
            go_wp2
            go_roundw
            case rel => exact ⟨i + 1, by omega, by go_num, HX⟩
            case measure => simp [intOf]; omega
          · have e2' : (kd == 2) = false := by rw [beq_eq_false_iff_ne]; exact e2
            have HX : Bx _ := ⟨HK.out e3 e2⟩
            clear HT HK
            go_wp2
            go_roundw
            case rel => exact ⟨i + 1, by omega, by go_num, HX⟩
            case measure => simp [intOf]; omega
      · have hie : i = t.length := by omega
        subst hie
        have HZ : Bx _ := ⟨HTZ.out _ _ _ HQ.out.1⟩
        have HB : Bx _ := ⟨HQ.out.2⟩
        clear HQ
        go_wp2_with (first
          | (go_at_call 11; refine Calls.mono (HO2.out _ _ HZ.out) ?_; rintro e w20 ⟨rfl, ht20, hb20⟩; have Z20 : Bx _ := ⟨HTG.out _ _ _ HZ.out hb20⟩; have T20 : Bx _ := ⟨ht20⟩; have hb21 := HB.out.trans (hb20.mono HB.out.size); clear hb20 ht20)
          | (go_at_call 15; refine Calls.mono (HS2.out _ _ Z20.out) ?_; rintro e w22 ⟨rfl, hb22⟩; have T22 : Bx _ := ⟨HTG.out _ _ _ T20.out hb22⟩; have hb23 := hb21.trans (hb22.mono hb21.size); clear hb22 T20)
          | (go_at_call 16; refine Calls.mono (HR2.out _ _ T22.out) ?_; rintro e w24 ⟨rfl, hb24⟩; have hb25 := hb23.trans (hb24.mono hb23.size); clear hb24))
        go_ret
        exact ⟨by cases r2 <;> rfl, hb25⟩
set_option maxRecDepth 100000 in
set_option maxHeartbeats 4000000 in
theorem samek_none (w : World) (ad : Option Addr) (cap : Nat) (a b : Int) (hL : Laid w) :
    Calls Tryd.prog 4 #[.slice ad 0 cap, .int .i64 a, .int .i64 b] w fun e w' => e = .returned (.bool true) ∧ Below w.heap.size w w' := by
  have HS : Bx _ := ⟨shown_in w hL⟩
  have HSM : Bx (∀ W (x : Option Addr) (c : Nat) (p q : Int), Calls Tryd.prog 15 #[.slice x 0 c, .int .i64 p, .int .i64 q] W fun e w' => e = .returned (.bool false) ∧ Below W.heap.size W w') := ⟨fun W x c p q => Same_no W W.heap.size x c [] p q ⟨fun h => absurd h (by simp), Nat.le_refl _⟩ (by first | (unfold isRowI; simp; done) | (unfold isRowI; simp; omega))⟩
  have HRS : Bx (∀ W (x : Option Addr) (c : Nat) (p q : Int), Calls Tryd.prog 16 #[.slice x 0 c, .int .i64 p, .int .i64 q] W fun e w' => e = .returned (.bool false) ∧ Below W.heap.size W w') := ⟨fun W x c p q => refSame_no W x c 0 true p q (refValid_none W x c) (by omega)⟩
  have V1 : Bx True := ⟨trivial⟩
  have V2 : Bx True := ⟨trivial⟩
  clear hL
  go_enter Tryd.func4, Tryd.ntmps4
  go_wp2_with (first
    | (go_at_call 9; refine Calls.mono (ofRows_none _ _ _) ?_; rintro e w1 ⟨rfl, hb1⟩)
    | (go_at_call 8; refine Calls.mono (beyond_none _ _) ?_; rintro e w2 ⟨rfl, rfl⟩)
    | (go_at_call 10; refine Calls.mono (HS.out _ hb1) ?_; rintro e w3 ⟨rfl, hb3⟩; have hb4 := hb1.trans (hb3.mono hb1.size); clear hb3)
    | (go_at_call 11; refine Calls.mono (ownRows_none _ _ _) ?_; rintro e w5 ⟨g, cp, rfl, hb5⟩; have hb6 := hb4.trans (hb5.mono hb4.size); clear hb5)
    | (go_at_call 15; have := V1; refine Calls.mono (HSM.out _ _ _ _ _) ?_; clear this V1; rintro e w7 ⟨rfl, hb7⟩; have hb8 := hb6.trans (hb7.mono hb6.size); clear hb7)
    | (go_at_call 15; refine Calls.mono (HSM.out _ _ _ _ _) ?_; rintro e w9 ⟨rfl, hb9⟩; have hb10 := hb8.trans (hb9.mono hb8.size); clear hb9)
    | (go_at_call 13; refine Calls.mono (lrows_none _ _ _ _ _) ?_; rintro e w11 ⟨rfl, hb11⟩; have hb12 := hb10.trans (hb11.mono hb10.size); clear hb11)
    | (go_at_call 16; refine Calls.mono (HRS.out _ _ _ _ _) ?_; rintro e w13 ⟨rfl, hb13⟩; have hb14 := hb12.trans (hb13.mono hb12.size); clear hb13))
  have HB14 : Bx _ := ⟨hb14⟩
  clear hb1 hb4 hb6 hb8 hb10 hb12 hb14 HS
  go_loopw [13] (fun x wr => x = .int .i64 0 ∧ Bx (Below w.heap.size w wr)) (fun _ _ => 0)
  case atStart => exact ⟨rfl, HB14⟩
  case round =>
    obtain ⟨rfl, HQ⟩ := hrel
    clear HB14
    go_wp2_with (first
      | (go_at_call 11; refine Calls.mono (ownRows_none _ _ _) ?_; rintro e w15 ⟨g2, cp2, rfl, hb15⟩; have hb16 := HQ.out.trans (hb15.mono HQ.out.size); clear hb15)
      | (go_at_call 15; refine Calls.mono (HSM.out _ _ _ _ _) ?_; rintro e w17 ⟨rfl, hb17⟩; have hb18 := hb16.trans (hb17.mono hb16.size); clear hb17)
      | (go_at_call 16; refine Calls.mono (HRS.out _ _ _ _ _) ?_; rintro e w19 ⟨rfl, hb19⟩; have hb20 := hb18.trans (hb19.mono hb18.size); clear hb19))
    go_ret
    exact ⟨rfl, hb20⟩
theorem samek_walk (w : World) (ad : Option Addr) (cap : Nat) (t : List Ty) (hn : IsTypes w w.heap.size ad cap t) (hb : t.length ≤ 3518437208883) (a : Int) (ha : I64 a) (b : Int) (hb2 : I64 b) (hL : Laid w) :
    Calls Tryd.prog 4 #[.slice ad t.length cap, .int .i64 a, .int .i64 b] w fun e w' => e = .returned (.bool true) ∧ Below w.heap.size w w' := by
  by_cases h0 : 0 < t.length
  · obtain ⟨nb, no, rfl, h⟩ := hn.at_ h0
    cases hby : beyondI 0 (lensT t)
    · by_cases h2k : 2000 < t.length
      · exact samek_skip false w nb no cap t a b h hb hby (.inr h2k)
      · exact samek_some w nb no cap t a b h hL h0 (by omega) hby
    · exact samek_skip true w nb no cap t a b h hb hby (.inl rfl)
  · have hx : t = [] := List.eq_nil_of_length_eq_zero (by omega)
    subst hx
    exact samek_none w ad cap a b hL
end Go.Proofs.YtllgaholkminnaaDoor
