import Derived.Test.YtijdcplffmdijaaDoorCDKd
namespace Go.Proofs.YtijdcplffmdijaaDoor
open Go.RowKit
set_option linter.unusedVariables false
set_option linter.unusedSimpArgs false

set_option maxRecDepth 100000 in
set_option maxHeartbeats 4000000 in
theorem addTypeV_b0 (w : World) (B ub lb lo cap : Nat) (u : CUn) (hu : UV w B ub u) (h00 : u.progs = []) (x : Int) (kd : List Int) (hi : IK w (some ⟨lb, lo, none⟩) cap (x :: 0 :: kd)) (hBu : B ≤ ub) (hnn : u.types.length ≤ 1099511627776) (hkl : kd.length ≤ 1099511627776) (m : Nat) (hm : m = kd.length + 2) :
    Calls Tryd.prog 64 #[.pointer (some ⟨ub, 0, none⟩), .slice (some ⟨lb, lo, none⟩) m cap] w fun e w' => e = .returned (.bool true) ∧ Bx (Below B w w' ∧ UV w' B ub { u with types := u.types ++ [⟨x, kd, false⟩] }) := by
  obtain ⟨j0, ji, jz0, jz1, jz2⟩ := info_parts infoTy
  obtain ⟨Lg, Kg, pv, tv, pcs, cut, u1, u2, u3, u4, u5, u6⟩ := hu.ex
  obtain ⟨tcs, u2a, u2b⟩ := u2.ex
  obtain ⟨b', o', LC, fz, hbo, hl, hcs⟩ := hi.at_ (by simp)
  injection hbo with hbo
  injection hbo with hb1 hb2
  subst hb1 hb2
  have h0 : w.cell? ⟨lb, lo, none⟩ = some (.int .i64 x) := hcs 0 (by simp)
  have h1 : w.cell? ⟨lb, lo + 1, none⟩ = some (.int .i64 0) := hcs 1 (by simp)
  have hcap := hi.cap
  simp only [List.length_cons] at hcap
  have hub : ub < w.heap.size := (Array.getElem?_eq_some_iff.1 u1).1
  have hlb : lb < w.heap.size := (Array.getElem?_eq_some_iff.1 hl).1
  have hne : lb ≠ ub := by
    rintro rfl
    rw [u1] at hl
    injection hl with hl
    injection hl with _ hl _
    exact absurd hl (by decide)
  have hpv : ∃ pa pc, pv = .slice pa 0 pc := by
    rw [h00] at u3
    rcases u3.2 with ⟨h, _⟩ | ⟨g, c, cur, h, _⟩
    · exact ⟨_, _, h⟩
    · exact ⟨_, _, h⟩
  obtain ⟨pa, pc, hpv⟩ := hpv
  subst hpv
  have g0 : w.cell? ⟨ub, 0, none⟩ = some (.slice pa 0 pc) := cell_blk u1 rfl
  have g1 : w.cell? ⟨ub, 1, none⟩ = some tv := cell_blk u1 rfl
  have HALL : Bx (∀ w1 ka kc, IN w.heap.size w1 ka kc kd → Below w.heap.size w w1 →
      ((w1.cell? ⟨lb, lo, none⟩ = some (.int .i64 x) ∧ w1.cell? ⟨lb, lo + 1, none⟩ = some (.int .i64 0)) ∧ w1.cell? ⟨ub, 1, none⟩ = some tv ∧ (w1.alloc (.cells #[.int .i64 x, .slice ka kd.length kc, .bool false] 54)).cell? ⟨ub, 1, none⟩ = some tv ∧ ((w1.alloc (.cells #[.int .i64 x, .slice ka kd.length kc, .bool false] 54)).cell? ⟨lb, lo, none⟩ = some (.int .i64 x) ∧ (w1.alloc (.cells #[.int .i64 x, .slice ka kd.length kc, .bool false] 54)).cell? ⟨lb, lo + 1, none⟩ = some (.int .i64 0)) ∧ ub < w1.heap.size) ∧
      (w1.alloc (.cells #[.int .i64 x, .slice ka kd.length kc, .bool false] 54)).ownsRow B 54 3 tv u.types.length tcs.flatten ∧
      ∀ w8, (w1.alloc (.cells #[.int .i64 x, .slice ka kd.length kc, .bool false] 54)).grownBy w8 tv.ownBlock → (w8.cell? ⟨lb, lo, none⟩ = some (.int .i64 x) ∧ w8.cell? ⟨lb, lo + 1, none⟩ = some (.int .i64 0)) ∧ w8.heap[ub]? = some (.cells #[.slice pa 0 pc, tv] 36 (0, 0)) ∧ Below B w w8 ∧ w8.frozen? ⟨ub, 1, none⟩ = false ∧ w8.cell? ⟨ub, 1, none⟩ = some tv ∧
        ∀ gg cg, w8.ownsRow B 54 3 (.slice (some ⟨gg, 0, none⟩) (u.types.length + 1) cg) (u.types.length + 1) (tcs.flatten ++ tyCells ⟨x, kd, false⟩ (.slice ka kd.length kc)) → UV (w8.setCell ⟨ub, 1, none⟩ (.slice (some ⟨gg, 0, none⟩) (u.types.length + 1) cg)) B ub { u with types := u.types ++ [⟨x, kd, false⟩] }) := ⟨fun w1 ka kc hik hb => by
    have hs := hb.size
    have hbT : Below w.heap.size w (w1.alloc (.cells #[.int .i64 x, .slice ka kd.length kc, .bool false] 54)) := hb.trans ((below1 w1 _).mono hs)
    have o1 : (w1.alloc (.cells #[.int .i64 x, .slice ka kd.length kc, .bool false] 54)).ownsRow B 54 3 tv u.types.length tcs.flatten := owns_on u2b (Kp.of (P := fun _ _ => True) hbT) fun _ _ => trivial
    refine ⟨⟨⟨by rw [hb.cell (p := ⟨lb, lo, none⟩) hlb]; exact h0, by rw [hb.cell (p := ⟨lb, lo + 1, none⟩) hlb]; exact h1⟩, by rw [hb.cell (p := ⟨ub, 1, none⟩) hub]; exact g1, by rw [hbT.cell (p := ⟨ub, 1, none⟩) hub]; exact g1, ⟨by rw [hbT.cell (p := ⟨lb, lo, none⟩) hlb]; exact h0, by rw [hbT.cell (p := ⟨lb, lo + 1, none⟩) hlb]; exact h1⟩, by omega⟩, o1, fun w8 hg => ?_⟩
    have kk := (Kp.of (P := fun _ _ => True) hbT).and (Kp.grown o1 hg)
    have e1 := (kk.blk ub _ _ _ u1 ⟨trivial, .inl (by decide)⟩).trans u1
    have e2 := kk.blk lb _ _ _ hl ⟨trivial, .inl (by decide)⟩
    have hc : ∀ i, w8.cell? ⟨lb, i, none⟩ = w.cell? ⟨lb, i, none⟩ := fun i => World.cell?_of_block (w := w) e2
    have hb8 : Below B w w8 := (hbT.mono (by omega)).grown hg (by simp; omega) fun x hx => (owns_block o1 hx).1
    exact ⟨⟨by rw [hc]; exact h0, by rw [hc]; exact h1⟩, e1, hb8, by simp [World.frozen?, e1], cell_blk e1 rfl, fun gg cg h => UV.addT u1 u2a u2b u3 u4 u5 u6 hbT (t := ⟨x, kd, false⟩) (hik.on (KI.of (below1 w1 _))) h hg⟩⟩
  have HBH : Bx (∀ X, Below w.heap.size w X → Calls Tryd.prog 75 #[.slice (some ⟨lb, lo, none⟩) m cap, .int .i64 2] X fun e w' => ∃ a' cap', e = .returned (.slice a' kd.length cap') ∧ Bx (IN w.heap.size w' a' cap' kd ∧ Below w.heap.size w w')) := ⟨fun X hX => by
    subst hm
    have := behind_own X (some ⟨lb, lo, none⟩) cap (x :: 0 :: kd) ((hi.ints.below hX).up hX.size) 2 (by simp) (by simp; omega)
    refine Calls.mono this ?_
    rintro e w' ⟨a', cap', rfl, hx⟩
    exact ⟨a', cap', rfl, ⟨hx.out.1.mono hX.size, hX.trans (hx.out.2.mono hX.size)⟩⟩⟩
  have HBIT : Bx _ := ⟨isBit_any 0 w⟩
  have e00 : isBitI 0 = true := rfl
  rw [e00] at HBIT
  have hpl : Bx (B ≤ w.heap.size) := ⟨by omega⟩
  generalize u.types.length = n at *
  have v0 : (0 : Int) < (m : Int) := by omega
  have v1 : (1 : Int) < (m : Int) := by omega
  have v2 : ¬ (m : Int) < 2 := by omega
  have v3 : 0 < m := by omega
  have v4 : 1 < m := by omega
  have v5 : m ≤ cap := by omega
  clear hm hcap
  clear hu h00 u1 u2 u2a u2b u3 u4 u5 u6 e00 hl hi hcs
  go_enter Tryd.func64, Tryd.ntmps64
  go_wp2_with (go_at_call 74; refine HBIT.out.mono ?_; rintro e w' ⟨rfl, rfl⟩)
  refine wp_region_held_drew (S := (fun w' : World => w'.cell? ⟨lb, lo, none⟩ = some (.int .i64 x) ∧ w'.cell? ⟨lb, lo + 1, none⟩ = some (.int .i64 0))) (by kernel_rfl) ⟨h0, h1⟩ (fun hHeld => ?_)
  try simp only [List.size_toArray, List.length_cons, List.length_nil]
  refine wpAnyH_take (i := 0) (v := ?_) rfl (by decide +kernel) (by decide +kernel) (by decide +kernel) (fun _ _ _ h => h) (Or.inl ⟨by rfl, ?_⟩) (by assumption) ?_
  case refine_2 => intro w hSw; obtain ⟨s0, s1⟩ := hSw; go_simp; try rfl
  try simp only [Act.put, List.setIfInBounds_toArray, List.set_cons_zero, List.set_cons_succ]
  refine wpAnyH_take (i := 1) (v := ?_) rfl (by decide +kernel) (by decide +kernel) (by decide +kernel) (fun _ _ _ h => h) (Or.inl ⟨by rfl, ?_⟩) (by assumption) ?_
  case refine_2 => intro w hSw; obtain ⟨s0, s1⟩ := hSw; go_simp; try rfl
  try simp only [Act.put, List.setIfInBounds_toArray, List.set_cons_zero, List.set_cons_succ]
  refine wpAnyH_take (i := 2) (v := ?_) rfl (by decide +kernel) (by decide +kernel) (by decide +kernel) (fun _ _ _ h => h) (Or.inl ⟨by rfl, ?_⟩) (by assumption) ?_
  case refine_2 => intro w hSw; obtain ⟨s0, s1⟩ := hSw; go_simp; try rfl
  try simp only [Act.put, List.setIfInBounds_toArray, List.set_cons_zero, List.set_cons_succ]
  refine wpAnyH_take (i := 3) (v := ?_) rfl (by decide +kernel) (by decide +kernel) (by decide +kernel) (fun _ _ _ h => h) (Or.inl ⟨by rfl, ?_⟩) (by assumption) ?_
  case refine_2 => intro w hSw; obtain ⟨s0, s1⟩ := hSw; go_simp; try rfl
  try simp only [Act.put, List.setIfInBounds_toArray, List.set_cons_zero, List.set_cons_succ]
  refine wpAnyH_take (i := 5) (v := ?_) rfl (by decide +kernel) (by decide +kernel) (by decide +kernel) (fun _ _ _ h => h) (Or.inl ⟨by rfl, ?_⟩) (by assumption) ?_
  case refine_2 => intro w hSw; obtain ⟨s0, s1⟩ := hSw; go_simp; try rfl
  try simp only [Act.put, List.setIfInBounds_toArray, List.set_cons_zero, List.set_cons_succ]
  refine wpAnyH_take (i := 6) (v := ?_) rfl (by decide +kernel) (by decide +kernel) (by decide +kernel) (fun _ _ _ h => h) (Or.inl ⟨by rfl, ?_⟩) (by assumption) ?_
  case refine_2 => intro w hSw; obtain ⟨s0, s1⟩ := hSw; go_simp; try rfl
  try simp only [Act.put, List.setIfInBounds_toArray, List.set_cons_zero, List.set_cons_succ]
  refine wpAnyH_take (i := 7) (v := ?_) rfl (by decide +kernel) (by decide +kernel) (by decide +kernel) (fun _ _ _ h => h) (Or.inl ⟨by rfl, ?_⟩) (by assumption) ?_
  case refine_2 => intro w hSw; obtain ⟨s0, s1⟩ := hSw; go_simp; try rfl
  try simp only [Act.put, List.setIfInBounds_toArray, List.set_cons_zero, List.set_cons_succ]
  refine wpAnyH_take (i := 8) (v := ?_) rfl (by decide +kernel) (by decide +kernel) (by decide +kernel) (fun _ _ _ h => h) (Or.inl ⟨by rfl, ?_⟩) (by assumption) ?_
  case refine_2 => intro w hSw; obtain ⟨s0, s1⟩ := hSw; go_simp; try rfl
  try simp only [Act.put, List.setIfInBounds_toArray, List.set_cons_zero, List.set_cons_succ]
  refine wpAnyH_take (i := 9) (v := ?_) rfl (by decide +kernel) (by decide +kernel) (by decide +kernel) (fun _ _ _ h => h) (Or.inl ⟨by rfl, ?_⟩) (by assumption) ?_
  case refine_2 => intro w hSw; obtain ⟨s0, s1⟩ := hSw; go_simp; try rfl
  try simp only [Act.put, List.setIfInBounds_toArray, List.set_cons_zero, List.set_cons_succ]
  refine wpAnyH_take (i := 10) (v := ?_) rfl (by decide +kernel) (by decide +kernel) (by decide +kernel) (fun _ _ _ h => h) (Or.inl ⟨by rfl, ?_⟩) (by assumption) ?_
  case refine_2 => intro w hSw; obtain ⟨s0, s1⟩ := hSw; go_simp; try rfl
  try simp only [Act.put, List.setIfInBounds_toArray, List.set_cons_zero, List.set_cons_succ]
  refine wpAnyH_take (i := 11) (v := ?_) rfl (by decide +kernel) (by decide +kernel) (by decide +kernel) (fun _ _ _ h => h) (Or.inl ⟨by rfl, ?_⟩) (by assumption) ?_
  case refine_2 => intro w hSw; obtain ⟨s0, s1⟩ := hSw; go_simp; try rfl
  try simp only [Act.put, List.setIfInBounds_toArray, List.set_cons_zero, List.set_cons_succ]
  refine wpAnyH_take (i := 12) (v := ?_) rfl (by decide +kernel) (by decide +kernel) (by decide +kernel) (fun _ _ _ h => h) (Or.inl ⟨by rfl, ?_⟩) (by assumption) ?_
  case refine_2 => intro w hSw; obtain ⟨s0, s1⟩ := hSw; go_simp; try rfl
  try simp only [Act.put, List.setIfInBounds_toArray, List.set_cons_zero, List.set_cons_succ]
  refine wpAnyH_ready (rs := [4, 13]) (by decide +kernel) (by simp) ?_
  refine AllReadyH.cons rfl (fun K hK => ?_) (AllReadyH.cons rfl (fun K hK => ?_) AllReadyH.nil)
  · go_simp
    refine hK.out _ _ hHeld (fun hHeld => ?_)
    clear hK K
    try simp only [Act.put, List.setIfInBounds_toArray, List.set_cons_zero, List.set_cons_succ]
    refine wpAnyH_ready (rs := [13]) (by decide +kernel) (by simp) ?_
    refine AllReadyH.cons rfl (fun K hK => ?_) AllReadyH.nil
    go_simp
    go_wp2_with (go_at_call 75; refine (HBH.out _ (Below.refl _ _).drew).mono ?_; clear HBH; rintro e w1 ⟨ka, kc, rfl, HX⟩)
    have HC : Bx _ := ⟨HALL.out w1 ka kc HX.out.1 HX.out.2⟩
    have HS1 := HC.out.1.1
    have hc1 : w1.cell? ⟨ub, 1, none⟩ = some tv := HC.out.1.2.1
    have hcT := HC.out.1.2.2.1
    have HST := HC.out.1.2.2.2.1
    have hub1 : ub < w1.heap.size := HC.out.1.2.2.2.2
    refine hK.out _ _ HS1 (fun hHeld => ?_)
    clear hK K
    try simp only [Act.put, List.setIfInBounds_toArray, List.set_cons_zero, List.set_cons_succ]
    refine wpAnyH_take (i := 14) (v := ?_) rfl (by decide +kernel) (by decide +kernel) (by decide +kernel) (fun _ _ _ h => h) (Or.inl ⟨by rfl, ?_⟩) (by assumption) ?_
    case refine_2 => intro w hSw; obtain ⟨s0, s1⟩ := hSw; go_simp; try rfl
    try simp only [Act.put, List.setIfInBounds_toArray, List.set_cons_zero, List.set_cons_succ]
    refine wpAnyH_ready (rs := [15]) (by decide +kernel) (by simp) ?_
    refine AllReadyH.cons rfl (fun K hK => ?_) AllReadyH.nil
    go_simp
    refine hK.out _ _ HST (fun hHeld => ?_)
    clear hK K
    try simp only [Act.put, List.setIfInBounds_toArray, List.set_cons_zero, List.set_cons_succ]
    refine wpAnyH_ready (rs := [16]) (by decide +kernel) (by simp) ?_
    refine AllReadyH.cons rfl (fun K hK => ?_) AllReadyH.nil
    refine step_append_lies _ rfl (.tmp 27) (.tmp 38) 34 rfl B 54 j0 (.agg #[.int .i64 0, .slice none 0 0, .bool false]) 3 40 Tryd.underlying34 ji jz0 jz1 jz2 rfl (by decide) tv n tcs.flatten (by simp [Act.eval, Act.put]) HC.out.2.1 ⟨w1.heap.size, 0, none⟩ 1 1 [.int .i64 x, .slice ka kd.length kc, .bool false] (by simp [Act.eval, Act.put]) rfl (ty_news _ _ rfl _ _ _) (ty_oneR _ _ _ _ _) (by decide) (by unfold maxLen; omega) (by omega) (by simp; omega) (w1.heap.size + 1) (by simp) ?_
    intro gg cg w8 hown hgrow hat hlt8
    obtain ⟨⟨e0, e1⟩, e5, e6, e7, e4, e9⟩ := HC.out.2.2 w8 hgrow
    have HFI : Bx _ := ⟨e9 gg cg hown⟩
    have hub8 : ub < w8.heap.size := (Array.getElem?_eq_some_iff.1 e5).1
    clear e9
    refine hK.out _ _ ⟨e0, e1⟩ (fun hHeld => ?_)
    clear hK K
    try simp only [Act.put, List.setIfInBounds_toArray, List.set_cons_zero, List.set_cons_succ]
    refine wpAnyH_take (i := 17) (v := ?_) rfl (by decide +kernel) (by decide +kernel) (by decide +kernel) (fun _ _ _ h => h) (Or.inl ⟨by rfl, ?_⟩) (by assumption) ?_
    case refine_2 => intro w hSw; obtain ⟨s0, s1⟩ := hSw; go_simp; try rfl
    try simp only [Act.put, List.setIfInBounds_toArray, List.set_cons_zero, List.set_cons_succ]
    refine wpAnyH_take (i := 18) (v := ?_) rfl (by decide +kernel) (by decide +kernel) (by decide +kernel) (fun _ _ _ h => h) (Or.inl ⟨by rfl, ?_⟩) (by assumption) ?_
    case refine_2 => intro w hSw; obtain ⟨s0, s1⟩ := hSw; go_simp; try rfl
    try simp only [Act.put, List.setIfInBounds_toArray, List.set_cons_zero, List.set_cons_succ]
    refine wpAnyH_ready (rs := [19]) (by decide +kernel) (by simp) ?_
    refine AllReadyH.cons rfl (fun K hK => ?_) AllReadyH.nil
    go_simp
    refine hK.out _ _ (far2 hne e0 e1) (fun hHeld => ?_)
    clear hK K
    refine wpAnyH_done (by decide +kernel) ?_ _
    have HB8 : Bx _ := ⟨e6⟩
    clear e0 e1 e4 e5 e6 e7 hown hgrow hat hHeld
    go_wp2
    go_ret
    exact ⟨rfl, ⟨HB8.out.setCell (p := ⟨ub, 1, none⟩) hBu _, HFI.out⟩⟩
  · skip
    go_simp
    go_wp2_with (go_at_call 75; refine (HBH.out _ (Below.refl _ _).drew).mono ?_; clear HBH; rintro e w1 ⟨ka, kc, rfl, HX⟩)
    have HC : Bx _ := ⟨HALL.out w1 ka kc HX.out.1 HX.out.2⟩
    have HS1 := HC.out.1.1
    have hc1 : w1.cell? ⟨ub, 1, none⟩ = some tv := HC.out.1.2.1
    have hcT := HC.out.1.2.2.1
    have HST := HC.out.1.2.2.2.1
    have hub1 : ub < w1.heap.size := HC.out.1.2.2.2.2
    refine hK.out _ _ HS1 (fun hHeld => ?_)
    clear hK K
    try simp only [Act.put, List.setIfInBounds_toArray, List.set_cons_zero, List.set_cons_succ]
    refine wpAnyH_take (i := 14) (v := ?_) rfl (by decide +kernel) (by decide +kernel) (by decide +kernel) (fun _ _ _ h => h) (Or.inl ⟨by rfl, ?_⟩) (by assumption) ?_
    case refine_2 => intro w hSw; obtain ⟨s0, s1⟩ := hSw; go_simp; try rfl
    try simp only [Act.put, List.setIfInBounds_toArray, List.set_cons_zero, List.set_cons_succ]
    refine wpAnyH_ready (rs := [4, 15]) (by decide +kernel) (by simp) ?_
    refine AllReadyH.cons rfl (fun K hK => ?_) (AllReadyH.cons rfl (fun K hK => ?_) AllReadyH.nil)
    · go_simp
      refine hK.out _ _ hHeld (fun hHeld => ?_)
      clear hK K
      try simp only [Act.put, List.setIfInBounds_toArray, List.set_cons_zero, List.set_cons_succ]
      refine wpAnyH_ready (rs := [15]) (by decide +kernel) (by simp) ?_
      refine AllReadyH.cons rfl (fun K hK => ?_) AllReadyH.nil
      go_simp
      refine hK.out _ _ HST (fun hHeld => ?_)
      clear hK K
      try simp only [Act.put, List.setIfInBounds_toArray, List.set_cons_zero, List.set_cons_succ]
      refine wpAnyH_ready (rs := [16]) (by decide +kernel) (by simp) ?_
      refine AllReadyH.cons rfl (fun K hK => ?_) AllReadyH.nil
      refine step_append_lies _ rfl (.tmp 27) (.tmp 38) 34 rfl B 54 j0 (.agg #[.int .i64 0, .slice none 0 0, .bool false]) 3 40 Tryd.underlying34 ji jz0 jz1 jz2 rfl (by decide) tv n tcs.flatten (by simp [Act.eval, Act.put]) HC.out.2.1 ⟨w1.heap.size, 0, none⟩ 1 1 [.int .i64 x, .slice ka kd.length kc, .bool false] (by simp [Act.eval, Act.put]) rfl (ty_news _ _ rfl _ _ _) (ty_oneR _ _ _ _ _) (by decide) (by unfold maxLen; omega) (by omega) (by simp; omega) (w1.heap.size + 1) (by simp) ?_
      intro gg cg w8 hown hgrow hat hlt8
      obtain ⟨⟨e0, e1⟩, e5, e6, e7, e4, e9⟩ := HC.out.2.2 w8 hgrow
      have HFI : Bx _ := ⟨e9 gg cg hown⟩
      have hub8 : ub < w8.heap.size := (Array.getElem?_eq_some_iff.1 e5).1
      clear e9
      refine hK.out _ _ ⟨e0, e1⟩ (fun hHeld => ?_)
      clear hK K
      try simp only [Act.put, List.setIfInBounds_toArray, List.set_cons_zero, List.set_cons_succ]
      refine wpAnyH_take (i := 17) (v := ?_) rfl (by decide +kernel) (by decide +kernel) (by decide +kernel) (fun _ _ _ h => h) (Or.inl ⟨by rfl, ?_⟩) (by assumption) ?_
      case refine_2 => intro w hSw; obtain ⟨s0, s1⟩ := hSw; go_simp; try rfl
      try simp only [Act.put, List.setIfInBounds_toArray, List.set_cons_zero, List.set_cons_succ]
      refine wpAnyH_take (i := 18) (v := ?_) rfl (by decide +kernel) (by decide +kernel) (by decide +kernel) (fun _ _ _ h => h) (Or.inl ⟨by rfl, ?_⟩) (by assumption) ?_
      case refine_2 => intro w hSw; obtain ⟨s0, s1⟩ := hSw; go_simp; try rfl
      try simp only [Act.put, List.setIfInBounds_toArray, List.set_cons_zero, List.set_cons_succ]
      refine wpAnyH_ready (rs := [19]) (by decide +kernel) (by simp) ?_
      refine AllReadyH.cons rfl (fun K hK => ?_) AllReadyH.nil
      go_simp
      refine hK.out _ _ (far2 hne e0 e1) (fun hHeld => ?_)
      clear hK K
      refine wpAnyH_done (by decide +kernel) ?_ _
      have HB8 : Bx _ := ⟨e6⟩
      clear e0 e1 e4 e5 e6 e7 hown hgrow hat hHeld
      go_wp2
      go_ret
      exact ⟨rfl, ⟨HB8.out.setCell (p := ⟨ub, 1, none⟩) hBu _, HFI.out⟩⟩
    · go_simp
      refine hK.out _ _ HST (fun hHeld => ?_)
      clear hK K
      try simp only [Act.put, List.setIfInBounds_toArray, List.set_cons_zero, List.set_cons_succ]
      refine wpAnyH_ready (rs := [4]) (by decide +kernel) (by simp) ?_
      refine AllReadyH.cons rfl (fun K hK => ?_) AllReadyH.nil
      go_simp
      refine hK.out _ _ hHeld (fun hHeld => ?_)
      clear hK K
      try simp only [Act.put, List.setIfInBounds_toArray, List.set_cons_zero, List.set_cons_succ]
      refine wpAnyH_ready (rs := [16]) (by decide +kernel) (by simp) ?_
      refine AllReadyH.cons rfl (fun K hK => ?_) AllReadyH.nil
      refine step_append_lies _ rfl (.tmp 27) (.tmp 38) 34 rfl B 54 j0 (.agg #[.int .i64 0, .slice none 0 0, .bool false]) 3 40 Tryd.underlying34 ji jz0 jz1 jz2 rfl (by decide) tv n tcs.flatten (by simp [Act.eval, Act.put]) HC.out.2.1 ⟨w1.heap.size, 0, none⟩ 1 1 [.int .i64 x, .slice ka kd.length kc, .bool false] (by simp [Act.eval, Act.put]) rfl (ty_news _ _ rfl _ _ _) (ty_oneR _ _ _ _ _) (by decide) (by unfold maxLen; omega) (by omega) (by simp; omega) (w1.heap.size + 1) (by simp) ?_
      intro gg cg w8 hown hgrow hat hlt8
      obtain ⟨⟨e0, e1⟩, e5, e6, e7, e4, e9⟩ := HC.out.2.2 w8 hgrow
      have HFI : Bx _ := ⟨e9 gg cg hown⟩
      have hub8 : ub < w8.heap.size := (Array.getElem?_eq_some_iff.1 e5).1
      clear e9
      refine hK.out _ _ ⟨e0, e1⟩ (fun hHeld => ?_)
      clear hK K
      try simp only [Act.put, List.setIfInBounds_toArray, List.set_cons_zero, List.set_cons_succ]
      refine wpAnyH_take (i := 17) (v := ?_) rfl (by decide +kernel) (by decide +kernel) (by decide +kernel) (fun _ _ _ h => h) (Or.inl ⟨by rfl, ?_⟩) (by assumption) ?_
      case refine_2 => intro w hSw; obtain ⟨s0, s1⟩ := hSw; go_simp; try rfl
      try simp only [Act.put, List.setIfInBounds_toArray, List.set_cons_zero, List.set_cons_succ]
      refine wpAnyH_take (i := 18) (v := ?_) rfl (by decide +kernel) (by decide +kernel) (by decide +kernel) (fun _ _ _ h => h) (Or.inl ⟨by rfl, ?_⟩) (by assumption) ?_
      case refine_2 => intro w hSw; obtain ⟨s0, s1⟩ := hSw; go_simp; try rfl
      try simp only [Act.put, List.setIfInBounds_toArray, List.set_cons_zero, List.set_cons_succ]
      refine wpAnyH_ready (rs := [19]) (by decide +kernel) (by simp) ?_
      refine AllReadyH.cons rfl (fun K hK => ?_) AllReadyH.nil
      go_simp
      refine hK.out _ _ (far2 hne e0 e1) (fun hHeld => ?_)
      clear hK K
      refine wpAnyH_done (by decide +kernel) ?_ _
      have HB8 : Bx _ := ⟨e6⟩
      clear e0 e1 e4 e5 e6 e7 hown hgrow hat hHeld
      go_wp2
      go_ret
      exact ⟨rfl, ⟨HB8.out.setCell (p := ⟨ub, 1, none⟩) hBu _, HFI.out⟩⟩
set_option maxRecDepth 100000 in
set_option maxHeartbeats 4000000 in
theorem addTypeV_b1 (w : World) (B ub lb lo cap : Nat) (u : CUn) (hu : UV w B ub u) (h00 : u.progs = []) (x : Int) (kd : List Int) (hi : IK w (some ⟨lb, lo, none⟩) cap (x :: 1 :: kd)) (hBu : B ≤ ub) (hnn : u.types.length ≤ 1099511627776) (hkl : kd.length ≤ 1099511627776) (m : Nat) (hm : m = kd.length + 2) :
    Calls Tryd.prog 64 #[.pointer (some ⟨ub, 0, none⟩), .slice (some ⟨lb, lo, none⟩) m cap] w fun e w' => e = .returned (.bool true) ∧ Bx (Below B w w' ∧ UV w' B ub { u with types := u.types ++ [⟨x, kd, true⟩] }) := by
  obtain ⟨j0, ji, jz0, jz1, jz2⟩ := info_parts infoTy
  obtain ⟨Lg, Kg, pv, tv, pcs, cut, u1, u2, u3, u4, u5, u6⟩ := hu.ex
  obtain ⟨tcs, u2a, u2b⟩ := u2.ex
  obtain ⟨b', o', LC, fz, hbo, hl, hcs⟩ := hi.at_ (by simp)
  injection hbo with hbo
  injection hbo with hb1 hb2
  subst hb1 hb2
  have h0 : w.cell? ⟨lb, lo, none⟩ = some (.int .i64 x) := hcs 0 (by simp)
  have h1 : w.cell? ⟨lb, lo + 1, none⟩ = some (.int .i64 1) := hcs 1 (by simp)
  have hcap := hi.cap
  simp only [List.length_cons] at hcap
  have hub : ub < w.heap.size := (Array.getElem?_eq_some_iff.1 u1).1
  have hlb : lb < w.heap.size := (Array.getElem?_eq_some_iff.1 hl).1
  have hne : lb ≠ ub := by
    rintro rfl
    rw [u1] at hl
    injection hl with hl
    injection hl with _ hl _
    exact absurd hl (by decide)
  have hpv : ∃ pa pc, pv = .slice pa 0 pc := by
    rw [h00] at u3
    rcases u3.2 with ⟨h, _⟩ | ⟨g, c, cur, h, _⟩
    · exact ⟨_, _, h⟩
    · exact ⟨_, _, h⟩
  obtain ⟨pa, pc, hpv⟩ := hpv
  subst hpv
  have g0 : w.cell? ⟨ub, 0, none⟩ = some (.slice pa 0 pc) := cell_blk u1 rfl
  have g1 : w.cell? ⟨ub, 1, none⟩ = some tv := cell_blk u1 rfl
  have HALL : Bx (∀ w1 ka kc, IN w.heap.size w1 ka kc kd → Below w.heap.size w w1 →
      ((w1.cell? ⟨lb, lo, none⟩ = some (.int .i64 x) ∧ w1.cell? ⟨lb, lo + 1, none⟩ = some (.int .i64 1)) ∧ w1.cell? ⟨ub, 1, none⟩ = some tv ∧ (w1.alloc (.cells #[.int .i64 x, .slice ka kd.length kc, .bool true] 54)).cell? ⟨ub, 1, none⟩ = some tv ∧ ((w1.alloc (.cells #[.int .i64 x, .slice ka kd.length kc, .bool true] 54)).cell? ⟨lb, lo, none⟩ = some (.int .i64 x) ∧ (w1.alloc (.cells #[.int .i64 x, .slice ka kd.length kc, .bool true] 54)).cell? ⟨lb, lo + 1, none⟩ = some (.int .i64 1)) ∧ ub < w1.heap.size) ∧
      (w1.alloc (.cells #[.int .i64 x, .slice ka kd.length kc, .bool true] 54)).ownsRow B 54 3 tv u.types.length tcs.flatten ∧
      ∀ w8, (w1.alloc (.cells #[.int .i64 x, .slice ka kd.length kc, .bool true] 54)).grownBy w8 tv.ownBlock → (w8.cell? ⟨lb, lo, none⟩ = some (.int .i64 x) ∧ w8.cell? ⟨lb, lo + 1, none⟩ = some (.int .i64 1)) ∧ w8.heap[ub]? = some (.cells #[.slice pa 0 pc, tv] 36 (0, 0)) ∧ Below B w w8 ∧ w8.frozen? ⟨ub, 1, none⟩ = false ∧ w8.cell? ⟨ub, 1, none⟩ = some tv ∧
        ∀ gg cg, w8.ownsRow B 54 3 (.slice (some ⟨gg, 0, none⟩) (u.types.length + 1) cg) (u.types.length + 1) (tcs.flatten ++ tyCells ⟨x, kd, true⟩ (.slice ka kd.length kc)) → UV (w8.setCell ⟨ub, 1, none⟩ (.slice (some ⟨gg, 0, none⟩) (u.types.length + 1) cg)) B ub { u with types := u.types ++ [⟨x, kd, true⟩] }) := ⟨fun w1 ka kc hik hb => by
    have hs := hb.size
    have hbT : Below w.heap.size w (w1.alloc (.cells #[.int .i64 x, .slice ka kd.length kc, .bool true] 54)) := hb.trans ((below1 w1 _).mono hs)
    have o1 : (w1.alloc (.cells #[.int .i64 x, .slice ka kd.length kc, .bool true] 54)).ownsRow B 54 3 tv u.types.length tcs.flatten := owns_on u2b (Kp.of (P := fun _ _ => True) hbT) fun _ _ => trivial
    refine ⟨⟨⟨by rw [hb.cell (p := ⟨lb, lo, none⟩) hlb]; exact h0, by rw [hb.cell (p := ⟨lb, lo + 1, none⟩) hlb]; exact h1⟩, by rw [hb.cell (p := ⟨ub, 1, none⟩) hub]; exact g1, by rw [hbT.cell (p := ⟨ub, 1, none⟩) hub]; exact g1, ⟨by rw [hbT.cell (p := ⟨lb, lo, none⟩) hlb]; exact h0, by rw [hbT.cell (p := ⟨lb, lo + 1, none⟩) hlb]; exact h1⟩, by omega⟩, o1, fun w8 hg => ?_⟩
    have kk := (Kp.of (P := fun _ _ => True) hbT).and (Kp.grown o1 hg)
    have e1 := (kk.blk ub _ _ _ u1 ⟨trivial, .inl (by decide)⟩).trans u1
    have e2 := kk.blk lb _ _ _ hl ⟨trivial, .inl (by decide)⟩
    have hc : ∀ i, w8.cell? ⟨lb, i, none⟩ = w.cell? ⟨lb, i, none⟩ := fun i => World.cell?_of_block (w := w) e2
    have hb8 : Below B w w8 := (hbT.mono (by omega)).grown hg (by simp; omega) fun x hx => (owns_block o1 hx).1
    exact ⟨⟨by rw [hc]; exact h0, by rw [hc]; exact h1⟩, e1, hb8, by simp [World.frozen?, e1], cell_blk e1 rfl, fun gg cg h => UV.addT u1 u2a u2b u3 u4 u5 u6 hbT (t := ⟨x, kd, true⟩) (hik.on (KI.of (below1 w1 _))) h hg⟩⟩
  have HBH : Bx (∀ X, Below w.heap.size w X → Calls Tryd.prog 75 #[.slice (some ⟨lb, lo, none⟩) m cap, .int .i64 2] X fun e w' => ∃ a' cap', e = .returned (.slice a' kd.length cap') ∧ Bx (IN w.heap.size w' a' cap' kd ∧ Below w.heap.size w w')) := ⟨fun X hX => by
    subst hm
    have := behind_own X (some ⟨lb, lo, none⟩) cap (x :: 1 :: kd) ((hi.ints.below hX).up hX.size) 2 (by simp) (by simp; omega)
    refine Calls.mono this ?_
    rintro e w' ⟨a', cap', rfl, hx⟩
    exact ⟨a', cap', rfl, ⟨hx.out.1.mono hX.size, hX.trans (hx.out.2.mono hX.size)⟩⟩⟩
  have HBIT : Bx _ := ⟨isBit_any 1 w⟩
  have e00 : isBitI 1 = true := rfl
  rw [e00] at HBIT
  have hpl : Bx (B ≤ w.heap.size) := ⟨by omega⟩
  generalize u.types.length = n at *
  have v0 : (0 : Int) < (m : Int) := by omega
  have v1 : (1 : Int) < (m : Int) := by omega
  have v2 : ¬ (m : Int) < 2 := by omega
  have v3 : 0 < m := by omega
  have v4 : 1 < m := by omega
  have v5 : m ≤ cap := by omega
  clear hm hcap
  clear hu h00 u1 u2 u2a u2b u3 u4 u5 u6 e00 hl hi hcs
  go_enter Tryd.func64, Tryd.ntmps64
  go_wp2_with (go_at_call 74; refine HBIT.out.mono ?_; rintro e w' ⟨rfl, rfl⟩)
  refine wp_region_held_drew (S := (fun w' : World => w'.cell? ⟨lb, lo, none⟩ = some (.int .i64 x) ∧ w'.cell? ⟨lb, lo + 1, none⟩ = some (.int .i64 1))) (by kernel_rfl) ⟨h0, h1⟩ (fun hHeld => ?_)
  try simp only [List.size_toArray, List.length_cons, List.length_nil]
  refine wpAnyH_take (i := 0) (v := ?_) rfl (by decide +kernel) (by decide +kernel) (by decide +kernel) (fun _ _ _ h => h) (Or.inl ⟨by rfl, ?_⟩) (by assumption) ?_
  case refine_2 => intro w hSw; obtain ⟨s0, s1⟩ := hSw; go_simp; try rfl
  try simp only [Act.put, List.setIfInBounds_toArray, List.set_cons_zero, List.set_cons_succ]
  refine wpAnyH_take (i := 1) (v := ?_) rfl (by decide +kernel) (by decide +kernel) (by decide +kernel) (fun _ _ _ h => h) (Or.inl ⟨by rfl, ?_⟩) (by assumption) ?_
  case refine_2 => intro w hSw; obtain ⟨s0, s1⟩ := hSw; go_simp; try rfl
  try simp only [Act.put, List.setIfInBounds_toArray, List.set_cons_zero, List.set_cons_succ]
  refine wpAnyH_take (i := 2) (v := ?_) rfl (by decide +kernel) (by decide +kernel) (by decide +kernel) (fun _ _ _ h => h) (Or.inl ⟨by rfl, ?_⟩) (by assumption) ?_
  case refine_2 => intro w hSw; obtain ⟨s0, s1⟩ := hSw; go_simp; try rfl
  try simp only [Act.put, List.setIfInBounds_toArray, List.set_cons_zero, List.set_cons_succ]
  refine wpAnyH_take (i := 3) (v := ?_) rfl (by decide +kernel) (by decide +kernel) (by decide +kernel) (fun _ _ _ h => h) (Or.inl ⟨by rfl, ?_⟩) (by assumption) ?_
  case refine_2 => intro w hSw; obtain ⟨s0, s1⟩ := hSw; go_simp; try rfl
  try simp only [Act.put, List.setIfInBounds_toArray, List.set_cons_zero, List.set_cons_succ]
  refine wpAnyH_take (i := 5) (v := ?_) rfl (by decide +kernel) (by decide +kernel) (by decide +kernel) (fun _ _ _ h => h) (Or.inl ⟨by rfl, ?_⟩) (by assumption) ?_
  case refine_2 => intro w hSw; obtain ⟨s0, s1⟩ := hSw; go_simp; try rfl
  try simp only [Act.put, List.setIfInBounds_toArray, List.set_cons_zero, List.set_cons_succ]
  refine wpAnyH_take (i := 6) (v := ?_) rfl (by decide +kernel) (by decide +kernel) (by decide +kernel) (fun _ _ _ h => h) (Or.inl ⟨by rfl, ?_⟩) (by assumption) ?_
  case refine_2 => intro w hSw; obtain ⟨s0, s1⟩ := hSw; go_simp; try rfl
  try simp only [Act.put, List.setIfInBounds_toArray, List.set_cons_zero, List.set_cons_succ]
  refine wpAnyH_take (i := 7) (v := ?_) rfl (by decide +kernel) (by decide +kernel) (by decide +kernel) (fun _ _ _ h => h) (Or.inl ⟨by rfl, ?_⟩) (by assumption) ?_
  case refine_2 => intro w hSw; obtain ⟨s0, s1⟩ := hSw; go_simp; try rfl
  try simp only [Act.put, List.setIfInBounds_toArray, List.set_cons_zero, List.set_cons_succ]
  refine wpAnyH_take (i := 8) (v := ?_) rfl (by decide +kernel) (by decide +kernel) (by decide +kernel) (fun _ _ _ h => h) (Or.inl ⟨by rfl, ?_⟩) (by assumption) ?_
  case refine_2 => intro w hSw; obtain ⟨s0, s1⟩ := hSw; go_simp; try rfl
  try simp only [Act.put, List.setIfInBounds_toArray, List.set_cons_zero, List.set_cons_succ]
  refine wpAnyH_take (i := 9) (v := ?_) rfl (by decide +kernel) (by decide +kernel) (by decide +kernel) (fun _ _ _ h => h) (Or.inl ⟨by rfl, ?_⟩) (by assumption) ?_
  case refine_2 => intro w hSw; obtain ⟨s0, s1⟩ := hSw; go_simp; try rfl
  try simp only [Act.put, List.setIfInBounds_toArray, List.set_cons_zero, List.set_cons_succ]
  refine wpAnyH_take (i := 10) (v := ?_) rfl (by decide +kernel) (by decide +kernel) (by decide +kernel) (fun _ _ _ h => h) (Or.inl ⟨by rfl, ?_⟩) (by assumption) ?_
  case refine_2 => intro w hSw; obtain ⟨s0, s1⟩ := hSw; go_simp; try rfl
  try simp only [Act.put, List.setIfInBounds_toArray, List.set_cons_zero, List.set_cons_succ]
  refine wpAnyH_take (i := 11) (v := ?_) rfl (by decide +kernel) (by decide +kernel) (by decide +kernel) (fun _ _ _ h => h) (Or.inl ⟨by rfl, ?_⟩) (by assumption) ?_
  case refine_2 => intro w hSw; obtain ⟨s0, s1⟩ := hSw; go_simp; try rfl
  try simp only [Act.put, List.setIfInBounds_toArray, List.set_cons_zero, List.set_cons_succ]
  refine wpAnyH_take (i := 12) (v := ?_) rfl (by decide +kernel) (by decide +kernel) (by decide +kernel) (fun _ _ _ h => h) (Or.inl ⟨by rfl, ?_⟩) (by assumption) ?_
  case refine_2 => intro w hSw; obtain ⟨s0, s1⟩ := hSw; go_simp; try rfl
  try simp only [Act.put, List.setIfInBounds_toArray, List.set_cons_zero, List.set_cons_succ]
  refine wpAnyH_ready (rs := [4, 13]) (by decide +kernel) (by simp) ?_
  refine AllReadyH.cons rfl (fun K hK => ?_) (AllReadyH.cons rfl (fun K hK => ?_) AllReadyH.nil)
  · go_simp
    refine hK.out _ _ hHeld (fun hHeld => ?_)
    clear hK K
    try simp only [Act.put, List.setIfInBounds_toArray, List.set_cons_zero, List.set_cons_succ]
    refine wpAnyH_ready (rs := [13]) (by decide +kernel) (by simp) ?_
    refine AllReadyH.cons rfl (fun K hK => ?_) AllReadyH.nil
    go_simp
    go_wp2_with (go_at_call 75; refine (HBH.out _ (Below.refl _ _).drew).mono ?_; clear HBH; rintro e w1 ⟨ka, kc, rfl, HX⟩)
    have HC : Bx _ := ⟨HALL.out w1 ka kc HX.out.1 HX.out.2⟩
    have HS1 := HC.out.1.1
    have hc1 : w1.cell? ⟨ub, 1, none⟩ = some tv := HC.out.1.2.1
    have hcT := HC.out.1.2.2.1
    have HST := HC.out.1.2.2.2.1
    have hub1 : ub < w1.heap.size := HC.out.1.2.2.2.2
    refine hK.out _ _ HS1 (fun hHeld => ?_)
    clear hK K
    try simp only [Act.put, List.setIfInBounds_toArray, List.set_cons_zero, List.set_cons_succ]
    refine wpAnyH_take (i := 14) (v := ?_) rfl (by decide +kernel) (by decide +kernel) (by decide +kernel) (fun _ _ _ h => h) (Or.inl ⟨by rfl, ?_⟩) (by assumption) ?_
    case refine_2 => intro w hSw; obtain ⟨s0, s1⟩ := hSw; go_simp; try rfl
    try simp only [Act.put, List.setIfInBounds_toArray, List.set_cons_zero, List.set_cons_succ]
    refine wpAnyH_ready (rs := [15]) (by decide +kernel) (by simp) ?_
    refine AllReadyH.cons rfl (fun K hK => ?_) AllReadyH.nil
    go_simp
    refine hK.out _ _ HST (fun hHeld => ?_)
    clear hK K
    try simp only [Act.put, List.setIfInBounds_toArray, List.set_cons_zero, List.set_cons_succ]
    refine wpAnyH_ready (rs := [16]) (by decide +kernel) (by simp) ?_
    refine AllReadyH.cons rfl (fun K hK => ?_) AllReadyH.nil
    refine step_append_lies _ rfl (.tmp 27) (.tmp 38) 34 rfl B 54 j0 (.agg #[.int .i64 0, .slice none 0 0, .bool false]) 3 40 Tryd.underlying34 ji jz0 jz1 jz2 rfl (by decide) tv n tcs.flatten (by simp [Act.eval, Act.put]) HC.out.2.1 ⟨w1.heap.size, 0, none⟩ 1 1 [.int .i64 x, .slice ka kd.length kc, .bool true] (by simp [Act.eval, Act.put]) rfl (ty_news _ _ rfl _ _ _) (ty_oneR _ _ _ _ _) (by decide) (by unfold maxLen; omega) (by omega) (by simp; omega) (w1.heap.size + 1) (by simp) ?_
    intro gg cg w8 hown hgrow hat hlt8
    obtain ⟨⟨e0, e1⟩, e5, e6, e7, e4, e9⟩ := HC.out.2.2 w8 hgrow
    have HFI : Bx _ := ⟨e9 gg cg hown⟩
    have hub8 : ub < w8.heap.size := (Array.getElem?_eq_some_iff.1 e5).1
    clear e9
    refine hK.out _ _ ⟨e0, e1⟩ (fun hHeld => ?_)
    clear hK K
    try simp only [Act.put, List.setIfInBounds_toArray, List.set_cons_zero, List.set_cons_succ]
    refine wpAnyH_take (i := 17) (v := ?_) rfl (by decide +kernel) (by decide +kernel) (by decide +kernel) (fun _ _ _ h => h) (Or.inl ⟨by rfl, ?_⟩) (by assumption) ?_
    case refine_2 => intro w hSw; obtain ⟨s0, s1⟩ := hSw; go_simp; try rfl
    try simp only [Act.put, List.setIfInBounds_toArray, List.set_cons_zero, List.set_cons_succ]
    refine wpAnyH_take (i := 18) (v := ?_) rfl (by decide +kernel) (by decide +kernel) (by decide +kernel) (fun _ _ _ h => h) (Or.inl ⟨by rfl, ?_⟩) (by assumption) ?_
    case refine_2 => intro w hSw; obtain ⟨s0, s1⟩ := hSw; go_simp; try rfl
    try simp only [Act.put, List.setIfInBounds_toArray, List.set_cons_zero, List.set_cons_succ]
    refine wpAnyH_ready (rs := [19]) (by decide +kernel) (by simp) ?_
    refine AllReadyH.cons rfl (fun K hK => ?_) AllReadyH.nil
    go_simp
    refine hK.out _ _ (far2 hne e0 e1) (fun hHeld => ?_)
    clear hK K
    refine wpAnyH_done (by decide +kernel) ?_ _
    have HB8 : Bx _ := ⟨e6⟩
    clear e0 e1 e4 e5 e6 e7 hown hgrow hat hHeld
    go_wp2
    go_ret
    exact ⟨rfl, ⟨HB8.out.setCell (p := ⟨ub, 1, none⟩) hBu _, HFI.out⟩⟩
  · skip
    go_simp
    go_wp2_with (go_at_call 75; refine (HBH.out _ (Below.refl _ _).drew).mono ?_; clear HBH; rintro e w1 ⟨ka, kc, rfl, HX⟩)
    have HC : Bx _ := ⟨HALL.out w1 ka kc HX.out.1 HX.out.2⟩
    have HS1 := HC.out.1.1
    have hc1 : w1.cell? ⟨ub, 1, none⟩ = some tv := HC.out.1.2.1
    have hcT := HC.out.1.2.2.1
    have HST := HC.out.1.2.2.2.1
    have hub1 : ub < w1.heap.size := HC.out.1.2.2.2.2
    refine hK.out _ _ HS1 (fun hHeld => ?_)
    clear hK K
    try simp only [Act.put, List.setIfInBounds_toArray, List.set_cons_zero, List.set_cons_succ]
    refine wpAnyH_take (i := 14) (v := ?_) rfl (by decide +kernel) (by decide +kernel) (by decide +kernel) (fun _ _ _ h => h) (Or.inl ⟨by rfl, ?_⟩) (by assumption) ?_
    case refine_2 => intro w hSw; obtain ⟨s0, s1⟩ := hSw; go_simp; try rfl
    try simp only [Act.put, List.setIfInBounds_toArray, List.set_cons_zero, List.set_cons_succ]
    refine wpAnyH_ready (rs := [4, 15]) (by decide +kernel) (by simp) ?_
    refine AllReadyH.cons rfl (fun K hK => ?_) (AllReadyH.cons rfl (fun K hK => ?_) AllReadyH.nil)
    · go_simp
      refine hK.out _ _ hHeld (fun hHeld => ?_)
      clear hK K
      try simp only [Act.put, List.setIfInBounds_toArray, List.set_cons_zero, List.set_cons_succ]
      refine wpAnyH_ready (rs := [15]) (by decide +kernel) (by simp) ?_
      refine AllReadyH.cons rfl (fun K hK => ?_) AllReadyH.nil
      go_simp
      refine hK.out _ _ HST (fun hHeld => ?_)
      clear hK K
      try simp only [Act.put, List.setIfInBounds_toArray, List.set_cons_zero, List.set_cons_succ]
      refine wpAnyH_ready (rs := [16]) (by decide +kernel) (by simp) ?_
      refine AllReadyH.cons rfl (fun K hK => ?_) AllReadyH.nil
      refine step_append_lies _ rfl (.tmp 27) (.tmp 38) 34 rfl B 54 j0 (.agg #[.int .i64 0, .slice none 0 0, .bool false]) 3 40 Tryd.underlying34 ji jz0 jz1 jz2 rfl (by decide) tv n tcs.flatten (by simp [Act.eval, Act.put]) HC.out.2.1 ⟨w1.heap.size, 0, none⟩ 1 1 [.int .i64 x, .slice ka kd.length kc, .bool true] (by simp [Act.eval, Act.put]) rfl (ty_news _ _ rfl _ _ _) (ty_oneR _ _ _ _ _) (by decide) (by unfold maxLen; omega) (by omega) (by simp; omega) (w1.heap.size + 1) (by simp) ?_
      intro gg cg w8 hown hgrow hat hlt8
      obtain ⟨⟨e0, e1⟩, e5, e6, e7, e4, e9⟩ := HC.out.2.2 w8 hgrow
      have HFI : Bx _ := ⟨e9 gg cg hown⟩
      have hub8 : ub < w8.heap.size := (Array.getElem?_eq_some_iff.1 e5).1
      clear e9
      refine hK.out _ _ ⟨e0, e1⟩ (fun hHeld => ?_)
      clear hK K
      try simp only [Act.put, List.setIfInBounds_toArray, List.set_cons_zero, List.set_cons_succ]
      refine wpAnyH_take (i := 17) (v := ?_) rfl (by decide +kernel) (by decide +kernel) (by decide +kernel) (fun _ _ _ h => h) (Or.inl ⟨by rfl, ?_⟩) (by assumption) ?_
      case refine_2 => intro w hSw; obtain ⟨s0, s1⟩ := hSw; go_simp; try rfl
      try simp only [Act.put, List.setIfInBounds_toArray, List.set_cons_zero, List.set_cons_succ]
      refine wpAnyH_take (i := 18) (v := ?_) rfl (by decide +kernel) (by decide +kernel) (by decide +kernel) (fun _ _ _ h => h) (Or.inl ⟨by rfl, ?_⟩) (by assumption) ?_
      case refine_2 => intro w hSw; obtain ⟨s0, s1⟩ := hSw; go_simp; try rfl
      try simp only [Act.put, List.setIfInBounds_toArray, List.set_cons_zero, List.set_cons_succ]
      refine wpAnyH_ready (rs := [19]) (by decide +kernel) (by simp) ?_
      refine AllReadyH.cons rfl (fun K hK => ?_) AllReadyH.nil
      go_simp
      refine hK.out _ _ (far2 hne e0 e1) (fun hHeld => ?_)
      clear hK K
      refine wpAnyH_done (by decide +kernel) ?_ _
      have HB8 : Bx _ := ⟨e6⟩
      clear e0 e1 e4 e5 e6 e7 hown hgrow hat hHeld
      go_wp2
      go_ret
      exact ⟨rfl, ⟨HB8.out.setCell (p := ⟨ub, 1, none⟩) hBu _, HFI.out⟩⟩
    · go_simp
      refine hK.out _ _ HST (fun hHeld => ?_)
      clear hK K
      try simp only [Act.put, List.setIfInBounds_toArray, List.set_cons_zero, List.set_cons_succ]
      refine wpAnyH_ready (rs := [4]) (by decide +kernel) (by simp) ?_
      refine AllReadyH.cons rfl (fun K hK => ?_) AllReadyH.nil
      go_simp
      refine hK.out _ _ hHeld (fun hHeld => ?_)
      clear hK K
      try simp only [Act.put, List.setIfInBounds_toArray, List.set_cons_zero, List.set_cons_succ]
      refine wpAnyH_ready (rs := [16]) (by decide +kernel) (by simp) ?_
      refine AllReadyH.cons rfl (fun K hK => ?_) AllReadyH.nil
      refine step_append_lies _ rfl (.tmp 27) (.tmp 38) 34 rfl B 54 j0 (.agg #[.int .i64 0, .slice none 0 0, .bool false]) 3 40 Tryd.underlying34 ji jz0 jz1 jz2 rfl (by decide) tv n tcs.flatten (by simp [Act.eval, Act.put]) HC.out.2.1 ⟨w1.heap.size, 0, none⟩ 1 1 [.int .i64 x, .slice ka kd.length kc, .bool true] (by simp [Act.eval, Act.put]) rfl (ty_news _ _ rfl _ _ _) (ty_oneR _ _ _ _ _) (by decide) (by unfold maxLen; omega) (by omega) (by simp; omega) (w1.heap.size + 1) (by simp) ?_
      intro gg cg w8 hown hgrow hat hlt8
      obtain ⟨⟨e0, e1⟩, e5, e6, e7, e4, e9⟩ := HC.out.2.2 w8 hgrow
      have HFI : Bx _ := ⟨e9 gg cg hown⟩
      have hub8 : ub < w8.heap.size := (Array.getElem?_eq_some_iff.1 e5).1
      clear e9
      refine hK.out _ _ ⟨e0, e1⟩ (fun hHeld => ?_)
      clear hK K
      try simp only [Act.put, List.setIfInBounds_toArray, List.set_cons_zero, List.set_cons_succ]
      refine wpAnyH_take (i := 17) (v := ?_) rfl (by decide +kernel) (by decide +kernel) (by decide +kernel) (fun _ _ _ h => h) (Or.inl ⟨by rfl, ?_⟩) (by assumption) ?_
      case refine_2 => intro w hSw; obtain ⟨s0, s1⟩ := hSw; go_simp; try rfl
      try simp only [Act.put, List.setIfInBounds_toArray, List.set_cons_zero, List.set_cons_succ]
      refine wpAnyH_take (i := 18) (v := ?_) rfl (by decide +kernel) (by decide +kernel) (by decide +kernel) (fun _ _ _ h => h) (Or.inl ⟨by rfl, ?_⟩) (by assumption) ?_
      case refine_2 => intro w hSw; obtain ⟨s0, s1⟩ := hSw; go_simp; try rfl
      try simp only [Act.put, List.setIfInBounds_toArray, List.set_cons_zero, List.set_cons_succ]
      refine wpAnyH_ready (rs := [19]) (by decide +kernel) (by simp) ?_
      refine AllReadyH.cons rfl (fun K hK => ?_) AllReadyH.nil
      go_simp
      refine hK.out _ _ (far2 hne e0 e1) (fun hHeld => ?_)
      clear hK K
      refine wpAnyH_done (by decide +kernel) ?_ _
      have HB8 : Bx _ := ⟨e6⟩
      clear e0 e1 e4 e5 e6 e7 hown hgrow hat hHeld
      go_wp2
      go_ret
      exact ⟨rfl, ⟨HB8.out.setCell (p := ⟨ub, 1, none⟩) hBu _, HFI.out⟩⟩

end Go.Proofs.YtijdcplffmdijaaDoor
