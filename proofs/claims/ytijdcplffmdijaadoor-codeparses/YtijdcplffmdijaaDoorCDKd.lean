import Derived.Test.YtijdcplffmdijaaDoorCDKa
namespace Go.Proofs.YtijdcplffmdijaaDoor
open Go.RowKit
set_option linter.unusedVariables false
set_option linter.unusedSimpArgs false

set_option maxRecDepth 100000 in
set_option maxHeartbeats 4000000 in
theorem addProgV_b0 (w : World) (B ub lb lo cap : Nat) (u : CUn) (hu : UV w B ub u) (a b c : Int) (LC : Array Value) (fz : Nat × Nat) (hl : w.heap[lb]? = some (.cells LC 3 fz)) (h0 : w.cell? ⟨lb, lo, none⟩ = some (.int .i64 a)) (h1 : w.cell? ⟨lb, lo + 1, none⟩ = some (.int .i64 b)) (h2 : w.cell? ⟨lb, lo + 2, none⟩ = some (.int .i64 c)) (h3 : w.cell? ⟨lb, lo + 3, none⟩ = some (.int .i64 0)) (hc : 4 ≤ cap) (hBu : B ≤ ub) (hnn : u.progs.length ≤ 1099511627776) :
    Calls Tryd.prog 65 #[.pointer (some ⟨ub, 0, none⟩), .slice (some ⟨lb, lo, none⟩) 4 cap] w fun e w' => e = .returned (.bool true) ∧ Bx (Below B w w' ∧ UV w' B ub { u with progs := u.progs ++ [⟨a, b, c, false, []⟩] }) := by
  obtain ⟨j0, ji, jz0, jz1, jz2⟩ := info_parts infoPg
  obtain ⟨Lg, Kg, pv, tv, pcs, cut, u1, u2, u3, u4, u5, u6⟩ := hu.ex
  have hub : ub < w.heap.size := (Array.getElem?_eq_some_iff.1 u1).1
  have hlb : lb < w.heap.size := (Array.getElem?_eq_some_iff.1 hl).1
  have hne : lb ≠ ub := by
    rintro rfl
    rw [u1] at hl
    injection hl with hl
    injection hl with _ hl _
    exact absurd hl (by decide)
  have g0 : w.cell? ⟨ub, 0, none⟩ = some pv := cell_blk u1 rfl
  have hbA : Below w.heap.size w ((w.alloc (.cells #[.int .i64 a, .int .i64 b, .int .i64 c, .bool false, .slice none 0 0] 57)).drew) := (below1 w _).drew
  have o1 : ((w.alloc (.cells #[.int .i64 a, .int .i64 b, .int .i64 c, .bool false, .slice none 0 0] 57)).drew).ownsRow B 57 5 pv u.progs.length pcs.flatten := owns_on u3 (Kp.of (P := fun _ _ => True) hbA) fun _ _ => trivial
  have HK : Bx (∀ w8, ((w.alloc (.cells #[.int .i64 a, .int .i64 b, .int .i64 c, .bool false, .slice none 0 0] 57)).drew).grownBy w8 pv.ownBlock → (w8.cell? ⟨lb, lo, none⟩ = some (.int .i64 a) ∧ w8.cell? ⟨lb, lo + 1, none⟩ = some (.int .i64 b) ∧ w8.cell? ⟨lb, lo + 2, none⟩ = some (.int .i64 c) ∧ w8.cell? ⟨lb, lo + 3, none⟩ = some (.int .i64 0)) ∧ w8.heap[ub]? = some (.cells #[pv, tv] 36 (0, 0)) ∧ Below B w w8 ∧ w8.frozen? ⟨ub, 0, none⟩ = false ∧ w8.cell? ⟨ub, 0, none⟩ = some pv) := ⟨fun w8 hg => by
    have kk := (Kp.of (P := fun _ _ => True) hbA).and (Kp.grown o1 hg)
    have e1 := (kk.blk ub _ _ _ u1 ⟨trivial, .inl (by decide)⟩).trans u1
    have e2 := kk.blk lb _ _ _ hl ⟨trivial, .inl (by decide)⟩
    have hc : ∀ i, w8.cell? ⟨lb, i, none⟩ = w.cell? ⟨lb, i, none⟩ := fun i => World.cell?_of_block (w := w) e2
    have hb : Below B w w8 := (hbA.mono (by omega)).grown hg (by simp; omega) fun x hx => (owns_block o1 hx).1
    exact ⟨⟨by rw [hc]; exact h0, by rw [hc]; exact h1, by rw [hc]; exact h2, by rw [hc]; exact h3⟩, e1, hb, by simp [World.frozen?, e1], cell_blk e1 rfl⟩⟩
  have HFIN : Bx (∀ (w8 : World) gg cg, w8.ownsRow B 57 5 (.slice (some ⟨gg, 0, none⟩) (u.progs.length + 1) cg) (u.progs.length + 1) (pcs.flatten ++ pgCells ⟨a, b, c, false, []⟩ (.slice none 0 0)) → ((w.alloc (.cells #[.int .i64 a, .int .i64 b, .int .i64 c, .bool false, .slice none 0 0] 57)).drew).grownBy w8 pv.ownBlock → UV (w8.setCell ⟨ub, 0, none⟩ (.slice (some ⟨gg, 0, none⟩) (u.progs.length + 1) cg)) B ub { u with progs := u.progs ++ [⟨a, b, c, false, []⟩] }) := ⟨fun w8 gg cg h g => UV.addP u1 u2 u3 u4 u5 u6 hbA rfl h g⟩
  have HBIT : Bx _ := ⟨isBit_any 0 w⟩
  have e00 : isBitI 0 = true := rfl
  rw [e00] at HBIT
  have HOW : Bx _ := ⟨o1⟩
  have gA : ((w.alloc (.cells #[.int .i64 a, .int .i64 b, .int .i64 c, .bool false, .slice none 0 0] 57)).drew).cell? ⟨ub, 0, none⟩ = some pv := cell_blk (below_heap (below1 w _) u1) rfl
  have HSA : Bx (((w.alloc (.cells #[.int .i64 a, .int .i64 b, .int .i64 c, .bool false, .slice none 0 0] 57)).drew).cell? ⟨lb, lo, none⟩ = some (.int .i64 a) ∧ ((w.alloc (.cells #[.int .i64 a, .int .i64 b, .int .i64 c, .bool false, .slice none 0 0] 57)).drew).cell? ⟨lb, lo + 1, none⟩ = some (.int .i64 b) ∧ ((w.alloc (.cells #[.int .i64 a, .int .i64 b, .int .i64 c, .bool false, .slice none 0 0] 57)).drew).cell? ⟨lb, lo + 2, none⟩ = some (.int .i64 c) ∧ ((w.alloc (.cells #[.int .i64 a, .int .i64 b, .int .i64 c, .bool false, .slice none 0 0] 57)).drew).cell? ⟨lb, lo + 3, none⟩ = some (.int .i64 0)) := ⟨by
    have k : ∀ i, ((w.alloc (.cells #[.int .i64 a, .int .i64 b, .int .i64 c, .bool false, .slice none 0 0] 57)).drew).cell? ⟨lb, i, none⟩ = w.cell? ⟨lb, i, none⟩ := fun i => (below1 w _).cell (p := ⟨lb, i, none⟩) hlb
    exact ⟨by rw [k]; exact h0, by rw [k]; exact h1, by rw [k]; exact h2, by rw [k]; exact h3⟩⟩
  have hpl : Bx (B ≤ w.heap.size) := ⟨by omega⟩
  generalize u.progs.length = n at *
  clear hu u1 u2 u3 u4 u5 u6 e00 hbA o1 hl
  go_enter Tryd.func65, Tryd.ntmps65
  go_wp2_with (go_at_call 74; refine HBIT.out.mono ?_; rintro e w' ⟨rfl, rfl⟩)
  refine wp_region_held_drew (S := (fun w' : World => w'.cell? ⟨lb, lo, none⟩ = some (.int .i64 a) ∧ w'.cell? ⟨lb, lo + 1, none⟩ = some (.int .i64 b) ∧ w'.cell? ⟨lb, lo + 2, none⟩ = some (.int .i64 c) ∧ w'.cell? ⟨lb, lo + 3, none⟩ = some (.int .i64 0))) (by kernel_rfl) ⟨h0, h1, h2, h3⟩ (fun hHeld => ?_)
  try simp only [List.size_toArray, List.length_cons, List.length_nil]
  refine wpAnyH_take (i := 0) (v := ?_) rfl (by decide +kernel) (by decide +kernel) (by decide +kernel) (fun _ _ _ h => h) (Or.inl ⟨by rfl, ?_⟩) (by assumption) ?_
  case refine_2 => intro w hSw; obtain ⟨s0, s1, s2, s3⟩ := hSw; go_simp; try rfl
  try simp only [Act.put, List.setIfInBounds_toArray, List.set_cons_zero, List.set_cons_succ]
  refine wpAnyH_take (i := 1) (v := ?_) rfl (by decide +kernel) (by decide +kernel) (by decide +kernel) (fun _ _ _ h => h) (Or.inl ⟨by rfl, ?_⟩) (by assumption) ?_
  case refine_2 => intro w hSw; obtain ⟨s0, s1, s2, s3⟩ := hSw; go_simp; try rfl
  try simp only [Act.put, List.setIfInBounds_toArray, List.set_cons_zero, List.set_cons_succ]
  refine wpAnyH_take (i := 2) (v := ?_) rfl (by decide +kernel) (by decide +kernel) (by decide +kernel) (fun _ _ _ h => h) (Or.inl ⟨by rfl, ?_⟩) (by assumption) ?_
  case refine_2 => intro w hSw; obtain ⟨s0, s1, s2, s3⟩ := hSw; go_simp; try rfl
  try simp only [Act.put, List.setIfInBounds_toArray, List.set_cons_zero, List.set_cons_succ]
  refine wpAnyH_take (i := 3) (v := ?_) rfl (by decide +kernel) (by decide +kernel) (by decide +kernel) (fun _ _ _ h => h) (Or.inl ⟨by rfl, ?_⟩) (by assumption) ?_
  case refine_2 => intro w hSw; obtain ⟨s0, s1, s2, s3⟩ := hSw; go_simp; try rfl
  try simp only [Act.put, List.setIfInBounds_toArray, List.set_cons_zero, List.set_cons_succ]
  refine wpAnyH_take (i := 5) (v := ?_) rfl (by decide +kernel) (by decide +kernel) (by decide +kernel) (fun _ _ _ h => h) (Or.inl ⟨by rfl, ?_⟩) (by assumption) ?_
  case refine_2 => intro w hSw; obtain ⟨s0, s1, s2, s3⟩ := hSw; go_simp; try rfl
  try simp only [Act.put, List.setIfInBounds_toArray, List.set_cons_zero, List.set_cons_succ]
  refine wpAnyH_take (i := 6) (v := ?_) rfl (by decide +kernel) (by decide +kernel) (by decide +kernel) (fun _ _ _ h => h) (Or.inl ⟨by rfl, ?_⟩) (by assumption) ?_
  case refine_2 => intro w hSw; obtain ⟨s0, s1, s2, s3⟩ := hSw; go_simp; try rfl
  try simp only [Act.put, List.setIfInBounds_toArray, List.set_cons_zero, List.set_cons_succ]
  refine wpAnyH_take (i := 7) (v := ?_) rfl (by decide +kernel) (by decide +kernel) (by decide +kernel) (fun _ _ _ h => h) (Or.inl ⟨by rfl, ?_⟩) (by assumption) ?_
  case refine_2 => intro w hSw; obtain ⟨s0, s1, s2, s3⟩ := hSw; go_simp; try rfl
  try simp only [Act.put, List.setIfInBounds_toArray, List.set_cons_zero, List.set_cons_succ]
  refine wpAnyH_take (i := 8) (v := ?_) rfl (by decide +kernel) (by decide +kernel) (by decide +kernel) (fun _ _ _ h => h) (Or.inl ⟨by rfl, ?_⟩) (by assumption) ?_
  case refine_2 => intro w hSw; obtain ⟨s0, s1, s2, s3⟩ := hSw; go_simp; try rfl
  try simp only [Act.put, List.setIfInBounds_toArray, List.set_cons_zero, List.set_cons_succ]
  refine wpAnyH_take (i := 9) (v := ?_) rfl (by decide +kernel) (by decide +kernel) (by decide +kernel) (fun _ _ _ h => h) (Or.inl ⟨by rfl, ?_⟩) (by assumption) ?_
  case refine_2 => intro w hSw; obtain ⟨s0, s1, s2, s3⟩ := hSw; go_simp; try rfl
  try simp only [Act.put, List.setIfInBounds_toArray, List.set_cons_zero, List.set_cons_succ]
  refine wpAnyH_take (i := 10) (v := ?_) rfl (by decide +kernel) (by decide +kernel) (by decide +kernel) (fun _ _ _ h => h) (Or.inl ⟨by rfl, ?_⟩) (by assumption) ?_
  case refine_2 => intro w hSw; obtain ⟨s0, s1, s2, s3⟩ := hSw; go_simp; try rfl
  try simp only [Act.put, List.setIfInBounds_toArray, List.set_cons_zero, List.set_cons_succ]
  refine wpAnyH_take (i := 11) (v := ?_) rfl (by decide +kernel) (by decide +kernel) (by decide +kernel) (fun _ _ _ h => h) (Or.inl ⟨by rfl, ?_⟩) (by assumption) ?_
  case refine_2 => intro w hSw; obtain ⟨s0, s1, s2, s3⟩ := hSw; go_simp; try rfl
  try simp only [Act.put, List.setIfInBounds_toArray, List.set_cons_zero, List.set_cons_succ]
  refine wpAnyH_take (i := 12) (v := ?_) rfl (by decide +kernel) (by decide +kernel) (by decide +kernel) (fun _ _ _ h => h) (Or.inl ⟨by rfl, ?_⟩) (by assumption) ?_
  case refine_2 => intro w hSw; obtain ⟨s0, s1, s2, s3⟩ := hSw; go_simp; try rfl
  try simp only [Act.put, List.setIfInBounds_toArray, List.set_cons_zero, List.set_cons_succ]
  refine wpAnyH_take (i := 13) (v := ?_) rfl (by decide +kernel) (by decide +kernel) (by decide +kernel) (fun _ _ _ h => h) (Or.inl ⟨by rfl, ?_⟩) (by assumption) ?_
  case refine_2 => intro w hSw; obtain ⟨s0, s1, s2, s3⟩ := hSw; go_simp; try rfl
  try simp only [Act.put, List.setIfInBounds_toArray, List.set_cons_zero, List.set_cons_succ]
  refine wpAnyH_take (i := 14) (v := ?_) rfl (by decide +kernel) (by decide +kernel) (by decide +kernel) (fun _ _ _ h => h) (Or.inl ⟨by rfl, ?_⟩) (by assumption) ?_
  case refine_2 => intro w hSw; obtain ⟨s0, s1, s2, s3⟩ := hSw; go_simp; try rfl
  try simp only [Act.put, List.setIfInBounds_toArray, List.set_cons_zero, List.set_cons_succ]
  refine wpAnyH_take (i := 15) (v := ?_) rfl (by decide +kernel) (by decide +kernel) (by decide +kernel) (fun _ _ _ h => h) (Or.inl ⟨by rfl, ?_⟩) (by assumption) ?_
  case refine_2 => intro w hSw; obtain ⟨s0, s1, s2, s3⟩ := hSw; go_simp; try rfl
  try simp only [Act.put, List.setIfInBounds_toArray, List.set_cons_zero, List.set_cons_succ]
  refine wpAnyH_take (i := 16) (v := ?_) rfl (by decide +kernel) (by decide +kernel) (by decide +kernel) (fun _ _ _ h => h) (Or.inl ⟨by rfl, ?_⟩) (by assumption) ?_
  case refine_2 => intro w hSw; obtain ⟨s0, s1, s2, s3⟩ := hSw; go_simp; try rfl
  try simp only [Act.put, List.setIfInBounds_toArray, List.set_cons_zero, List.set_cons_succ]
  refine wpAnyH_take (i := 17) (v := ?_) rfl (by decide +kernel) (by decide +kernel) (by decide +kernel) (fun _ _ _ h => h) (Or.inl ⟨by rfl, ?_⟩) (by assumption) ?_
  case refine_2 => intro w hSw; obtain ⟨s0, s1, s2, s3⟩ := hSw; go_simp; try rfl
  try simp only [Act.put, List.setIfInBounds_toArray, List.set_cons_zero, List.set_cons_succ]
  refine wpAnyH_take (i := 18) (v := ?_) rfl (by decide +kernel) (by decide +kernel) (by decide +kernel) (fun _ _ _ h => h) (Or.inl ⟨by rfl, ?_⟩) (by assumption) ?_
  case refine_2 => intro w hSw; obtain ⟨s0, s1, s2, s3⟩ := hSw; go_simp; try rfl
  try simp only [Act.put, List.setIfInBounds_toArray, List.set_cons_zero, List.set_cons_succ]
  refine wpAnyH_ready (rs := [4, 19]) (by decide +kernel) (by simp) ?_
  refine AllReadyH.cons rfl (fun K hK => ?_) (AllReadyH.cons rfl (fun K hK => ?_) AllReadyH.nil)
  · go_simp
    refine hK.out _ _ hHeld (fun hHeld => ?_)
    clear hK K
    try simp only [Act.put, List.setIfInBounds_toArray, List.set_cons_zero, List.set_cons_succ]
    refine wpAnyH_ready (rs := [19]) (by decide +kernel) (by simp) ?_
    refine AllReadyH.cons rfl (fun K hK => ?_) AllReadyH.nil
    go_simp
    refine hK.out _ _ HSA.out (fun hHeld => ?_)
    clear hK K
    try simp only [Act.put, List.setIfInBounds_toArray, List.set_cons_zero, List.set_cons_succ]
    refine wpAnyH_ready (rs := [20]) (by decide +kernel) (by simp) ?_
    refine AllReadyH.cons rfl (fun K hK => ?_) AllReadyH.nil
    refine step_append_lies _ rfl (.tmp 14) (.tmp 29) 33 rfl B 57 j0 (.agg #[.int .i64 0, .int .i64 0, .int .i64 0, .bool false, .slice none 0 0]) 5 56 Tryd.underlying33 ji jz0 jz1 jz2 rfl (by decide) pv n pcs.flatten (by simp [Act.eval, Act.put]) HOW.out ⟨w.heap.size, 0, none⟩ 1 1 [.int .i64 a, .int .i64 b, .int .i64 c, .bool false, .slice none 0 0] (by simp [Act.eval, Act.put]) rfl (pg_news _ _ rfl _ _ _ _ _) (pg_oneR _ _ _ _) (by decide) (by unfold maxLen; omega) (by omega) (by simp; omega) (w.heap.size + 1) (by simp) ?_
    intro gg cg w8 hown hgrow hat hlt8
    obtain ⟨⟨e0, e1, e2, e3⟩, e5, e6, e7, e4⟩ := HK.out w8 hgrow
    have HFI : Bx _ := ⟨HFIN.out w8 gg cg hown hgrow⟩
    have hub8 : ub < w8.heap.size := (Array.getElem?_eq_some_iff.1 e5).1
    refine hK.out _ _ ⟨e0, e1, e2, e3⟩ (fun hHeld => ?_)
    clear hK K
    try simp only [Act.put, List.setIfInBounds_toArray, List.set_cons_zero, List.set_cons_succ]
    refine wpAnyH_take (i := 21) (v := ?_) rfl (by decide +kernel) (by decide +kernel) (by decide +kernel) (fun _ _ _ h => h) (Or.inl ⟨by rfl, ?_⟩) (by assumption) ?_
    case refine_2 => intro w hSw; obtain ⟨s0, s1, s2, s3⟩ := hSw; go_simp; try rfl
    try simp only [Act.put, List.setIfInBounds_toArray, List.set_cons_zero, List.set_cons_succ]
    refine wpAnyH_take (i := 22) (v := ?_) rfl (by decide +kernel) (by decide +kernel) (by decide +kernel) (fun _ _ _ h => h) (Or.inl ⟨by rfl, ?_⟩) (by assumption) ?_
    case refine_2 => intro w hSw; obtain ⟨s0, s1, s2, s3⟩ := hSw; go_simp; try rfl
    try simp only [Act.put, List.setIfInBounds_toArray, List.set_cons_zero, List.set_cons_succ]
    refine wpAnyH_ready (rs := [23]) (by decide +kernel) (by simp) ?_
    refine AllReadyH.cons rfl (fun K hK => ?_) AllReadyH.nil
    go_simp
    refine hK.out _ _ (far4 hne e0 e1 e2 e3) (fun hHeld => ?_)
    clear hK K
    refine wpAnyH_done (by decide +kernel) ?_ _
    have HB8 : Bx _ := ⟨e6⟩
    clear e0 e1 e2 e3 e4 e5 e6 e7 hown hgrow hat hHeld
    go_wp2
    go_ret
    exact ⟨rfl, ⟨HB8.out.setCell (p := ⟨ub, 0, none⟩) hBu _, HFI.out⟩⟩
  · go_simp
    refine hK.out _ _ HSA.out (fun hHeld => ?_)
    clear hK K
    try simp only [Act.put, List.setIfInBounds_toArray, List.set_cons_zero, List.set_cons_succ]
    refine wpAnyH_ready (rs := [4]) (by decide +kernel) (by simp) ?_
    refine AllReadyH.cons rfl (fun K hK => ?_) AllReadyH.nil
    go_simp
    refine hK.out _ _ hHeld (fun hHeld => ?_)
    clear hK K
    try simp only [Act.put, List.setIfInBounds_toArray, List.set_cons_zero, List.set_cons_succ]
    refine wpAnyH_ready (rs := [20]) (by decide +kernel) (by simp) ?_
    refine AllReadyH.cons rfl (fun K hK => ?_) AllReadyH.nil
    refine step_append_lies _ rfl (.tmp 14) (.tmp 29) 33 rfl B 57 j0 (.agg #[.int .i64 0, .int .i64 0, .int .i64 0, .bool false, .slice none 0 0]) 5 56 Tryd.underlying33 ji jz0 jz1 jz2 rfl (by decide) pv n pcs.flatten (by simp [Act.eval, Act.put]) HOW.out ⟨w.heap.size, 0, none⟩ 1 1 [.int .i64 a, .int .i64 b, .int .i64 c, .bool false, .slice none 0 0] (by simp [Act.eval, Act.put]) rfl (pg_news _ _ rfl _ _ _ _ _) (pg_oneR _ _ _ _) (by decide) (by unfold maxLen; omega) (by omega) (by simp; omega) (w.heap.size + 1) (by simp) ?_
    intro gg cg w8 hown hgrow hat hlt8
    obtain ⟨⟨e0, e1, e2, e3⟩, e5, e6, e7, e4⟩ := HK.out w8 hgrow
    have HFI : Bx _ := ⟨HFIN.out w8 gg cg hown hgrow⟩
    have hub8 : ub < w8.heap.size := (Array.getElem?_eq_some_iff.1 e5).1
    refine hK.out _ _ ⟨e0, e1, e2, e3⟩ (fun hHeld => ?_)
    clear hK K
    try simp only [Act.put, List.setIfInBounds_toArray, List.set_cons_zero, List.set_cons_succ]
    refine wpAnyH_take (i := 21) (v := ?_) rfl (by decide +kernel) (by decide +kernel) (by decide +kernel) (fun _ _ _ h => h) (Or.inl ⟨by rfl, ?_⟩) (by assumption) ?_
    case refine_2 => intro w hSw; obtain ⟨s0, s1, s2, s3⟩ := hSw; go_simp; try rfl
    try simp only [Act.put, List.setIfInBounds_toArray, List.set_cons_zero, List.set_cons_succ]
    refine wpAnyH_take (i := 22) (v := ?_) rfl (by decide +kernel) (by decide +kernel) (by decide +kernel) (fun _ _ _ h => h) (Or.inl ⟨by rfl, ?_⟩) (by assumption) ?_
    case refine_2 => intro w hSw; obtain ⟨s0, s1, s2, s3⟩ := hSw; go_simp; try rfl
    try simp only [Act.put, List.setIfInBounds_toArray, List.set_cons_zero, List.set_cons_succ]
    refine wpAnyH_ready (rs := [23]) (by decide +kernel) (by simp) ?_
    refine AllReadyH.cons rfl (fun K hK => ?_) AllReadyH.nil
    go_simp
    refine hK.out _ _ (far4 hne e0 e1 e2 e3) (fun hHeld => ?_)
    clear hK K
    refine wpAnyH_done (by decide +kernel) ?_ _
    have HB8 : Bx _ := ⟨e6⟩
    clear e0 e1 e2 e3 e4 e5 e6 e7 hown hgrow hat hHeld
    go_wp2
    go_ret
    exact ⟨rfl, ⟨HB8.out.setCell (p := ⟨ub, 0, none⟩) hBu _, HFI.out⟩⟩
set_option maxRecDepth 100000 in
set_option maxHeartbeats 4000000 in
theorem addProgV_b1 (w : World) (B ub lb lo cap : Nat) (u : CUn) (hu : UV w B ub u) (a b c : Int) (LC : Array Value) (fz : Nat × Nat) (hl : w.heap[lb]? = some (.cells LC 3 fz)) (h0 : w.cell? ⟨lb, lo, none⟩ = some (.int .i64 a)) (h1 : w.cell? ⟨lb, lo + 1, none⟩ = some (.int .i64 b)) (h2 : w.cell? ⟨lb, lo + 2, none⟩ = some (.int .i64 c)) (h3 : w.cell? ⟨lb, lo + 3, none⟩ = some (.int .i64 1)) (hc : 4 ≤ cap) (hBu : B ≤ ub) (hnn : u.progs.length ≤ 1099511627776) :
    Calls Tryd.prog 65 #[.pointer (some ⟨ub, 0, none⟩), .slice (some ⟨lb, lo, none⟩) 4 cap] w fun e w' => e = .returned (.bool true) ∧ Bx (Below B w w' ∧ UV w' B ub { u with progs := u.progs ++ [⟨a, b, c, true, []⟩] }) := by
  obtain ⟨j0, ji, jz0, jz1, jz2⟩ := info_parts infoPg
  obtain ⟨Lg, Kg, pv, tv, pcs, cut, u1, u2, u3, u4, u5, u6⟩ := hu.ex
  have hub : ub < w.heap.size := (Array.getElem?_eq_some_iff.1 u1).1
  have hlb : lb < w.heap.size := (Array.getElem?_eq_some_iff.1 hl).1
  have hne : lb ≠ ub := by
    rintro rfl
    rw [u1] at hl
    injection hl with hl
    injection hl with _ hl _
    exact absurd hl (by decide)
  have g0 : w.cell? ⟨ub, 0, none⟩ = some pv := cell_blk u1 rfl
  have hbA : Below w.heap.size w ((w.alloc (.cells #[.int .i64 a, .int .i64 b, .int .i64 c, .bool true, .slice none 0 0] 57)).drew) := (below1 w _).drew
  have o1 : ((w.alloc (.cells #[.int .i64 a, .int .i64 b, .int .i64 c, .bool true, .slice none 0 0] 57)).drew).ownsRow B 57 5 pv u.progs.length pcs.flatten := owns_on u3 (Kp.of (P := fun _ _ => True) hbA) fun _ _ => trivial
  have HK : Bx (∀ w8, ((w.alloc (.cells #[.int .i64 a, .int .i64 b, .int .i64 c, .bool true, .slice none 0 0] 57)).drew).grownBy w8 pv.ownBlock → (w8.cell? ⟨lb, lo, none⟩ = some (.int .i64 a) ∧ w8.cell? ⟨lb, lo + 1, none⟩ = some (.int .i64 b) ∧ w8.cell? ⟨lb, lo + 2, none⟩ = some (.int .i64 c) ∧ w8.cell? ⟨lb, lo + 3, none⟩ = some (.int .i64 1)) ∧ w8.heap[ub]? = some (.cells #[pv, tv] 36 (0, 0)) ∧ Below B w w8 ∧ w8.frozen? ⟨ub, 0, none⟩ = false ∧ w8.cell? ⟨ub, 0, none⟩ = some pv) := ⟨fun w8 hg => by
    have kk := (Kp.of (P := fun _ _ => True) hbA).and (Kp.grown o1 hg)
    have e1 := (kk.blk ub _ _ _ u1 ⟨trivial, .inl (by decide)⟩).trans u1
    have e2 := kk.blk lb _ _ _ hl ⟨trivial, .inl (by decide)⟩
    have hc : ∀ i, w8.cell? ⟨lb, i, none⟩ = w.cell? ⟨lb, i, none⟩ := fun i => World.cell?_of_block (w := w) e2
    have hb : Below B w w8 := (hbA.mono (by omega)).grown hg (by simp; omega) fun x hx => (owns_block o1 hx).1
    exact ⟨⟨by rw [hc]; exact h0, by rw [hc]; exact h1, by rw [hc]; exact h2, by rw [hc]; exact h3⟩, e1, hb, by simp [World.frozen?, e1], cell_blk e1 rfl⟩⟩
  have HFIN : Bx (∀ (w8 : World) gg cg, w8.ownsRow B 57 5 (.slice (some ⟨gg, 0, none⟩) (u.progs.length + 1) cg) (u.progs.length + 1) (pcs.flatten ++ pgCells ⟨a, b, c, true, []⟩ (.slice none 0 0)) → ((w.alloc (.cells #[.int .i64 a, .int .i64 b, .int .i64 c, .bool true, .slice none 0 0] 57)).drew).grownBy w8 pv.ownBlock → UV (w8.setCell ⟨ub, 0, none⟩ (.slice (some ⟨gg, 0, none⟩) (u.progs.length + 1) cg)) B ub { u with progs := u.progs ++ [⟨a, b, c, true, []⟩] }) := ⟨fun w8 gg cg h g => UV.addP u1 u2 u3 u4 u5 u6 hbA rfl h g⟩
  have HBIT : Bx _ := ⟨isBit_any 1 w⟩
  have e00 : isBitI 1 = true := rfl
  rw [e00] at HBIT
  have HOW : Bx _ := ⟨o1⟩
  have gA : ((w.alloc (.cells #[.int .i64 a, .int .i64 b, .int .i64 c, .bool true, .slice none 0 0] 57)).drew).cell? ⟨ub, 0, none⟩ = some pv := cell_blk (below_heap (below1 w _) u1) rfl
  have HSA : Bx (((w.alloc (.cells #[.int .i64 a, .int .i64 b, .int .i64 c, .bool true, .slice none 0 0] 57)).drew).cell? ⟨lb, lo, none⟩ = some (.int .i64 a) ∧ ((w.alloc (.cells #[.int .i64 a, .int .i64 b, .int .i64 c, .bool true, .slice none 0 0] 57)).drew).cell? ⟨lb, lo + 1, none⟩ = some (.int .i64 b) ∧ ((w.alloc (.cells #[.int .i64 a, .int .i64 b, .int .i64 c, .bool true, .slice none 0 0] 57)).drew).cell? ⟨lb, lo + 2, none⟩ = some (.int .i64 c) ∧ ((w.alloc (.cells #[.int .i64 a, .int .i64 b, .int .i64 c, .bool true, .slice none 0 0] 57)).drew).cell? ⟨lb, lo + 3, none⟩ = some (.int .i64 1)) := ⟨by
    have k : ∀ i, ((w.alloc (.cells #[.int .i64 a, .int .i64 b, .int .i64 c, .bool true, .slice none 0 0] 57)).drew).cell? ⟨lb, i, none⟩ = w.cell? ⟨lb, i, none⟩ := fun i => (below1 w _).cell (p := ⟨lb, i, none⟩) hlb
    exact ⟨by rw [k]; exact h0, by rw [k]; exact h1, by rw [k]; exact h2, by rw [k]; exact h3⟩⟩
  have hpl : Bx (B ≤ w.heap.size) := ⟨by omega⟩
  generalize u.progs.length = n at *
  clear hu u1 u2 u3 u4 u5 u6 e00 hbA o1 hl
  go_enter Tryd.func65, Tryd.ntmps65
  go_wp2_with (go_at_call 74; refine HBIT.out.mono ?_; rintro e w' ⟨rfl, rfl⟩)
  refine wp_region_held_drew (S := (fun w' : World => w'.cell? ⟨lb, lo, none⟩ = some (.int .i64 a) ∧ w'.cell? ⟨lb, lo + 1, none⟩ = some (.int .i64 b) ∧ w'.cell? ⟨lb, lo + 2, none⟩ = some (.int .i64 c) ∧ w'.cell? ⟨lb, lo + 3, none⟩ = some (.int .i64 1))) (by kernel_rfl) ⟨h0, h1, h2, h3⟩ (fun hHeld => ?_)
  try simp only [List.size_toArray, List.length_cons, List.length_nil]
  refine wpAnyH_take (i := 0) (v := ?_) rfl (by decide +kernel) (by decide +kernel) (by decide +kernel) (fun _ _ _ h => h) (Or.inl ⟨by rfl, ?_⟩) (by assumption) ?_
  case refine_2 => intro w hSw; obtain ⟨s0, s1, s2, s3⟩ := hSw; go_simp; try rfl
  try simp only [Act.put, List.setIfInBounds_toArray, List.set_cons_zero, List.set_cons_succ]
  refine wpAnyH_take (i := 1) (v := ?_) rfl (by decide +kernel) (by decide +kernel) (by decide +kernel) (fun _ _ _ h => h) (Or.inl ⟨by rfl, ?_⟩) (by assumption) ?_
  case refine_2 => intro w hSw; obtain ⟨s0, s1, s2, s3⟩ := hSw; go_simp; try rfl
  try simp only [Act.put, List.setIfInBounds_toArray, List.set_cons_zero, List.set_cons_succ]
  refine wpAnyH_take (i := 2) (v := ?_) rfl (by decide +kernel) (by decide +kernel) (by decide +kernel) (fun _ _ _ h => h) (Or.inl ⟨by rfl, ?_⟩) (by assumption) ?_
  case refine_2 => intro w hSw; obtain ⟨s0, s1, s2, s3⟩ := hSw; go_simp; try rfl
  try simp only [Act.put, List.setIfInBounds_toArray, List.set_cons_zero, List.set_cons_succ]
  refine wpAnyH_take (i := 3) (v := ?_) rfl (by decide +kernel) (by decide +kernel) (by decide +kernel) (fun _ _ _ h => h) (Or.inl ⟨by rfl, ?_⟩) (by assumption) ?_
  case refine_2 => intro w hSw; obtain ⟨s0, s1, s2, s3⟩ := hSw; go_simp; try rfl
  try simp only [Act.put, List.setIfInBounds_toArray, List.set_cons_zero, List.set_cons_succ]
  refine wpAnyH_take (i := 5) (v := ?_) rfl (by decide +kernel) (by decide +kernel) (by decide +kernel) (fun _ _ _ h => h) (Or.inl ⟨by rfl, ?_⟩) (by assumption) ?_
  case refine_2 => intro w hSw; obtain ⟨s0, s1, s2, s3⟩ := hSw; go_simp; try rfl
  try simp only [Act.put, List.setIfInBounds_toArray, List.set_cons_zero, List.set_cons_succ]
  refine wpAnyH_take (i := 6) (v := ?_) rfl (by decide +kernel) (by decide +kernel) (by decide +kernel) (fun _ _ _ h => h) (Or.inl ⟨by rfl, ?_⟩) (by assumption) ?_
  case refine_2 => intro w hSw; obtain ⟨s0, s1, s2, s3⟩ := hSw; go_simp; try rfl
  try simp only [Act.put, List.setIfInBounds_toArray, List.set_cons_zero, List.set_cons_succ]
  refine wpAnyH_take (i := 7) (v := ?_) rfl (by decide +kernel) (by decide +kernel) (by decide +kernel) (fun _ _ _ h => h) (Or.inl ⟨by rfl, ?_⟩) (by assumption) ?_
  case refine_2 => intro w hSw; obtain ⟨s0, s1, s2, s3⟩ := hSw; go_simp; try rfl
  try simp only [Act.put, List.setIfInBounds_toArray, List.set_cons_zero, List.set_cons_succ]
  refine wpAnyH_take (i := 8) (v := ?_) rfl (by decide +kernel) (by decide +kernel) (by decide +kernel) (fun _ _ _ h => h) (Or.inl ⟨by rfl, ?_⟩) (by assumption) ?_
  case refine_2 => intro w hSw; obtain ⟨s0, s1, s2, s3⟩ := hSw; go_simp; try rfl
  try simp only [Act.put, List.setIfInBounds_toArray, List.set_cons_zero, List.set_cons_succ]
  refine wpAnyH_take (i := 9) (v := ?_) rfl (by decide +kernel) (by decide +kernel) (by decide +kernel) (fun _ _ _ h => h) (Or.inl ⟨by rfl, ?_⟩) (by assumption) ?_
  case refine_2 => intro w hSw; obtain ⟨s0, s1, s2, s3⟩ := hSw; go_simp; try rfl
  try simp only [Act.put, List.setIfInBounds_toArray, List.set_cons_zero, List.set_cons_succ]
  refine wpAnyH_take (i := 10) (v := ?_) rfl (by decide +kernel) (by decide +kernel) (by decide +kernel) (fun _ _ _ h => h) (Or.inl ⟨by rfl, ?_⟩) (by assumption) ?_
  case refine_2 => intro w hSw; obtain ⟨s0, s1, s2, s3⟩ := hSw; go_simp; try rfl
  try simp only [Act.put, List.setIfInBounds_toArray, List.set_cons_zero, List.set_cons_succ]
  refine wpAnyH_take (i := 11) (v := ?_) rfl (by decide +kernel) (by decide +kernel) (by decide +kernel) (fun _ _ _ h => h) (Or.inl ⟨by rfl, ?_⟩) (by assumption) ?_
  case refine_2 => intro w hSw; obtain ⟨s0, s1, s2, s3⟩ := hSw; go_simp; try rfl
  try simp only [Act.put, List.setIfInBounds_toArray, List.set_cons_zero, List.set_cons_succ]
  refine wpAnyH_take (i := 12) (v := ?_) rfl (by decide +kernel) (by decide +kernel) (by decide +kernel) (fun _ _ _ h => h) (Or.inl ⟨by rfl, ?_⟩) (by assumption) ?_
  case refine_2 => intro w hSw; obtain ⟨s0, s1, s2, s3⟩ := hSw; go_simp; try rfl
  try simp only [Act.put, List.setIfInBounds_toArray, List.set_cons_zero, List.set_cons_succ]
  refine wpAnyH_take (i := 13) (v := ?_) rfl (by decide +kernel) (by decide +kernel) (by decide +kernel) (fun _ _ _ h => h) (Or.inl ⟨by rfl, ?_⟩) (by assumption) ?_
  case refine_2 => intro w hSw; obtain ⟨s0, s1, s2, s3⟩ := hSw; go_simp; try rfl
  try simp only [Act.put, List.setIfInBounds_toArray, List.set_cons_zero, List.set_cons_succ]
  refine wpAnyH_take (i := 14) (v := ?_) rfl (by decide +kernel) (by decide +kernel) (by decide +kernel) (fun _ _ _ h => h) (Or.inl ⟨by rfl, ?_⟩) (by assumption) ?_
  case refine_2 => intro w hSw; obtain ⟨s0, s1, s2, s3⟩ := hSw; go_simp; try rfl
  try simp only [Act.put, List.setIfInBounds_toArray, List.set_cons_zero, List.set_cons_succ]
  refine wpAnyH_take (i := 15) (v := ?_) rfl (by decide +kernel) (by decide +kernel) (by decide +kernel) (fun _ _ _ h => h) (Or.inl ⟨by rfl, ?_⟩) (by assumption) ?_
  case refine_2 => intro w hSw; obtain ⟨s0, s1, s2, s3⟩ := hSw; go_simp; try rfl
  try simp only [Act.put, List.setIfInBounds_toArray, List.set_cons_zero, List.set_cons_succ]
  refine wpAnyH_take (i := 16) (v := ?_) rfl (by decide +kernel) (by decide +kernel) (by decide +kernel) (fun _ _ _ h => h) (Or.inl ⟨by rfl, ?_⟩) (by assumption) ?_
  case refine_2 => intro w hSw; obtain ⟨s0, s1, s2, s3⟩ := hSw; go_simp; try rfl
  try simp only [Act.put, List.setIfInBounds_toArray, List.set_cons_zero, List.set_cons_succ]
  refine wpAnyH_take (i := 17) (v := ?_) rfl (by decide +kernel) (by decide +kernel) (by decide +kernel) (fun _ _ _ h => h) (Or.inl ⟨by rfl, ?_⟩) (by assumption) ?_
  case refine_2 => intro w hSw; obtain ⟨s0, s1, s2, s3⟩ := hSw; go_simp; try rfl
  try simp only [Act.put, List.setIfInBounds_toArray, List.set_cons_zero, List.set_cons_succ]
  refine wpAnyH_take (i := 18) (v := ?_) rfl (by decide +kernel) (by decide +kernel) (by decide +kernel) (fun _ _ _ h => h) (Or.inl ⟨by rfl, ?_⟩) (by assumption) ?_
  case refine_2 => intro w hSw; obtain ⟨s0, s1, s2, s3⟩ := hSw; go_simp; try rfl
  try simp only [Act.put, List.setIfInBounds_toArray, List.set_cons_zero, List.set_cons_succ]
  refine wpAnyH_ready (rs := [4, 19]) (by decide +kernel) (by simp) ?_
  refine AllReadyH.cons rfl (fun K hK => ?_) (AllReadyH.cons rfl (fun K hK => ?_) AllReadyH.nil)
  · go_simp
    refine hK.out _ _ hHeld (fun hHeld => ?_)
    clear hK K
    try simp only [Act.put, List.setIfInBounds_toArray, List.set_cons_zero, List.set_cons_succ]
    refine wpAnyH_ready (rs := [19]) (by decide +kernel) (by simp) ?_
    refine AllReadyH.cons rfl (fun K hK => ?_) AllReadyH.nil
    go_simp
    refine hK.out _ _ HSA.out (fun hHeld => ?_)
    clear hK K
    try simp only [Act.put, List.setIfInBounds_toArray, List.set_cons_zero, List.set_cons_succ]
    refine wpAnyH_ready (rs := [20]) (by decide +kernel) (by simp) ?_
    refine AllReadyH.cons rfl (fun K hK => ?_) AllReadyH.nil
    refine step_append_lies _ rfl (.tmp 14) (.tmp 29) 33 rfl B 57 j0 (.agg #[.int .i64 0, .int .i64 0, .int .i64 0, .bool false, .slice none 0 0]) 5 56 Tryd.underlying33 ji jz0 jz1 jz2 rfl (by decide) pv n pcs.flatten (by simp [Act.eval, Act.put]) HOW.out ⟨w.heap.size, 0, none⟩ 1 1 [.int .i64 a, .int .i64 b, .int .i64 c, .bool true, .slice none 0 0] (by simp [Act.eval, Act.put]) rfl (pg_news _ _ rfl _ _ _ _ _) (pg_oneR _ _ _ _) (by decide) (by unfold maxLen; omega) (by omega) (by simp; omega) (w.heap.size + 1) (by simp) ?_
    intro gg cg w8 hown hgrow hat hlt8
    obtain ⟨⟨e0, e1, e2, e3⟩, e5, e6, e7, e4⟩ := HK.out w8 hgrow
    have HFI : Bx _ := ⟨HFIN.out w8 gg cg hown hgrow⟩
    have hub8 : ub < w8.heap.size := (Array.getElem?_eq_some_iff.1 e5).1
    refine hK.out _ _ ⟨e0, e1, e2, e3⟩ (fun hHeld => ?_)
    clear hK K
    try simp only [Act.put, List.setIfInBounds_toArray, List.set_cons_zero, List.set_cons_succ]
    refine wpAnyH_take (i := 21) (v := ?_) rfl (by decide +kernel) (by decide +kernel) (by decide +kernel) (fun _ _ _ h => h) (Or.inl ⟨by rfl, ?_⟩) (by assumption) ?_
    case refine_2 => intro w hSw; obtain ⟨s0, s1, s2, s3⟩ := hSw; go_simp; try rfl
    try simp only [Act.put, List.setIfInBounds_toArray, List.set_cons_zero, List.set_cons_succ]
    refine wpAnyH_take (i := 22) (v := ?_) rfl (by decide +kernel) (by decide +kernel) (by decide +kernel) (fun _ _ _ h => h) (Or.inl ⟨by rfl, ?_⟩) (by assumption) ?_
    case refine_2 => intro w hSw; obtain ⟨s0, s1, s2, s3⟩ := hSw; go_simp; try rfl
    try simp only [Act.put, List.setIfInBounds_toArray, List.set_cons_zero, List.set_cons_succ]
    refine wpAnyH_ready (rs := [23]) (by decide +kernel) (by simp) ?_
    refine AllReadyH.cons rfl (fun K hK => ?_) AllReadyH.nil
    go_simp
    refine hK.out _ _ (far4 hne e0 e1 e2 e3) (fun hHeld => ?_)
    clear hK K
    refine wpAnyH_done (by decide +kernel) ?_ _
    have HB8 : Bx _ := ⟨e6⟩
    clear e0 e1 e2 e3 e4 e5 e6 e7 hown hgrow hat hHeld
    go_wp2
    go_ret
    exact ⟨rfl, ⟨HB8.out.setCell (p := ⟨ub, 0, none⟩) hBu _, HFI.out⟩⟩
  · go_simp
    refine hK.out _ _ HSA.out (fun hHeld => ?_)
    clear hK K
    try simp only [Act.put, List.setIfInBounds_toArray, List.set_cons_zero, List.set_cons_succ]
    refine wpAnyH_ready (rs := [4]) (by decide +kernel) (by simp) ?_
    refine AllReadyH.cons rfl (fun K hK => ?_) AllReadyH.nil
    go_simp
    refine hK.out _ _ hHeld (fun hHeld => ?_)
    clear hK K
    try simp only [Act.put, List.setIfInBounds_toArray, List.set_cons_zero, List.set_cons_succ]
    refine wpAnyH_ready (rs := [20]) (by decide +kernel) (by simp) ?_
    refine AllReadyH.cons rfl (fun K hK => ?_) AllReadyH.nil
    refine step_append_lies _ rfl (.tmp 14) (.tmp 29) 33 rfl B 57 j0 (.agg #[.int .i64 0, .int .i64 0, .int .i64 0, .bool false, .slice none 0 0]) 5 56 Tryd.underlying33 ji jz0 jz1 jz2 rfl (by decide) pv n pcs.flatten (by simp [Act.eval, Act.put]) HOW.out ⟨w.heap.size, 0, none⟩ 1 1 [.int .i64 a, .int .i64 b, .int .i64 c, .bool true, .slice none 0 0] (by simp [Act.eval, Act.put]) rfl (pg_news _ _ rfl _ _ _ _ _) (pg_oneR _ _ _ _) (by decide) (by unfold maxLen; omega) (by omega) (by simp; omega) (w.heap.size + 1) (by simp) ?_
    intro gg cg w8 hown hgrow hat hlt8
    obtain ⟨⟨e0, e1, e2, e3⟩, e5, e6, e7, e4⟩ := HK.out w8 hgrow
    have HFI : Bx _ := ⟨HFIN.out w8 gg cg hown hgrow⟩
    have hub8 : ub < w8.heap.size := (Array.getElem?_eq_some_iff.1 e5).1
    refine hK.out _ _ ⟨e0, e1, e2, e3⟩ (fun hHeld => ?_)
    clear hK K
    try simp only [Act.put, List.setIfInBounds_toArray, List.set_cons_zero, List.set_cons_succ]
    refine wpAnyH_take (i := 21) (v := ?_) rfl (by decide +kernel) (by decide +kernel) (by decide +kernel) (fun _ _ _ h => h) (Or.inl ⟨by rfl, ?_⟩) (by assumption) ?_
    case refine_2 => intro w hSw; obtain ⟨s0, s1, s2, s3⟩ := hSw; go_simp; try rfl
    try simp only [Act.put, List.setIfInBounds_toArray, List.set_cons_zero, List.set_cons_succ]
    refine wpAnyH_take (i := 22) (v := ?_) rfl (by decide +kernel) (by decide +kernel) (by decide +kernel) (fun _ _ _ h => h) (Or.inl ⟨by rfl, ?_⟩) (by assumption) ?_
    case refine_2 => intro w hSw; obtain ⟨s0, s1, s2, s3⟩ := hSw; go_simp; try rfl
    try simp only [Act.put, List.setIfInBounds_toArray, List.set_cons_zero, List.set_cons_succ]
    refine wpAnyH_ready (rs := [23]) (by decide +kernel) (by simp) ?_
    refine AllReadyH.cons rfl (fun K hK => ?_) AllReadyH.nil
    go_simp
    refine hK.out _ _ (far4 hne e0 e1 e2 e3) (fun hHeld => ?_)
    clear hK K
    refine wpAnyH_done (by decide +kernel) ?_ _
    have HB8 : Bx _ := ⟨e6⟩
    clear e0 e1 e2 e3 e4 e5 e6 e7 hown hgrow hat hHeld
    go_wp2
    go_ret
    exact ⟨rfl, ⟨HB8.out.setCell (p := ⟨ub, 0, none⟩) hBu _, HFI.out⟩⟩
end Go.Proofs.YtijdcplffmdijaaDoor
