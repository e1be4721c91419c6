import Derived.Test.YtijdcplffmdijaaDoorCDKr
namespace Go.Proofs.YtijdcplffmdijaaDoor
open Go.RowKit
set_option linter.unusedVariables false
set_option linter.unusedSimpArgs false

/-- what the region finds, and leaves -/
structure PgMem (w X : World) (B ub lb n : Nat) (pv : Value) (a b c d : Int) (r : Bool) (pcs : List (List Value)) (u' : CUn) : Prop where
  lb_ : B ≤ X.heap.size
  cu : X.cell? ⟨ub, 0, none⟩ = some pv
  cA : ((X.alloc (.cells #[.int .i64 a, .int .i64 b, .int .i64 c, .bool r, .slice none 0 0] 57)).drew).cell? ⟨ub, 0, none⟩ = some pv
  lu : ub < X.heap.size
  lt : lb < X.heap.size
  si : (X.cell? ⟨lb, 0, none⟩ = some (.int .i64 a) ∧ X.cell? ⟨lb, 1, none⟩ = some (.int .i64 b) ∧ X.cell? ⟨lb, 2, none⟩ = some (.int .i64 c) ∧ X.cell? ⟨lb, 3, none⟩ = some (.int .i64 d))
  sa : (((X.alloc (.cells #[.int .i64 a, .int .i64 b, .int .i64 c, .bool r, .slice none 0 0] 57)).drew).cell? ⟨lb, 0, none⟩ = some (.int .i64 a) ∧ ((X.alloc (.cells #[.int .i64 a, .int .i64 b, .int .i64 c, .bool r, .slice none 0 0] 57)).drew).cell? ⟨lb, 1, none⟩ = some (.int .i64 b) ∧ ((X.alloc (.cells #[.int .i64 a, .int .i64 b, .int .i64 c, .bool r, .slice none 0 0] 57)).drew).cell? ⟨lb, 2, none⟩ = some (.int .i64 c) ∧ ((X.alloc (.cells #[.int .i64 a, .int .i64 b, .int .i64 c, .bool r, .slice none 0 0] 57)).drew).cell? ⟨lb, 3, none⟩ = some (.int .i64 d))
  how : ((X.alloc (.cells #[.int .i64 a, .int .i64 b, .int .i64 c, .bool r, .slice none 0 0] 57)).drew).ownsRow B 57 5 pv n pcs.flatten
  end_ : ∀ w8, ((X.alloc (.cells #[.int .i64 a, .int .i64 b, .int .i64 c, .bool r, .slice none 0 0] 57)).drew).grownBy w8 pv.ownBlock → (w8.cell? ⟨lb, 0, none⟩ = some (.int .i64 a) ∧ w8.cell? ⟨lb, 1, none⟩ = some (.int .i64 b) ∧ w8.cell? ⟨lb, 2, none⟩ = some (.int .i64 c) ∧ w8.cell? ⟨lb, 3, none⟩ = some (.int .i64 d)) ∧ (Below B w w8 ∧ w8.frozen? ⟨ub, 0, none⟩ = false ∧ w8.cell? ⟨ub, 0, none⟩ = some pv ∧ ub < w8.heap.size) ∧
    ∀ gg cg, w8.ownsRow B 57 5 (.slice (some ⟨gg, 0, none⟩) (n + 1) cg) (n + 1) (pcs.flatten ++ pgCells ⟨a, b, c, r, []⟩ (.slice none 0 0)) → UR (w8.setCell ⟨ub, 0, none⟩ (.slice (some ⟨gg, 0, none⟩) (n + 1) cg)) B ub u'
theorem pgMem_of {w X : World} {B ub lb cap cut : Nat} {u : CUn} {pv tv : Value} {pcs : List (List Value)} (u1 : w.heap[ub]? = some (.cells #[pv, tv] 36 (0, 0))) (u2 : OwnL (TyG (IL B)) w B 54 3 tv u.types) (u3 : w.ownsRow B 57 5 pv u.progs.length pcs.flatten) (u4 : B ≤ cut) (u5 : cut ≤ w.heap.size) (u6 : LastG (IL B) (fun _ _ => True) w B cut u.progs pcs)
    (hb : Below w.heap.size w X) {a b c d : Int} {r : Bool} (hk : IK X (some ⟨lb, 0, none⟩) cap [a, b, c, d]) (hiw : w.heap.size ≤ lb) :
    PgMem w X B ub lb u.progs.length pv a b c d r pcs { u with progs := u.progs ++ [⟨a, b, c, r, []⟩] } := by
  obtain ⟨b', o', LC, fz, hbo, hl, hcs⟩ := hk.at_ (by simp)
  injection hbo with hbo
  injection hbo with hb1 hb2
  subst hb1 hb2
  have hS : (X.cell? ⟨lb, 0, none⟩ = some (.int .i64 a) ∧ X.cell? ⟨lb, 1, none⟩ = some (.int .i64 b) ∧ X.cell? ⟨lb, 2, none⟩ = some (.int .i64 c) ∧ X.cell? ⟨lb, 3, none⟩ = some (.int .i64 d)) := ⟨hcs 0 (by simp), hcs 1 (by simp), hcs 2 (by simp), hcs 3 (by simp)⟩
  have hSk : ∀ Y : World, Y.heap[lb]? = X.heap[lb]? → (Y.cell? ⟨lb, 0, none⟩ = some (.int .i64 a) ∧ Y.cell? ⟨lb, 1, none⟩ = some (.int .i64 b) ∧ Y.cell? ⟨lb, 2, none⟩ = some (.int .i64 c) ∧ Y.cell? ⟨lb, 3, none⟩ = some (.int .i64 d)) := fun Y hY => by
    have e : ∀ j, Y.cell? ⟨lb, j, none⟩ = X.cell? ⟨lb, j, none⟩ := fun j => World.cell?_of_block (a := ⟨lb, j, none⟩) hY
    exact ⟨by rw [e]; exact hS.1, by rw [e]; exact hS.2.1, by rw [e]; exact hS.2.2.1, by rw [e]; exact hS.2.2.2⟩
  have hs := hb.size
  have hul : ub < w.heap.size := (Array.getElem?_eq_some_iff.1 u1).1
  have hll : lb < X.heap.size := (Array.getElem?_eq_some_iff.1 hl).1
  have hbA : Below X.heap.size X ((X.alloc (.cells #[.int .i64 a, .int .i64 b, .int .i64 c, .bool r, .slice none 0 0] 57)).drew) := (below1 X _).drew
  have hbW : Below w.heap.size w ((X.alloc (.cells #[.int .i64 a, .int .i64 b, .int .i64 c, .bool r, .slice none 0 0] 57)).drew) := hb.trans (hbA.mono hs)
  have oA : ((X.alloc (.cells #[.int .i64 a, .int .i64 b, .int .i64 c, .bool r, .slice none 0 0] 57)).drew).ownsRow B 57 5 pv u.progs.length pcs.flatten := owns_on u3 (Kp.of (P := fun _ _ => True) hbW) fun _ _ => trivial
  refine ⟨by omega, cell_blk (below_heap hb u1) rfl, cell_blk (below_heap hbW u1) rfl, by omega, hll, hS, hSk _ (hbA.block lb hll), oA, fun w8 hgr => ?_⟩
  have hvb : ∀ x, pv.ownBlock = some x → B ≤ x ∧ x < w.heap.size := fun x hx => owns_block u3 hx
  have i8 : w8.heap[lb]? = X.heap[lb]? := by
    rw [hgr.block lb (by have := hbA.size; omega) (fun e => by have := hvb lb e.symm; omega)]
    exact hbA.block lb hll
  have g8 : w8.heap[ub]? = some (.cells #[pv, tv] 36 (0, 0)) := ((Kp.grown oA hgr).blk ub _ _ _ (below_heap hbW u1) (.inl (by decide))).trans (below_heap hbW u1)
  refine ⟨hSk _ i8, ⟨(hbW.mono (by omega)).grown hgr (by have := hbA.size; omega) (fun x hx => (hvb x hx).1), by simp [World.frozen?, g8], cell_blk g8 rfl, (Array.getElem?_eq_some_iff.1 g8).1⟩, fun gg cg hown => ?_⟩
  exact UG.addP (ok_IL B) u1 u2 u3 (by omega) (u6.allJ u4 u5 (fun _ _ _ h => h) (fun _ _ _ _ _ => trivial)) hbW rfl hown hgr
set_option maxRecDepth 100000 in
set_option maxHeartbeats 8000000 in
theorem radds_p0 (w : World) (B ub : Nat) (u : CUn) (hu : UR w B ub u) (a b c : Int) (hBu : B ≤ ub) (hnn : u.progs.length ≤ 1099511627776) (line : List UInt8)
    (HS : Calls Tryd.prog 67 #[strV line] w fun e w' => ∃ lb cap, e = .returned (.tuple #[strV progW, .slice (some ⟨lb, 0, none⟩) 4 cap, .bool true]) ∧ Bx (IK w' (some ⟨lb, 0, none⟩) cap [a, b, c, 0] ∧ w.heap.size ≤ lb ∧ Below w.heap.size w w')) :
    Calls Tryd.prog 51 #[.pointer (some ⟨ub, 0, none⟩), strV line] w fun e w' => e = .returned (.bool true) ∧ Bx (Below B w w' ∧ UR w' B ub { u with progs := u.progs ++ [⟨a, b, c, false, []⟩] }) := by
  obtain ⟨j0, ji, jz0, jz1, jz2⟩ := info_parts infoPg
  obtain ⟨pv, tv, pcs, cut, u1, u2, u3, u4, u5, u6⟩ := hu.ex
  have hub : ub < w.heap.size := (Array.getElem?_eq_some_iff.1 u1).1
  have HM : Bx (∀ X lb cap, Below w.heap.size w X → IK X (some ⟨lb, 0, none⟩) cap [a, b, c, 0] → w.heap.size ≤ lb → PgMem w X B ub lb u.progs.length pv a b c 0 false pcs { u with progs := u.progs ++ [⟨a, b, c, false, []⟩] }) := ⟨fun X lb cap hb hk hiw => pgMem_of u1 u2 u3 u4 u5 u6 hb hk hiw⟩
  generalize u.progs.length = n at *
  generalize { u with progs := u.progs ++ [⟨a, b, c, false, []⟩] : CUn } = U' at *
  clear hu u1 u2 u3 u4 u5 u6
  unfold progW at HS
  go_enter Tryd.func51, Tryd.ntmps51
  go_wp2_with (first
    | (go_at_call 67; refine HS.mono ?_; clear HS; rintro e X ⟨lb, cap, rfl, HX⟩
       have HM1 : Bx _ := ⟨HM.out X lb cap HX.out.2.2 HX.out.1 HX.out.2.1⟩
       have hcap : 4 ≤ cap := HX.out.1.cap
       have hwl : w.heap.size ≤ lb := HX.out.2.1
       have hne : lb ≠ ub := (by omega)
       have hHS : (X.cell? ⟨lb, 0, none⟩ = some (.int .i64 a) ∧ X.cell? ⟨lb, 1, none⟩ = some (.int .i64 b) ∧ X.cell? ⟨lb, 2, none⟩ = some (.int .i64 c) ∧ X.cell? ⟨lb, 3, none⟩ = some (.int .i64 0)) := HM1.out.si
       have hSA : (((X.alloc (.cells #[.int .i64 a, .int .i64 b, .int .i64 c, .bool false, .slice none 0 0] 57)).drew).cell? ⟨lb, 0, none⟩ = some (.int .i64 a) ∧ ((X.alloc (.cells #[.int .i64 a, .int .i64 b, .int .i64 c, .bool false, .slice none 0 0] 57)).drew).cell? ⟨lb, 1, none⟩ = some (.int .i64 b) ∧ ((X.alloc (.cells #[.int .i64 a, .int .i64 b, .int .i64 c, .bool false, .slice none 0 0] 57)).drew).cell? ⟨lb, 2, none⟩ = some (.int .i64 c) ∧ ((X.alloc (.cells #[.int .i64 a, .int .i64 b, .int .i64 c, .bool false, .slice none 0 0] 57)).drew).cell? ⟨lb, 3, none⟩ = some (.int .i64 0)) := HM1.out.sa
       obtain ⟨l0, l1, l2, l3⟩ := HM1.out.si
       have c1 : X.cell? ⟨ub, 0, none⟩ = some pv := HM1.out.cu
       have c2 : ((X.alloc (.cells #[.int .i64 a, .int .i64 b, .int .i64 c, .bool false, .slice none 0 0] 57)).drew).cell? ⟨ub, 0, none⟩ = some pv := HM1.out.cA
       have hgX := HM1.out.lu
       have hiX := HM1.out.lt
       clear HM HX))
  refine wp_region_held_drew (S := (fun w' : World => (w'.cell? ⟨lb, 0, none⟩ = some (.int .i64 a) ∧ w'.cell? ⟨lb, 1, none⟩ = some (.int .i64 b) ∧ w'.cell? ⟨lb, 2, none⟩ = some (.int .i64 c) ∧ w'.cell? ⟨lb, 3, none⟩ = some (.int .i64 0)))) (by kernel_rfl) hHS (fun hHeld => ?_)
  try simp only [List.size_toArray, List.length_cons, List.length_nil]
  refine wpAnyH_take (i := 0) (v := ?_) rfl (by decide +kernel) (by decide +kernel) (by decide +kernel) (fun _ _ _ h => h) (Or.inl ⟨by rfl, ?_⟩) (by assumption) ?_
  case refine_2 => intro w hSw; obtain ⟨s0, s1, s2, s3⟩ := hSw; go_simp; try rfl
  try simp only [Act.put, List.setIfInBounds_toArray, List.set_cons_zero, List.set_cons_succ]
  refine wpAnyH_take (i := 1) (v := ?_) rfl (by decide +kernel) (by decide +kernel) (by decide +kernel) (fun _ _ _ h => h) (Or.inl ⟨by rfl, ?_⟩) (by assumption) ?_
  case refine_2 => intro w hSw; obtain ⟨s0, s1, s2, s3⟩ := hSw; go_simp; try rfl
  try simp only [Act.put, List.setIfInBounds_toArray, List.set_cons_zero, List.set_cons_succ]
  refine wpAnyH_take (i := 2) (v := ?_) rfl (by decide +kernel) (by decide +kernel) (by decide +kernel) (fun _ _ _ h => h) (Or.inl ⟨by rfl, ?_⟩) (by assumption) ?_
  case refine_2 => intro w hSw; obtain ⟨s0, s1, s2, s3⟩ := hSw; go_simp; try rfl
  try simp only [Act.put, List.setIfInBounds_toArray, List.set_cons_zero, List.set_cons_succ]
  refine wpAnyH_take (i := 3) (v := ?_) rfl (by decide +kernel) (by decide +kernel) (by decide +kernel) (fun _ _ _ h => h) (Or.inl ⟨by rfl, ?_⟩) (by assumption) ?_
  case refine_2 => intro w hSw; obtain ⟨s0, s1, s2, s3⟩ := hSw; go_simp; try rfl
  try simp only [Act.put, List.setIfInBounds_toArray, List.set_cons_zero, List.set_cons_succ]
  refine wpAnyH_take (i := 5) (v := ?_) rfl (by decide +kernel) (by decide +kernel) (by decide +kernel) (fun _ _ _ h => h) (Or.inl ⟨by rfl, ?_⟩) (by assumption) ?_
  case refine_2 => intro w hSw; obtain ⟨s0, s1, s2, s3⟩ := hSw; go_simp; try rfl
  try simp only [Act.put, List.setIfInBounds_toArray, List.set_cons_zero, List.set_cons_succ]
  refine wpAnyH_take (i := 6) (v := ?_) rfl (by decide +kernel) (by decide +kernel) (by decide +kernel) (fun _ _ _ h => h) (Or.inl ⟨by rfl, ?_⟩) (by assumption) ?_
  case refine_2 => intro w hSw; obtain ⟨s0, s1, s2, s3⟩ := hSw; go_simp; try rfl
  try simp only [Act.put, List.setIfInBounds_toArray, List.set_cons_zero, List.set_cons_succ]
  refine wpAnyH_take (i := 7) (v := ?_) rfl (by decide +kernel) (by decide +kernel) (by decide +kernel) (fun _ _ _ h => h) (Or.inl ⟨by rfl, ?_⟩) (by assumption) ?_
  case refine_2 => intro w hSw; obtain ⟨s0, s1, s2, s3⟩ := hSw; go_simp; try rfl
  try simp only [Act.put, List.setIfInBounds_toArray, List.set_cons_zero, List.set_cons_succ]
  refine wpAnyH_take (i := 8) (v := ?_) rfl (by decide +kernel) (by decide +kernel) (by decide +kernel) (fun _ _ _ h => h) (Or.inl ⟨by rfl, ?_⟩) (by assumption) ?_
  case refine_2 => intro w hSw; obtain ⟨s0, s1, s2, s3⟩ := hSw; go_simp; try rfl
  try simp only [Act.put, List.setIfInBounds_toArray, List.set_cons_zero, List.set_cons_succ]
  refine wpAnyH_take (i := 9) (v := ?_) rfl (by decide +kernel) (by decide +kernel) (by decide +kernel) (fun _ _ _ h => h) (Or.inl ⟨by rfl, ?_⟩) (by assumption) ?_
  case refine_2 => intro w hSw; obtain ⟨s0, s1, s2, s3⟩ := hSw; go_simp; try rfl
  try simp only [Act.put, List.setIfInBounds_toArray, List.set_cons_zero, List.set_cons_succ]
  refine wpAnyH_take (i := 10) (v := ?_) rfl (by decide +kernel) (by decide +kernel) (by decide +kernel) (fun _ _ _ h => h) (Or.inl ⟨by rfl, ?_⟩) (by assumption) ?_
  case refine_2 => intro w hSw; obtain ⟨s0, s1, s2, s3⟩ := hSw; go_simp; try rfl
  try simp only [Act.put, List.setIfInBounds_toArray, List.set_cons_zero, List.set_cons_succ]
  refine wpAnyH_take (i := 11) (v := ?_) rfl (by decide +kernel) (by decide +kernel) (by decide +kernel) (fun _ _ _ h => h) (Or.inl ⟨by rfl, ?_⟩) (by assumption) ?_
  case refine_2 => intro w hSw; obtain ⟨s0, s1, s2, s3⟩ := hSw; go_simp; try rfl
  try simp only [Act.put, List.setIfInBounds_toArray, List.set_cons_zero, List.set_cons_succ]
  refine wpAnyH_take (i := 12) (v := ?_) rfl (by decide +kernel) (by decide +kernel) (by decide +kernel) (fun _ _ _ h => h) (Or.inl ⟨by rfl, ?_⟩) (by assumption) ?_
  case refine_2 => intro w hSw; obtain ⟨s0, s1, s2, s3⟩ := hSw; go_simp; try rfl
  try simp only [Act.put, List.setIfInBounds_toArray, List.set_cons_zero, List.set_cons_succ]
  refine wpAnyH_take (i := 13) (v := ?_) rfl (by decide +kernel) (by decide +kernel) (by decide +kernel) (fun _ _ _ h => h) (Or.inl ⟨by rfl, ?_⟩) (by assumption) ?_
  case refine_2 => intro w hSw; obtain ⟨s0, s1, s2, s3⟩ := hSw; go_simp; try rfl
  try simp only [Act.put, List.setIfInBounds_toArray, List.set_cons_zero, List.set_cons_succ]
  refine wpAnyH_take (i := 14) (v := ?_) rfl (by decide +kernel) (by decide +kernel) (by decide +kernel) (fun _ _ _ h => h) (Or.inl ⟨by rfl, ?_⟩) (by assumption) ?_
  case refine_2 => intro w hSw; obtain ⟨s0, s1, s2, s3⟩ := hSw; go_simp; try rfl
  try simp only [Act.put, List.setIfInBounds_toArray, List.set_cons_zero, List.set_cons_succ]
  refine wpAnyH_take (i := 15) (v := ?_) rfl (by decide +kernel) (by decide +kernel) (by decide +kernel) (fun _ _ _ h => h) (Or.inl ⟨by rfl, ?_⟩) (by assumption) ?_
  case refine_2 => intro w hSw; obtain ⟨s0, s1, s2, s3⟩ := hSw; go_simp; try rfl
  try simp only [Act.put, List.setIfInBounds_toArray, List.set_cons_zero, List.set_cons_succ]
  refine wpAnyH_take (i := 16) (v := ?_) rfl (by decide +kernel) (by decide +kernel) (by decide +kernel) (fun _ _ _ h => h) (Or.inl ⟨by rfl, ?_⟩) (by assumption) ?_
  case refine_2 => intro w hSw; obtain ⟨s0, s1, s2, s3⟩ := hSw; go_simp; try rfl
  try simp only [Act.put, List.setIfInBounds_toArray, List.set_cons_zero, List.set_cons_succ]
  refine wpAnyH_take (i := 17) (v := ?_) rfl (by decide +kernel) (by decide +kernel) (by decide +kernel) (fun _ _ _ h => h) (Or.inl ⟨by rfl, ?_⟩) (by assumption) ?_
  case refine_2 => intro w hSw; obtain ⟨s0, s1, s2, s3⟩ := hSw; go_simp; try rfl
  try simp only [Act.put, List.setIfInBounds_toArray, List.set_cons_zero, List.set_cons_succ]
  refine wpAnyH_take (i := 18) (v := ?_) rfl (by decide +kernel) (by decide +kernel) (by decide +kernel) (fun _ _ _ h => h) (Or.inl ⟨by rfl, ?_⟩) (by assumption) ?_
  case refine_2 => intro w hSw; obtain ⟨s0, s1, s2, s3⟩ := hSw; go_simp; try rfl
  try simp only [Act.put, List.setIfInBounds_toArray, List.set_cons_zero, List.set_cons_succ]
  refine wpAnyH_ready (rs := [4, 19]) (by decide +kernel) (by simp) ?_
  refine AllReadyH.cons rfl (fun K hK => ?_) (AllReadyH.cons rfl (fun K hK => ?_) AllReadyH.nil)
  · go_simp
    refine hK.out _ _ hHeld (fun hHeld => ?_)
    clear hK K
    try simp only [Act.put, List.setIfInBounds_toArray, List.set_cons_zero, List.set_cons_succ]
    refine wpAnyH_ready (rs := [19]) (by decide +kernel) (by simp) ?_
    refine AllReadyH.cons rfl (fun K hK => ?_) AllReadyH.nil
    go_simp
    refine hK.out _ _ hSA (fun hHeld => ?_)
    clear hK K
    try simp only [Act.put, List.setIfInBounds_toArray, List.set_cons_zero, List.set_cons_succ]
    refine wpAnyH_ready (rs := [20]) (by decide +kernel) (by simp) ?_
    refine AllReadyH.cons rfl (fun K hK => ?_) AllReadyH.nil
    refine step_append_lies _ rfl (.tmp 89) (.tmp 104) 33 rfl B 57 j0 (.agg #[.int .i64 0, .int .i64 0, .int .i64 0, .bool false, .slice none 0 0]) 5 56 Tryd.underlying33 ji jz0 jz1 jz2 rfl (by decide) pv n pcs.flatten (by simp [Act.eval, Act.put]) HM1.out.how ⟨X.heap.size, 0, none⟩ 1 1 [.int .i64 a, .int .i64 b, .int .i64 c, .bool false, .slice none 0 0] (by simp [Act.eval, Act.put]) rfl (pg_news _ _ rfl _ _ _ _ _) (pg_oneR _ _ _ _) (by decide) (by unfold maxLen; omega) (by omega) (by simp; have := HM1.out.lb_; omega) (X.heap.size + 1) (by simp) ?_
    intro gg cg w8 hown hgrow hat hlt8
    have h8 := HM1.out.end_ w8 hgrow
    obtain ⟨e0, e1, e2, e3⟩ := h8.1
    obtain ⟨e6, e7, e4, hg8⟩ := h8.2.1
    have HFI : Bx _ := ⟨h8.2.2 gg cg hown⟩
    clear h8
    refine hK.out _ _ ⟨e0, e1, e2, e3⟩ (fun hHeld => ?_)
    clear hK K
    try simp only [Act.put, List.setIfInBounds_toArray, List.set_cons_zero, List.set_cons_succ]
    refine wpAnyH_take (i := 21) (v := ?_) rfl (by decide +kernel) (by decide +kernel) (by decide +kernel) (fun _ _ _ h => h) (Or.inl ⟨by rfl, ?_⟩) (by assumption) ?_
    case refine_2 => intro w hSw; obtain ⟨s0, s1, s2, s3⟩ := hSw; go_simp; try rfl
    try simp only [Act.put, List.setIfInBounds_toArray, List.set_cons_zero, List.set_cons_succ]
    refine wpAnyH_take (i := 22) (v := ?_) rfl (by decide +kernel) (by decide +kernel) (by decide +kernel) (fun _ _ _ h => h) (Or.inl ⟨by rfl, ?_⟩) (by assumption) ?_
    case refine_2 => intro w hSw; obtain ⟨s0, s1, s2, s3⟩ := hSw; go_simp; try rfl
    try simp only [Act.put, List.setIfInBounds_toArray, List.set_cons_zero, List.set_cons_succ]
    refine wpAnyH_ready (rs := [23]) (by decide +kernel) (by simp) ?_
    refine AllReadyH.cons rfl (fun K hK => ?_) AllReadyH.nil
    go_simp
    refine hK.out _ _ (farI hne e0 e1 e2 e3) (fun hHeld => ?_)
    clear hK K
    refine wpAnyH_done (by decide +kernel) ?_ _
    have HB8 : Bx _ := ⟨e6⟩
    clear e0 e1 e2 e3 e4 e6 e7 hown hgrow hat hHeld
    go_wp2
    go_ret
    exact ⟨rfl, ⟨HB8.out.setCell (p := ⟨ub, 0, none⟩) hBu _, HFI.out⟩⟩
  · go_simp
    refine hK.out _ _ hSA (fun hHeld => ?_)
    clear hK K
    try simp only [Act.put, List.setIfInBounds_toArray, List.set_cons_zero, List.set_cons_succ]
    refine wpAnyH_ready (rs := [4]) (by decide +kernel) (by simp) ?_
    refine AllReadyH.cons rfl (fun K hK => ?_) AllReadyH.nil
    go_simp
    refine hK.out _ _ hHeld (fun hHeld => ?_)
    clear hK K
    try simp only [Act.put, List.setIfInBounds_toArray, List.set_cons_zero, List.set_cons_succ]
    refine wpAnyH_ready (rs := [20]) (by decide +kernel) (by simp) ?_
    refine AllReadyH.cons rfl (fun K hK => ?_) AllReadyH.nil
    refine step_append_lies _ rfl (.tmp 89) (.tmp 104) 33 rfl B 57 j0 (.agg #[.int .i64 0, .int .i64 0, .int .i64 0, .bool false, .slice none 0 0]) 5 56 Tryd.underlying33 ji jz0 jz1 jz2 rfl (by decide) pv n pcs.flatten (by simp [Act.eval, Act.put]) HM1.out.how ⟨X.heap.size, 0, none⟩ 1 1 [.int .i64 a, .int .i64 b, .int .i64 c, .bool false, .slice none 0 0] (by simp [Act.eval, Act.put]) rfl (pg_news _ _ rfl _ _ _ _ _) (pg_oneR _ _ _ _) (by decide) (by unfold maxLen; omega) (by omega) (by simp; have := HM1.out.lb_; omega) (X.heap.size + 1) (by simp) ?_
    intro gg cg w8 hown hgrow hat hlt8
    have h8 := HM1.out.end_ w8 hgrow
    obtain ⟨e0, e1, e2, e3⟩ := h8.1
    obtain ⟨e6, e7, e4, hg8⟩ := h8.2.1
    have HFI : Bx _ := ⟨h8.2.2 gg cg hown⟩
    clear h8
    refine hK.out _ _ ⟨e0, e1, e2, e3⟩ (fun hHeld => ?_)
    clear hK K
    try simp only [Act.put, List.setIfInBounds_toArray, List.set_cons_zero, List.set_cons_succ]
    refine wpAnyH_take (i := 21) (v := ?_) rfl (by decide +kernel) (by decide +kernel) (by decide +kernel) (fun _ _ _ h => h) (Or.inl ⟨by rfl, ?_⟩) (by assumption) ?_
    case refine_2 => intro w hSw; obtain ⟨s0, s1, s2, s3⟩ := hSw; go_simp; try rfl
    try simp only [Act.put, List.setIfInBounds_toArray, List.set_cons_zero, List.set_cons_succ]
    refine wpAnyH_take (i := 22) (v := ?_) rfl (by decide +kernel) (by decide +kernel) (by decide +kernel) (fun _ _ _ h => h) (Or.inl ⟨by rfl, ?_⟩) (by assumption) ?_
    case refine_2 => intro w hSw; obtain ⟨s0, s1, s2, s3⟩ := hSw; go_simp; try rfl
    try simp only [Act.put, List.setIfInBounds_toArray, List.set_cons_zero, List.set_cons_succ]
    refine wpAnyH_ready (rs := [23]) (by decide +kernel) (by simp) ?_
    refine AllReadyH.cons rfl (fun K hK => ?_) AllReadyH.nil
    go_simp
    refine hK.out _ _ (farI hne e0 e1 e2 e3) (fun hHeld => ?_)
    clear hK K
    refine wpAnyH_done (by decide +kernel) ?_ _
    have HB8 : Bx _ := ⟨e6⟩
    clear e0 e1 e2 e3 e4 e6 e7 hown hgrow hat hHeld
    go_wp2
    go_ret
    exact ⟨rfl, ⟨HB8.out.setCell (p := ⟨ub, 0, none⟩) hBu _, HFI.out⟩⟩
set_option maxRecDepth 100000 in
set_option maxHeartbeats 8000000 in
theorem radds_p1 (w : World) (B ub : Nat) (u : CUn) (hu : UR w B ub u) (a b c : Int) (hBu : B ≤ ub) (hnn : u.progs.length ≤ 1099511627776) (line : List UInt8)
    (HS : Calls Tryd.prog 67 #[strV line] w fun e w' => ∃ lb cap, e = .returned (.tuple #[strV progW, .slice (some ⟨lb, 0, none⟩) 4 cap, .bool true]) ∧ Bx (IK w' (some ⟨lb, 0, none⟩) cap [a, b, c, 1] ∧ w.heap.size ≤ lb ∧ Below w.heap.size w w')) :
    Calls Tryd.prog 51 #[.pointer (some ⟨ub, 0, none⟩), strV line] w fun e w' => e = .returned (.bool true) ∧ Bx (Below B w w' ∧ UR w' B ub { u with progs := u.progs ++ [⟨a, b, c, true, []⟩] }) := by
  obtain ⟨j0, ji, jz0, jz1, jz2⟩ := info_parts infoPg
  obtain ⟨pv, tv, pcs, cut, u1, u2, u3, u4, u5, u6⟩ := hu.ex
  have hub : ub < w.heap.size := (Array.getElem?_eq_some_iff.1 u1).1
  have HM : Bx (∀ X lb cap, Below w.heap.size w X → IK X (some ⟨lb, 0, none⟩) cap [a, b, c, 1] → w.heap.size ≤ lb → PgMem w X B ub lb u.progs.length pv a b c 1 true pcs { u with progs := u.progs ++ [⟨a, b, c, true, []⟩] }) := ⟨fun X lb cap hb hk hiw => pgMem_of u1 u2 u3 u4 u5 u6 hb hk hiw⟩
  generalize u.progs.length = n at *
  generalize { u with progs := u.progs ++ [⟨a, b, c, true, []⟩] : CUn } = U' at *
  clear hu u1 u2 u3 u4 u5 u6
  unfold progW at HS
  go_enter Tryd.func51, Tryd.ntmps51
  go_wp2_with (first
    | (go_at_call 67; refine HS.mono ?_; clear HS; rintro e X ⟨lb, cap, rfl, HX⟩
       have HM1 : Bx _ := ⟨HM.out X lb cap HX.out.2.2 HX.out.1 HX.out.2.1⟩
       have hcap : 4 ≤ cap := HX.out.1.cap
       have hwl : w.heap.size ≤ lb := HX.out.2.1
       have hne : lb ≠ ub := (by omega)
       have hHS : (X.cell? ⟨lb, 0, none⟩ = some (.int .i64 a) ∧ X.cell? ⟨lb, 1, none⟩ = some (.int .i64 b) ∧ X.cell? ⟨lb, 2, none⟩ = some (.int .i64 c) ∧ X.cell? ⟨lb, 3, none⟩ = some (.int .i64 1)) := HM1.out.si
       have hSA : (((X.alloc (.cells #[.int .i64 a, .int .i64 b, .int .i64 c, .bool true, .slice none 0 0] 57)).drew).cell? ⟨lb, 0, none⟩ = some (.int .i64 a) ∧ ((X.alloc (.cells #[.int .i64 a, .int .i64 b, .int .i64 c, .bool true, .slice none 0 0] 57)).drew).cell? ⟨lb, 1, none⟩ = some (.int .i64 b) ∧ ((X.alloc (.cells #[.int .i64 a, .int .i64 b, .int .i64 c, .bool true, .slice none 0 0] 57)).drew).cell? ⟨lb, 2, none⟩ = some (.int .i64 c) ∧ ((X.alloc (.cells #[.int .i64 a, .int .i64 b, .int .i64 c, .bool true, .slice none 0 0] 57)).drew).cell? ⟨lb, 3, none⟩ = some (.int .i64 1)) := HM1.out.sa
       obtain ⟨l0, l1, l2, l3⟩ := HM1.out.si
       have c1 : X.cell? ⟨ub, 0, none⟩ = some pv := HM1.out.cu
       have c2 : ((X.alloc (.cells #[.int .i64 a, .int .i64 b, .int .i64 c, .bool true, .slice none 0 0] 57)).drew).cell? ⟨ub, 0, none⟩ = some pv := HM1.out.cA
       have hgX := HM1.out.lu
       have hiX := HM1.out.lt
       clear HM HX))
  refine wp_region_held_drew (S := (fun w' : World => (w'.cell? ⟨lb, 0, none⟩ = some (.int .i64 a) ∧ w'.cell? ⟨lb, 1, none⟩ = some (.int .i64 b) ∧ w'.cell? ⟨lb, 2, none⟩ = some (.int .i64 c) ∧ w'.cell? ⟨lb, 3, none⟩ = some (.int .i64 1)))) (by kernel_rfl) hHS (fun hHeld => ?_)
  try simp only [List.size_toArray, List.length_cons, List.length_nil]
  refine wpAnyH_take (i := 0) (v := ?_) rfl (by decide +kernel) (by decide +kernel) (by decide +kernel) (fun _ _ _ h => h) (Or.inl ⟨by rfl, ?_⟩) (by assumption) ?_
  case refine_2 => intro w hSw; obtain ⟨s0, s1, s2, s3⟩ := hSw; go_simp; try rfl
  try simp only [Act.put, List.setIfInBounds_toArray, List.set_cons_zero, List.set_cons_succ]
  refine wpAnyH_take (i := 1) (v := ?_) rfl (by decide +kernel) (by decide +kernel) (by decide +kernel) (fun _ _ _ h => h) (Or.inl ⟨by rfl, ?_⟩) (by assumption) ?_
  case refine_2 => intro w hSw; obtain ⟨s0, s1, s2, s3⟩ := hSw; go_simp; try rfl
  try simp only [Act.put, List.setIfInBounds_toArray, List.set_cons_zero, List.set_cons_succ]
  refine wpAnyH_take (i := 2) (v := ?_) rfl (by decide +kernel) (by decide +kernel) (by decide +kernel) (fun _ _ _ h => h) (Or.inl ⟨by rfl, ?_⟩) (by assumption) ?_
  case refine_2 => intro w hSw; obtain ⟨s0, s1, s2, s3⟩ := hSw; go_simp; try rfl
  try simp only [Act.put, List.setIfInBounds_toArray, List.set_cons_zero, List.set_cons_succ]
  refine wpAnyH_take (i := 3) (v := ?_) rfl (by decide +kernel) (by decide +kernel) (by decide +kernel) (fun _ _ _ h => h) (Or.inl ⟨by rfl, ?_⟩) (by assumption) ?_
  case refine_2 => intro w hSw; obtain ⟨s0, s1, s2, s3⟩ := hSw; go_simp; try rfl
  try simp only [Act.put, List.setIfInBounds_toArray, List.set_cons_zero, List.set_cons_succ]
  refine wpAnyH_take (i := 5) (v := ?_) rfl (by decide +kernel) (by decide +kernel) (by decide +kernel) (fun _ _ _ h => h) (Or.inl ⟨by rfl, ?_⟩) (by assumption) ?_
  case refine_2 => intro w hSw; obtain ⟨s0, s1, s2, s3⟩ := hSw; go_simp; try rfl
  try simp only [Act.put, List.setIfInBounds_toArray, List.set_cons_zero, List.set_cons_succ]
  refine wpAnyH_take (i := 6) (v := ?_) rfl (by decide +kernel) (by decide +kernel) (by decide +kernel) (fun _ _ _ h => h) (Or.inl ⟨by rfl, ?_⟩) (by assumption) ?_
  case refine_2 => intro w hSw; obtain ⟨s0, s1, s2, s3⟩ := hSw; go_simp; try rfl
  try simp only [Act.put, List.setIfInBounds_toArray, List.set_cons_zero, List.set_cons_succ]
  refine wpAnyH_take (i := 7) (v := ?_) rfl (by decide +kernel) (by decide +kernel) (by decide +kernel) (fun _ _ _ h => h) (Or.inl ⟨by rfl, ?_⟩) (by assumption) ?_
  case refine_2 => intro w hSw; obtain ⟨s0, s1, s2, s3⟩ := hSw; go_simp; try rfl
  try simp only [Act.put, List.setIfInBounds_toArray, List.set_cons_zero, List.set_cons_succ]
  refine wpAnyH_take (i := 8) (v := ?_) rfl (by decide +kernel) (by decide +kernel) (by decide +kernel) (fun _ _ _ h => h) (Or.inl ⟨by rfl, ?_⟩) (by assumption) ?_
  case refine_2 => intro w hSw; obtain ⟨s0, s1, s2, s3⟩ := hSw; go_simp; try rfl
  try simp only [Act.put, List.setIfInBounds_toArray, List.set_cons_zero, List.set_cons_succ]
  refine wpAnyH_take (i := 9) (v := ?_) rfl (by decide +kernel) (by decide +kernel) (by decide +kernel) (fun _ _ _ h => h) (Or.inl ⟨by rfl, ?_⟩) (by assumption) ?_
  case refine_2 => intro w hSw; obtain ⟨s0, s1, s2, s3⟩ := hSw; go_simp; try rfl
  try simp only [Act.put, List.setIfInBounds_toArray, List.set_cons_zero, List.set_cons_succ]
  refine wpAnyH_take (i := 10) (v := ?_) rfl (by decide +kernel) (by decide +kernel) (by decide +kernel) (fun _ _ _ h => h) (Or.inl ⟨by rfl, ?_⟩) (by assumption) ?_
  case refine_2 => intro w hSw; obtain ⟨s0, s1, s2, s3⟩ := hSw; go_simp; try rfl
  try simp only [Act.put, List.setIfInBounds_toArray, List.set_cons_zero, List.set_cons_succ]
  refine wpAnyH_take (i := 11) (v := ?_) rfl (by decide +kernel) (by decide +kernel) (by decide +kernel) (fun _ _ _ h => h) (Or.inl ⟨by rfl, ?_⟩) (by assumption) ?_
  case refine_2 => intro w hSw; obtain ⟨s0, s1, s2, s3⟩ := hSw; go_simp; try rfl
  try simp only [Act.put, List.setIfInBounds_toArray, List.set_cons_zero, List.set_cons_succ]
  refine wpAnyH_take (i := 12) (v := ?_) rfl (by decide +kernel) (by decide +kernel) (by decide +kernel) (fun _ _ _ h => h) (Or.inl ⟨by rfl, ?_⟩) (by assumption) ?_
  case refine_2 => intro w hSw; obtain ⟨s0, s1, s2, s3⟩ := hSw; go_simp; try rfl
  try simp only [Act.put, List.setIfInBounds_toArray, List.set_cons_zero, List.set_cons_succ]
  refine wpAnyH_take (i := 13) (v := ?_) rfl (by decide +kernel) (by decide +kernel) (by decide +kernel) (fun _ _ _ h => h) (Or.inl ⟨by rfl, ?_⟩) (by assumption) ?_
  case refine_2 => intro w hSw; obtain ⟨s0, s1, s2, s3⟩ := hSw; go_simp; try rfl
  try simp only [Act.put, List.setIfInBounds_toArray, List.set_cons_zero, List.set_cons_succ]
  refine wpAnyH_take (i := 14) (v := ?_) rfl (by decide +kernel) (by decide +kernel) (by decide +kernel) (fun _ _ _ h => h) (Or.inl ⟨by rfl, ?_⟩) (by assumption) ?_
  case refine_2 => intro w hSw; obtain ⟨s0, s1, s2, s3⟩ := hSw; go_simp; try rfl
  try simp only [Act.put, List.setIfInBounds_toArray, List.set_cons_zero, List.set_cons_succ]
  refine wpAnyH_take (i := 15) (v := ?_) rfl (by decide +kernel) (by decide +kernel) (by decide +kernel) (fun _ _ _ h => h) (Or.inl ⟨by rfl, ?_⟩) (by assumption) ?_
  case refine_2 => intro w hSw; obtain ⟨s0, s1, s2, s3⟩ := hSw; go_simp; try rfl
  try simp only [Act.put, List.setIfInBounds_toArray, List.set_cons_zero, List.set_cons_succ]
  refine wpAnyH_take (i := 16) (v := ?_) rfl (by decide +kernel) (by decide +kernel) (by decide +kernel) (fun _ _ _ h => h) (Or.inl ⟨by rfl, ?_⟩) (by assumption) ?_
  case refine_2 => intro w hSw; obtain ⟨s0, s1, s2, s3⟩ := hSw; go_simp; try rfl
  try simp only [Act.put, List.setIfInBounds_toArray, List.set_cons_zero, List.set_cons_succ]
  refine wpAnyH_take (i := 17) (v := ?_) rfl (by decide +kernel) (by decide +kernel) (by decide +kernel) (fun _ _ _ h => h) (Or.inl ⟨by rfl, ?_⟩) (by assumption) ?_
  case refine_2 => intro w hSw; obtain ⟨s0, s1, s2, s3⟩ := hSw; go_simp; try rfl
  try simp only [Act.put, List.setIfInBounds_toArray, List.set_cons_zero, List.set_cons_succ]
  refine wpAnyH_take (i := 18) (v := ?_) rfl (by decide +kernel) (by decide +kernel) (by decide +kernel) (fun _ _ _ h => h) (Or.inl ⟨by rfl, ?_⟩) (by assumption) ?_
  case refine_2 => intro w hSw; obtain ⟨s0, s1, s2, s3⟩ := hSw; go_simp; try rfl
  try simp only [Act.put, List.setIfInBounds_toArray, List.set_cons_zero, List.set_cons_succ]
  refine wpAnyH_ready (rs := [4, 19]) (by decide +kernel) (by simp) ?_
  refine AllReadyH.cons rfl (fun K hK => ?_) (AllReadyH.cons rfl (fun K hK => ?_) AllReadyH.nil)
  · go_simp
    refine hK.out _ _ hHeld (fun hHeld => ?_)
    clear hK K
    try simp only [Act.put, List.setIfInBounds_toArray, List.set_cons_zero, List.set_cons_succ]
    refine wpAnyH_ready (rs := [19]) (by decide +kernel) (by simp) ?_
    refine AllReadyH.cons rfl (fun K hK => ?_) AllReadyH.nil
    go_simp
    refine hK.out _ _ hSA (fun hHeld => ?_)
    clear hK K
    try simp only [Act.put, List.setIfInBounds_toArray, List.set_cons_zero, List.set_cons_succ]
    refine wpAnyH_ready (rs := [20]) (by decide +kernel) (by simp) ?_
    refine AllReadyH.cons rfl (fun K hK => ?_) AllReadyH.nil
    refine step_append_lies _ rfl (.tmp 89) (.tmp 104) 33 rfl B 57 j0 (.agg #[.int .i64 0, .int .i64 0, .int .i64 0, .bool false, .slice none 0 0]) 5 56 Tryd.underlying33 ji jz0 jz1 jz2 rfl (by decide) pv n pcs.flatten (by simp [Act.eval, Act.put]) HM1.out.how ⟨X.heap.size, 0, none⟩ 1 1 [.int .i64 a, .int .i64 b, .int .i64 c, .bool true, .slice none 0 0] (by simp [Act.eval, Act.put]) rfl (pg_news _ _ rfl _ _ _ _ _) (pg_oneR _ _ _ _) (by decide) (by unfold maxLen; omega) (by omega) (by simp; have := HM1.out.lb_; omega) (X.heap.size + 1) (by simp) ?_
    intro gg cg w8 hown hgrow hat hlt8
    have h8 := HM1.out.end_ w8 hgrow
    obtain ⟨e0, e1, e2, e3⟩ := h8.1
    obtain ⟨e6, e7, e4, hg8⟩ := h8.2.1
    have HFI : Bx _ := ⟨h8.2.2 gg cg hown⟩
    clear h8
    refine hK.out _ _ ⟨e0, e1, e2, e3⟩ (fun hHeld => ?_)
    clear hK K
    try simp only [Act.put, List.setIfInBounds_toArray, List.set_cons_zero, List.set_cons_succ]
    refine wpAnyH_take (i := 21) (v := ?_) rfl (by decide +kernel) (by decide +kernel) (by decide +kernel) (fun _ _ _ h => h) (Or.inl ⟨by rfl, ?_⟩) (by assumption) ?_
    case refine_2 => intro w hSw; obtain ⟨s0, s1, s2, s3⟩ := hSw; go_simp; try rfl
    try simp only [Act.put, List.setIfInBounds_toArray, List.set_cons_zero, List.set_cons_succ]
    refine wpAnyH_take (i := 22) (v := ?_) rfl (by decide +kernel) (by decide +kernel) (by decide +kernel) (fun _ _ _ h => h) (Or.inl ⟨by rfl, ?_⟩) (by assumption) ?_
    case refine_2 => intro w hSw; obtain ⟨s0, s1, s2, s3⟩ := hSw; go_simp; try rfl
    try simp only [Act.put, List.setIfInBounds_toArray, List.set_cons_zero, List.set_cons_succ]
    refine wpAnyH_ready (rs := [23]) (by decide +kernel) (by simp) ?_
    refine AllReadyH.cons rfl (fun K hK => ?_) AllReadyH.nil
    go_simp
    refine hK.out _ _ (farI hne e0 e1 e2 e3) (fun hHeld => ?_)
    clear hK K
    refine wpAnyH_done (by decide +kernel) ?_ _
    have HB8 : Bx _ := ⟨e6⟩
    clear e0 e1 e2 e3 e4 e6 e7 hown hgrow hat hHeld
    go_wp2
    go_ret
    exact ⟨rfl, ⟨HB8.out.setCell (p := ⟨ub, 0, none⟩) hBu _, HFI.out⟩⟩
  · go_simp
    refine hK.out _ _ hSA (fun hHeld => ?_)
    clear hK K
    try simp only [Act.put, List.setIfInBounds_toArray, List.set_cons_zero, List.set_cons_succ]
    refine wpAnyH_ready (rs := [4]) (by decide +kernel) (by simp) ?_
    refine AllReadyH.cons rfl (fun K hK => ?_) AllReadyH.nil
    go_simp
    refine hK.out _ _ hHeld (fun hHeld => ?_)
    clear hK K
    try simp only [Act.put, List.setIfInBounds_toArray, List.set_cons_zero, List.set_cons_succ]
    refine wpAnyH_ready (rs := [20]) (by decide +kernel) (by simp) ?_
    refine AllReadyH.cons rfl (fun K hK => ?_) AllReadyH.nil
    refine step_append_lies _ rfl (.tmp 89) (.tmp 104) 33 rfl B 57 j0 (.agg #[.int .i64 0, .int .i64 0, .int .i64 0, .bool false, .slice none 0 0]) 5 56 Tryd.underlying33 ji jz0 jz1 jz2 rfl (by decide) pv n pcs.flatten (by simp [Act.eval, Act.put]) HM1.out.how ⟨X.heap.size, 0, none⟩ 1 1 [.int .i64 a, .int .i64 b, .int .i64 c, .bool true, .slice none 0 0] (by simp [Act.eval, Act.put]) rfl (pg_news _ _ rfl _ _ _ _ _) (pg_oneR _ _ _ _) (by decide) (by unfold maxLen; omega) (by omega) (by simp; have := HM1.out.lb_; omega) (X.heap.size + 1) (by simp) ?_
    intro gg cg w8 hown hgrow hat hlt8
    have h8 := HM1.out.end_ w8 hgrow
    obtain ⟨e0, e1, e2, e3⟩ := h8.1
    obtain ⟨e6, e7, e4, hg8⟩ := h8.2.1
    have HFI : Bx _ := ⟨h8.2.2 gg cg hown⟩
    clear h8
    refine hK.out _ _ ⟨e0, e1, e2, e3⟩ (fun hHeld => ?_)
    clear hK K
    try simp only [Act.put, List.setIfInBounds_toArray, List.set_cons_zero, List.set_cons_succ]
    refine wpAnyH_take (i := 21) (v := ?_) rfl (by decide +kernel) (by decide +kernel) (by decide +kernel) (fun _ _ _ h => h) (Or.inl ⟨by rfl, ?_⟩) (by assumption) ?_
    case refine_2 => intro w hSw; obtain ⟨s0, s1, s2, s3⟩ := hSw; go_simp; try rfl
    try simp only [Act.put, List.setIfInBounds_toArray, List.set_cons_zero, List.set_cons_succ]
    refine wpAnyH_take (i := 22) (v := ?_) rfl (by decide +kernel) (by decide +kernel) (by decide +kernel) (fun _ _ _ h => h) (Or.inl ⟨by rfl, ?_⟩) (by assumption) ?_
    case refine_2 => intro w hSw; obtain ⟨s0, s1, s2, s3⟩ := hSw; go_simp; try rfl
    try simp only [Act.put, List.setIfInBounds_toArray, List.set_cons_zero, List.set_cons_succ]
    refine wpAnyH_ready (rs := [23]) (by decide +kernel) (by simp) ?_
    refine AllReadyH.cons rfl (fun K hK => ?_) AllReadyH.nil
    go_simp
    refine hK.out _ _ (farI hne e0 e1 e2 e3) (fun hHeld => ?_)
    clear hK K
    refine wpAnyH_done (by decide +kernel) ?_ _
    have HB8 : Bx _ := ⟨e6⟩
    clear e0 e1 e2 e3 e4 e6 e7 hown hgrow hat hHeld
    go_wp2
    go_ret
    exact ⟨rfl, ⟨HB8.out.setCell (p := ⟨ub, 0, none⟩) hBu _, HFI.out⟩⟩
end Go.Proofs.YtijdcplffmdijaaDoor
