import Derived.Test.YtijdcplffmdijaaDoorCDKo
import Derived.Test.YtijdcplffmdijaaDoorCDId
namespace Go.Proofs.YtijdcplffmdijaaDoor
open Go.RowKit
set_option linter.unusedVariables false
set_option linter.unusedSimpArgs false

/-- the reference's unit under way -/
abbrev UR (w : World) (B ub : Nat) (u : CUn) : Prop := UG (IL B) (fun _ _ => True) w B ub u
theorem far3 {w : World} {ub k tb : Nat} {v x0 x1 x2 : Value} (hne : tb ≠ ub) (h0 : w.cell? ⟨tb, 0, none⟩ = some x0) (h1 : w.cell? ⟨tb, 1, none⟩ = some x1) (h2 : w.cell? ⟨tb, 2, none⟩ = some x2) :
    (w.setCell ⟨ub, k, none⟩ v).cell? ⟨tb, 0, none⟩ = some x0 ∧ (w.setCell ⟨ub, k, none⟩ v).cell? ⟨tb, 1, none⟩ = some x1 ∧ (w.setCell ⟨ub, k, none⟩ v).cell? ⟨tb, 2, none⟩ = some x2 := by
  have e : ∀ j, (w.setCell ⟨ub, k, none⟩ v).cell? ⟨tb, j, none⟩ = w.cell? ⟨tb, j, none⟩ := fun j => World.cell?_setCell_far w ⟨ub, k, none⟩ ⟨tb, j, none⟩ v (fun e => hne e.symm)
  exact ⟨by rw [e]; exact h0, by rw [e]; exact h1, by rw [e]; exact h2⟩
theorem IK.drp {w : World} {b o cap : Nat} {ks : List Int} (h : IK w (some ⟨b, o, none⟩) cap ks) {f : Nat} (hf : f < ks.length) : IK w (some ⟨b, o + f, none⟩) (cap - f) (ks.drop f) := by
  have hc0 := h.cap
  have hm0 := h.max
  obtain ⟨b', o', c, fz, e, hlt, hc⟩ := h.at_ (by omega)
  injection e with e
  injection e with e1 e2
  subst e1 e2
  refine ⟨by rw [List.length_drop]; omega, by rw [List.length_drop]; omega, fun h0 => ⟨_, _, c, fz, rfl, hlt, fun i hi => ?_⟩⟩
  rw [List.length_drop] at hi
  have := hc (f + i) (by omega)
  rw [List.getElem_drop, Nat.add_assoc]
  exact this
theorem ty_newsD (X : World) (H : Nat) (hH : X.heap.size = H) (a b c : Value) : ∀ (j : Nat) (u : Value), [a, b, c][j]? = some u → (X.alloc (.cells #[a, b, c] 54)).drew.cell? ((⟨H, 0, none⟩ : Addr).add j) = some u := by
  subst hH
  exact World.news_of_block (w := (X.alloc (.cells #[a, b, c] 54)).drew) (cs := #[a, b, c]) (heap_alloc_new X (.cells #[a, b, c] 54))
/-- what the last region finds, and leaves -/
structure TyMem (w X : World) (B ub tb n : Nat) (tv : Value) (x : Int) (kd : List Int) (r : Bool) (ka : Option Addr) (kl kc : Nat) (tcs : List (List Value)) (u' : CUn) : Prop where
  lb : B ≤ X.heap.size
  cu : X.cell? ⟨ub, 1, none⟩ = some tv
  cA : ((X.alloc (.cells #[.int .i64 x, .slice ka kl kc, .bool r] 54)).drew).cell? ⟨ub, 1, none⟩ = some tv
  lu : ub < X.heap.size
  lt : tb < X.heap.size
  si : (X.cell? ⟨tb, 0, none⟩ = some (.int .i64 x) ∧ X.cell? ⟨tb, 1, none⟩ = some (.slice ka kl kc) ∧ X.cell? ⟨tb, 2, none⟩ = some (.bool r))
  sa : (((X.alloc (.cells #[.int .i64 x, .slice ka kl kc, .bool r] 54)).drew).cell? ⟨tb, 0, none⟩ = some (.int .i64 x) ∧ ((X.alloc (.cells #[.int .i64 x, .slice ka kl kc, .bool r] 54)).drew).cell? ⟨tb, 1, none⟩ = some (.slice ka kl kc) ∧ ((X.alloc (.cells #[.int .i64 x, .slice ka kl kc, .bool r] 54)).drew).cell? ⟨tb, 2, none⟩ = some (.bool r))
  how : ((X.alloc (.cells #[.int .i64 x, .slice ka kl kc, .bool r] 54)).drew).ownsRow B 54 3 tv n tcs.flatten
  end_ : ∀ w8, ((X.alloc (.cells #[.int .i64 x, .slice ka kl kc, .bool r] 54)).drew).grownBy w8 tv.ownBlock → (w8.cell? ⟨tb, 0, none⟩ = some (.int .i64 x) ∧ w8.cell? ⟨tb, 1, none⟩ = some (.slice ka kl kc) ∧ w8.cell? ⟨tb, 2, none⟩ = some (.bool r)) ∧ (Below B w w8 ∧ w8.frozen? ⟨ub, 1, none⟩ = false ∧ w8.cell? ⟨ub, 1, none⟩ = some tv ∧ ub < w8.heap.size) ∧
    ∀ gg cg, w8.ownsRow B 54 3 (.slice (some ⟨gg, 0, none⟩) (n + 1) cg) (n + 1) (tcs.flatten ++ tyCells ⟨x, kd, r⟩ (.slice ka kl kc)) → UR (w8.setCell ⟨ub, 1, none⟩ (.slice (some ⟨gg, 0, none⟩) (n + 1) cg)) B ub u'
theorem tyMem_of {w X : World} {B ub tb cut : Nat} {u : CUn} {pv tv : Value} {pcs tcs : List (List Value)} (u1 : w.heap[ub]? = some (.cells #[pv, tv] 36 (0, 0))) (u2a : All2 (TyG (IL B) w) u.types tcs) (u2b : w.ownsRow B 54 3 tv u.types.length tcs.flatten) (u3 : w.ownsRow B 57 5 pv u.progs.length pcs.flatten) (u4 : B ≤ cut) (u5 : cut ≤ w.heap.size) (u6 : LastG (IL B) (fun _ _ => True) w B cut u.progs pcs)
    (hb : Below w.heap.size w X) {x : Int} {kd : List Int} {r : Bool} {ka : Option Addr} {kl kc : Nat} (hkl : kl = kd.length) (hk : IL B X ka kc kd) (htb : X.heap[tb]? = some (.cells #[.int .i64 x, .slice ka kl kc, .bool r] 54 (0, 0))) (hiw : w.heap.size ≤ tb) :
    TyMem w X B ub tb u.types.length tv x kd r ka kl kc tcs { u with types := u.types ++ [⟨x, kd, r⟩] } := by
  subst hkl
  have hs := hb.size
  have hul : ub < w.heap.size := (Array.getElem?_eq_some_iff.1 u1).1
  have htl : tb < X.heap.size := (Array.getElem?_eq_some_iff.1 htb).1
  have hbA : Below X.heap.size X ((X.alloc (.cells #[.int .i64 x, .slice ka kd.length kc, .bool r] 54)).drew) := (below1 X _).drew
  have hbW : Below w.heap.size w ((X.alloc (.cells #[.int .i64 x, .slice ka kd.length kc, .bool r] 54)).drew) := hb.trans (hbA.mono hs)
  have oA : ((X.alloc (.cells #[.int .i64 x, .slice ka kd.length kc, .bool r] 54)).drew).ownsRow B 54 3 tv u.types.length tcs.flatten := owns_on u2b (Kp.of (P := fun _ _ => True) hbW) fun _ _ => trivial
  have xi : ((X.alloc (.cells #[.int .i64 x, .slice ka kd.length kc, .bool r] 54)).drew).heap[tb]? = some (.cells #[.int .i64 x, .slice ka kd.length kc, .bool r] 54 (0, 0)) := below_heap hbA htb
  refine ⟨by omega, cell_blk (below_heap hb u1) rfl, cell_blk (below_heap hbW u1) rfl, by omega, htl, ⟨cell_blk htb rfl, cell_blk htb rfl, cell_blk htb rfl⟩, ⟨cell_blk xi rfl, cell_blk xi rfl, cell_blk xi rfl⟩, oA, fun w8 hgr => ?_⟩
  have hvb : ∀ x, tv.ownBlock = some x → B ≤ x ∧ x < w.heap.size := fun x hx => owns_block u2b hx
  have i8 : w8.heap[tb]? = some (.cells #[.int .i64 x, .slice ka kd.length kc, .bool r] 54 (0, 0)) := by
    rw [hgr.block tb (by have := hbA.size; omega) (fun e => by have := hvb tb e.symm; omega)]
    exact xi
  have g8 : w8.heap[ub]? = some (.cells #[pv, tv] 36 (0, 0)) := ((Kp.grown oA hgr).blk ub _ _ _ (below_heap hbW u1) (.inl (by decide))).trans (below_heap hbW u1)
  refine ⟨⟨cell_blk i8 rfl, cell_blk i8 rfl, cell_blk i8 rfl⟩, ⟨(hbW.mono (by omega)).grown hgr (by have := hbA.size; omega) (fun x hx => (hvb x hx).1), by simp [World.frozen?, g8], cell_blk g8 rfl, (Array.getElem?_eq_some_iff.1 g8).1⟩, fun gg cg hown => ?_⟩
  exact UG.addT (ok_IL B) (fun _ _ _ h => h) u1 u2a u2b u3 u4 u5 u6 hbW ((ok_IL B).on hk (KI.of hbA)) hown hgr
set_option maxRecDepth 100000 in
set_option maxHeartbeats 8000000 in
theorem radds_t0e (w : World) (B ub : Nat) (u : CUn) (hu : UR w B ub u) (h00 : u.progs = []) (x : Int)  (hBu : B ≤ ub) (hnn : u.types.length ≤ 1099511627776) (hkl : ([] : List Int).length ≤ 1099511627776) (m : Nat) (hm : m = ([] : List Int).length + 2) (line : List UInt8)
    (HS : Calls Tryd.prog 67 #[strV line] w fun e w' => ∃ lb cap, e = .returned (.tuple #[strV typeW, .slice (some ⟨lb, 0, none⟩) m cap, .bool true]) ∧ Bx (IK w' (some ⟨lb, 0, none⟩) cap (x :: 0 :: ([] : List Int)) ∧ w.heap.size ≤ lb ∧ Below w.heap.size w w')) :
    Calls Tryd.prog 51 #[.pointer (some ⟨ub, 0, none⟩), strV line] w fun e w' => e = .returned (.bool true) ∧ Bx (Below B w w' ∧ UR w' B ub { u with types := u.types ++ [⟨x, ([] : List Int), false⟩] }) := by
  obtain ⟨j0, ji, jz0, jz1, jz2⟩ := info_parts infoTy
  obtain ⟨pv, tv, pcs, cut, u1, u2, u3, u4, u5, u6⟩ := hu.ex
  obtain ⟨tcs, u2a, u2b⟩ := u2.ex
  have hub : ub < w.heap.size := (Array.getElem?_eq_some_iff.1 u1).1
  have hpv : ∃ pa pc, pv = .slice pa 0 pc := by
    rw [h00] at u3
    rcases u3.2 with ⟨h, _⟩ | ⟨g, c, cur, h, _⟩
    · exact ⟨_, _, h⟩
    · exact ⟨_, _, h⟩
  obtain ⟨pa, pc, hpv⟩ := hpv
  have HM : Bx (∀ X tb ka kl kc, kl = ([] : List Int).length → Below w.heap.size w X → IL B X ka kc ([] : List Int) → X.heap[tb]? = some (.cells #[.int .i64 x, .slice ka kl kc, .bool false] 54 (0, 0)) → w.heap.size ≤ tb → TyMem w X B ub tb u.types.length tv x ([] : List Int) false ka kl kc tcs { u with types := u.types ++ [⟨x, ([] : List Int), false⟩] }) := ⟨fun X tb ka kl kc hkl hb hk htb hiw => tyMem_of u1 u2a u2b u3 u4 u5 u6 hb hkl hk htb hiw⟩
  have HU : Bx (∀ X, Below w.heap.size w X → X.cell? ⟨ub, 0, none⟩ = some (.slice pa 0 pc)) := ⟨fun X hb => by rw [← hpv]; exact cell_blk (below_heap hb u1) rfl⟩
  have HBW : Bx (B ≤ w.heap.size) := ⟨by omega⟩
  have HL : Bx (∀ w1 lb cap, IK w1 (some ⟨lb, 0, none⟩) cap (x :: 0 :: ([] : List Int)) → (w1.cell? ⟨lb, 0, none⟩ = some (.int .i64 x) ∧ w1.cell? ⟨lb, 1, none⟩ = some (.int .i64 0)) ∧ lb < w1.heap.size ∧ m ≤ cap) := ⟨fun w1 lb cap hi => by
    obtain ⟨b', o', LC, fz, hbo, hl, hcs⟩ := hi.at_ (by simp)
    injection hbo with hbo
    injection hbo with hb1 hb2
    subst hb1 hb2
    have hc := hi.cap
    simp only [List.length_cons] at hc
    exact ⟨⟨hcs 0 (by simp), hcs 1 (by simp)⟩, (Array.getElem?_eq_some_iff.1 hl).1, by omega⟩⟩
  generalize u.types.length = n at *
  have v0 : (0 : Int) < (m : Int) := by omega
  have v1 : (1 : Int) < (m : Int) := by omega
  have v2 : ¬ (m : Int) < 2 := by omega
  have v3 : 0 < m := by omega
  have v4 : 1 < m := by omega
  have v6 : ¬ (2 : Int) < (m : Int) := by simp at hm; omega
  
  
  generalize { u with types := u.types ++ [⟨x, ([] : List Int), false⟩] : CUn } = U' at *
  clear hu h00 u1 u2 u2a u2b u3 u4 u5 u6  hpv
  clear hm
  unfold typeW at HS
  go_enter Tryd.func51, Tryd.ntmps51
  go_wp2_with (first
    | (go_at_call 67; refine HS.mono ?_; clear HS; rintro e w1 ⟨lb, cap, rfl, HX⟩
       obtain ⟨hHL, hlb, hcap⟩ := HL.out w1 lb cap HX.out.1
       obtain ⟨l0, l1⟩ := hHL
       have hHL : w1.cell? ⟨lb, 0, none⟩ = some (.int .i64 x) ∧ w1.cell? ⟨lb, 1, none⟩ = some (.int .i64 0) := ⟨l0, l1⟩
       have g0 := HU.out w1 HX.out.2.2
       have hz : w.heap.size ≤ w1.heap.size := HX.out.2.2.size
       have hub1 : ub < w1.heap.size := (by omega)
       have HZ0 : (w1.drew.alloc (.cells #[.int .i64 0, .slice none 0 0, .bool false] 54)).cell? ⟨lb, 0, none⟩ = some (.int .i64 x) := (by rw [(below1 w1.drew _).cell (p := ⟨lb, 0, none⟩) hlb]; exact l0)
       have HZ1 : (w1.drew.alloc (.cells #[.int .i64 0, .slice none 0 0, .bool false] 54)).cell? ⟨lb, 1, none⟩ = some (.int .i64 0) := (by rw [(below1 w1.drew _).cell (p := ⟨lb, 1, none⟩) hlb]; exact l1)
       have HZ2 : ((w1.alloc (.cells #[.int .i64 x, .slice none 0 0, .bool false] 54)).drew).cell? ⟨lb, 0, none⟩ = some (.int .i64 x) := (by rw [((below1 w1 _).drew).cell (p := ⟨lb, 0, none⟩) hlb]; exact l0)
       have HZ3 : ((w1.alloc (.cells #[.int .i64 x, .slice none 0 0, .bool false] 54)).drew).cell? ⟨lb, 1, none⟩ = some (.int .i64 0) := (by rw [((below1 w1 _).drew).cell (p := ⟨lb, 1, none⟩) hlb]; exact l1)))
  refine wp_region_held_drew (S := (fun w' : World => (w'.cell? ⟨lb, 0, none⟩ = some (.int .i64 x) ∧ w'.cell? ⟨lb, 1, none⟩ = some (.int .i64 0)))) (by kernel_rfl) hHL (fun hHeld => ?_)
  try simp only [List.size_toArray, List.length_cons, List.length_nil]
  refine wpAnyH_take (i := 0) (v := ?_) rfl (by decide +kernel) (by decide +kernel) (by decide +kernel) (fun _ _ _ h => h) (Or.inl ⟨by rfl, ?_⟩) (by assumption) ?_
  case refine_2 => intro w hSw; obtain ⟨s0, s1⟩ := hSw; go_simp; try rfl
  try simp only [Act.put, List.setIfInBounds_toArray, List.set_cons_zero, List.set_cons_succ]
  refine wpAnyH_take (i := 1) (v := ?_) rfl (by decide +kernel) (by decide +kernel) (by decide +kernel) (fun _ _ _ h => h) (Or.inl ⟨by rfl, ?_⟩) (by assumption) ?_
  case refine_2 => intro w hSw; obtain ⟨s0, s1⟩ := hSw; go_simp; try rfl
  try simp only [Act.put, List.setIfInBounds_toArray, List.set_cons_zero, List.set_cons_succ]
  refine wpAnyH_take (i := 2) (v := ?_) rfl (by decide +kernel) (by decide +kernel) (by decide +kernel) (fun _ _ _ h => h) (Or.inl ⟨by rfl, ?_⟩) (by assumption) ?_
  case refine_2 => intro w hSw; obtain ⟨s0, s1⟩ := hSw; go_simp; try rfl
  try simp only [Act.put, List.setIfInBounds_toArray, List.set_cons_zero, List.set_cons_succ]
  refine wpAnyH_take (i := 3) (v := ?_) rfl (by decide +kernel) (by decide +kernel) (by decide +kernel) (fun _ _ _ h => h) (Or.inl ⟨by rfl, ?_⟩) (by assumption) ?_
  case refine_2 => intro w hSw; obtain ⟨s0, s1⟩ := hSw; go_simp; try rfl
  try simp only [Act.put, List.setIfInBounds_toArray, List.set_cons_zero, List.set_cons_succ]
  refine wpAnyH_take (i := 4) (v := ?_) rfl (by decide +kernel) (by decide +kernel) (by decide +kernel) (fun _ _ _ h => h) (Or.inl ⟨by rfl, ?_⟩) (by assumption) ?_
  case refine_2 => intro w hSw; obtain ⟨s0, s1⟩ := hSw; go_simp; try rfl
  try simp only [Act.put, List.setIfInBounds_toArray, List.set_cons_zero, List.set_cons_succ]
  refine wpAnyH_take (i := 5) (v := ?_) rfl (by decide +kernel) (by decide +kernel) (by decide +kernel) (fun _ _ _ h => h) (Or.inl ⟨by rfl, ?_⟩) (by assumption) ?_
  case refine_2 => intro w hSw; obtain ⟨s0, s1⟩ := hSw; go_simp; try rfl
  try simp only [Act.put, List.setIfInBounds_toArray, List.set_cons_zero, List.set_cons_succ]
  refine wpAnyH_take (i := 6) (v := ?_) rfl (by decide +kernel) (by decide +kernel) (by decide +kernel) (fun _ _ _ h => h) (Or.inl ⟨by rfl, ?_⟩) (by assumption) ?_
  case refine_2 => intro w hSw; obtain ⟨s0, s1⟩ := hSw; go_simp; try rfl
  try simp only [Act.put, List.setIfInBounds_toArray, List.set_cons_zero, List.set_cons_succ]
  refine wpAnyH_take (i := 7) (v := ?_) rfl (by decide +kernel) (by decide +kernel) (by decide +kernel) (fun _ _ _ h => h) (Or.inl ⟨by rfl, ?_⟩) (by assumption) ?_
  case refine_2 => intro w hSw; obtain ⟨s0, s1⟩ := hSw; go_simp; try rfl
  try simp only [Act.put, List.setIfInBounds_toArray, List.set_cons_zero, List.set_cons_succ]
  refine wpAnyH_ready (rs := [8]) (by decide +kernel) (by simp) ?_
  refine AllReadyH.cons rfl (fun K hK => ?_) AllReadyH.nil
  go_simp
  refine hK.out _ _ ⟨HZ0, HZ1⟩ (fun hHeld => ?_)
  clear hK K
  refine wpAnyH_ready (rs := [9]) (by decide +kernel) (by simp) ?_
  refine AllReadyH.cons rfl (fun K hK => ?_) AllReadyH.nil
  go_simp
  refine hK.out _ _ ⟨HZ2, HZ3⟩ (fun hHeld => ?_)
  clear hK K
  refine wpAnyH_done (by decide +kernel) ?_ _
  clear hHeld hHL HZ0 HZ1 HZ2 HZ3 l0 l1
  obtain ⟨tb, htb⟩ : ∃ tb, w1.heap.size = tb := ⟨_, rfl⟩
  obtain ⟨X0, hX0⟩ : ∃ X, (w1.alloc (.cells #[.int .i64 x, .slice none 0 0, .bool false] 54)).drew = X := ⟨_, rfl⟩
  have bX : Below w1.heap.size w1 X0 := by rw [← hX0]; exact (below1 w1 _).drew
  have iX : X0.heap[tb]? = some (.cells #[.int .i64 x, .slice none 0 0, .bool false] 54 (0, 0)) := by rw [← hX0]; exact heap_newH w1 _ tb htb
  have bW : Below w.heap.size w X0 := HX.out.2.2.trans (bX.mono hz)
  rw [hX0, htb]
  have hwt : w.heap.size ≤ tb := by omega
  have hne : tb ≠ ub := by omega
  have HM1 : Bx _ := ⟨HM.out X0 tb none 0 0 rfl bW ⟨IK.nil _ _ _, fun h => absurd h (by simp)⟩ iX hwt⟩
  generalize X0 = X at *
  clear bX iX bW HM HX g0 hX0
  have c1 : X.cell? ⟨ub, 1, none⟩ = some tv := HM1.out.cu
  have c2 : ((X.alloc (.cells #[.int .i64 x, .slice none 0 0, .bool false] 54)).drew).cell? ⟨ub, 1, none⟩ = some tv := HM1.out.cA
  have hHS : (X.cell? ⟨tb, 0, none⟩ = some (.int .i64 x) ∧ X.cell? ⟨tb, 1, none⟩ = some (.slice none 0 0) ∧ X.cell? ⟨tb, 2, none⟩ = some (.bool false)) := HM1.out.si
  have hSA : (((X.alloc (.cells #[.int .i64 x, .slice none 0 0, .bool false] 54)).drew).cell? ⟨tb, 0, none⟩ = some (.int .i64 x) ∧ ((X.alloc (.cells #[.int .i64 x, .slice none 0 0, .bool false] 54)).drew).cell? ⟨tb, 1, none⟩ = some (.slice none 0 0) ∧ ((X.alloc (.cells #[.int .i64 x, .slice none 0 0, .bool false] 54)).drew).cell? ⟨tb, 2, none⟩ = some (.bool false)) := HM1.out.sa
  have hgX := HM1.out.lu
  have hiX := HM1.out.lt
  go_wp2
  refine wp_region_held_drew (S := (fun w' : World => (w'.cell? ⟨tb, 0, none⟩ = some (.int .i64 x) ∧ w'.cell? ⟨tb, 1, none⟩ = some (.slice none 0 0) ∧ w'.cell? ⟨tb, 2, none⟩ = some (.bool false)))) (by kernel_rfl) hHS (fun hHeld => ?_)
  try simp only [List.size_toArray, List.length_cons, List.length_nil]
  refine wpAnyH_take (i := 0) (v := ?_) rfl (by decide +kernel) (by decide +kernel) (by decide +kernel) (fun _ _ _ h => h) (Or.inl ⟨by rfl, ?_⟩) (by assumption) ?_
  case refine_2 => intro w hSw; obtain ⟨s0, s1, s2⟩ := hSw; go_simp; try rfl
  try simp only [Act.put, List.setIfInBounds_toArray, List.set_cons_zero, List.set_cons_succ]
  refine wpAnyH_take (i := 1) (v := ?_) rfl (by decide +kernel) (by decide +kernel) (by decide +kernel) (fun _ _ _ h => h) (Or.inl ⟨by rfl, ?_⟩) (by assumption) ?_
  case refine_2 => intro w hSw; obtain ⟨s0, s1, s2⟩ := hSw; go_simp; try rfl
  try simp only [Act.put, List.setIfInBounds_toArray, List.set_cons_zero, List.set_cons_succ]
  refine wpAnyH_take (i := 2) (v := ?_) rfl (by decide +kernel) (by decide +kernel) (by decide +kernel) (fun _ _ _ h => h) (Or.inl ⟨by rfl, ?_⟩) (by assumption) ?_
  case refine_2 => intro w hSw; obtain ⟨s0, s1, s2⟩ := hSw; go_simp; try rfl
  try simp only [Act.put, List.setIfInBounds_toArray, List.set_cons_zero, List.set_cons_succ]
  refine wpAnyH_take (i := 3) (v := ?_) rfl (by decide +kernel) (by decide +kernel) (by decide +kernel) (fun _ _ _ h => h) (Or.inl ⟨by rfl, ?_⟩) (by assumption) ?_
  case refine_2 => intro w hSw; obtain ⟨s0, s1, s2⟩ := hSw; go_simp; try rfl
  try simp only [Act.put, List.setIfInBounds_toArray, List.set_cons_zero, List.set_cons_succ]
  refine wpAnyH_take (i := 5) (v := ?_) rfl (by decide +kernel) (by decide +kernel) (by decide +kernel) (fun _ _ _ h => h) (Or.inl ⟨by rfl, ?_⟩) (by assumption) ?_
  case refine_2 => intro w hSw; obtain ⟨s0, s1, s2⟩ := hSw; go_simp; try rfl
  try simp only [Act.put, List.setIfInBounds_toArray, List.set_cons_zero, List.set_cons_succ]
  refine wpAnyH_ready (rs := [4, 6]) (by decide +kernel) (by simp) ?_
  refine AllReadyH.cons rfl (fun K hK => ?_) (AllReadyH.cons rfl (fun K hK => ?_) AllReadyH.nil)
  · go_simp
    refine hK.out _ _ hHeld (fun hHeld => ?_)
    clear hK K
    try simp only [Act.put, List.setIfInBounds_toArray, List.set_cons_zero, List.set_cons_succ]
    refine wpAnyH_ready (rs := [6]) (by decide +kernel) (by simp) ?_
    refine AllReadyH.cons rfl (fun K hK => ?_) AllReadyH.nil
    go_simp
    refine hK.out _ _ hSA (fun hHeld => ?_)
    clear hK K
    try simp only [Act.put, List.setIfInBounds_toArray, List.set_cons_zero, List.set_cons_succ]
    refine wpAnyH_ready (rs := [7]) (by decide +kernel) (by simp) ?_
    refine AllReadyH.cons rfl (fun K hK => ?_) AllReadyH.nil
    refine step_append_lies _ rfl (.tmp 62) (.tmp 64) 34 rfl B 54 j0 (.agg #[.int .i64 0, .slice none 0 0, .bool false]) 3 40 Tryd.underlying34 ji jz0 jz1 jz2 rfl (by decide) tv n tcs.flatten (by simp [Act.eval, Act.put]) HM1.out.how ⟨X.heap.size, 0, none⟩ 1 1 [.int .i64 x, .slice none 0 0, .bool false] (by simp [Act.eval, Act.put]) rfl (ty_newsD _ _ rfl _ _ _) (ty_oneR _ _ _ _ _) (by decide) (by unfold maxLen; omega) (by omega) (by simp; have := HM1.out.lb; omega) (X.heap.size + 1) (by simp) ?_
    intro gg cg w8 hown hgrow hat hlt8
    have h8 := HM1.out.end_ w8 hgrow
    obtain ⟨e0, e1, e2⟩ := h8.1
    obtain ⟨e6, e7, e4, hg8⟩ := h8.2.1
    have HFI : Bx _ := ⟨h8.2.2 gg cg hown⟩
    clear h8
    refine hK.out _ _ ⟨e0, e1, e2⟩ (fun hHeld => ?_)
    clear hK K
    try simp only [Act.put, List.setIfInBounds_toArray, List.set_cons_zero, List.set_cons_succ]
    refine wpAnyH_take (i := 8) (v := ?_) rfl (by decide +kernel) (by decide +kernel) (by decide +kernel) (fun _ _ _ h => h) (Or.inl ⟨by rfl, ?_⟩) (by assumption) ?_
    case refine_2 => intro w hSw; obtain ⟨s0, s1, s2⟩ := hSw; go_simp; try rfl
    try simp only [Act.put, List.setIfInBounds_toArray, List.set_cons_zero, List.set_cons_succ]
    refine wpAnyH_take (i := 9) (v := ?_) rfl (by decide +kernel) (by decide +kernel) (by decide +kernel) (fun _ _ _ h => h) (Or.inl ⟨by rfl, ?_⟩) (by assumption) ?_
    case refine_2 => intro w hSw; obtain ⟨s0, s1, s2⟩ := hSw; go_simp; try rfl
    try simp only [Act.put, List.setIfInBounds_toArray, List.set_cons_zero, List.set_cons_succ]
    refine wpAnyH_ready (rs := [10]) (by decide +kernel) (by simp) ?_
    refine AllReadyH.cons rfl (fun K hK => ?_) AllReadyH.nil
    go_simp
    refine hK.out _ _ (far3 hne e0 e1 e2) (fun hHeld => ?_)
    clear hK K
    refine wpAnyH_done (by decide +kernel) ?_ _
    have HB8 : Bx _ := ⟨e6⟩
    clear e0 e1 e2 e4 e6 e7 hown hgrow hat hHeld
    go_wp2
    go_ret
    exact ⟨rfl, ⟨HB8.out.setCell (p := ⟨ub, 1, none⟩) hBu _, HFI.out⟩⟩
  · go_simp
    refine hK.out _ _ hSA (fun hHeld => ?_)
    clear hK K
    try simp only [Act.put, List.setIfInBounds_toArray, List.set_cons_zero, List.set_cons_succ]
    refine wpAnyH_ready (rs := [4]) (by decide +kernel) (by simp) ?_
    refine AllReadyH.cons rfl (fun K hK => ?_) AllReadyH.nil
    go_simp
    refine hK.out _ _ hHeld (fun hHeld => ?_)
    clear hK K
    try simp only [Act.put, List.setIfInBounds_toArray, List.set_cons_zero, List.set_cons_succ]
    refine wpAnyH_ready (rs := [7]) (by decide +kernel) (by simp) ?_
    refine AllReadyH.cons rfl (fun K hK => ?_) AllReadyH.nil
    refine step_append_lies _ rfl (.tmp 62) (.tmp 64) 34 rfl B 54 j0 (.agg #[.int .i64 0, .slice none 0 0, .bool false]) 3 40 Tryd.underlying34 ji jz0 jz1 jz2 rfl (by decide) tv n tcs.flatten (by simp [Act.eval, Act.put]) HM1.out.how ⟨X.heap.size, 0, none⟩ 1 1 [.int .i64 x, .slice none 0 0, .bool false] (by simp [Act.eval, Act.put]) rfl (ty_newsD _ _ rfl _ _ _) (ty_oneR _ _ _ _ _) (by decide) (by unfold maxLen; omega) (by omega) (by simp; have := HM1.out.lb; omega) (X.heap.size + 1) (by simp) ?_
    intro gg cg w8 hown hgrow hat hlt8
    have h8 := HM1.out.end_ w8 hgrow
    obtain ⟨e0, e1, e2⟩ := h8.1
    obtain ⟨e6, e7, e4, hg8⟩ := h8.2.1
    have HFI : Bx _ := ⟨h8.2.2 gg cg hown⟩
    clear h8
    refine hK.out _ _ ⟨e0, e1, e2⟩ (fun hHeld => ?_)
    clear hK K
    try simp only [Act.put, List.setIfInBounds_toArray, List.set_cons_zero, List.set_cons_succ]
    refine wpAnyH_take (i := 8) (v := ?_) rfl (by decide +kernel) (by decide +kernel) (by decide +kernel) (fun _ _ _ h => h) (Or.inl ⟨by rfl, ?_⟩) (by assumption) ?_
    case refine_2 => intro w hSw; obtain ⟨s0, s1, s2⟩ := hSw; go_simp; try rfl
    try simp only [Act.put, List.setIfInBounds_toArray, List.set_cons_zero, List.set_cons_succ]
    refine wpAnyH_take (i := 9) (v := ?_) rfl (by decide +kernel) (by decide +kernel) (by decide +kernel) (fun _ _ _ h => h) (Or.inl ⟨by rfl, ?_⟩) (by assumption) ?_
    case refine_2 => intro w hSw; obtain ⟨s0, s1, s2⟩ := hSw; go_simp; try rfl
    try simp only [Act.put, List.setIfInBounds_toArray, List.set_cons_zero, List.set_cons_succ]
    refine wpAnyH_ready (rs := [10]) (by decide +kernel) (by simp) ?_
    refine AllReadyH.cons rfl (fun K hK => ?_) AllReadyH.nil
    go_simp
    refine hK.out _ _ (far3 hne e0 e1 e2) (fun hHeld => ?_)
    clear hK K
    refine wpAnyH_done (by decide +kernel) ?_ _
    have HB8 : Bx _ := ⟨e6⟩
    clear e0 e1 e2 e4 e6 e7 hown hgrow hat hHeld
    go_wp2
    go_ret
    exact ⟨rfl, ⟨HB8.out.setCell (p := ⟨ub, 1, none⟩) hBu _, HFI.out⟩⟩
set_option maxRecDepth 100000 in
set_option maxHeartbeats 8000000 in
theorem radds_t0n (w : World) (B ub : Nat) (u : CUn) (hu : UR w B ub u) (h00 : u.progs = []) (x : Int) (kd : List Int) (hkd : 0 < kd.length) (hBu : B ≤ ub) (hnn : u.types.length ≤ 1099511627776) (hkl : kd.length ≤ 1099511627776) (m : Nat) (hm : m = kd.length + 2) (line : List UInt8)
    (HS : Calls Tryd.prog 67 #[strV line] w fun e w' => ∃ lb cap, e = .returned (.tuple #[strV typeW, .slice (some ⟨lb, 0, none⟩) m cap, .bool true]) ∧ Bx (IK w' (some ⟨lb, 0, none⟩) cap (x :: 0 :: kd) ∧ w.heap.size ≤ lb ∧ Below w.heap.size w w')) :
    Calls Tryd.prog 51 #[.pointer (some ⟨ub, 0, none⟩), strV line] w fun e w' => e = .returned (.bool true) ∧ Bx (Below B w w' ∧ UR w' B ub { u with types := u.types ++ [⟨x, kd, false⟩] }) := by
  obtain ⟨j0, ji, jz0, jz1, jz2⟩ := info_parts infoTy
  obtain ⟨pv, tv, pcs, cut, u1, u2, u3, u4, u5, u6⟩ := hu.ex
  obtain ⟨tcs, u2a, u2b⟩ := u2.ex
  have hub : ub < w.heap.size := (Array.getElem?_eq_some_iff.1 u1).1
  have hpv : ∃ pa pc, pv = .slice pa 0 pc := by
    rw [h00] at u3
    rcases u3.2 with ⟨h, _⟩ | ⟨g, c, cur, h, _⟩
    · exact ⟨_, _, h⟩
    · exact ⟨_, _, h⟩
  obtain ⟨pa, pc, hpv⟩ := hpv
  have HM : Bx (∀ X tb ka kl kc, kl = kd.length → Below w.heap.size w X → IL B X ka kc kd → X.heap[tb]? = some (.cells #[.int .i64 x, .slice ka kl kc, .bool false] 54 (0, 0)) → w.heap.size ≤ tb → TyMem w X B ub tb u.types.length tv x kd false ka kl kc tcs { u with types := u.types ++ [⟨x, kd, false⟩] }) := ⟨fun X tb ka kl kc hkl hb hk htb hiw => tyMem_of u1 u2a u2b u3 u4 u5 u6 hb hkl hk htb hiw⟩
  have HU : Bx (∀ X, Below w.heap.size w X → X.cell? ⟨ub, 0, none⟩ = some (.slice pa 0 pc)) := ⟨fun X hb => by rw [← hpv]; exact cell_blk (below_heap hb u1) rfl⟩
  have HBW : Bx (B ≤ w.heap.size) := ⟨by omega⟩
  have HL : Bx (∀ w1 lb cap, IK w1 (some ⟨lb, 0, none⟩) cap (x :: 0 :: kd) → (w1.cell? ⟨lb, 0, none⟩ = some (.int .i64 x) ∧ w1.cell? ⟨lb, 1, none⟩ = some (.int .i64 0)) ∧ lb < w1.heap.size ∧ m ≤ cap) := ⟨fun w1 lb cap hi => by
    obtain ⟨b', o', LC, fz, hbo, hl, hcs⟩ := hi.at_ (by simp)
    injection hbo with hbo
    injection hbo with hb1 hb2
    subst hb1 hb2
    have hc := hi.cap
    simp only [List.length_cons] at hc
    exact ⟨⟨hcs 0 (by simp), hcs 1 (by simp)⟩, (Array.getElem?_eq_some_iff.1 hl).1, by omega⟩⟩
  generalize u.types.length = n at *
  have v0 : (0 : Int) < (m : Int) := by omega
  have v1 : (1 : Int) < (m : Int) := by omega
  have v2 : ¬ (m : Int) < 2 := by omega
  have v3 : 0 < m := by omega
  have v4 : 1 < m := by omega
  have v6 : (2 : Int) < (m : Int) := by omega
  have v7 : (2 : Int) ≤ (m : Int) := by omega
  have v8 : Bx (m - 2 = kd.length) := ⟨by omega⟩
  generalize { u with types := u.types ++ [⟨x, kd, false⟩] : CUn } = U' at *
  clear hu h00 u1 u2 u2a u2b u3 u4 u5 u6 hkd hpv
  clear hm
  unfold typeW at HS
  go_enter Tryd.func51, Tryd.ntmps51
  go_wp2_with (first
    | (go_at_call 67; refine HS.mono ?_; clear HS; rintro e w1 ⟨lb, cap, rfl, HX⟩
       obtain ⟨hHL, hlb, hcap⟩ := HL.out w1 lb cap HX.out.1
       obtain ⟨l0, l1⟩ := hHL
       have hHL : w1.cell? ⟨lb, 0, none⟩ = some (.int .i64 x) ∧ w1.cell? ⟨lb, 1, none⟩ = some (.int .i64 0) := ⟨l0, l1⟩
       have g0 := HU.out w1 HX.out.2.2
       have hz : w.heap.size ≤ w1.heap.size := HX.out.2.2.size
       have hub1 : ub < w1.heap.size := (by omega)
       have HZ0 : (w1.drew.alloc (.cells #[.int .i64 0, .slice none 0 0, .bool false] 54)).cell? ⟨lb, 0, none⟩ = some (.int .i64 x) := (by rw [(below1 w1.drew _).cell (p := ⟨lb, 0, none⟩) hlb]; exact l0)
       have HZ1 : (w1.drew.alloc (.cells #[.int .i64 0, .slice none 0 0, .bool false] 54)).cell? ⟨lb, 1, none⟩ = some (.int .i64 0) := (by rw [(below1 w1.drew _).cell (p := ⟨lb, 1, none⟩) hlb]; exact l1)
       have HZ2 : ((w1.alloc (.cells #[.int .i64 x, .slice none 0 0, .bool false] 54)).drew).cell? ⟨lb, 0, none⟩ = some (.int .i64 x) := (by rw [((below1 w1 _).drew).cell (p := ⟨lb, 0, none⟩) hlb]; exact l0)
       have HZ3 : ((w1.alloc (.cells #[.int .i64 x, .slice none 0 0, .bool false] 54)).drew).cell? ⟨lb, 1, none⟩ = some (.int .i64 0) := (by rw [((below1 w1 _).drew).cell (p := ⟨lb, 1, none⟩) hlb]; exact l1)))
  refine wp_region_held_drew (S := (fun w' : World => (w'.cell? ⟨lb, 0, none⟩ = some (.int .i64 x) ∧ w'.cell? ⟨lb, 1, none⟩ = some (.int .i64 0)))) (by kernel_rfl) hHL (fun hHeld => ?_)
  try simp only [List.size_toArray, List.length_cons, List.length_nil]
  refine wpAnyH_take (i := 0) (v := ?_) rfl (by decide +kernel) (by decide +kernel) (by decide +kernel) (fun _ _ _ h => h) (Or.inl ⟨by rfl, ?_⟩) (by assumption) ?_
  case refine_2 => intro w hSw; obtain ⟨s0, s1⟩ := hSw; go_simp; try rfl
  try simp only [Act.put, List.setIfInBounds_toArray, List.set_cons_zero, List.set_cons_succ]
  refine wpAnyH_take (i := 1) (v := ?_) rfl (by decide +kernel) (by decide +kernel) (by decide +kernel) (fun _ _ _ h => h) (Or.inl ⟨by rfl, ?_⟩) (by assumption) ?_
  case refine_2 => intro w hSw; obtain ⟨s0, s1⟩ := hSw; go_simp; try rfl
  try simp only [Act.put, List.setIfInBounds_toArray, List.set_cons_zero, List.set_cons_succ]
  refine wpAnyH_take (i := 2) (v := ?_) rfl (by decide +kernel) (by decide +kernel) (by decide +kernel) (fun _ _ _ h => h) (Or.inl ⟨by rfl, ?_⟩) (by assumption) ?_
  case refine_2 => intro w hSw; obtain ⟨s0, s1⟩ := hSw; go_simp; try rfl
  try simp only [Act.put, List.setIfInBounds_toArray, List.set_cons_zero, List.set_cons_succ]
  refine wpAnyH_take (i := 3) (v := ?_) rfl (by decide +kernel) (by decide +kernel) (by decide +kernel) (fun _ _ _ h => h) (Or.inl ⟨by rfl, ?_⟩) (by assumption) ?_
  case refine_2 => intro w hSw; obtain ⟨s0, s1⟩ := hSw; go_simp; try rfl
  try simp only [Act.put, List.setIfInBounds_toArray, List.set_cons_zero, List.set_cons_succ]
  refine wpAnyH_take (i := 4) (v := ?_) rfl (by decide +kernel) (by decide +kernel) (by decide +kernel) (fun _ _ _ h => h) (Or.inl ⟨by rfl, ?_⟩) (by assumption) ?_
  case refine_2 => intro w hSw; obtain ⟨s0, s1⟩ := hSw; go_simp; try rfl
  try simp only [Act.put, List.setIfInBounds_toArray, List.set_cons_zero, List.set_cons_succ]
  refine wpAnyH_take (i := 5) (v := ?_) rfl (by decide +kernel) (by decide +kernel) (by decide +kernel) (fun _ _ _ h => h) (Or.inl ⟨by rfl, ?_⟩) (by assumption) ?_
  case refine_2 => intro w hSw; obtain ⟨s0, s1⟩ := hSw; go_simp; try rfl
  try simp only [Act.put, List.setIfInBounds_toArray, List.set_cons_zero, List.set_cons_succ]
  refine wpAnyH_take (i := 6) (v := ?_) rfl (by decide +kernel) (by decide +kernel) (by decide +kernel) (fun _ _ _ h => h) (Or.inl ⟨by rfl, ?_⟩) (by assumption) ?_
  case refine_2 => intro w hSw; obtain ⟨s0, s1⟩ := hSw; go_simp; try rfl
  try simp only [Act.put, List.setIfInBounds_toArray, List.set_cons_zero, List.set_cons_succ]
  refine wpAnyH_take (i := 7) (v := ?_) rfl (by decide +kernel) (by decide +kernel) (by decide +kernel) (fun _ _ _ h => h) (Or.inl ⟨by rfl, ?_⟩) (by assumption) ?_
  case refine_2 => intro w hSw; obtain ⟨s0, s1⟩ := hSw; go_simp; try rfl
  try simp only [Act.put, List.setIfInBounds_toArray, List.set_cons_zero, List.set_cons_succ]
  refine wpAnyH_ready (rs := [8]) (by decide +kernel) (by simp) ?_
  refine AllReadyH.cons rfl (fun K hK => ?_) AllReadyH.nil
  go_simp
  refine hK.out _ _ ⟨HZ0, HZ1⟩ (fun hHeld => ?_)
  clear hK K
  refine wpAnyH_ready (rs := [9]) (by decide +kernel) (by simp) ?_
  refine AllReadyH.cons rfl (fun K hK => ?_) AllReadyH.nil
  go_simp
  refine hK.out _ _ ⟨HZ2, HZ3⟩ (fun hHeld => ?_)
  clear hK K
  refine wpAnyH_done (by decide +kernel) ?_ _
  clear hHeld hHL HZ0 HZ1 HZ2 HZ3 l0 l1
  obtain ⟨tb, htb⟩ : ∃ tb, w1.heap.size = tb := ⟨_, rfl⟩
  obtain ⟨X0, hX0⟩ : ∃ X, (w1.alloc (.cells #[.int .i64 x, .slice none 0 0, .bool false] 54)).drew = X := ⟨_, rfl⟩
  have bX : Below w1.heap.size w1 X0 := by rw [← hX0]; exact (below1 w1 _).drew
  have iX : X0.heap[tb]? = some (.cells #[.int .i64 x, .slice none 0 0, .bool false] 54 (0, 0)) := by rw [← hX0]; exact heap_newH w1 _ tb htb
  have bW : Below w.heap.size w X0 := HX.out.2.2.trans (bX.mono hz)
  rw [hX0, htb]
  have hwt : w.heap.size ≤ tb := by omega
  have hne : tb ≠ ub := by omega
  have c1 : X0.cell? ⟨tb, 1, none⟩ = some (.slice none 0 0) := cell_blk iX rfl
  have f1 : X0.frozen? ⟨tb, 1, none⟩ = false := by simp [World.frozen?, iX]
  have ht0 : tb < X0.heap.size := (Array.getElem?_eq_some_iff.1 iX).1
  obtain ⟨X, hX⟩ : ∃ X, X0.setCell ⟨tb, 1, none⟩ (.slice (some ⟨lb, 2, none⟩) (m - 2) (cap - 2)) = X := ⟨_, rfl⟩
  have iX2 : X.heap[tb]? = some (.cells #[.int .i64 x, .slice (some ⟨lb, 2, none⟩) (m - 2) (cap - 2), .bool false] 54 (0, 0)) := by
    rw [← hX, heap_setCell_same X0 tb 1 _ _ _ iX]
    rfl
  have bW2 : Below w.heap.size w X := by rw [← hX]; exact bW.setCell (p := ⟨tb, 1, none⟩) hwt _
  have kX : IL B X (some ⟨lb, 2, none⟩) (cap - 2) kd := by
    refine (ok_IL B).on (w := X0) ((ok_IL B).on (w := w1) ⟨?_, fun _ => ⟨lb, 2, rfl, Nat.le_trans HBW.out HX.out.2.1⟩⟩ (KI.of bX)) (by rw [← hX]; exact KI.set iX (by decide))
    have := HX.out.1.drp (f := 2) (by have := v8.out; simp; omega)
    simpa using this
  have HM1 : Bx _ := ⟨HM.out X tb (some ⟨lb, 2, none⟩) (m - 2) (cap - 2) v8.out bW2 kX iX2 hwt⟩
  clear kX iX2 bW2
  clear bX iX bW HM HX g0 hX0
  go_wp2
  try rw [hX]
  clear hX c1 f1 ht0
  have c1 : X.cell? ⟨ub, 1, none⟩ = some tv := HM1.out.cu
  have c2 : ((X.alloc (.cells #[.int .i64 x, .slice (some ⟨lb, 2, none⟩) (m - 2) (cap - 2), .bool false] 54)).drew).cell? ⟨ub, 1, none⟩ = some tv := HM1.out.cA
  have hHS : (X.cell? ⟨tb, 0, none⟩ = some (.int .i64 x) ∧ X.cell? ⟨tb, 1, none⟩ = some (.slice (some ⟨lb, 2, none⟩) (m - 2) (cap - 2)) ∧ X.cell? ⟨tb, 2, none⟩ = some (.bool false)) := HM1.out.si
  have hSA : (((X.alloc (.cells #[.int .i64 x, .slice (some ⟨lb, 2, none⟩) (m - 2) (cap - 2), .bool false] 54)).drew).cell? ⟨tb, 0, none⟩ = some (.int .i64 x) ∧ ((X.alloc (.cells #[.int .i64 x, .slice (some ⟨lb, 2, none⟩) (m - 2) (cap - 2), .bool false] 54)).drew).cell? ⟨tb, 1, none⟩ = some (.slice (some ⟨lb, 2, none⟩) (m - 2) (cap - 2)) ∧ ((X.alloc (.cells #[.int .i64 x, .slice (some ⟨lb, 2, none⟩) (m - 2) (cap - 2), .bool false] 54)).drew).cell? ⟨tb, 2, none⟩ = some (.bool false)) := HM1.out.sa
  have hgX := HM1.out.lu
  have hiX := HM1.out.lt
  refine wp_region_held_drew (S := (fun w' : World => (w'.cell? ⟨tb, 0, none⟩ = some (.int .i64 x) ∧ w'.cell? ⟨tb, 1, none⟩ = some (.slice (some ⟨lb, 2, none⟩) (m - 2) (cap - 2)) ∧ w'.cell? ⟨tb, 2, none⟩ = some (.bool false)))) (by kernel_rfl) hHS (fun hHeld => ?_)
  try simp only [List.size_toArray, List.length_cons, List.length_nil]
  refine wpAnyH_take (i := 0) (v := ?_) rfl (by decide +kernel) (by decide +kernel) (by decide +kernel) (fun _ _ _ h => h) (Or.inl ⟨by rfl, ?_⟩) (by assumption) ?_
  case refine_2 => intro w hSw; obtain ⟨s0, s1, s2⟩ := hSw; go_simp; try rfl
  try simp only [Act.put, List.setIfInBounds_toArray, List.set_cons_zero, List.set_cons_succ]
  refine wpAnyH_take (i := 1) (v := ?_) rfl (by decide +kernel) (by decide +kernel) (by decide +kernel) (fun _ _ _ h => h) (Or.inl ⟨by rfl, ?_⟩) (by assumption) ?_
  case refine_2 => intro w hSw; obtain ⟨s0, s1, s2⟩ := hSw; go_simp; try rfl
  try simp only [Act.put, List.setIfInBounds_toArray, List.set_cons_zero, List.set_cons_succ]
  refine wpAnyH_take (i := 2) (v := ?_) rfl (by decide +kernel) (by decide +kernel) (by decide +kernel) (fun _ _ _ h => h) (Or.inl ⟨by rfl, ?_⟩) (by assumption) ?_
  case refine_2 => intro w hSw; obtain ⟨s0, s1, s2⟩ := hSw; go_simp; try rfl
  try simp only [Act.put, List.setIfInBounds_toArray, List.set_cons_zero, List.set_cons_succ]
  refine wpAnyH_take (i := 3) (v := ?_) rfl (by decide +kernel) (by decide +kernel) (by decide +kernel) (fun _ _ _ h => h) (Or.inl ⟨by rfl, ?_⟩) (by assumption) ?_
  case refine_2 => intro w hSw; obtain ⟨s0, s1, s2⟩ := hSw; go_simp; try rfl
  try simp only [Act.put, List.setIfInBounds_toArray, List.set_cons_zero, List.set_cons_succ]
  refine wpAnyH_take (i := 5) (v := ?_) rfl (by decide +kernel) (by decide +kernel) (by decide +kernel) (fun _ _ _ h => h) (Or.inl ⟨by rfl, ?_⟩) (by assumption) ?_
  case refine_2 => intro w hSw; obtain ⟨s0, s1, s2⟩ := hSw; go_simp; try rfl
  try simp only [Act.put, List.setIfInBounds_toArray, List.set_cons_zero, List.set_cons_succ]
  refine wpAnyH_ready (rs := [4, 6]) (by decide +kernel) (by simp) ?_
  refine AllReadyH.cons rfl (fun K hK => ?_) (AllReadyH.cons rfl (fun K hK => ?_) AllReadyH.nil)
  · go_simp
    refine hK.out _ _ hHeld (fun hHeld => ?_)
    clear hK K
    try simp only [Act.put, List.setIfInBounds_toArray, List.set_cons_zero, List.set_cons_succ]
    refine wpAnyH_ready (rs := [6]) (by decide +kernel) (by simp) ?_
    refine AllReadyH.cons rfl (fun K hK => ?_) AllReadyH.nil
    go_simp
    refine hK.out _ _ hSA (fun hHeld => ?_)
    clear hK K
    try simp only [Act.put, List.setIfInBounds_toArray, List.set_cons_zero, List.set_cons_succ]
    refine wpAnyH_ready (rs := [7]) (by decide +kernel) (by simp) ?_
    refine AllReadyH.cons rfl (fun K hK => ?_) AllReadyH.nil
    refine step_append_lies _ rfl (.tmp 62) (.tmp 64) 34 rfl B 54 j0 (.agg #[.int .i64 0, .slice none 0 0, .bool false]) 3 40 Tryd.underlying34 ji jz0 jz1 jz2 rfl (by decide) tv n tcs.flatten (by simp [Act.eval, Act.put]) HM1.out.how ⟨X.heap.size, 0, none⟩ 1 1 [.int .i64 x, .slice (some ⟨lb, 2, none⟩) (m - 2) (cap - 2), .bool false] (by simp [Act.eval, Act.put]) rfl (ty_newsD _ _ rfl _ _ _) (ty_oneR _ _ _ _ _) (by decide) (by unfold maxLen; omega) (by omega) (by simp; have := HM1.out.lb; omega) (X.heap.size + 1) (by simp) ?_
    intro gg cg w8 hown hgrow hat hlt8
    have h8 := HM1.out.end_ w8 hgrow
    obtain ⟨e0, e1, e2⟩ := h8.1
    obtain ⟨e6, e7, e4, hg8⟩ := h8.2.1
    have HFI : Bx _ := ⟨h8.2.2 gg cg hown⟩
    clear h8
    refine hK.out _ _ ⟨e0, e1, e2⟩ (fun hHeld => ?_)
    clear hK K
    try simp only [Act.put, List.setIfInBounds_toArray, List.set_cons_zero, List.set_cons_succ]
    refine wpAnyH_take (i := 8) (v := ?_) rfl (by decide +kernel) (by decide +kernel) (by decide +kernel) (fun _ _ _ h => h) (Or.inl ⟨by rfl, ?_⟩) (by assumption) ?_
    case refine_2 => intro w hSw; obtain ⟨s0, s1, s2⟩ := hSw; go_simp; try rfl
    try simp only [Act.put, List.setIfInBounds_toArray, List.set_cons_zero, List.set_cons_succ]
    refine wpAnyH_take (i := 9) (v := ?_) rfl (by decide +kernel) (by decide +kernel) (by decide +kernel) (fun _ _ _ h => h) (Or.inl ⟨by rfl, ?_⟩) (by assumption) ?_
    case refine_2 => intro w hSw; obtain ⟨s0, s1, s2⟩ := hSw; go_simp; try rfl
    try simp only [Act.put, List.setIfInBounds_toArray, List.set_cons_zero, List.set_cons_succ]
    refine wpAnyH_ready (rs := [10]) (by decide +kernel) (by simp) ?_
    refine AllReadyH.cons rfl (fun K hK => ?_) AllReadyH.nil
    go_simp
    refine hK.out _ _ (far3 hne e0 e1 e2) (fun hHeld => ?_)
    clear hK K
    refine wpAnyH_done (by decide +kernel) ?_ _
    have HB8 : Bx _ := ⟨e6⟩
    clear e0 e1 e2 e4 e6 e7 hown hgrow hat hHeld
    go_wp2
    go_ret
    exact ⟨rfl, ⟨HB8.out.setCell (p := ⟨ub, 1, none⟩) hBu _, HFI.out⟩⟩
  · go_simp
    refine hK.out _ _ hSA (fun hHeld => ?_)
    clear hK K
    try simp only [Act.put, List.setIfInBounds_toArray, List.set_cons_zero, List.set_cons_succ]
    refine wpAnyH_ready (rs := [4]) (by decide +kernel) (by simp) ?_
    refine AllReadyH.cons rfl (fun K hK => ?_) AllReadyH.nil
    go_simp
    refine hK.out _ _ hHeld (fun hHeld => ?_)
    clear hK K
    try simp only [Act.put, List.setIfInBounds_toArray, List.set_cons_zero, List.set_cons_succ]
    refine wpAnyH_ready (rs := [7]) (by decide +kernel) (by simp) ?_
    refine AllReadyH.cons rfl (fun K hK => ?_) AllReadyH.nil
    refine step_append_lies _ rfl (.tmp 62) (.tmp 64) 34 rfl B 54 j0 (.agg #[.int .i64 0, .slice none 0 0, .bool false]) 3 40 Tryd.underlying34 ji jz0 jz1 jz2 rfl (by decide) tv n tcs.flatten (by simp [Act.eval, Act.put]) HM1.out.how ⟨X.heap.size, 0, none⟩ 1 1 [.int .i64 x, .slice (some ⟨lb, 2, none⟩) (m - 2) (cap - 2), .bool false] (by simp [Act.eval, Act.put]) rfl (ty_newsD _ _ rfl _ _ _) (ty_oneR _ _ _ _ _) (by decide) (by unfold maxLen; omega) (by omega) (by simp; have := HM1.out.lb; omega) (X.heap.size + 1) (by simp) ?_
    intro gg cg w8 hown hgrow hat hlt8
    have h8 := HM1.out.end_ w8 hgrow
    obtain ⟨e0, e1, e2⟩ := h8.1
    obtain ⟨e6, e7, e4, hg8⟩ := h8.2.1
    have HFI : Bx _ := ⟨h8.2.2 gg cg hown⟩
    clear h8
    refine hK.out _ _ ⟨e0, e1, e2⟩ (fun hHeld => ?_)
    clear hK K
    try simp only [Act.put, List.setIfInBounds_toArray, List.set_cons_zero, List.set_cons_succ]
    refine wpAnyH_take (i := 8) (v := ?_) rfl (by decide +kernel) (by decide +kernel) (by decide +kernel) (fun _ _ _ h => h) (Or.inl ⟨by rfl, ?_⟩) (by assumption) ?_
    case refine_2 => intro w hSw; obtain ⟨s0, s1, s2⟩ := hSw; go_simp; try rfl
    try simp only [Act.put, List.setIfInBounds_toArray, List.set_cons_zero, List.set_cons_succ]
    refine wpAnyH_take (i := 9) (v := ?_) rfl (by decide +kernel) (by decide +kernel) (by decide +kernel) (fun _ _ _ h => h) (Or.inl ⟨by rfl, ?_⟩) (by assumption) ?_
    case refine_2 => intro w hSw; obtain ⟨s0, s1, s2⟩ := hSw; go_simp; try rfl
    try simp only [Act.put, List.setIfInBounds_toArray, List.set_cons_zero, List.set_cons_succ]
    refine wpAnyH_ready (rs := [10]) (by decide +kernel) (by simp) ?_
    refine AllReadyH.cons rfl (fun K hK => ?_) AllReadyH.nil
    go_simp
    refine hK.out _ _ (far3 hne e0 e1 e2) (fun hHeld => ?_)
    clear hK K
    refine wpAnyH_done (by decide +kernel) ?_ _
    have HB8 : Bx _ := ⟨e6⟩
    clear e0 e1 e2 e4 e6 e7 hown hgrow hat hHeld
    go_wp2
    go_ret
    exact ⟨rfl, ⟨HB8.out.setCell (p := ⟨ub, 1, none⟩) hBu _, HFI.out⟩⟩
set_option maxRecDepth 100000 in
set_option maxHeartbeats 8000000 in
theorem radds_t1e (w : World) (B ub : Nat) (u : CUn) (hu : UR w B ub u) (h00 : u.progs = []) (x : Int)  (hBu : B ≤ ub) (hnn : u.types.length ≤ 1099511627776) (hkl : ([] : List Int).length ≤ 1099511627776) (m : Nat) (hm : m = ([] : List Int).length + 2) (line : List UInt8)
    (HS : Calls Tryd.prog 67 #[strV line] w fun e w' => ∃ lb cap, e = .returned (.tuple #[strV typeW, .slice (some ⟨lb, 0, none⟩) m cap, .bool true]) ∧ Bx (IK w' (some ⟨lb, 0, none⟩) cap (x :: 1 :: ([] : List Int)) ∧ w.heap.size ≤ lb ∧ Below w.heap.size w w')) :
    Calls Tryd.prog 51 #[.pointer (some ⟨ub, 0, none⟩), strV line] w fun e w' => e = .returned (.bool true) ∧ Bx (Below B w w' ∧ UR w' B ub { u with types := u.types ++ [⟨x, ([] : List Int), true⟩] }) := by
  obtain ⟨j0, ji, jz0, jz1, jz2⟩ := info_parts infoTy
  obtain ⟨pv, tv, pcs, cut, u1, u2, u3, u4, u5, u6⟩ := hu.ex
  obtain ⟨tcs, u2a, u2b⟩ := u2.ex
  have hub : ub < w.heap.size := (Array.getElem?_eq_some_iff.1 u1).1
  have hpv : ∃ pa pc, pv = .slice pa 0 pc := by
    rw [h00] at u3
    rcases u3.2 with ⟨h, _⟩ | ⟨g, c, cur, h, _⟩
    · exact ⟨_, _, h⟩
    · exact ⟨_, _, h⟩
  obtain ⟨pa, pc, hpv⟩ := hpv
  have HM : Bx (∀ X tb ka kl kc, kl = ([] : List Int).length → Below w.heap.size w X → IL B X ka kc ([] : List Int) → X.heap[tb]? = some (.cells #[.int .i64 x, .slice ka kl kc, .bool true] 54 (0, 0)) → w.heap.size ≤ tb → TyMem w X B ub tb u.types.length tv x ([] : List Int) true ka kl kc tcs { u with types := u.types ++ [⟨x, ([] : List Int), true⟩] }) := ⟨fun X tb ka kl kc hkl hb hk htb hiw => tyMem_of u1 u2a u2b u3 u4 u5 u6 hb hkl hk htb hiw⟩
  have HU : Bx (∀ X, Below w.heap.size w X → X.cell? ⟨ub, 0, none⟩ = some (.slice pa 0 pc)) := ⟨fun X hb => by rw [← hpv]; exact cell_blk (below_heap hb u1) rfl⟩
  have HBW : Bx (B ≤ w.heap.size) := ⟨by omega⟩
  have HL : Bx (∀ w1 lb cap, IK w1 (some ⟨lb, 0, none⟩) cap (x :: 1 :: ([] : List Int)) → (w1.cell? ⟨lb, 0, none⟩ = some (.int .i64 x) ∧ w1.cell? ⟨lb, 1, none⟩ = some (.int .i64 1)) ∧ lb < w1.heap.size ∧ m ≤ cap) := ⟨fun w1 lb cap hi => by
    obtain ⟨b', o', LC, fz, hbo, hl, hcs⟩ := hi.at_ (by simp)
    injection hbo with hbo
    injection hbo with hb1 hb2
    subst hb1 hb2
    have hc := hi.cap
    simp only [List.length_cons] at hc
    exact ⟨⟨hcs 0 (by simp), hcs 1 (by simp)⟩, (Array.getElem?_eq_some_iff.1 hl).1, by omega⟩⟩
  generalize u.types.length = n at *
  have v0 : (0 : Int) < (m : Int) := by omega
  have v1 : (1 : Int) < (m : Int) := by omega
  have v2 : ¬ (m : Int) < 2 := by omega
  have v3 : 0 < m := by omega
  have v4 : 1 < m := by omega
  have v6 : ¬ (2 : Int) < (m : Int) := by simp at hm; omega
  
  
  generalize { u with types := u.types ++ [⟨x, ([] : List Int), true⟩] : CUn } = U' at *
  clear hu h00 u1 u2 u2a u2b u3 u4 u5 u6  hpv
  clear hm
  unfold typeW at HS
  go_enter Tryd.func51, Tryd.ntmps51
  go_wp2_with (first
    | (go_at_call 67; refine HS.mono ?_; clear HS; rintro e w1 ⟨lb, cap, rfl, HX⟩
       obtain ⟨hHL, hlb, hcap⟩ := HL.out w1 lb cap HX.out.1
       obtain ⟨l0, l1⟩ := hHL
       have hHL : w1.cell? ⟨lb, 0, none⟩ = some (.int .i64 x) ∧ w1.cell? ⟨lb, 1, none⟩ = some (.int .i64 1) := ⟨l0, l1⟩
       have g0 := HU.out w1 HX.out.2.2
       have hz : w.heap.size ≤ w1.heap.size := HX.out.2.2.size
       have hub1 : ub < w1.heap.size := (by omega)
       have HZ0 : (w1.drew.alloc (.cells #[.int .i64 0, .slice none 0 0, .bool false] 54)).cell? ⟨lb, 0, none⟩ = some (.int .i64 x) := (by rw [(below1 w1.drew _).cell (p := ⟨lb, 0, none⟩) hlb]; exact l0)
       have HZ1 : (w1.drew.alloc (.cells #[.int .i64 0, .slice none 0 0, .bool false] 54)).cell? ⟨lb, 1, none⟩ = some (.int .i64 1) := (by rw [(below1 w1.drew _).cell (p := ⟨lb, 1, none⟩) hlb]; exact l1)
       have HZ2 : ((w1.alloc (.cells #[.int .i64 x, .slice none 0 0, .bool true] 54)).drew).cell? ⟨lb, 0, none⟩ = some (.int .i64 x) := (by rw [((below1 w1 _).drew).cell (p := ⟨lb, 0, none⟩) hlb]; exact l0)
       have HZ3 : ((w1.alloc (.cells #[.int .i64 x, .slice none 0 0, .bool true] 54)).drew).cell? ⟨lb, 1, none⟩ = some (.int .i64 1) := (by rw [((below1 w1 _).drew).cell (p := ⟨lb, 1, none⟩) hlb]; exact l1)))
  refine wp_region_held_drew (S := (fun w' : World => (w'.cell? ⟨lb, 0, none⟩ = some (.int .i64 x) ∧ w'.cell? ⟨lb, 1, none⟩ = some (.int .i64 1)))) (by kernel_rfl) hHL (fun hHeld => ?_)
  try simp only [List.size_toArray, List.length_cons, List.length_nil]
  refine wpAnyH_take (i := 0) (v := ?_) rfl (by decide +kernel) (by decide +kernel) (by decide +kernel) (fun _ _ _ h => h) (Or.inl ⟨by rfl, ?_⟩) (by assumption) ?_
  case refine_2 => intro w hSw; obtain ⟨s0, s1⟩ := hSw; go_simp; try rfl
  try simp only [Act.put, List.setIfInBounds_toArray, List.set_cons_zero, List.set_cons_succ]
  refine wpAnyH_take (i := 1) (v := ?_) rfl (by decide +kernel) (by decide +kernel) (by decide +kernel) (fun _ _ _ h => h) (Or.inl ⟨by rfl, ?_⟩) (by assumption) ?_
  case refine_2 => intro w hSw; obtain ⟨s0, s1⟩ := hSw; go_simp; try rfl
  try simp only [Act.put, List.setIfInBounds_toArray, List.set_cons_zero, List.set_cons_succ]
  refine wpAnyH_take (i := 2) (v := ?_) rfl (by decide +kernel) (by decide +kernel) (by decide +kernel) (fun _ _ _ h => h) (Or.inl ⟨by rfl, ?_⟩) (by assumption) ?_
  case refine_2 => intro w hSw; obtain ⟨s0, s1⟩ := hSw; go_simp; try rfl
  try simp only [Act.put, List.setIfInBounds_toArray, List.set_cons_zero, List.set_cons_succ]
  refine wpAnyH_take (i := 3) (v := ?_) rfl (by decide +kernel) (by decide +kernel) (by decide +kernel) (fun _ _ _ h => h) (Or.inl ⟨by rfl, ?_⟩) (by assumption) ?_
  case refine_2 => intro w hSw; obtain ⟨s0, s1⟩ := hSw; go_simp; try rfl
  try simp only [Act.put, List.setIfInBounds_toArray, List.set_cons_zero, List.set_cons_succ]
  refine wpAnyH_take (i := 4) (v := ?_) rfl (by decide +kernel) (by decide +kernel) (by decide +kernel) (fun _ _ _ h => h) (Or.inl ⟨by rfl, ?_⟩) (by assumption) ?_
  case refine_2 => intro w hSw; obtain ⟨s0, s1⟩ := hSw; go_simp; try rfl
  try simp only [Act.put, List.setIfInBounds_toArray, List.set_cons_zero, List.set_cons_succ]
  refine wpAnyH_take (i := 5) (v := ?_) rfl (by decide +kernel) (by decide +kernel) (by decide +kernel) (fun _ _ _ h => h) (Or.inl ⟨by rfl, ?_⟩) (by assumption) ?_
  case refine_2 => intro w hSw; obtain ⟨s0, s1⟩ := hSw; go_simp; try rfl
  try simp only [Act.put, List.setIfInBounds_toArray, List.set_cons_zero, List.set_cons_succ]
  refine wpAnyH_take (i := 6) (v := ?_) rfl (by decide +kernel) (by decide +kernel) (by decide +kernel) (fun _ _ _ h => h) (Or.inl ⟨by rfl, ?_⟩) (by assumption) ?_
  case refine_2 => intro w hSw; obtain ⟨s0, s1⟩ := hSw; go_simp; try rfl
  try simp only [Act.put, List.setIfInBounds_toArray, List.set_cons_zero, List.set_cons_succ]
  refine wpAnyH_take (i := 7) (v := ?_) rfl (by decide +kernel) (by decide +kernel) (by decide +kernel) (fun _ _ _ h => h) (Or.inl ⟨by rfl, ?_⟩) (by assumption) ?_
  case refine_2 => intro w hSw; obtain ⟨s0, s1⟩ := hSw; go_simp; try rfl
  try simp only [Act.put, List.setIfInBounds_toArray, List.set_cons_zero, List.set_cons_succ]
  refine wpAnyH_ready (rs := [8]) (by decide +kernel) (by simp) ?_
  refine AllReadyH.cons rfl (fun K hK => ?_) AllReadyH.nil
  go_simp
  refine hK.out _ _ ⟨HZ0, HZ1⟩ (fun hHeld => ?_)
  clear hK K
  refine wpAnyH_ready (rs := [9]) (by decide +kernel) (by simp) ?_
  refine AllReadyH.cons rfl (fun K hK => ?_) AllReadyH.nil
  go_simp
  refine hK.out _ _ ⟨HZ2, HZ3⟩ (fun hHeld => ?_)
  clear hK K
  refine wpAnyH_done (by decide +kernel) ?_ _
  clear hHeld hHL HZ0 HZ1 HZ2 HZ3 l0 l1
  obtain ⟨tb, htb⟩ : ∃ tb, w1.heap.size = tb := ⟨_, rfl⟩
  obtain ⟨X0, hX0⟩ : ∃ X, (w1.alloc (.cells #[.int .i64 x, .slice none 0 0, .bool true] 54)).drew = X := ⟨_, rfl⟩
  have bX : Below w1.heap.size w1 X0 := by rw [← hX0]; exact (below1 w1 _).drew
  have iX : X0.heap[tb]? = some (.cells #[.int .i64 x, .slice none 0 0, .bool true] 54 (0, 0)) := by rw [← hX0]; exact heap_newH w1 _ tb htb
  have bW : Below w.heap.size w X0 := HX.out.2.2.trans (bX.mono hz)
  rw [hX0, htb]
  have hwt : w.heap.size ≤ tb := by omega
  have hne : tb ≠ ub := by omega
  have HM1 : Bx _ := ⟨HM.out X0 tb none 0 0 rfl bW ⟨IK.nil _ _ _, fun h => absurd h (by simp)⟩ iX hwt⟩
  generalize X0 = X at *
  clear bX iX bW HM HX g0 hX0
  have c1 : X.cell? ⟨ub, 1, none⟩ = some tv := HM1.out.cu
  have c2 : ((X.alloc (.cells #[.int .i64 x, .slice none 0 0, .bool true] 54)).drew).cell? ⟨ub, 1, none⟩ = some tv := HM1.out.cA
  have hHS : (X.cell? ⟨tb, 0, none⟩ = some (.int .i64 x) ∧ X.cell? ⟨tb, 1, none⟩ = some (.slice none 0 0) ∧ X.cell? ⟨tb, 2, none⟩ = some (.bool true)) := HM1.out.si
  have hSA : (((X.alloc (.cells #[.int .i64 x, .slice none 0 0, .bool true] 54)).drew).cell? ⟨tb, 0, none⟩ = some (.int .i64 x) ∧ ((X.alloc (.cells #[.int .i64 x, .slice none 0 0, .bool true] 54)).drew).cell? ⟨tb, 1, none⟩ = some (.slice none 0 0) ∧ ((X.alloc (.cells #[.int .i64 x, .slice none 0 0, .bool true] 54)).drew).cell? ⟨tb, 2, none⟩ = some (.bool true)) := HM1.out.sa
  have hgX := HM1.out.lu
  have hiX := HM1.out.lt
  go_wp2
  refine wp_region_held_drew (S := (fun w' : World => (w'.cell? ⟨tb, 0, none⟩ = some (.int .i64 x) ∧ w'.cell? ⟨tb, 1, none⟩ = some (.slice none 0 0) ∧ w'.cell? ⟨tb, 2, none⟩ = some (.bool true)))) (by kernel_rfl) hHS (fun hHeld => ?_)
  try simp only [List.size_toArray, List.length_cons, List.length_nil]
  refine wpAnyH_take (i := 0) (v := ?_) rfl (by decide +kernel) (by decide +kernel) (by decide +kernel) (fun _ _ _ h => h) (Or.inl ⟨by rfl, ?_⟩) (by assumption) ?_
  case refine_2 => intro w hSw; obtain ⟨s0, s1, s2⟩ := hSw; go_simp; try rfl
  try simp only [Act.put, List.setIfInBounds_toArray, List.set_cons_zero, List.set_cons_succ]
  refine wpAnyH_take (i := 1) (v := ?_) rfl (by decide +kernel) (by decide +kernel) (by decide +kernel) (fun _ _ _ h => h) (Or.inl ⟨by rfl, ?_⟩) (by assumption) ?_
  case refine_2 => intro w hSw; obtain ⟨s0, s1, s2⟩ := hSw; go_simp; try rfl
  try simp only [Act.put, List.setIfInBounds_toArray, List.set_cons_zero, List.set_cons_succ]
  refine wpAnyH_take (i := 2) (v := ?_) rfl (by decide +kernel) (by decide +kernel) (by decide +kernel) (fun _ _ _ h => h) (Or.inl ⟨by rfl, ?_⟩) (by assumption) ?_
  case refine_2 => intro w hSw; obtain ⟨s0, s1, s2⟩ := hSw; go_simp; try rfl
  try simp only [Act.put, List.setIfInBounds_toArray, List.set_cons_zero, List.set_cons_succ]
  refine wpAnyH_take (i := 3) (v := ?_) rfl (by decide +kernel) (by decide +kernel) (by decide +kernel) (fun _ _ _ h => h) (Or.inl ⟨by rfl, ?_⟩) (by assumption) ?_
  case refine_2 => intro w hSw; obtain ⟨s0, s1, s2⟩ := hSw; go_simp; try rfl
  try simp only [Act.put, List.setIfInBounds_toArray, List.set_cons_zero, List.set_cons_succ]
  refine wpAnyH_take (i := 5) (v := ?_) rfl (by decide +kernel) (by decide +kernel) (by decide +kernel) (fun _ _ _ h => h) (Or.inl ⟨by rfl, ?_⟩) (by assumption) ?_
  case refine_2 => intro w hSw; obtain ⟨s0, s1, s2⟩ := hSw; go_simp; try rfl
  try simp only [Act.put, List.setIfInBounds_toArray, List.set_cons_zero, List.set_cons_succ]
  refine wpAnyH_ready (rs := [4, 6]) (by decide +kernel) (by simp) ?_
  refine AllReadyH.cons rfl (fun K hK => ?_) (AllReadyH.cons rfl (fun K hK => ?_) AllReadyH.nil)
  · go_simp
    refine hK.out _ _ hHeld (fun hHeld => ?_)
    clear hK K
    try simp only [Act.put, List.setIfInBounds_toArray, List.set_cons_zero, List.set_cons_succ]
    refine wpAnyH_ready (rs := [6]) (by decide +kernel) (by simp) ?_
    refine AllReadyH.cons rfl (fun K hK => ?_) AllReadyH.nil
    go_simp
    refine hK.out _ _ hSA (fun hHeld => ?_)
    clear hK K
    try simp only [Act.put, List.setIfInBounds_toArray, List.set_cons_zero, List.set_cons_succ]
    refine wpAnyH_ready (rs := [7]) (by decide +kernel) (by simp) ?_
    refine AllReadyH.cons rfl (fun K hK => ?_) AllReadyH.nil
    refine step_append_lies _ rfl (.tmp 62) (.tmp 64) 34 rfl B 54 j0 (.agg #[.int .i64 0, .slice none 0 0, .bool false]) 3 40 Tryd.underlying34 ji jz0 jz1 jz2 rfl (by decide) tv n tcs.flatten (by simp [Act.eval, Act.put]) HM1.out.how ⟨X.heap.size, 0, none⟩ 1 1 [.int .i64 x, .slice none 0 0, .bool true] (by simp [Act.eval, Act.put]) rfl (ty_newsD _ _ rfl _ _ _) (ty_oneR _ _ _ _ _) (by decide) (by unfold maxLen; omega) (by omega) (by simp; have := HM1.out.lb; omega) (X.heap.size + 1) (by simp) ?_
    intro gg cg w8 hown hgrow hat hlt8
    have h8 := HM1.out.end_ w8 hgrow
    obtain ⟨e0, e1, e2⟩ := h8.1
    obtain ⟨e6, e7, e4, hg8⟩ := h8.2.1
    have HFI : Bx _ := ⟨h8.2.2 gg cg hown⟩
    clear h8
    refine hK.out _ _ ⟨e0, e1, e2⟩ (fun hHeld => ?_)
    clear hK K
    try simp only [Act.put, List.setIfInBounds_toArray, List.set_cons_zero, List.set_cons_succ]
    refine wpAnyH_take (i := 8) (v := ?_) rfl (by decide +kernel) (by decide +kernel) (by decide +kernel) (fun _ _ _ h => h) (Or.inl ⟨by rfl, ?_⟩) (by assumption) ?_
    case refine_2 => intro w hSw; obtain ⟨s0, s1, s2⟩ := hSw; go_simp; try rfl
    try simp only [Act.put, List.setIfInBounds_toArray, List.set_cons_zero, List.set_cons_succ]
    refine wpAnyH_take (i := 9) (v := ?_) rfl (by decide +kernel) (by decide +kernel) (by decide +kernel) (fun _ _ _ h => h) (Or.inl ⟨by rfl, ?_⟩) (by assumption) ?_
    case refine_2 => intro w hSw; obtain ⟨s0, s1, s2⟩ := hSw; go_simp; try rfl
    try simp only [Act.put, List.setIfInBounds_toArray, List.set_cons_zero, List.set_cons_succ]
    refine wpAnyH_ready (rs := [10]) (by decide +kernel) (by simp) ?_
    refine AllReadyH.cons rfl (fun K hK => ?_) AllReadyH.nil
    go_simp
    refine hK.out _ _ (far3 hne e0 e1 e2) (fun hHeld => ?_)
    clear hK K
    refine wpAnyH_done (by decide +kernel) ?_ _
    have HB8 : Bx _ := ⟨e6⟩
    clear e0 e1 e2 e4 e6 e7 hown hgrow hat hHeld
    go_wp2
    go_ret
    exact ⟨rfl, ⟨HB8.out.setCell (p := ⟨ub, 1, none⟩) hBu _, HFI.out⟩⟩
  · go_simp
    refine hK.out _ _ hSA (fun hHeld => ?_)
    clear hK K
    try simp only [Act.put, List.setIfInBounds_toArray, List.set_cons_zero, List.set_cons_succ]
    refine wpAnyH_ready (rs := [4]) (by decide +kernel) (by simp) ?_
    refine AllReadyH.cons rfl (fun K hK => ?_) AllReadyH.nil
    go_simp
    refine hK.out _ _ hHeld (fun hHeld => ?_)
    clear hK K
    try simp only [Act.put, List.setIfInBounds_toArray, List.set_cons_zero, List.set_cons_succ]
    refine wpAnyH_ready (rs := [7]) (by decide +kernel) (by simp) ?_
    refine AllReadyH.cons rfl (fun K hK => ?_) AllReadyH.nil
    refine step_append_lies _ rfl (.tmp 62) (.tmp 64) 34 rfl B 54 j0 (.agg #[.int .i64 0, .slice none 0 0, .bool false]) 3 40 Tryd.underlying34 ji jz0 jz1 jz2 rfl (by decide) tv n tcs.flatten (by simp [Act.eval, Act.put]) HM1.out.how ⟨X.heap.size, 0, none⟩ 1 1 [.int .i64 x, .slice none 0 0, .bool true] (by simp [Act.eval, Act.put]) rfl (ty_newsD _ _ rfl _ _ _) (ty_oneR _ _ _ _ _) (by decide) (by unfold maxLen; omega) (by omega) (by simp; have := HM1.out.lb; omega) (X.heap.size + 1) (by simp) ?_
    intro gg cg w8 hown hgrow hat hlt8
    have h8 := HM1.out.end_ w8 hgrow
    obtain ⟨e0, e1, e2⟩ := h8.1
    obtain ⟨e6, e7, e4, hg8⟩ := h8.2.1
    have HFI : Bx _ := ⟨h8.2.2 gg cg hown⟩
    clear h8
    refine hK.out _ _ ⟨e0, e1, e2⟩ (fun hHeld => ?_)
    clear hK K
    try simp only [Act.put, List.setIfInBounds_toArray, List.set_cons_zero, List.set_cons_succ]
    refine wpAnyH_take (i := 8) (v := ?_) rfl (by decide +kernel) (by decide +kernel) (by decide +kernel) (fun _ _ _ h => h) (Or.inl ⟨by rfl, ?_⟩) (by assumption) ?_
    case refine_2 => intro w hSw; obtain ⟨s0, s1, s2⟩ := hSw; go_simp; try rfl
    try simp only [Act.put, List.setIfInBounds_toArray, List.set_cons_zero, List.set_cons_succ]
    refine wpAnyH_take (i := 9) (v := ?_) rfl (by decide +kernel) (by decide +kernel) (by decide +kernel) (fun _ _ _ h => h) (Or.inl ⟨by rfl, ?_⟩) (by assumption) ?_
    case refine_2 => intro w hSw; obtain ⟨s0, s1, s2⟩ := hSw; go_simp; try rfl
    try simp only [Act.put, List.setIfInBounds_toArray, List.set_cons_zero, List.set_cons_succ]
    refine wpAnyH_ready (rs := [10]) (by decide +kernel) (by simp) ?_
    refine AllReadyH.cons rfl (fun K hK => ?_) AllReadyH.nil
    go_simp
    refine hK.out _ _ (far3 hne e0 e1 e2) (fun hHeld => ?_)
    clear hK K
    refine wpAnyH_done (by decide +kernel) ?_ _
    have HB8 : Bx _ := ⟨e6⟩
    clear e0 e1 e2 e4 e6 e7 hown hgrow hat hHeld
    go_wp2
    go_ret
    exact ⟨rfl, ⟨HB8.out.setCell (p := ⟨ub, 1, none⟩) hBu _, HFI.out⟩⟩
set_option maxRecDepth 100000 in
set_option maxHeartbeats 8000000 in
theorem radds_t1n (w : World) (B ub : Nat) (u : CUn) (hu : UR w B ub u) (h00 : u.progs = []) (x : Int) (kd : List Int) (hkd : 0 < kd.length) (hBu : B ≤ ub) (hnn : u.types.length ≤ 1099511627776) (hkl : kd.length ≤ 1099511627776) (m : Nat) (hm : m = kd.length + 2) (line : List UInt8)
    (HS : Calls Tryd.prog 67 #[strV line] w fun e w' => ∃ lb cap, e = .returned (.tuple #[strV typeW, .slice (some ⟨lb, 0, none⟩) m cap, .bool true]) ∧ Bx (IK w' (some ⟨lb, 0, none⟩) cap (x :: 1 :: kd) ∧ w.heap.size ≤ lb ∧ Below w.heap.size w w')) :
    Calls Tryd.prog 51 #[.pointer (some ⟨ub, 0, none⟩), strV line] w fun e w' => e = .returned (.bool true) ∧ Bx (Below B w w' ∧ UR w' B ub { u with types := u.types ++ [⟨x, kd, true⟩] }) := by
  obtain ⟨j0, ji, jz0, jz1, jz2⟩ := info_parts infoTy
  obtain ⟨pv, tv, pcs, cut, u1, u2, u3, u4, u5, u6⟩ := hu.ex
  obtain ⟨tcs, u2a, u2b⟩ := u2.ex
  have hub : ub < w.heap.size := (Array.getElem?_eq_some_iff.1 u1).1
  have hpv : ∃ pa pc, pv = .slice pa 0 pc := by
    rw [h00] at u3
    rcases u3.2 with ⟨h, _⟩ | ⟨g, c, cur, h, _⟩
    · exact ⟨_, _, h⟩
    · exact ⟨_, _, h⟩
  obtain ⟨pa, pc, hpv⟩ := hpv
  have HM : Bx (∀ X tb ka kl kc, kl = kd.length → Below w.heap.size w X → IL B X ka kc kd → X.heap[tb]? = some (.cells #[.int .i64 x, .slice ka kl kc, .bool true] 54 (0, 0)) → w.heap.size ≤ tb → TyMem w X B ub tb u.types.length tv x kd true ka kl kc tcs { u with types := u.types ++ [⟨x, kd, true⟩] }) := ⟨fun X tb ka kl kc hkl hb hk htb hiw => tyMem_of u1 u2a u2b u3 u4 u5 u6 hb hkl hk htb hiw⟩
  have HU : Bx (∀ X, Below w.heap.size w X → X.cell? ⟨ub, 0, none⟩ = some (.slice pa 0 pc)) := ⟨fun X hb => by rw [← hpv]; exact cell_blk (below_heap hb u1) rfl⟩
  have HBW : Bx (B ≤ w.heap.size) := ⟨by omega⟩
  have HL : Bx (∀ w1 lb cap, IK w1 (some ⟨lb, 0, none⟩) cap (x :: 1 :: kd) → (w1.cell? ⟨lb, 0, none⟩ = some (.int .i64 x) ∧ w1.cell? ⟨lb, 1, none⟩ = some (.int .i64 1)) ∧ lb < w1.heap.size ∧ m ≤ cap) := ⟨fun w1 lb cap hi => by
    obtain ⟨b', o', LC, fz, hbo, hl, hcs⟩ := hi.at_ (by simp)
    injection hbo with hbo
    injection hbo with hb1 hb2
    subst hb1 hb2
    have hc := hi.cap
    simp only [List.length_cons] at hc
    exact ⟨⟨hcs 0 (by simp), hcs 1 (by simp)⟩, (Array.getElem?_eq_some_iff.1 hl).1, by omega⟩⟩
  generalize u.types.length = n at *
  have v0 : (0 : Int) < (m : Int) := by omega
  have v1 : (1 : Int) < (m : Int) := by omega
  have v2 : ¬ (m : Int) < 2 := by omega
  have v3 : 0 < m := by omega
  have v4 : 1 < m := by omega
  have v6 : (2 : Int) < (m : Int) := by omega
  have v7 : (2 : Int) ≤ (m : Int) := by omega
  have v8 : Bx (m - 2 = kd.length) := ⟨by omega⟩
  generalize { u with types := u.types ++ [⟨x, kd, true⟩] : CUn } = U' at *
  clear hu h00 u1 u2 u2a u2b u3 u4 u5 u6 hkd hpv
  clear hm
  unfold typeW at HS
  go_enter Tryd.func51, Tryd.ntmps51
  go_wp2_with (first
    | (go_at_call 67; refine HS.mono ?_; clear HS; rintro e w1 ⟨lb, cap, rfl, HX⟩
       obtain ⟨hHL, hlb, hcap⟩ := HL.out w1 lb cap HX.out.1
       obtain ⟨l0, l1⟩ := hHL
       have hHL : w1.cell? ⟨lb, 0, none⟩ = some (.int .i64 x) ∧ w1.cell? ⟨lb, 1, none⟩ = some (.int .i64 1) := ⟨l0, l1⟩
       have g0 := HU.out w1 HX.out.2.2
       have hz : w.heap.size ≤ w1.heap.size := HX.out.2.2.size
       have hub1 : ub < w1.heap.size := (by omega)
       have HZ0 : (w1.drew.alloc (.cells #[.int .i64 0, .slice none 0 0, .bool false] 54)).cell? ⟨lb, 0, none⟩ = some (.int .i64 x) := (by rw [(below1 w1.drew _).cell (p := ⟨lb, 0, none⟩) hlb]; exact l0)
       have HZ1 : (w1.drew.alloc (.cells #[.int .i64 0, .slice none 0 0, .bool false] 54)).cell? ⟨lb, 1, none⟩ = some (.int .i64 1) := (by rw [(below1 w1.drew _).cell (p := ⟨lb, 1, none⟩) hlb]; exact l1)
       have HZ2 : ((w1.alloc (.cells #[.int .i64 x, .slice none 0 0, .bool true] 54)).drew).cell? ⟨lb, 0, none⟩ = some (.int .i64 x) := (by rw [((below1 w1 _).drew).cell (p := ⟨lb, 0, none⟩) hlb]; exact l0)
       have HZ3 : ((w1.alloc (.cells #[.int .i64 x, .slice none 0 0, .bool true] 54)).drew).cell? ⟨lb, 1, none⟩ = some (.int .i64 1) := (by rw [((below1 w1 _).drew).cell (p := ⟨lb, 1, none⟩) hlb]; exact l1)))
  refine wp_region_held_drew (S := (fun w' : World => (w'.cell? ⟨lb, 0, none⟩ = some (.int .i64 x) ∧ w'.cell? ⟨lb, 1, none⟩ = some (.int .i64 1)))) (by kernel_rfl) hHL (fun hHeld => ?_)
  try simp only [List.size_toArray, List.length_cons, List.length_nil]
  refine wpAnyH_take (i := 0) (v := ?_) rfl (by decide +kernel) (by decide +kernel) (by decide +kernel) (fun _ _ _ h => h) (Or.inl ⟨by rfl, ?_⟩) (by assumption) ?_
  case refine_2 => intro w hSw; obtain ⟨s0, s1⟩ := hSw; go_simp; try rfl
  try simp only [Act.put, List.setIfInBounds_toArray, List.set_cons_zero, List.set_cons_succ]
  refine wpAnyH_take (i := 1) (v := ?_) rfl (by decide +kernel) (by decide +kernel) (by decide +kernel) (fun _ _ _ h => h) (Or.inl ⟨by rfl, ?_⟩) (by assumption) ?_
  case refine_2 => intro w hSw; obtain ⟨s0, s1⟩ := hSw; go_simp; try rfl
  try simp only [Act.put, List.setIfInBounds_toArray, List.set_cons_zero, List.set_cons_succ]
  refine wpAnyH_take (i := 2) (v := ?_) rfl (by decide +kernel) (by decide +kernel) (by decide +kernel) (fun _ _ _ h => h) (Or.inl ⟨by rfl, ?_⟩) (by assumption) ?_
  case refine_2 => intro w hSw; obtain ⟨s0, s1⟩ := hSw; go_simp; try rfl
  try simp only [Act.put, List.setIfInBounds_toArray, List.set_cons_zero, List.set_cons_succ]
  refine wpAnyH_take (i := 3) (v := ?_) rfl (by decide +kernel) (by decide +kernel) (by decide +kernel) (fun _ _ _ h => h) (Or.inl ⟨by rfl, ?_⟩) (by assumption) ?_
  case refine_2 => intro w hSw; obtain ⟨s0, s1⟩ := hSw; go_simp; try rfl
  try simp only [Act.put, List.setIfInBounds_toArray, List.set_cons_zero, List.set_cons_succ]
  refine wpAnyH_take (i := 4) (v := ?_) rfl (by decide +kernel) (by decide +kernel) (by decide +kernel) (fun _ _ _ h => h) (Or.inl ⟨by rfl, ?_⟩) (by assumption) ?_
  case refine_2 => intro w hSw; obtain ⟨s0, s1⟩ := hSw; go_simp; try rfl
  try simp only [Act.put, List.setIfInBounds_toArray, List.set_cons_zero, List.set_cons_succ]
  refine wpAnyH_take (i := 5) (v := ?_) rfl (by decide +kernel) (by decide +kernel) (by decide +kernel) (fun _ _ _ h => h) (Or.inl ⟨by rfl, ?_⟩) (by assumption) ?_
  case refine_2 => intro w hSw; obtain ⟨s0, s1⟩ := hSw; go_simp; try rfl
  try simp only [Act.put, List.setIfInBounds_toArray, List.set_cons_zero, List.set_cons_succ]
  refine wpAnyH_take (i := 6) (v := ?_) rfl (by decide +kernel) (by decide +kernel) (by decide +kernel) (fun _ _ _ h => h) (Or.inl ⟨by rfl, ?_⟩) (by assumption) ?_
  case refine_2 => intro w hSw; obtain ⟨s0, s1⟩ := hSw; go_simp; try rfl
  try simp only [Act.put, List.setIfInBounds_toArray, List.set_cons_zero, List.set_cons_succ]
  refine wpAnyH_take (i := 7) (v := ?_) rfl (by decide +kernel) (by decide +kernel) (by decide +kernel) (fun _ _ _ h => h) (Or.inl ⟨by rfl, ?_⟩) (by assumption) ?_
  case refine_2 => intro w hSw; obtain ⟨s0, s1⟩ := hSw; go_simp; try rfl
  try simp only [Act.put, List.setIfInBounds_toArray, List.set_cons_zero, List.set_cons_succ]
  refine wpAnyH_ready (rs := [8]) (by decide +kernel) (by simp) ?_
  refine AllReadyH.cons rfl (fun K hK => ?_) AllReadyH.nil
  go_simp
  refine hK.out _ _ ⟨HZ0, HZ1⟩ (fun hHeld => ?_)
  clear hK K
  refine wpAnyH_ready (rs := [9]) (by decide +kernel) (by simp) ?_
  refine AllReadyH.cons rfl (fun K hK => ?_) AllReadyH.nil
  go_simp
  refine hK.out _ _ ⟨HZ2, HZ3⟩ (fun hHeld => ?_)
  clear hK K
  refine wpAnyH_done (by decide +kernel) ?_ _
  clear hHeld hHL HZ0 HZ1 HZ2 HZ3 l0 l1
  obtain ⟨tb, htb⟩ : ∃ tb, w1.heap.size = tb := ⟨_, rfl⟩
  obtain ⟨X0, hX0⟩ : ∃ X, (w1.alloc (.cells #[.int .i64 x, .slice none 0 0, .bool true] 54)).drew = X := ⟨_, rfl⟩
  have bX : Below w1.heap.size w1 X0 := by rw [← hX0]; exact (below1 w1 _).drew
  have iX : X0.heap[tb]? = some (.cells #[.int .i64 x, .slice none 0 0, .bool true] 54 (0, 0)) := by rw [← hX0]; exact heap_newH w1 _ tb htb
  have bW : Below w.heap.size w X0 := HX.out.2.2.trans (bX.mono hz)
  rw [hX0, htb]
  have hwt : w.heap.size ≤ tb := by omega
  have hne : tb ≠ ub := by omega
  have c1 : X0.cell? ⟨tb, 1, none⟩ = some (.slice none 0 0) := cell_blk iX rfl
  have f1 : X0.frozen? ⟨tb, 1, none⟩ = false := by simp [World.frozen?, iX]
  have ht0 : tb < X0.heap.size := (Array.getElem?_eq_some_iff.1 iX).1
  obtain ⟨X, hX⟩ : ∃ X, X0.setCell ⟨tb, 1, none⟩ (.slice (some ⟨lb, 2, none⟩) (m - 2) (cap - 2)) = X := ⟨_, rfl⟩
  have iX2 : X.heap[tb]? = some (.cells #[.int .i64 x, .slice (some ⟨lb, 2, none⟩) (m - 2) (cap - 2), .bool true] 54 (0, 0)) := by
    rw [← hX, heap_setCell_same X0 tb 1 _ _ _ iX]
    rfl
  have bW2 : Below w.heap.size w X := by rw [← hX]; exact bW.setCell (p := ⟨tb, 1, none⟩) hwt _
  have kX : IL B X (some ⟨lb, 2, none⟩) (cap - 2) kd := by
    refine (ok_IL B).on (w := X0) ((ok_IL B).on (w := w1) ⟨?_, fun _ => ⟨lb, 2, rfl, Nat.le_trans HBW.out HX.out.2.1⟩⟩ (KI.of bX)) (by rw [← hX]; exact KI.set iX (by decide))
    have := HX.out.1.drp (f := 2) (by have := v8.out; simp; omega)
    simpa using this
  have HM1 : Bx _ := ⟨HM.out X tb (some ⟨lb, 2, none⟩) (m - 2) (cap - 2) v8.out bW2 kX iX2 hwt⟩
  clear kX iX2 bW2
  clear bX iX bW HM HX g0 hX0
  go_wp2
  try rw [hX]
  clear hX c1 f1 ht0
  have c1 : X.cell? ⟨ub, 1, none⟩ = some tv := HM1.out.cu
  have c2 : ((X.alloc (.cells #[.int .i64 x, .slice (some ⟨lb, 2, none⟩) (m - 2) (cap - 2), .bool true] 54)).drew).cell? ⟨ub, 1, none⟩ = some tv := HM1.out.cA
  have hHS : (X.cell? ⟨tb, 0, none⟩ = some (.int .i64 x) ∧ X.cell? ⟨tb, 1, none⟩ = some (.slice (some ⟨lb, 2, none⟩) (m - 2) (cap - 2)) ∧ X.cell? ⟨tb, 2, none⟩ = some (.bool true)) := HM1.out.si
  have hSA : (((X.alloc (.cells #[.int .i64 x, .slice (some ⟨lb, 2, none⟩) (m - 2) (cap - 2), .bool true] 54)).drew).cell? ⟨tb, 0, none⟩ = some (.int .i64 x) ∧ ((X.alloc (.cells #[.int .i64 x, .slice (some ⟨lb, 2, none⟩) (m - 2) (cap - 2), .bool true] 54)).drew).cell? ⟨tb, 1, none⟩ = some (.slice (some ⟨lb, 2, none⟩) (m - 2) (cap - 2)) ∧ ((X.alloc (.cells #[.int .i64 x, .slice (some ⟨lb, 2, none⟩) (m - 2) (cap - 2), .bool true] 54)).drew).cell? ⟨tb, 2, none⟩ = some (.bool true)) := HM1.out.sa
  have hgX := HM1.out.lu
  have hiX := HM1.out.lt
  refine wp_region_held_drew (S := (fun w' : World => (w'.cell? ⟨tb, 0, none⟩ = some (.int .i64 x) ∧ w'.cell? ⟨tb, 1, none⟩ = some (.slice (some ⟨lb, 2, none⟩) (m - 2) (cap - 2)) ∧ w'.cell? ⟨tb, 2, none⟩ = some (.bool true)))) (by kernel_rfl) hHS (fun hHeld => ?_)
  try simp only [List.size_toArray, List.length_cons, List.length_nil]
  refine wpAnyH_take (i := 0) (v := ?_) rfl (by decide +kernel) (by decide +kernel) (by decide +kernel) (fun _ _ _ h => h) (Or.inl ⟨by rfl, ?_⟩) (by assumption) ?_
  case refine_2 => intro w hSw; obtain ⟨s0, s1, s2⟩ := hSw; go_simp; try rfl
  try simp only [Act.put, List.setIfInBounds_toArray, List.set_cons_zero, List.set_cons_succ]
  refine wpAnyH_take (i := 1) (v := ?_) rfl (by decide +kernel) (by decide +kernel) (by decide +kernel) (fun _ _ _ h => h) (Or.inl ⟨by rfl, ?_⟩) (by assumption) ?_
  case refine_2 => intro w hSw; obtain ⟨s0, s1, s2⟩ := hSw; go_simp; try rfl
  try simp only [Act.put, List.setIfInBounds_toArray, List.set_cons_zero, List.set_cons_succ]
  refine wpAnyH_take (i := 2) (v := ?_) rfl (by decide +kernel) (by decide +kernel) (by decide +kernel) (fun _ _ _ h => h) (Or.inl ⟨by rfl, ?_⟩) (by assumption) ?_
  case refine_2 => intro w hSw; obtain ⟨s0, s1, s2⟩ := hSw; go_simp; try rfl
  try simp only [Act.put, List.setIfInBounds_toArray, List.set_cons_zero, List.set_cons_succ]
  refine wpAnyH_take (i := 3) (v := ?_) rfl (by decide +kernel) (by decide +kernel) (by decide +kernel) (fun _ _ _ h => h) (Or.inl ⟨by rfl, ?_⟩) (by assumption) ?_
  case refine_2 => intro w hSw; obtain ⟨s0, s1, s2⟩ := hSw; go_simp; try rfl
  try simp only [Act.put, List.setIfInBounds_toArray, List.set_cons_zero, List.set_cons_succ]
  refine wpAnyH_take (i := 5) (v := ?_) rfl (by decide +kernel) (by decide +kernel) (by decide +kernel) (fun _ _ _ h => h) (Or.inl ⟨by rfl, ?_⟩) (by assumption) ?_
  case refine_2 => intro w hSw; obtain ⟨s0, s1, s2⟩ := hSw; go_simp; try rfl
  try simp only [Act.put, List.setIfInBounds_toArray, List.set_cons_zero, List.set_cons_succ]
  refine wpAnyH_ready (rs := [4, 6]) (by decide +kernel) (by simp) ?_
  refine AllReadyH.cons rfl (fun K hK => ?_) (AllReadyH.cons rfl (fun K hK => ?_) AllReadyH.nil)
  · go_simp
    refine hK.out _ _ hHeld (fun hHeld => ?_)
    clear hK K
    try simp only [Act.put, List.setIfInBounds_toArray, List.set_cons_zero, List.set_cons_succ]
    refine wpAnyH_ready (rs := [6]) (by decide +kernel) (by simp) ?_
    refine AllReadyH.cons rfl (fun K hK => ?_) AllReadyH.nil
    go_simp
    refine hK.out _ _ hSA (fun hHeld => ?_)
    clear hK K
    try simp only [Act.put, List.setIfInBounds_toArray, List.set_cons_zero, List.set_cons_succ]
    refine wpAnyH_ready (rs := [7]) (by decide +kernel) (by simp) ?_
    refine AllReadyH.cons rfl (fun K hK => ?_) AllReadyH.nil
    refine step_append_lies _ rfl (.tmp 62) (.tmp 64) 34 rfl B 54 j0 (.agg #[.int .i64 0, .slice none 0 0, .bool false]) 3 40 Tryd.underlying34 ji jz0 jz1 jz2 rfl (by decide) tv n tcs.flatten (by simp [Act.eval, Act.put]) HM1.out.how ⟨X.heap.size, 0, none⟩ 1 1 [.int .i64 x, .slice (some ⟨lb, 2, none⟩) (m - 2) (cap - 2), .bool true] (by simp [Act.eval, Act.put]) rfl (ty_newsD _ _ rfl _ _ _) (ty_oneR _ _ _ _ _) (by decide) (by unfold maxLen; omega) (by omega) (by simp; have := HM1.out.lb; omega) (X.heap.size + 1) (by simp) ?_
    intro gg cg w8 hown hgrow hat hlt8
    have h8 := HM1.out.end_ w8 hgrow
    obtain ⟨e0, e1, e2⟩ := h8.1
    obtain ⟨e6, e7, e4, hg8⟩ := h8.2.1
    have HFI : Bx _ := ⟨h8.2.2 gg cg hown⟩
    clear h8
    refine hK.out _ _ ⟨e0, e1, e2⟩ (fun hHeld => ?_)
    clear hK K
    try simp only [Act.put, List.setIfInBounds_toArray, List.set_cons_zero, List.set_cons_succ]
    refine wpAnyH_take (i := 8) (v := ?_) rfl (by decide +kernel) (by decide +kernel) (by decide +kernel) (fun _ _ _ h => h) (Or.inl ⟨by rfl, ?_⟩) (by assumption) ?_
    case refine_2 => intro w hSw; obtain ⟨s0, s1, s2⟩ := hSw; go_simp; try rfl
    try simp only [Act.put, List.setIfInBounds_toArray, List.set_cons_zero, List.set_cons_succ]
    refine wpAnyH_take (i := 9) (v := ?_) rfl (by decide +kernel) (by decide +kernel) (by decide +kernel) (fun _ _ _ h => h) (Or.inl ⟨by rfl, ?_⟩) (by assumption) ?_
    case refine_2 => intro w hSw; obtain ⟨s0, s1, s2⟩ := hSw; go_simp; try rfl
    try simp only [Act.put, List.setIfInBounds_toArray, List.set_cons_zero, List.set_cons_succ]
    refine wpAnyH_ready (rs := [10]) (by decide +kernel) (by simp) ?_
    refine AllReadyH.cons rfl (fun K hK => ?_) AllReadyH.nil
    go_simp
    refine hK.out _ _ (far3 hne e0 e1 e2) (fun hHeld => ?_)
    clear hK K
    refine wpAnyH_done (by decide +kernel) ?_ _
    have HB8 : Bx _ := ⟨e6⟩
    clear e0 e1 e2 e4 e6 e7 hown hgrow hat hHeld
    go_wp2
    go_ret
    exact ⟨rfl, ⟨HB8.out.setCell (p := ⟨ub, 1, none⟩) hBu _, HFI.out⟩⟩
  · go_simp
    refine hK.out _ _ hSA (fun hHeld => ?_)
    clear hK K
    try simp only [Act.put, List.setIfInBounds_toArray, List.set_cons_zero, List.set_cons_succ]
    refine wpAnyH_ready (rs := [4]) (by decide +kernel) (by simp) ?_
    refine AllReadyH.cons rfl (fun K hK => ?_) AllReadyH.nil
    go_simp
    refine hK.out _ _ hHeld (fun hHeld => ?_)
    clear hK K
    try simp only [Act.put, List.setIfInBounds_toArray, List.set_cons_zero, List.set_cons_succ]
    refine wpAnyH_ready (rs := [7]) (by decide +kernel) (by simp) ?_
    refine AllReadyH.cons rfl (fun K hK => ?_) AllReadyH.nil
    refine step_append_lies _ rfl (.tmp 62) (.tmp 64) 34 rfl B 54 j0 (.agg #[.int .i64 0, .slice none 0 0, .bool false]) 3 40 Tryd.underlying34 ji jz0 jz1 jz2 rfl (by decide) tv n tcs.flatten (by simp [Act.eval, Act.put]) HM1.out.how ⟨X.heap.size, 0, none⟩ 1 1 [.int .i64 x, .slice (some ⟨lb, 2, none⟩) (m - 2) (cap - 2), .bool true] (by simp [Act.eval, Act.put]) rfl (ty_newsD _ _ rfl _ _ _) (ty_oneR _ _ _ _ _) (by decide) (by unfold maxLen; omega) (by omega) (by simp; have := HM1.out.lb; omega) (X.heap.size + 1) (by simp) ?_
    intro gg cg w8 hown hgrow hat hlt8
    have h8 := HM1.out.end_ w8 hgrow
    obtain ⟨e0, e1, e2⟩ := h8.1
    obtain ⟨e6, e7, e4, hg8⟩ := h8.2.1
    have HFI : Bx _ := ⟨h8.2.2 gg cg hown⟩
    clear h8
    refine hK.out _ _ ⟨e0, e1, e2⟩ (fun hHeld => ?_)
    clear hK K
    try simp only [Act.put, List.setIfInBounds_toArray, List.set_cons_zero, List.set_cons_succ]
    refine wpAnyH_take (i := 8) (v := ?_) rfl (by decide +kernel) (by decide +kernel) (by decide +kernel) (fun _ _ _ h => h) (Or.inl ⟨by rfl, ?_⟩) (by assumption) ?_
    case refine_2 => intro w hSw; obtain ⟨s0, s1, s2⟩ := hSw; go_simp; try rfl
    try simp only [Act.put, List.setIfInBounds_toArray, List.set_cons_zero, List.set_cons_succ]
    refine wpAnyH_take (i := 9) (v := ?_) rfl (by decide +kernel) (by decide +kernel) (by decide +kernel) (fun _ _ _ h => h) (Or.inl ⟨by rfl, ?_⟩) (by assumption) ?_
    case refine_2 => intro w hSw; obtain ⟨s0, s1, s2⟩ := hSw; go_simp; try rfl
    try simp only [Act.put, List.setIfInBounds_toArray, List.set_cons_zero, List.set_cons_succ]
    refine wpAnyH_ready (rs := [10]) (by decide +kernel) (by simp) ?_
    refine AllReadyH.cons rfl (fun K hK => ?_) AllReadyH.nil
    go_simp
    refine hK.out _ _ (far3 hne e0 e1 e2) (fun hHeld => ?_)
    clear hK K
    refine wpAnyH_done (by decide +kernel) ?_ _
    have HB8 : Bx _ := ⟨e6⟩
    clear e0 e1 e2 e4 e6 e7 hown hgrow hat hHeld
    go_wp2
    go_ret
    exact ⟨rfl, ⟨HB8.out.setCell (p := ⟨ub, 1, none⟩) hBu _, HFI.out⟩⟩
end Go.Proofs.YtijdcplffmdijaaDoor
