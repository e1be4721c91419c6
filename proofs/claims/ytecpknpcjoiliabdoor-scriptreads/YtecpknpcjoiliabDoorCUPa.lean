import Derived.Test.YtecpknpcjoiliabDoorCUZ
import Derived.Test.YtecpknpcjoiliabDoorCUG
import Derived.Deep.RegionHeld3
namespace Go.Proofs.YtecpknpcjoiliabDoor
open Go.RowKit
set_option linter.unusedVariables false
set_option linter.unusedSimpArgs false

/-- numbers at the head of a block that is no row of bytes -/
theorem IntsS.head {w : World} {B b cap : Nat} {cs : Array Value} {T : TypeId} {ks : List Int} (hb : w.heap[b]? = some (.cells cs T (0, 0))) (hT : T ≠ 5) (hc : ∀ i (h : i < ks.length), cs[i]? = some (.int .i64 ks[i])) (hm : ks.length ≤ maxLen) (hcap : ks.length ≤ cap) : IntsS w B (some ⟨b, 0, none⟩) cap ks := fun w' hk => by
  have h1 := hk.block hb (fun c fz e => by injection e with _ e; exact hT e)
  refine ⟨hcap, hm, fun _ => ⟨b, 0, rfl, heap_lt h1, fun i hi => ?_⟩⟩
  rw [Nat.zero_add]
  exact cell_blk h1 (hc i hi)
set_option maxRecDepth 100000 in
set_option maxHeartbeats 2000000 in
theorem addPick_no (w : World) (v : Value) (p : Pk) (h : p.kind < 1 ∨ 4 < p.kind) :
    Calls Tryd.prog 28 #[v, .agg #[.int .i64 p.kind, .int .i64 p.n, .int .i64 p.v]] w fun e w' => e = .returned (.tuple #[.slice none 0 0, wrV 0 171]) ∧ Bx (Below w.heap.size w w') := by
  have HSH : Bx (Calls Tryd.prog 33 #[.int .i64 p.kind] (w.alloc (.cells #[.int .i64 p.kind, .int .i64 p.n, .int .i64 p.v] 39)) fun e w' => e = .returned (.tuple #[.agg #[strV [], .int .i64 0], .bool false]) ∧ Bx (∀ o, Below w.heap.size w (w'.alloc o))) := ⟨(shapeOf_no p.kind _ h).mono fun e w' hh => ⟨hh.1, ⟨fun o => ((below1 w _).trans (hh.2.mono (by simp))).alloc (by have := hh.2.size; simp at this; omega) o⟩⟩⟩
  clear h
  go_enter Tryd.func28, Tryd.ntmps28
  go_wp2_with (go_at_call 33; refine HSH.out.mono ?_; rintro e w1 ⟨rfl, H1⟩)
  go_ret2
  exact ⟨rfl, ⟨H1.out _⟩⟩
set_option maxRecDepth 100000 in
set_option maxHeartbeats 4000000 in
theorem addPick_2 (w : World) (B : Nat) (v : Value) (bs : List UInt8) (p : Pk) (hp : p.Wf) (hk : 1 ≤ p.kind ∧ p.kind ≤ 4) (har : (shapeI p.kind).2 = 2)  (hS : LW w) (hB : B ≤ w.heap.size) (ho : BO w B v bs) (hl : bs.length ≤ 140737488355000) (ht : PowAt B w) :
    Calls Tryd.prog 28 #[v, .agg #[.int .i64 p.kind, .int .i64 p.n, .int .i64 p.v]] w fun e w' => ∃ v', e = .returned (.tuple #[v', .nilIface]) ∧ Bx (BO w' B v' (bs ++ pickT p) ∧ KV B v v' w w') := by
  have hbp := below1 w (.cells #[.int .i64 p.kind, .int .i64 p.n, .int .i64 p.v] 39)
  have hs0 := shapeOf_yes p.kind _ (hS.below hbp).shp hk
  rw [har] at hs0
  have HSH : Bx (Calls Tryd.prog 33 #[.int .i64 p.kind] (w.alloc (.cells #[.int .i64 p.kind, .int .i64 p.n, .int .i64 p.v] 39)) fun e w' => e = .returned (.tuple #[.agg #[strV (shapeI p.kind).1, .int .i64 2], .bool true]) ∧ Bx (Below w.heap.size w w') ∧ w'.cell? ⟨w.heap.size, 1, none⟩ = some (.int .i64 p.n) ∧ w'.cell? ⟨w.heap.size, 2, none⟩ = some (.int .i64 p.v) ∧ w.heap.size < w'.heap.size) := ⟨hs0.mono fun e w' hh => by
    have e1 := below_heap hh.2 (heap_newH w (.cells #[.int .i64 p.kind, .int .i64 p.n, .int .i64 p.v] 39) _ rfl)
    exact ⟨hh.1, ⟨hbp.trans (hh.2.mono (by simp))⟩, cell_blk e1 rfl, cell_blk e1 rfl, heap_lt e1⟩⟩
  have hwl : (shapeI p.kind).1.length ≤ 5 := by rcases kind_cases hk with e | e | e | e <;> rw [e] <;> decide
  have hpt : pickT p = lineT (shapeI p.kind).1 [p.n, p.v] := by unfold pickT pickN; rw [har]; rfl
  have hcc : ∀ i (h : i < ([p.n, p.v] : List Int).length), (#[.int .i64 p.n, .int .i64 p.v] : Array Value)[i]? = some (.int .i64 ([p.n, p.v] : List Int)[i]) := by
    intro i h
    have e : i = 0 ∨ i = 1 := by simp at h; omega
    rcases e with rfl | rfl <;> rfl
  have HAL : Bx (∀ (w1 X : World), Below w.heap.size w X → X.heap[w1.heap.size + 1]? = some (.cells #[.int .i64 p.n, .int .i64 p.v] 117 (0, 0)) → X.heap[w1.heap.size]? = some (.cells #[strV (shapeI p.kind).1, .int .i64 2] 94 (0, 0)) → Calls Tryd.prog 27 #[v, strV (shapeI p.kind).1, .slice (some ⟨w1.heap.size + 1, 0, none⟩) 2 2] X fun e w' => ∃ v', e = .returned v' ∧ Bx (BO w' B v' (bs ++ pickT p) ∧ KV B v v' w w') ∧ w'.cell? ⟨w1.heap.size, 0, none⟩ = some (strV (shapeI p.kind).1) ∧ w'.cell? ⟨w1.heap.size, 1, none⟩ = some (.int .i64 2)) := ⟨fun w1 X hX hb hsh => by
    have hi : IntsS X B (some ⟨w1.heap.size + 1, 0, none⟩) 2 [p.n, p.v] := IntsS.head hb (by decide) hcc (by simp [maxLen]) (by simp)
    refine (addLine_any X B v bs (shapeI p.kind).1 _ 2 [p.n, p.v] (Nat.le_trans hB hX.size) (owns_same ho fun g _ hg => hX.block g hg) hi (fun x hx => by simp at hx; rcases hx with rfl | rfl; exact hp.n; exact hp.v) (by simp; omega) (ht.on (hX.mono hB))).mono ?_
    rintro e w' ⟨v', rfl, H⟩
    have e1 := H.out.2.ku.block hsh (fun c fz e => by injection e with _ e; exact absurd e (by decide))
    exact ⟨v', rfl, ⟨by rw [hpt]; exact H.out.1, (KV.new hB hX).trans H.out.2⟩, cell_blk e1 rfl, cell_blk e1 rfl⟩⟩
  have HMB : Bx (∀ (w1 : World) o1 o2, Below w.heap.size w w1 → Below w.heap.size w ((w1.alloc o1).alloc o2)) := ⟨fun w1 o1 o2 h => (h.alloc h.size o1).alloc (by have := h.size; simp; omega) o2⟩
  clear hs0 hbp ho ht hS hp har hwl hpt hcc
  generalize (shapeI p.kind).1 = wd at *
  generalize p.kind = kd at *
  generalize p.n = xn at *
  generalize p.v = xv at *
  go_enter Tryd.func28, Tryd.ntmps28
  go_wp2_with (go_at_call 33; refine HSH.out.mono ?_; rintro e w1 ⟨rfl, H1, c1, c2, hlt⟩)
  obtain ⟨X, hX⟩ : ∃ X, (w1.alloc (.cells #[strV wd, .int .i64 2] 94)).alloc (.cells #[.int .i64 xn, .int .i64 xv] 117) = X := ⟨_, rfl⟩
  have hbX : Below w.heap.size w X := by rw [← hX]; exact HMB.out w1 _ _ H1.out
  have hX0 : X.heap[w1.heap.size]? = some (.cells #[strV wd, .int .i64 2] 94 (0, 0)) := by rw [← hX]; exact below_heap (below1 _ _) (heap_newH _ _ _ rfl)
  have hX1 : X.heap[w1.heap.size + 1]? = some (.cells #[.int .i64 xn, .int .i64 xv] 117 (0, 0)) := by rw [← hX]; exact heap_newH _ _ _ (by simp)
  rw [hX]
  have x0 : X.cell? ⟨w1.heap.size, 0, none⟩ = some (strV wd) := cell_blk hX0 rfl
  have x1 : X.cell? ⟨w1.heap.size, 1, none⟩ = some (.int .i64 2) := cell_blk hX0 rfl
  have y0 : X.cell? ⟨w1.heap.size + 1, 0, none⟩ = some (.int .i64 xn) := cell_blk hX1 rfl
  have y1 : X.cell? ⟨w1.heap.size + 1, 1, none⟩ = some (.int .i64 xv) := cell_blk hX1 rfl
  have HBX : Bx _ := ⟨hbX⟩
  have HX0 : Bx _ := ⟨hX0⟩
  have HX1 : Bx _ := ⟨hX1⟩
  clear hX hbX hX0 hX1 H1 c1 c2 hlt HSH HMB
  refine wp_loop_rounds 1 ?_
  rw [rounds_succ]
  go_wp2
  go_region_held3 (fun Y => Y.cell? ⟨w1.heap.size, 0, none⟩ = some (strV wd) ∧ Y.cell? ⟨w1.heap.size, 1, none⟩ = some (.int .i64 2)) (first | exact ⟨z0, z1⟩ | go_keep) (first | (go_at_call 27; refine (HAL.out w1 X.drew HBX.out.drew HX1.out HX0.out).mono ?_; rintro e w9 ⟨v9, rfl, H9, z0, z1⟩))
  go_wp2
  go_ret2
  exact ⟨_, rfl, H9⟩
set_option maxRecDepth 100000 in
set_option maxHeartbeats 4000000 in
theorem addPick_1y (w : World) (B : Nat) (v : Value) (bs : List UInt8) (p : Pk) (hp : p.Wf) (hk : 1 ≤ p.kind ∧ p.kind ≤ 4) (har : (shapeI p.kind).2 = 1) (hv : p.v = 0) (hS : LW w) (hB : B ≤ w.heap.size) (ho : BO w B v bs) (hl : bs.length ≤ 140737488355000) (ht : PowAt B w) :
    Calls Tryd.prog 28 #[v, .agg #[.int .i64 p.kind, .int .i64 p.n, .int .i64 p.v]] w fun e w' => ∃ v', e = .returned (.tuple #[v', .nilIface]) ∧ Bx (BO w' B v' (bs ++ pickT p) ∧ KV B v v' w w') := by
  have hbp := below1 w (.cells #[.int .i64 p.kind, .int .i64 p.n, .int .i64 p.v] 39)
  have hs0 := shapeOf_yes p.kind _ (hS.below hbp).shp hk
  rw [har] at hs0
  have HSH : Bx (Calls Tryd.prog 33 #[.int .i64 p.kind] (w.alloc (.cells #[.int .i64 p.kind, .int .i64 p.n, .int .i64 p.v] 39)) fun e w' => e = .returned (.tuple #[.agg #[strV (shapeI p.kind).1, .int .i64 1], .bool true]) ∧ Bx (Below w.heap.size w w') ∧ w'.cell? ⟨w.heap.size, 1, none⟩ = some (.int .i64 p.n) ∧ w'.cell? ⟨w.heap.size, 2, none⟩ = some (.int .i64 p.v) ∧ w.heap.size < w'.heap.size) := ⟨hs0.mono fun e w' hh => by
    have e1 := below_heap hh.2 (heap_newH w (.cells #[.int .i64 p.kind, .int .i64 p.n, .int .i64 p.v] 39) _ rfl)
    exact ⟨hh.1, ⟨hbp.trans (hh.2.mono (by simp))⟩, cell_blk e1 rfl, cell_blk e1 rfl, heap_lt e1⟩⟩
  have hwl : (shapeI p.kind).1.length ≤ 5 := by rcases kind_cases hk with e | e | e | e <;> rw [e] <;> decide
  have hpt : pickT p = lineT (shapeI p.kind).1 [p.n] := by unfold pickT pickN; rw [har]; rfl
  have hcc : ∀ i (h : i < ([p.n] : List Int).length), (#[.int .i64 p.n, .int .i64 p.v] : Array Value)[i]? = some (.int .i64 ([p.n] : List Int)[i]) := by
    intro i h
    have e : i = 0 := by simp at h; omega
    subst e
    rfl
  have HAL : Bx (∀ (w1 X : World), Below w.heap.size w X → X.heap[w1.heap.size + 1]? = some (.cells #[.int .i64 p.n, .int .i64 p.v] 117 (0, 0)) → X.heap[w1.heap.size]? = some (.cells #[strV (shapeI p.kind).1, .int .i64 1] 94 (0, 0)) → Calls Tryd.prog 27 #[v, strV (shapeI p.kind).1, .slice (some ⟨w1.heap.size + 1, 0, none⟩) 1 2] X fun e w' => ∃ v', e = .returned v' ∧ Bx (BO w' B v' (bs ++ pickT p) ∧ KV B v v' w w') ∧ w'.cell? ⟨w1.heap.size, 0, none⟩ = some (strV (shapeI p.kind).1) ∧ w'.cell? ⟨w1.heap.size, 1, none⟩ = some (.int .i64 1)) := ⟨fun w1 X hX hb hsh => by
    have hi : IntsS X B (some ⟨w1.heap.size + 1, 0, none⟩) 2 [p.n] := IntsS.head hb (by decide) hcc (by simp [maxLen]) (by simp)
    refine (addLine_any X B v bs (shapeI p.kind).1 _ 2 [p.n] (Nat.le_trans hB hX.size) (owns_same ho fun g _ hg => hX.block g hg) hi (fun x hx => by simp at hx; subst hx; exact hp.n) (by simp; omega) (ht.on (hX.mono hB))).mono ?_
    rintro e w' ⟨v', rfl, H⟩
    have e1 := H.out.2.ku.block hsh (fun c fz e => by injection e with _ e; exact absurd e (by decide))
    exact ⟨v', rfl, ⟨by rw [hpt]; exact H.out.1, (KV.new hB hX).trans H.out.2⟩, cell_blk e1 rfl, cell_blk e1 rfl⟩⟩
  have HMB : Bx (∀ (w1 : World) o1 o2, Below w.heap.size w w1 → Below w.heap.size w ((w1.alloc o1).alloc o2)) := ⟨fun w1 o1 o2 h => (h.alloc h.size o1).alloc (by have := h.size; simp; omega) o2⟩
  clear hs0 hbp ho ht hS hp har hwl hpt hcc
  generalize (shapeI p.kind).1 = wd at *
  generalize p.kind = kd at *
  generalize p.n = xn at *
  generalize p.v = xv at *
  subst hv
  go_enter Tryd.func28, Tryd.ntmps28
  go_wp2_with (go_at_call 33; refine HSH.out.mono ?_; rintro e w1 ⟨rfl, H1, c1, c2, hlt⟩)
  obtain ⟨X, hX⟩ : ∃ X, (w1.alloc (.cells #[strV wd, .int .i64 1] 94)).alloc (.cells #[.int .i64 xn, .int .i64 0] 117) = X := ⟨_, rfl⟩
  have hbX : Below w.heap.size w X := by rw [← hX]; exact HMB.out w1 _ _ H1.out
  have hX0 : X.heap[w1.heap.size]? = some (.cells #[strV wd, .int .i64 1] 94 (0, 0)) := by rw [← hX]; exact below_heap (below1 _ _) (heap_newH _ _ _ rfl)
  have hX1 : X.heap[w1.heap.size + 1]? = some (.cells #[.int .i64 xn, .int .i64 0] 117 (0, 0)) := by rw [← hX]; exact heap_newH _ _ _ (by simp)
  rw [hX]
  have x0 : X.cell? ⟨w1.heap.size, 0, none⟩ = some (strV wd) := cell_blk hX0 rfl
  have x1 : X.cell? ⟨w1.heap.size, 1, none⟩ = some (.int .i64 1) := cell_blk hX0 rfl
  have y0 : X.cell? ⟨w1.heap.size + 1, 0, none⟩ = some (.int .i64 xn) := cell_blk hX1 rfl
  have y1 : X.cell? ⟨w1.heap.size + 1, 1, none⟩ = some (.int .i64 0) := cell_blk hX1 rfl
  have HBX : Bx _ := ⟨hbX⟩
  have HX0 : Bx _ := ⟨hX0⟩
  have HX1 : Bx _ := ⟨hX1⟩
  clear hX hbX hX0 hX1 H1 c1 c2 hlt HSH HMB
  refine wp_loop_rounds 2 ?_
  rw [rounds_succ]
  go_wp2
  rw [rounds_succ]
  go_wp2
  go_region_held3 (fun Y => Y.cell? ⟨w1.heap.size, 0, none⟩ = some (strV wd) ∧ Y.cell? ⟨w1.heap.size, 1, none⟩ = some (.int .i64 1)) (first | exact ⟨z0, z1⟩ | go_keep) (first | (go_at_call 27; refine (HAL.out w1 X.drew HBX.out.drew HX1.out HX0.out).mono ?_; rintro e w9 ⟨v9, rfl, H9, z0, z1⟩))
  go_wp2
  go_ret2
  exact ⟨_, rfl, H9⟩
set_option maxRecDepth 100000 in
set_option maxHeartbeats 4000000 in
theorem addPick_1n (w : World) (B : Nat) (v : Value) (bs : List UInt8) (p : Pk) (hp : p.Wf) (hk : 1 ≤ p.kind ∧ p.kind ≤ 4) (har : (shapeI p.kind).2 = 1) (hv : p.v ≠ 0) (hS : LW w) (hB : B ≤ w.heap.size) (ho : BO w B v bs) (hl : bs.length ≤ 140737488355000) (ht : PowAt B w) :
    Calls Tryd.prog 28 #[v, .agg #[.int .i64 p.kind, .int .i64 p.n, .int .i64 p.v]] w fun e w' => e = .returned (.tuple #[.slice none 0 0, wrV 0 171]) ∧ Bx (Below w.heap.size w w') := by
  have hbp := below1 w (.cells #[.int .i64 p.kind, .int .i64 p.n, .int .i64 p.v] 39)
  have hs0 := shapeOf_yes p.kind _ (hS.below hbp).shp hk
  rw [har] at hs0
  have HSH : Bx (Calls Tryd.prog 33 #[.int .i64 p.kind] (w.alloc (.cells #[.int .i64 p.kind, .int .i64 p.n, .int .i64 p.v] 39)) fun e w' => e = .returned (.tuple #[.agg #[strV (shapeI p.kind).1, .int .i64 1], .bool true]) ∧ Bx (Below w.heap.size w w') ∧ w'.cell? ⟨w.heap.size, 1, none⟩ = some (.int .i64 p.n) ∧ w'.cell? ⟨w.heap.size, 2, none⟩ = some (.int .i64 p.v) ∧ w.heap.size < w'.heap.size) := ⟨hs0.mono fun e w' hh => by
    have e1 := below_heap hh.2 (heap_newH w (.cells #[.int .i64 p.kind, .int .i64 p.n, .int .i64 p.v] 39) _ rfl)
    exact ⟨hh.1, ⟨hbp.trans (hh.2.mono (by simp))⟩, cell_blk e1 rfl, cell_blk e1 rfl, heap_lt e1⟩⟩
  have HMB : Bx (∀ (w1 : World) o1 o2, Below w.heap.size w w1 → Below w.heap.size w ((w1.alloc o1).alloc o2)) := ⟨fun w1 o1 o2 h => (h.alloc h.size o1).alloc (by have := h.size; simp; omega) o2⟩
  clear hs0 hbp ho ht hS hp har
  generalize (shapeI p.kind).1 = wd at *
  generalize p.kind = kd at *
  generalize p.n = xn at *
  generalize p.v = xv at *
  go_enter Tryd.func28, Tryd.ntmps28
  go_wp2_with (go_at_call 33; refine HSH.out.mono ?_; rintro e w1 ⟨rfl, H1, c1, c2, hlt⟩)
  obtain ⟨X, hX⟩ : ∃ X, (w1.alloc (.cells #[strV wd, .int .i64 1] 94)).alloc (.cells #[.int .i64 xn, .int .i64 xv] 117) = X := ⟨_, rfl⟩
  have hbX : Below w.heap.size w X := by rw [← hX]; exact HMB.out w1 _ _ H1.out
  have hX0 : X.heap[w1.heap.size]? = some (.cells #[strV wd, .int .i64 1] 94 (0, 0)) := by rw [← hX]; exact below_heap (below1 _ _) (heap_newH _ _ _ rfl)
  have hX1 : X.heap[w1.heap.size + 1]? = some (.cells #[.int .i64 xn, .int .i64 xv] 117 (0, 0)) := by rw [← hX]; exact heap_newH _ _ _ (by simp)
  rw [hX]
  have x0 : X.cell? ⟨w1.heap.size, 0, none⟩ = some (strV wd) := cell_blk hX0 rfl
  have x1 : X.cell? ⟨w1.heap.size, 1, none⟩ = some (.int .i64 1) := cell_blk hX0 rfl
  have y0 : X.cell? ⟨w1.heap.size + 1, 0, none⟩ = some (.int .i64 xn) := cell_blk hX1 rfl
  have y1 : X.cell? ⟨w1.heap.size + 1, 1, none⟩ = some (.int .i64 xv) := cell_blk hX1 rfl
  have HBX : Bx _ := ⟨hbX⟩
  have HX0 : Bx _ := ⟨hX0⟩
  have HX1 : Bx _ := ⟨hX1⟩
  clear hX hbX hX0 hX1 H1 c1 c2 hlt HSH HMB
  refine wp_loop_rounds 1 ?_
  rw [rounds_succ]
  go_wp2
  go_ret2
  exact ⟨rfl, HBX⟩
set_option maxRecDepth 100000 in
set_option maxHeartbeats 4000000 in
theorem addPick_0y (w : World) (B : Nat) (v : Value) (bs : List UInt8) (p : Pk) (hp : p.Wf) (hk : 1 ≤ p.kind ∧ p.kind ≤ 4) (har : (shapeI p.kind).2 = 0) (hn : p.n = 0) (hv : p.v = 0) (hS : LW w) (hB : B ≤ w.heap.size) (ho : BO w B v bs) (hl : bs.length ≤ 140737488355000) (ht : PowAt B w) :
    Calls Tryd.prog 28 #[v, .agg #[.int .i64 p.kind, .int .i64 p.n, .int .i64 p.v]] w fun e w' => ∃ v', e = .returned (.tuple #[v', .nilIface]) ∧ Bx (BO w' B v' (bs ++ pickT p) ∧ KV B v v' w w') := by
  have hbp := below1 w (.cells #[.int .i64 p.kind, .int .i64 p.n, .int .i64 p.v] 39)
  have hs0 := shapeOf_yes p.kind _ (hS.below hbp).shp hk
  rw [har] at hs0
  have HSH : Bx (Calls Tryd.prog 33 #[.int .i64 p.kind] (w.alloc (.cells #[.int .i64 p.kind, .int .i64 p.n, .int .i64 p.v] 39)) fun e w' => e = .returned (.tuple #[.agg #[strV (shapeI p.kind).1, .int .i64 0], .bool true]) ∧ Bx (Below w.heap.size w w') ∧ w'.cell? ⟨w.heap.size, 1, none⟩ = some (.int .i64 p.n) ∧ w'.cell? ⟨w.heap.size, 2, none⟩ = some (.int .i64 p.v) ∧ w.heap.size < w'.heap.size) := ⟨hs0.mono fun e w' hh => by
    have e1 := below_heap hh.2 (heap_newH w (.cells #[.int .i64 p.kind, .int .i64 p.n, .int .i64 p.v] 39) _ rfl)
    exact ⟨hh.1, ⟨hbp.trans (hh.2.mono (by simp))⟩, cell_blk e1 rfl, cell_blk e1 rfl, heap_lt e1⟩⟩
  have hwl : (shapeI p.kind).1.length ≤ 5 := by rcases kind_cases hk with e | e | e | e <;> rw [e] <;> decide
  have hpt : pickT p = lineT (shapeI p.kind).1 [] := by unfold pickT pickN; rw [har]; rfl
  have hcc : ∀ i (h : i < ([] : List Int).length), (#[.int .i64 p.n, .int .i64 p.v] : Array Value)[i]? = some (.int .i64 ([] : List Int)[i]) := by
    intro i h
    exact absurd h (by simp)
  have HAL : Bx (∀ (w1 X : World), Below w.heap.size w X → X.heap[w1.heap.size + 1]? = some (.cells #[.int .i64 p.n, .int .i64 p.v] 117 (0, 0)) → X.heap[w1.heap.size]? = some (.cells #[strV (shapeI p.kind).1, .int .i64 0] 94 (0, 0)) → Calls Tryd.prog 27 #[v, strV (shapeI p.kind).1, .slice (some ⟨w1.heap.size + 1, 0, none⟩) 0 2] X fun e w' => ∃ v', e = .returned v' ∧ Bx (BO w' B v' (bs ++ pickT p) ∧ KV B v v' w w') ∧ w'.cell? ⟨w1.heap.size, 0, none⟩ = some (strV (shapeI p.kind).1) ∧ w'.cell? ⟨w1.heap.size, 1, none⟩ = some (.int .i64 0)) := ⟨fun w1 X hX hb hsh => by
    have hi : IntsS X B (some ⟨w1.heap.size + 1, 0, none⟩) 2 [] := IntsS.head hb (by decide) hcc (by simp [maxLen]) (by simp)
    refine (addLine_any X B v bs (shapeI p.kind).1 _ 2 [] (Nat.le_trans hB hX.size) (owns_same ho fun g _ hg => hX.block g hg) hi (fun x hx => by cases hx) (by simp; omega) (ht.on (hX.mono hB))).mono ?_
    rintro e w' ⟨v', rfl, H⟩
    have e1 := H.out.2.ku.block hsh (fun c fz e => by injection e with _ e; exact absurd e (by decide))
    exact ⟨v', rfl, ⟨by rw [hpt]; exact H.out.1, (KV.new hB hX).trans H.out.2⟩, cell_blk e1 rfl, cell_blk e1 rfl⟩⟩
  have HMB : Bx (∀ (w1 : World) o1 o2, Below w.heap.size w w1 → Below w.heap.size w ((w1.alloc o1).alloc o2)) := ⟨fun w1 o1 o2 h => (h.alloc h.size o1).alloc (by have := h.size; simp; omega) o2⟩
  clear hs0 hbp ho ht hS hp har hwl hpt hcc
  generalize (shapeI p.kind).1 = wd at *
  generalize p.kind = kd at *
  generalize p.n = xn at *
  generalize p.v = xv at *
  subst hn
  subst hv
  go_enter Tryd.func28, Tryd.ntmps28
  go_wp2_with (go_at_call 33; refine HSH.out.mono ?_; rintro e w1 ⟨rfl, H1, c1, c2, hlt⟩)
  obtain ⟨X, hX⟩ : ∃ X, (w1.alloc (.cells #[strV wd, .int .i64 0] 94)).alloc (.cells #[.int .i64 0, .int .i64 0] 117) = X := ⟨_, rfl⟩
  have hbX : Below w.heap.size w X := by rw [← hX]; exact HMB.out w1 _ _ H1.out
  have hX0 : X.heap[w1.heap.size]? = some (.cells #[strV wd, .int .i64 0] 94 (0, 0)) := by rw [← hX]; exact below_heap (below1 _ _) (heap_newH _ _ _ rfl)
  have hX1 : X.heap[w1.heap.size + 1]? = some (.cells #[.int .i64 0, .int .i64 0] 117 (0, 0)) := by rw [← hX]; exact heap_newH _ _ _ (by simp)
  rw [hX]
  have x0 : X.cell? ⟨w1.heap.size, 0, none⟩ = some (strV wd) := cell_blk hX0 rfl
  have x1 : X.cell? ⟨w1.heap.size, 1, none⟩ = some (.int .i64 0) := cell_blk hX0 rfl
  have y0 : X.cell? ⟨w1.heap.size + 1, 0, none⟩ = some (.int .i64 0) := cell_blk hX1 rfl
  have y1 : X.cell? ⟨w1.heap.size + 1, 1, none⟩ = some (.int .i64 0) := cell_blk hX1 rfl
  have HBX : Bx _ := ⟨hbX⟩
  have HX0 : Bx _ := ⟨hX0⟩
  have HX1 : Bx _ := ⟨hX1⟩
  clear hX hbX hX0 hX1 H1 c1 c2 hlt HSH HMB
  refine wp_loop_rounds 3 ?_
  rw [rounds_succ]
  go_wp2
  rw [rounds_succ]
  go_wp2
  rw [rounds_succ]
  go_wp2
  go_region_held3 (fun Y => Y.cell? ⟨w1.heap.size, 0, none⟩ = some (strV wd) ∧ Y.cell? ⟨w1.heap.size, 1, none⟩ = some (.int .i64 0)) (first | exact ⟨z0, z1⟩ | go_keep) (first | (go_at_call 27; refine (HAL.out w1 X.drew HBX.out.drew HX1.out HX0.out).mono ?_; rintro e w9 ⟨v9, rfl, H9, z0, z1⟩))
  go_wp2
  go_ret2
  exact ⟨_, rfl, H9⟩
set_option maxRecDepth 100000 in
set_option maxHeartbeats 4000000 in
theorem addPick_0n (w : World) (B : Nat) (v : Value) (bs : List UInt8) (p : Pk) (hp : p.Wf) (hk : 1 ≤ p.kind ∧ p.kind ≤ 4) (har : (shapeI p.kind).2 = 0) (hn : p.n ≠ 0) (hS : LW w) (hB : B ≤ w.heap.size) (ho : BO w B v bs) (hl : bs.length ≤ 140737488355000) (ht : PowAt B w) :
    Calls Tryd.prog 28 #[v, .agg #[.int .i64 p.kind, .int .i64 p.n, .int .i64 p.v]] w fun e w' => e = .returned (.tuple #[.slice none 0 0, wrV 0 171]) ∧ Bx (Below w.heap.size w w') := by
  have hbp := below1 w (.cells #[.int .i64 p.kind, .int .i64 p.n, .int .i64 p.v] 39)
  have hs0 := shapeOf_yes p.kind _ (hS.below hbp).shp hk
  rw [har] at hs0
  have HSH : Bx (Calls Tryd.prog 33 #[.int .i64 p.kind] (w.alloc (.cells #[.int .i64 p.kind, .int .i64 p.n, .int .i64 p.v] 39)) fun e w' => e = .returned (.tuple #[.agg #[strV (shapeI p.kind).1, .int .i64 0], .bool true]) ∧ Bx (Below w.heap.size w w') ∧ w'.cell? ⟨w.heap.size, 1, none⟩ = some (.int .i64 p.n) ∧ w'.cell? ⟨w.heap.size, 2, none⟩ = some (.int .i64 p.v) ∧ w.heap.size < w'.heap.size) := ⟨hs0.mono fun e w' hh => by
    have e1 := below_heap hh.2 (heap_newH w (.cells #[.int .i64 p.kind, .int .i64 p.n, .int .i64 p.v] 39) _ rfl)
    exact ⟨hh.1, ⟨hbp.trans (hh.2.mono (by simp))⟩, cell_blk e1 rfl, cell_blk e1 rfl, heap_lt e1⟩⟩
  have HMB : Bx (∀ (w1 : World) o1 o2, Below w.heap.size w w1 → Below w.heap.size w ((w1.alloc o1).alloc o2)) := ⟨fun w1 o1 o2 h => (h.alloc h.size o1).alloc (by have := h.size; simp; omega) o2⟩
  clear hs0 hbp ho ht hS hp har
  generalize (shapeI p.kind).1 = wd at *
  generalize p.kind = kd at *
  generalize p.n = xn at *
  generalize p.v = xv at *
  go_enter Tryd.func28, Tryd.ntmps28
  go_wp2_with (go_at_call 33; refine HSH.out.mono ?_; rintro e w1 ⟨rfl, H1, c1, c2, hlt⟩)
  obtain ⟨X, hX⟩ : ∃ X, (w1.alloc (.cells #[strV wd, .int .i64 0] 94)).alloc (.cells #[.int .i64 xn, .int .i64 xv] 117) = X := ⟨_, rfl⟩
  have hbX : Below w.heap.size w X := by rw [← hX]; exact HMB.out w1 _ _ H1.out
  have hX0 : X.heap[w1.heap.size]? = some (.cells #[strV wd, .int .i64 0] 94 (0, 0)) := by rw [← hX]; exact below_heap (below1 _ _) (heap_newH _ _ _ rfl)
  have hX1 : X.heap[w1.heap.size + 1]? = some (.cells #[.int .i64 xn, .int .i64 xv] 117 (0, 0)) := by rw [← hX]; exact heap_newH _ _ _ (by simp)
  rw [hX]
  have x0 : X.cell? ⟨w1.heap.size, 0, none⟩ = some (strV wd) := cell_blk hX0 rfl
  have x1 : X.cell? ⟨w1.heap.size, 1, none⟩ = some (.int .i64 0) := cell_blk hX0 rfl
  have y0 : X.cell? ⟨w1.heap.size + 1, 0, none⟩ = some (.int .i64 xn) := cell_blk hX1 rfl
  have y1 : X.cell? ⟨w1.heap.size + 1, 1, none⟩ = some (.int .i64 xv) := cell_blk hX1 rfl
  have HBX : Bx _ := ⟨hbX⟩
  have HX0 : Bx _ := ⟨hX0⟩
  have HX1 : Bx _ := ⟨hX1⟩
  clear hX hbX hX0 hX1 H1 c1 c2 hlt HSH HMB
  refine wp_loop_rounds 1 ?_
  rw [rounds_succ]
  go_wp2
  go_ret2
  exact ⟨rfl, HBX⟩
set_option maxRecDepth 100000 in
set_option maxHeartbeats 4000000 in
theorem addPick_0v (w : World) (B : Nat) (v : Value) (bs : List UInt8) (p : Pk) (hp : p.Wf) (hk : 1 ≤ p.kind ∧ p.kind ≤ 4) (har : (shapeI p.kind).2 = 0) (hn : p.n = 0) (hv : p.v ≠ 0) (hS : LW w) (hB : B ≤ w.heap.size) (ho : BO w B v bs) (hl : bs.length ≤ 140737488355000) (ht : PowAt B w) :
    Calls Tryd.prog 28 #[v, .agg #[.int .i64 p.kind, .int .i64 p.n, .int .i64 p.v]] w fun e w' => e = .returned (.tuple #[.slice none 0 0, wrV 0 171]) ∧ Bx (Below w.heap.size w w') := by
  have hbp := below1 w (.cells #[.int .i64 p.kind, .int .i64 p.n, .int .i64 p.v] 39)
  have hs0 := shapeOf_yes p.kind _ (hS.below hbp).shp hk
  rw [har] at hs0
  have HSH : Bx (Calls Tryd.prog 33 #[.int .i64 p.kind] (w.alloc (.cells #[.int .i64 p.kind, .int .i64 p.n, .int .i64 p.v] 39)) fun e w' => e = .returned (.tuple #[.agg #[strV (shapeI p.kind).1, .int .i64 0], .bool true]) ∧ Bx (Below w.heap.size w w') ∧ w'.cell? ⟨w.heap.size, 1, none⟩ = some (.int .i64 p.n) ∧ w'.cell? ⟨w.heap.size, 2, none⟩ = some (.int .i64 p.v) ∧ w.heap.size < w'.heap.size) := ⟨hs0.mono fun e w' hh => by
    have e1 := below_heap hh.2 (heap_newH w (.cells #[.int .i64 p.kind, .int .i64 p.n, .int .i64 p.v] 39) _ rfl)
    exact ⟨hh.1, ⟨hbp.trans (hh.2.mono (by simp))⟩, cell_blk e1 rfl, cell_blk e1 rfl, heap_lt e1⟩⟩
  have HMB : Bx (∀ (w1 : World) o1 o2, Below w.heap.size w w1 → Below w.heap.size w ((w1.alloc o1).alloc o2)) := ⟨fun w1 o1 o2 h => (h.alloc h.size o1).alloc (by have := h.size; simp; omega) o2⟩
  clear hs0 hbp ho ht hS hp har
  generalize (shapeI p.kind).1 = wd at *
  generalize p.kind = kd at *
  generalize p.n = xn at *
  generalize p.v = xv at *
  subst hn
  go_enter Tryd.func28, Tryd.ntmps28
  go_wp2_with (go_at_call 33; refine HSH.out.mono ?_; rintro e w1 ⟨rfl, H1, c1, c2, hlt⟩)
  obtain ⟨X, hX⟩ : ∃ X, (w1.alloc (.cells #[strV wd, .int .i64 0] 94)).alloc (.cells #[.int .i64 0, .int .i64 xv] 117) = X := ⟨_, rfl⟩
  have hbX : Below w.heap.size w X := by rw [← hX]; exact HMB.out w1 _ _ H1.out
  have hX0 : X.heap[w1.heap.size]? = some (.cells #[strV wd, .int .i64 0] 94 (0, 0)) := by rw [← hX]; exact below_heap (below1 _ _) (heap_newH _ _ _ rfl)
  have hX1 : X.heap[w1.heap.size + 1]? = some (.cells #[.int .i64 0, .int .i64 xv] 117 (0, 0)) := by rw [← hX]; exact heap_newH _ _ _ (by simp)
  rw [hX]
  have x0 : X.cell? ⟨w1.heap.size, 0, none⟩ = some (strV wd) := cell_blk hX0 rfl
  have x1 : X.cell? ⟨w1.heap.size, 1, none⟩ = some (.int .i64 0) := cell_blk hX0 rfl
  have y0 : X.cell? ⟨w1.heap.size + 1, 0, none⟩ = some (.int .i64 0) := cell_blk hX1 rfl
  have y1 : X.cell? ⟨w1.heap.size + 1, 1, none⟩ = some (.int .i64 xv) := cell_blk hX1 rfl
  have HBX : Bx _ := ⟨hbX⟩
  have HX0 : Bx _ := ⟨hX0⟩
  have HX1 : Bx _ := ⟨hX1⟩
  clear hX hbX hX0 hX1 H1 c1 c2 hlt HSH HMB
  refine wp_loop_rounds 2 ?_
  rw [rounds_succ]
  go_wp2
  rw [rounds_succ]
  go_wp2
  go_ret2
  exact ⟨rfl, HBX⟩
end Go.Proofs.YtecpknpcjoiliabDoor
