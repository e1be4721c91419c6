import Derived.Test.YtadmpgegolmkgaaDoorBYB
import Derived.Lib.SliceRun
import Derived.Carry
import Derived.Test.YtadmpgegolmkgaaDoorBWkH
import Derived.Test.YtadmpgegolmkgaaDoorBDP
import Derived.Test.YtadmpgegolmkgaaDoorBWjD
import Derived.Test.YtadmpgegolmkgaaDoorBWsB
import Derived.ScopeJumps
import Derived.WalkMore
set_option linter.unusedVariables false
set_option linter.unusedSimpArgs false
set_option maxHeartbeats 4000000
set_option maxRecDepth 100000
namespace Go.Proofs.YtadmpgegolmkgaaDoor
open Go.RowKit
theorem uh (w : World) : Calls Tryd.prog 31 #[.slice none 0 0] w fun e w' => e = .returned (.bool true) /\ w = w' := by
 go_enter Tryd.func31, Tryd.ntmps31
 go_wp2
 refine wp_loop_rounds 1 ?_
 rw [rounds_succ]
 go_wp2
 go_ret
 exact ⟨rfl, rfl⟩
abbrev pgE (cb n : Nat) : Value := .agg #[.int .i64 0, .int .i64 1, .int .i64 2, .bool false, .slice (some ⟨cb, 0, none⟩) n n]
theorem lS (w : World) (cb n : Nat) (h0 : 0 < n) (hn : n <= 3) : Calls Tryd.prog 33 #[pgE cb n] w fun e w' => e = .returned (.bool true) /\ Below w.heap.size w w' := by
 have HA : Bx (∀ W, _) := ⟨fun W => gN 0 1 (by omega) (by omega) W⟩
 have HB : Bx (∀ W, _) := ⟨fun W => gN 1 65536 (by omega) (by omega) W⟩
 have HC : Bx (∀ W, _) := ⟨fun W => gN 2 65536 (by omega) (by omega) W⟩
 have hb : Bx (∀ o1, Below w.heap.size w (w.alloc o1)) := ⟨fun o1 => ak w o1⟩
 go_enter Tryd.func33, Tryd.ntmps33
 go_wp2_with (first
  | (go_at_call 49; refine (HA.out _).mono ?_; rintro e w1 ⟨rfl, rfl⟩; clear HA)
  | (go_at_call 49; refine (HB.out _).mono ?_; rintro e w1 ⟨rfl, rfl⟩; clear HB)
  | (go_at_call 49; refine (HC.out _).mono ?_; rintro e w1 ⟨rfl, rfl⟩; clear HC))
 go_ret
 exact ⟨aG (by simp [h0]), hb.out _⟩
theorem nA (w : World) (cb n : Nat) : Calls Tryd.prog 34 #[pgE cb n] w fun e w' => e = .returned (.bool true) /\ Below w.heap.size w w' := by
 have hb : Bx (∀ o1, Below w.heap.size w (w.alloc o1)) := ⟨fun o1 => ak w o1⟩
 go_enter Tryd.func34, Tryd.ntmps34
 go_wp2
 go_ret
 exact ⟨rfl, hb.out _⟩
theorem UE.prog {w : World} {pb cb : Nat} {l : List (Int × Int)} (h : UE w pb cb l) {n : Nat} (hn : l.length = n) : w.cell? ⟨pb, 0, none⟩ = some (.int .i64 0) /\ w.cell? ⟨pb, 1, none⟩ = some (.int .i64 1) /\ w.cell? ⟨pb, 2, none⟩ = some (.int .i64 2) /\ w.cell? ⟨pb, 3, none⟩ = some (.bool false) /\ w.cell? ⟨pb, 4, none⟩ = some (.slice (some ⟨cb, 0, none⟩) n n) := by
 have q := h.pg
 rw [hn] at q
 exact ⟨(cell_of_row w _ 0 _ _ _ q).trans rfl, (cell_of_row w _ 1 _ _ _ q).trans rfl, (cell_of_row w _ 2 _ _ _ q).trans rfl, (cell_of_row w _ 3 _ _ _ q).trans rfl, (cell_of_row w _ 4 _ _ _ q).trans rfl⟩
theorem qG (w : World) (pb cb : Nat) (l : List (Int × Int)) (hU : UE w pb cb l) : Calls Tryd.prog 32 #[.slice (some ⟨pb, 0, none⟩) 1 1] w fun e w' => e = .returned (.bool false) /\ Below w.heap.size w w' := by
 obtain ⟨n, hn⟩ : ∃ n, l.length = n := ⟨_, rfl⟩
 obtain ⟨p0, p1, p2, p3, p4⟩ := hU.prog hn
 have hn3 : n <= 3 := hn ▸ hU.len
 have hpl := hU.lt.1
 have hb : Bx (∀ o1, Below w.heap.size w (w.alloc o1)) := ⟨fun o1 => ak w o1⟩
 clear hU hn
 go_enter Tryd.func32, Tryd.ntmps32
 go_wp2
 refine wp_loop_rounds 2 ?_
 rw [rounds_succ]
 go_wp2
 rw [rounds_succ]
 go_wp2
 go_ret
 exact ⟨rfl, hb.out _⟩
theorem nC (w : World) (pb cb : Nat) (l : List (Int × Int)) (hU : UE w pb cb l) : Calls Tryd.prog 19 #[unE pb] w fun e w' => e = .returned (.tuple #[.int .i64 0, .bool false]) /\ Below w.heap.size w w' := by
 obtain ⟨n, hn⟩ : ∃ n, l.length = n := ⟨_, rfl⟩
 obtain ⟨H, hH⟩ : ∃ H, w.heap.size = H := ⟨_, rfl⟩
 have hn3 : n <= 3 := hn ▸ hU.len
 have hn0 : 0 < n := hn ▸ hU.pos
 have hpl : pb < H := hH ▸ hU.lt.1
 obtain ⟨w0, hw0⟩ : ∃ w0, w.alloc (.cells #[.slice (some ⟨pb, 0, none⟩) 1 1, .slice none 0 0] 25) = w0 := ⟨_, rfl⟩
 have b0 : Below H w w0 := by rw [← hw0, ← hH]; exact ak w _
 have s0 : w0.heap.size = H + 1 := by rw [← hw0]; simp [hH]
 have q0 : w0.heap[H]? = some (.cells #[.slice (some ⟨pb, 0, none⟩) 1 1, .slice none 0 0] 25 (0, 0)) := by rw [← hw0, ← hH]; exact heap_alloc_new w _
 have e0 : w0.cell? ⟨H, 0, none⟩ = some (.slice (some ⟨pb, 0, none⟩) 1 1) := (cell_of_row w0 _ 0 _ _ _ q0).trans rfl
 have e1 : w0.cell? ⟨H, 1, none⟩ = some (.slice none 0 0) := (cell_of_row w0 _ 1 _ _ _ q0).trans rfl
 have hlt0 : H < w0.heap.size := by omega
 have HV : Bx (∀ W, _) := ⟨fun W => uh W⟩
 have HT : Calls Tryd.prog 32 #[.slice (some ⟨pb, 0, none⟩) 1 1] w0 fun e w' => e = .returned (.bool false) /\ w'.cell? ⟨H, 0, none⟩ = some (.slice (some ⟨pb, 0, none⟩) 1 1) /\ w'.cell? ⟨pb, 0, none⟩ = some (.int .i64 0) /\ w'.cell? ⟨pb, 1, none⟩ = some (.int .i64 1) /\ w'.cell? ⟨pb, 2, none⟩ = some (.int .i64 2) /\ w'.cell? ⟨pb, 3, none⟩ = some (.bool false) /\ w'.cell? ⟨pb, 4, none⟩ = some (.slice (some ⟨cb, 0, none⟩) n n) /\ pb < w'.heap.size /\ Bx (Below H w w') := (qG w0 pb cb l (hU.below (hH ▸ b0))).mono fun e w' ⟨he, hb⟩ => by
  rw [s0] at hb
  have hbw : Below H w w' := b0.trans (hb.mono (by omega))
  obtain ⟨p0, p1, p2, p3, p4⟩ := (hU.below (hH ▸ hbw)).prog hn
  have := hbw.size
  exact ⟨he, (cell_of_row w' _ 0 _ _ _ ((hb.block H (by omega)).trans q0)).trans rfl, p0, p1, p2, p3, p4, by omega, ⟨hbw⟩⟩
 have HF : Bx (∀ X o, Below H w X -> Calls Tryd.prog 33 #[.agg #[.int .i64 0, .int .i64 1, .int .i64 2, .bool false, .slice (some ⟨cb, 0, none⟩) n n]] (X.alloc o) fun e w' => e = .returned (.bool true) /\ w'.cell? ⟨X.heap.size, 0, none⟩ = (X.alloc o).cell? ⟨X.heap.size, 0, none⟩ /\ w'.cell? ⟨X.heap.size, 1, none⟩ = (X.alloc o).cell? ⟨X.heap.size, 1, none⟩ /\ w'.cell? ⟨X.heap.size, 2, none⟩ = (X.alloc o).cell? ⟨X.heap.size, 2, none⟩ /\ w'.cell? ⟨X.heap.size, 3, none⟩ = (X.alloc o).cell? ⟨X.heap.size, 3, none⟩ /\ w'.cell? ⟨X.heap.size, 4, none⟩ = (X.alloc o).cell? ⟨X.heap.size, 4, none⟩ /\ Bx (Below H w w')) := ⟨fun X o hX => (lS (X.alloc o) cb n hn0 hn3).mono fun e w' ⟨he, hb⟩ => by
  have hs := hX.size
  have hlt : X.heap.size < (X.alloc o).heap.size := by simp
  exact ⟨he, hb.cell (p := ⟨X.heap.size, 0, none⟩) hlt, hb.cell (p := ⟨X.heap.size, 1, none⟩) hlt, hb.cell (p := ⟨X.heap.size, 2, none⟩) hlt, hb.cell (p := ⟨X.heap.size, 3, none⟩) hlt, hb.cell (p := ⟨X.heap.size, 4, none⟩) hlt, ⟨(hX.alloc (by omega) o).trans (hb.mono (by simp; omega))⟩⟩⟩
 have HG : Bx (∀ X, Below H w X -> Calls Tryd.prog 34 #[.agg #[.int .i64 0, .int .i64 1, .int .i64 2, .bool false, .slice (some ⟨cb, 0, none⟩) n n]] X fun e w' => e = .returned (.bool true) /\ Bx (Below H w w')) := ⟨fun X hX => (nA X cb n).mono fun e w' ⟨he, hb⟩ => ⟨he, ⟨hX.trans (hb.mono (by have := hX.size; omega))⟩⟩⟩
 rw [hH]
 clear hU q0 hn
 go_enter Tryd.func19, Tryd.ntmps19
 go_wp2_with (first
  | (go_at_call 31; refine (HV.out _).mono ?_; rintro e w1 ⟨rfl, rfl⟩)
  | (go_at_call 32; refine HT.mono ?_; clear HT e0 e1; rintro e w1 ⟨rfl, y, p0, p1, p2, p3, p4, hpl1, HB1⟩))
 refine wp_loop_rounds 2 ?_
 rw [rounds_succ]
 go_wp2_with (first
  | (go_at_call 33; refine (HF.out _ _ HB1.out).mono ?_; rintro e w2 ⟨rfl, k0, k1, k2, k3, k4, HB2⟩; simp at k0 k1 k2 k3 k4)
  | (go_at_call 34; refine (HG.out _ HB2.out).mono ?_; rintro e w3 ⟨rfl, HB3⟩))
 rw [rounds_succ]
 go_wp2
 go_returns
 exact ⟨rfl, HB3.out⟩
def jX (C : Array Value) : Nat -> List Value -> Array Value
 | _, [] => C
 | o, v :: r => jX (C.setIfInBounds o v) (o + 1) r
theorem dS (b : Nat) (t : TypeId) : ∀ (vs : List Value) (o : Nat) (w : World) (C : Array Value), w.heap[b]? = some (.cells C t (0, 0)) -> (w.setCells b o vs).heap[b]? = some (.cells (jX C o vs) t (0, 0))
 | [], _, _, _, h => h
 | v :: r, o, w, C, h => dS b t r (o + 1) _ _ (heap_setCell_same w b o C t v h)
theorem Fx.sets {P : Nat -> Prop} {b : Nat} (hb : P b) : ∀ (vs : List Value) (o : Nat) {a w : World}, Fx P a w -> Fx P a (w.setCells b o vs)
 | [], _, _, _, h => h
 | v :: r, o, _, _, h => Fx.sets hb r (o + 1) (h.set (p := ⟨b, o, none⟩) (.inl hb) v)
theorem rR (w : World) : (zeroValue 66).run Tryd.prog w = .ok (.agg #[.int .i64 0, .int .u64 0]) w := by
 obtain ⟨i0, hi, hz0, hz1, hz2⟩ := info_parts nu
 simp [zeroValue, typeInfo, hi, hz0]
theorem qH (w : World) (kb n : Nat) (h0 : 0 < n) (hn : n <= 3) (hk : w.heap[kb]? = some (.cells (kC (List.replicate n (0, 0))) 66 (0, 0))) :
  ∃ W, (∀ ty, (Builtin.clear_ #[67] ty #[.slice (some ⟨kb, 0, none⟩) n n]).run Tryd.prog w = .ok (.tuple #[]) W) /\ W.heap[kb]? = some (.cells (kC (List.replicate n (0, 0))) 66 (0, 0)) /\ Fx (· = kb) w W := by
 have hu : (Tryd.prog.underlying 67) = some (.slice 66) := Tryd.underlying67
 obtain ⟨zs, hzs⟩ : ∃ zs, zs = (Builtin.zeroCells #[Value.int .i64 0, .int .u64 0] n).toList := ⟨_, rfl⟩
 have key : zs = (kC (List.replicate n (0, 0))).toList := by
  rw [hzs]
  rcases (show n = 1 ∨ n = 2 ∨ n = 3 by omega) with rfl | rfl | rfl <;> kernel_rfl
 have hst := run_storeCells_cells (P := Tryd.prog) kb 0 zs 0 w (by
  intro j hj
  rw [Nat.zero_add, cell_of_row w _ _ _ _ _ hk]
  rw [key] at hj
  simp at hj
  rw [Array.getElem?_eq_getElem hj]
  rfl) (by intro j hj; simp [World.frozen?, hk]) (by
  intro v hv
  rw [key] at hv
  unfold kC at hv
  simp at hv
  obtain ⟨_, _, _, rfl | rfl⟩ := hv <;> rfl)
 refine ⟨w.setCells kb 0 zs, fun ty => ?_, ?_, Fx.sets (P := (· = kb)) (b := kb) rfl zs 0 (Fx.refl _ w)⟩
 ·obtain ⟨m, rfl⟩ : ∃ m, n = m + 1 := ⟨n - 1, by omega⟩
  simp only [Nat.add_zero] at hst
  simp [Builtin.clear_, run_underlying hu, rR, Value.cells, ← hzs, hst]
 ·rw [dS kb _ zs 0 w _ hk, key]
  rcases (show n = 1 ∨ n = 2 ∨ n = 3 by omega) with rfl | rfl | rfl <;> kernel_rfl
theorem zB (w : World) : Calls Tryd.prog 80 #[.int .u64 0] w fun e w' => e = .returned (.int .i64 0) /\ w = w' := by
 have h8 : Lib.len8 0 = 0 := by kernel_rfl
 go_enter Tryd.func80, Tryd.ntmps80
 go_wp2
 go_ret
 exact ⟨rfl, rfl⟩
theorem BH (w : World) : Calls Tryd.prog 59 #[.int .u64 0] w fun e w' => e = .returned (.int .i64 0) /\ w = w' := by
 have HL : Bx (∀ W, _) := ⟨fun W => zB W⟩
 go_enter Tryd.func59, Tryd.ntmps59
 go_wp2_with (first
  | (go_at_call 80; refine (HL.out _).mono ?_; rintro e w1 ⟨rfl, rfl⟩))
 go_ret
 exact ⟨rfl, rfl⟩
end Go.Proofs.YtadmpgegolmkgaaDoor
namespace Go.Proofs.YtadmpgegolmkgaaDoor
open Go.RowKit Go.MapKept Go.ChangeMaps Go.WideShapes
theorem qI (K : List Wy) : (kN K).length = K.length * 2 := by
 induction K with
 | nil => rfl
 | cons p r ih => simp only [kN, List.flatMap_cons, List.length_append] at ih ⊢; rw [ih]; simp; omega
theorem rT (n : Nat) : madeCells #[Value.int .i64 0, .int .u64 0] (n * 2) = (kN (List.replicate n (0, 0))).toArray := by
 apply Array.ext_getElem?
 intro j
 by_cases hj : j < n * 2
 ·have hq : (List.replicate n ((0, 0) : Wy))[j / 2]? = some (0, 0) := by rw [List.getElem?_replicate, if_pos (by omega)]
  obtain ⟨h0, h1⟩ := mW _ _ _ hq
  have ea : (kN (List.replicate n ((0, 0) : Wy))).toArray[j]? = (kN (List.replicate n ((0, 0) : Wy)))[j]? := by simp
  rw [ea]
  rcases Nat.mod_two_eq_zero_or_one j with h | h
  ·rw [show j / 2 * 2 = j by omega] at h0
   rw [h0]
   simp [madeCells, hj, h]
  ·rw [show j / 2 * 2 + 1 = j by omega] at h1
   rw [h1]
   simp [madeCells, hj, h]
 ·rw [Array.getElem?_eq_none (by rw [size_madeCells]; omega), Array.getElem?_eq_none (by simp [qI]; omega)]
theorem zC (vs : List Value) : ∀ (o : Nat) (C : List Value), o + vs.length <= C.length -> jX C.toArray o vs = (C.take o ++ (vs ++ C.drop (o + vs.length))).toArray := by
 induction vs with
 | nil => intro o C h; simp [jX]
 | cons v r ih =>
  intro o C h
  simp only [List.length_cons] at h
  rw [jX, List.setIfInBounds_toArray, ih (o + 1) (C.set o v) (by rw [List.length_set]; omega)]
  have e1 : (C.set o v).take (o + 1) = C.take o ++ [v] := by
   rw [List.take_succ_eq_append_getElem (by rw [List.length_set]; omega), List.getElem_set_self, List.take_set_of_le (Nat.le_refl _)]
  have e2 : (C.set o v).drop (o + 1 + r.length) = C.drop (o + (r.length + 1)) := by
   rw [List.drop_set_of_lt (by omega), show o + (r.length + 1) = o + 1 + r.length by omega]
  rw [e1, e2]
  simp
def dw (n : Nat) (K : List Wy) : List Wy := List.replicate n (0, 0) ++ K.drop n
theorem Bj (K R : List Wy) : kN (K ++ R) = kN K ++ kN R := by simp [kN]
theorem rU : ∀ (n : Nat) (K : List Wy), (kN K).drop (n * 2) = kN (K.drop n)
 | 0, K => by simp
 | n + 1, [] => by simp [kN]
 | n + 1, p :: r => by
  have := rU n r
  rw [show (n + 1) * 2 = n * 2 + 1 + 1 by omega]
  simpa [kN] using this
theorem wN (w : World) (n : Nat) (hn : n <= 2147483648) : (Instr.makeSlice 67 (.int .i64 n) (.int .i64 n)).run Tryd.prog w = .ok (.slice (some ⟨w.heap.size, 0, none⟩) n n) (w.alloc (.cells (kN (List.replicate n (0, 0))).toArray 66)) := by
 obtain ⟨i0, hi, hz0, hz1, hz2⟩ := info_parts nu
 have := run_make (P := Tryd.prog) w 67 66 i0 (.agg #[.int .i64 0, .int .u64 0]) Tryd.underlying67 hi hz0 .i64 .i64 n n (by omega) (by omega) (by rw [hz2]; omega) (by omega)
 rw [hz1] at this
 rw [← rT]
 simpa [Value.cells] using this
theorem ui (w : World) (kb n cp : Nat) (K : List Wy) (h0 : 0 < n) (hn : n <= K.length) (hk : w.heap[kb]? = some (.cells (kN K).toArray 66 (0, 0))) :
  ∃ W, (∀ ty, (Builtin.clear_ #[67] ty #[.slice (some ⟨kb, 0, none⟩) n cp]).run Tryd.prog w = .ok (.tuple #[]) W) /\ W.heap[kb]? = some (.cells (kN (dw n K)).toArray 66 (0, 0)) /\ Fx (· = kb) w W := by
 have hu : (Tryd.prog.underlying 67) = some (.slice 66) := Tryd.underlying67
 obtain ⟨zs, hzs⟩ : ∃ zs, zs = (Builtin.zeroCells #[Value.int .i64 0, .int .u64 0] n).toList := ⟨_, rfl⟩
 have key : zs = kN (List.replicate n (0, 0)) := by
  rw [hzs]
  have : Builtin.zeroCells #[Value.int .i64 0, .int .u64 0] n = madeCells #[Value.int .i64 0, .int .u64 0] (n * 2) := rfl
  rw [this, rT]
 have hzl : zs.length = n * 2 := by rw [key, qI, List.length_replicate]
 have hkl := qI K
 have hst := run_storeCells_cells (P := Tryd.prog) kb 0 zs 0 w (by
  intro j hj
  rw [Nat.zero_add, cell_of_row w _ _ _ _ _ hk, List.getElem?_toArray, List.getElem?_eq_getElem (by omega)]
  rfl) (by intro j hj; simp [World.frozen?, hk]) (by
  intro v hv
  rw [key] at hv
  unfold kN at hv
  simp at hv
  obtain ⟨_, _, _, rfl | rfl⟩ := hv <;> rfl)
 refine ⟨w.setCells kb 0 zs, fun ty => ?_, ?_, Fx.sets (P := (· = kb)) (b := kb) rfl zs 0 (Fx.refl _ w)⟩
 ·obtain ⟨m, rfl⟩ : ∃ m, n = m + 1 := ⟨n - 1, by omega⟩
  simp only [Nat.add_zero] at hst
  simp [Builtin.clear_, run_underlying hu, rR, Value.cells, ← hzs, hst]
 ·rw [dS kb _ zs 0 w _ hk, zC zs 0 (kN K) (by omega)]
  simp only [List.take_zero, List.nil_append, Nat.zero_add]
  rw [hzl, rU, key, ← Bj]
  rfl
def wP (w : World) (wb : Nat) (A : WA) : World := ((((w.setCell ⟨wb, 0, none⟩ A.a0).setCell ⟨wb, 1, none⟩ A.a1).setCell ⟨wb, 2, none⟩ A.a2).setCell ⟨wb, 3, none⟩ A.a3).setCell ⟨wb, 4, none⟩ A.a4
def WH.put (h : WH) (A : WA) : WH := ⟨A.a0, A.a1, A.a2, A.a3, A.a4, h.a5, h.a6⟩
theorem wO {w : World} {wb : Nat} {h : WH} {lv : Int} {pv mv : Value} (q : w.heap[wb]? = some (wkA h lv pv mv)) (A : WA) : (wP w wb A).heap[wb]? = some (wkA (h.put A) lv pv mv) := by
 unfold wkA at q
 have e0 := heap_setCell_same w wb 0 _ 75 A.a0 q
 have e1 := heap_setCell_same _ wb 1 _ 75 A.a1 e0
 have e2 := heap_setCell_same _ wb 2 _ 75 A.a2 e1
 have e3 := heap_setCell_same _ wb 3 _ 75 A.a3 e2
 have e4 := heap_setCell_same _ wb 4 _ 75 A.a4 e3
 exact e4
theorem AC (w : World) (wb : Nat) (A : WA) : Fx (· = wb) w (wP w wb A) := by
 unfold wP
 exact Fx.set (P := (· = wb)) (p := ⟨wb, 4, none⟩) (Fx.set (P := (· = wb)) (p := ⟨wb, 3, none⟩) (Fx.set (P := (· = wb)) (p := ⟨wb, 2, none⟩) (Fx.set (P := (· = wb)) (p := ⟨wb, 1, none⟩) (Fx.set (P := (· = wb)) (p := ⟨wb, 0, none⟩) (Fx.refl _ w) (.inl rfl) _) (.inl rfl) _) (.inl rfl) _) (.inl rfl) _) (.inl rfl) _
structure WkR (w : World) (B wb : Nat) (g : WG) (A : WA) (K : List Wy) : Prop where
 b1 : B <= wb
 b2 : B <= g.kb
 b3 : B <= g.db
 b4 : ∀ l, l < g.L -> B <= g.eb l
 kn : w.heap[g.kb]? = some (.cells (kN K).toArray 66 (0, 0))
 kl : K.length = g.n
 du : DuE w g.db g.dc g.eb g.L g.n fun _ _ => false
 nd : g.db ≠ wb /\ g.db ≠ g.kb
 st : (∃ lv, w.heap[wb]? = some (wkA (g.h A) lv (.slice none 0 0) (.map none))) ∨ (∃ mb L gb gc P, SeM w wb (g.h A) L gb gc mb P /\ B <= gb /\ B <= mb /\ g.db ≠ gb /\ g.db ≠ mb)
theorem WkR.wk {w : World} {B wb : Nat} {g : WG} {A : WA} {K : List Wy} (h : WkR w B wb g A K) : ∃ lv pv mv, w.heap[wb]? = some (wkA (g.h A) lv pv mv) := by
 rcases h.st with ⟨lv, e⟩ | ⟨mb, L, gb, gc, P, s, _⟩
 ·exact ⟨_, _, _, e⟩
 ·exact ⟨_, _, _, s.wk⟩
theorem WkR.lt {w : World} {B wb : Nat} {g : WG} {A : WA} {K : List Wy} (h : WkR w B wb g A K) : wb < w.heap.size /\ g.kb < w.heap.size /\ g.db < w.heap.size /\ ∀ l, l < g.L -> g.eb l < w.heap.size := by
 obtain ⟨lv, pv, mv, e⟩ := h.wk
 exact ⟨ah e, ah h.kn, h.du.dlt, fun l hl => h.du.elt hl⟩
theorem WkR.ne {w : World} {B wb : Nat} {g : WG} {A : WA} {K : List Wy} (h : WkR w B wb g A K) : g.kb ≠ wb /\ ∀ l, l < g.L -> g.eb l ≠ wb /\ g.eb l ≠ g.kb := by
 obtain ⟨lv, pv, mv, e⟩ := h.wk
 unfold wkA at e
 exact ⟨dh h.kn e (by decide), fun l hl => ⟨dh (h.du.wrd l hl) e (by decide), dh (h.du.wrd l hl) h.kn (by decide)⟩⟩
theorem WkR.below {w w' : World} {B wb : Nat} {g : WG} {A : WA} {K : List Wy} (h : WkR w B wb g A K) (hb : Below w.heap.size w w') : WkR w' B wb g A K := by
 obtain ⟨l1, l2, l3, l4⟩ := h.lt
 have x : Fx (fun _ => False) w w' := Fx.of hb
 refine ⟨h.b1, h.b2, h.b3, h.b4, (hb.block _ l2).trans h.kn, h.kl, h.du.fx x id fun _ _ => id, h.nd, ?_⟩
 rcases h.st with ⟨lv, e⟩ | ⟨mb, L, gb, gc, P, s, q⟩
 ·exact .inl ⟨lv, (hb.block _ l1).trans e⟩
 ·exact .inr ⟨mb, L, gb, gc, P, s.fx x id id id, q⟩
theorem WkR.put {w : World} {B wb : Nat} {g : WG} {A : WA} {K : List Wy} (h : WkR w B wb g A K) (A' : WA) : WkR (wP w wb A') B wb g A' K := by
 obtain ⟨n1, n2⟩ := h.ne
 obtain ⟨l1, l2, l3, l4⟩ := h.lt
 have x := AC w wb A'
 refine ⟨h.b1, h.b2, h.b3, h.b4, (x.block _ l2 n1).trans h.kn, h.kl, h.du.fx x h.nd.1 fun l hl => (n2 l hl).1, h.nd, ?_⟩
 rcases h.st with ⟨lv, e⟩ | ⟨mb, L, gb, gc, P, s, q⟩
 ·exact .inl ⟨lv, wO e A'⟩
 ·obtain ⟨m1, m2, m3⟩ := s.ne
  have s' := s.lt
  refine .inr ⟨mb, L, gb, gc, P, ⟨wO s.wk A', bS s.row fun y o hy ho => ?_, s.mp.same (x.block mb s'.2.2 (fun e => m2 e.symm)), s.ok, s.p64, s.lim⟩, q⟩
  simp only [Value.ownBlock, Option.some.injEq] at hy
  subst hy
  exact (x.block gb s'.2.1 (fun e => m1 e.symm)).trans ho
def WG.at_ (g : WG) (mb : Nat) : WG := ⟨g.kb, g.n, g.db, g.dc, g.L, mb, g.eb⟩
theorem zD {v w : World} {B wb : Nat} {g : WG} {A : WA} {K : List Wy} (h0 : WkR v B wb g A K) (hvw : Below v.heap.size v w) (hB0 : B <= v.heap.size) (many : Nat) (hm : many <= 2147483648) :
  Calls Tryd.prog 40 #[.pointer (some ⟨wb, 7, none⟩), .int .i64 (many : Int)] w fun e w' => e = .returned (.tuple #[]) /\ Bx (∃ mb gb, WkM w' wb (g.at_ mb) A (lvS many) gb [pz] K (fun _ => false) /\ WkH B wb (g.at_ mb) gb /\ Below B w w' /\ ∀ k, v.heap.size <= k -> k < w.heap.size -> w'.heap[k]? = w.heap[k]?) := by
 have h := h0.below hvw
 have hB : B <= w.heap.size := Nat.le_trans hB0 hvw.size
 obtain ⟨n1, n2⟩ := h.ne
 obtain ⟨l1, l2, l3, l4⟩ := h.lt
 obtain ⟨v1, v2, v3, v4⟩ := h0.lt
 have hH : ∀ mb gb, B <= mb -> B <= gb -> WkH B wb (g.at_ mb) gb := fun mb gb h1 h2 k q => by
  rcases q with (q | q | q) | q | ⟨l, hl, q⟩
  ·have := h.b1; omega
  ·omega
  ·exact q ▸ h1
  ·have := h.b2; exact q ▸ this
  ·have := h.b4 l hl; exact q ▸ this
 rcases h0.st with ⟨lv, e⟩ | ⟨mb, L, gb, gc, P, s0, q1, q2, q3, q4⟩
 ·refine (oI w wb (g.h A) lv ((hvw.block _ v1).trans e) many hm).mono ?_
  rintro e w' ⟨rfl, hb⟩
  obtain ⟨gb, gc, mb, s, x, h1, h2⟩ := hb.out
  refine ⟨rfl, ⟨mb, gb, ⟨⟨gc, s⟩, (x.block _ l2 n1).trans h.kn, h.kl, h.du.fx x h.nd.1 fun l hl => (n2 l hl).1, ⟨h.nd.1, h.nd.2, ?_, ?_⟩⟩, hH mb gb (by omega) (by omega), x.bel hB fun k hk e => by have := h.b1; omega, fun k hk hk2 => x.block k hk2 (by omega)⟩⟩
  ·show g.db ≠ gb
   omega
  ·show g.db ≠ mb
   omega
 ·have s := s0.fx (Q := fun _ => False) (Fx.of hvw) id id id
  obtain ⟨m1, m2, m3⟩ := s.ne
  obtain ⟨u1, u2, u3⟩ := s0.lt
  refine (qz w wb (g.h A) L gb gc mb P s many hm).mono ?_
  rintro e w' ⟨rfl, hb⟩
  obtain ⟨gb', gc', s', x, hg⟩ := hb.out
  have hw : WkM w wb (g.at_ mb) A L gb P K (fun _ => false) := ⟨⟨gc, s⟩, h.kn, h.kl, h.du, h.nd.1, h.nd.2, q3, q4⟩
  obtain ⟨k1, k2, k3, k4⟩ := hw.ne
  have hgb' : B <= gb' := by rcases hg with e | e; exact e ▸ q1; exact Nat.le_trans hB e
  refine ⟨rfl, ⟨mb, gb', ⟨⟨gc', s'⟩, (x.block _ l2 fun e => ?_).trans h.kn, h.kl, h.du.fx x (fun e => ?_) (fun l hl e => ?_), ⟨h.nd.1, h.nd.2, ?_, q4⟩⟩, hH mb gb' q2 hgb', x.bel hB fun k hk e => ?_, fun k hk hk2 => x.block k hk2 fun e => ?_⟩⟩
  ·rcases e with e | e | e
   ·exact k1 e
   ·exact k2 e
   ·exact k3 e
  ·rcases e with e | e | e
   ·exact h.nd.1 e
   ·exact q3 e
   ·exact q4 e
  ·rcases e with e | e | e
   ·exact (k4 l hl).1 e
   ·exact (k4 l hl).2.1 e
   ·exact (k4 l hl).2.2.1 e
  ·show g.db ≠ gb'
   rcases hg with e | e
   ·rw [e]; exact q3
   ·omega
  ·rcases e with e | e | e
   ·have := h.b1; omega
   ·omega
   ·omega
  ·rcases e with e | e | e <;> omega
theorem oO {P : Program} {a : Act} {w : World} {Q : Exit -> Act -> World -> Prop} {c rest : Code} (l : Nat) (J : Nat -> Act -> World -> Prop) (hf : findLabel c l = some rest) (first : c.wp P (Exit.jump l (fun a w => ∃ n, J n a w) Q) a w) (pass : ∀ n a w, J n a w -> rest.wp P (Exit.jump l (fun a' w' => ∃ m, m < n /\ J m a' w') Q) a w) : (Code.scope c).wp P Q a w := by
 classical
 have hm : ∀ a w, (∃ n, J n a w) -> ∃ n, J n a w /\ ∀ m, J m a w -> n <= m := fun a w ⟨n, h⟩ => by
  induction n using Nat.strongRecOn with
  | ind n ih =>
   by_cases hx : ∃ m, m < n /\ J m a w
   ·obtain ⟨m, hm, hj⟩ := hx
    exact ih m hm hj
   ·exact ⟨n, h, fun m hj => Nat.le_of_not_lt fun hlt => hx ⟨m, hlt, hj⟩⟩
 refine wp_scope_jumps l (fun a w => ∃ n, J n a w) (fun a w => if h : ∃ n, J n a w then (hm a w h).choose else 0) hf first ?_
 intro b v hb
 obtain ⟨hj, hl⟩ := (hm b v hb).choose_spec
 refine Code.wp_mono (fun e a' w' hq => ?_) (pass _ b v hj)
 cases e with
 | goto l' =>
  obtain ⟨e1, m, hlt, hjm⟩ := hq
  refine ⟨e1, ⟨m, hjm⟩, ?_⟩
  rw [dif_pos ⟨m, hjm⟩, dif_pos hb]
  exact Nat.lt_of_le_of_lt ((hm a' w' ⟨m, hjm⟩).choose_spec.2 m hjm) hlt
 | _ => exact hq
def st0 (n sl pr : Nat) (K : List Wy) : Wst := ⟨(bK pr (lvS sl) [pz]).1, aI (dw n K) 0 (1, (bK pr (lvS sl) [pz]).2.2), aP (dw n K) 0 fun _ => false⟩
def gy (sl pr : Nat) (res : Bool) (code : List CIn) (K : List Wy) : Nat × Int × Wst := eO code.length res (lvS sl) code (3 * code.length + 1) (st0 code.length sl pr K)
structure iK (pg : CPg) (sl pr : Nat) : Prop where
 es : pg.slots = sl
 ep : pg.params = pr
 sl1 : sl <= 65536
 pr1 : pr <= sl
 n0 : 0 < pg.code.length
 n1 : pg.code.length <= 268435456
 ins : ∀ i x, pg.code[i]? = some x -> LkX pg.code.length pg.slots i x /\ x.Wf /\ x.list.length <= 281474976710656
abbrev pgA (pg : CPg) (ca : Option Addr) (cc : Nat) : WA := ⟨.int .i64 pg.params, .int .i64 pg.slots, .int .i64 pg.caps, .bool pg.res, .slice ca pg.code.length cc⟩
structure FoJ (w0 w : World) (wb : Nat) (g : WG) (pg : CPg) (ca : Option Addr) (cc sl : Nat) (R : Nat × Int × Wst) (f : Nat) (s : Wst) : Prop where
 bel : Below w0.heap.size w0 w
 mem : ∃ mb gb, WkM w wb (g.at_ mb) (pgA pg ca cc) (lvS sl) gb s.P s.K s.D /\ WkH w0.heap.size wb (g.at_ mb) gb
 pr : eP s.P
 kv : Kv pg.code.length (lvS sl) (2147483648 - 2 * f) s.P s.K s.D
 len : s.P.length + lvS sl * f <= 549755813888
 me : mea pg.code.length s.K s.D < f
 ful : f <= 805306369
 run : eO pg.code.length pg.res (lvS sl) pg.code f s = R
theorem FoJ.step {w0 w : World} {wb : Nat} {g : WG} {pg : CPg} {ca : Option Addr} {cc sl pr : Nat} {R : Nat × Int × Wst} {f : Nat} {s : Wst} (h : FoJ w0 w wb g pg ca cc sl R f s) (hp : iK pg sl pr) {i : Nat} (hi : cB pg.code.length s.D = some i) :
  let q := bY pg.code.length pg.res (lvS sl) i (inA pg.code i) (kA s.K i) ⟨s.P, s.K, del i s.D⟩
  if q.1 = 0 then ∃ f', f = f' + 1 /\ eO pg.code.length pg.res (lvS sl) pg.code f' q.2 = R /\ eP q.2.P /\ Kv pg.code.length (lvS sl) (2147483648 - 2 * f') q.2.P q.2.K q.2.D /\ q.2.P.length + lvS sl * f' <= 549755813888 /\ mea pg.code.length q.2.K q.2.D < f' /\ f' <= 805306369
  else R = (i, q) := by
 intro q
 obtain ⟨hin, hlb⟩ := least_some hi
 obtain ⟨f', rfl⟩ : ∃ f', f = f' + 1 := ⟨f - 1, by have := h.me; omega⟩
 have hr := h.run
 rw [eO, hi] at hr
 simp only at hr
 have hkv := h.kv
 have hful := h.ful
 have hx := hp.ins i (inA pg.code i) (by unfold inA; rw [List.getElem?_eq_getElem hin]; rfl)
 have hv := hkv.vs i hin (hkv.dn i hlb.1).2
 have hb := hkv.ab i hin
 have L := nk (n := pg.code.length) (L := lvS sl) (m := 2147483648 - 2 * (f' + 1)) (i := i) (res := pg.res) (x := inA pg.code i) (p := kA s.K i) (s := ⟨s.P, s.K, del i s.D⟩) hx.1 hin h.pr (hkv.del i) hv hb
 have hlen := h.len
 have e1 : lvS sl * (f' + 1) = lvS sl * f' + lvS sl := by rw [Nat.mul_succ]
 have hl2 : q.2.P.length <= s.P.length + lvS sl := L.len
 have hm2 : mea pg.code.length q.2.K q.2.D <= mea pg.code.length s.K (del i s.D) := L.mea
 have hm1 := rO (K := s.K) hin hlb.1
 have hm0 := h.me
 by_cases hq : q.1 = 0
 ·rw [if_pos hq]
  rw [if_pos hq] at hr
  exact ⟨f', rfl, hr, L.pr, L.kv.mono (List.prefix_refl _) (by omega), by omega, by omega, by omega⟩
 ·rw [if_neg hq]
  rw [if_neg hq] at hr
  exact hr.symm
theorem FoJ.done {w0 w : World} {wb : Nat} {g : WG} {pg : CPg} {ca : Option Addr} {cc sl : Nat} {R : Nat × Int × Wst} {f : Nat} {s : Wst} (h : FoJ w0 w wb g pg ca cc sl R f s) (hi : cB pg.code.length s.D = none) : R = (0, 0, s) /\ ∀ i, s.D i = false := by
 obtain ⟨f', rfl⟩ : ∃ f', f = f' + 1 := ⟨f - 1, by have := h.me; omega⟩
 have hr := h.run
 rw [eO, hi] at hr
 exact ⟨hr.symm, qC hi fun i q => (h.kv.dn i q).1⟩
theorem FoJ.cell {w0 w : World} {wb : Nat} {g : WG} {pg : CPg} {ca : Option Addr} {cc sl : Nat} {R : Nat × Int × Wst} {f : Nat} {s : Wst} (h : FoJ w0 w wb g pg ca cc sl R f s) : w.cell? ⟨wb, 6, none⟩ = some (.slice (some ⟨g.db, 0, none⟩) g.L g.dc) /\ wb < w.heap.size := by
 obtain ⟨mb, gb, hw, _⟩ := h.mem
 exact ⟨hw.cells.2.2.2.2.2.2.1, hw.lt.1⟩
theorem FoJ.take {w0 w : World} {wb : Nat} {g : WG} {pg : CPg} {ca : Option Addr} {cc sl pr : Nat} {R : Nat × Int × Wst} {f : Nat} {s : Wst} (h : FoJ w0 w wb g pg ca cc sl R f s) (hV : VW w0) (hp : iK pg sl pr) (hc : Row (cu w0 w0.heap.size) w0.heap.size 4 ca cc pg.code) (hng : pg.code.length <= g.n) (htop : szW g.n (g.L - 1) = 1) (hL0 : 0 < g.L) {i : Nat} (hi : cB pg.code.length s.D = some i) :
  Calls Tryd.prog 43 #[.slice (some ⟨g.db, 0, none⟩) g.L g.dc] w fun e w' => e = .returned (.tuple #[.int .i64 (i : Int), .bool true]) /\ Bx (Calls Tryd.prog 44 #[.pointer (some ⟨wb, 0, none⟩), .int .i64 (i : Int)] w' fun e w'' => e = .returned (.int .i64 (bY pg.code.length pg.res (lvS sl) i (inA pg.code i) (kA s.K i) ⟨s.P, s.K, del i s.D⟩).1) /\ Bx (Below w0.heap.size w0 w'' /\ ∃ mb gb, WkM w'' wb (g.at_ mb) (pgA pg ca cc) (lvS sl) gb (bY pg.code.length pg.res (lvS sl) i (inA pg.code i) (kA s.K i) ⟨s.P, s.K, del i s.D⟩).2.P (bY pg.code.length pg.res (lvS sl) i (inA pg.code i) (kA s.K i) ⟨s.P, s.K, del i s.D⟩).2.K (bY pg.code.length pg.res (lvS sl) i (inA pg.code i) (kA s.K i) ⟨s.P, s.K, del i s.D⟩).2.D /\ WkH w0.heap.size wb (g.at_ mb) gb)) := by
 obtain ⟨hin, hlb⟩ := least_some hi
 obtain ⟨mb, gb, hw, hH⟩ := h.mem
 have hVw : VW w := hV.below h.bel
 refine (tC w hVw g.db g.dc g.eb g.L g.n s.D hw.du (fun j hj => Nat.lt_of_lt_of_le (h.kv.dn j hj).1 hng) ⟨i, hlb.1⟩ htop hL0).mono ?_
 rintro e w' ⟨j, hj, hjn, rfl, hb⟩
 obtain rfl := tq hj hlb
 obtain ⟨hdu, hx⟩ := hb.out
 refine ⟨rfl, ⟨?_⟩⟩
 obtain ⟨n1, n2, n3, n4⟩ := hw.ne
 obtain ⟨l1, l2, l3, l4, l5, l6⟩ := hw.lt
 obtain ⟨gc, ss⟩ := hw.se
 have hw' : WkM w' wb (g.at_ mb) (pgA pg ca cc) (lvS sl) gb s.P s.K (del j s.D) := ⟨⟨gc, ss.fx hx (fun ⟨l, hl, e⟩ => (n4 l hl).1 e.symm) (fun ⟨l, hl, e⟩ => (n4 l hl).2.1 e.symm) (fun ⟨l, hl, e⟩ => (n4 l hl).2.2.1 e.symm)⟩, (hx.block _ l4 fun ⟨l, hl, e⟩ => (n4 l hl).2.2.2 e.symm).trans hw.kn, hw.kl, hdu, hw.nd⟩
 have hs0 := h.bel.size
 have hbw : Below w0.heap.size w0 w' := h.bel.trans (hx.bel hs0 fun k hk ⟨l, hl, e⟩ => by
  have := hH k (.inr (.inr ⟨l, hl, e⟩))
  omega)
 have hkl : pg.code.length <= s.K.length := h.kv.kn
 have hkA : s.K[j]? = some (kA s.K j) := by
  unfold kA
  rw [List.getElem?_eq_getElem (by omega)]
  rfl
 have hxi : pg.code[j]? = some (inA pg.code j) := by
  unfold inA
  rw [List.getElem?_eq_getElem hin]
  rfl
 obtain ⟨hk1, hk2, hk3⟩ := hp.ins j _ hxi
 have hnz := (h.kv.dn j hlb.1).2
 have hab := h.kv.ab j hin
 have hful := h.ful
 have hp2 : (kA s.K j).1 <= 2147483648 := by omega
 have hE : LkE w' wb (g.at_ mb) (pgA pg ca cc) (lvS sl) gb s.P s.K (del j s.D) w0.heap.size pg.code ca cc j (inA pg.code j) (kA s.K j) pg.res := ⟨hw', rfl, rfl, hc.mono fun b o x hb he => he.below hbw (Nat.le_refl _) hb, hH, hbw.size, by have := hp.n1; omega, hxi, hkA, by omega, by omega, hV.below hbw, hk2, hk3⟩
 have hlv : lvS sl < 60 := by
  have := qy (many := sl) (by have := hp.sl1; omega)
  omega
 have hlen := h.len
 have hf1 : 0 < f := by have := h.me; omega
 have hm := Nat.le_mul_of_pos_right (lvS sl) hf1
 refine (wI hE hlv (by omega) hk1 (by have := hp.sl1; have := hp.es; omega) hng (h.kv.vs j hin hnz) (by omega)).mono ?_
 rintro e w'' ⟨rfl, hb2⟩
 obtain ⟨hbel, gb', hw2, hH2⟩ := hb2.out.hi hH hbw.size
 exact ⟨rfl, ⟨hbw.trans hbel, mb, gb', hw2, hH2⟩⟩
theorem FoJ.none {w0 w : World} {wb : Nat} {g : WG} {pg : CPg} {ca : Option Addr} {cc sl : Nat} {R : Nat × Int × Wst} {f : Nat} {s : Wst} (h : FoJ w0 w wb g pg ca cc sl R f s) (htop : szW g.n (g.L - 1) = 1) (hL0 : 0 < g.L) (hi : cB pg.code.length s.D = none) :
  Calls Tryd.prog 43 #[.slice (some ⟨g.db, 0, none⟩) g.L g.dc] w fun e w' => e = .returned (.tuple #[.int .i64 0, .bool false]) /\ w = w' := by
 obtain ⟨mb, gb, hw, hH⟩ := h.mem
 exact tu w g.db g.dc g.eb g.L g.n s.D hw.du (h.done hi).2 htop hL0
theorem FoJ.ready {w0 w : World} {wb : Nat} {g : WG} {pg : CPg} {ca : Option Addr} {cc sl : Nat} {R : Nat × Int × Wst} {f : Nat} {s : Wst} (h : FoJ w0 w wb g pg ca cc sl R f s) (hdb : w0.heap.size <= g.db) (hi : cB pg.code.length s.D = .none) : WkR w w0.heap.size wb g (pgA pg ca cc) s.K := by
 obtain ⟨mb, gb, hw, hH⟩ := h.mem
 obtain ⟨gc, ss⟩ := hw.se
 have hd : s.D = fun _ => false := funext (h.done hi).2
 have hdu := hw.du
 rw [hd] at hdu
 exact ⟨hH _ (.inl (.inl rfl)), hH _ (.inr (.inl rfl)), hdb, fun l hl => hH _ (.inr (.inr ⟨l, hl, rfl⟩)), hw.kn, hw.kl, hdu, ⟨hw.nd.1, hw.nd.2.1⟩, .inr ⟨mb, lvS sl, gb, gc, s.P, ss, hH _ (.inl (.inr (.inl rfl))), hH _ (.inl (.inr (.inr rfl))), hw.nd.2.2.1, hw.nd.2.2.2⟩⟩
abbrev pgC (pg : CPg) (ca : Option Addr) (cc : Nat) : Array Value := #[.int .i64 pg.params, .int .i64 pg.slots, .int .i64 pg.caps, .bool pg.res, .slice ca pg.code.length cc]
theorem WkM.other {w : World} {wb : Nat} {g : WG} {A : WA} {L gb : Nat} {P : Prs} {K : List Wy} {D : Nat -> Bool} (h : WkM w wb g A L gb P K D) {k : Nat} {cs : Array Value} {fl : Nat × Nat} (hk : w.heap[k]? = some (.cells cs 40 fl)) : ¬ iJ wb g gb k := by
 obtain ⟨gc, ss⟩ := h.se
 have hw := ss.wk
 unfold wkA at hw
 obtain ⟨c, f, hgg⟩ := bM ss.row gb rfl
 rintro ((q | q | q) | q | ⟨l, hl, q⟩)
 ·exact dh hk hw (by decide) q
 ·exact dh hk hgg (by decide) q
 ·exact jE hk ss.mp.obj q
 ·exact dh hk h.kn (by decide) q
 ·exact dh hk (h.du.wrd l hl) (by decide) q
structure FoL (w0 w : World) (wb : Nat) (g : WG) (pg : CPg) (ca : Option Addr) (cc sl pb : Nat) (P : Prs) (K : List Wy) (D : Nat -> Bool) : Prop where
 bel : Below w0.heap.size w0 w
 mem : ∃ mb gb, WkM w wb (g.at_ mb) (pgA pg ca cc) (lvS sl) gb P K D /\ WkH w0.heap.size wb (g.at_ mb) gb
 ph : w.heap[pb]? = some (.cells (pgC pg ca cc) 40 (0, 0))
theorem FoL.below {w0 w w' : World} {wb : Nat} {g : WG} {pg : CPg} {ca : Option Addr} {cc sl pb : Nat} {P : Prs} {K : List Wy} {D : Nat -> Bool} (h : FoL w0 w wb g pg ca cc sl pb P K D) (hb : Below w.heap.size w w') : FoL w0 w' wb g pg ca cc sl pb P K D := by
 obtain ⟨mb, gb, hw, hH⟩ := h.mem
 exact ⟨h.bel.trans (hb.mono h.bel.size), ⟨mb, gb, hw.below hb, hH⟩, (hb.block _ (ah h.ph)).trans h.ph⟩
theorem FoL.drewN {w0 w : World} {wb : Nat} {g : WG} {pg : CPg} {ca : Option Addr} {cc sl pb : Nat} {P : Prs} {K : List Wy} {D : Nat -> Bool} (h : FoL w0 w wb g pg ca cc sl pb P K D) (k : Nat) : FoL w0 (w.drewN k) wb g pg ca cc sl pb P K D := h.below (below_drewN (Below.refl _ w) k)
theorem FoL.cells {w0 w : World} {wb : Nat} {g : WG} {pg : CPg} {ca : Option Addr} {cc sl pb : Nat} {P : Prs} {K : List Wy} {D : Nat -> Bool} (h : FoL w0 w wb g pg ca cc sl pb P K D) : w.cell? ⟨pb, 0, none⟩ = some (.int .i64 pg.params) /\ w.cell? ⟨pb, 1, none⟩ = some (.int .i64 pg.slots) /\ w.cell? ⟨pb, 4, none⟩ = some (.slice ca pg.code.length cc) /\ w.cell? ⟨wb, 5, none⟩ = some (.slice (some ⟨g.kb, 0, none⟩) g.n g.n) /\ wb < w.heap.size := by
 obtain ⟨mb, gb, hw, hH⟩ := h.mem
 exact ⟨aa h.ph rfl, aa h.ph rfl, aa h.ph rfl, hw.cells.2.2.2.2.2.1, hw.lt.1⟩
theorem FoL.post {w0 w w' : World} {wb : Nat} {g : WG} {pg : CPg} {ca : Option Addr} {cc sl pb mb gb : Nat} {P P' : Prs} {K K' : List Wy} {D D' : Nat -> Bool} (h : FoL w0 w wb g pg ca cc sl pb P K D) (hw : WkM w wb (g.at_ mb) (pgA pg ca cc) (lvS sl) gb P K D) (hH : WkH w0.heap.size wb (g.at_ mb) gb) (hq : aK w wb (g.at_ mb) (pgA pg ca cc) (lvS sl) gb P' K' D' w') : FoL w0 w' wb g pg ca cc sl pb P' K' D' := by
 have hph := hq.own h.ph (hw.other h.ph)
 obtain ⟨hb, gb', hw', hH'⟩ := hq.hi hH h.bel.size
 exact ⟨h.bel.trans hb, ⟨mb, gb', hw', hH'⟩, hph⟩
theorem FoL.clear {w0 w : World} {wb : Nat} {g : WG} {pg : CPg} {ca : Option Addr} {cc sl pb : Nat} {P : Prs} {K : List Wy} {D : Nat -> Bool} (h : FoL w0 w wb g pg ca cc sl pb P K D) (h0 : 0 < pg.code.length) (hng : pg.code.length <= g.n) : ∃ W, (∀ ty, (Builtin.clear_ #[67] ty #[.slice (some ⟨g.kb, 0, none⟩) pg.code.length g.n]).run Tryd.prog w = .ok (.tuple #[]) W) /\ FoL w0 W wb g pg ca cc sl pb P (dw pg.code.length K) D := by
 obtain ⟨mb, gb, hw, hH⟩ := h.mem
 have hkl := hw.kl
 obtain ⟨W, r, hk, x⟩ := ui w g.kb pg.code.length g.n K h0 (by rw [hkl]; exact hng) hw.kn
 obtain ⟨n1, n2, n3, n4⟩ := hw.ne
 obtain ⟨gc, ss⟩ := hw.se
 have hw' : WkM W wb (g.at_ mb) (pgA pg ca cc) (lvS sl) gb P (dw pg.code.length K) D := ⟨⟨gc, ss.fx x (fun e => n1 e.symm) (fun e => n2 e.symm) (fun e => n3 e.symm)⟩, hk, by
  unfold dw
  rw [List.length_append, List.length_replicate, List.length_drop, hkl]
  show pg.code.length + (g.n - pg.code.length) = g.n
  omega, hw.du.fx x hw.nd.2.1 fun l hl => (n4 l hl).2.2.2, hw.nd⟩
 have hno := hw.other h.ph
 exact ⟨W, r, h.bel.trans (x.bel h.bel.size fun k hk e => by have := hH k (.inr (.inl e)); omega), ⟨mb, gb, hw', hH⟩, (x.block _ (ah h.ph) fun e => hno (.inr (.inl e))).trans h.ph⟩
theorem FoL.first {w0 w : World} {wb : Nat} {g : WG} {pg : CPg} {ca : Option Addr} {cc sl pb pr : Nat} {K : List Wy} {D : Nat -> Bool} (h : FoL w0 w wb g pg ca cc sl pb [pz] K D) (hp : iK pg sl pr) :
  Calls Tryd.prog 42 #[.pointer (some ⟨wb, 7, none⟩), .int .i64 (pr : Int)] w fun e w' => e = .returned (.int .u64 ((bK pr (lvS sl) [pz]).2.2 : Int)) /\ FoL w0 w' wb g pg ca cc sl pb (bK pr (lvS sl) [pz]).1 K D := by
 obtain ⟨mb, gb, hw, hH⟩ := h.mem
 obtain ⟨gc, ss⟩ := hw.se
 have hs1 := hp.sl1
 have hp1 := hp.pr1
 have hlv := qy (many := sl) (by omega)
 refine (tL w wb ((g.at_ mb).h (pgA pg ca cc)) (lvS sl) gb gc mb [pz] ss (by omega) pr (by omega) (by simp; omega)).mono ?_
 rintro e w' ⟨rfl, hb⟩
 exact ⟨rfl, h.post hw hH (aK.Az hw hb.out)⟩
theorem FoL.come {w0 w : World} {wb : Nat} {g : WG} {pg : CPg} {ca : Option Addr} {cc sl pb : Nat} {P : Prs} {K : List Wy} {D : Nat -> Bool} (h : FoL w0 w wb g pg ca cc sl pb P K D) (hn : 0 < g.n) (s : Nat) :
  Calls Tryd.prog 41 #[.pointer (some ⟨wb, 0, none⟩), .int .i64 0, .agg #[.int .i64 1, .int .u64 (s : Int)]] w fun e w' => ∃ b, e = .returned (.bool b) /\ FoL w0 w' wb g pg ca cc sl pb P (aI K 0 (1, s)) (aP K 0 D) := by
 obtain ⟨mb, gb, hw, hH⟩ := h.mem
 refine (ja w wb (g.at_ mb) (pgA pg ca cc) (lvS sl) gb P K D hw 0 hn (1, s)).mono ?_
 rintro e w' ⟨rfl, hb⟩
 exact ⟨_, rfl, h.post hw hH hb.out⟩
end Go.Proofs.YtadmpgegolmkgaaDoor
