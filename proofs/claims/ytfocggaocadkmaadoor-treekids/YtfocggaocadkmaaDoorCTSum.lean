import Derived.Test.YtfocggaocadkmaaDoorCTH
import Derived.Test.YtfocggaocadkmaaDoorCTNd
import Derived.Test.YtfocggaocadkmaaDoorCTPb
import Derived.Test.YtfocggaocadkmaaDoorCTPe
namespace Go.Proofs.YtfocggaocadkmaaDoor
open Go.RowKit
set_option linter.unusedVariables false
set_option linter.unusedSimpArgs false

/-! ### the document's example -/
def sumL (op : Int) : List Nd := [⟨11, 0, [], ⟨#[]⟩, 1⟩, ⟨11, 0, [], ⟨#[]⟩, 2⟩, ⟨22, 0, [0, 1], ⟨#[]⟩, 31⟩, ⟨11, 0, [], ⟨#[]⟩, 3⟩, ⟨22, 0, [2, 3], ⟨#[]⟩, op⟩, ⟨35, 0, [4], ⟨#[]⟩, 0⟩, ⟨46, 0, [5], ⟨#[]⟩, 0⟩]
def nodeC (kd : Int) (v : Value) (num : Int) : List Value := [.int .i64 kd, .int .i64 0, v, .string ⟨#[]⟩, .int .i64 num]
def kv (b n : Nat) : Value := .slice (some ⟨b, 0, none⟩) n n
def sumC (s : Nat) (op : Int) : Array Value := (nodeC 11 (.slice none 0 0) 1 ++ nodeC 11 (.slice none 0 0) 2 ++ nodeC 22 (kv s 2) 31 ++ nodeC 11 (.slice none 0 0) 3 ++ nodeC 22 (kv (s + 1) 2) op ++ nodeC 35 (kv (s + 2) 1) 0 ++ nodeC 46 (kv (s + 3) 1) 0).toArray
/-- the example in memory, from block s on -/
structure SumAt (W : World) (s : Nat) (op : Int) : Prop where
  b0 : W.heap[s]? = some (.cells #[.int .i64 0, .int .i64 1] 3 (0, 0))
  b1 : W.heap[s + 1]? = some (.cells #[.int .i64 2, .int .i64 3] 3 (0, 0))
  b2 : W.heap[s + 2]? = some (.cells #[.int .i64 4] 3 (0, 0))
  b3 : W.heap[s + 3]? = some (.cells #[.int .i64 5] 3 (0, 0))
  b4 : W.heap[s + 4]? = some (.cells (sumC s op) 24 (0, 0))
theorem SumAt.lt {W : World} {s : Nat} {op : Int} (h : SumAt W s op) : s + 4 < W.heap.size := heap_lt h.b4
theorem SumAt.below {W W' : World} {s : Nat} {op : Int} {B : Nat} (h : SumAt W s op) (hb : Below B W W') (hB : s + 5 ≤ B) : SumAt W' s op :=
  ⟨by rw [hb.block _ (by omega)]; exact h.b0, by rw [hb.block _ (by omega)]; exact h.b1, by rw [hb.block _ (by omega)]; exact h.b2, by rw [hb.block _ (by omega)]; exact h.b3, by rw [hb.block _ (by omega)]; exact h.b4⟩
theorem ints1 {W : World} {s B : Nat} {x : Int} (h : W.heap[s]? = some (.cells #[.int .i64 x] 3 (0, 0))) (hB : s < B) : IntsV W B (kv s 1) [x] := by
  refine ⟨_, _, rfl, by simp, by simp [maxLen], fun _ => ⟨s, 0, rfl, hB, fun i hi => ?_⟩⟩
  match i, hi with
  | 0, _ => simp [World.cell?, h]
theorem ints2 {W : World} {s B : Nat} {x y : Int} (h : W.heap[s]? = some (.cells #[.int .i64 x, .int .i64 y] 3 (0, 0))) (hB : s < B) : IntsV W B (kv s 2) [x, y] := by
  refine ⟨_, _, rfl, by simp, by simp [maxLen], fun _ => ⟨s, 0, rfl, hB, fun i hi => ?_⟩⟩
  match i, hi with
  | 0, _ => simp [World.cell?, h]
  | 1, _ => simp [World.cell?, h]
theorem ints0 (W : World) (B : Nat) : IntsV W B (.slice none 0 0) [] := ⟨_, _, rfl, by simp, by simp [maxLen], fun h => by simp at h⟩
theorem SumAt.cell {W : World} {s : Nat} {op : Int} (h : SumAt W s op) (i : Nat) : W.cell? ⟨s + 4, i, none⟩ = (sumC s op)[i]? := by
  simp [World.cell?, h.b4]
theorem SumAt.nd {W : World} {s : Nat} {op : Int} (h : SumAt W s op) (j : Nat) (hj : j < 7) : ∃ ka kc, NdAt W (s + 5) (s + 4) (0 + j * 5) (ndN (sumL op) j) ka kc := by
  match j, hj with
  | 0, _ => exact ⟨none, 0, by rw [h.cell]; rfl, by rw [h.cell]; rfl, by rw [h.cell]; rfl, by rw [h.cell]; rfl, by rw [h.cell]; rfl, ints0 _ _⟩
  | 1, _ => exact ⟨none, 0, by rw [h.cell]; rfl, by rw [h.cell]; rfl, by rw [h.cell]; rfl, by rw [h.cell]; rfl, by rw [h.cell]; rfl, ints0 _ _⟩
  | 2, _ => exact ⟨some ⟨s, 0, none⟩, 2, by rw [h.cell]; rfl, by rw [h.cell]; rfl, by rw [h.cell]; rfl, by rw [h.cell]; rfl, by rw [h.cell]; rfl, ints2 h.b0 (by omega)⟩
  | 3, _ => exact ⟨none, 0, by rw [h.cell]; rfl, by rw [h.cell]; rfl, by rw [h.cell]; rfl, by rw [h.cell]; rfl, by rw [h.cell]; rfl, ints0 _ _⟩
  | 4, _ => exact ⟨some ⟨s + 1, 0, none⟩, 2, by rw [h.cell]; rfl, by rw [h.cell]; rfl, by rw [h.cell]; rfl, by rw [h.cell]; rfl, by rw [h.cell]; rfl, ints2 h.b1 (by omega)⟩
  | 5, _ => exact ⟨some ⟨s + 2, 0, none⟩, 1, by rw [h.cell]; rfl, by rw [h.cell]; rfl, by rw [h.cell]; rfl, by rw [h.cell]; rfl, by rw [h.cell]; rfl, ints1 h.b2 (by omega)⟩
  | 6, _ => exact ⟨some ⟨s + 3, 0, none⟩, 1, by rw [h.cell]; rfl, by rw [h.cell]; rfl, by rw [h.cell]; rfl, by rw [h.cell]; rfl, by rw [h.cell]; rfl, ints1 h.b3 (by omega)⟩
theorem nwf {kd num : Int} {kids : List Int} (h1 : I64 kd) (h2 : I64 num) (h3 : ∀ k ∈ kids, I64 k) : NdWf ⟨kd, 0, kids, ⟨#[]⟩, num⟩ := ⟨h1, show I64 0 from ⟨by omega, by omega⟩, h2, by simp [maxLen, ByteArray.size], h3⟩
theorem sum_wf (op : Int) (ho : I64 op) (j : Nat) (hj : j < 7) : NdWf (ndN (sumL op) j) := by
  match j, hj with
  | 0, _ => exact nwf (by unfold I64; omega) (by unfold I64; omega) (by intro k hk; simp at hk)
  | 1, _ => exact nwf (by unfold I64; omega) (by unfold I64; omega) (by intro k hk; simp at hk)
  | 2, _ => exact nwf (by unfold I64; omega) (by unfold I64; omega) (by intro k hk; simp at hk; rcases hk with rfl | rfl <;> (unfold I64; omega))
  | 3, _ => exact nwf (by unfold I64; omega) (by unfold I64; omega) (by intro k hk; simp at hk)
  | 4, _ => exact nwf (by unfold I64; omega) ho (by intro k hk; simp at hk; rcases hk with rfl | rfl <;> (unfold I64; omega))
  | 5, _ => exact nwf (by unfold I64; omega) (by unfold I64; omega) (by intro k hk; simp at hk; subst hk; unfold I64; omega)
  | 6, _ => exact nwf (by unfold I64; omega) (by unfold I64; omega) (by intro k hk; simp at hk; subst hk; unfold I64; omega)
theorem SumAt.nodes {W : World} {s : Nat} {op : Int} (h : SumAt W s op) (ho : I64 op) : Nodes W (s + 5) (s + 4) 0 7 (sumL op) :=
  ⟨h.nd, sum_wf op ho, by omega, h.lt, by simp [sumL, maxLen], by simp [sumL]⟩

theorem alloc5 (w : World) (o0 o1 o2 o3 o4 : Obj) : (((((w.alloc o0).alloc o1).alloc o2).alloc o3).alloc o4).heap[w.heap.size]? = some o0 ∧ (((((w.alloc o0).alloc o1).alloc o2).alloc o3).alloc o4).heap[w.heap.size + 1]? = some o1 ∧ (((((w.alloc o0).alloc o1).alloc o2).alloc o3).alloc o4).heap[w.heap.size + 2]? = some o2
    ∧ (((((w.alloc o0).alloc o1).alloc o2).alloc o3).alloc o4).heap[w.heap.size + 3]? = some o3 ∧ (((((w.alloc o0).alloc o1).alloc o2).alloc o3).alloc o4).heap[w.heap.size + 4]? = some o4 := by
  have s1 : (w.alloc o0).heap.size = w.heap.size + 1 := by simp
  have s2 : ((w.alloc o0).alloc o1).heap.size = w.heap.size + 2 := by simp
  have s3 : (((w.alloc o0).alloc o1).alloc o2).heap.size = w.heap.size + 3 := by simp
  have s4 : ((((w.alloc o0).alloc o1).alloc o2).alloc o3).heap.size = w.heap.size + 4 := by simp
  have t1 := heap_alloc_new (w.alloc o0) o1
  have t2 := heap_alloc_new ((w.alloc o0).alloc o1) o2
  have t3 := heap_alloc_new (((w.alloc o0).alloc o1).alloc o2) o3
  have t4 := heap_alloc_new ((((w.alloc o0).alloc o1).alloc o2).alloc o3) o4
  rw [s1] at t1
  rw [s2] at t2
  rw [s3] at t3
  rw [s4] at t4
  refine ⟨?_, ?_, ?_, ?_, t4⟩
  · rw [(below1 _ o4).block _ (by omega), (below1 _ o3).block _ (by omega), (below1 _ o2).block _ (by omega), (below1 _ o1).block _ (by omega)]; exact heap_alloc_new w o0
  · rw [(below1 _ o4).block _ (by omega), (below1 _ o3).block _ (by omega), (below1 _ o2).block _ (by omega)]; exact t1
  · rw [(below1 _ o4).block _ (by omega), (below1 _ o3).block _ (by omega)]; exact t2
  · rw [(below1 _ o4).block _ (by omega)]; exact t3

set_option maxRecDepth 100000 in
set_option maxHeartbeats 2000000 in
theorem sum_any (w : World) : Calls Tryd.prog 17 #[] w fun e w' => e = .returned (.slice (some ⟨w.heap.size + 4, 0, none⟩) 7 7) ∧ SumAt w' w.heap.size 32 ∧ Below w.heap.size w w' := by
  go_enter Tryd.func17, Tryd.ntmps17
  go_wp2
  go_ret
  refine ⟨rfl, ?_, ?_⟩
  · obtain ⟨q0, q1, q2, q3, q4⟩ := alloc5 w _ _ _ _ _
    exact ⟨q0, q1, q2, q3, q4⟩
  · exact (((((Below.refl _ _).alloc (Nat.le_refl _) _).alloc (by simp) _).alloc (by simp; omega) _).alloc (by simp; omega) _).alloc (by simp; omega) _

/-! ### what is told of it -/
def emptyJ (s : ByteArray) : Bool := s.data.toList.isEmpty
theorem emptyB_eq (s : ByteArray) : emptyB s = emptyJ s := by unfold emptyB emptyJ; rw [ByteArray.toList_eq]
def nameFitsJ (kind : Int) (nm : ByteArray) : Bool :=
  if kind = 20 ∨ kind = 43 then emptyJ nm || nameOk nm.data.toList
  else if kind = 3 ∨ kind = 13 ∨ kind = 31 ∨ kind = 32 ∨ kind = 42 ∨ kind = 45 then nameOk nm.data.toList
  else emptyJ nm
theorem nameFitsJ_eq (k : Int) (nm : ByteArray) : nameFitsI k nm = nameFitsJ k nm := by unfold nameFitsI nameFitsJ; rw [emptyB_eq]
def checkNodeJ (l : List Nd) (fs : List Nat) (i : Nat) : Nat :=
  if kindI (ndN l i).kind = false ∨ (ndN l i).pos < 0 then 20
  else if numFitsI (ndN l i).kind (ndN l i).num (ndN l i).kids.length = false then 23
  else if nameFitsJ (ndN l i).kind (ndN l i).name = false then 22
  else if orderI fs i (ndN l i).kids = false ∨ kidsFitI (kdN l) (ndN l i).kind (ndN l i).num ((ndN l i).kids.map Int.toNat) = false then 21
  else if levelsFitI l (ndN l i) = false then 24
  else 0
theorem checkNodeJ_eq (l : List Nd) (fs : List Nat) (i : Nat) : checkNodeI l fs i = checkNodeJ l fs i := by unfold checkNodeI checkNodeJ; rw [nameFitsJ_eq]
def checkGoJ (l : List Nd) : Nat → List Nat → Nat × Nat
  | 0, fs => rootI l fs
  | m + 1, fs => if checkNodeJ l fs fs.length = 0 then checkGoJ l m (fs ++ [firstOf fs (ndN l fs.length) fs.length]) else (fs.length, checkNodeJ l fs fs.length)
theorem checkGoJ_eq (l : List Nd) : ∀ (m : Nat) (fs : List Nat), checkGo l m fs = checkGoJ l m fs
  | 0, fs => rfl
  | m + 1, fs => by rw [checkGo, checkGoJ, checkNodeJ_eq, checkGoJ_eq l m]
theorem check_sum : checkAll (sumL 32) = (0, 0) := by
  unfold checkAll
  rw [checkGoJ_eq]
  kernel_rfl
theorem check_mul : checkAll (sumL 41) = (4, 24) := by
  unfold checkAll
  rw [checkGoJ_eq]
  kernel_rfl
theorem itoa1 : Lib.itoa 1 = [49] := by unfold Lib.itoa; rw [if_neg (by omega), show (1 : Int).toNat = 1 from rfl, Lib.decDigits_one (by omega)]; rfl
theorem itoa2 : Lib.itoa 2 = [50] := by unfold Lib.itoa; rw [if_neg (by omega), show (2 : Int).toNat = 2 from rfl, Lib.decDigits_one (by omega)]; rfl
theorem itoa3 : Lib.itoa 3 = [51] := by unfold Lib.itoa; rw [if_neg (by omega), show (3 : Int).toNat = 3 from rfl, Lib.decDigits_one (by omega)]; rfl
def sumG : Nat → List (List UInt8)
  | 0 => [[49]]
  | 1 => [[50]]
  | 2 => [[49], [43], [50]]
  | 3 => [[51]]
  | 4 => [[49], [43], [50], [45], [51]]
  | 5 => [[49], [43], [50], [45], [51], [59]]
  | _ => [[49], [43], [50], [45], [51], [59]]
theorem sum_text : layT [] (sumG 6) = [49, 32, 43, 32, 50, 32, 45, 32, 51, 32, 59] := by rfl

/-- each node of the example is printed -/
theorem sum_nd (w0 : World) (B b s N : Nat) (h : SumAt w0 s 32) (hB : s + 5 ≤ B) (hL : LaidB w0 B) (hN : N ≤ 140737488355328) : ∀ k, k < 7 → NdC w0 B b (.slice (some ⟨s + 4, 0, none⟩) 7 7) N sumG k := by
  have n0 : NdC w0 B b (.slice (some ⟨s + 4, 0, none⟩) 7 7) N sumG 0 := node_expr w0 B b (s + 4) 0 7 N 7 0 11 0 1 none 0 0 ⟨#[]⟩ sumG (by omega) (by simp [maxLen]) (by omega) ⟨by rw [h.cell]; rfl, by rw [h.cell]; rfl, by rw [h.cell]; rfl, by rw [h.cell]; rfl, by rw [h.cell]; rfl⟩ rfl rfl
    (by have := pr_11 w0 B b (.slice (some ⟨s + 4, 0, none⟩) 7 7) N hN sumG none 0 0 1 [] ⟨#[]⟩ hL ⟨by omega, by omega⟩ (ints0 _ _) (fun k hk => by cases hk); rw [itoa1] at this; exact this)
  have n1 : NdC w0 B b (.slice (some ⟨s + 4, 0, none⟩) 7 7) N sumG 1 := node_expr w0 B b (s + 4) 0 7 N 7 1 11 0 2 none 0 0 ⟨#[]⟩ sumG (by omega) (by simp [maxLen]) (by omega) ⟨by rw [h.cell]; rfl, by rw [h.cell]; rfl, by rw [h.cell]; rfl, by rw [h.cell]; rfl, by rw [h.cell]; rfl⟩ rfl rfl
    (by have := pr_11 w0 B b (.slice (some ⟨s + 4, 0, none⟩) 7 7) N hN sumG none 0 0 2 [] ⟨#[]⟩ hL ⟨by omega, by omega⟩ (ints0 _ _) (fun k hk => by cases hk); rw [itoa2] at this; exact this)
  have n3 : NdC w0 B b (.slice (some ⟨s + 4, 0, none⟩) 7 7) N sumG 3 := node_expr w0 B b (s + 4) 0 7 N 7 3 11 0 3 none 0 0 ⟨#[]⟩ sumG (by omega) (by simp [maxLen]) (by omega) ⟨by rw [h.cell]; rfl, by rw [h.cell]; rfl, by rw [h.cell]; rfl, by rw [h.cell]; rfl, by rw [h.cell]; rfl⟩ rfl rfl
    (by have := pr_11 w0 B b (.slice (some ⟨s + 4, 0, none⟩) 7 7) N hN sumG none 0 0 3 [] ⟨#[]⟩ hL ⟨by omega, by omega⟩ (ints0 _ _) (fun k hk => by cases hk); rw [itoa3] at this; exact this)
  have n2 : NdC w0 B b (.slice (some ⟨s + 4, 0, none⟩) 7 7) N sumG 2 := node_expr w0 B b (s + 4) 0 7 N 7 2 22 0 31 (some ⟨s, 0, none⟩) 2 2 ⟨#[]⟩ sumG (by omega) (by simp [maxLen]) (by omega) ⟨by rw [h.cell]; rfl, by rw [h.cell]; rfl, by rw [h.cell]; rfl, by rw [h.cell]; rfl, by rw [h.cell]; rfl⟩ rfl rfl
    (pr_22 w0 B b (.slice (some ⟨s + 4, 0, none⟩) 7 7) N hN sumG (some ⟨s, 0, none⟩) 2 0 31 0 1 ⟨#[]⟩ (ints2 h.b0 (by omega)) (fun k hk => by simp at hk; rcases hk with rfl | rfl; exact n0; exact n1))
  have n4 : NdC w0 B b (.slice (some ⟨s + 4, 0, none⟩) 7 7) N sumG 4 := node_expr w0 B b (s + 4) 0 7 N 7 4 22 0 32 (some ⟨s + 1, 0, none⟩) 2 2 ⟨#[]⟩ sumG (by omega) (by simp [maxLen]) (by omega) ⟨by rw [h.cell]; rfl, by rw [h.cell]; rfl, by rw [h.cell]; rfl, by rw [h.cell]; rfl, by rw [h.cell]; rfl⟩ rfl rfl
    (pr_22 w0 B b (.slice (some ⟨s + 4, 0, none⟩) 7 7) N hN sumG (some ⟨s + 1, 0, none⟩) 2 0 32 2 3 ⟨#[]⟩ (ints2 h.b1 (by omega)) (fun k hk => by simp at hk; rcases hk with rfl | rfl; exact n2; exact n3))
  have n5 : NdC w0 B b (.slice (some ⟨s + 4, 0, none⟩) 7 7) N sumG 5 := node_stat w0 B b (s + 4) 0 7 N 7 5 35 0 0 (some ⟨s + 2, 0, none⟩) 1 1 ⟨#[]⟩ sumG (by omega) (by simp [maxLen]) (by omega) ⟨by rw [h.cell]; rfl, by rw [h.cell]; rfl, by rw [h.cell]; rfl, by rw [h.cell]; rfl, by rw [h.cell]; rfl⟩ rfl rfl rfl
    (pr_35 w0 B b (.slice (some ⟨s + 4, 0, none⟩) 7 7) N hN sumG (some ⟨s + 2, 0, none⟩) 1 0 0 [4] ⟨#[]⟩ (ints1 h.b2 (by omega)) (fun k hk => by simp at hk; subst hk; exact n4))
  have n6 : NdC w0 B b (.slice (some ⟨s + 4, 0, none⟩) 7 7) N sumG 6 := node_other w0 B b (s + 4) 0 7 N 7 6 46 0 0 (some ⟨s + 3, 0, none⟩) 1 1 ⟨#[]⟩ sumG (by omega) (by simp [maxLen]) (by omega) ⟨by rw [h.cell]; rfl, by rw [h.cell]; rfl, by rw [h.cell]; rfl, by rw [h.cell]; rfl, by rw [h.cell]; rfl⟩ rfl rfl rfl
    (pr_46 w0 B b (.slice (some ⟨s + 4, 0, none⟩) 7 7) N hN sumG (some ⟨s + 3, 0, none⟩) 1 0 0 [5] ⟨#[]⟩ (ints1 h.b3 (by omega)) (fun k hk => by simp at hk; subst hk; exact n5))
  intro k hk
  match k, hk with
  | 0, _ => exact n0
  | 1, _ => exact n1
  | 2, _ => exact n2
  | 3, _ => exact n3
  | 4, _ => exact n4
  | 5, _ => exact n5
  | 6, _ => exact n6

structure LaidP (w : World) : Prop where
  laid : Laid w
  pow : Lib.TabIs Tryd.prog w "internal/strconv.uint64pow10" .u64 Lib.pow10Tab
  size : 7 ≤ w.heap.size
theorem LaidP.below {w w' : World} (h : LaidP w) (hb : Below w.heap.size w w') : LaidP w' :=
  ⟨h.laid.below hb, var?_below hb pow_glob (by have := h.size; omega) h.pow, Nat.le_trans h.size hb.size⟩

/-- a new printer -/
theorem new_pb (w : World) (lv : Value) : PB (w.alloc (.cells #[lv, .pointer none, .slice none 0 0] 55)) w.heap.size w.heap.size lv [] :=
  ⟨⟨.pointer none, .slice none 0 0, .inl rfl, heap_alloc_new w _, World.ownsRow_nil _ _ _ _, fun _ => rfl⟩, Nat.le_refl _, by simp⟩

set_option maxRecDepth 100000 in
set_option maxHeartbeats 2000000 in
theorem Print_sum (w : World) (s : Nat) (h : SumAt w s 32) (hL : LaidP w) :
    Calls Tryd.prog 12 #[.slice (some ⟨s + 4, 0, none⟩) 7 7] w fun e w' => e = .returned (.tuple #[.string ⟨#[49, 32, 43, 32, 50, 32, 45, 32, 51, 32, 59]⟩, .int .i64 0]) ∧ Below w.heap.size w w' := by
  have hlt := h.lt
  have HC : Bx _ := ⟨Check_some w (s + 5) (s + 4) 0 7 (sumL 32) (h.nodes ⟨by omega, by omega⟩) hL.laid (by simp [sumL]) (by simp [sumL])⟩
  rw [check_sum] at HC
  have HN : Bx (∀ w1, Below w.heap.size w w1 → Calls Tryd.prog 22 #[.pointer (some ⟨w1.heap.size, 0, none⟩), .int .i64 6] (w1.alloc (.cells #[.slice (some ⟨s + 4, 0, none⟩) 7 7, .pointer none, .slice none 0 0] 55)) fun e W' => e = .returned (.tuple #[]) ∧ PB W' w1.heap.size w1.heap.size (.slice (some ⟨s + 4, 0, none⟩) 7 7) (layT [] (sumG 6)) ∧ Below w.heap.size w W') := ⟨fun w1 hb1 => by
    have hz := hb1.size
    have hb2 : Below w1.heap.size w1 (w1.alloc (.cells #[.slice (some ⟨s + 4, 0, none⟩) 7 7, .pointer none, .slice none 0 0] 55)) := below1 w1 _
    have hL2 := (hL.below hb1).below hb2
    have hS2 : SumAt _ s 32 := (h.below hb1 (by omega)).below hb2 (by omega)
    have hn := sum_nd _ w1.heap.size w1.heap.size s 1000 hS2 (by omega) ⟨hL2.laid, hL2.pow, by have := hL.size; omega⟩ (by omega) 6 (by omega)
    refine (hn _ [] ⟨new_pb w1 _, Below.refl _ _⟩ (by decide)).mono ?_
    rintro e W' ⟨rfl, q1, q2, q3⟩
    exact ⟨rfl, q1.pb, (hb1.trans (hb2.mono hz)).trans (q1.bel.mono hz)⟩⟩
  rw [sum_text] at HN
  clear h hL
  go_enter Tryd.func12, Tryd.ntmps12
  go_wp2_with (first
    | (go_at_call 14; refine Calls.mono HC.out ?_; rintro e w1 ⟨rfl, hb1⟩; have hz1 := hb1.size)
    | (go_at_call 22; refine Calls.mono (HN.out _ hb1) ?_; rintro e w2 ⟨rfl, hp2, hb2⟩; have hl2 := hp2.lt)
    | (go_at_call 23; refine Calls.mono (String_some _ _ _ _ _ hp2 (by simp)) ?_; rintro e w3 ⟨rfl, hb3⟩))
  go_ret2
  exact ⟨rfl, hb2.trans (hb3.mono hz1)⟩

theorem SumAt.mul {W : World} {s : Nat} (h : SumAt W s 32) : SumAt (W.setCell ⟨s + 4, 24, none⟩ (.int .i64 41)) s 41 := by
  refine ⟨?_, ?_, ?_, ?_, ?_⟩
  · rw [heap_setCell_other W ⟨s + 4, 24, none⟩ s _ (by simp)]; exact h.b0
  · rw [heap_setCell_other W ⟨s + 4, 24, none⟩ (s + 1) _ (by simp)]; exact h.b1
  · rw [heap_setCell_other W ⟨s + 4, 24, none⟩ (s + 2) _ (by simp)]; exact h.b2
  · rw [heap_setCell_other W ⟨s + 4, 24, none⟩ (s + 3) _ (by simp)]; exact h.b3
  · rw [heap_setCell_same W (s + 4) 24 (sumC s 32) 24 _ h.b4]
    rfl

set_option maxRecDepth 100000 in
set_option maxHeartbeats 4000000 in
theorem shown_any (w : World) (hL : LaidP w) : Calls Tryd.prog 8 #[] w fun e w' => e = .returned (.bool true) ∧ Below w.heap.size w w' := by
  have HS : Bx _ := ⟨sum_any w⟩
  have HL : Bx (∀ W, Below w.heap.size w W → LaidP W) := ⟨fun W hb => hL.below hb⟩
  have HC1 : Bx (∀ W, SumAt W w.heap.size 32 → LaidP W → Calls Tryd.prog 14 #[.slice (some ⟨w.heap.size + 4, 0, none⟩) 7 7] W fun e w' => e = .returned (.tuple #[.int .i64 0, .int .i64 0]) ∧ Below W.heap.size W w') := ⟨fun W h hl => by
    have := Check_some W (w.heap.size + 5) (w.heap.size + 4) 0 7 (sumL 32) (h.nodes ⟨by omega, by omega⟩) hl.laid (by simp [sumL]) (by simp [sumL])
    rw [check_sum] at this
    exact this⟩
  have HC2 : Bx (∀ W, SumAt W w.heap.size 41 → LaidP W → Calls Tryd.prog 14 #[.slice (some ⟨w.heap.size + 4, 0, none⟩) 7 7] W fun e w' => e = .returned (.tuple #[.int .i64 4, .int .i64 24]) ∧ Below W.heap.size W w') := ⟨fun W h hl => by
    have := Check_some W (w.heap.size + 5) (w.heap.size + 4) 0 7 (sumL 41) (h.nodes ⟨by omega, by omega⟩) hl.laid (by simp [sumL]) (by simp [sumL])
    rw [check_mul] at this
    exact this⟩
  have HH : Bx (∀ W, SumAt W w.heap.size 41 → Calls Tryd.prog 16 #[.slice (some ⟨w.heap.size + 4, 0, none⟩) 7 7] W fun e w' => e = .returned (.slice (some ⟨W.heap.size, 0, none⟩) 7 7) ∧ Below W.heap.size W w') := ⟨fun W h => (Height_some W (w.heap.size + 5) (w.heap.size + 4) 0 7 (sumL 41) (h.nodes ⟨by omega, by omega⟩) (by simp [sumL]) (by simp [sumL])).mono (fun e w' h => ⟨h.1, h.2.2⟩)⟩
  have HV : Bx (∀ W, Calls Tryd.prog 9 #[.agg #[.int .i64 22, .int .i64 0, .slice (some ⟨w.heap.size + 1, 0, none⟩) 2 2, .string ⟨#[]⟩, .int .i64 41]] W fun e w' => e = .returned (.int .i64 5) ∧ Below W.heap.size W w') := ⟨fun W => Level_any (some ⟨w.heap.size + 1, 0, none⟩) 2 ⟨22, 0, [2, 3], ⟨#[]⟩, 41⟩ W⟩
  have T1 : Bx True := ⟨trivial⟩
  have T2 : Bx True := ⟨trivial⟩
  clear hL
  go_enter Tryd.func8, Tryd.ntmps8
  go_wp2_with (first
    | (go_at_call 17; refine Calls.mono HS.out ?_; rintro e w1 ⟨rfl, hs1, hb1⟩; have HS1 : Bx _ := ⟨hs1⟩; have hz1 := hs1.lt; clear hs1)
    | (go_at_call 14; clear T1; refine Calls.mono (HC1.out _ HS1.out (HL.out _ hb1)) ?_; rintro e w2 ⟨rfl, hb2⟩; have HS2 : Bx _ := ⟨HS1.out.below hb2 (by omega)⟩; have hz2 := hb2.size; have hb02 := hb1.trans (hb2.mono (by omega)))
    | (go_at_call 12; refine Calls.mono (Print_sum _ _ HS2.out (HL.out _ hb02)) ?_; rintro e w3 ⟨rfl, hb3⟩; have HS3 : Bx _ := ⟨HS2.out.below hb3 (by omega)⟩; have hz3 := hb3.size; have hb03 := hb02.trans (hb3.mono (by omega)); have c24 := HS3.out.cell 24; have hc24 : w3.cell? ⟨w.heap.size + 4, 24, none⟩ = some (.int .i64 32) := (by rw [c24]; rfl); have hf24 : w3.frozen? ⟨w.heap.size + 4, 24, none⟩ = false := (by simp [World.frozen?, HS3.out.b4]); clear c24; have HS4 : Bx _ := ⟨HS3.out.mul⟩; have hb04 := Below.setCell (p := ⟨w.heap.size + 4, 24, none⟩) hb03 (by simp) (.int .i64 41))
    | (go_at_call 14; clear T2; refine Calls.mono (HC2.out _ HS4.out (HL.out _ hb04)) ?_; rintro e w5 ⟨rfl, hb5⟩; have hz5 := hb5.size; have HS5 : Bx _ := ⟨HS4.out.below hb5 (by simp; omega)⟩; have hb05 := hb04.trans (hb5.mono (by simp; omega)))
    | (go_at_call 14; refine Calls.mono (Check_none _ _ _) ?_; rintro e w6 ⟨rfl, hb6⟩; have hz6 := hb6.size; simp at hz5; have HS6 : Bx _ := ⟨HS5.out.below hb6 (by omega)⟩; have hb06 := hb05.trans (hb6.mono (by omega)))
    | (go_at_call 16; refine Calls.mono (HH.out _ HS6.out) ?_; rintro e w7 ⟨rfl, hb7⟩; have HS7 : Bx _ := ⟨HS6.out.below hb7 (by omega)⟩; have hb07 := hb06.trans (hb7.mono (by omega)); obtain ⟨l0, l1, l2, l3, l4⟩ : Five w7 (w.heap.size + 4) 20 22 0 (some ⟨w.heap.size + 1, 0, none⟩) 2 2 ⟨#[]⟩ 41 := ⟨(HS7.out.cell 20).trans rfl, (HS7.out.cell 21).trans rfl, (HS7.out.cell 22).trans rfl, (HS7.out.cell 23).trans rfl, (HS7.out.cell 24).trans rfl⟩)
    | (go_at_call 9; refine Calls.mono (HV.out _) ?_; rintro e w8 ⟨rfl, hb8⟩))
  go_ret
  exact ⟨rfl, hb07.trans (hb8.mono hb07.size)⟩
end Go.Proofs.YtfocggaocadkmaaDoor
