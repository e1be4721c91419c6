import Derived.Test.YtecpknpcjoiliabDoorCUW
namespace Go.Proofs.YtecpknpcjoiliabDoor
open Go.RowKit
set_option linter.unusedVariables false
set_option linter.unusedSimpArgs false

/-- the reader: the line's number, the function for its words, what stands behind it -/
def RS (w : World) (rb k : Nat) (nx : Value) (rest : List UInt8) : Prop := w.heap[rb]? = some (.cells #[.int .i64 k, nx, strV rest] 60 (0, 0))
abbrev wrV (k : Nat) (c : Int) : Value := .iface 47 (.agg #[.int .i64 k, .int .i64 c])
theorem wrong_any (w : World) (rb k : Nat) (nx : Value) (rest : List UInt8) (c : Int) (h : RS w rb k nx rest) :
    Calls Tryd.prog 30 #[.pointer (some ⟨rb, 0, none⟩), .int .i64 c] w fun e w' => e = .returned (wrV k c) ∧ w' = w := by
  have c0 : w.cell? ⟨rb, 0, none⟩ = some (.int .i64 k) := cell_blk h rfl
  clear h
  go_enter Tryd.func30, Tryd.ntmps30
  go_wp2
  go_ret
  exact ⟨rfl, rfl⟩
theorem RS.line {w : World} {rb k : Nat} {nx : Value} {rest : List UInt8} (h : RS w rb k nx rest) (j : Nat) : RS (w.setCell ⟨rb, 0, none⟩ (.int .i64 j)) rb j nx rest := by
  have := Lib.heap_setCell_same (i := 0) h (.int .i64 j)
  unfold RS
  simpa using this
theorem RS.next {w : World} {rb k : Nat} {nx : Value} {rest : List UInt8} (h : RS w rb k nx rest) (v : Value) : RS (w.setCell ⟨rb, 1, none⟩ v) rb k v rest := by
  have := Lib.heap_setCell_same (i := 1) h v
  unfold RS
  simpa using this
theorem RS.rest {w : World} {rb k : Nat} {nx : Value} {rest : List UInt8} (h : RS w rb k nx rest) (r : List UInt8) : RS (w.setCell ⟨rb, 2, none⟩ (strV r)) rb k nx r := by
  have := Lib.heap_setCell_same (i := 2) h (strV r)
  unfold RS
  simpa using this
theorem RS.below {w w' : World} {rb k : Nat} {nx : Value} {rest : List UInt8} (h : RS w rb k nx rest) (hb : Below w.heap.size w w') : RS w' rb k nx rest := below_heap hb h
theorem RS.cells {w : World} {rb k : Nat} {nx : Value} {rest : List UInt8} (h : RS w rb k nx rest) : w.cell? ⟨rb, 0, none⟩ = some (.int .i64 k) ∧ w.cell? ⟨rb, 1, none⟩ = some nx ∧ w.cell? ⟨rb, 2, none⟩ = some (strV rest) ∧ w.frozen? ⟨rb, 0, none⟩ = false ∧ w.frozen? ⟨rb, 1, none⟩ = false ∧ w.frozen? ⟨rb, 2, none⟩ = false :=
  ⟨cell_blk h rfl, cell_blk h rfl, cell_blk h rfl, frz_blk h, frz_blk h, frz_blk h⟩
set_option maxRecDepth 100000 in
set_option maxHeartbeats 2000000 in
theorem begin_no (w : World) (rb k : Nat) (nx : Value) (rest : List UInt8) (h : RS w rb k nx rest) (h10 : (10 : UInt8) ∉ rest) (hk : k ≤ 1152921504606846976) :
    Calls Tryd.prog 29 #[.pointer (some ⟨rb, 0, none⟩)] w fun e w' => e = .returned (.tuple #[strV [], wrV (k + 1) 170]) ∧ Kx (fun x => x = rb) w w' := by
  have HC : Bx (Calls Tryd.prog 40 #[strV rest, strV [10]] w fun e w' => e = .returned (.tuple #[strV rest, strV [], .bool false]) ∧ Below w.heap.size w w') := ⟨Cut_any rest rest _ false 10 w (cut0_miss rest 10 w h10)⟩
  have HD : Bx (∀ w1, Below w.heap.size w w1 → RS w1 rb k nx rest) := ⟨fun w1 hb => h.below hb⟩
  have HF : Bx (∀ w1, Below w.heap.size w w1 → RS (w1.setCell ⟨rb, 0, none⟩ (.int .i64 ((k : Int) + 1))) rb (k + 1) nx rest) := ⟨fun w1 hb => (h.below hb).line (k + 1)⟩
  have c2 : w.cell? ⟨rb, 2, none⟩ = some (strV rest) := h.cells.2.2.1
  have kk : (k : Int) ≤ 1152921504606846976 := by omega
  clear h h10
  go_enter Tryd.func29, Tryd.ntmps29
  go_wp2_with (first
    | (go_at_call 40; refine HC.out.mono ?_; rintro e w1 ⟨rfl, hb1⟩; obtain ⟨x0, x1, x2, y0, y1, y2⟩ := (HD.out w1 hb1).cells; have HB1 : Bx _ := ⟨hb1⟩; clear hb1)
    | (go_at_call 30; refine (wrong_any _ rb (k + 1) nx rest 170 (HF.out w1 HB1.out)).mono ?_; rintro e w2 ⟨rfl, rfl⟩))
  go_ret2
  exact ⟨rfl, (Kx.new HB1.out).trans (Kx.set (P := fun x => x = rb) _ 0 _ rfl) fun _ _ h => h⟩
/-- what begin leaves -/
structure BgP (w : World) (rb k : Nat) (rest : List UInt8) (P : List (List UInt8)) (w' : World) : Prop where
  ex : ∃ lb mb, RS w' rb k (nextV lb mb) rest ∧ Nx w' lb mb P ∧ w.heap.size ≤ lb ∧ w.heap.size ≤ mb
  kx : Kx (fun x => x = rb) w w'
set_option maxRecDepth 100000 in
set_option maxHeartbeats 2000000 in
theorem begin_yes (w : World) (rb k : Nat) (nx : Value) (line rest : List UInt8) (h : RS w rb k nx (line ++ 10 :: rest)) (h10 : (10 : UInt8) ∉ line) (hk : k ≤ 1152921504606846976) (hlen : (line ++ 10 :: rest).length ≤ 281474976710656) :
    Calls Tryd.prog 29 #[.pointer (some ⟨rb, 0, none⟩)] w fun e w' => e = .returned (.tuple #[strV (pieces 32 line).1, .nilIface]) ∧ Bx (BgP w rb (k + 1) rest (pieces 32 line).2 w') := by
  have HC : Bx (Calls Tryd.prog 40 #[strV (line ++ 10 :: rest), strV [10]] w fun e w' => e = .returned (.tuple #[strV line, strV rest, .bool true]) ∧ Below w.heap.size w w') := ⟨Cut_any (line ++ 10 :: rest) line _ true 10 w (cut0_hit line rest 10 w h10 (by omega))⟩
  have hrb := heap_lt h
  have HLN : Bx (line.length ≤ 281474976710656) := ⟨by simp at hlen; omega⟩
  have HD : Bx (∀ w1, Below w.heap.size w w1 → RS w1 rb k nx (line ++ 10 :: rest)) := ⟨fun w1 hb => h.below hb⟩
  have HF : Bx (∀ w1, Below w.heap.size w w1 → RS (w1.setCell ⟨rb, 0, none⟩ (.int .i64 ((k : Int) + 1))) rb (k + 1) nx (line ++ 10 :: rest)) := ⟨fun w1 hb => (h.below hb).line (k + 1)⟩
  have c2 : w.cell? ⟨rb, 2, none⟩ = some (strV (line ++ 10 :: rest)) := h.cells.2.2.1
  have kk : (k : Int) ≤ 1152921504606846976 := by omega
  clear h h10 hlen
  generalize line ++ 10 :: rest = T at *
  have HG : Bx (∀ w1 w3, Below w.heap.size w w1 → Below (w1.setCell ⟨rb, 0, none⟩ (.int .i64 ((k : Int) + 1))).heap.size (w1.setCell ⟨rb, 0, none⟩ (.int .i64 ((k : Int) + 1))) w3 → RS w3 rb (k + 1) nx T) := ⟨fun w1 w3 h1 h3 => (HF.out w1 h1).below h3⟩
  have HN : Bx (∀ w1 w3 lb mb, Below w.heap.size w w1 → w1.heap.size = lb → w1.heap.size + 1 = mb → Below (w1.setCell ⟨rb, 0, none⟩ (.int .i64 ((k : Int) + 1))).heap.size (w1.setCell ⟨rb, 0, none⟩ (.int .i64 ((k : Int) + 1))) w3 → Nx w3 lb mb ((pieces 32 line).1 :: (pieces 32 line).2) →
      Nx ((w3.setCell ⟨rb, 1, none⟩ (nextV lb mb)).setCell ⟨rb, 2, none⟩ (strV rest)) lb mb ((pieces 32 line).1 :: (pieces 32 line).2) ∧ RS ((w3.setCell ⟨rb, 1, none⟩ (nextV lb mb)).setCell ⟨rb, 2, none⟩ (strV rest)) rb (k + 1) (nextV lb mb) rest ∧ Kx (fun x => x = rb) w ((w3.setCell ⟨rb, 1, none⟩ (nextV lb mb)).setCell ⟨rb, 2, none⟩ (strV rest)) ∧ w.heap.size ≤ lb ∧ w.heap.size ≤ mb) := ⟨fun w1 w3 lb mb h1 e1 e2 h3 hn => by
    have s1 := h1.size
    have q : Kx (fun x => x = rb) w3 ((w3.setCell ⟨rb, 1, none⟩ (nextV lb mb)).setCell ⟨rb, 2, none⟩ (strV rest)) := (Kx.set (P := fun x => x = rb) w3 1 _ rfl).trans (Kx.set (P := fun x => x = rb) _ 2 _ rfl) fun _ _ h => h
    refine ⟨hn.on q (by omega) (by omega), ((HG.out w1 w3 h1 h3).next _).rest _, ?_, by omega, by omega⟩
    refine (((Kx.new h1).trans (Kx.set (P := fun x => x = rb) w1 0 _ rfl) fun _ _ h => h).trans (Kx.new (P := fun x => x = rb) h3) fun _ _ h => h).trans q fun _ _ h => h⟩
  have HW : Bx (∀ w1 : World, Calls Tryd.prog 41 #[strV line] (w1.setCell ⟨rb, 0, none⟩ (.int .i64 ((k : Int) + 1))) fun e w' => ∃ lb mb, w1.heap.size = lb ∧ w1.heap.size + 1 = mb ∧ e = .returned (nextV lb mb) ∧ Nx w' lb mb ((pieces 32 line).1 :: (pieces 32 line).2) ∧ Below (w1.setCell ⟨rb, 0, none⟩ (.int .i64 ((k : Int) + 1))).heap.size (w1.setCell ⟨rb, 0, none⟩ (.int .i64 ((k : Int) + 1))) w') := ⟨fun w1 => (words_any line _ HLN.out).mono fun e w' h => ⟨_, _, by simp, by simp, h.1, h.2.1, h.2.2.2⟩⟩
  generalize (pieces 32 line).1 = wd at *
  generalize (pieces 32 line).2 = P at *
  have HE : Bx (∀ X w5 lb mb, Kx (fun x => x = rb) w X → RS X rb (k + 1) (nextV lb mb) rest → w.heap.size ≤ lb → w.heap.size ≤ mb → Nx w5 lb mb P → Kx (fun x => x = lb ∨ x = mb) X w5 → BgP w rb (k + 1) rest P w5) := ⟨fun X w5 lb mb hk hr h1 h2 hn h5 => ⟨⟨lb, mb, h5.at_ hr (by omega), hn, h1, h2⟩, hk.trans h5 fun x hx q => by omega⟩⟩
  go_enter Tryd.func29, Tryd.ntmps29
  go_wp2_with (first
    | (go_at_call 40; refine HC.out.mono ?_; rintro e w1 ⟨rfl, hb1⟩; obtain ⟨x0, x1, x2, y0, y1, y2⟩ := (HD.out w1 hb1).cells; have HB1 : Bx _ := ⟨hb1⟩; clear hb1 c2)
    | (go_at_call 41; refine (HW.out w1).mono ?_; rintro e w3 ⟨lb, mb, e1, e2, rfl, hn, hb3⟩; obtain ⟨a0, a1, a2, b0, b1, b2⟩ := (HG.out w1 w3 HB1.out hb3).cells; have hst : (store ⟨rb, 1, none⟩ (nextV lb mb)).run Tryd.prog w3 = .ok () (w3.setCell ⟨rb, 1, none⟩ (nextV lb mb)) := (by rw [run_store Tryd.prog w3 _ _ _ (by rfl)]; simp [a1, b1]); have HB3 : Bx _ := ⟨HN.out w1 w3 lb mb HB1.out e1 e2 hb3 hn⟩; clear hb3 hn e1 e2 x0 x1 x2 y0 y1 y2)
    | (go_at_call 46; refine (next_yes _ lb mb wd P HB3.out.1).mono ?_; rintro e w5 ⟨rfl, hn5, hk5⟩; have HB5 : Bx _ := ⟨HE.out _ w5 lb mb HB3.out.2.2.1 HB3.out.2.1 HB3.out.2.2.2.1 HB3.out.2.2.2.2 hn5 hk5⟩; clear hn5 hk5))
  go_ret2
  exact ⟨rfl, HB5⟩
end Go.Proofs.YtecpknpcjoiliabDoor
