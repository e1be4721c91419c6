import Derived.Test.YtblhklbpcalglaaGreatDoorCTH
namespace Go.Proofs.YtblhklbpcalglaaGreatDoor
open Go.RowKit
set_option linter.unusedVariables false
set_option linter.unusedSimpArgs false
def ParQ (w : World) (R : List Nd × Int × Int) (e : Ending) (w' : World) : Prop :=
  ∃ nv, e = .returned (.tuple #[nv, .agg #[.int .i64 R.2.1, .int .i64 R.2.2]]) ∧ Below w.heap.size w w' ∧ (R.2.2 ≠ 0 → nv = .slice none 0 0) ∧ (R.2.2 = 0 → ∃ rb, w.heap.size ≤ rb ∧ NodesO (fun _ => False) w' rb nv R.1)
theorem two_kept {W : World} {p q : Nat} {u v : Value} (h : p < q) (c0 : W.cell? ⟨q, 0, none⟩ = some u) (c1 : W.cell? ⟨q, 1, none⟩ = some v) (x y : Value) : ((W.setCell ⟨p, 0, none⟩ x).setCell ⟨p, 1, none⟩ y).cell? ⟨q, 0, none⟩ = some u ∧ ((W.setCell ⟨p, 0, none⟩ x).setCell ⟨p, 1, none⟩ y).cell? ⟨q, 1, none⟩ = some v := by
  have e : ((W.setCell ⟨p, 0, none⟩ x).setCell ⟨p, 1, none⟩ y).heap[q]? = W.heap[q]? := by
    rw [Below.heap_setCell _ _ _ _ (by show q ≠ p; omega), Below.heap_setCell _ _ _ _ (by show q ≠ p; omega)]
  simp only [World.cell?] at c0 c1 ⊢
  rw [e]
  exact ⟨c0, c1⟩
set_option maxRecDepth 100000 in
set_option maxHeartbeats 1000000 in
theorem Parse_scan (w : World) (hL : Laid w) (a : Option Addr) (cap : Nat) (xs : List UInt8) (hs : IsSrc w a cap xs) (nest : Int) (A C : Nat) (hA : (scanAll xs).2 = (A, C)) (hC : C ≠ 0) :
    Calls Tryz.prog 5 #[.slice a xs.length cap, .int .i64 nest] w (ParQ w ([], A, C)) := by
  obtain ⟨W1, hW1⟩ : ∃ W1, w.alloc (.cells #[.int .i64 0, .int .i64 0] 27) = W1 := ⟨_, rfl⟩
  have b1 : Below w.heap.size w W1 := by rw [← hW1]; exact below1 _ _
  have hz1 : W1.heap.size = w.heap.size + 1 := by rw [← hW1]; simp
  have c1 : W1.heap[w.heap.size]? = some (.cells #[.int .i64 0, .int .i64 0] 27 (0, 0)) := by rw [← hW1]; exact heap_alloc_new _ _
  have HC := Scan_any a cap xs W1 (hs.below b1) (hL.below b1)
  rw [hA] at HC
  have HS : Bx _ := ⟨HC⟩
  have HW : Bx (w.alloc (.cells #[.int .i64 0, .int .i64 0] 27) = W1) := ⟨hW1⟩
  have H1 : Bx (Below w.heap.size w W1 ∧ W1.heap.size = w.heap.size + 1 ∧ W1.heap[w.heap.size]? = some (.cells #[.int .i64 0, .int .i64 0] 27 (0, 0))) := ⟨b1, hz1, c1⟩
  have hC' : (C : Int) ≠ 0 := by omega
  clear hW1 b1 hz1 c1 HC hs hL hA
  go_enter Tryz.func5, Tryz.ntmps5
  go_wp2_with (first | (go_at_call 6; rw [HW.out]; refine Calls.mono HS.out ?_; rintro e W2 ⟨v, rfl, hv, hb⟩; rw [H1.out.2.1] at hb; have HB2 : Bx (Below w.heap.size w W2 ∧ Below (w.heap.size + 1) W1 W2) := ⟨H1.out.1.trans (hb.mono (by omega)), hb⟩; clear hb hv))
  obtain ⟨W3, hW3⟩ : ∃ W3, W2.alloc (.cells #[.int .i64 (A : Int), .int .i64 (C : Int)] 27) = W3 := ⟨_, rfl⟩
  have hlt : w.heap.size < W2.heap.size := by have := HB2.out.2.size; have := H1.out.2.1; omega
  have f0 : W3.heap[W2.heap.size]? = some (.cells #[.int .i64 (A : Int), .int .i64 (C : Int)] 27 (0, 0)) := by rw [← hW3]; exact heap_alloc_new _ _
  have g0 : W3.heap[w.heap.size]? = some (.cells #[.int .i64 0, .int .i64 0] 27 (0, 0)) := by
    rw [← hW3, (below1 W2 _).block _ hlt, HB2.out.2.block _ (by omega)]
    exact H1.out.2.2
  have b3 : Below w.heap.size w W3 := HB2.out.1.trans (by rw [← hW3]; exact (below1 W2 _).mono (by omega))
  have HB3 : Bx (Below w.heap.size w W3) := ⟨b3⟩
  have c0 : W3.cell? ⟨W2.heap.size, 0, none⟩ = some (.int .i64 A) := by simp [World.cell?, f0]
  have c1 : W3.cell? ⟨W2.heap.size, 1, none⟩ = some (.int .i64 C) := by simp [World.cell?, f0]
  have d0 : W3.cell? ⟨w.heap.size, 0, none⟩ = some (.int .i64 0) := by simp [World.cell?, g0]
  have d1 : W3.cell? ⟨w.heap.size, 1, none⟩ = some (.int .i64 0) := by simp [World.cell?, g0]
  have e0 : W3.frozen? ⟨w.heap.size, 0, none⟩ = false := by simp [World.frozen?, g0]
  have e1 : W3.frozen? ⟨w.heap.size, 1, none⟩ = false := by simp [World.frozen?, g0]
  have HKp : Bx (∀ x y, ((W3.setCell ⟨w.heap.size, 0, none⟩ x).setCell ⟨w.heap.size, 1, none⟩ y).cell? ⟨W2.heap.size, 0, none⟩ = some (.int .i64 (A : Int)) ∧ ((W3.setCell ⟨w.heap.size, 0, none⟩ x).setCell ⟨w.heap.size, 1, none⟩ y).cell? ⟨W2.heap.size, 1, none⟩ = some (.int .i64 (C : Int))) := ⟨fun x y => two_kept hlt c0 c1 x y⟩
  clear f0 g0 b3
  rw [hW3]
  clear hW3
  go_region_held3 (fun w' => w'.cell? ⟨W2.heap.size, 0, none⟩ = some (.int .i64 (A : Int)) ∧ w'.cell? ⟨W2.heap.size, 1, none⟩ = some (.int .i64 (C : Int))) (first | exact ⟨c0, c1⟩ | exact HKp.out _ _) (fail)
  go_wp2
  refine bodyPost_ret (v := .tuple #[.slice none 0 0, .agg #[.int .i64 (A : Int), .int .i64 (C : Int)]]) (by simp [results, Tryz.results5, go_sem, d0, d1]) rfl ⟨_, rfl, ((HB3.out.setCell (p := ⟨w.heap.size, 0, none⟩) (Nat.le_refl _) _).setCell (p := ⟨w.heap.size, 1, none⟩) (Nat.le_refl _) _).drew, fun _ => rfl, fun h => absurd h hC'⟩
end Go.Proofs.YtblhklbpcalglaaGreatDoor
namespace Go.Proofs.YtblhklbpcalglaaGreatDoor
open Go.RowKit
set_option linter.unusedVariables false
set_option linter.unusedSimpArgs false
structure TS (w W : World) (q : Nat) (A C : Int) : Prop where
  bel : Below w.heap.size w W
  hlt : w.heap.size < q
  t7 : W.heap[q]? = some (.cells #[.int .i64 A, .int .i64 C] 27 (0, 0))
  t5 : W.heap[w.heap.size]? = some (.cells #[.int .i64 0, .int .i64 0] 27 (0, 0))
theorem TS.cells {w W : World} {q : Nat} {A C : Int} (h : TS w W q A C) : W.cell? ⟨q, 0, none⟩ = some (.int .i64 A) ∧ W.cell? ⟨q, 1, none⟩ = some (.int .i64 C) ∧ W.cell? ⟨w.heap.size, 0, none⟩ = some (.int .i64 0) ∧ W.cell? ⟨w.heap.size, 1, none⟩ = some (.int .i64 0) ∧ W.frozen? ⟨w.heap.size, 0, none⟩ = false ∧ W.frozen? ⟨w.heap.size, 1, none⟩ = false ∧ W.frozen? ⟨q, 0, none⟩ = false ∧ W.frozen? ⟨q, 1, none⟩ = false ∧ q < W.heap.size ∧ w.heap.size < W.heap.size := by
  refine ⟨?_, ?_, ?_, ?_, ?_, ?_, ?_, ?_, heapLt h.t7, heapLt h.t5⟩ <;> simp [World.cell?, World.frozen?, h.t7, h.t5]
theorem TS.set {w W : World} {q : Nat} {A C : Int} (h : TS w W q A C) (A' C' : Int) : TS w ((W.setCell ⟨q, 0, none⟩ (.int .i64 A')).setCell ⟨q, 1, none⟩ (.int .i64 C')) q A' C' := by
  have hl := h.hlt
  refine ⟨(h.bel.setCell (p := ⟨q, 0, none⟩) (by show w.heap.size ≤ q; omega) _).setCell (p := ⟨q, 1, none⟩) (by show w.heap.size ≤ q; omega) _, hl, ?_, ?_⟩
  · have h1 := heap_setCell_same W q 0 _ 27 (.int .i64 A') h.t7
    have h2 := heap_setCell_same _ q 1 _ 27 (.int .i64 C') h1
    rw [h2]
    rfl
  · rw [heap_setCell_other _ ⟨q, 1, none⟩ _ _ (by show w.heap.size ≠ q; omega), heap_setCell_other _ ⟨q, 0, none⟩ _ _ (by show w.heap.size ≠ q; omega)]
    exact h.t5
theorem TS.below {w W W' : World} {q : Nat} {A C : Int} (h : TS w W q A C) (hb : Below W.heap.size W W') : TS w W' q A C := by
  have h1 := heapLt h.t7
  have h2 := heapLt h.t5
  exact ⟨h.bel.trans (hb.mono (by omega)), h.hlt, (hb.block _ h1).trans h.t7, (hb.block _ h2).trans h.t5⟩
theorem read_at (w W1 : World) (hL : Laid w) (h7 : 7 ≤ w.heap.size) (hb1 : Below w.heap.size w W1) (hz1 : W1.heap.size = w.heap.size + 1) (c1 : W1.heap[w.heap.size]? = some (.cells #[.int .i64 0, .int .i64 0] 27 (0, 0))) (a : Option Addr) (cap : Nat) (xs : List UInt8) (hs : IsSrc w a cap xs) (h0 : (scanAll xs).2.2 = 0) (A C : Int) (v : Value) (W2 W3 : World) (hv : W2.ownsRow (w.heap.size + 1) 34 4 v (scanAll xs).1.length (toksC (scanAll xs).1)) (hb : Below (w.heap.size + 1) W1 W2) (hW3 : W2.alloc (.cells #[.int .i64 A, .int .i64 C] 27) = W3) :
    Calls Tryz.prog 8 #[.slice a xs.length cap, v] W3 (ReadP W3 (w.heap.size + 1) v (pF (parseF (scanAll xs).1.length + 1) .program (pts xs (withEnd (scanAll xs).1 xs.length) 0))) ∧ TS w W3 W2.heap.size A C ∧ ∀ W4, Below (w.heap.size + 1) W3 W4 → Kx v W3 W4 → TS w W4 W2.heap.size A C := by
  obtain ⟨k1, k2, k3, k4⟩ := scan_kinds xs h0
  have hz2 := hb.size
  have b23 : Below W2.heap.size W2 W3 := by rw [← hW3]; exact below1 _ _
  have hz3 : W3.heap.size = W2.heap.size + 1 := by rw [← hW3]; simp
  have b13 : Below (w.heap.size + 1) W1 W3 := hb.trans (b23.mono (by omega))
  have b3 : Below w.heap.size w W3 := hb1.trans (b13.mono (by omega))
  have hv3 : W3.ownsRow (w.heap.size + 1) 34 4 v (scanAll xs).1.length (toksC (scanAll xs).1) := owns_bel hv b23
  have t3 : TS w W3 W2.heap.size A C := ⟨b3, by omega, by rw [← hW3]; exact heap_alloc_new _ _, (b13.block _ (by omega)).trans c1⟩
  refine ⟨read_any W3 (hL.below b3) (w.heap.size + 1) a cap xs (fun w' hw' => ?_) (fun hp b o e => ?_) k3 v (scanAll xs).1 hv3 (by omega) (by omega) k2 k1 k4 (parse_ne xs h0), t3, fun W4 q1 q2 => ?_⟩
  · have b4 : Below w.heap.size w w' := b3.trans (hw'.mono (by omega))
    exact ⟨hs.below b4, hL.below b4⟩
  · obtain ⟨b', o', e', hlt, _⟩ := hs.at_ hp
    rw [e] at e'
    simp only [Option.some.injEq, Addr.mk.injEq] at e'
    omega
  · refine ⟨b3.trans (q1.mono (by omega)), t3.hlt, (q2 _ (by omega) (fun e => ?_)).trans t3.t7, (q1.block _ (by omega)).trans t3.t5⟩
    have := (hv.lt _ e).2
    omega
set_option maxRecDepth 100000 in
set_option maxHeartbeats 1000000 in
theorem Parse_bad (w : World) (hL : Laid w) (h7 : 7 ≤ w.heap.size) (a : Option Addr) (cap : Nat) (xs : List UInt8) (hs : IsSrc w a cap xs) (nest : Int) (h0 : (scanAll xs).2.2 = 0) (s' : List PTok) (hR : pF (parseF (scanAll xs).1.length + 1) .program (pts xs (withEnd (scanAll xs).1 xs.length) 0) = .err s') :
    Calls Tryz.prog 5 #[.slice a xs.length cap, .int .i64 nest] w (ParQ w ([], (hd s').place, 30)) := by
  obtain ⟨W1, hW1⟩ : ∃ W1, w.alloc (.cells #[.int .i64 0, .int .i64 0] 27) = W1 := ⟨_, rfl⟩
  have b1 : Below w.heap.size w W1 := by rw [← hW1]; exact below1 _ _
  have hz1 : W1.heap.size = w.heap.size + 1 := by rw [← hW1]; simp
  have c1 : W1.heap[w.heap.size]? = some (.cells #[.int .i64 0, .int .i64 0] 27 (0, 0)) := by rw [← hW1]; exact heap_alloc_new _ _
  have HC := Scan_any a cap xs W1 (hs.below b1) (hL.below b1)
  obtain ⟨A, hA⟩ : ∃ A : Nat, (scanAll xs).2.1 = A := ⟨_, rfl⟩
  rw [h0, hA, hz1] at HC
  have HP := read_at w W1 hL h7 b1 hz1 c1 a cap xs hs h0 A 0
  rw [hR] at HP
  obtain ⟨P, hP⟩ : ∃ P : Nat, (hd s').place = P := ⟨_, rfl⟩
  have eR : ∀ W v, ReadP W (w.heap.size + 1) v (.err s') = fun e w' => e = .returned (.tuple #[.slice none 0 0, .agg #[.int .i64 (hd s').place, .int .i64 30]]) ∧ Below (w.heap.size + 1) W w' ∧ Kx v W w' := fun _ _ => rfl
  simp only [eR, hP] at HP
  rw [hP]
  have HS : Bx _ := ⟨HC⟩
  have HR : Bx _ := ⟨HP⟩
  have HW : Bx (w.alloc (.cells #[.int .i64 0, .int .i64 0] 27) = W1) := ⟨hW1⟩
  clear hW1 b1 hz1 c1 HC HP hs hL hA hR hP h0
  generalize (scanAll xs).1 = toks at *
  go_enter Tryz.func5, Tryz.ntmps5
  go_wp2_with (first
    | (go_at_call 6; rw [HW.out]; refine Calls.mono HS.out ?_; rintro e W2 ⟨v, rfl, hv, hb⟩; obtain ⟨W3, hW3⟩ : ∃ W3, W2.alloc (.cells #[.int .i64 (A : Int), .int .i64 0] 27) = W3 := ⟨_, rfl⟩; have hp := HR.out v W2 W3 hv hb hW3; have HQ : Bx _ := ⟨hp⟩; have HW3 : Bx _ := ⟨hW3⟩; clear hv hb hp hW3)
    | (go_at_call 8; rw [HW3.out]; refine Calls.mono HQ.out.1 ?_; rintro e W4 ⟨rfl, q1, q2⟩; have t4 := HQ.out.2.2 W4 q1 q2; have T4 : Bx _ := ⟨t4⟩; obtain ⟨c0, c1, d0, d1, e0, e1, f0, f1, l1, l2⟩ := t4.cells; clear q1 q2 t4))
  have t5 : TS w _ W2.heap.size P 30 := T4.out.set P 30
  generalize hW5 : (W4.setCell ⟨W2.heap.size, 0, none⟩ (.int .i64 (P : Int))).setCell ⟨W2.heap.size, 1, none⟩ (.int .i64 30) = W5 at *
  clear c0 c1 d0 d1 e0 e1 f0 f1 l1 l2 hW5
  obtain ⟨c0, c1, d0, d1, e0, e1, f0, f1, l1, l2⟩ := t5.cells
  have HKp : Bx (∀ x y, ((W5.setCell ⟨w.heap.size, 0, none⟩ x).setCell ⟨w.heap.size, 1, none⟩ y).cell? ⟨W2.heap.size, 0, none⟩ = some (.int .i64 (P : Int)) ∧ ((W5.setCell ⟨w.heap.size, 0, none⟩ x).setCell ⟨w.heap.size, 1, none⟩ y).cell? ⟨W2.heap.size, 1, none⟩ = some (.int .i64 30)) := ⟨fun x y => two_kept t5.hlt c0 c1 x y⟩
  have T5 : Bx _ := ⟨t5⟩
  clear t5
  go_region_held3 (fun w' => w'.cell? ⟨W2.heap.size, 0, none⟩ = some (.int .i64 (P : Int)) ∧ w'.cell? ⟨W2.heap.size, 1, none⟩ = some (.int .i64 30)) (first | exact ⟨c0, c1⟩ | exact HKp.out _ _) (fail)
  go_wp2
  refine bodyPost_ret (v := .tuple #[.slice none 0 0, .agg #[.int .i64 (P : Int), .int .i64 30]]) (by simp [results, Tryz.results5, go_sem, d0, d1]) rfl ⟨_, rfl, ((T5.out.bel.setCell (p := ⟨w.heap.size, 0, none⟩) (Nat.le_refl _) _).setCell (p := ⟨w.heap.size, 1, none⟩) (Nat.le_refl _) _).drew, fun _ => rfl, fun h => absurd h (by simp)⟩
end Go.Proofs.YtblhklbpcalglaaGreatDoor
namespace Go.Proofs.YtblhklbpcalglaaGreatDoor
open Go.RowKit
set_option linter.unusedVariables false
set_option linter.unusedSimpArgs false
theorem NodesO.set2 {W : World} {rb : Nat} {nv : Value} {ns : List Nd} (h : NodesO (fun _ => False) W rb nv ns) {q : Nat} (hq : q ≤ rb) (x y : Value) : NodesO (fun _ => False) ((W.setCell ⟨q, 0, none⟩ x).setCell ⟨q, 1, none⟩ y) rb nv ns :=
  h.kept (fun z o hz ho => by
    rw [heap_setCell_other _ ⟨q, 1, none⟩ _ _ (by show z ≠ q; omega), heap_setCell_other _ ⟨q, 0, none⟩ _ _ (by show z ≠ q; omega)]
    exact ho)
theorem NodesO.bel {W W' : World} {rb : Nat} {nv : Value} {ns : List Nd} (h : NodesO (fun _ => False) W rb nv ns) (hb : Below W.heap.size W W') : NodesO (fun _ => False) W' rb nv ns :=
  h.kept (fun z o hz ho => (hb.block _ (heapLt ho)).trans ho)
theorem high_at {w W4 : World} {q rb : Nat} {A C : Int} {nv : Value} {l : List Nd} (t4 : TS w W4 q A C) (hno : NodesO (fun _ => False) W4 rb nv l) (hq : q < rb) (hwf : ∀ n ∈ l, NdWf n) (hz : l.length ≤ 200000) (hk : ∀ n ∈ l, n.kids.length ≤ 200000) (nest x y : Int) (hxy : hiGo l nest (heightsL l) 0 = (x, y)) :
    ∃ na nc W5, nv = .slice na l.length nc ∧ (W4.setCell ⟨q, 0, none⟩ (.int .i64 0)).setCell ⟨q, 1, none⟩ (.int .i64 0) = W5 ∧ TS w W5 q 0 0 ∧ Calls Tryz.prog 9 #[.slice na l.length nc, .int .i64 nest] W5 (fun e w' => e = .returned (.agg #[.int .i64 x, .int .i64 y]) ∧ Below W5.heap.size W5 w') ∧ NodesO (fun _ => False) W5 rb (.slice na l.length nc) l := by
  have h5 := hno.set2 (q := q) (by omega) (.int .i64 0) (.int .i64 0)
  obtain ⟨na, nc, rfl, hin⟩ := nodes_in h5 hwf hz hk
  exact ⟨na, nc, _, rfl, rfl, t4.set 0 0, tooHigh_any _ na nc l hin hz nest x y hxy, h5⟩
set_option maxRecDepth 100000 in
set_option maxHeartbeats 1000000 in
theorem Parse_high (w : World) (hL : Laid w) (h7 : 7 ≤ w.heap.size) (a : Option Addr) (cap : Nat) (xs : List UInt8) (hs : IsSrc w a cap xs) (nest : Int) (h0 : (scanAll xs).2.2 = 0) (ts : List Tr) (s' : List PTok) (hR : pF (parseF (scanAll xs).1.length + 1) .program (pts xs (withEnd (scanAll xs).1 xs.length) 0) = .ok ts s') (x y : Int) (hxy : hiGo (flats ts 0) nest (heightsL (flats ts 0)) 0 = (x, y)) (hy : y ≠ 0) :
    Calls Tryz.prog 5 #[.slice a xs.length cap, .int .i64 nest] w (ParQ w ([], x, y)) := by
  obtain ⟨W1, hW1⟩ : ∃ W1, w.alloc (.cells #[.int .i64 0, .int .i64 0] 27) = W1 := ⟨_, rfl⟩
  have b1 : Below w.heap.size w W1 := by rw [← hW1]; exact below1 _ _
  have hz1 : W1.heap.size = w.heap.size + 1 := by rw [← hW1]; simp
  have c1 : W1.heap[w.heap.size]? = some (.cells #[.int .i64 0, .int .i64 0] 27 (0, 0)) := by rw [← hW1]; exact heap_alloc_new _ _
  have HC := Scan_any a cap xs W1 (hs.below b1) (hL.below b1)
  obtain ⟨A, hA⟩ : ∃ A : Nat, (scanAll xs).2.1 = A := ⟨_, rfl⟩
  rw [h0, hA, hz1] at HC
  have HP := read_at w W1 hL h7 b1 hz1 c1 a cap xs hs h0 A 0
  rw [hR] at HP
  have eR : ∀ W v, ReadP W (w.heap.size + 1) v (.ok ts s') = fun e w' => ∃ nv rb, e = .returned (.tuple #[nv, .agg #[.int .i64 0, .int .i64 0]]) ∧ NodesO (fun _ => False) w' rb nv (flats ts 0) ∧ W.heap.size ≤ rb ∧ Below (w.heap.size + 1) W w' ∧ Kx v W w' := fun _ _ => rfl
  simp only [eR] at HP
  have hin := read_in xs h0 _ ts s' hR
  have HN : Bx (∀ (W2 W3 W4 : World) (rb : Nat) (nv : Value), TS w W3 W2.heap.size A 0 → TS w W4 W2.heap.size A 0 → NodesO (fun _ => False) W4 rb nv (flats ts 0) → W3.heap.size ≤ rb → _) := ⟨fun W2 W3 W4 rb nv t3 t4 hno hrb => high_at t4 hno (Nat.lt_of_lt_of_le (heapLt t3.t7) hrb) hin.1 hin.2.1 hin.2.2 nest x y hxy⟩
  have HS : Bx _ := ⟨HC⟩
  have HR : Bx _ := ⟨HP⟩
  have HW : Bx (w.alloc (.cells #[.int .i64 0, .int .i64 0] 27) = W1) := ⟨hW1⟩
  clear hW1 b1 hz1 c1 HC HP hs hL hA hR h0 eR hin hxy
  generalize (scanAll xs).1 = toks at *
  generalize flats ts 0 = l at *
  go_enter Tryz.func5, Tryz.ntmps5
  go_wp2_with (first
    | (go_at_call 6; rw [HW.out]; refine Calls.mono HS.out ?_; rintro e W2 ⟨v, rfl, hv, hb⟩; obtain ⟨W3, hW3⟩ : ∃ W3, W2.alloc (.cells #[.int .i64 (A : Int), .int .i64 0] 27) = W3 := ⟨_, rfl⟩; have hp := HR.out v W2 W3 hv hb hW3; have HQ : Bx _ := ⟨hp⟩; have HW3 : Bx _ := ⟨hW3⟩; clear hv hb hp hW3)
    | (go_at_call 8; rw [HW3.out]; refine Calls.mono HQ.out.1 ?_; rintro e W4 ⟨nv, rb, rfl, hno, hrb, q1, q2⟩; have t4 := HQ.out.2.2 W4 q1 q2; obtain ⟨na, nc, W5, rfl, hW5, t5, hcall, hno5⟩ := HN.out W2 W3 W4 rb nv HQ.out.2.1 t4 hno hrb; have HT : Bx _ := ⟨hcall⟩; have HW5 : Bx _ := ⟨hW5⟩; have T5 : Bx _ := ⟨t5⟩; obtain ⟨c0, c1, d0, d1, e0, e1, f0, f1, l1, l2⟩ := t4.cells; clear q1 q2 t4 t5 hcall hW5 hno hno5 hrb)
    | (go_at_call 9; rw [HW5.out]; refine Calls.mono HT.out ?_; rintro e W6 ⟨rfl, hb6⟩; have t6 := T5.out.below hb6; have T6 : Bx _ := ⟨t6⟩; clear c0 c1 d0 d1 e0 e1 f0 f1 l1 l2 hb6; obtain ⟨c0, c1, d0, d1, e0, e1, f0, f1, l1, l2⟩ := t6.cells; clear t6))
  have t7 : TS w _ W2.heap.size x y := T6.out.set x y
  generalize hW7 : (W6.setCell ⟨W2.heap.size, 0, none⟩ (.int .i64 x)).setCell ⟨W2.heap.size, 1, none⟩ (.int .i64 y) = W7 at *
  clear c0 c1 d0 d1 e0 e1 f0 f1 l1 l2 hW7
  obtain ⟨c0, c1, d0, d1, e0, e1, f0, f1, l1, l2⟩ := t7.cells
  have HKp : Bx (∀ u v, ((W7.setCell ⟨w.heap.size, 0, none⟩ u).setCell ⟨w.heap.size, 1, none⟩ v).cell? ⟨W2.heap.size, 0, none⟩ = some (.int .i64 x) ∧ ((W7.setCell ⟨w.heap.size, 0, none⟩ u).setCell ⟨w.heap.size, 1, none⟩ v).cell? ⟨W2.heap.size, 1, none⟩ = some (.int .i64 y)) := ⟨fun u v => two_kept t7.hlt c0 c1 u v⟩
  have T7 : Bx _ := ⟨t7⟩
  clear t7
  go_region_held3 (fun w' => w'.cell? ⟨W2.heap.size, 0, none⟩ = some (.int .i64 x) ∧ w'.cell? ⟨W2.heap.size, 1, none⟩ = some (.int .i64 y)) (first | exact ⟨c0, c1⟩ | exact HKp.out _ _) (fail)
  go_wp2
  refine bodyPost_ret (v := .tuple #[.slice none 0 0, .agg #[.int .i64 x, .int .i64 y]]) (by simp [results, Tryz.results5, go_sem, d0, d1]) rfl ⟨_, rfl, ((T7.out.bel.setCell (p := ⟨w.heap.size, 0, none⟩) (Nat.le_refl _) _).setCell (p := ⟨w.heap.size, 1, none⟩) (Nat.le_refl _) _).drew, fun _ => rfl, fun h => absurd h hy⟩
end Go.Proofs.YtblhklbpcalglaaGreatDoor
