import Derived.Test.YtjjbgbadkbomlaaDoorCSW9
import Derived.Test.YtjjbgbadkbomlaaDoorCSCp2
namespace Go.Proofs.YtjjbgbadkbomlaaDoor
open Go.RowKit Go.Maps
set_option linter.unusedVariables false
set_option linter.unusedSimpArgs false

theorem two_at (W : World) (c1 c2 : Array Value) (t1 t2 : TypeId) : ∃ W', (W.alloc (.cells c1 t1)).alloc (.cells c2 t2) = W' ∧ Below W.heap.size W W' ∧ W'.heap[W.heap.size]? = some (.cells c1 t1 (0, 0)) ∧ W'.heap[W.heap.size + 1]? = some (.cells c2 t2 (0, 0)) ∧ W'.heap.size = W.heap.size + 2 := by
  refine ⟨_, rfl, ((Below.refl _ _).alloc (Nat.le_refl _) _).alloc (by simp) _, ?_, ?_, by simp⟩
  · rw [((Below.refl (W.alloc (.cells c1 t1)).heap.size _).alloc (Nat.le_refl _) _).block _ (by simp)]
    exact heap_alloc_new W _
  · simpa using heap_alloc_new (W.alloc (.cells c1 t1)) (.cells c2 t2)

set_option maxHeartbeats 2000000 in
set_option maxRecDepth 100000 in
theorem receive_any {B nb no nc : Nat} {l : List Nd} {W0 W : World} {s s1 s2 : SSt} {G0 G : WG} (h : ST B nb no nc l W0 G0 W s G) (i k0 bj : Nat) (r : List Int) (hi : i < l.length) (hkk : (ndN l i).kids = (k0 : Int) :: (bj : Int) :: r)
    (HV : ∀ W2, ST B nb no nc l W2 G W2 s G → Calls Tryd.prog 19 #[.pointer (some ⟨G.wb, 0, none⟩), .int .i64 k0] W2 fun e W' => e = .returned (.tuple #[]) ∧ ∃ G', ST B nb no nc l W2 G W' s1 G')
    (HB : ∀ W2 W3 G1 c ic kb kg ko kn kcap, ST B nb no nc l W2 G W3 s1 G1 → G.lab c = .out → G.lab ic = .out → G.lab kb = .out → W2.cell? ⟨c, 0, none⟩ = some (.pointer (some ⟨G.wb, 0, none⟩)) → W2.cell? ⟨ic, 0, none⟩ = some (.int .i64 i) → W2.cell? ⟨kb, 0, none⟩ = some (.slice (some ⟨kg, ko, none⟩) kn kcap) → 1 < kn → kg < B → W2.cell? ⟨kg, ko + 1, none⟩ = some (.int .i64 bj) →
      Calls Tryd.prog 27 #[.pointer (some ⟨G.wb, 0, none⟩), .func (.func 45) #[] #[.pointer (some ⟨c, 0, none⟩), .pointer (some ⟨ic, 0, none⟩), .pointer (some ⟨kb, 0, none⟩)]] W3 fun e W' => e = .returned (.tuple #[]) ∧ ∃ G', ST B nb no nc l W2 G W' s2 G') :
    Calls Tryd.prog 26 #[.pointer (some ⟨G.wb, 0, none⟩), .int .i64 i] W fun e W' => e = .returned (.tuple #[]) ∧ ∃ G', ST B nb no nc l W0 G0 W' s2 G' := by
  obtain ⟨ka, kc, ⟨_, _, k2, _, _, hks⟩⟩ := h.nds.at_ i hi
  have hmax := h.nds.max
  unfold maxLen at hmax
  obtain ⟨ka', kc', hke, hkc, hkm, hkn⟩ := hks.ex
  simp only [Value.slice.injEq, true_and] at hke
  obtain ⟨rfl, rfl⟩ := hke
  have hn2 : 2 ≤ (ndN l i).kids.length := by rw [hkk]; simp
  obtain ⟨kg, ko, rfl, hkB, hcell⟩ := hkn (by omega)
  have hk0 := hcell 0 (by omega)
  have hk1 := hcell 1 (by omega)
  simp only [hkk, List.getElem_cons_zero, List.getElem_cons_succ, Nat.add_zero] at hk0 hk1
  obtain ⟨W1, hW1, b1, g0, g1, z1⟩ := two_at W #[.pointer (some ⟨G.wb, 0, none⟩)] #[.int .i64 i] 49 3
  have hln : nb < W.heap.size := Nat.lt_of_lt_of_le h.nds.lo h.nds.hi
  have hlk : kg < W.heap.size := Nat.lt_of_lt_of_le hkB h.nds.hi
  have hlw : G.wb < W.heap.size := h.rel.lt h.rel.lwb (by simp)
  have c0 : W1.cell? ⟨W.heap.size, 0, none⟩ = some (.pointer (some ⟨G.wb, 0, none⟩)) := (cell_of_row W1 _ 0 _ _ _ g0).trans rfl
  have c1 : W1.cell? ⟨W.heap.size + 1, 0, none⟩ = some (.int .i64 i) := (cell_of_row W1 _ 0 _ _ _ g1).trans rfl
  have w0 : W1.cell? ⟨G.wb, 0, none⟩ = some (.slice (some ⟨nb, no, none⟩) l.length nc) := (h.rel.below b1).cw 0
  have d2 : W1.cell? ⟨nb, no + i * 5 + 2, none⟩ = some (.slice (some ⟨kg, ko, none⟩) (ndN l i).kids.length kc) := by rw [b1.cell (p := ⟨nb, no + i * 5 + 2, none⟩) hln]; exact k2
  have d0 : W1.cell? ⟨kg, ko, none⟩ = some (.int .i64 k0) := by rw [b1.cell (p := ⟨kg, ko, none⟩) hlk]; exact hk0
  have n1 := World.new_ne W1 _ c0
  have n2 := World.new_ne W1 _ c1
  have n3 := World.new_ne W1 _ w0
  have n4 := World.new_ne W1 _ d2
  have n5 := World.new_ne W1 _ d0
  obtain ⟨W3, hW3⟩ : ∃ W3, (W1.alloc (.cells #[.slice (some ⟨kg, ko, none⟩) (ndN l i).kids.length kc] 25)).drew = W3 := ⟨_, rfl⟩
  have b3 : Below W.heap.size W W3 := by rw [← hW3]; exact (b1.alloc (by omega) _).drew
  have b13 : Below W1.heap.size W1 W3 := by rw [← hW3]; exact ((Below.refl _ _).alloc (Nat.le_refl _) _).drew
  have e0 : W3.cell? ⟨W.heap.size, 0, none⟩ = some (.pointer (some ⟨G.wb, 0, none⟩)) := by rw [b13.cell (p := ⟨W.heap.size, 0, none⟩) (by show W.heap.size < W1.heap.size; omega)]; exact c0
  have e1 : W3.cell? ⟨W.heap.size + 1, 0, none⟩ = some (.int .i64 i) := by rw [b13.cell (p := ⟨W.heap.size + 1, 0, none⟩) (by show W.heap.size + 1 < W1.heap.size; omega)]; exact c1
  have e2 : W3.cell? ⟨W.heap.size + 2, 0, none⟩ = some (.slice (some ⟨kg, ko, none⟩) (ndN l i).kids.length kc) := by
    have := heap_alloc_new W1 (.cells #[.slice (some ⟨kg, ko, none⟩) (ndN l i).kids.length kc] 25)
    rw [z1] at this
    rw [← hW3]
    exact (cell_of_row (W1.alloc _).drew _ 0 _ _ _ this).trans rfl
  have e3 : W3.cell? ⟨kg, ko, none⟩ = some (.int .i64 k0) := by rw [b3.cell (p := ⟨kg, ko, none⟩) hlk]; exact hk0
  have e4 : W3.cell? ⟨kg, ko + 1, none⟩ = some (.int .i64 bj) := by rw [b3.cell (p := ⟨kg, ko + 1, none⟩) hlk]; exact hk1
  have h3 := h.ext b3
  have hs3 := ST.start h3.rel h3.nds
  have lo_ : ∀ q, G.lab (W.heap.size + q) = .out := fun q => Classical.byContradiction fun hl => absurd (h.rel.lo _ hl).2 (by omega)
  have HC : Bx (Calls Tryd.prog 19 #[.pointer (some ⟨G.wb, 0, none⟩), .int .i64 k0] (W3.drewN 1) fun e W' => e = .returned (.tuple #[]) ∧ ∃ G', ST B nb no nc l (W3.drewN 1) G W' s1 G') := ⟨HV _ (by have := hs3.drew 1; exact ST.start this.rel this.nds)⟩
  have HQ : Bx (∀ W4 G4, ST B nb no nc l (W3.drewN 1) G W4 s1 G4 → W4.cell? ⟨W.heap.size, 0, none⟩ = some (.pointer (some ⟨G.wb, 0, none⟩)) ∧ W4.cell? ⟨W.heap.size + 2, 0, none⟩ = some (.slice (some ⟨kg, ko, none⟩) (ndN l i).kids.length kc) ∧ W4.cell? ⟨kg, ko, none⟩ = some (.int .i64 k0)) := ⟨fun W4 G4 h4 => ⟨h4.cell_far (lo_ 0) e0, h4.cell_far (lo_ 2) e2, by rw [h4.fr.bel.cell (p := ⟨kg, ko, none⟩) hkB]; exact e3⟩⟩
  have HC3 : Bx (∀ W4 G4, ST B nb no nc l (W3.drewN 1) G W4 s1 G4 → Calls Tryd.prog 27 #[.pointer (some ⟨G.wb, 0, none⟩), .func (.func 45) #[] #[.pointer (some ⟨W.heap.size, 0, none⟩), .pointer (some ⟨W.heap.size + 1, 0, none⟩), .pointer (some ⟨W.heap.size + 2, 0, none⟩)]] W4 fun e W' => e = .returned (.tuple #[]) ∧ ∃ G', ST B nb no nc l W0 G0 W' s2 G') := ⟨fun W4 G4 h4 => by
    refine Calls.mono (HB _ W4 G4 _ _ _ kg ko (ndN l i).kids.length kc h4 (lo_ 0) (lo_ 1) (lo_ 2) e0 e1 e2 (by omega) hkB e4) ?_
    rintro e W' ⟨rfl, G', h5⟩
    exact ⟨rfl, G', h5.rel, h5.nds, (h3.drew 1).fr.trans h5.fr⟩⟩
  clear hcell hkn hks HV HB h h3 hs3 lo_ hk0 hk1 k2 b1 b13 b3 g0 g1 e1 e4
  generalize hkl : (ndN l i).kids.length = kn at *
  replace hW3 := Bx.mk hW3
  go_enter Tryd.func26, Tryd.ntmps26
  go_wp2
  go_region_held (fun w' => w'.cell? ⟨W.heap.size, 0, none⟩ = some (.pointer (some ⟨G.wb, 0, none⟩)) ∧ w'.cell? ⟨W.heap.size + 1, 0, none⟩ = some (.int .i64 i) ∧ w'.cell? ⟨G.wb, 0, none⟩ = some (.slice (some ⟨nb, no, none⟩) l.length nc) ∧ w'.cell? ⟨nb, no + i * 5 + 2, none⟩ = some (.slice (some ⟨kg, ko, none⟩) kn kc)) (go_keep) (fail)
  rw [hW3.out]
  clear hW3 hW1 c0 c1 w0 d2 d0 n1 n2 n3 n4 n5
  rename_i hheld
  clear hheld
  go_wp2
  go_region_held (fun w' => w'.cell? ⟨W.heap.size, 0, none⟩ = some (.pointer (some ⟨G.wb, 0, none⟩)) ∧ w'.cell? ⟨W.heap.size + 2, 0, none⟩ = some (.slice (some ⟨kg, ko, none⟩) kn kc) ∧ w'.cell? ⟨kg, ko, none⟩ = some (.int .i64 k0)) (first | exact ⟨p1, p2, p3⟩ | go_keep)
    (first | (go_at_call 19; refine Calls.mono HC.out ?_; rintro e W4 ⟨rfl, G4, h4⟩; obtain ⟨p1, p2, p3⟩ := HQ.out W4 G4 h4; replace h4 := Bx.mk h4))
  go_wp2_with (first
    | (go_at_call 27; refine Calls.mono (HC3.out W4 G4 h4.out) ?_; clear HC3; rintro e W5 ⟨rfl, h5⟩; replace h5 := Bx.mk h5))
  go_end0
  exact ⟨rfl, h5.out⟩
end Go.Proofs.YtjjbgbadkbomlaaDoor
namespace Go.Proofs.YtjjbgbadkbomlaaDoor
open Go.RowKit Go.Maps
set_option linter.unusedVariables false
set_option linter.unusedSimpArgs false

set_option maxHeartbeats 10000000 in
set_option maxRecDepth 100000 in
theorem prog_any {B nb no nc : Nat} {l : List Nd} {W0 W : World} {s s2 : SSt} {G0 G : WG} (h : ST B nb no nc l W0 G0 W s G) (i bj : Nat) (hd : List Int) (hi : i < l.length) (hkk : (ndN l i).kids = hd ++ [(bj : Int)])
    (HP : ∀ W2 c ic hb bb kg ko kcap, ST B nb no nc l W2 G W2 s G → G.lab c = .out → G.lab ic = .out → G.lab hb = .out → G.lab bb = .out → W2.cell? ⟨c, 0, none⟩ = some (.pointer (some ⟨G.wb, 0, none⟩)) → W2.cell? ⟨ic, 0, none⟩ = some (.int .i64 i) → W2.cell? ⟨hb, 0, none⟩ = some (.slice (some ⟨kg, ko, none⟩) hd.length kcap) → W2.cell? ⟨bb, 0, none⟩ = some (.int .i64 bj) → IntsV W2 B (.slice (some ⟨kg, ko, none⟩) hd.length kcap) hd →
      Calls Tryd.prog 41 #[.pointer (some ⟨G.wb, 0, none⟩), .int .i64 i, .func (.func 42) #[] #[.pointer (some ⟨c, 0, none⟩), .pointer (some ⟨ic, 0, none⟩), .pointer (some ⟨hb, 0, none⟩), .pointer (some ⟨bb, 0, none⟩)]] W2 fun e W' => e = .returned (.tuple #[]) ∧ ∃ G', ST B nb no nc l W2 G W' s2 G') :
    Calls Tryd.prog 25 #[.pointer (some ⟨G.wb, 0, none⟩), .int .i64 i] W fun e W' => e = .returned (.tuple #[]) ∧ ∃ G', ST B nb no nc l W0 G0 W' s2 G' := by
  obtain ⟨ka, kc, ⟨_, _, k2, _, _, hks⟩⟩ := h.nds.at_ i hi
  have hmax := h.nds.max
  unfold maxLen at hmax
  obtain ⟨ka', kc', hke, hkc, hkm, hkn⟩ := hks.ex
  simp only [Value.slice.injEq, true_and] at hke
  obtain ⟨rfl, rfl⟩ := hke
  have hlen : (ndN l i).kids.length = hd.length + 1 := by rw [hkk]; simp
  obtain ⟨kg, ko, rfl, hkB, hcell⟩ := hkn (by omega)
  have hkl := hcell hd.length (by omega)
  simp only [hkk, List.getElem_concat_length] at hkl
  have hhd : ∀ (q : Nat) (hq : q < hd.length), W.cell? ⟨kg, ko + q, none⟩ = some (.int .i64 hd[q]) := fun q hq => by
    have := hcell q (by omega)
    simp only [hkk] at this
    rw [List.getElem_append_left hq] at this
    exact this
  rw [hlen] at k2 hkc hkm
  obtain ⟨W1, hW1, b1, g0, g1, z1⟩ := two_at W #[.pointer (some ⟨G.wb, 0, none⟩)] #[.int .i64 i] 49 3
  have hln : nb < W.heap.size := Nat.lt_of_lt_of_le h.nds.lo h.nds.hi
  have hlk : kg < W.heap.size := Nat.lt_of_lt_of_le hkB h.nds.hi
  have hlw : G.wb < W.heap.size := h.rel.lt h.rel.lwb (by simp)
  have c0 : W1.cell? ⟨W.heap.size, 0, none⟩ = some (.pointer (some ⟨G.wb, 0, none⟩)) := (cell_of_row W1 _ 0 _ _ _ g0).trans rfl
  have c1 : W1.cell? ⟨W.heap.size + 1, 0, none⟩ = some (.int .i64 i) := (cell_of_row W1 _ 0 _ _ _ g1).trans rfl
  have w0 : W1.cell? ⟨G.wb, 0, none⟩ = some (.slice (some ⟨nb, no, none⟩) l.length nc) := (h.rel.below b1).cw 0
  have d2 : W1.cell? ⟨nb, no + i * 5 + 2, none⟩ = some (.slice (some ⟨kg, ko, none⟩) (hd.length + 1) kc) := by rw [b1.cell (p := ⟨nb, no + i * 5 + 2, none⟩) hln]; exact k2
  have d0 : W1.cell? ⟨kg, ko + hd.length, none⟩ = some (.int .i64 bj) := by rw [b1.cell (p := ⟨kg, ko + hd.length, none⟩) hlk]; exact hkl
  have n5 := World.new_ne W1 _ d0
  have hiv : ∀ W2, Below W.heap.size W W2 → IntsV W2 B (.slice (some ⟨kg, ko, none⟩) hd.length kc) hd := fun W2 b => ⟨_, _, rfl, by omega, by omega, fun h0 => ⟨kg, ko, rfl, hkB, fun q hq => by rw [b.cell (p := ⟨kg, ko + q, none⟩) hlk]; exact hhd q hq⟩⟩
  have lo_ : ∀ q, G.lab (W.heap.size + q) = .out := fun q => Classical.byContradiction fun hl => absurd (h.rel.lo _ hl).2 (by omega)
  have HC : Bx (∀ W3 p q, Below W.heap.size W W3 → W3.cell? ⟨W.heap.size, 0, none⟩ = some (.pointer (some ⟨G.wb, 0, none⟩)) → W3.cell? ⟨W.heap.size + 1, 0, none⟩ = some (.int .i64 i) → W3.cell? ⟨W.heap.size + p, 0, none⟩ = some (.slice (some ⟨kg, ko, none⟩) hd.length kc) → W3.cell? ⟨W.heap.size + q, 0, none⟩ = some (.int .i64 bj) → Calls Tryd.prog 41 #[.pointer (some ⟨G.wb, 0, none⟩), .int .i64 i, .func (.func 42) #[] #[.pointer (some ⟨W.heap.size, 0, none⟩), .pointer (some ⟨W.heap.size + 1, 0, none⟩), .pointer (some ⟨W.heap.size + p, 0, none⟩), .pointer (some ⟨W.heap.size + q, 0, none⟩)]] W3 fun e W' => e = .returned (.tuple #[]) ∧ ∃ G', ST B nb no nc l W0 G0 W' s2 G') := ⟨fun W3 p q b3 e0 e1 e2 e3 => by
    have h3 := h.ext b3
    refine (HP W3 _ _ _ _ kg ko kc (ST.start h3.rel h3.nds) (lo_ 0) (lo_ 1) (lo_ p) (lo_ q) e0 e1 e2 e3 (hiv W3 b3)).mono ?_
    rintro e W' ⟨rfl, G', h5⟩
    exact ⟨rfl, G', h5.rel, h5.nds, h3.fr.trans h5.fr⟩⟩
  have zd : ∀ n, (W1.drewN n).heap.size = W.heap.size + 2 := fun n => z1
  obtain ⟨WA, hWA⟩ : ∃ F : Nat → World, ∀ n, ((W1.drewN n).alloc (.cells #[.slice (some ⟨kg, ko, none⟩) hd.length kc] 25)).alloc (.cells #[.int .i64 bj] 3) = F n := ⟨fun n => ((W1.drewN n).alloc (.cells #[.slice (some ⟨kg, ko, none⟩) hd.length kc] 25)).alloc (.cells #[.int .i64 bj] 3), fun n => rfl⟩
  have FA : Bx (∀ n, (WA n).cell? ⟨W.heap.size, 0, none⟩ = some (.pointer (some ⟨G.wb, 0, none⟩)) ∧ (WA n).cell? ⟨W.heap.size + 1, 0, none⟩ = some (.int .i64 i) ∧ Bx (Calls Tryd.prog 41 #[.pointer (some ⟨G.wb, 0, none⟩), .int .i64 i, .func (.func 42) #[] #[.pointer (some ⟨W.heap.size, 0, none⟩), .pointer (some ⟨W.heap.size + 1, 0, none⟩), .pointer (some ⟨W.heap.size + 2, 0, none⟩), .pointer (some ⟨W.heap.size + 2 + 1, 0, none⟩)]] (WA n) fun e W' => e = .returned (.tuple #[]) ∧ ∃ G', ST B nb no nc l W0 G0 W' s2 G')) := ⟨fun n => by
    obtain ⟨W3, hW3, b3, q0, q1, _⟩ := two_at (W1.drewN n) #[.slice (some ⟨kg, ko, none⟩) hd.length kc] #[.int .i64 bj] 25 3
    rw [zd] at b3 q0 q1
    rw [← hWA n, hW3]
    have b0 : Below (W.heap.size + 2) W1 W3 := ⟨b3.1, b3.2, b3.3, b3.4, b3.5⟩
    have b4 : Below W.heap.size W W3 := b1.trans (b0.mono (by omega))
    have a0 : W3.cell? ⟨W.heap.size, 0, none⟩ = some (.pointer (some ⟨G.wb, 0, none⟩)) := by rw [b0.cell (p := ⟨W.heap.size, 0, none⟩) (by show W.heap.size < _; omega)]; exact c0
    have a1 : W3.cell? ⟨W.heap.size + 1, 0, none⟩ = some (.int .i64 i) := by rw [b0.cell (p := ⟨W.heap.size + 1, 0, none⟩) (by show W.heap.size + 1 < _; omega)]; exact c1
    exact ⟨a0, a1, ⟨HC.out W3 2 3 b4 a0 a1 ((cell_of_row W3 _ 0 _ _ _ q0).trans rfl) ((cell_of_row W3 _ 0 _ _ _ q1).trans rfl)⟩⟩⟩
  replace hWA := Bx.mk hWA
  obtain ⟨WB, hWB⟩ : ∃ F : Nat → World, ∀ n, ((W1.drewN n).alloc (.cells #[.int .i64 bj] 3)).alloc (.cells #[.slice (some ⟨kg, ko, none⟩) hd.length kc] 25) = F n := ⟨fun n => ((W1.drewN n).alloc (.cells #[.int .i64 bj] 3)).alloc (.cells #[.slice (some ⟨kg, ko, none⟩) hd.length kc] 25), fun n => rfl⟩
  have FB : Bx (∀ n, (WB n).cell? ⟨W.heap.size, 0, none⟩ = some (.pointer (some ⟨G.wb, 0, none⟩)) ∧ (WB n).cell? ⟨W.heap.size + 1, 0, none⟩ = some (.int .i64 i) ∧ Bx (Calls Tryd.prog 41 #[.pointer (some ⟨G.wb, 0, none⟩), .int .i64 i, .func (.func 42) #[] #[.pointer (some ⟨W.heap.size, 0, none⟩), .pointer (some ⟨W.heap.size + 1, 0, none⟩), .pointer (some ⟨W.heap.size + 2 + 1, 0, none⟩), .pointer (some ⟨W.heap.size + 2, 0, none⟩)]] (WB n) fun e W' => e = .returned (.tuple #[]) ∧ ∃ G', ST B nb no nc l W0 G0 W' s2 G')) := ⟨fun n => by
    obtain ⟨W3, hW3, b3, q0, q1, _⟩ := two_at (W1.drewN n) #[.int .i64 bj] #[.slice (some ⟨kg, ko, none⟩) hd.length kc] 3 25
    rw [zd] at b3 q0 q1
    rw [← hWB n, hW3]
    have b0 : Below (W.heap.size + 2) W1 W3 := ⟨b3.1, b3.2, b3.3, b3.4, b3.5⟩
    have b4 : Below W.heap.size W W3 := b1.trans (b0.mono (by omega))
    have a0 : W3.cell? ⟨W.heap.size, 0, none⟩ = some (.pointer (some ⟨G.wb, 0, none⟩)) := by rw [b0.cell (p := ⟨W.heap.size, 0, none⟩) (by show W.heap.size < _; omega)]; exact c0
    have a1 : W3.cell? ⟨W.heap.size + 1, 0, none⟩ = some (.int .i64 i) := by rw [b0.cell (p := ⟨W.heap.size + 1, 0, none⟩) (by show W.heap.size + 1 < _; omega)]; exact c1
    exact ⟨a0, a1, ⟨HC.out W3 3 2 b4 a0 a1 ((cell_of_row W3 _ 0 _ _ _ q1).trans rfl) ((cell_of_row W3 _ 0 _ _ _ q0).trans rfl)⟩⟩⟩
  replace hWB := Bx.mk hWB
  clear zd HC
  have hwr : IntKind.i64.wrap (((hd.length + 1 : Nat) : Int) - 1) = (hd.length : Int) := by unfold maxLen at hkm; rw [IntKind.wrap_i64]; omega
  unfold maxLen at hkm
  have hwr2 : IntKind.i64.wrap (hd.length : Int) = (hd.length : Int) := by rw [IntKind.wrap_i64]; omega
  have hnl : ¬ kc < hd.length := by omega
  have hnn : ¬ (hd.length : Int) < 0 := by omega
  clear hcell hkn hks HP h lo_ hhd hiv hlen hkl k2
  have hkk := Bx.mk hkk
  clear g0 g1 b1
  go_enter Tryd.func25, Tryd.ntmps25
  go_wp2
  go_quiet (fail)
  go_wp2
  go_region_held (fun w' => w'.cell? ⟨kg, ko + hd.length, none⟩ = some (.int .i64 bj)) (go_keep) (fail)
  all_goals first
    | (rw [hWA.out]; obtain ⟨a0, a1, HC⟩ := FA.out (nq + 1))
    | (rw [hWB.out]; obtain ⟨a0, a1, HC⟩ := FB.out (nq + 1))
  all_goals rename_i hheld
  all_goals clear hheld hWA hWB FA FB c0 c1 w0 d2 d0 n5 hW1
  all_goals go_wp2_with (first
    | (go_at_call 41; refine Calls.mono HC.out ?_; clear HC; rintro e W5 ⟨rfl, h5⟩; replace h5 := Bx.mk h5))
  all_goals go_end0
  all_goals exact ⟨rfl, h5.out⟩
end Go.Proofs.YtjjbgbadkbomlaaDoor
