import Derived.Test.YtecpknpcjoiliabDoorCUX
import Derived.Test.YtecpknpcjoiliabDoorCUF
namespace Go.Proofs.YtecpknpcjoiliabDoor
open Go.RowKit
set_option linter.unusedVariables false
set_option linter.unusedSimpArgs false

abbrev zrM : Lm := ⟨0, 0, 0, 0, 0, 0, 0⟩
/-- what Parse answers, and leaves -/
def ParP (w : World) (g : Got Sc (Nat × Int)) (v : Value) (k : Nat) (c : Int) (w' : World) : Prop :=
  Below w.heap.size w w' ∧ match g with
  | .no e => v = scV zrM false (.slice none 0 0) ∧ k = e.1 ∧ c = e.2
  | .yes s => k = 0 ∧ c = 0 ∧ ∃ pa pc, v = scV s.lim s.reap (.slice pa s.picks.length pc) ∧ PkO w' w.heap.size (.slice pa s.picks.length pc) s.picks
theorem drew_cell (X : World) (a : Addr) : X.drew.cell? a = X.cell? a := rfl
theorem keep9 {w2 : World} {H tb : Nat} {C : Array Value} {T : TypeId} (h : w2.heap[tb]? = some (.cells C T (0, 0))) (hne : tb ≠ H) {i : Nat} {v : Value} (hv : C[i]? = some v) (x0 x1 x2 x3 x4 x5 x6 x7 x8 : Value) : (set9 w2 H x0 x1 x2 x3 x4 x5 x6 x7 x8).drew.cell? ⟨tb, i, none⟩ = some v := by
  rw [drew_cell]
  exact cell_blk ((kx9 w2 H x0 x1 x2 x3 x4 x5 x6 x7 x8).at_ h hne) hv
theorem PkO.low {w : World} {B B' : Nat} {v : Value} {ps : List Pk} (h : PkO w B v ps) (hB : B' ≤ B) : PkO w B' v ps := by
  obtain ⟨z1, z2⟩ := h
  refine ⟨z1, ?_⟩
  rcases z2 with z2 | ⟨g, cp, cur, q1, q2, q3⟩
  · exact .inl z2
  · exact .inr ⟨g, cp, cur, q1, by omega, q3⟩
set_option maxRecDepth 100000 in
set_option maxHeartbeats 8000000 in
theorem Parse_any (w : World) (hL : LW w) (text : List UInt8) (hlen : text.length ≤ 281474976710656) :
    Calls Tryd.prog 5 #[strV text] w fun e w' => ∃ v k c, e = .returned (.tuple #[v, .int .i64 ((k : Nat) : Int), .int .i64 c]) ∧ Bx (ParP w (readS text) v k c w') := by
  have hb0 := below1 w (.cells zrC 31)
  have HRD : Bx _ := ⟨read_any (w.alloc (.cells zrC 31)) (hL.below hb0) text hlen⟩
  have hres0 : (w.alloc (.cells zrC 31)).heap[w.heap.size]? = some (.cells zrC 31 (0, 0)) := heap_newH _ _ _ rfl
  have hs0 : (w.alloc (.cells zrC 31)).heap.size = w.heap.size + 1 := by simp
  have HRES : Bx (∀ X, Below (w.alloc (.cells zrC 31)).heap.size (w.alloc (.cells zrC 31)) X → X.heap[w.heap.size]? = some (.cells zrC 31 (0, 0)) ∧ Below w.heap.size w X ∧ LW X) := ⟨fun X h => by
    have hbw := hb0.trans (h.mono (by omega))
    exact ⟨below_heap h hres0, hbw, hL.below hbw⟩⟩
  have hB9 : ∀ X x0 x1 x2 x3 x4 x5 x6 x7 x8, Below w.heap.size w X → Below w.heap.size w (set9 X w.heap.size x0 x1 x2 x3 x4 x5 x6 x7 x8) := fun X x0 x1 x2 x3 x4 x5 x6 x7 x8 h1 => h1.trans ((kx9 X w.heap.size x0 x1 x2 x3 x4 x5 x6 x7 x8).below h1.size fun x hx => by omega)
  obtain ⟨Q0, hQ0⟩ : ∃ Q, Q = ParP w (readS text) := ⟨_, rfl⟩
  cases hrd : readS text with
  | no e =>
    obtain ⟨k, c⟩ := e
    rw [hrd] at HRD hQ0
    have HR1 : Bx (∀ v er w1, RdP (w.alloc (.cells zrC 31)) (.no (k, c)) v er w1 → er = wrV k c ∧ (∃ m b pa n pc, v = scV m b (.slice pa n pc)) ∧ Below (w.alloc (.cells zrC 31)).heap.size (w.alloc (.cells zrC 31)) w1) := ⟨fun v er w1 h => ⟨h.2.1, h.2.2, h.1⟩⟩
    have HAS : Bx (∀ w1 o, Below (w.alloc (.cells zrC 31)).heap.size (w.alloc (.cells zrC 31)) w1 → Calls Tryd.prog 12 #[wrV k c, .iface 49 (.pointer (some ⟨w1.heap.size + 1, 0, none⟩))] ((w1.alloc o).alloc (.cells #[.int .i64 0, .int .i64 0] 47)) fun e w' => e = .returned (.bool true) ∧ w'.heap[w.heap.size]? = some (.cells zrC 31 (0, 0)) ∧ w'.heap[w1.heap.size + 1]? = some (.cells #[.int .i64 (k : Nat), .int .i64 c] 47 (0, 0)) ∧ Below w.heap.size w w') := ⟨fun w1 o hb => by
      have hb1 : Below w1.heap.size w1 ((w1.alloc o).alloc (.cells #[.int .i64 0, .int .i64 0] 47)) := (below1 w1 o).alloc (by simp) _
      have hbX := hb.trans (hb1.mono hb.size)
      obtain ⟨g1, g2, g3⟩ := HRES.out _ hbX
      have hs1 := hb.size
      refine (as_hit (k : Nat) c (w1.heap.size + 1) _ g3.et (heap_newH _ _ _ (by simp))).mono ?_
      rintro e w' ⟨rfl, H⟩
      exact ⟨rfl, H.out.1.at_ g1 (by omega), H.out.2, g2.trans (H.out.1.below g2.size fun x hx => by omega)⟩⟩
    have HF : Bx (∀ X, Below w.heap.size w X → Q0 (scV zrM false (.slice none 0 0)) k c (set9 X w.heap.size (.int .i64 0) (.int .i64 0) (.int .i64 0) (.int .i64 0) (.int .i64 0) (.int .i64 0) (.int .i64 0) (.bool false) (.slice none 0 0)).drew) := ⟨fun X h => by rw [hQ0]; exact ⟨(hB9 _ _ _ _ _ _ _ _ _ _ h).drew, rfl, rfl, rfl⟩⟩
    rw [← hQ0]
    clear hQ0 hB9 HRES hrd hL hres0 hb0 hs0
    go_enter Tryd.func5, Tryd.ntmps5
    go_wp2_with (first
      | (go_at_call 11; refine HRD.out.mono ?_; rintro e w1 ⟨v1, er1, rfl, H1⟩; obtain ⟨rfl, ⟨m, b, pa, n, pc, rfl⟩, hb1⟩ := HR1.out _ _ _ H1.out; have HB1 : Bx _ := ⟨hb1⟩; clear hb1 H1)
      | (go_at_call 12; refine (HAS.out w1 _ HB1.out).mono ?_; rintro e w2 ⟨rfl, hres, htb, hb2⟩; obtain ⟨q0, q1, q2, q3, q4, q5, q6, q7, q8⟩ := cells9 hres; obtain ⟨f0, f1, f2, f3, f4, f5, f6, f7, f8⟩ := frz9 hres; have hq := heap_lt hres; have t0 : w2.cell? ⟨w1.heap.size + 1, 0, none⟩ = some (.int .i64 (k : Nat)) := cell_blk htb rfl; have t1 : w2.cell? ⟨w1.heap.size + 1, 1, none⟩ = some (.int .i64 c) := cell_blk htb rfl; have hne : w1.heap.size + 1 ≠ w.heap.size := (by have := HB1.out.size; simp at this; omega); have HB2 : Bx _ := ⟨HF.out _ hb2⟩; have HZ : Bx ((set9 w2 w.heap.size (.int .i64 0) (.int .i64 0) (.int .i64 0) (.int .i64 0) (.int .i64 0) (.int .i64 0) (.int .i64 0) (.bool false) (.slice none 0 0)).drew.cell? ⟨w1.heap.size + 1, 0, none⟩ = some (.int .i64 (k : Nat)) ∧ (set9 w2 w.heap.size (.int .i64 0) (.int .i64 0) (.int .i64 0) (.int .i64 0) (.int .i64 0) (.int .i64 0) (.int .i64 0) (.bool false) (.slice none 0 0)).drew.cell? ⟨w1.heap.size + 1, 1, none⟩ = some (.int .i64 c)) := ⟨keep9 htb hne rfl (.int .i64 0) (.int .i64 0) (.int .i64 0) (.int .i64 0) (.int .i64 0) (.int .i64 0) (.int .i64 0) (.bool false) (.slice none 0 0), keep9 htb hne rfl (.int .i64 0) (.int .i64 0) (.int .i64 0) (.int .i64 0) (.int .i64 0) (.int .i64 0) (.int .i64 0) (.bool false) (.slice none 0 0)⟩; clear hres htb hb2))
    go_region_held3 (fun Y => Y.cell? ⟨w1.heap.size + 1, 0, none⟩ = some (.int .i64 (k : Nat)) ∧ Y.cell? ⟨w1.heap.size + 1, 1, none⟩ = some (.int .i64 c)) (first | (refine ⟨?_, ?_⟩ <;> (first | with_reducible exact HZ.out.1 | with_reducible exact HZ.out.2)) | go_keep) (fail)
    go_wp2
    refine bodyPost_ret (v := .tuple #[scV zrM false (.slice none 0 0), .int .i64 (k : Nat), .int .i64 c]) (by simp [results, Tryd.results5, go_sem, q0, q1, q2, q3, q4, q5, q6, q7, q8, hq]) rfl ?_
    exact ⟨_, k, c, rfl, HB2⟩
  | yes s =>
    rw [hrd] at HRD hQ0
    have HR1 : Bx (∀ v er w1, RdP (w.alloc (.cells zrC 31)) (.yes s) v er w1 → er = .nilIface ∧ (∃ pa pc, v = scV s.lim s.reap (.slice pa s.picks.length pc) ∧ Bx (PkO w1 (w.alloc (.cells zrC 31)).heap.size (.slice pa s.picks.length pc) s.picks)) ∧ Below (w.alloc (.cells zrC 31)).heap.size (w.alloc (.cells zrC 31)) w1) := ⟨fun v er w1 h => ⟨h.2.1, by obtain ⟨pa, pc, e, q⟩ := h.2.2; exact ⟨pa, pc, e, ⟨q⟩⟩, h.1⟩⟩
    obtain ⟨m, b, ps⟩ := s
    simp only at HR1
    have HF : Bx (∀ (w1 : World) pa pc X, X = (w1.alloc (.cells #[.int .i64 m.a, .int .i64 m.b, .int .i64 m.c, .int .i64 m.d, .int .i64 m.e, .int .i64 m.f, .int .i64 m.g, .bool b, .slice pa ps.length pc] 31)).alloc (.cells #[.int .i64 0, .int .i64 0] 47) → Below (w.alloc (.cells zrC 31)).heap.size (w.alloc (.cells zrC 31)) w1 → PkO w1 (w.alloc (.cells zrC 31)).heap.size (.slice pa ps.length pc) ps → Q0 (scV m b (.slice pa ps.length pc)) 0 0 (set9 X w.heap.size (.int .i64 m.a) (.int .i64 m.b) (.int .i64 m.c) (.int .i64 m.d) (.int .i64 m.e) (.int .i64 m.f) (.int .i64 m.g) (.bool b) (.slice pa ps.length pc)) ∧ X.heap[w.heap.size]? = some (.cells zrC 31 (0, 0)) ∧ X.heap[w1.heap.size]? = some (.cells #[.int .i64 m.a, .int .i64 m.b, .int .i64 m.c, .int .i64 m.d, .int .i64 m.e, .int .i64 m.f, .int .i64 m.g, .bool b, .slice pa ps.length pc] 31)) := ⟨fun w1 pa pc X hX hb hp => by
      have hb1 : Below w1.heap.size w1 X := by rw [hX]; exact (below1 w1 _).alloc (by simp) _
      have hbX := hb.trans (hb1.mono hb.size)
      obtain ⟨g1, g2, g3⟩ := HRES.out _ hbX
      have p1 : PkO X (w.alloc (.cells zrC 31)).heap.size (.slice pa ps.length pc) ps := owns_kx hp (Kx.new (P := fun _ => False) hb1) fun _ _ h => h
      rw [hQ0]
      refine ⟨⟨hB9 _ _ _ _ _ _ _ _ _ _ g2, rfl, rfl, pa, pc, rfl, ?_⟩, g1, by rw [hX]; exact below_heap (below1 _ _) (heap_newH _ _ _ rfl)⟩
      have p2 := owns_kx p1 (kx9 X w.heap.size (.int .i64 m.a) (.int .i64 m.b) (.int .i64 m.c) (.int .i64 m.d) (.int .i64 m.e) (.int .i64 m.f) (.int .i64 m.g) (.bool b) (.slice pa ps.length pc)) fun g hg e => by
        have := (owns_block p1 hg).1
        omega
      exact PkO.low (B := (w.alloc (.cells zrC 31)).heap.size) p2 (by omega)⟩
    rw [← hQ0]
    clear hQ0 hB9 HRES hrd hL hres0 hb0 hs0
    go_enter Tryd.func5, Tryd.ntmps5
    go_wp2_with (first
      | (go_at_call 11; refine HRD.out.mono ?_; rintro e w1 ⟨v1, er1, rfl, H1⟩; obtain ⟨rfl, ⟨pa, pc, rfl, HPO⟩, hb1⟩ := HR1.out _ _ _ H1.out; have HB1 : Bx _ := ⟨hb1⟩; clear hb1 H1)
      | (go_at_call 12; refine (as_nil _ _).mono ?_; rintro e w2 ⟨rfl, hw2⟩; obtain ⟨hfin, hres, hsb⟩ := HF.out w1 pa pc w2 hw2 HB1.out HPO.out; obtain ⟨s0, s1, s2, s3, s4, s5, s6, s7, s8⟩ := cells9 hsb; obtain ⟨q0, q1, q2, q3, q4, q5, q6, q7, q8⟩ := cells9 hres; obtain ⟨f0, f1, f2, f3, f4, f5, f6, f7, f8⟩ := frz9 hres; have hq := heap_lt hres; have HB2 : Bx _ := ⟨hfin⟩; clear hres hfin hsb hw2))
    refine bodyPost_ret (v := .tuple #[scV m b (.slice pa ps.length pc), .int .i64 0, .int .i64 0]) (by simp [results, Tryd.results5, go_sem, q0, q1, q2, q3, q4, q5, q6, q7, q8, hq]) rfl ?_
    exact ⟨_, 0, 0, rfl, HB2⟩
end Go.Proofs.YtecpknpcjoiliabDoor
