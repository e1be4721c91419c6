import Derived.Test.YtecpknpcjoiliabDoorCUV
import Derived.Deep.LoopGhost
namespace Go.Proofs.YtecpknpcjoiliabDoor
open Go.RowKit
set_option linter.unusedVariables false
set_option linter.unusedSimpArgs false

/-- where the loop stands -/
def LpI (w : World) (text : List UInt8) (g : Nat) (v : Value) (wr : World) : Prop := (v = .nilIface ∧ ∃ k rest m b pv ps, text.length + 2 - k ≤ g ∧ Bx (RdI w text k rest m b pv ps wr)) ∨ ∃ k c, v = wrV k c ∧ Bx (ErI w text (k, c) wr)
set_option maxRecDepth 100000 in
set_option maxHeartbeats 8000000 in
theorem read_any (w : World) (hL : LW w) (text : List UInt8) (hlen : text.length ≤ 281474976710656) :
    Calls Tryd.prog 11 #[strV text] w fun e w' => ∃ v er, e = .returned (.tuple #[v, er]) ∧ Bx (RdP w (readS text) v er w') := by
  obtain ⟨w0, hw0⟩ : ∃ w0, w0 = ((w.alloc (.cells zrC 31)).alloc (.cells zrC 31)).alloc (.cells #[.int .i64 0, .nilFunc, strV text] 60) := ⟨_, rfl⟩
  have hb0 : Below (w.heap.size + 1) (w.alloc (.cells zrC 31)) w0 := by
    rw [hw0]
    have e : (w.alloc (.cells zrC 31)).heap.size = w.heap.size + 1 := by simp
    have := (below1 (w.alloc (.cells zrC 31)) (.cells zrC 31)).alloc (by simp) (.cells #[.int .i64 0, .nilFunc, strV text] 60)
    rw [e] at this
    exact this
  have hr0 : RS w0 (w.heap.size + 2) 0 .nilFunc text := by rw [hw0]; exact heap_newH _ _ _ (by simp)
  have hs0 : w0.heap[w.heap.size + 1]? = some (.cells zrC 31 (0, 0)) := by
    rw [hw0]
    exact below_heap (below1 _ _) (heap_newH _ _ _ (by simp))
  have HLM : Bx _ := ⟨read_lim w hL text hlen w0 hb0 hr0 hs0⟩
  have HRP : Bx (∀ w1 m rest, LmI w text m rest w1 → Calls Tryd.prog 19 #[.pointer (some ⟨w.heap.size + 2, 0, none⟩), .pointer (some ⟨w.heap.size + 1, 7, none⟩)] w1 (EndV w text fun w' => ∃ rest b, RdI w text 2 rest m b (.slice none 0 0) [] w')) := ⟨fun w1 m rest h => read_reap w hL text hlen w1 m rest h⟩
  have HPK : Bx (∀ w1 k rest m b pv ps, RdI w text k rest m b pv ps w1 → rest ≠ [] → Calls Tryd.prog 20 #[.pointer (some ⟨w.heap.size + 2, 0, none⟩), .pointer (some ⟨w.heap.size + 1, 0, none⟩)] w1 (EndV w text fun w' => ∃ rest pv ps, RdI w text (k + 1) rest m b pv ps w')) := ⟨fun w1 k rest m b pv ps h hne => read_pick w hL text hlen w1 k rest m b pv ps h hne⟩
  obtain ⟨Q0, hQ0⟩ : ∃ Q, Q = RdP w (readS text) := ⟨_, rfl⟩
  have hbS : ∀ wr, Below (w.heap.size + 1) (w.alloc (.cells zrC 31)) wr → Below w.heap.size w wr ∧ wr.heap[w.heap.size]? = some (.cells zrC 31 (0, 0)) := fun wr h => ⟨(below1 w _).trans (h.mono (by omega)), by rw [h.block _ (by omega)]; exact heap_newH _ _ _ rfl⟩
  have HRES : Bx (∀ wr, Below (w.heap.size + 1) (w.alloc (.cells zrC 31)) wr → wr.heap[w.heap.size]? = some (.cells zrC 31 (0, 0))) := ⟨fun wr h => (hbS wr h).2⟩
  have hB9 : ∀ wr x0 x1 x2 x3 x4 x5 x6 x7 x8, Below (w.heap.size + 1) (w.alloc (.cells zrC 31)) wr → Below w.heap.size w (set9 wr w.heap.size x0 x1 x2 x3 x4 x5 x6 x7 x8) := fun wr x0 x1 x2 x3 x4 x5 x6 x7 x8 h => by
    have h1 := (hbS wr h).1
    exact h1.trans ((kx9 wr w.heap.size x0 x1 x2 x3 x4 x5 x6 x7 x8).below h1.size fun x hx => by omega)
  have HER : Bx (∀ wr k c m b pa n pc, ErI w text (k, c) wr → Q0 (scV m b (.slice pa n pc)) (wrV k c) (set9 wr w.heap.size (.int .i64 m.a) (.int .i64 m.b) (.int .i64 m.c) (.int .i64 m.d) (.int .i64 m.e) (.int .i64 m.f) (.int .i64 m.g) (.bool b) (.slice pa n pc))) := ⟨fun wr k c m b pa n pc h => by
    rw [hQ0, h.eq]
    exact ⟨hB9 _ _ _ _ _ _ _ _ _ _ h.bel, rfl, m, b, pa, n, pc, rfl⟩⟩
  have HOK : Bx (∀ wr k m b pa pc ps, RdI w text k [] m b (.slice pa ps.length pc) ps wr → Q0 (scV m b (.slice pa ps.length pc)) .nilIface (set9 wr w.heap.size (.int .i64 m.a) (.int .i64 m.b) (.int .i64 m.c) (.int .i64 m.d) (.int .i64 m.e) (.int .i64 m.f) (.int .i64 m.g) (.bool b) (.slice pa ps.length pc))) := ⟨fun wr k m b pa pc ps h => by
    rw [hQ0, ← h.eq, rdP_nil]
    refine ⟨hB9 _ _ _ _ _ _ _ _ _ _ h.bel, rfl, pa, pc, rfl, ?_⟩
    have h1 := owns_kx h.pk (kx9 wr w.heap.size (.int .i64 m.a) (.int .i64 m.b) (.int .i64 m.c) (.int .i64 m.d) (.int .i64 m.e) (.int .i64 m.f) (.int .i64 m.g) (.bool b) (.slice pa ps.length pc)) fun g hg e => by
      have := (owns_block h.pk hg).1
      omega
    obtain ⟨z1, z2⟩ := h1
    refine ⟨z1, ?_⟩
    rcases z2 with z2 | ⟨g, cp, cur, q1, q2, q3⟩
    · exact .inl z2
    · exact .inr ⟨g, cp, cur, q1, by omega, q3⟩⟩
  rw [← hQ0]
  clear hQ0 hb0 hr0 hs0 hbS hB9 hL
  have hnf : ∀ a m W, (store a .nilFunc m).run Tryd.prog W = stored Tryd.prog W a .nilFunc m := fun a m W => run_store Tryd.prog W a _ m rfl
  go_enter Tryd.func11, Tryd.ntmps11
  go_wp2_with (first
    | (go_at_call 18; rw [← hw0]; refine HLM.out.mono ?_; rintro e w1 ⟨v1, rfl, ⟨rfl, H1⟩ | ⟨k1, c1, rfl, H1⟩⟩)
    | (go_at_call 19; obtain ⟨m1, r1, h1⟩ := H1.out; refine (HRP.out w1 m1 r1 h1).mono ?_; clear h1; rintro e w2 ⟨v2, rfl, ⟨rfl, H2⟩ | ⟨k1, c1, rfl, H2⟩⟩))
  · obtain ⟨r2, b2, h2⟩ := H2.out
    have HS0 : Bx (LpI w text (text.length + 2) .nilIface w2) := ⟨Or.inl ⟨rfl, 2, r2, m1, b2, _, _, by omega, ⟨h2⟩⟩⟩
    clear h2 H2 H1 HLM HRP hw0
    go_loopg [6] (text.length + 2) (fun g v wr => Bx (LpI w text g v wr))
    case atStart => exact HS0
    case round =>
      clear HS0
      rcases hrel.out with ⟨rfl, k, rest, m, b, pv, ps, hg, HR⟩ | ⟨k, c, rfl, HE⟩
      · obtain ⟨nx, hr⟩ := HR.out.rs
        obtain ⟨x0, x1, x2, y0, y1, y2⟩ := hr.cells
        have hkl := HR.out.len
        clear hr hrel
        by_cases hre : rest = []
        · subst hre
          obtain ⟨pa, pc, hpv⟩ := HR.out.pk.form
          subst hpv
          obtain ⟨s0, s1, s2, s3, s4, s5, s6, s7, s8⟩ := cells9 HR.out.sb
          have hres := HRES.out wr HR.out.bel
          obtain ⟨q0, q1, q2, q3, q4, q5, q6, q7, q8⟩ := cells9 hres
          obtain ⟨f0, f1, f2, f3, f4, f5, f6, f7, f8⟩ := frz9 hres
          have hq := heap_lt hres
          have HF : Bx _ := ⟨HOK.out wr k m b pa pc ps HR.out⟩
          clear hres HR HPK HER HOK HRES
          go_wp2
          refine bodyPost_ret (v := .tuple #[scV m b (.slice pa ps.length pc), .nilIface]) (by simp [results, Tryd.results11, go_sem, q0, q1, q2, q3, q4, q5, q6, q7, q8, hq]) rfl ?_
          exact ⟨_, _, rfl, HF⟩
        · have hemp : (rest == []) = false := by simpa using hre
          have htn : rest.isEmpty = false := by simpa using hre
          have HP : Bx _ := ⟨HPK.out wr k rest m b pv ps HR.out hre⟩
          clear HPK HER HOK HRES HR
          go_wp2_with (go_at_call 20; refine HP.out.mono ?_; rintro e w3 ⟨v3, rfl, ⟨rfl, H3⟩ | ⟨k3, c3, rfl, H3⟩⟩)
          · go_roundg (text.length + 2 - (k + 1))
            case measure => omega
            case rel =>
              obtain ⟨r3, p3, q3, h3⟩ := H3.out
              exact ⟨Or.inl ⟨rfl, k + 1, r3, m, b, p3, q3, Nat.le_refl _, ⟨h3⟩⟩⟩
          · go_roundg 0
            case measure => omega
            case rel => exact ⟨Or.inr ⟨k3, c3, rfl, H3⟩⟩
      · obtain ⟨m, b, pa, n, pc, hsb⟩ := HE.out.sb
        obtain ⟨s0, s1, s2, s3, s4, s5, s6, s7, s8⟩ := cells9 hsb
        have hres := HRES.out wr HE.out.bel
        obtain ⟨q0, q1, q2, q3, q4, q5, q6, q7, q8⟩ := cells9 hres
        obtain ⟨f0, f1, f2, f3, f4, f5, f6, f7, f8⟩ := frz9 hres
        have hq := heap_lt hres
        have HF : Bx _ := ⟨HER.out wr k c m b pa n pc HE.out⟩
        clear hres hsb HE HPK HER HOK HRES hrel
        go_wp2
        refine bodyPost_ret (v := .tuple #[scV m b (.slice pa n pc), wrV k c]) (by simp [results, Tryd.results11, go_sem, q0, q1, q2, q3, q4, q5, q6, q7, q8, hq]) rfl ?_
        exact ⟨_, _, rfl, HF⟩
  · have HS0 : Bx (LpI w text (text.length + 2) (wrV k1 c1) w2) := ⟨Or.inr ⟨k1, c1, rfl, H2⟩⟩
    clear H2 H1 HLM HRP hw0
    go_loopg [6] (text.length + 2) (fun g v wr => Bx (LpI w text g v wr))
    case atStart => exact HS0
    case round =>
      clear HS0
      rcases hrel.out with ⟨rfl, k, rest, m, b, pv, ps, hg, HR⟩ | ⟨k, c, rfl, HE⟩
      · obtain ⟨nx, hr⟩ := HR.out.rs
        obtain ⟨x0, x1, x2, y0, y1, y2⟩ := hr.cells
        have hkl := HR.out.len
        clear hr hrel
        by_cases hre : rest = []
        · subst hre
          obtain ⟨pa, pc, hpv⟩ := HR.out.pk.form
          subst hpv
          obtain ⟨s0, s1, s2, s3, s4, s5, s6, s7, s8⟩ := cells9 HR.out.sb
          have hres := HRES.out wr HR.out.bel
          obtain ⟨q0, q1, q2, q3, q4, q5, q6, q7, q8⟩ := cells9 hres
          obtain ⟨f0, f1, f2, f3, f4, f5, f6, f7, f8⟩ := frz9 hres
          have hq := heap_lt hres
          have HF : Bx _ := ⟨HOK.out wr k m b pa pc ps HR.out⟩
          clear hres HR HPK HER HOK HRES
          go_wp2
          refine bodyPost_ret (v := .tuple #[scV m b (.slice pa ps.length pc), .nilIface]) (by simp [results, Tryd.results11, go_sem, q0, q1, q2, q3, q4, q5, q6, q7, q8, hq]) rfl ?_
          exact ⟨_, _, rfl, HF⟩
        · have hemp : (rest == []) = false := by simpa using hre
          have htn : rest.isEmpty = false := by simpa using hre
          have HP : Bx _ := ⟨HPK.out wr k rest m b pv ps HR.out hre⟩
          clear HPK HER HOK HRES HR
          go_wp2_with (go_at_call 20; refine HP.out.mono ?_; rintro e w3 ⟨v3, rfl, ⟨rfl, H3⟩ | ⟨k3, c3, rfl, H3⟩⟩)
          · go_roundg (text.length + 2 - (k + 1))
            case measure => omega
            case rel =>
              obtain ⟨r3, p3, q3, h3⟩ := H3.out
              exact ⟨Or.inl ⟨rfl, k + 1, r3, m, b, p3, q3, Nat.le_refl _, ⟨h3⟩⟩⟩
          · go_roundg 0
            case measure => omega
            case rel => exact ⟨Or.inr ⟨k3, c3, rfl, H3⟩⟩
      · obtain ⟨m, b, pa, n, pc, hsb⟩ := HE.out.sb
        obtain ⟨s0, s1, s2, s3, s4, s5, s6, s7, s8⟩ := cells9 hsb
        have hres := HRES.out wr HE.out.bel
        obtain ⟨q0, q1, q2, q3, q4, q5, q6, q7, q8⟩ := cells9 hres
        obtain ⟨f0, f1, f2, f3, f4, f5, f6, f7, f8⟩ := frz9 hres
        have hq := heap_lt hres
        have HF : Bx _ := ⟨HER.out wr k c m b pa n pc HE.out⟩
        clear hres hsb HE HPK HER HOK HRES hrel
        go_wp2
        refine bodyPost_ret (v := .tuple #[scV m b (.slice pa n pc), wrV k c]) (by simp [results, Tryd.results11, go_sem, q0, q1, q2, q3, q4, q5, q6, q7, q8, hq]) rfl ?_
        exact ⟨_, _, rfl, HF⟩
  · have HS0 : Bx (LpI w text (text.length + 2) (wrV k1 c1) w1) := ⟨Or.inr ⟨k1, c1, rfl, H1⟩⟩
    clear H1 HLM HRP hw0
    go_loopg [6] (text.length + 2) (fun g v wr => Bx (LpI w text g v wr))
    case atStart => exact HS0
    case round =>
      clear HS0
      rcases hrel.out with ⟨rfl, k, rest, m, b, pv, ps, hg, HR⟩ | ⟨k, c, rfl, HE⟩
      · obtain ⟨nx, hr⟩ := HR.out.rs
        obtain ⟨x0, x1, x2, y0, y1, y2⟩ := hr.cells
        have hkl := HR.out.len
        clear hr hrel
        by_cases hre : rest = []
        · subst hre
          obtain ⟨pa, pc, hpv⟩ := HR.out.pk.form
          subst hpv
          obtain ⟨s0, s1, s2, s3, s4, s5, s6, s7, s8⟩ := cells9 HR.out.sb
          have hres := HRES.out wr HR.out.bel
          obtain ⟨q0, q1, q2, q3, q4, q5, q6, q7, q8⟩ := cells9 hres
          obtain ⟨f0, f1, f2, f3, f4, f5, f6, f7, f8⟩ := frz9 hres
          have hq := heap_lt hres
          have HF : Bx _ := ⟨HOK.out wr k m b pa pc ps HR.out⟩
          clear hres HR HPK HER HOK HRES
          go_wp2
          refine bodyPost_ret (v := .tuple #[scV m b (.slice pa ps.length pc), .nilIface]) (by simp [results, Tryd.results11, go_sem, q0, q1, q2, q3, q4, q5, q6, q7, q8, hq]) rfl ?_
          exact ⟨_, _, rfl, HF⟩
        · have hemp : (rest == []) = false := by simpa using hre
          have htn : rest.isEmpty = false := by simpa using hre
          have HP : Bx _ := ⟨HPK.out wr k rest m b pv ps HR.out hre⟩
          clear HPK HER HOK HRES HR
          go_wp2_with (go_at_call 20; refine HP.out.mono ?_; rintro e w3 ⟨v3, rfl, ⟨rfl, H3⟩ | ⟨k3, c3, rfl, H3⟩⟩)
          · go_roundg (text.length + 2 - (k + 1))
            case measure => omega
            case rel =>
              obtain ⟨r3, p3, q3, h3⟩ := H3.out
              exact ⟨Or.inl ⟨rfl, k + 1, r3, m, b, p3, q3, Nat.le_refl _, ⟨h3⟩⟩⟩
          · go_roundg 0
            case measure => omega
            case rel => exact ⟨Or.inr ⟨k3, c3, rfl, H3⟩⟩
      · obtain ⟨m, b, pa, n, pc, hsb⟩ := HE.out.sb
        obtain ⟨s0, s1, s2, s3, s4, s5, s6, s7, s8⟩ := cells9 hsb
        have hres := HRES.out wr HE.out.bel
        obtain ⟨q0, q1, q2, q3, q4, q5, q6, q7, q8⟩ := cells9 hres
        obtain ⟨f0, f1, f2, f3, f4, f5, f6, f7, f8⟩ := frz9 hres
        have hq := heap_lt hres
        have HF : Bx _ := ⟨HER.out wr k c m b pa n pc HE.out⟩
        clear hres hsb HE HPK HER HOK HRES hrel
        go_wp2
        refine bodyPost_ret (v := .tuple #[scV m b (.slice pa n pc), wrV k c]) (by simp [results, Tryd.results11, go_sem, q0, q1, q2, q3, q4, q5, q6, q7, q8, hq]) rfl ?_
        exact ⟨_, _, rfl, HF⟩
end Go.Proofs.YtecpknpcjoiliabDoor
