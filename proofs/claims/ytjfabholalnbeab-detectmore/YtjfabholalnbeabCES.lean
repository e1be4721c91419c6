import Derived.Test.YtjfabholalnbeabCEP
namespace Go.Proofs.Ytjfabholalnbeab
open Go.RowKit Go.MapKept Go.ChangeMaps Go.WideShapes
set_option linter.unusedVariables false
set_option linter.unusedSimpArgs false

/-! ### Chain -/
def ChPost (w : World) (s : List Ag) (id : Int) (e : Ending) (w' : World) : Prop := ∃ Y, FdR s id Y ∧ (Y id = none ∧ e = .returned (.tuple #[.slice none 0 0, .bool false]) ∨ ∃ (n : Nat) (l : Lk) (q : Option Addr) (d : Nat), Y id = some ((n : Int), l) ∧ 1 ≤ n ∧ n ≤ 4097 ∧ e = .returned (.tuple #[.slice q (chL Y n ((n : Int), l)).length d, .bool true]) ∧ LksR w' q d (chL Y n ((n : Int), l))) ∧ Below w.heap.size w w'
set_option maxRecDepth 100000 in
theorem Chain_no (w : World) (p : Option Addr) (c : Nat) (s : List Ag) (id : Int) (h : AgsR w p c s) (ht : totA s ≤ 2147483647) (hok : stOk s = false) : Calls Try.prog 12 #[.slice p s.length c, .int .i64 id] w fun e w' => e = .returned (.tuple #[.slice none 0 0, .bool false]) ∧ Below w.heap.size w w' := by
  have HC : Bx (Calls Try.prog 11 #[.slice p s.length c] w fun e w' => e = .returned (.int .i64 140) ∧ Below w.heap.size w w') := ⟨by
    have := Check_any w p c s h (few_of ht)
    rw [show chkI s = 140 by simp [chkI, hok]] at this
    exact this⟩
  clear h hok
  go_enter Try.func12, Try.ntmps12
  go_wp2_with (first | (go_at_call 11; refine Calls.mono HC.out ?_; rintro e w1 ⟨rfl, hb1⟩))
  exact bodyPost_ret (v := .tuple #[.slice none 0 0, .bool false]) (by simp [results, Try.results12, go_sem]) rfl ⟨rfl, hb1⟩
set_option maxRecDepth 100000 in
set_option maxHeartbeats 4000000 in
theorem Chain_yes (w : World) (p : Option Addr) (c : Nat) (s : List Ag) (id : Int) (h : AgsR w p c s) (ht : totA s ≤ 2147483647) (hid : I64 id) (hok : stOk s = true) : Calls Try.prog 12 #[.slice p s.length c, .int .i64 id] w (ChPost w s id) := by
  have hlc := h.len
  have hcm := h.max
  unfold maxLen at hcm
  have hl := st_len hok
  have HS : Bx (AgsR w p c s) := ⟨h⟩
  have HC : Bx (Calls Try.prog 11 #[.slice p s.length c] w fun e w' => e = .returned (.int .i64 0) ∧ Below w.heap.size w w') := ⟨by
    have := Check_any w p c s h (few_of ht)
    rw [show chkI s = 0 by simp [chkI, hok]] at this
    exact this⟩
  clear h hok
  go_enter Try.func12, Try.ntmps12
  go_wp2_with (first
    | (go_at_call 11; refine Calls.mono HC.out ?_; rintro e w1 ⟨rfl, hb1⟩; have B1 : Bx _ := ⟨hb1⟩; clear hb1 HC))
  go_at_call 24
  refine Calls.mono (find_any w1 p c s id (HS.out.later B1.out) hl (Nat.le_trans ht (by decide)) hid) ?_
  rintro e w2 ⟨ym, nn, Y, rfl, hY, hF, hn, hb2⟩
  have I2 : Bx (WyM w2 ym nn Y ∧ FdR s id Y ∧ Below w.heap.size w w2) := ⟨hY, hF, B1.out.trans (hb2.mono B1.out.size)⟩
  have hlk := WyM.look2 hY hid
  have h64 := fdr_64 HS.out hF
  have hwk := fdr_wk hF id
  clear hY hF hn hb2
  cases hy : Y id with
  | none =>
    rw [hy] at hlk
    have HY : Bx _ := ⟨hy⟩
    clear hwk h64 hy
    simp only [wy0, Option.getD_none, Option.isSome_none] at hlk
    go_wp2
    exact bodyPost_ret (v := .tuple #[.slice none 0 0, .bool false]) (by simp [results, Try.results12, go_sem]) rfl ⟨Y, I2.out.2.1, .inl ⟨HY.out, rfl⟩, I2.out.2.2.alloc I2.out.2.2.size _⟩
  | some y =>
    obtain ⟨_, n, hn1, hn2, hn3⟩ := hwk y hy
    obtain ⟨y1, l⟩ := y
    simp only at hn1
    subst hn1
    rw [hy] at hlk
    have H64 : Bx (∀ i, Lk64 (yAt Y i ((n : Int), l)).2) := ⟨yAt_64 (by have := h64 id; rw [hy] at this; exact this) h64⟩
    have HY : Bx _ := ⟨hy⟩
    clear hwk h64 hy
    simp only [wy0, Option.getD_some, Option.isSome_some] at hlk
    obtain ⟨X, hX⟩ : ∃ X, w2.alloc (.cells #[.int .i64 (n : Int), .int .i64 l.waker, .int .i64 l.woken, .int .i64 l.chan] 57) = X := ⟨_, rfl⟩
    obtain ⟨us, hus, hmk⟩ := make_links X n (by omega)
    have HXS : Bx (X.heap.size = w2.heap.size + 1) := ⟨by rw [← hX]; simp⟩
    have hkX : X.heap[w2.heap.size]? = some (.cells #[.int .i64 (n : Int), .int .i64 l.waker, .int .i64 l.woken, .int .i64 l.chan] 57 (0, 0)) := by rw [← hX]; exact World.alloc_heap_new _ _
    have c0 : X.cell? ⟨w2.heap.size, 0, none⟩ = some (.int .i64 (n : Int)) := cell_of hkX rfl
    have HXE : Bx (_ = X) := ⟨hX⟩
    have HU : Bx _ := ⟨hus⟩
    rw [← hX] at hmk c0
    clear hX hkX hus
    go_wp2
    have HI0 : Bx (CH w ((w2.alloc (.cells #[.int .i64 (n : Int), .int .i64 l.waker, .int .i64 l.woken, .int .i64 l.chan] 57)).alloc (.cells us 38)) ym nn w2.heap.size (w2.heap.size + 1) n 0 Y ((n : Int), l)) := ⟨by
      rw [HXE.out]
      have h1 : Below w2.heap.size w2 X := by rw [← HXE.out]; exact below1 _ _
      have h2 := below1 X (.cells us 38)
      have h3 := h1.trans (h2.mono h1.size)
      refine ⟨I2.out.2.2.trans (h3.mono I2.out.2.2.size), MpI.below I2.out.1 h3, ?_, ?_⟩
      · rw [Below.heap_alloc _ _ _ (by have := HXS.out; omega), ← HXE.out]; exact World.alloc_heap_new _ _
      · rw [← HXS.out]; exact ChW.start HU.out Y _⟩
    have hy1 : ym < w2.heap.size := MpI.lt I2.out.1
    have hw1 : w.heap.size ≤ w2.heap.size := I2.out.2.2.size
    have HF : Bx _ := ⟨I2.out.2.1⟩
    clear hlk hmk c0 HXE HXS HU I2 B1 HS
    go_loopg [10] (n + 1) (fun k v10 wr => ∃ i, k = n + 1 - i ∧ i ≤ n ∧ v10 = .int .i64 ((n : Int) - 1 - (i : Nat)) ∧ Bx (CH w wr ym nn w2.heap.size (w2.heap.size + 1) n i Y ((n : Int), l)))
    case atStart => exact ⟨0, by simp, by omega, by simp, HI0⟩
    case round =>
      obtain ⟨i, hk, hil, rfl, HR⟩ := hrel
      clear HI0
      by_cases hlt : i < n
      · obtain ⟨j, hj⟩ : ∃ j, n = i + 1 + j := ⟨n - i - 1, by omega⟩
        have e1 : (n : Int) - 1 - (i : Nat) = (j : Nat) := by omega
        rw [e1]
        have hjn : j < n := by omega
        have hjm : j ≤ 4097 := by omega
        have hwy := HR.out.way
        obtain ⟨vs, hv, hvs, _⟩ := HR.out.row
        obtain ⟨X, hX⟩ : ∃ X, ((wr.setCell ⟨w2.heap.size + 1, j * 3, none⟩ (.int .i64 (yAt Y i ((n : Int), l)).2.waker)).setCell ⟨w2.heap.size + 1, j * 3 + 1, none⟩ (.int .i64 (yAt Y i ((n : Int), l)).2.woken)).setCell ⟨w2.heap.size + 1, j * 3 + 2, none⟩ (.int .i64 (yAt Y i ((n : Int), l)).2.chan) = X := ⟨_, rfl⟩
        have HL := HR.out.laid (by omega) (by omega) (by omega) hj X hX
        have hi64 := (H64.out i).1
        have hlk := MpI.look HL.2.1 Try.underlying54 Try.zeroValue57 hi64
        have HN := CH.next HL (by omega) (by omega) (by omega) (z := wy0 (Y (yAt Y i ((n : Int), l)).2.waker)) rfl
        have HNB : Bx _ := ⟨HN⟩
        have hx := HL.2.2.1
        clear HL HN HR
        simp only [wyV] at hlk
        generalize yAt Y i ((n : Int), l) = z at *
        obtain ⟨z1, zw, zn, zc⟩ := z
        simp only [wyC] at hwy hx hlk hX HNB hi64
        generalize wy0 (Y zw) = z' at *
        have d1 : wr.cell? ⟨w2.heap.size, 1, none⟩ = some (.int .i64 zw) := cell_of hwy rfl
        have d2 : wr.cell? ⟨w2.heap.size, 2, none⟩ = some (.int .i64 zn) := cell_of hwy rfl
        have d3 : wr.cell? ⟨w2.heap.size, 3, none⟩ = some (.int .i64 zc) := cell_of hwy rfl
        obtain ⟨a0, q0⟩ : ∃ a, vs[j * 3]? = some a := ⟨_, Array.getElem?_eq_getElem (by omega)⟩
        obtain ⟨a1, q1⟩ : ∃ a, vs[j * 3 + 1]? = some a := ⟨_, Array.getElem?_eq_getElem (by omega)⟩
        obtain ⟨a2, q2⟩ : ∃ a, vs[j * 3 + 2]? = some a := ⟨_, Array.getElem?_eq_getElem (by omega)⟩
        have g0 : wr.cell? ⟨w2.heap.size + 1, j * 3, none⟩ = some a0 := cell_of hv q0
        have g1 : wr.cell? ⟨w2.heap.size + 1, j * 3 + 1, none⟩ = some a1 := cell_of hv q1
        have g2 : wr.cell? ⟨w2.heap.size + 1, j * 3 + 2, none⟩ = some a2 := cell_of hv q2
        have f0 : ∀ o, wr.frozen? ⟨w2.heap.size + 1, o, none⟩ = false := fun o => by simp [World.frozen?, hv]
        have x0 : X.cell? ⟨w2.heap.size, 0, none⟩ = some (.int .i64 z1) := cell_of hx rfl
        have x1 : X.cell? ⟨w2.heap.size, 1, none⟩ = some (.int .i64 zw) := cell_of hx rfl
        have x2 : X.cell? ⟨w2.heap.size, 2, none⟩ = some (.int .i64 zn) := cell_of hx rfl
        have x3 : X.cell? ⟨w2.heap.size, 3, none⟩ = some (.int .i64 zc) := cell_of hx rfl
        have f1 : ∀ o, X.frozen? ⟨w2.heap.size, o, none⟩ = false := fun o => by simp [World.frozen?, hx]
        have HXE : Bx (_ = X) := ⟨hX⟩
        rw [← hX] at x0 x1 x2 x3 f1 hlk
        clear hX hwy hx hv hvs q0 q1 q2
        go_wp2
        rw [HXE.out]
        go_roundg (n + 1 - (i + 1))
        case measure => omega
        case rel => exact ⟨i + 1, rfl, by omega, by congr 1; omega, HNB⟩
      · have hie : i = n := by omega
        subst hie
        have e1 : (i : Int) - 1 - (i : Nat) = -1 := by omega
        rw [e1]
        have HQ : Bx (LksR wr (some ⟨w2.heap.size + 1, 0, none⟩) i (chL Y i ((i : Int), l))) := ⟨HR.out.row.read hn3 H64.out⟩
        have HB : Bx _ := ⟨HR.out.bel⟩
        have HLN : Bx ((chL Y i ((i : Int), l)).length = i) := ⟨by simp [chL]⟩
        clear HR
        go_wp2
        exact bodyPost_ret (v := .tuple #[.slice (some ⟨w2.heap.size + 1, 0, none⟩) i i, .bool true]) (by simp [results, Try.results12, go_sem]) rfl ⟨Y, HF.out, .inr ⟨i, l, some ⟨w2.heap.size + 1, 0, none⟩, i, HY.out, hn2, hn3, by rw [HLN.out], HQ.out⟩, HB.out⟩
end Go.Proofs.Ytjfabholalnbeab
