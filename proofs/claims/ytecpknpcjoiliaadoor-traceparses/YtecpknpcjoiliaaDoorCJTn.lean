import Derived.Test.YtecpknpcjoiliaaDoorCJTm
import Derived.Laws.Rows
import Derived.Test.YtecpknpcjoiliaaDoorCJE
namespace Go.Proofs.YtecpknpcjoiliaaDoor
open Go.RowKit Go.Shelf
set_option linter.unusedVariables false
set_option linter.unusedSimpArgs false

/-- the first i events are marked -/
def Mkd (m : Int) (i : Nat) (es : List Ev) : Prop := ∀ j (h : j < es.length), j < i → es[j].kind = m ∧ ∀ k (hk : k < es[j].list.length), es[j].list[k] = m - j
structure MkS (w W : World) (H E : Nat) (vv : Value) (ls : List (Option Addr × Nat)) (N : Nat) (m : Int) (i : Nat) (es : List Ev) : Prop where
  sp : SpF H E w W
  x : EvX W H E vv es ls
  len : es.length = N
  ll : ∀ j (h : j < es.length), es[j].list.length ≤ 1099511627776
  mkd : Mkd m i es
/-- event i is marked up to k -/
structure MkI (w W : World) (H E : Nat) (vv : Value) (ls : List (Option Addr × Nat)) (N : Nat) (m : Int) (i k : Nat) (L : Nat) (es : List Ev) : Prop where
  s : MkS w W H E vv ls N m i es
  lt : i < es.length
  kd : es[i].kind = m
  le : es[i].list.length = L
  nm : ∀ q (h : q < es[i].list.length), q < k → es[i].list[q] = m - i
section
variable {w W W' : World} {H E N n c g : Nat} {ls : List (Option Addr × Nat)} {m : Int} {i k L : Nat} {es : List Ev}
theorem EvX.form (h : EvX W H E (.slice (some ⟨g, 0, none⟩) n c) es ls) : n = es.length ∧ es.length ≤ c ∧ H ≤ g ∧ g < E ∧ g < W.heap.size ∧ ∀ j, j < es.length * 8 → (∃ v, W.cell? ⟨g, j, none⟩ = some v) ∧ W.frozen? ⟨g, j, none⟩ = false := by
  rcases h.evo.row.2 with ⟨e, _⟩ | ⟨g', cap, cur, e, q1, q2, q3, q4, q5, q6⟩
  · cases e
  · simp only [Value.slice.injEq, Option.some.injEq, Addr.mk.injEq] at e
    obtain ⟨⟨rfl, _⟩, hn, rfl⟩ := e
    refine ⟨hn, q3, q1, h.rb g rfl, heap_lt q2, fun j hj => ⟨⟨_, cell_blk q2 (Array.getElem?_eq_getElem (by rw [q5]; have := Nat.mul_le_mul_right 8 q3; omega))⟩, frz_blk q2⟩⟩
theorem EvX.cell7 (h : EvX W H E (.slice (some ⟨g, 0, none⟩) n c) es ls) (hi : i < es.length) : W.cell? ⟨g, i * 8 + 7, none⟩ = some (.slice (ls[i]'(by rw [h.evo.len]; exact hi)).1 es[i].list.length (ls[i]'(by rw [h.evo.len]; exact hi)).2) ∧ W.cell? ⟨g, i * 8, none⟩ = some (.int .i64 es[i].kind) := by
  have hl := h.evo.len
  have e7 := evCs_at hl i hi 7 (by omega)
  have e0 := evCs_at hl i hi 0 (by omega)
  rcases h.evo.row.2 with ⟨e, _⟩ | ⟨g', cap, cur, e, q1, q2, q3, q4, q5, q6⟩
  · cases e
  · simp only [Value.slice.injEq, Option.some.injEq, Addr.mk.injEq] at e
    obtain ⟨⟨rfl, _⟩, hn, rfl⟩ := e
    have key : ∀ j v, j < es.length * 8 → (evCs es ls)[j]? = some v → W.cell? ⟨g, j, none⟩ = some v := fun j v hj he => by
      refine cell_blk q2 ?_
      rw [← q6, List.getElem?_take_of_lt hj, Array.getElem?_toList] at he
      exact he
    exact ⟨key _ _ (by omega) e7, key _ _ (by omega) e0⟩
theorem MkS.kind (h : MkS w W H E (.slice (some ⟨g, 0, none⟩) n c) ls N m i es) (hi : i < es.length) : ∃ es2, MkI w (W.setCell ⟨g, i * 8, none⟩ (.int .i64 m)) H E (.slice (some ⟨g, 0, none⟩) n c) ls N m i 0 es[i].list.length es2 := by
  obtain ⟨_, _, f1, f2, _, _⟩ := h.x.form
  have hlen : (es.set i { es[i] with kind := m }).length = es.length := by simp
  have hli : ∀ j (hj : j < es.length), ((es.set i { es[i] with kind := m })[j]'(by omega)).list = es[j].list := fun j hj => by
    rw [List.getElem_set]
    split
    · rename_i e; subst e; rfl
    · rfl
  refine ⟨es.set i { es[i] with kind := m }, ⟨h.sp.trans (SpF.set f1 f2), h.x.kind hi m, by rw [hlen]; exact h.len, fun j hj => ?_, fun j hj hji => ?_⟩, by rw [hlen]; exact hi, by rw [List.getElem_set_self], by rw [hli i hi], fun q hq h0 => by omega⟩
  · rw [hli j (by omega)]
    exact h.ll j (by omega)
  · have e : (es.set i { es[i] with kind := m })[j] = es[j]'(by omega) := by rw [List.getElem_set_ne (by omega)]
    rw [e]
    exact h.mkd j (by omega) hji
theorem MkI.lst (h : MkI w W H E (.slice (some ⟨g, 0, none⟩) n c) ls N m i k L es) : ∃ (la : Option Addr) (lc : Nat) (hl : i < ls.length), ls[i].1 = la ∧ ls[i].2 = lc ∧ W.cell? ⟨g, i * 8 + 7, none⟩ = some (.slice la L lc) ∧ L ≤ 1099511627776 ∧ (0 < L → ∃ gi, la = some ⟨gi, 0, none⟩ ∧ H ≤ gi ∧ gi < E ∧ L ≤ lc ∧ gi < W.heap.size ∧ ∀ q, q < L → (∃ v, W.cell? ⟨gi, q, none⟩ = some v) ∧ W.frozen? ⟨gi, q, none⟩ = false) := by
  have hi := h.lt
  have hl : i < ls.length := by rw [h.s.x.evo.len]; exact hi
  have hle := h.le
  rw [← hle]
  refine ⟨_, _, hl, rfl, rfl, (h.s.x.cell7 hi).1, h.s.ll i hi, fun h0 => ?_⟩
  have h3 : W.ownsRow H 3 1 (.slice ls[i].1 es[i].list.length ls[i].2) es[i].list.length (es[i].list.map (Value.int .i64)) := h.s.x.evo.lst i hi hl
  rcases h3.2 with ⟨_, e⟩ | ⟨g', cap, cur, e, q1, q2, q3, q4, q5, q6⟩
  · omega
  · simp only [Value.slice.injEq] at e
    refine ⟨g', e.1, q1, h.s.x.lb i hl 0 g' (by rw [e.1]; rfl), by omega, heap_lt q2, fun q hq => ⟨⟨_, cell_blk q2 (Array.getElem?_eq_getElem (by omega))⟩, frz_blk q2⟩⟩
theorem MkI.num (h : MkI w W H E (.slice (some ⟨g, 0, none⟩) n c) ls N m i k L es) (hl : i < ls.length) {gi : Nat} (ha : ls[i].1 = some ⟨gi, 0, none⟩) (h1 : H ≤ gi) (h2 : gi < E) (hk : k < L) : ∃ es2, MkI w (W.setCell ⟨gi, k, none⟩ (.int .i64 (m - i))) H E (.slice (some ⟨g, 0, none⟩) n c) ls N m i (k + 1) L es2 := by
  have hi := h.lt
  have hle := h.le
  have hlen : (es.set i { es[i] with list := es[i].list.set k (m - i) }).length = es.length := by simp
  have hli : ∀ j (hj : j < es.length), ((es.set i { es[i] with list := es[i].list.set k (m - i) })[j]'(by omega)).list.length = es[j].list.length := fun j hj => by
    rw [List.getElem_set]
    split
    · rename_i e; subst e; simp
    · rfl
  have hself : (es.set i { es[i] with list := es[i].list.set k (m - i) })[i]'(by omega) = { es[i] with list := es[i].list.set k (m - i) } := by rw [List.getElem_set_self]
  refine ⟨es.set i { es[i] with list := es[i].list.set k (m - i) }, ⟨h.s.sp.trans (SpF.set h1 h2), h.s.x.num hi hl ha (m - i), by rw [hlen]; exact h.s.len, fun j hj => ?_, fun j hj hji => ?_⟩, by rw [hlen]; exact hi, by rw [hself]; exact h.kd, by rw [hli i hi]; exact hle, fun q hq hqk => ?_⟩
  · rw [hli j (by omega)]
    exact h.s.ll j (by omega)
  · have e : (es.set i { es[i] with list := es[i].list.set k (m - i) })[j] = es[j]'(by omega) := by rw [List.getElem_set_ne (by omega)]
    rw [e]
    exact h.s.mkd j (by omega) hji
  · have hq2 : q < es[i].list.length := by rw [hli i hi] at hq; exact hq
    have e : (es.set i { es[i] with list := es[i].list.set k (m - i) })[i].list[q] = (es[i].list.set k (m - i))[q]'(by simpa using hq2) := by simp only [hself]
    rw [e, List.getElem_set]
    split
    · rfl
    · exact h.nm q hq2 (by omega)
theorem MkI.done (h : MkI w W H E (.slice (some ⟨g, 0, none⟩) n c) ls N m i L L es) : MkS w W H E (.slice (some ⟨g, 0, none⟩) n c) ls N m (i + 1) es :=
  ⟨h.s.sp, h.s.x, h.s.len, h.s.ll, fun j hj hji => by
    by_cases hi : j = i
    · subst hi
      exact ⟨h.kd, fun k hk => h.nm k hk (by have := h.le; omega)⟩
    · exact h.s.mkd j hj (by omega)⟩
theorem MkS.growL {vv : Value} (h : MkS w W H E vv ls N m i es) {j : Nat} (hj : j < ls.length) (hje : j < es.length) (hHW : H ≤ W.heap.size) (hg : W.grownBy W' (Value.slice ls[j].1 es[j].list.length ls[j].2).ownBlock) (hr : NRo W' H (.slice ls[j].1 es[j].list.length ls[j].2) es[j].list) : MkS w W' H E vv ls N m i es := by
  refine ⟨h.sp.trans (SpF.gr hg hHW fun g hgg => ⟨?_, h.x.lb j hj _ g hgg⟩), h.x.growL hj hje hg hr, h.len, h.ll, h.mkd⟩
  exact ((h.x.evo.lst j hje hj).lt hgg).1
theorem MkS.growR {vv : Value} (h : MkS w W H E vv ls N m i es) (hHW : H ≤ W.heap.size) (hg : W.grownBy W' vv.ownBlock) (hr : W'.ownsRow H 24 8 vv es.length (evCs es ls)) : MkS w W' H E vv ls N m i es :=
  ⟨h.sp.trans (SpF.gr hg hHW fun g hgg => ⟨(owns_block h.x.evo.row hgg).1, h.x.rb g hgg⟩), h.x.growR hg hr, h.len, h.ll, h.mkd⟩
end
theorem ev_oneM : ∀ u ∈ (#[Value.int .i64 (-9000), .int .i64 0, .int .i64 0, .int .i64 0, .int .i64 0, .int .i64 0, .int .i64 0, .slice none 0 0] : Array Value).toList, u.oneCell' = true := by
  intro u hu
  simp only [List.mem_cons, List.not_mem_nil, or_false] at hu
  rcases hu with rfl | rfl | rfl | rfl | rfl | rfl | rfl | rfl <;> rfl
set_option maxRecDepth 100000 in
set_option maxHeartbeats 8000000 in
theorem mark_any (w : World) (H E : Nat) (a : Option Addr) (n c : Nat) (es : List Ev) (ls : List (Option Addr × Nat)) (m : Int) (hm : -1000 ≤ m ∧ m ≤ 0) (hx : EvX w H E (.slice a n c) es ls) (hH : H ≤ w.heap.size) (hn : es.length ≤ 1099511627776) (hl : ∀ j (h : j < es.length), es[j].list.length ≤ 1099511627776) :
    Calls Tryd.prog 21 #[.slice a n c, .int .i64 m] w fun e w' => e = .returned (.tuple #[]) ∧ Bx (SpF H E w w' ∧ ∃ es', EvX w' H E (.slice a n c) es' ls ∧ Mkd m es'.length es') := by
  obtain ⟨i0, hi0, hz0, hz1, hz2⟩ := info_parts infoIn
  obtain ⟨j0, hj0, hy0, hy1, hy2⟩ := info_parts infoEv
  obtain ⟨N, hN⟩ : ∃ N, N = es.length := ⟨_, rfl⟩
  have hnN : n = N := by rw [hN]; exact (hx.evo.view).1
  subst hnN
  have HS : Bx (∃ es2, MkS w w H E (.slice a n c) ls n m 0 es2) := ⟨es, SpF.refl _ _ _, hx, hN.symm, hl, fun j _ hj => by omega⟩
  have HSZ : Bx (∀ W, SpF H E w W → H ≤ W.heap.size) := ⟨fun W h => by have := h.bel.size; omega⟩
  have hnn : n ≤ 1099511627776 := by omega
  have HA : Bx (0 < n → ∃ g, a = some ⟨g, 0, none⟩) := ⟨fun h0 => by
    rcases hx.evo.row.2 with ⟨e, q⟩ | ⟨g, cap, cur, e, _⟩
    · omega
    · simp only [Value.slice.injEq] at e
      exact ⟨g, e.1⟩⟩
  have HGI : Bx (∀ B v L xs w0 k vk wr, k < 9 → L ≤ 1099511627776 → B ≤ w0.heap.size → Grw 3 1 B v L xs w0 k vk wr → ∃ g c W3, (∀ ty, (Builtin.append_ #[22, 22] ty #[vk, .slice (some ⟨wr.heap.size, 0, none⟩) 1 1]).run Tryd.prog (wr.alloc (.cells #[.int .i64 (-9000)] 3)) = .ok (.slice (some ⟨g, 0, none⟩) (L + k + 1) c) W3) ∧ Grw 3 1 B v L xs w0 (k + 1) (.slice (some ⟨g, 0, none⟩) (L + k + 1) c) W3) := ⟨fun B v L xs w0 k vk wr hk hL hB h => h.step Tryd.underlying22 hi0 hz0 hz1 hz2 rfl (by decide) _ rfl (int_oneM _) (by unfold maxLen; omega) (by omega) hB⟩
  have HGE : Bx (∀ B v L xs w0 k vk wr, k < 9 → L ≤ 1099511627776 → B ≤ w0.heap.size → Grw 24 8 B v L xs w0 k vk wr → ∃ g c W3, (∀ ty, (Builtin.append_ #[29, 29] ty #[vk, .slice (some ⟨wr.heap.size, 0, none⟩) 1 1]).run Tryd.prog (wr.alloc (.cells #[.int .i64 (-9000), .int .i64 0, .int .i64 0, .int .i64 0, .int .i64 0, .int .i64 0, .int .i64 0, .slice none 0 0] 24)) = .ok (.slice (some ⟨g, 0, none⟩) (L + k + 1) c) W3) ∧ Grw 24 8 B v L xs w0 (k + 1) (.slice (some ⟨g, 0, none⟩) (L + k + 1) c) W3) := ⟨fun B v L xs w0 k vk wr hk hL hB h => h.step Tryd.underlying29 hj0 hy0 hy1 hy2 rfl (by decide) _ rfl ev_oneM (by unfold maxLen; omega) (by omega) hB⟩
  clear hx hl hN hn hi0 hz0 hz1 hz2 hj0 hy0 hy1 hy2
  go_enter Tryd.func21, Tryd.ntmps21
  go_wp2
  go_loopw [4] (fun x wr => ∃ i : Nat, i ≤ n ∧ x = .int .i64 i ∧ Bx (∃ es2, MkS w wr H E (.slice a n c) ls n m i es2)) (fun x _ => n - (intOf x).toNat)
  case atStart => exact ⟨0, Nat.zero_le _, rfl, HS⟩
  case round =>
    obtain ⟨i, hi, rfl, HI⟩ := hrel
    clear HS
    obtain ⟨es1, h1⟩ := HI.out
    clear HI
    by_cases hlt : i < n
    · obtain ⟨g, rfl⟩ := HA.out (by omega)
      have hi1 : i < es1.length := by rw [h1.len]; exact hlt
      obtain ⟨f0, f1, f2, f3, f4, f5⟩ := h1.x.form
      obtain ⟨⟨v0, k1⟩, k2⟩ := f5 (i * 8) (by omega)
      obtain ⟨es2, h2⟩ := h1.kind hi1
      obtain ⟨L, hL⟩ : ∃ L, L = es1[i].list.length := ⟨_, rfl⟩
      rw [← hL] at h2
      have hnc : n ≤ c := by omega
      have hiI : (i : Int) < (n : Int) := by omega
      have hwr : IntKind.i64.wrap (m - (i : Int)) = m - (i : Int) := by rw [IntKind.wrap_i64]; omega
      have HI2 : Bx (∃ es2, MkI w (wr.setCell ⟨g, i * 8, none⟩ (.int .i64 m)) H E (.slice (some ⟨g, 0, none⟩) n c) ls n m i 0 L es2) := ⟨es2, h2⟩
      have hg1 : g < (wr.setCell ⟨g, i * 8, none⟩ (.int .i64 m)).heap.size := by simpa using f4
      clear h1 h2 hL f5 HA f0 f1 hi1
      go_wp2
      go_loopw [5] (fun x wx => ∃ k : Nat, k ≤ L ∧ x = .int .i64 k ∧ Bx (∃ es2, MkI w wx H E (.slice (some ⟨g, 0, none⟩) n c) ls n m i k L es2)) (fun x _ => L - (intOf x).toNat)
      case atStart => exact ⟨0, Nat.zero_le _, rfl, HI2⟩
      case round =>
        obtain ⟨k, hk, rfl, HK⟩ := hrel
        clear HI2 k1 k2 hg1
        obtain ⟨es3, h3⟩ := HK.out
        clear HK
        obtain ⟨la, lc, hil, hla, hlc, c7, hLb, hlo⟩ := h3.lst
        by_cases hkl : k < L
        · obtain ⟨gi, rfl, t1, t2, t3, t4, t5⟩ := hlo (by omega)
          obtain ⟨⟨v1, k1⟩, k2⟩ := t5 k hkl
          obtain ⟨es4, h4⟩ := h3.num hil hla t1 t2 hkl
          have HN : Bx (∃ es2, MkI w (wr.setCell ⟨gi, k, none⟩ (.int .i64 (m - i))) H E (.slice (some ⟨g, 0, none⟩) n c) ls n m i (k + 1) L es2) := ⟨es4, h4⟩
          have hkI : (k : Int) < (L : Int) := by omega
          have hLc : L ≤ lc := t3
          clear h3 h4 t5 hlo hla hlc hil
          go_wp2
          go_roundw
          case rel => exact ⟨k + 1, hkl, by go_num, HN⟩
          case measure => simp [intOf]; omega
        · obtain rfl : k = L := by omega
          have h3d := h3.done
          have hie : i < es3.length := h3.lt
          have hHW := HSZ.out _ h3d.sp
          obtain ⟨wG, hwG⟩ : ∃ x, x = wr := ⟨_, rfl⟩
          have HG0 : Bx (Grw 3 1 H (.slice la k lc) k (es3[i].list.map (Value.int .i64)) wG 0 (.slice la k lc) wr) := ⟨by
            rw [hwG]
            have hr : wr.ownsRow H 3 1 (.slice ls[i].1 es3[i].list.length ls[i].2) es3[i].list.length (es3[i].list.map (Value.int .i64)) := h3.s.x.evo.lst i hie hil
            rw [hla, hlc, h3.le] at hr
            exact Grw.start hr (gr_refl _ _) fun b hb => (owns_block hr hb).2⟩
          have HEND : Bx (∀ W' kk vk, Grw 3 1 H (.slice la k lc) k (es3[i].list.map (Value.int .i64)) wG kk vk W' → ∃ es2, MkS w W' H E (.slice (some ⟨g, 0, none⟩) n c) ls n m (i + 1) es2) := ⟨fun W' kk vk hG => ⟨es3, h3d.growL hil hie hHW (by rw [hla, hlc, h3.le, ← hwG]; exact hG.gr) (by
            have := hG.old
            rw [hla, hlc, h3.le]
            unfold NRo
            rw [h3.le]
            exact this)⟩⟩
          have hkI : ¬ (k : Int) < (k : Int) := by omega
          clear h3 h3d hlo hla hlc
          generalize es3[i].list.map (Value.int .i64) = xs at *
          rw [← hwG] at hHW
          clear hwG
          go_wp2
          go_loopw [6, 7] (fun y x wy => ∃ kk : Nat, kk ≤ 9 ∧ x = .int .i64 kk ∧ Bx (Grw 3 1 H (.slice la k lc) k xs wG kk y wy)) (fun _ x _ => 9 - (intOf x).toNat)
          case atStart => exact ⟨0, Nat.zero_le _, rfl, HG0⟩
          case round =>
            obtain ⟨kk, hkk, rfl, HR⟩ := hrel
            clear HG0
            by_cases hl2 : kk < 9
            · obtain ⟨g9, c9, W3, r1, r2⟩ := HGI.out H _ k xs wG kk _ wr hl2 hLb hHW HR.out
              have HNX : Bx _ := ⟨r2⟩
              have q3 : (kk : Int) < 9 := by omega
              clear r2 HR HGI HGE
              go_wp2_with (at_builtin; refine wpList_appI rfl (.tmp 50) (.tmp 51) 22 rfl rfl rfl r1 ?_)
              go_roundw
              case rel => exact ⟨kk + 1, by omega, by go_num, HNX⟩
              case measure => simp [intOf]; omega
            · have q3 : ¬ (kk : Int) < 9 := by omega
              have HE : Bx _ := ⟨HEND.out _ _ _ HR.out⟩
              clear HR HGI HGE HEND
              go_wp2
              go_roundw
              case rel => exact ⟨i + 1, hlt, by go_num, HE⟩
              case measure => simp [intOf]; omega
    · obtain rfl : i = n := by omega
      have hHW := HSZ.out _ h1.sp
      have hlen := h1.len
      obtain ⟨wG, hwG⟩ : ∃ x, x = wr := ⟨_, rfl⟩
      have HG0 : Bx (Grw 24 8 H (.slice a i c) i (evCs es1 ls) wG 0 (.slice a i c) wr) := ⟨by
        rw [hwG]
        have hr := h1.x.evo.row
        rw [hlen] at hr
        exact Grw.start hr (gr_refl _ _) fun b hb => (owns_block hr hb).2⟩
      have HEND : Bx (∀ W' kk vk, Grw 24 8 H (.slice a i c) i (evCs es1 ls) wG kk vk W' → SpF H E w W' ∧ ∃ es', EvX W' H E (.slice a i c) es' ls ∧ Mkd m es'.length es') := ⟨fun W' kk vk hG => by
        have hD := h1.growR hHW (by rw [← hwG]; exact hG.gr) (by rw [hlen]; exact hG.old)
        exact ⟨hD.sp, es1, hD.x, by rw [hlen]; exact hD.mkd⟩⟩
      have hiI : ¬ (i : Int) < (i : Int) := by omega
      clear h1
      generalize evCs es1 ls = xs at *
      rw [← hwG] at hHW
      clear hwG
      go_wp2
      go_loopw [8, 9] (fun y x wy => ∃ kk : Nat, kk ≤ 9 ∧ x = .int .i64 kk ∧ Bx (Grw 24 8 H (.slice a i c) i xs wG kk y wy)) (fun _ x _ => 9 - (intOf x).toNat)
      case atStart => exact ⟨0, Nat.zero_le _, rfl, HG0⟩
      case round =>
        obtain ⟨kk, hkk, rfl, HR⟩ := hrel
        clear HG0
        by_cases hl2 : kk < 9
        · obtain ⟨g9, c9, W3, r1, r2⟩ := HGE.out H _ i xs wG kk _ wr hl2 hnn hHW HR.out
          have HNX : Bx _ := ⟨r2⟩
          have q3 : (kk : Int) < 9 := by omega
          clear r2 HR HGI HGE
          go_wp2_with (at_builtin; refine wpList_appI rfl (.tmp 58) (.tmp 60) 29 rfl rfl rfl r1 ?_)
          go_roundw
          case rel => exact ⟨kk + 1, by omega, by go_num, HNX⟩
          case measure => simp [intOf]; omega
        · have q3 : ¬ (kk : Int) < 9 := by omega
          have HE : Bx _ := ⟨HEND.out _ _ _ HR.out⟩
          clear HR HGI HGE HEND
          go_wp2
          (try simp only [Exit.inBlock, Exit.then])
          refine bodyPost_end (results_none rfl _ _ _) rfl ?_
          exact ⟨rfl, HE⟩
end Go.Proofs.YtecpknpcjoiliaaDoor
namespace Go.Proofs.YtecpknpcjoiliaaDoor
open Go.RowKit Go.Shelf
set_option linter.unusedVariables false
set_option linter.unusedSimpArgs false

set_option maxRecDepth 100000 in
set_option maxHeartbeats 4000000 in
theorem marked_any (w : World) (B : Nat) (a : Option Addr) (n c : Nat) (es : List Ev) (m : Int) (hm : -1000 ≤ m ∧ m ≤ 0) (h : EvsV w B a es) (hN : n = es.length) (hk : Mkd m es.length es) (hn : n ≤ 1099511627776) :
    Calls Tryd.prog 22 #[.slice a n c, .int .i64 m] w fun e w' => e = .returned (.bool true) ∧ w' = w := by
  have HR : Bx (∀ i, i < n → ∃ b o la lc L, a = some ⟨b, o, none⟩ ∧ w.cell? ⟨b, o + i * 8, none⟩ = some (.int .i64 m) ∧ w.cell? ⟨b, o + i * 8 + 7, none⟩ = some (.slice la L lc) ∧ L ≤ 9223372036854775807 ∧ ∀ k, k < L → ∃ b2 o2, la = some ⟨b2, o2, none⟩ ∧ L ≤ lc ∧ w.cell? ⟨b2, o2 + k, none⟩ = some (.int .i64 (m - i))) := ⟨fun i hi => by
    have hi' : i < es.length := by omega
    obtain ⟨b, o, ha, hb, hc⟩ := h.at_ (by omega)
    obtain ⟨la, lc, he⟩ := hc i hi'
    obtain ⟨k1, k2⟩ := hk i hi' hi'
    refine ⟨b, o, la, lc, es[i].list.length, ha, by rw [← k1]; exact he.c0, he.c7, by have := he.li.max; unfold maxLen at this; omega, fun k hkl => ?_⟩
    obtain ⟨b2, o2, q1, q2, q3⟩ := he.li.at_ (by omega)
    exact ⟨b2, o2, q1, he.li.cap, by rw [← k2 k hkl]; exact q3 k hkl⟩⟩
  clear h hk hN
  go_enter Tryd.func22, Tryd.ntmps22
  go_wp2
  go_loop [5] (fun x => ∃ i : Nat, i ≤ n ∧ x = .int .i64 i) (fun x => n - (intOf x).toNat)
  case atStart => exact ⟨0, Nat.zero_le _, rfl⟩
  case round =>
    obtain ⟨i, hi, rfl⟩ := hrel
    by_cases hlt : i < n
    · obtain ⟨b, o, la, lc, L, rfl, c0, c7, hL, hk⟩ := HR.out i hlt
      have HK : Bx _ := ⟨hk⟩
      have hiI : (i : Int) < (n : Int) := by omega
      have hwr : IntKind.i64.wrap (m - (i : Int)) = m - (i : Int) := by rw [IntKind.wrap_i64]; omega
      clear hk HR
      go_wp2
      go_loop [6] (fun x => ∃ k : Nat, k ≤ L ∧ x = .int .i64 k) (fun x => L - (intOf x).toNat)
      case atStart => exact ⟨0, Nat.zero_le _, rfl⟩
      case round =>
        obtain ⟨k, hk, rfl⟩ := hrel
        by_cases hkl : k < L
        · obtain ⟨b2, o2, rfl, hcap, ck⟩ := HK.out k hkl
          have hkI : (k : Int) < (L : Int) := by omega
          clear HK
          go_wp2
          go_round
          case rel => exact ⟨k + 1, hkl, by go_num⟩
          case measure => simp [intOf]; omega
        · have hkI : ¬ (k : Int) < (L : Int) := by omega
          clear HK
          go_wp2
          go_round
          case rel => exact ⟨i + 1, hlt, by go_num⟩
          case measure => simp [intOf]; omega
    · have hiI : ¬ (i : Int) < (n : Int) := by omega
      clear HR
      go_wp2
      go_ret
      exact ⟨rfl, rfl⟩
end Go.Proofs.YtecpknpcjoiliaaDoor
