import Derived.Test.YtijdcplffmdijaaDoorCDGc
import Derived.Test.YtijdcplffmdijaaDoorCDR
namespace Go.Proofs.YtijdcplffmdijaaDoor
open Go.RowKit
set_option linter.unusedVariables false
set_option linter.unusedSimpArgs false

theorem step_appI {P : Program} {w w' : World} {ops : Array Oper} {o : Oper} {a : Act} {K : Act → World → Prop} {Q : Exit → Act → World → Prop} {E : Prop} (hgd : o.guard = none) (s x : Operand) (t : TypeId)
    (ho : o.op = .call { callee := .builtin .append, args := #[s, x], argTypes := #[t, t] }) {v u r : Value} (hs : a.eval s = v) (hx : a.eval x = u) (hr : ∀ ty, (Builtin.append_ #[t, t] ty #[v, u]).run P w = .ok r w')
    (h : K (a.put o.dst r) w') : if Region.wanted o (yielded ops a.tmps) = true then Oper.wp P o a w K Q else E := by
  have hw : Region.wanted o (yielded ops a.tmps) = true := by simp [Region.wanted, hgd]
  rw [if_pos hw]
  unfold Oper.wp
  simp [execOp, ho, resolve, invoke, builtin, hs, hx, hr, Result.andThen]
  exact h
theorem BO.none0 (W : World) (H : Nat) (hH : W.heap.size = H) : BO (W.alloc (.cells #[] 5)) H (.slice (some ⟨H, 0, none⟩) 0 0) [] := by
  subst hH
  exact ⟨rfl, .inr ⟨W.heap.size, 0, #[], rfl, Nat.le_refl _, heap_alloc_new W _, Nat.le_refl _, by simp [maxLen], rfl, rfl⟩⟩
/-- numbers of one's own stay -/
theorem NRo.intsS {w : World} {B B' : Nat} {v : Value} {ks : List Int} (h : NRo w B' v ks) : ∃ a cap, v = .slice a ks.length cap ∧ IntsS w B a cap ks := by
  rcases h.own.2 with ⟨rfl, hn⟩ | ⟨g, cap, cur, rfl, hB, hg, q1, q2, q3, q4⟩
  · have : ks = [] := List.eq_nil_of_length_eq_zero hn
    subst this
    exact ⟨none, 0, rfl, fun w' _ => intsV_nil _ _ _ _⟩
  · refine ⟨_, _, rfl, fun w' hk => ?_⟩
    have h1 := hk.block hg (fun c fz e => by injection e with _ e; exact absurd e (by decide))
    refine ⟨q1, by omega, fun _ => ⟨g, 0, rfl, (Array.getElem?_eq_some_iff.1 h1).1, fun i hi => ?_⟩⟩
    rw [Nat.zero_add, World.cell?]
    simp only [h1]
    have e := congrArg (·[i]?) q4
    simp only [List.getElem?_map] at e
    rw [List.getElem?_take_of_lt (by omega), Array.getElem?_toList, List.getElem?_eq_getElem hi] at e
    simpa using e
theorem NRo.two (W : World) (H : Nat) (hH : W.heap.size = H) (x y : Int) : NRo (W.alloc (.cells #[.int .i64 x, .int .i64 y] 3)).drew H (.slice (some ⟨H, 0, none⟩) 2 2) [x, y] := by
  subst hH
  exact ⟨rfl, .inr ⟨W.heap.size, 2, #[.int .i64 x, .int .i64 y], rfl, Nat.le_refl _, heap_alloc_new W _, Nat.le_refl _, by simp [maxLen], rfl, rfl⟩⟩
theorem KU.up {B : Nat} {a b c : World} (h : KU B a b) (hB : B ≤ a.heap.size) (hb : Below b.heap.size b c) : KU B a c := h.below (Nat.le_trans hB h.size) hb
set_option maxRecDepth 100000 in
set_option maxHeartbeats 8000000 in
/-- the reference's Print -/
theorem rPrint_any (w : World) (u : CUn) (pa : Option Addr) (pc : Nat) (ta : Option Addr) (tc : Nat) (hu : UnIn w w.heap.size pa pc ta tc u) (hwf : u.Wf) (hc : unC u ≤ 1099511627776) :
    Calls Tryd.prog 23 #[unV u pa pc ta tc] w fun e w' => e = .returned (.tuple #[strV (if fitU u then unitT u else []), .int .i64 (if fitU u then 0 else 80)]) ∧ Below w.heap.size w w' := by
  obtain ⟨w0, hw0⟩ : ∃ w0, w0 = w.alloc (.cells #[.slice pa u.progs.length pc, .slice ta u.types.length tc] 36) := ⟨_, rfl⟩
  obtain ⟨B, hB⟩ : ∃ B, B = w0.heap.size := ⟨_, rfl⟩
  have hb0 : Below w.heap.size w w0 := by rw [hw0]; exact below1 w _
  have hwB : w.heap.size ≤ B := by rw [hB]; exact hb0.size
  have HU : Bx (UnIn w0 B pa pc ta tc u) := ⟨hu.below hb0 hwB⟩
  have HEND : Bx (∀ W, KU B w0 W → Below w.heap.size w W) := ⟨fun W hk => hb0.trans (hk.bel.mono hwB)⟩
  have HWF : Bx u.Wf := ⟨hwf⟩
  have hBle : B ≤ w0.heap.size := by omega
  have pmax := hu.progs.max
  have tmax := hu.types.max
  unfold maxLen at pmax tmax
  have d0 : w0.cell? ⟨w.heap.size, 0, none⟩ = some (.slice pa u.progs.length pc) := by rw [hw0]; simp [go_sem]
  have d1 : w0.cell? ⟨w.heap.size, 1, none⟩ = some (.slice ta u.types.length tc) := by rw [hw0]; simp [go_sem]
  have HC1 : Bx (∀ W, KU B w0 W → W.cell? ⟨w.heap.size, 0, none⟩ = some (.slice pa u.progs.length pc) ∧ W.cell? ⟨w.heap.size, 1, none⟩ = some (.slice ta u.types.length tc) ∧ w.heap.size < W.heap.size) := ⟨fun W hk => ⟨by rw [hk.bel.cell (p := ⟨w.heap.size, 0, none⟩) (by rw [hB, hw0]; simp)]; exact d0, by rw [hk.bel.cell (p := ⟨w.heap.size, 1, none⟩) (by rw [hB, hw0]; simp)]; exact d1, by have := hk.size; rw [hw0] at this; simp at this; omega⟩⟩
  obtain ⟨RS, hRS⟩ : ∃ RS, RS = (if fitU u then unitT u else []) := ⟨_, rfl⟩
  obtain ⟨RE, hRE⟩ : ∃ RE : Int, RE = (if fitU u then 0 else 80) := ⟨_, rfl⟩
  rw [← hRS, ← hRE]
  have HR0 : Bx (fitU u = false → RS = [] ∧ RE = 80) := ⟨fun h => by rw [hRS, hRE, h]; exact ⟨rfl, rfl⟩⟩
  have HR1 : Bx (fitU u = true → RS = unitT u ∧ RE = 0) := ⟨fun h => by rw [hRS, hRE, h]; exact ⟨rfl, rfl⟩⟩
  have O1 : Bx (BO (w0.alloc (.cells #[] 5)) B (.slice (some ⟨B, 0, none⟩) 0 0) [] ∧ KU B w0 (w0.alloc (.cells #[] 5))) := ⟨BO.none0 w0 B hB.symm, (KU.refl _ _).alloc hBle _⟩
  have eB : w.heap.size + 1 = B := by rw [hB, hw0]; simp
  obtain ⟨w1, hw1⟩ : ∃ w1, w0.alloc (.cells #[] 5) = w1 := ⟨_, rfl⟩
  rw [hw1] at O1
  have hw0' : w.alloc (.cells #[.slice pa u.progs.length pc, .slice ta u.types.length tc] 36) = w0 := hw0.symm
  have hz0 : w0.heap.size = B := hB.symm
  clear hu hwf hb0 hRS hRE d0 d1 hB hw0 eB hBle
  have hBle : Bx (B ≤ w0.heap.size) := ⟨by omega⟩
  go_enter Tryd.func23, Tryd.ntmps23
  go_wp2
  clear hw1 hw0' hz0
  go_loopw [5, 4] (fun x v wr => ∃ (k : Nat) (vv : Value), k ≤ u.types.length ∧ x = .int .i64 k ∧ vv = v ∧ Bx (BO wr B vv ((u.types.take k).flatMap typeT) ∧ KU B w0 wr)) (fun x _ _ => u.types.length - (intOf x).toNat)
  case atStart => exact ⟨0, _, Nat.zero_le _, rfl, rfl, O1⟩
  case round =>
    obtain ⟨k, vv, hk, rfl, rfl, HS⟩ := hrel
    clear O1
    obtain ⟨y0, y1, y2⟩ := HC1.out wr HS.out.2
    by_cases hlt : k < u.types.length
    · have hsz := HS.out.2.size
      obtain ⟨b, o, ka, kc, rfl, c0, c1, c2, hkk⟩ := ty_get HU.out.types HS.out.2.bel hlt
      have hwt := HWF.out.types u.types[k] (List.getElem_mem hlt)
      have hsum := sumF_take tyC u.types k hlt
      have hfl := flat_le tyC typeT (u.types.take k) fun t ht => type_len (HWF.out.types t (List.mem_of_mem_take ht))
      have hft := flat_take typeT u.types k hlt
      have hcc : sumF tyC u.types ≤ 1099511627776 := by unfold unC at hc; omega
      have hkm := hkk.max
      unfold maxLen at hkm
      generalize hT : (u.types.take k).flatMap typeT = T at *
      generalize ht : u.types[k] = t at *
      have hTl : T.length + 50 + 21 * t.kids.length ≤ 1099511627776 := by have e : tyC t = 50 + 21 * t.kids.length := rfl; omega
      obtain ⟨n, hn⟩ : ∃ n, t.kids.length = n := ⟨_, rfl⟩
      rw [hn] at c1
      obtain ⟨H, hH⟩ : ∃ H, wr.heap.size = H := ⟨_, rfl⟩
      obtain ⟨X1, hX1⟩ : ∃ X, X = wr.alloc (.cells #[.int .i64 t.kind, .slice ka n kc, .bool t.res] 54) := ⟨_, rfl⟩
      have bX1 : Below wr.heap.size wr X1 := by rw [hX1]; exact below1 wr _
      have sX1 : X1.heap.size = H + 1 := by rw [hX1, ← hH]; simp
      have iX1 : X1.heap[H]? = some (.cells #[.int .i64 t.kind, .slice ka n kc, .bool t.res] 54 (0, 0)) := by rw [hX1, ← hH]; exact heap_new wr _
      obtain ⟨X2, hX2⟩ : ∃ X, X = (X1.alloc (.cells #[.int .i64 t.kind, .int .i64 (bitI t.res)] 3)).drew := ⟨_, rfl⟩
      have bX2 : Below X1.heap.size X1 X2 := by rw [hX2]; exact (below1 X1 _).drew
      have nX2 : NRo X2 (H + 1) (.slice (some ⟨H + 1, 0, none⟩) 2 2) [t.kind, bitI t.res] := by rw [hX2]; exact NRo.two X1 (H + 1) sX1 _ _
      have bW2 : Below wr.heap.size wr X2 := bX1.trans (bX2.mono bX1.size)
      have k2 : KU B w0 X2 := HS.out.2.up hBle.out bW2
      have kidsV : IntsV X2 X2.heap.size ka kc t.kids := (hkk.below k2.bel).up (by have := k2.size; have := hBle.out; omega)
      obtain ⟨v7, w7, r7, o7, g7⟩ := app_row X2 (H + 1) _ _ nX2 ka kc t.kids kidsV (by have := bX2.size; omega) (by simp; omega)
      rw [hn] at r7
      have bW7 : Below (H + 1) X2 w7 := (Below.refl (H + 1) X2).grown g7 (by have := bX2.size; omega) fun x hx => by
        have : H + 1 = x := by simpa [Value.ownBlock] using hx
        omega
      have bX7 : Below wr.heap.size wr w7 := bW2.trans (bW7.mono (by omega))
      obtain ⟨a7, c7, hv7, i7⟩ := o7.intsS (B := B)
      have LN := line_any w7 B vv T typeW a7 c7 ([t.kind, bitI t.res] ++ t.kids) (by have := bX7.size; have := hBle.out; omega) (HS.out.1.below bX7) i7 (fun x hx => by
        simp only [List.cons_append, List.nil_append, List.mem_cons] at hx
        rcases hx with rfl | rfl | hx
        · exact hwt.kind
        · exact bit64 _
        · exact hwt.kids x hx) (by have e : typeW.length = 4 := rfl; simp only [List.length_append, List.length_cons, List.length_nil]; omega)
      rw [← hv7] at LN
      have HLN : Bx (Calls Tryd.prog 43 #[vv, .string ⟨#[116, 121, 112, 101]⟩, v7] w7 fun e w' => ∃ v', e = .returned v' ∧ Bx (BO w' B v' ((u.types.take (k + 1)).flatMap typeT) ∧ KU B w0 w')) := ⟨LN.mono fun e w' ⟨v', h1, h2⟩ => ⟨v', h1, ⟨by
        have h3 := h2.out.1
        rw [hft]
        have e4 : T ++ typeT t = T ++ typeW ++ numsT ([t.kind, bitI t.res] ++ t.kids) ++ [10] := by unfold typeT; simp [List.append_assoc]
        rw [e4]
        exact h3, (HS.out.2.up hBle.out bX7).trans h2.out.2.ku⟩⟩⟩
      have i2 := below_heap bX2 iX1
      have i7' : w7.heap[H]? = some (.cells #[.int .i64 t.kind, .slice ka n kc, .bool t.res] 54 (0, 0)) := (bW7.block H (by omega)).trans i2
      have SA : Bx (X1.cell? ⟨H, 0, none⟩ = some (.int .i64 t.kind) ∧ X1.cell? ⟨H, 1, none⟩ = some (.slice ka n kc) ∧ X1.cell? ⟨H, 2, none⟩ = some (.bool t.res)) := ⟨⟨cell_blk iX1 rfl, cell_blk iX1 rfl, cell_blk iX1 rfl⟩⟩
      have SB : Bx (X2.cell? ⟨H, 0, none⟩ = some (.int .i64 t.kind) ∧ X2.cell? ⟨H, 1, none⟩ = some (.slice ka n kc) ∧ X2.cell? ⟨H, 2, none⟩ = some (.bool t.res)) := ⟨⟨cell_blk i2 rfl, cell_blk i2 rfl, cell_blk i2 rfl⟩⟩
      have SC : Bx (w7.cell? ⟨H, 0, none⟩ = some (.int .i64 t.kind) ∧ w7.cell? ⟨H, 1, none⟩ = some (.slice ka n kc) ∧ w7.cell? ⟨H, 2, none⟩ = some (.bool t.res)) := ⟨⟨cell_blk i7' rfl, cell_blk i7' rfl, cell_blk i7' rfl⟩⟩
      have HX1 : Bx _ := ⟨hX1⟩
      have HX2 : Bx _ := ⟨hX2⟩
      have R7 : Bx _ := ⟨r7⟩
      have lX : H < X1.heap.size := by omega
      clear hX1 hX2
      clear hsum hfl hft hcc hwt hT bX1 iX1 bX2 nX2 bW2 k2 kidsV o7 g7 bW7 bX7 i7 LN i2 i7' HS hkk hv7
      go_wp2
      rw [← HX1.out]
      obtain ⟨z0, z1, z2⟩ := SA.out
      have r8 := R7.out
      rw [HX2.out] at r8
      rw [HX2.out] at SB
      have R8 : Bx _ := ⟨r8⟩
      clear r8 R7 r7
      go_region_held3 (fun w' => (w'.cell? ⟨H, 0, none⟩ = some (.int .i64 t.kind) ∧ w'.cell? ⟨H, 1, none⟩ = some (.slice ka n kc) ∧ w'.cell? ⟨H, 2, none⟩ = some (.bool t.res)))
        (first | exact ⟨z0, z1, z2⟩ | exact SB.out | exact SC.out | go_keep)
        (first
          | (go_at_call 42; refine (flag_any _ _).mono ?_; rintro e w' ⟨rfl, rfl⟩)
          | (refine step_appI (by rfl) (.tmp 29) (.tmp 31) 26 (by rfl) (by simp [Act.eval, Act.put]) (by simp [Act.eval, Act.put]) R8.out ?_))
      clear z0 z1 z2 SA SB SC R8 HX1 HX2 c0 c1 c2
      go_wp2_with (first
        | (go_at_call 43; refine HLN.out.mono ?_; rintro e w8 ⟨v8, rfl, H8⟩))
      go_roundw
      case rel => exact ⟨k + 1, _, by omega, by go_num, rfl, H8⟩
      case measure => simp [intOf]; omega
    · have hke : k = u.types.length := by omega
      subst hke
      rw [List.take_of_length_le (Nat.le_refl _)] at HS
      have HS0 : Bx _ := HS
      have hTL := flat_le tyC typeT u.types fun t ht => type_len (HWF.out.types t ht)
      have hTL2 : (u.types.flatMap typeT).length + sumF pgC u.progs ≤ 1099511627776 := by unfold unC at hc; omega
      have HUT : Bx (unitT u = u.types.flatMap typeT ++ u.progs.flatMap progT) := ⟨rfl⟩
      generalize hTT : u.types.flatMap typeT = TT at *
      clear hTL HS
      go_wp2
      clear y0 y1
      go_loopw [8, 4] (fun x v wr => ∃ (k : Nat) (vv : Value), k ≤ u.progs.length ∧ x = .int .i64 k ∧ vv = v ∧ Bx (BO wr B vv (TT ++ (u.progs.take k).flatMap progT) ∧ KU B w0 wr ∧ (u.progs.take k).all fitP = true)) (fun x _ _ => u.progs.length - (intOf x).toNat)
      case atStart => exact ⟨0, _, Nat.zero_le _, rfl, rfl, ⟨by rw [List.take_zero, List.flatMap_nil, List.append_nil]; exact HS0.out.1, HS0.out.2, rfl⟩⟩
      case round =>
        obtain ⟨k, v3, hk2, rfl, rfl, HS⟩ := hrel
        clear HS0
        obtain ⟨y0, y1, y2⟩ := HC1.out wr HS.out.2.1
        by_cases hlt2 : k < u.progs.length
        · have hsz := HS.out.2.1.size
          obtain ⟨b, o, ca, cc, rfl, c0, c1, c2, c3, c4, hcd⟩ := pg_get HU.out.progs HS.out.2.1.bel hlt2
          have hwp := HWF.out.progs u.progs[k] (List.getElem_mem hlt2)
          have hsum := sumF_take pgC u.progs k hlt2
          have hfl := flat_le pgC progT (u.progs.take k) fun t ht => prog_len (HWF.out.progs t (List.mem_of_mem_take ht))
          have hft := flat_take progT u.progs k hlt2
          have hcm := hcd.max
          unfold maxLen at hcm
          have hall : (u.progs.take (k + 1)).all fitP = ((u.progs.take k).all fitP && fitP u.progs[k]) := by
            rw [List.take_succ_eq_append_getElem hlt2, List.all_append]
            simp
          have hbad : fitP u.progs[k] = false → fitU u = false := fun h => by
            unfold fitU
            rw [List.all_eq_false]
            exact ⟨u.progs[k], List.getElem_mem hlt2, by rw [h]; simp⟩
          generalize hT : TT ++ (u.progs.take k).flatMap progT = T at *
          generalize hp : u.progs[k] = p at *
          have hTl : T.length + 100 + sumF inC p.code ≤ 1099511627776 := by
            have e : pgC p = 100 + sumF inC p.code := rfl
            rw [← hT, List.length_append]
            omega
          obtain ⟨H, hH⟩ : ∃ H, wr.heap.size = H := ⟨_, rfl⟩
          obtain ⟨n, hn⟩ : ∃ n, p.code.length = n := ⟨_, rfl⟩
          rw [hn] at c4 hcm
          obtain ⟨X1, hX1⟩ : ∃ X, X = wr.alloc (.cells #[.int .i64 p.params, .int .i64 p.slots, .int .i64 p.caps, .bool p.res, .slice ca n cc] 57) := ⟨_, rfl⟩
          have bX1 : Below wr.heap.size wr X1 := by rw [hX1]; exact below1 wr _
          have sX1 : X1.heap.size = H + 1 := by rw [hX1, ← hH]; simp
          have iX1 : X1.heap[H]? = some (.cells #[.int .i64 p.params, .int .i64 p.slots, .int .i64 p.caps, .bool p.res, .slice ca n cc] 57 (0, 0)) := by rw [hX1, ← hH]; exact heap_new wr _
          obtain ⟨X2, hX2⟩ : ∃ X, X = (X1.alloc (.cells #[.int .i64 p.params, .int .i64 p.slots, .int .i64 p.caps, .int .i64 (bitI p.res)] 3)).drew := ⟨_, rfl⟩
          have bX2 : Below X1.heap.size X1 X2 := by rw [hX2]; exact (below1 X1 _).drew
          have iX2 : X2.heap[H + 1]? = some (.cells #[.int .i64 p.params, .int .i64 p.slots, .int .i64 p.caps, .int .i64 (bitI p.res)] 3 (0, 0)) := by rw [hX2, ← sX1]; exact heap_new X1 _
          have bW2 : Below wr.heap.size wr X2 := bX1.trans (bX2.mono bX1.size)
          have hks : ∀ x ∈ [p.params, p.slots, p.caps, bitI p.res], I64 x := fun x hx => by
            simp only [List.mem_cons, List.not_mem_nil, or_false] at hx
            rcases hx with rfl | rfl | rfl | rfl
            · exact hwp.params
            · exact hwp.slots
            · exact hwp.caps
            · exact bit64 _
          have LN := line_any X2 B v3 T progW (some ⟨H + 1, 0, none⟩) 4 [p.params, p.slots, p.caps, bitI p.res] (by have := bW2.size; have := hBle.out; omega) (HS.out.1.below bW2) (IntsS.new (ks := [p.params, p.slots, p.caps, bitI p.res]) iX2 rfl (by simp [maxLen])) hks (by have e : progW.length = 4 := rfl; simp only [List.length_cons, List.length_nil]; omega)
          have HLN : Bx (Calls Tryd.prog 43 #[v3, .string ⟨#[112, 114, 111, 103]⟩, .slice (some ⟨H + 1, 0, none⟩) 4 4] X2 fun e w' => ∃ v', e = .returned v' ∧ Bx ((BO w' B v' (T ++ headT p) ∧ KU B w0 w') ∧ w'.heap[H]? = some (.cells #[.int .i64 p.params, .int .i64 p.slots, .int .i64 p.caps, .bool p.res, .slice ca n cc] 57 (0, 0)))) := ⟨LN.mono fun e w' ⟨v', h1, h2⟩ => ⟨v', h1, ⟨⟨by
            have h3 := h2.out.1
            have e4 : T ++ headT p = T ++ progW ++ numsT [p.params, p.slots, p.caps, bitI p.res] ++ [10] := by unfold headT; simp [List.append_assoc]
            rw [e4]
            exact h3, (HS.out.2.1.up hBle.out bW2).trans h2.out.2.ku⟩, h2.out.2.ku.block (below_heap bX2 iX1) (fun c fz e => by injection e with _ e; exact absurd e (by decide))⟩⟩⟩
          have i2 := below_heap bX2 iX1
          have SA : Bx (X1.cell? ⟨H, 0, none⟩ = some (.int .i64 p.params) ∧ X1.cell? ⟨H, 1, none⟩ = some (.int .i64 p.slots) ∧ X1.cell? ⟨H, 2, none⟩ = some (.int .i64 p.caps) ∧ X1.cell? ⟨H, 3, none⟩ = some (.bool p.res)) := ⟨⟨cell_blk iX1 rfl, cell_blk iX1 rfl, cell_blk iX1 rfl, cell_blk iX1 rfl⟩⟩
          have SB : Bx (X2.cell? ⟨H, 0, none⟩ = some (.int .i64 p.params) ∧ X2.cell? ⟨H, 1, none⟩ = some (.int .i64 p.slots) ∧ X2.cell? ⟨H, 2, none⟩ = some (.int .i64 p.caps) ∧ X2.cell? ⟨H, 3, none⟩ = some (.bool p.res)) := ⟨⟨cell_blk i2 rfl, cell_blk i2 rfl, cell_blk i2 rfl, cell_blk i2 rfl⟩⟩
          have HX1 : Bx _ := ⟨hX1⟩
          have HX2 : Bx _ := ⟨hX2⟩
          have lX : H < X1.heap.size := by omega
          have HFT : Bx (TT ++ (u.progs.take (k + 1)).flatMap progT = T ++ progT p) := ⟨by rw [hft, ← hT, List.append_assoc]⟩
          have HALL : Bx ((u.progs.take k).all fitP = true) := ⟨HS.out.2.2⟩
          have HCD : Bx _ := ⟨hcd⟩
          have HWP : Bx _ := ⟨hwp⟩
          have HAL : Bx _ := ⟨hall⟩
          have HBAD : Bx _ := ⟨hbad⟩
          have HCN : Bx _ := ⟨hn⟩
          clear hsum hfl hft hcd hwp hT bX1 iX1 bX2 bW2 LN i2 HS hks iX2 hX1 hX2 hall hbad hn
          go_wp2
          rw [← HX1.out]
          obtain ⟨z0, z1, z2, z3⟩ := SA.out
          rw [HX2.out] at SB HLN
          go_region_held3 (fun w' => (w'.cell? ⟨H, 0, none⟩ = some (.int .i64 p.params) ∧ w'.cell? ⟨H, 1, none⟩ = some (.int .i64 p.slots) ∧ w'.cell? ⟨H, 2, none⟩ = some (.int .i64 p.caps) ∧ w'.cell? ⟨H, 3, none⟩ = some (.bool p.res)))
            (first | exact ⟨z0, z1, z2, z3⟩ | exact SB.out | exact SC.out | go_keep)
            (first
              | (go_at_call 42; refine (flag_any _ _).mono ?_; rintro e w' ⟨rfl, rfl⟩)
              | (go_at_call 43; refine HLN.out.mono ?_; rintro e w4 ⟨v4, rfl, H4⟩; have i4 := H4.out.2; have SC : Bx (w4.cell? ⟨H, 0, none⟩ = some (.int .i64 p.params) ∧ w4.cell? ⟨H, 1, none⟩ = some (.int .i64 p.slots) ∧ w4.cell? ⟨H, 2, none⟩ = some (.int .i64 p.caps) ∧ w4.cell? ⟨H, 3, none⟩ = some (.bool p.res)) := ⟨⟨cell_blk i4 rfl, cell_blk i4 rfl, cell_blk i4 rfl, cell_blk i4 rfl⟩⟩; clear i4))
          have HD : Bx (BO w4 B v4 (T ++ headT p ++ (p.code.take 0).flatMap insT) ∧ KU B w0 w4 ∧ (p.code.take 0).all fitI = true ∧ w4.heap[H]? = some (.cells #[.int .i64 p.params, .int .i64 p.slots, .int .i64 p.caps, .bool p.res, .slice ca n cc] 57 (0, 0))) := ⟨by rw [List.take_zero, List.flatMap_nil, List.append_nil]; exact H4.out.1.1, H4.out.1.2, rfl, H4.out.2⟩
          clear H4 SC SB SA HLN HX1 HX2 z0 z1 z2 z3 c0 c1 c2 c3 c4 y0 y1
          go_wp2
          go_loopw [10, 4] (fun x v wq => ∃ (j : Nat) (vq : Value), j ≤ n ∧ x = .int .i64 j ∧ vq = v ∧ Bx (BO wq B vq (T ++ headT p ++ (p.code.take j).flatMap insT) ∧ KU B w0 wq ∧ (p.code.take j).all fitI = true ∧ wq.heap[H]? = some (.cells #[.int .i64 p.params, .int .i64 p.slots, .int .i64 p.caps, .bool p.res, .slice ca n cc] 57 (0, 0)))) (fun x _ _ => n - (intOf x).toNat)
          case atStart => exact ⟨0, _, Nat.zero_le _, rfl, rfl, HD⟩
          case round =>
            obtain ⟨j, vq, hj, rfl, rfl, HQ⟩ := hrel
            clear HD
            have iQ := HQ.out.2.2.2
            have z4 : wr.cell? ⟨H, 4, none⟩ = some (.slice ca n cc) := cell_blk iQ rfl
            have lQ : H < wr.heap.size := (Array.getElem?_eq_some_iff.1 iQ).1
            by_cases hlj : j < n
            · have hj' : j < p.code.length := by have := HCN.out; omega
              have hsq := HQ.out.2.1.size
              obtain ⟨cb, co, la, lc, rfl, x0, x1, x2, x3, hli⟩ := in_get HCD.out HQ.out.2.1.bel hj'
              have hwi := HWP.out.code p.code[j] (List.getElem_mem hj')
              have hsu := sumF_take inC p.code j hj'
              have hfl := flat_le inC insT (p.code.take j) fun t ht => ins_len (HWP.out.code t (List.mem_of_mem_take ht))
              have hfi := flat_take insT p.code j hj'
              have hlm := hli.max
              unfold maxLen at hlm
              have hal : (p.code.take (j + 1)).all fitI = ((p.code.take j).all fitI && fitI p.code[j]) := by
                rw [List.take_succ_eq_append_getElem hj', List.all_append]
                simp
              have hbd : fitI p.code[j] = false → fitP p = false := fun h => by
                unfold fitP
                rw [List.all_eq_false]
                exact ⟨p.code[j], List.getElem_mem hj', by rw [h]; simp⟩
              generalize hi : p.code[j] = i at *
              generalize hT2 : T ++ headT p ++ (p.code.take j).flatMap insT = T2 at *
              have hT2l : T2.length + 60 + 21 * i.list.length ≤ 1099511627776 := by
                have e : inC i = 60 + 21 * i.list.length := rfl
                have := head_len HWP.out
                rw [← hT2, List.length_append, List.length_append]
                omega
              have HCL := clean_any wr i la lc hwi
              obtain ⟨ln, hln⟩ : ∃ n, i.list.length = n := ⟨_, rfl⟩
              rw [hln] at x3 HCL hlm
              have HBE : Bx (∀ Y, Below wr.heap.size wr Y → BO Y B vq T2 ∧ KU B w0 Y ∧ Y.heap[H]? = some (.cells #[.int .i64 p.params, .int .i64 p.slots, .int .i64 p.caps, .bool p.res, .slice (some ⟨cb, co, none⟩) n cc] 57 (0, 0)) ∧ (Y.cell? ⟨H, 4, none⟩ = some (.slice (some ⟨cb, co, none⟩) n cc) ∧ Y.cell? ⟨cb, co + j * 4, none⟩ = some (.int .i64 i.op) ∧ Y.cell? ⟨cb, co + j * 4 + 1, none⟩ = some (.int .i64 i.a) ∧ Y.cell? ⟨cb, co + j * 4 + 2, none⟩ = some (.int .i64 i.b) ∧ Y.cell? ⟨cb, co + j * 4 + 3, none⟩ = some (.slice la ln lc)) ∧ cb < Y.heap.size ∧ H < Y.heap.size) := ⟨fun Y hY => by
                have k := HQ.out.2.1.up hBle.out hY
                have eH := below_heap hY HQ.out.2.2.2
                have hcb : cb < wr.heap.size := World.block_lt_of_cell? wr _ x0
                have hc : ∀ i, Y.cell? ⟨cb, i, none⟩ = wr.cell? ⟨cb, i, none⟩ := fun i => hY.cell (p := ⟨cb, i, none⟩) hcb
                exact ⟨HQ.out.1.below hY, k, eH, ⟨cell_blk eH rfl, by rw [hc]; exact x0, by rw [hc]; exact x1, by rw [hc]; exact x2, by rw [hc]; exact x3⟩, Nat.lt_of_lt_of_le hcb hY.size, (Array.getElem?_eq_some_iff.1 eH).1⟩⟩
              have hcb : cb < wr.heap.size := World.block_lt_of_cell? wr _ x0
              cases hfc : fitI i with
              | false =>
                rw [hfc] at HCL
                have hr0 := HR0.out (HBAD.out (hbd hfc))
                have HRR : Bx (RS = [] ∧ RE = 80) := ⟨hr0⟩
                clear hr0 hbd hal hfi hsu hfl hwi hli HQ iQ
                go_wp2_with (first
                  | (go_at_call 44; refine HCL.mono ?_; rintro e w5 ⟨rfl, hb5⟩))
                refine bodyPost_ret (v := .tuple #[strV [], .int .i64 80]) (by simp [results, Tryd.results23, go_sem]) rfl ?_
                obtain ⟨e1, e2⟩ := HRR.out
                exact ⟨by rw [e1, e2], HEND.out _ (HBE.out w5 hb5).2.1⟩
              | true =>
                rw [hfc] at HCL
                have HNX : Bx (∀ w' v', BO w' B v' (T2 ++ nameI i.op ++ numsT (numsI i) ++ [10]) → BO w' B v' (T ++ headT p ++ (p.code.take (j + 1)).flatMap insT)) := ⟨fun w' v' h => by
                  rw [hfi, ← List.append_assoc, hT2]
                  have e4 : T2 ++ insT i = T2 ++ nameI i.op ++ numsT (numsI i) ++ [10] := by unfold insT; simp [List.append_assoc]
                  rw [e4]
                  exact h⟩
                have HAL2 : Bx ((p.code.take (j + 1)).all fitI = true) := ⟨by rw [hal, HQ.out.2.2.1, hfc]; rfl⟩
                have hnl : (nameI i.op).length ≤ 5 := name_len i.op
                have hnn : (numsI i).length ≤ 2 + i.list.length := by
                  unfold numsI
                  rw [List.length_append, List.length_append]
                  split <;> split <;> simp <;> omega
                have HNm : Bx (∀ Y X : World, Below Y.heap.size Y X → Calls Tryd.prog 12 #[.int .i64 i.op] X fun e w' => e = .returned (strV (nameI i.op)) ∧ Bx (Below Y.heap.size Y w' ∧ Below X.heap.size X w')) := ⟨fun Y X hX => (rName_any i.op X hwi.op).mono fun e w' h => ⟨h.1, ⟨hX.trans (h.2.mono hX.size), h.2⟩⟩⟩
                have HNu : Bx (∀ Y X : World, Below wr.heap.size wr Y → Below Y.heap.size Y X → Calls Tryd.prog 45 #[.agg #[.int .i64 i.op, .int .i64 i.a, .int .i64 i.b, .slice la ln lc]] X fun e w' => ∃ a' c', e = .returned (.slice a' (numsI i).length c') ∧ Bx (Below Y.heap.size Y w' ∧ IntsS w' B a' c' (numsI i))) := ⟨fun Y X hY hX => by
                  have hwX : Below wr.heap.size wr X := hY.trans (hX.mono hY.size)
                  have kX := HQ.out.2.1.up hBle.out hwX
                  rw [← hln]
                  refine (rnumbers_any X i la lc hwi ((hli.below kX.bel).up (by have := kX.size; have := hBle.out; omega)) (by omega)).mono ?_
                  rintro e w' ⟨v', rfl, h⟩
                  obtain ⟨a', c', rfl, h2⟩ := h.out.1.intsS (B := B)
                  exact ⟨a', c', rfl, ⟨hX.trans (h.out.2.mono hX.size), h2⟩⟩⟩
                have HLi : Bx (∀ (Y Z : World) a' c', Below wr.heap.size wr Y → Below Y.heap.size Y Z → IntsS Z B a' c' (numsI i) → Calls Tryd.prog 43 #[vq, strV (nameI i.op), .slice a' (numsI i).length c'] Z fun e w' => ∃ v', e = .returned v' ∧ Bx ((BO w' B v' (T ++ headT p ++ (p.code.take (j + 1)).flatMap insT) ∧ KU B w0 w' ∧ (p.code.take (j + 1)).all fitI = true ∧ w'.heap[H]? = some (.cells #[.int .i64 p.params, .int .i64 p.slots, .int .i64 p.caps, .bool p.res, .slice (some ⟨cb, co, none⟩) n cc] 57 (0, 0))) ∧ (w'.cell? ⟨H, 4, none⟩ = some (.slice (some ⟨cb, co, none⟩) n cc) ∧ w'.cell? ⟨cb, co + j * 4, none⟩ = some (.int .i64 i.op) ∧ w'.cell? ⟨cb, co + j * 4 + 1, none⟩ = some (.int .i64 i.a) ∧ w'.cell? ⟨cb, co + j * 4 + 2, none⟩ = some (.int .i64 i.b) ∧ w'.cell? ⟨cb, co + j * 4 + 3, none⟩ = some (.slice la ln lc)))) := ⟨fun Y Z a' c' hY hZ h2 => by
                  have hwZ : Below wr.heap.size wr Z := hY.trans (hZ.mono hY.size)
                  obtain ⟨g1, g2, g3, g4, g5, g6⟩ := HBE.out Z hwZ
                  refine (line_any Z B vq T2 (nameI i.op) a' c' (numsI i) (by have := g2.size; have := hBle.out; omega) g1 h2 (numsI_wf hwi) (by omega)).mono ?_
                  rintro e w' ⟨v', rfl, h⟩
                  have k := h.out.2.ku
                  have eH := k.block g3 (fun c fz e => by injection e with _ e; exact absurd e (by decide))
                  have hcbB : cb < B := by
                    obtain ⟨b', o', e, hb', _⟩ := HCD.out.at_ (by omega)
                    injection e with e
                    injection e with e1 e2
                    omega
                  have hc : ∀ i, w'.cell? ⟨cb, i, none⟩ = Z.cell? ⟨cb, i, none⟩ := fun i => k.bel.cell (p := ⟨cb, i, none⟩) hcbB
                  exact ⟨v', rfl, ⟨⟨HNX.out w' v' h.out.1, g2.trans k, HAL2.out, eH⟩, ⟨cell_blk eH rfl, by rw [hc]; exact g4.2.1, by rw [hc]; exact g4.2.2.1, by rw [hc]; exact g4.2.2.2.1, by rw [hc]; exact g4.2.2.2.2⟩⟩⟩⟩
                generalize numsI i = nums at *
                generalize nameI i.op = nm at *
                clear hbd hal hfi hsu hfl hwi hli HQ iQ HNX HAL2
                go_wp2_with (first
                  | (go_at_call 44; refine HCL.mono ?_; rintro e w5 ⟨rfl, hb5⟩))
                have HB5 : Bx _ := ⟨hb5⟩
                obtain ⟨_, _, _, q5, l5, l5'⟩ := HBE.out w5 hb5
                have HQ5 : Bx (∀ X, Below w5.heap.size w5 X → (X.cell? ⟨H, 4, none⟩ = some (.slice (some ⟨cb, co, none⟩) n cc) ∧ X.cell? ⟨cb, co + j * 4, none⟩ = some (.int .i64 i.op) ∧ X.cell? ⟨cb, co + j * 4 + 1, none⟩ = some (.int .i64 i.a) ∧ X.cell? ⟨cb, co + j * 4 + 2, none⟩ = some (.int .i64 i.b) ∧ X.cell? ⟨cb, co + j * 4 + 3, none⟩ = some (.slice la ln lc)) ∧ cb < X.heap.size ∧ H < X.heap.size) := ⟨fun X hX => (HBE.out X (HB5.out.trans (hX.mono HB5.out.size))).2.2.2⟩
                obtain ⟨s0, s1, s2, s3, s4⟩ := q5
                clear hb5 x0 x1 x2 x3 z4 HCL
                go_region_held3 (fun w' => (w'.cell? ⟨H, 4, none⟩ = some (.slice (some ⟨cb, co, none⟩) n cc) ∧ w'.cell? ⟨cb, co + j * 4, none⟩ = some (.int .i64 i.op) ∧ w'.cell? ⟨cb, co + j * 4 + 1, none⟩ = some (.int .i64 i.a) ∧ w'.cell? ⟨cb, co + j * 4 + 2, none⟩ = some (.int .i64 i.b) ∧ w'.cell? ⟨cb, co + j * 4 + 3, none⟩ = some (.slice la ln lc)))
                  (first | exact ⟨s0, s1, s2, s3, s4⟩ | exact SN.out | exact SM.out | exact SN2.out | exact SM2.out | exact SL.out | go_keep)
                  (first
                    | (go_at_call 12; refine (HNm.out w5 _ HM1.out.1).mono ?_; rintro e w6 ⟨rfl, HN6⟩; have SN2 : Bx _ := ⟨(HQ5.out w6 HN6.out.1).1⟩; have HZ : Bx (Below w5.heap.size w5 w6 ∧ IntsS w6 B a6 c6 nums) := ⟨HN6.out.1, HM1.out.2.on ((KU.refl B _).below (by have := HM1.out.1.size; have := HB5.out.size; have := hBle.out; omega) HN6.out.2)⟩; clear HM1)
                    | (go_at_call 12; refine (HNm.out w5 _ (Below.refl _ _).drew).mono ?_; rintro e w6 ⟨rfl, HN1⟩; have SN : Bx _ := ⟨(HQ5.out w6 HN1.out.1).1⟩)
                    | (go_at_call 45; refine (HNu.out w5 _ HB5.out HN1.out.1).mono ?_; rintro e w7 ⟨a6, c6, rfl, HZ⟩; have SM2 : Bx _ := ⟨(HQ5.out w7 HZ.out.1).1⟩; clear HN1)
                    | (go_at_call 45; refine (HNu.out w5 _ HB5.out (Below.refl _ _).drew).mono ?_; rintro e w7 ⟨a6, c6, rfl, HM1⟩; have SM : Bx _ := ⟨(HQ5.out w7 HM1.out.1).1⟩)
                    | (go_at_call 43; refine (HLi.out w5 _ _ _ HB5.out HZ.out.1 HZ.out.2).mono ?_; rintro e w9 ⟨v9, rfl, H9⟩; have SL : Bx _ := ⟨H9.out.2⟩))
                all_goals
                  clear s0 s1 s2 s3 s4
                  have HF9 : Bx _ := ⟨H9.out.1⟩
                  clear H9 SL
                  go_wp2
                  go_roundw
                  case rel => exact ⟨j + 1, _, by omega, by go_num, rfl, HF9⟩
                  case measure => simp [intOf]; omega
            · have hje : j = n := by omega
              have HF : Bx (BO wr B vq (TT ++ (u.progs.take (k + 1)).flatMap progT) ∧ KU B w0 wr ∧ (u.progs.take (k + 1)).all fitP = true) := ⟨by
                have h := HQ.out
                rw [List.take_of_length_le (by have := HCN.out; omega)] at h
                rw [HFT.out]
                refine ⟨?_, h.2.1, ?_⟩
                · have e : T ++ progT p = T ++ headT p ++ p.code.flatMap insT := by unfold progT; rw [List.append_assoc]
                  rw [e]
                  exact h.1
                · rw [HAL.out, HALL.out]
                  exact h.2.2.1⟩
              have q1 : ¬ (j : Int) < (n : Int) := by omega
              clear HQ iQ
              go_wp2
              go_roundw
              case rel => exact ⟨k + 1, _, by omega, by go_num, rfl, HF⟩
              case measure => simp [intOf]; omega
        · have hke : k = u.progs.length := by omega
          subst hke
          have h := HS.out
          rw [List.take_of_length_le (Nat.le_refl _)] at h
          have hcv := BO.str h.1
          have hfu : fitU u = true := h.2.2
          obtain ⟨e1, e2⟩ := HR1.out hfu
          have e3 : TT ++ u.progs.flatMap progT = RS := by rw [e1, HUT.out]
          rw [e3] at hcv
          have HKE : Bx _ := ⟨HEND.out _ h.2.1⟩
          have E2 : Bx _ := ⟨e2⟩
          clear h e1 e2 e3 HS hfu
          go_wp2
          refine bodyPost_ret (v := .tuple #[strV RS, .int .i64 0]) (by simp [results, Tryd.results23, go_sem]) rfl ?_
          exact ⟨by rw [E2.out], HKE.out⟩
end Go.Proofs.YtijdcplffmdijaaDoor
