import Derived.Test.YtikijkpklneihaaCVSq
import Derived.Deep.RegionHeld3
namespace Go.Proofs.Ytikijkpklneihaa
open Go.RowKit
set_option linter.unusedVariables false
set_option linter.unusedSimpArgs false

set_option maxRecDepth 100000 in
set_option maxHeartbeats 8000000 in
/-- spoil: marked and grown, all reads as it must -/
theorem spoil_any (w : World) (lo h : Nat) (ρ : Gh) (ov wv : Value) (n : Nat) (X : Nat → V) (hB : Bk w lo h ρ ov wv n X) (hn : n ≤ 8) (hX : ∀ i, i < n → (X i).sz ≤ 200000) :
    Calls Try.prog 15 #[.pointer (some ⟨h, 0, none⟩)] w fun e w' => e = .returned (.bool true) ∧ Bx (SpF w w' ρ) := by
  have HX : Bx (∀ i, i < n → (X i).sz ≤ 200000) := ⟨hX⟩
  obtain ⟨⟨ga, gc, e1⟩, ⟨gb, gd, e2⟩⟩ := hB.slices
  have HB : Bx (Bk w lo h ρ ov wv n X) := ⟨hB⟩
  have HO : Bx (∀ wr Y, Bk wr lo h ρ ov wv n Y → wr.cell? ⟨h, 0, none⟩ = some ov ∧ h < wr.heap.size) := ⟨fun wr Y hY => ⟨cell_blk hY.hd rfl, heap_lt hY.hd⟩⟩
  have HH0 : Bx _ := ⟨holds_any w lo h ρ ov wv n X hB (by omega)⟩
  clear hX hB
  subst e1 e2
  go_enter Try.func15, Try.ntmps15
  go_wp2_with (first
    | (go_at_call 25; refine Calls.mono HH0.out ?_; clear HH0; rintro e w1 ⟨rfl, hb1⟩; have HM0 : Bx (Bk w1 lo h ρ (.slice ga n gc) (.slice gb n gd) n (mkX X 0) ∧ SpF w w1 ρ) := ⟨by (have := HB.out.next hb1; have e : mkX X 0 = X := (by funext j; simp [mkX]); rw [e]; exact this), ⟨hb1.os, hb1.tape, hb1.output, hb1.size, fun b h1 _ => hb1.block b h1⟩⟩; clear hb1))
  go_loopg [4] (n + 1) (fun q v wr => ∃ i : Nat, q = n + 1 - i ∧ i ≤ n ∧ v = .int .i64 i ∧ Bx (Bk wr lo h ρ (.slice ga n gc) (.slice gb n gd) n (mkX X i) ∧ SpF w wr ρ))
  case atStart => exact ⟨0, by simp, by omega, rfl, HM0⟩
  case round =>
    obtain ⟨i, hq, hil, rfl, HS⟩ := hrel
    clear HM0 HB
    obtain ⟨hc0, hhl⟩ := HO.out _ _ HS.out.1
    by_cases hlt : i < n
    · obtain ⟨g, c, g', c', p, pc, p', pc', e1, e2, ⟨q1, q2, q3, q4, q5, q6, q7⟩, ⟨a0, a1, a2⟩, ⟨d0, d1, d2⟩, ⟨h0, h1⟩, ⟨hk, hm⟩, t1, t2⟩ := HS.out.1.at_ hlt
      simp only [Value.slice.injEq] at e1 e2
      obtain ⟨rfl, -, rfl⟩ := e1
      obtain ⟨rfl, -, rfl⟩ := e2
      have e3 : mkX X i i = X i := by simp [mkX]
      rw [e3] at a0 a1 a2 d0 d1 d2 hk hm t1 t2
      have hxs := HX.out i hlt
      have hiI : (i : Int) < (n : Int) := by omega
      have hw1 : IntKind.i64.wrap (1000 * (i : Int)) = 1000 * i := by rw [IntKind.wrap_i64]; omega
      have hw2 : IntKind.i64.wrap (1000 * (i : Int) + 1) = 1000 * i + 1 := by rw [IntKind.wrap_i64]; omega
      unfold maxLen at q2 q4
      have hsup : ∀ b, wr.heap.size ≤ b → ρ b = none := fun b hb => by
        cases hr : ρ b with
        | none => rfl
        | some r => have := (HS.out.1.sup b (by rw [hr]; simp)).1; omega
      have hno : ρ h = none ∧ ρ g = none ∧ ρ g' = none := by
        have key : ∀ b, (ρ b ≠ none → False) → ρ b = none := fun b hb => by
          cases hr : ρ b with
          | none => rfl
          | some r => exact (hb (by rw [hr]; simp)).elim
        exact ⟨key h fun e => (HS.out.1.sup h e).2.1 rfl, key g fun e => (HS.out.1.sup g e).2.2.1 rfl, key g' fun e => (HS.out.1.sup g' e).2.2.2 rfl⟩
      have HC : Bx (∀ Y, FrM wr.drew Y (fun b => Und ρ (2 * i) [] b ∨ Und ρ (2 * i + 1) [] b) → Y.cell? ⟨h, 0, none⟩ = some (.slice (some ⟨g, 0, none⟩) n gc) ∧ Y.cell? ⟨h, 1, none⟩ = some (.slice (some ⟨g', 0, none⟩) n gd) ∧ Y.cell? ⟨g, i * 3, none⟩ = some (.int .i64 (X i).k) ∧ Y.cell? ⟨g, i * 3 + 1, none⟩ = some (.int .i64 (X i).n) ∧ Y.cell? ⟨g, i * 3 + 2, none⟩ = some (.slice p (X i).l.length pc) ∧ Y.cell? ⟨g', i * 3, none⟩ = some (.int .i64 (X i).k) ∧ Y.cell? ⟨g', i * 3 + 1, none⟩ = some (.int .i64 (X i).n) ∧ Y.cell? ⟨g', i * 3 + 2, none⟩ = some (.slice p' (X i).l.length pc')) := ⟨fun Y hY => by
        have hne : ∀ b, ρ b = none → ¬ (Und ρ (2 * i) [] b ∨ Und ρ (2 * i + 1) [] b) := fun b hb e => by
          rcases e with ⟨s, hs⟩ | ⟨s, hs⟩ <;> rw [hb] at hs <;> cases hs
        have k : ∀ b o v, b < wr.heap.size → ρ b = none → wr.cell? ⟨b, o, none⟩ = some v → Y.cell? ⟨b, o, none⟩ = some v := fun b o v h1 h2 h3 => (World.cell?_of_block (a := ⟨b, o, none⟩) (hY.block b h1 (hne b h2))).trans h3
        exact ⟨k _ _ _ q7 hno.1 h0, k _ _ _ q7 hno.1 h1, k _ _ _ q5 hno.2.1 a0, k _ _ _ q5 hno.2.1 a1, k _ _ _ q5 hno.2.1 a2, k _ _ _ q6 hno.2.2 d0, k _ _ _ q6 hno.2.2 d1, k _ _ _ q6 hno.2.2 d2⟩⟩
      have HMK : Bx _ := ⟨mark_any (X i) wr.drew ρ (2 * i) (2 * i + 1) [] [] p p' pc pc' (X i).k (X i).n (X i).k (X i).n (1000 * i + 1) (TrV.keep _ t1 fun _ _ _ => rfl) (TrV.keep _ t2 fun _ _ _ => rfl) (by omega) (fun b hb => hsup b hb) (by omega) (by omega)⟩
      have HN : Bx (∀ Y, FrM wr.drew Y (fun b => Und ρ (2 * i) [] b ∨ Und ρ (2 * i + 1) [] b) → TrV Y ρ (2 * i) [] (mkV (1000 * i + 1) (X i)) p pc → TrV Y ρ (2 * i + 1) [] (mkV (1000 * i + 1) (X i)) p' pc' → Bk Y lo h ρ (.slice (some ⟨g, 0, none⟩) n gc) (.slice (some ⟨g', 0, none⟩) n gd) n (mkX X (i + 1)) ∧ SpF w Y ρ) := ⟨fun Y hY k1 k2 => by
        have hY' : FrM wr Y (fun b => Und ρ (2 * i) [] b ∨ Und ρ (2 * i + 1) [] b) := ⟨hY.os, hY.tape, hY.output, hY.size, hY.block⟩
        exact ⟨HS.out.1.marked hlt rfl rfl a2 d2 hY' k1 k2, HS.out.2.frm hY'⟩⟩
      clear t1 t2 hk hm HS hsup e3 hno
      generalize (X i).k = xk at *
      generalize (X i).n = xn at *
      generalize (X i).l.length = xl at *
      go_wp2_with fail
      go_region_held3 (fun Y => Y.cell? ⟨h, 0, none⟩ = some (.slice (some ⟨g, 0, none⟩) n gc) ∧ Y.cell? ⟨h, 1, none⟩ = some (.slice (some ⟨g', 0, none⟩) n gd) ∧ Y.cell? ⟨g, i * 3, none⟩ = some (.int .i64 xk) ∧ Y.cell? ⟨g, i * 3 + 1, none⟩ = some (.int .i64 xn) ∧ Y.cell? ⟨g, i * 3 + 2, none⟩ = some (.slice p xl pc) ∧ Y.cell? ⟨g', i * 3, none⟩ = some (.int .i64 xk) ∧ Y.cell? ⟨g', i * 3 + 1, none⟩ = some (.int .i64 xn) ∧ Y.cell? ⟨g', i * 3 + 2, none⟩ = some (.slice p' xl pc'))
        (first | exact ⟨h0, h1, a0, a1, a2, d0, d1, d2⟩ | exact HC4.out | go_keep)
        (first
          | (go_at_call 26; refine Calls.mono HMK.out ?_; rintro e w4 ⟨rfl, hM⟩; have HN4 : Bx _ := ⟨HN.out w4 hM.out.2.2 hM.out.1 hM.out.2.1⟩; have HC4 : Bx _ := ⟨HC.out w4 hM.out.2.2⟩))
      clear h0 h1 a0 a1 a2 d0 d1 d2 HC HC4 HN HMK hc0
      go_wp2
      go_roundg (n + 1 - (i + 1))
      case measure => omega
      case rel => exact ⟨i + 1, rfl, by omega, by go_num, HN4⟩
    · obtain rfl : i = n := by omega
      have hin : ¬ ((i : Int) < (i : Int)) := by omega
      have HH1 : Bx _ := ⟨holds_any wr lo h ρ _ _ i _ HS.out.1 (by omega)⟩
      have HS1 : Bx (Bk wr lo h ρ (.slice ga i gc) (.slice gb i gd) i (mkX X i) ∧ SpF w wr ρ) := HS
      clear HS
      go_wp2_with (first
        | (go_at_call 25; refine Calls.mono HH1.out ?_; clear HH1; rintro e w2 ⟨rfl, hb2⟩; have HK2 : Bx (Bk w2 lo h ρ (.slice ga i gc) (.slice gb i gd) i (mkX X i) ∧ SpF w w2 ρ) := ⟨HS1.out.1.next hb2, HS1.out.2.below hb2⟩; clear hb2 HS1))
      have HG0 : Bx (SG w w2 ((w2.alloc (.cells #[] 22)).alloc (.cells #[] 22)) lo h ρ (.slice ga i gc) (.slice gb i gd) i (mkX X i) 0 (.slice (some ⟨w2.heap.size, 0, none⟩) 0 0) (.slice (some ⟨w2.heap.size + 1, 0, none⟩) 0 0)) := ⟨⟨HK2.out.1.next (two_new _ _ _), two_new _ _ _, 0, _, Gr.start w2, by omega⟩⟩
      go_loopg [5, 6, 7] (i + 1) (fun q v5 v6 v7 wr => ∃ (j : Nat) (oi wi : Value), q = i + 1 - j ∧ j ≤ i ∧ v7 = .int .i64 j ∧ oi = v5 ∧ wi = v6 ∧ Bx (SG w w2 wr lo h ρ (.slice ga i gc) (.slice gb i gd) i (mkX X i) j oi wi))
      case atStart => exact ⟨0, _, _, by simp, by omega, rfl, rfl, rfl, HG0⟩
      case round =>
        clear HG0
        obtain ⟨j, oi, wi, hq, hjl, rfl, rfl, rfl, HG⟩ := hrel
        obtain ⟨hc0, hhl⟩ := HO.out _ _ HG.out.bk
        by_cases hlt : j < i
        · obtain ⟨g, c, g', c', p, pc, p', pc', e1, e2, ⟨q1, q2, q3, q4, q5, q6, q7⟩, ⟨a0, a1, a2⟩, _, _, _, t1, _⟩ := HG.out.bk.at_ hlt
          simp only [Value.slice.injEq] at e1 e2
          obtain ⟨rfl, -, rfl⟩ := e1
          obtain ⟨rfl, -, rfl⟩ := e2
          have hxs := HX.out j hlt
          rw [← mkX_sz X i j] at hxs
          have hjI : (j : Int) < (i : Int) := by omega
          have hw1 : IntKind.i64.wrap (1000 * (j : Int)) = 1000 * j := by rw [IntKind.wrap_i64]; omega
          have hw2 : IntKind.i64.wrap (1000 * (j : Int) + 1) = 1000 * j + 1 := by rw [IntKind.wrap_i64]; omega
          unfold maxLen at q2 q4
          obtain ⟨m, L, hGr, hm⟩ := HG.out.gr
          have hbs := HG.out.bel.size
          have HC : Bx _ := ⟨grow_any (mkX X i j) wr ρ (2 * j) [] p pc (mkX X i j).k (mkX X i j).n (1000 * j + 1) w2.heap.size oi wi m L t1 (by omega) (fun b hb => (HK2.out.1.sup b hb).1) hbs hGr (by omega) (by omega) (by omega) (by omega)⟩
          have HN : Bx (∀ o2 w2' Y, GrowP wr w2.heap.size oi wi m (mkX X i j).sz o2 w2' Y → SG w w2 Y lo h ρ (.slice (some ⟨g, 0, none⟩) i gc) (.slice (some ⟨g', 0, none⟩) i gd) i (mkX X i) (j + 1) o2 w2') := ⟨fun o2 w2' Y hP => HG.out.step hGr hm hxs HK2.out.1 hP⟩
          clear t1 HG hGr hm hbs hxs
          generalize (mkX X i j).k = xk at *
          generalize (mkX X i j).n = xn at *
          generalize (mkX X i j).l.length = xl at *
          go_wp2_with (first
            | (go_at_call 27; refine Calls.mono HC.out ?_; rintro e Y ⟨o2, w2', rfl, HP⟩; have HN2 : Bx _ := ⟨HN.out o2 w2' Y HP.out⟩; clear HP HN HC))
          go_roundg (i + 1 - (j + 1))
          case measure => omega
          case rel => exact ⟨j + 1, o2, w2', rfl, by omega, by go_num, rfl, rfl, HN2⟩
        · obtain rfl : j = i := by omega
          obtain ⟨w3, hw3⟩ : ∃ w3, w3 = wr := ⟨_, rfl⟩
          rw [← hw3] at HG hc0 hhl ⊢
          clear hw3
          obtain ⟨m, L, hGr, hm⟩ := HG.out.gr
          obtain ⟨cs, o1, o2⟩ := hGr.o
          obtain ⟨ds, r1, r2⟩ := hGr.w
          have HGr : Bx _ := ⟨hGr⟩
          have HR0 : Bx (Below w3.heap.size w3 w3) := ⟨Below.refl _ _⟩
          have HFB : Bx (Bk w3 lo h ρ (.slice ga j gc) (.slice gb j gd) j (mkX X j) ∧ SpF w w3 ρ) := ⟨HG.out.bk, HK2.out.2.below HG.out.bel⟩
          have hS3 := HG.out.bel.size
          have HAT : Bx (∀ t, t < m → ∀ W, Below w3.heap.size w3 W → ∃ g c g' c' go ca gw cb, oi = .slice (some ⟨go, 0, none⟩) m ca ∧ wi = .slice (some ⟨gw, 0, none⟩) m cb ∧ (m ≤ ca ∧ ca ≤ maxLen ∧ m ≤ cb ∧ cb ≤ maxLen ∧ go < W.heap.size ∧ gw < W.heap.size) ∧ W.cell? ⟨go, t, none⟩ = some (.slice (some ⟨g, 0, none⟩) (L t).length c) ∧ W.cell? ⟨gw, t, none⟩ = some (.slice (some ⟨g', 0, none⟩) (L t).length c') ∧ ∀ Y, Below W.heap.size W Y → Calls Try.prog 12 #[agV 0 0 (some ⟨g, 0, none⟩) (L t).length c, agV 0 0 (some ⟨g', 0, none⟩) (L t).length c'] Y fun e w' => e = .returned (.bool true) ∧ Below Y.heap.size Y w') := ⟨fun t ht W hW => by
            obtain ⟨g, c, a1, a2⟩ := o2 t ht
            obtain ⟨g', c', b1, b2⟩ := r2 t ht
            have key : ∀ {v : Value} {cs : List Value}, w3.ownsRow w2.heap.size 22 1 v m cs → ∃ go ca, v = .slice (some ⟨go, 0, none⟩) m ca ∧ m ≤ ca ∧ ca ≤ maxLen ∧ go < w3.heap.size ∧ ∀ u, cs[t]? = some u → w3.cell? ⟨go, t, none⟩ = some u := fun {v cs} ho => by
              rcases ho.2 with ⟨_, e⟩ | ⟨go, cap, cur, f1, f2, f3, f4, f5, f6, f7⟩
              · omega
              · refine ⟨go, cap, f1, f4, f5, heap_lt f3, fun u hu => cell_blk f3 ?_⟩
                rw [← f7, List.getElem?_take_of_lt (by omega), Array.getElem?_toList] at hu
                exact hu
            obtain ⟨go, ca, f1, f2, f3, f4, f5⟩ := key o1
            obtain ⟨gw, cb, k1, k2, k3, k4, k5⟩ := key r1
            have hz := hW.size
            refine ⟨g, c, g', c', go, ca, gw, cb, f1, k1, ⟨f2, f3, k2, k3, by omega, by omega⟩, (hW.cell (p := ⟨go, t, none⟩) f4).trans (f5 _ a1), (hW.cell (p := ⟨gw, t, none⟩) k4).trans (k5 _ b1), fun Y hY => ?_⟩
            have hWY : Below w3.heap.size w3 Y := hW.trans (hY.mono hz)
            have hyz := hWY.size
            have sl : ∀ {g c : Nat}, GrL w3 w2.heap.size g c (L t) → SlV Y Y.heap.size (some ⟨g, 0, none⟩) c (L t) := fun {g c} hg => by
              obtain ⟨cur, hcur⟩ := hg.blk
              have hgl := heap_lt hcur
              have hg2 := hg.keep (fun b hb => hWY.block b (by omega)) (hWY.block g hgl)
              exact ⟨hg2.len, hg2.cap, .inr ⟨g, 0, rfl, by omega, hg2.at_.up (by omega)⟩⟩
            have i0 : I64 0 := ⟨by omega, by omega⟩
            have := same_any Y Y.heap.size (agV 0 0 (some ⟨g, 0, none⟩) (L t).length c) (agV 0 0 (some ⟨g', 0, none⟩) (L t).length c') (V.mk 0 0 (L t)) (V.mk 0 0 (L t)) ⟨⟨_, _, rfl, sl a2⟩, i0, i0⟩ ⟨⟨_, _, rfl, sl b2⟩, i0, i0⟩ (Nat.le_refl _)
            rwa [eqB_yes rfl] at this⟩
          obtain ⟨oa, oc, rfl⟩ := owns_slice o1
          obtain ⟨wa, wc, rfl⟩ := owns_slice r1
          have hm200 : m ≤ 2000000 := by omega
          clear HG hGr hm o1 o2 r1 r2 HGr hS3 HK2
          go_wp2
          go_loopg [3, 8] (m + 1) (fun q v3 v8 wr => ∃ t : Nat, q = m + 1 - t ∧ t ≤ m ∧ v3 = .bool true ∧ v8 = .int .i64 t ∧ Bx (Below w3.heap.size w3 wr))
          case atStart => exact ⟨0, by simp, by omega, rfl, rfl, HR0⟩
          case round =>
            clear HR0
            obtain ⟨t, hq, htm, rfl, rfl, HT⟩ := hrel
            by_cases hlt3 : t < m
            · obtain ⟨g, c, g', c', go, ca, gw, cb, e1, e2, ⟨q1, q2, q3, q4, q5, q6⟩, c1, c2, hsm⟩ := HAT.out t hlt3 wr HT.out
              simp only [Value.slice.injEq] at e1 e2
              obtain ⟨rfl, -, rfl⟩ := e1
              obtain ⟨rfl, -, rfl⟩ := e2
              have HSM : Bx _ := ⟨hsm⟩
              have htI : (t : Int) < (m : Int) := by omega
              unfold maxLen at q2 q4
              have hbr : Below wr.heap.size wr wr := Below.refl _ _
              have HN : Bx (∀ Y, Below wr.heap.size wr Y → Below w3.heap.size w3 Y ∧ Y.cell? ⟨go, t, none⟩ = some (.slice (some ⟨g, 0, none⟩) (L t).length c) ∧ Y.cell? ⟨gw, t, none⟩ = some (.slice (some ⟨g', 0, none⟩) (L t).length c')) := ⟨fun Y hY => ⟨HT.out.trans (hY.mono HT.out.size), (hY.cell (p := ⟨go, t, none⟩) q5).trans c1, (hY.cell (p := ⟨gw, t, none⟩) q6).trans c2⟩⟩
              clear hsm HT
              generalize (L t).length = ll at *
              go_wp2_with fail
              go_region_held3 (fun Y => Y.cell? ⟨go, t, none⟩ = some (.slice (some ⟨g, 0, none⟩) ll c) ∧ Y.cell? ⟨gw, t, none⟩ = some (.slice (some ⟨g', 0, none⟩) ll c'))
                (first | exact ⟨c1, c2⟩ | exact (HN.out _ HB4.out).2 | go_keep)
                (first
                  | (go_at_call 12; refine Calls.mono (HSM.out _ hbr.drew) ?_; rintro e w4 ⟨rfl, hb4⟩; have HB4 : Bx (Below wr.heap.size wr w4) := ⟨hbr.drew.trans (hb4.mono (Nat.le_refl _))⟩; clear hb4))
              have HN4 : Bx _ := ⟨(HN.out _ HB4.out).1⟩
              clear HN HSM c1 c2 HB4
              go_wp2
              go_roundg (m + 1 - (t + 1))
              case measure => omega
              case rel => exact ⟨t + 1, rfl, by omega, by go_num, by go_num, HN4⟩
            · obtain rfl : t = m := by omega
              have HF : Bx (Bk wr lo h ρ (.slice ga j gc) (.slice gb j gd) j (mkX X j) ∧ SpF w wr ρ) := ⟨HFB.out.1.next HT.out, HFB.out.2.below HT.out⟩
              have HH9 : Bx _ := ⟨holds_any wr lo h ρ _ _ j _ HF.out.1 (by omega)⟩
              clear HT HFB HAT
              go_wp2_with (first
                | (go_at_call 25; refine Calls.mono HH9.out ?_; clear HH9; rintro e w9 ⟨rfl, hb9⟩; have HF9 : Bx _ := ⟨HF.out.2.below hb9⟩; clear hb9 HF))
              go_ret
              exact ⟨rfl, HF9⟩
end Go.Proofs.Ytikijkpklneihaa
