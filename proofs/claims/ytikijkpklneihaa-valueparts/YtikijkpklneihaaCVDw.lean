import Derived.Test.YtikijkpklneihaaCVDo
import Derived.Test.YtikijkpklneihaaCVSz
import Derived.Test.YtikijkpklneihaaCVOl
namespace Go.Proofs.Ytikijkpklneihaa
open Go.RowKit
set_option linter.unusedVariables false
set_option linter.unusedSimpArgs false

theorem OwT.low {W : World} {lo lo' : Nat} {G : Gm} (h : OwT W lo G) (hl : lo' ≤ lo) : OwT W lo' G := fun b π l hg => by
  have := h b π l hg
  exact ⟨Nat.le_trans hl this.ge, this.pos, this.blk, this.el⟩
/-- what own answers -/
def OnPost (w : World) (x : V) (e : Ending) (w' : World) : Prop := ∃ q c G, e = .returned (.agg #[.int .i64 x.k, .int .i64 x.n, .slice q x.l.length c]) ∧ OwT w' w.heap.size G ∧ ChG G [] q c x.l ∧ Below w.heap.size w w'
theorem DpI.start {w W0 w1 : World} {A B : Nat} {x : V} {p : Option Addr} {c : Nat} {xs : List Value} (hA : A = w.heap.size) (hB : B ≤ A) (hz : W0.heap.size = A + 2) (hb0 : Below A w W0) (ha0 : W0.heap[A]? = some (.cells #[.int .i64 x.k, .int .i64 x.n, .slice p x.l.length c] 24 (0, 0))) (ha1 : W0.heap[A + 1]? = some z3)
    (hrow : RowV W0 B x.l xs) (hx : w1.heap[W0.heap.size]? = some (.cells xs.toArray 24 (0, 0))) (hb1 : Below W0.heap.size W0 w1) (hs1 : w1.heap.size = W0.heap.size + 1) (hl : 0 < x.l.length) :
    DpI w ((w1.setCell ⟨A, 2, none⟩ (.slice (some ⟨A + 2, 0, none⟩) x.l.length x.l.length)).alloc (.cells #[.slice (some ⟨A + 2, 0, none⟩) x.l.length x.l.length] 22)) A B x (some ⟨A + 2, 0, none⟩) x.l.length (upG (fun _ => none) (A + 2) ([], x.l)) (upN (fun _ => 0) (A + 2) 0) (fun _ => False) (.slice (some ⟨A + 3, 0, none⟩) 1 1) [(A + 2, x.l)] := by
  obtain ⟨W2, hW2⟩ : ∃ W2, w1.setCell ⟨A, 2, none⟩ (.slice (some ⟨A + 2, 0, none⟩) x.l.length x.l.length) = W2 := ⟨_, rfl⟩
  rw [hW2]
  have s2 : W2.heap.size = A + 3 := by rw [← hW2, World.size_setCell]; omega
  have o2 : ∀ y, y ≠ A → W2.heap[y]? = w1.heap[y]? := fun y hy => by rw [← hW2]; exact Below.heap_setCell _ _ _ _ hy
  obtain ⟨W3, hW3⟩ : ∃ W3, W2.alloc (.cells #[.slice (some ⟨A + 2, 0, none⟩) x.l.length x.l.length] 22) = W3 := ⟨_, rfl⟩
  have o3 : ∀ y, y < A + 3 → W3.heap[y]? = W2.heap[y]? := fun y hy => by rw [← hW3]; exact Below.heap_alloc _ _ _ (by omega)
  have n3 : W3.heap[A + 3]? = some (.cells #[.slice (some ⟨A + 2, 0, none⟩) x.l.length x.l.length] 22 (0, 0)) := by rw [← hW3, ← s2]; exact World.alloc_heap_new _ _
  have s3 : W3.heap.size = A + 4 := by rw [← hW3]; simp [s2]
  rw [hW3]
  have hm0 : OwM W0 (A + 2) B (fun _ => none) (fun _ => 0) := fun b π l hg => by cases hg
  have hm1 := hm0.new (σ := []) hb1 hrow hx hl (by omega) (by omega)
  rw [hz] at hm1
  have hG : ∀ b p, upG (fun _ => none) (A + 2) ([], x.l) b = some p → b = A + 2 := fun b p hb => by
    unfold upG at hb
    split at hb
    · assumption
    · cases hb
  have hlo3 : Lo B w1 W3 := Lo.blocks fun y hy => by rw [o3 y (by omega), o2 y (by omega)]
  have hm3 : OwM W3 (A + 2) B (upG (fun _ => none) (A + 2) ([], x.l)) (upN (fun _ => 0) (A + 2) 0) := hm1.keep (fun b p hb => by
    have := hG b p hb
    subst this
    rw [o3 _ (by omega), o2 _ (by omega)]) hlo3
  have hself : upG (fun _ => none) (A + 2) ([], x.l) (A + 2) = some (([] : List Nat), x.l) := by simp [upG]
  have hbw : Below A w W3 := by
    rw [← hW3, ← hW2]
    exact ((hb0.trans (hb1.mono (by omega))).setCell (p := ⟨A, 2, none⟩) (Nat.le_refl _) _).alloc (by rw [World.size_setCell]; omega) _
  refine ⟨hm3, ⟨by simp [slOf], .inr ⟨A + 3, 1, _, rfl, by omega, n3, by simp, by simp [maxLen], by simp, by simp [slOf]⟩⟩, fun p hp => ?_, by simp, fun b π l hg => ?_, .inr ⟨A + 2, rfl, rfl, hself⟩, hbw, ?_, ?_, by omega⟩
  · simp at hp
    subst hp
    exact ⟨⟨[], hself⟩, by simp [upN], fun e => e⟩
  · have := hG b _ hg
    subst this
    exact .inr (.inl (by simp))
  · rw [o3 A (by omega), ← hW2, set1_blk ((hb1.block A (by omega)).trans ha0)]
    rfl
  · rw [o3 (A + 1) (by omega), o2 (A + 1) (by omega), hb1.block (A + 1) (by omega)]
    exact ha1

set_option maxRecDepth 100000 in
set_option maxHeartbeats 4000000 in
theorem own_some (w : World) (B : Nat) (v : Value) (x : V) (hv : IsV w B v x) (hB : B ≤ w.heap.size) (hx : x.sz ≤ 200000) (hl0 : 0 < x.l.length) : Calls Try.prog 22 #[v] w (OnPost w x) := by
  obtain ⟨⟨p, cap, rfl, h1⟩, h2, h3⟩ := hv
  obtain ⟨i0, hi, iz0, iz1, iz2⟩ := info_parts infoSl
  obtain ⟨A, hA⟩ : ∃ A, A = w.heap.size := ⟨_, rfl⟩
  obtain ⟨W0, hW0⟩ : ∃ W0, (w.alloc (Obj.cells #[Value.int IntKind.i64 x.k, Value.int IntKind.i64 x.n, Value.slice p x.l.length cap] 24)).alloc z3 = W0 := ⟨_, rfl⟩
  have hb0 : Below A w W0 := by rw [hA, ← hW0]; exact two_new _ _ _
  have ha0 : W0.heap[A]? = some (Obj.cells #[Value.int IntKind.i64 x.k, Value.int IntKind.i64 x.n, Value.slice p x.l.length cap] 24) := by
    rw [hA, ← hW0]; exact (Below.heap_alloc _ _ _ (by simp)).trans (World.alloc_heap_new _ _)
  have ha1 : W0.heap[A + 1]? = some z3 := by rw [hA, ← hW0]; exact alloc_at _ _ _
  have hz0 : W0.heap.size = A + 2 := by rw [hA, ← hW0]; simp
  obtain ⟨c0, c1, c2, f0, f1, f2, hAl⟩ := c3 ha0
  have hxl := szs_len x.l
  have hsz := V.sz_eq x
  have HC : Bx (Calls Try.prog 36 #[.slice p x.l.length cap] W0 (CyPost W0 B x.l)) := ⟨copied_some W0 B p cap x.l (h1.lo (Lo.of (hb0.mono (by omega)))) (by omega) hl0 (by omega)⟩
  have HST : Bx (∀ xs w1, RowV W0 B x.l xs → w1.heap[W0.heap.size]? = some (.cells xs.toArray 24 (0, 0)) → Below W0.heap.size W0 w1 → w1.heap.size = W0.heap.size + 1 → DpI w ((w1.setCell ⟨A, 2, none⟩ (.slice (some ⟨A + 2, 0, none⟩) x.l.length x.l.length)).alloc (.cells #[.slice (some ⟨A + 2, 0, none⟩) x.l.length x.l.length] 22)) A B x (some ⟨A + 2, 0, none⟩) x.l.length (upG (fun _ => none) (A + 2) ([], x.l)) (upN (fun _ => 0) (A + 2) 0) (fun _ => False) (.slice (some ⟨A + 3, 0, none⟩) 1 1) [(A + 2, x.l)]) := ⟨fun xs w1 q1 q2 q3 q4 => DpI.start hA (by omega) hz0 hb0 ha0 ha1 q1 q2 q3 q4 hl0⟩
  have HA : Bx (A = w.heap.size) := ⟨hA⟩
  have HZ : Bx (W0.heap.size = A + 2) := ⟨hz0⟩
  have HA0 : Bx _ := ⟨ha0⟩
  have hBA : B ≤ A := by omega
  clear h1 h2 h3 hb0 ha0 ha1
  subst hA
  go_enter Try.func22, Try.ntmps22
  go_wp2_with (first | (go_at_call 36; refine Calls.mono HC.out ?_; clear HC; rintro e w1 ⟨he, ⟨xs, hx1, hx2⟩, hb1, hs1⟩; rw [HZ.out] at he; subst he; have HI1 : Bx _ := ⟨HST.out xs w1 hx1 hx2 hb1 hs1⟩; have h1a := (hb1.block _ hAl).trans HA0.out; obtain ⟨k0, k1, k2, l0, l1, l2, hAl1⟩ := c3 h1a; have hz2 : w1.heap.size = w.heap.size + 3 := (by rw [hs1, HZ.out]); clear HST hx1 hx2 hb1 hs1 h1a))
  obtain ⟨W3, hW3⟩ : ∃ W3, (w1.setCell ⟨w.heap.size, 2, none⟩ (.slice (some ⟨w.heap.size + 2, 0, none⟩) x.l.length x.l.length)).alloc (.cells #[.slice (some ⟨w.heap.size + 2, 0, none⟩) x.l.length x.l.length] 22) = W3 := ⟨_, rfl⟩
  rw [hW3] at HI1
  rw [hW3]
  clear hW3 hW0 c0 c1 c2 f0 f1 f2 hAl k0 k1 k2 l0 l1 l2 hAl1 hz2 HA0 HZ hz0 HA
  have hcap : x.l.length ≤ 200000 := by omega
  obtain ⟨q, hq⟩ : ∃ q : Option Addr, some ⟨w.heap.size + 2, 0, none⟩ = q := ⟨_, rfl⟩
  obtain ⟨cq, hcq⟩ : ∃ cq, x.l.length = cq := ⟨_, rfl⟩
  have HI : Bx (DpI w W3 w.heap.size B x q cq (upG (fun _ => none) (w.heap.size + 2) ([], x.l)) (upN (fun _ => 0) (w.heap.size + 2) 0) (fun _ => False) (.slice (some ⟨w.heap.size + 3, 0, none⟩) 1 1) [(w.heap.size + 2, x.l)]) := ⟨by rw [← hq, ← hcq]; exact HI1.out⟩
  clear HI1 hq hcq
  generalize hS : szs x.l = S at *
  have hS6 : S ≤ 200000 := by omega
  clear hx hsz hxl
  go_loopg [3] (S + 1) (fun k v wr => ∃ (G : Gm) (d : Nat → Nat) (st : List (Nat × List V)), k = stz (st.map Prod.snd) + st.length ∧ k ≤ S + 1 ∧ Bx (DpI w wr w.heap.size B x q cq G d (fun _ => False) v st))
  case atStart => exact ⟨_, _, _, by simp [stz, hS], Nat.le_refl _, HI⟩
  case round =>
    obtain ⟨G, d, st, hk, hkS, HI⟩ := hrel
    rcases List.eq_nil_or_concat st with rfl | ⟨qs, ⟨b, l⟩, rfl⟩
    · obtain ⟨r0, r1, r2, s0, s1, s2, hAl3⟩ := c3 HI.out.a1
      obtain ⟨m0, m1, m2, n0, n1, n2, hAl2⟩ := c3 HI.out.a0
      have HT : Bx _ := ⟨HI.out.done⟩
      have HR : Bx _ := ⟨HI.out.root⟩
      have HB : Bx _ := ⟨HI.out.bel⟩
      rcases HI.out.stk.2 with ⟨rfl, _⟩ | ⟨g, gc, cur, rfl, _⟩
      · clear HI
        go_wp2
        refine bodyPost_ret (v := .agg #[.int .i64 x.k, .int .i64 x.n, .slice q x.l.length cq]) (by simp [results, Try.results22, go_sem, r0, r1, r2, hAl3]) rfl ⟨q, cq, G, rfl, (HT.out.low (by omega)).keep (fun b p hg => set3_other _ _ _ (by have := (HT.out b p.1 p.2 hg).ge; omega)), HR.out, below3 HB.out (by omega) _ _ _⟩
      · clear HI
        rw [show ([] : List (Nat × List V)).length = 0 from rfl]
        go_wp2
        refine bodyPost_ret (v := .agg #[.int .i64 x.k, .int .i64 x.n, .slice q x.l.length cq]) (by simp [results, Try.results22, go_sem, r0, r1, r2, hAl3]) rfl ⟨q, cq, G, rfl, (HT.out.low (by omega)).keep (fun b p hg => set3_other _ _ _ (by have := (HT.out b p.1 p.2 hg).ge; omega)), HR.out, below3 HB.out (by omega) _ _ _⟩
    · rw [List.concat_eq_append] at HI hk
      obtain ⟨g, gc, rfl, hgc, hgm, hgl, c0, hπ, hd, HI'⟩ := HI.out.pop
      simp only [List.map_append, List.map_cons, List.map_nil, stz_append, stz, List.length_append, List.length_singleton, Nat.add_zero] at hk
      unfold maxLen at hgm
      have hll := szs_len l
      have HIP : Bx (DpI w wr w.heap.size B x q cq G d (· = b) (.slice (some ⟨g, 0, none⟩) qs.length gc) qs ∧ (∃ π, G b = some (π, l)) ∧ d b = 0) := ⟨HI', hπ, hd⟩
      clear HI HI' hπ hd
      go_wp2
      go_loopg [3, 29] l.length (fun k v iv wr' => ∃ (i : Nat) (G : Gm) (d : Nat → Nat) (st : List (Nat × List V)), k = l.length - i ∧ i ≤ l.length ∧ iv = .int .i64 i ∧ stz (st.map Prod.snd) + st.length + szs (l.drop i) ≤ stz (qs.map Prod.snd) + qs.length + szs l ∧ Bx (DpI w wr' w.heap.size B x q cq G d (· = b) v st ∧ (∃ π, G b = some (π, l)) ∧ d b = i))
      case atStart => exact ⟨0, G, d, qs, by simp, by omega, rfl, by simp, HIP⟩
      case round =>
        clear HIP
        obtain ⟨i, G, d, st, hk', hil, rfl, hms, HR⟩ := hrel
        by_cases hlt : i < l.length
        · obtain ⟨π, hπ⟩ := HR.out.2.1
          obtain ⟨p, e, e0, hsl, hfz, hbl, hbA⟩ := HR.out.1.at_ hπ HR.out.2.2 hlt
          have hdr := szs_drop hlt
          by_cases hkid : 0 < l[i].l.length
          · have hsb := HR.out.1.siz
            have HS : Bx (Calls Try.prog 36 #[.slice p l[i].l.length e] wr (CyPost wr B l[i].l)) := ⟨copied_some wr B p e l[i].l hsl (by omega) hkid (by have := szs_len l[i].l; omega)⟩
            have HST : Bx (∀ w2, Below wr.heap.size wr w2 → w2.cell? ⟨b, i * 3 + 2, none⟩ = some (.slice p l[i].l.length e) ∧ w2.frozen? ⟨b, i * 3 + 2, none⟩ = false ∧ b < w2.heap.size ∧ (w2.setCell ⟨b, i * 3 + 2, none⟩ (.slice (some ⟨wr.heap.size, 0, none⟩) l[i].l.length l[i].l.length)).ownsRow (w.heap.size + 2) 22 1 u3 st.length (st.map slOf)) := ⟨fun w2 h2 => by
              have hbb := h2.block b hbl
              have hs := h2.size
              obtain ⟨cur, hcu, _⟩ := (HR.out.1.m b π l hπ).blk
              refine ⟨by rw [h2.cell (p := ⟨b, i * 3 + 2, none⟩) hbl]; exact e0, by simp only [World.frozen?, hbb] at hfz ⊢; exact hfz, by omega, own_same HR.out.1.stk fun g o hgo hh => ?_⟩
              rw [Below.heap_setCell _ _ _ _ (fun (e : g = b) => own_ne HR.out.1.stk hcu (by rw [← e]; exact hgo)), h2.block g (Array.getElem?_eq_some_iff.1 hh).1]
              exact hh⟩
            have hlen : st.length + 1 ≤ 300000 := by omega
            have HHS : Bx _ := ⟨hsl⟩
            clear hsl hdr
            go_wp2_with (first
              | (go_at_call 36; refine Calls.mono HS.out ?_; clear HS; rintro e' w2 ⟨rfl, ⟨xs, hx1, hx2⟩, hb2, hs2⟩; obtain ⟨a1, a2, a3, a4⟩ := HST.out w2 hb2; obtain ⟨W4, hW4⟩ : ∃ W4, w2.setCell ⟨b, i * 3 + 2, none⟩ (.slice (some ⟨wr.heap.size, 0, none⟩) l[i].l.length l[i].l.length) = W4 := ⟨_, rfl⟩; have a5 : W4.cell? ⟨b, i * 3 + 2, none⟩ = some (.slice (some ⟨wr.heap.size, 0, none⟩) l[i].l.length l[i].l.length) := (by rw [← hW4]; exact World.cell?_setCell_same _ _ _ a1); have a6 : b < W4.heap.size := (by rw [← hW4, World.size_setCell]; exact a3); have HO4 : Bx _ := ⟨hW4 ▸ a4⟩; have HX : Bx (RowV wr B l[i].l xs ∧ w2.heap[wr.heap.size]? = some (.cells xs.toArray 24 (0, 0)) ∧ Below wr.heap.size wr w2) := ⟨hx1, hx2, hb2⟩; have hs4 : W4.heap.size = w2.heap.size := (by rw [← hW4, World.size_setCell]); have HW4 : Bx _ := ⟨hW4⟩; have HZ4 : Bx (W4.heap.size = w2.heap.size ∧ w2.heap.size = wr.heap.size + 1 ∧ w.heap.size + 2 ≤ W4.heap.size) := ⟨hs4, hs2, (by have := hb2.size; omega)⟩; clear HST hx1 hx2 a4 hs4 hs2 hb2)
              | (at_builtin; refine wpList_append_own _ rfl (.tmp 49) (.tmp 55) 45 rfl (w.heap.size + 2) 22 i0 (.slice none 0 0) 1 24 Try.underlying45 hi iz0 iz1 iz2 rfl (by decide) u3 st.length (st.map slOf) rfl (own_new HO4.out (below1 _ _)) ⟨W4.heap.size, 0, none⟩ 1 1 [slOf (wr.heap.size, l[i].l)] rfl rfl (slice_one _ _ _ 22 (World.alloc_heap_new _ _)) (slice_cell _ _ _) (by unfold maxLen; omega) (by omega) (by have := HZ4.out.2.2; simp; omega) ?_; intro v' w' hown' hgrow _))
            go_roundg (l.length - (i + 1))
            case measure => omega
            case rel =>
              have hdr := szs_drop hlt
              refine ⟨i + 1, _, _, st ++ [(wr.heap.size, l[i].l)], rfl, by omega, by simp, by simp only [List.map_append, List.map_cons, List.map_nil, stz_append, stz, List.length_append, List.length_singleton]; omega, ⟨HR.out.1.full hπ HR.out.2.2 hlt hkid hBA HX.out.1 HX.out.2.1 HX.out.2.2 (by rw [HW4.out]; rw [← HZ4.out.1]; exact below1 _ _) hown' hgrow, ⟨π, upG_ge HR.out.1.m.new_none _ _ hπ⟩, by simp [upN]⟩⟩
          · have hk0 : l[i].l.length = 0 := by omega
            have hs0 : l[i].l = [] := List.eq_nil_of_length_eq_zero hk0
            have hs1 : szs l[i].l = 0 := by rw [hs0]; simp [szs]
            have HN : Bx _ := ⟨HR.out.1.bare hπ HR.out.2.2 hlt hs0 hBA⟩
            have HP : Bx _ := ⟨hπ⟩
            rw [hk0] at e0
            have g0 : (wr.setCell ⟨b, i * 3 + 2, none⟩ (.slice none 0 0)).cell? ⟨b, i * 3 + 2, none⟩ = some (.slice none 0 0) := World.cell?_setCell_same _ _ _ e0
            clear hsl HR hs0 hkid hk0 hπ
            go_wp2_with (first | (go_at_call 36; refine Calls.mono (copied_nil _ _ _) ?_; rintro e' w2 ⟨rfl, rfl⟩))
            go_roundg (l.length - (i + 1))
            case measure => omega
            case rel => exact ⟨i + 1, G, _, st, rfl, by omega, by simp, by omega, ⟨HN.out, ⟨π, HP.out⟩, by simp [upN]⟩⟩
        · have hie : i = l.length := by omega
          subst hie
          simp only [List.drop_length, szs, Nat.add_zero] at hms
          go_wp2
          go_roundg (stz (st.map Prod.snd) + st.length)
          case measure => omega
          case rel => exact ⟨G, d, st, rfl, by omega, ⟨by obtain ⟨π, hπ⟩ := HR.out.2.1; exact HR.out.1.close hπ HR.out.2.2⟩⟩
end Go.Proofs.Ytikijkpklneihaa
