import Derived.Test.YtjfabholalnbeabCEF
namespace Go.Proofs.Ytjfabholalnbeab
open Go.RowKit Go.MapKept Go.ChangeMaps Go.WideShapes
set_option linter.unusedVariables false
set_option linter.unusedSimpArgs false

/-- what open finds -/
structure OpPost (w w' : World) (am na : Nat) (f : Int → Ag) (H : Int → Option Int) (V : Int → Value) (A : Int → List Int) (hy : Int → Bool) (K : List Int) (om n : Nat) (O : Int → Option Lk) : Prop where
  kmp : KMp am w w'
  out : LkM w' om n O
  cnt : n ≤ cntO O K
  new : w.heap.size ≤ om
  at_ : MpI w' am na nV (fun c => if (H c).isSome then nV else V c) (fun c => !(if (H c).isSome then [] else A c).isEmpty)
  op : OpO A hy (opL f H) (fun c => (H c).isSome) O
theorem op_done {w wr : World} {am hm om r nh na wm ym cnt n : Nat} {f : Int → Ag} {H : Int → Option Int} {V : Int → Value} {A : Int → List Int} {hy left : Int → Bool} {K : List Int} {O : Int → Option Lk} (h : OpW w wr am hm om r nh na wm ym f H V A hy K left left cnt n O) (ho : OpO A hy (opL f H) (dnI H left) O) (hl : ∀ c, I64 c → left c = false) (h64 : ∀ c, (H c).isSome = true → I64 c) (hom : w.heap.size ≤ om) : OpPost w wr am na f H V A hy K om n O := by
  have hd : ∀ c, dnI H left c = (H c).isSome := fun c => by
    unfold dnI
    cases hc : (H c).isSome with
    | false => rfl
    | true => rw [hl c (h64 c hc)]; rfl
  refine ⟨h.kmp, h.out, h.cnt, hom, h.at_.ext (fun c => ?_) (fun c => ?_), ⟨fun c id hc => ho.yes c id (by rw [hd]; exact hc), fun id hi => ?_⟩⟩
  · unfold offV; rw [hd]
  · unfold offA; rw [hd]
  · obtain ⟨h1, h2, c, h3, h4⟩ := ho.no id hi
    exact ⟨h1, h2, c, by rw [hd] at h3; exact h3, h4⟩
theorem op_next {w wr w2 : World} {am hm r nh na wm ym cnt cnt2 n : Nat} {f : Int → Ag} {H : Int → Option Int} {V : Int → Value} {A : Int → List Int} {hy left : Int → Bool} {K : List Int} {O : Int → Option Lk} {c : Int} (h : OpW w wr am hm (w.heap.size + 2) r nh na wm ym f H V A hy K left left cnt n O) (o1 : hm ≠ am) (o2 : am < w.heap.size) (hr : r = w.heap.size + 3) (hrg : RgI w2 hm r nh (.int .i64 0) (fun c => oV (H c)) (fun c => (H c).isSome) (fun d => left d && !(d == c)) cnt2) (hg : wr.grownBy w2 (some r)) (hl : left c = true) (h64 : I64 c) :
    Bx (OpW w w2 am hm (w.heap.size + 2) r nh na wm ym f H V A hy K (fun d => left d && !(d == c)) left cnt2 n O) ∧ w2.cell? ⟨w.heap.size, 1, none⟩ = some (.map (some am)) ∧ (Instr.lookup 77 (.map (some am)) (.int .i64 c) false).run Try.prog w2 = .ok (V c) w2 := by
  have h2 := h.next hrg hg (by omega) (by omega) (by omega)
  refine ⟨⟨h2⟩, cell_of h2.k0 rfl, ?_⟩
  have h3 := h2.at_.look Try.underlying77 Try.zeroValue25 h64
  have e : offV H left V c = V c := by unfold offV dnI; rw [hl]; simp
  rw [e] at h3
  exact h3
set_option maxRecDepth 100000 in
set_option maxHeartbeats 4000000 in
theorem open_any (w0 w : World) (hb0 : Below w0.heap.size w0 w) (f : Int → Ag) (wm nw am na ym ny hm nh : Nat) (M V : Int → Value) (hw : Int → Bool) (A : Int → List Int) (Y : Int → Option Wy) (H : Int → Option Int) (K : List Int)
    (hs : SeR w f wm nw M hw am na V A) (hv : WhoV w0 f M) (ham : w0.heap.size ≤ am) (hr : RowsK am w V A) (hY : WyM w ym ny Y) (hH : HoM w hm nh H) (h64 : ∀ c, (H c).isSome = true → I64 c) (hK : ∀ c, ∀ id ∈ A c, id ∈ K) (hKl : K.length ≤ 4096) (o1 : wm ≠ am) (o2 : ym ≠ am) (o3 : hm ≠ am) (hnh : nh ≤ 4096 * 8589934592) :
    Calls Try.prog 38 #[seV wm am ym, .map (some hm)] w fun e w' => ∃ om n O, e = .returned (.map (some om)) ∧ OpPost w w' am na f H V A (fun k => (Y k).isSome) K om n O := by
  have hmm := @run_makeMap Try.prog
  have hmf : ∀ (fn : Fn) (first cap : Array Value) (w : World), (Instr.makeFunc fn first cap).run Try.prog w = .ok (.func fn first cap) w := fun fn first cap w => rfl
  obtain ⟨W, hW⟩ : ∃ W, ((w.alloc (.cells #[.map (some wm), .map (some am), .map (some ym)] 80)).alloc (.cells #[.map (some hm)] 84)).alloc (.map #[] 0) = W := ⟨_, rfl⟩
  have z1 : Below w.heap.size w ((w.alloc (.cells #[.map (some wm), .map (some am), .map (some ym)] 80)).alloc (.cells #[.map (some hm)] 84)) := two_new _ _ _
  have hbW : Below w.heap.size w W := by rw [← hW]; exact z1.trans ((below1 _ _).mono z1.size)
  have hk1 : W.heap[w.heap.size + 1]? = some (.cells #[.map (some hm)] 84 (0, 0)) := by
    rw [← hW]; exact up (alloc_at (by simp))
  have c1 : W.cell? ⟨w.heap.size + 1, 0, none⟩ = some (.map (some hm)) := cell_of hk1 rfl
  have HHW : Bx (MpI W hm nh (.int .i64 0) (fun c => oV (H c)) (fun c => (H c).isSome)) := ⟨MpI.below hH hbW⟩
  have HHD : Bx (∀ w1 cnt, RgI w1 hm W.heap.size nh (.int .i64 0) (fun c => oV (H c)) (fun c => (H c).isSome) (fun c => (H c).isSome) cnt → Below W.heap.size W w1 → OpW w w1 am hm (w.heap.size + 2) W.heap.size nh na wm ym f H V A (fun k => (Y k).isSome) K (fun c => (H c).isSome) (fun c => (H c).isSome) cnt 0 (fun _ => none) ∧ OpO A (fun k => (Y k).isSome) (opL f H) (dnI H (fun c => (H c).isSome)) (fun _ => none)) := ⟨fun w1 cnt h1 h2 => by
    obtain ⟨x1, x2, x3⟩ := OpW.head (f := f) (hy := fun k => (Y k).isSome) (K := K) hH hs.at_ hW h1 h2
    exact ⟨x1, x2⟩⟩
  have HRr : Bx (W.heap.size = w.heap.size + 3) := ⟨by rw [← hW]; simp⟩
  have HS : Bx (MpI w wm nw zV M hw ∧ WhoV w0 f M ∧ Below w0.heap.size w0 w ∧ w0.heap.size ≤ am) := ⟨hs.who, hv, hb0, ham⟩
  have HRK : Bx (RowsK am w V A) := ⟨hr⟩
  have HYM : Bx (WyM w ym ny Y) := ⟨hY⟩
  have HHM : Bx (HoM w hm nh H) := ⟨hH⟩
  have H64 : Bx (∀ c, (H c).isSome = true → I64 c) := ⟨h64⟩
  have HK : Bx (∀ c, ∀ id ∈ A c, id ∈ K) := ⟨hK⟩
  have HO : Bx (wm ≠ am ∧ ym ≠ am ∧ hm ≠ am ∧ am < w.heap.size ∧ hm < w.heap.size ∧ K.length ≤ 4096) := ⟨o1, o2, o3, hs.at_.lt, MpI.lt hH, hKl⟩
  have HWE : Bx (_ = W) := ⟨hW⟩
  rw [← hW] at c1
  clear hs hv hb0 ham hr hY hH h64 hK o1 o2 o3 hW hk1 z1 hbW hKl
  simp only [seV]
  go_enter Try.func38, Try.ntmps38
  go_wp2_with (first | (at_range; rw [HWE.out]; refine rangeI rfl (.tmp 16) 84 3 rfl Try.underlying84 hm nh (.int .i64 0) (fun c => oV (H c)) (fun c => (H c).isSome) rfl HHW.out ?_; intro w1 cnt hcnt hrg hb1 hz1; have I0 := HHD.out w1 cnt hrg hb1; clear hrg hb1))
  have HI : Bx (OpW w w1 am hm (w.heap.size + 2) W.heap.size nh na wm ym f H V A (fun k => (Y k).isSome) K (fun c => (H c).isSome) (fun c => (H c).isSome) cnt 0 (fun _ => none) ∧ OpO A (fun k => (Y k).isSome) (opL f H) (dnI H (fun c => (H c).isSome)) (fun _ => none)) := ⟨I0⟩
  clear I0 HHD HHW c1 hmm
  try go_frame
  go_loopg [] cnt (fun g wr => ∃ (left : Int → Bool) (n : Nat) (O : Int → Option Lk), Bx (OpW w wr am hm (w.heap.size + 2) W.heap.size nh na wm ym f H V A (fun k => (Y k).isSome) K left left g n O ∧ OpO A (fun k => (Y k).isSome) (opL f H) (dnI H left) O))
  case atStart => exact ⟨_, _, _, HI⟩
  case round =>
    obtain ⟨left, n, O, HR⟩ := hrel
    clear HI
    go_wp2_with (first
      | (at_next; refine nextI rfl (.tmp 17) rfl hm W.heap.size nh (.int .i64 0) (fun c => oV (H c)) (fun c => (H c).isSome) left gk rfl HR.out.1.rg (fun hdn => ?_) (fun c w2 cnt2 hc64 hlf hhs hrg2 hlt2 hgr2 hsz2 hen => ?_); rotate_left 1; (obtain ⟨p, d, hVc, hd1, hd2, hrow⟩ := HRK.out c; have N2 := op_next HR.out.1 HO.out.2.2.1 HO.out.2.2.2.1 HRr.out hrg2 hgr2 hlf hc64; obtain ⟨I2, s1, hlk⟩ := N2; rw [hVc] at hlk; clear hrg2 hgr2 hsz2)))
    · have HJ : Bx (OpW w w2 am hm (w.heap.size + 2) W.heap.size nh na wm ym f H V A (fun k => (Y k).isSome) K (fun d => left d && !(d == c)) left cnt2 n O ∧ OpJ A (fun k => (Y k).isSome) (opL f H) (dnI H left) c ((A c).take 0) O) := ⟨I2.out, HR.out.2.start c⟩
      have HRW : Bx (∀ i (h : i < (A c).length), ∃ b o, p = some ⟨b, o, none⟩ ∧ I64 (A c)[i] ∧ ∀ X, KMp am w X → X.cell? ⟨b, o + i, none⟩ = some (.int .i64 (A c)[i])) := ⟨hrow⟩
      unfold maxLen at hd2
      clear I2 hlk s1 hrow hVc hen HR
      obtain ⟨l, hl⟩ : ∃ l, A c = l := ⟨_, rfl⟩
      have HLE : Bx (A c = l) := ⟨hl⟩
      rw [hl] at HJ HRW hd1 ⊢
      clear hl
      go_loopg [27] (l.length + 1) (fun g v wr => ∃ (j n2 : Nat) (O2 : Int → Option Lk), g = l.length + 1 - j ∧ j ≤ l.length ∧ v = .int .i64 (j : Nat) ∧ Bx (OpW w wr am hm (w.heap.size + 2) W.heap.size nh na wm ym f H V A (fun k => (Y k).isSome) K (fun d => left d && !(d == c)) left cnt2 n2 O2 ∧ OpJ A (fun k => (Y k).isSome) (opL f H) (dnI H left) c (l.take j) O2))
      case atStart => exact ⟨0, n, O, by simp, by omega, rfl, HJ⟩
      case round =>
        obtain ⟨j, n2, O2, hgj, hjl, rfl, HQ⟩ := hrel
        clear HJ
        by_cases hlt : j < l.length
        · obtain ⟨xb, xo, rfl, hid, hcell⟩ := HRW.out j hlt
          have x0 := hcell wr HQ.out.1.kmp
          have s2 : wr.cell? ⟨w.heap.size, 2, none⟩ = some (.map (some ym)) := cell_of HQ.out.1.k0 rfl
          have hlY := WyM.look2 (HQ.out.1.kmp.map HYM.out HO.out.2.1) hid
          have HTJ : Bx (l.take (j + 1) = l.take j ++ [l[j]]) := ⟨List.take_succ_eq_append_getElem hlt⟩
          have HIA : Bx (l[j] ∈ A c) := ⟨by rw [HLE.out]; exact List.getElem_mem hlt⟩
          clear hcell
          generalize l[j] = id at *
          obtain ⟨X1, hX1⟩ : ∃ X1, wr.alloc (.cells #[.int .i64 (wy0 (Y id)).1, .int .i64 (wy0 (Y id)).2.waker, .int .i64 (wy0 (Y id)).2.woken, .int .i64 (wy0 (Y id)).2.chan] 57) = X1 := ⟨_, rfl⟩
          have hb1 : Below wr.heap.size wr X1 := by rw [← hX1]; exact below1 _ _
          have hlO := LkM.look2 (HQ.out.1.below hb1).out hid
          obtain ⟨X2, hX2⟩ : ∃ X2, X1.alloc (.cells #[.int .i64 (lk0 (O2 id)).waker, .int .i64 (lk0 (O2 id)).woken, .int .i64 (lk0 (O2 id)).chan] 38) = X2 := ⟨_, rfl⟩
          have hb2 : Below X1.heap.size X1 X2 := by rw [← hX2]; exact below1 _ _
          have HW2 : Bx (OpW w X2 am hm (w.heap.size + 2) W.heap.size nh na wm ym f H V A (fun k => (Y k).isSome) K (fun d => left d && !(d == c)) left cnt2 n2 O2) := ⟨(HQ.out.1.below hb1).below hb2⟩
          have HX1 : Bx (_ = X1) := ⟨hX1⟩
          have HX2 : Bx (_ = X2) := ⟨hX2⟩
          have HJ : Bx _ := ⟨HQ.out.2⟩
          rw [← hX1] at hlO
          clear hb1 hb2 hX1 hX2 HQ
          cases hyf : (Y id).isSome with
          | true =>
            rw [hyf] at hlY
            have HF : Bx (OpJ A (fun k => (Y k).isSome) (opL f H) (dnI H left) c (l.take (j + 1)) O2) := ⟨by rw [HTJ.out]; exact HJ.out.skip (.inl hyf)⟩
            clear hyf HJ HIA
            generalize (O2 id).isSome = ag at *
            go_wp2
            rw [HX1.out, HX2.out]
            go_roundg (l.length + 1 - (j + 1))
            case measure => omega
            case rel => exact ⟨j + 1, n2, O2, rfl, by omega, by simp, ⟨HW2.out, HF.out⟩⟩
          | false =>
            rw [hyf] at hlY
            cases hof : O2 id with
            | some l0 =>
              have HF : Bx (OpJ A (fun k => (Y k).isSome) (opL f H) (dnI H left) c (l.take (j + 1)) O2) := ⟨by rw [HTJ.out]; exact HJ.out.skip (.inr (by rw [hof]; simp))⟩
              rw [hof] at hlO HX2
              simp only [Option.isSome_some] at hlO
              clear hyf HJ HIA hof
              go_wp2
              rw [HX1.out, HX2.out]
              go_roundg (l.length + 1 - (j + 1))
              case measure => omega
              case rel => exact ⟨j + 1, n2, O2, rfl, by omega, by simp, ⟨HW2.out, HF.out⟩⟩
            | none =>
              have HF : Bx (OpJ A (fun k => (Y k).isSome) (opL f H) (dnI H left) c (l.take (j + 1)) (upd O2 id (some (opL f H id)))) := ⟨by rw [HTJ.out]; exact HJ.out.put hyf HIA.out⟩
              have HN : Bx (O2 id = none ∧ id ∈ K) := ⟨hof, HK.out c id HIA.out⟩
              rw [hof] at hlO HX2
              simp only [Option.isSome_none] at hlO
              have hbl : Below w0.heap.size w0 X2 := HW2.out.kmp.low HS.out.2.2.1 HS.out.2.2.2
              obtain ⟨ap, ac, hp, hc, hMv, hA⟩ := HS.out.2.1 id
              have hlM := (HW2.out.kmp.map HS.out.1 HO.out.1).look Try.underlying61 Try.zeroValue32 hid
              rw [hMv] at hlM
              have s0 : X2.cell? ⟨w.heap.size, 0, none⟩ = some (.map (some wm)) := cell_of HW2.out.k0 rfl
              have HCL : Bx (Calls Try.prog 51 #[agV (f id) ap ac hp hc, .func (.func 55) #[] #[.pointer (some ⟨w.heap.size + 1, 0, none⟩)]] X2 fun e w' => e = .returned (.tuple #[.agg #[.int .i64 (opL f H id).waker, .int .i64 (opL f H id).woken, .int .i64 (opL f H id).chan], .bool (lkD (f id) (fun h => H h.chan)).isSome]) ∧ Below X2.heap.size X2 w') := ⟨link_any X2 (f id) ap hp ac hc (hA.later hbl) _ _ (fun h => H h.chan) (enters_of Try.func55 (by kernel_rfl) rfl) (fun X hX x hx => by
                obtain ⟨q, hq, rfl⟩ := List.mem_iff_getElem.1 hx
                obtain ⟨_, _, _, hx64, _⟩ := hA.arms.at_ q hq
                have hWX := HW2.out.below hX
                exact open1_any X _ hx64 (w.heap.size + 1) hm nh H hWX.k1 (hWX.kmp.map HHM.out HO.out.2.2.1))⟩
              simp only [agV] at hlM HCL
              generalize (lkD (f id) (fun h => H h.chan)).isSome = lb at *
              have hn2 : n2 ≤ 4096 := Nat.le_trans HW2.out.cnt (Nat.le_trans (cnt_le _ _) HO.out.2.2.2.2.2)
              rw [← HX2.out] at hlM s0
              rw [← HX1.out] at hlM s0
              clear hyf HJ HIA hof hMv hA hbl
              go_wp2_with (first | (go_at_call 51; rw [HX1.out, HX2.out]; refine Calls.mono HCL.out ?_; rintro e w5 ⟨rfl, hb5⟩; obtain ⟨w6, hput, hm6, hg6⟩ := LkM.put2 (HW2.out.below hb5).out hid (by unfold maxLen; omega) (opL f H id); have HW6 : Bx (OpW w w6 am hm (w.heap.size + 2) W.heap.size nh na wm ym f H V A (fun k => (Y k).isSome) K (fun d => left d && !(d == c)) left cnt2 (n2 + 1) (upd O2 id (some (opL f H id)))) := ⟨(HW2.out.below hb5).put HN.out.1 HN.out.2 hm6 hg6 (Nat.le_refl _) (by have := HRr.out; omega) (by have := HO.out; omega) (by have := HO.out; omega)⟩; clear hb5 hm6 hg6))
              go_roundg (l.length + 1 - (j + 1))
              case measure => omega
              case rel => exact ⟨j + 1, n2 + 1, _, rfl, by omega, by simp, ⟨HW6.out, HF.out⟩⟩
        · have hje : j = l.length := by omega
          subst hje
          rw [List.take_length, ← HLE.out] at HQ
          have s1 : wr.cell? ⟨w.heap.size, 1, none⟩ = some (.map (some am)) := cell_of HQ.out.1.k0 rfl
          obtain ⟨w6, hdel, hm6, hg6⟩ := HQ.out.1.at_.del Try.underlying77 hc64 0
          have HF : Bx (OpW w w6 am hm (w.heap.size + 2) W.heap.size nh na wm ym f H V A (fun k => (Y k).isSome) K (fun d => left d && !(d == c)) (fun d => left d && !(d == c)) cnt2 n2 O2 ∧ OpO A (fun k => (Y k).isSome) (opL f H) (dnI H (fun d => left d && !(d == c))) O2) := ⟨HQ.out.1.del hhs (fun d => rfl) hm6 hg6 HO.out.2.2.2.1 (by have := HRr.out; have := HO.out; omega) (fun e => HO.out.2.2.1 e.symm) (by have := HO.out; omega), HQ.out.2.done (fun d => by
            unfold dnI
            by_cases e : d = c
            · subst e; simp [hhs]
            · have : (d == c) = false := by simpa using e
              simp [this])⟩
          clear hm6 hg6 HQ
          go_wp2
          go_roundg cnt2
          case measure => omega
          case rel => exact ⟨_, n2, O2, HF⟩
    · have HP : Bx (OpPost w wr am na f H V A (fun k => (Y k).isSome) K (w.heap.size + 2) n O) := ⟨op_done HR.out.1 HR.out.2 hdn H64.out (by omega)⟩
      go_ret
      exact ⟨_, n, O, rfl, HP.out⟩
end Go.Proofs.Ytjfabholalnbeab
