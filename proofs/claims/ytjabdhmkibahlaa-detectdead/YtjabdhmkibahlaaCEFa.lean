import Derived.Test.YtjabdhmkibahlaaCEE
namespace Go.Proofs.Ytjabdhmkibahlaa
open Go.RowKit Go.MapKept Go.ChangeMaps Go.WideShapes
set_option linter.unusedVariables false
set_option linter.unusedSimpArgs false

/-- what open finds -/
structure OpPost (w w' : World) (am na : Nat) (f : Int → Ag) (H : Int → Option Int) (V : Int → Value) (A : Int → List Int) (hy : Int → Bool) (K : List Int) (om n : Nat) (O : Int → Option Lk) : Prop where
  kmp : KMp am w w'
  out : LkM w' om n O
  cnt : n ≤ cntO O K
  new : w.heap.size ≤ om
  at_ : MpI w' am na nV (fun c => if (H c).isSome then nV else V c) (fun c => !(if (H c).isSome then [] else A c).isEmpty)
  op : OpO A hy (opL f H) (fun c => (H c).isSome) O
theorem op_done {w wr : World} {am hm om r nh na wm ym cnt n : Nat} {f : Int → Ag} {H : Int → Option Int} {V : Int → Value} {A : Int → List Int} {hy left : Int → Bool} {K : List Int} {O : Int → Option Lk} (h : OpW w wr am hm om r nh na wm ym f H V A hy K left left cnt n O) (ho : OpO A hy (opL f H) (dnI H left) O) (hl : ∀ c, I64 c → left c = false) (h64 : ∀ c, (H c).isSome = true → I64 c) (hom : w.heap.size ≤ om) : OpPost w wr am na f H V A hy K om n O := by
  have hd : ∀ c, dnI H left c = (H c).isSome := fun c => by
    unfold dnI
    cases hc : (H c).isSome with
    | false => rfl
    | true => rw [hl c (h64 c hc)]; rfl
  refine ⟨h.kmp, h.out, h.cnt, hom, h.at_.ext (fun c => ?_) (fun c => ?_), ⟨fun c id hc => ho.yes c id (by rw [hd]; exact hc), fun id hi => ?_⟩⟩
  · unfold offV; rw [hd]
  · unfold offA; rw [hd]
  · obtain ⟨h1, h2, c, h3, h4⟩ := ho.no id hi
    exact ⟨h1, h2, c, by rw [hd] at h3; exact h3, h4⟩
theorem op_next {w wr w2 : World} {am hm r nh na wm ym cnt cnt2 n : Nat} {f : Int → Ag} {H : Int → Option Int} {V : Int → Value} {A : Int → List Int} {hy left : Int → Bool} {K : List Int} {O : Int → Option Lk} {c : Int} (h : OpW w wr am hm (w.heap.size + 2) r nh na wm ym f H V A hy K left left cnt n O) (o1 : hm ≠ am) (o2 : am < w.heap.size) (hr : r = w.heap.size + 3) (hrg : RgI w2 hm r nh (.int .i64 0) (fun c => oV (H c)) (fun c => (H c).isSome) (fun d => left d && !(d == c)) cnt2) (hg : wr.grownBy w2 (some r)) (hl : left c = true) (h64 : I64 c) :
    Bx (OpW w w2 am hm (w.heap.size + 2) r nh na wm ym f H V A hy K (fun d => left d && !(d == c)) left cnt2 n O) ∧ w2.cell? ⟨w.heap.size, 1, none⟩ = some (.map (some am)) ∧ (Instr.lookup 97 (.map (some am)) (.int .i64 c) false).run Try.prog w2 = .ok (V c) w2 := by
  have h2 := h.next hrg hg (by omega) (by omega) (by omega)
  refine ⟨⟨h2⟩, cell_of h2.k0 rfl, ?_⟩
  have h3 := h2.at_.look Try.underlying97 Try.zeroValue45 h64
  have e : offV H left V c = V c := by unfold offV dnI; rw [hl]; simp
  rw [e] at h3
  exact h3
set_option maxRecDepth 100000 in
set_option maxHeartbeats 4000000 in
theorem open_any (w0 w : World) (hb0 : Below w0.heap.size w0 w) (f : Int → Ag) (wm nw am na ym ny hm nh : Nat) (M V : Int → Value) (hw : Int → Bool) (A : Int → List Int) (Y : Int → Option Wy) (H : Int → Option Int) (K : List Int)
    (hs : SeR w f wm nw M hw am na V A) (hv : WhoV w0 f M) (ham : w0.heap.size ≤ am) (hr : RowsK am w V A) (hY : WyM w ym ny Y) (hH : HoM w hm nh H) (h64 : ∀ c, (H c).isSome = true → I64 c) (hK : ∀ c, ∀ id ∈ A c, id ∈ K) (hKl : K.length ≤ 4096) (o1 : wm ≠ am) (o2 : ym ≠ am) (o3 : hm ≠ am) (hnh : nh ≤ 4096 * 8589934592) :
    Calls Try.prog 66 #[seV wm am ym, .map (some hm)] w fun e w' => ∃ om n O, e = .returned (.map (some om)) ∧ OpPost w w' am na f H V A (fun k => (Y k).isSome) K om n O := by
  have hmm := @run_makeMap Try.prog
  have hmf : ∀ (fn : Fn) (first cap : Array Value) (w : World), (Instr.makeFunc fn first cap).run Try.prog w = .ok (.func fn first cap) w := fun fn first cap w => rfl
  obtain ⟨W, hW⟩ : ∃ W, ((w.alloc (.cells #[.map (some wm), .map (some am), .map (some ym)] 100)).alloc (.cells #[.map (some hm)] 104)).alloc (.map #[] 0) = W := ⟨_, rfl⟩
  have z1 : Below w.heap.size w ((w.alloc (.cells #[.map (some wm), .map (some am), .map (some ym)] 100)).alloc (.cells #[.map (some hm)] 104)) := two_new _ _ _
  have hbW : Below w.heap.size w W := by rw [← hW]; exact z1.trans ((below1 _ _).mono z1.size)
  have hk1 : W.heap[w.heap.size + 1]? = some (.cells #[.map (some hm)] 104 (0, 0)) := by
    rw [← hW]; exact up (alloc_at (by simp))
  have c1 : W.cell? ⟨w.heap.size + 1, 0, none⟩ = some (.map (some hm)) := cell_of hk1 rfl
  have HHW : Bx (MpI W hm nh (.int .i64 0) (fun c => oV (H c)) (fun c => (H c).isSome)) := ⟨MpI.below hH hbW⟩
  have HHD : Bx (∀ w1 cnt, RgI w1 hm W.heap.size nh (.int .i64 0) (fun c => oV (H c)) (fun c => (H c).isSome) (fun c => (H c).isSome) cnt → Below W.heap.size W w1 → OpW w w1 am hm (w.heap.size + 2) W.heap.size nh na wm ym f H V A (fun k => (Y k).isSome) K (fun c => (H c).isSome) (fun c => (H c).isSome) cnt 0 (fun _ => none) ∧ OpO A (fun k => (Y k).isSome) (opL f H) (dnI H (fun c => (H c).isSome)) (fun _ => none)) := ⟨fun w1 cnt h1 h2 => by
    obtain ⟨x1, x2, x3⟩ := OpW.head (f := f) (hy := fun k => (Y k).isSome) (K := K) hH hs.at_ hW h1 h2
    exact ⟨x1, x2⟩⟩
  have HRr : Bx (W.heap.size = w.heap.size + 3) := ⟨by rw [← hW]; simp⟩
  have HS : Bx (MpI w wm nw zV M hw ∧ WhoV w0 f M ∧ Below w0.heap.size w0 w ∧ w0.heap.size ≤ am) := ⟨hs.who, hv, hb0, ham⟩
  have HRK : Bx (RowsK am w V A) := ⟨hr⟩
  have HYM : Bx (WyM w ym ny Y) := ⟨hY⟩
  have HHM : Bx (HoM w hm nh H) := ⟨hH⟩
  have H64 : Bx (∀ c, (H c).isSome = true → I64 c) := ⟨h64⟩
  have HK : Bx (∀ c, ∀ id ∈ A c, id ∈ K) := ⟨hK⟩
  have HO : Bx (wm ≠ am ∧ ym ≠ am ∧ hm ≠ am ∧ am < w.heap.size ∧ hm < w.heap.size ∧ K.length ≤ 4096) := ⟨o1, o2, o3, hs.at_.lt, MpI.lt hH, hKl⟩
  have HWE : Bx (_ = W) := ⟨hW⟩
  rw [← hW] at c1
  clear hs hv hb0 ham hr hY hH h64 hK o1 o2 o3 hW hk1 z1 hbW hKl
  simp only [seV]
  go_enter Try.func66, Try.ntmps66
  go_wp2_with (first | (at_range; rw [HWE.out]; refine rangeI rfl (.tmp 16) 104 3 rfl Try.underlying104 hm nh (.int .i64 0) (fun c => oV (H c)) (fun c => (H c).isSome) rfl HHW.out ?_; intro w1 cnt hcnt hrg hb1 hz1; have I0 := HHD.out w1 cnt hrg hb1; clear hrg hb1))
  have HI : Bx (OpW w w1 am hm (w.heap.size + 2) W.heap.size nh na wm ym f H V A (fun k => (Y k).isSome) K (fun c => (H c).isSome) (fun c => (H c).isSome) cnt 0 (fun _ => none) ∧ OpO A (fun k => (Y k).isSome) (opL f H) (dnI H (fun c => (H c).isSome)) (fun _ => none)) := ⟨I0⟩
  clear I0 HHD HHW c1 hmm
  try go_frame
  go_loopg [] cnt (fun g wr => ∃ (left : Int → Bool) (n : Nat) (O : Int → Option Lk), Bx (OpW w wr am hm (w.heap.size + 2) W.heap.size nh na wm ym f H V A (fun k => (Y k).isSome) K left left g n O ∧ OpO A (fun k => (Y k).isSome) (opL f H) (dnI H left) O))
  case atStart => exact ⟨_, _, _, HI⟩
  case round =>
    obtain ⟨left, n, O, HR⟩ := hrel
    clear HI
    go_wp2_with (first
      | (at_next; refine nextI rfl (.tmp 17) rfl hm W.heap.size nh (.int .i64 0) (fun c => oV (H c)) (fun c => (H c).isSome) left gk rfl HR.out.1.rg (fun hdn => ?_) (fun c w2 cnt2 hc64 hlf hhs hrg2 hlt2 hgr2 hsz2 hen => ?_); rotate_left 1; (obtain ⟨p, d, hVc, hd1, hd2, hrow⟩ := HRK.out c; have N2 := op_next HR.out.1 HO.out.2.2.1 HO.out.2.2.2.1 HRr.out hrg2 hgr2 hlf hc64; obtain ⟨I2, s1, hlk⟩ := N2; rw [hVc] at hlk; clear hrg2 hgr2 hsz2)))
    · have HJ : Bx (OpW w w2 am hm (w.heap.size + 2) W.heap.size nh na wm ym f H V A (fun k => (Y k).isSome) K (fun d => left d && !(d == c)) left cnt2 n O ∧ OpJ A (fun k => (Y k).isSome) (opL f H) (dnI H left) c ((A c).take 0) O) := ⟨I2.out, HR.out.2.start c⟩
      have HRW : Bx (∀ i (h : i < (A c).length), ∃ b o, p = some ⟨b, o, none⟩ ∧ I64 (A c)[i] ∧ ∀ X, KMp am w X → X.cell? ⟨b, o + i, none⟩ = some (.int .i64 (A c)[i])) := ⟨hrow⟩
      unfold maxLen at hd2
      clear I2 hlk s1 hrow hVc hen HR
      obtain ⟨l, hl⟩ : ∃ l, A c = l := ⟨_, rfl⟩
      have HLE : Bx (A c = l) := ⟨hl⟩
      rw [hl] at HJ HRW hd1 ⊢
      clear hl
      go_loopg [27] (l.length + 1) (fun g v wr => ∃ (j n2 : Nat) (O2 : Int → Option Lk), g = l.length + 1 - j ∧ j ≤ l.length ∧ v = .int .i64 (j : Nat) ∧ Bx (OpW w wr am hm (w.heap.size + 2) W.heap.size nh na wm ym f H V A (fun k => (Y k).isSome) K (fun d => left d && !(d == c)) left cnt2 n2 O2 ∧ OpJ A (fun k => (Y k).isSome) (opL f H) (dnI H left) c (l.take j) O2))
      case atStart => exact ⟨0, n, O, by simp, by omega, rfl, HJ⟩
      case round =>
        obtain ⟨j, n2, O2, hgj, hjl, rfl, HQ⟩ := hrel
        clear HJ
        by_cases hlt : j < l.length
        · obtain ⟨xb, xo, rfl, hid, hcell⟩ := HRW.out j hlt
          have x0 := hcell wr HQ.out.1.kmp
          have s2 : wr.cell? ⟨w.heap.size, 2, none⟩ = some (.map (some ym)) := cell_of HQ.out.1.k0 rfl
          have hlY := WyM.look2 (HQ.out.1.kmp.map HYM.out HO.out.2.1) hid
          have HTJ : Bx (l.take (j + 1) = l.take j ++ [l[j]]) := ⟨List.take_succ_eq_append_getElem hlt⟩
          have HIA : Bx (l[j] ∈ A c) := ⟨by rw [HLE.out]; exact List.getElem_mem hlt⟩
          clear hcell
          generalize l[j] = id at *
          obtain ⟨X1, hX1⟩ : ∃ X1, wr.alloc (.cells #[.int .i64 (wy0 (Y id)).1, .int .i64 (wy0 (Y id)).2.waker, .int .i64 (wy0 (Y id)).2.woken, .int .i64 (wy0 (Y id)).2.chan] 83) = X1 := ⟨_, rfl⟩
          have hb1 : Below wr.heap.size wr X1 := by rw [← hX1]; exact below1 _ _
          have hlO := LkM.look2 (HQ.out.1.below hb1).out hid
          obtain ⟨X2, hX2⟩ : ∃ X2, X1.alloc (.cells #[.int .i64 (lk0 (O2 id)).waker, .int .i64 (lk0 (O2 id)).woken, .int .i64 (lk0 (O2 id)).chan] 24) = X2 := ⟨_, rfl⟩
          have hb2 : Below X1.heap.size X1 X2 := by rw [← hX2]; exact below1 _ _
          have HW2 : Bx (OpW w X2 am hm (w.heap.size + 2) W.heap.size nh na wm ym f H V A (fun k => (Y k).isSome) K (fun d => left d && !(d == c)) left cnt2 n2 O2) := ⟨(HQ.out.1.below hb1).below hb2⟩
          have HX1 : Bx (_ = X1) := ⟨hX1⟩
          have HX2 : Bx (_ = X2) := ⟨hX2⟩
          have HJ : Bx _ := ⟨HQ.out.2⟩
          rw [← hX1] at hlO
          clear hb1 hb2 hX1 hX2 HQ
          cases hyf : (Y id).isSome with
          | true =>
            rw [hyf] at hlY
            have HF : Bx (OpJ A (fun k => (Y k).isSome) (opL f H) (dnI H left) c (l.take (j + 1)) O2) := ⟨by rw [HTJ.out]; exact HJ.out.skip (.inl hyf)⟩
            clear hyf HJ HIA
            generalize (O2 id).isSome = ag at *
            go_wp2
            rw [HX1.out, HX2.out]
            go_roundg (l.length + 1 - (j + 1))
            case measure => omega
            case rel => exact ⟨j + 1, n2, O2, rfl, by omega, by simp, ⟨HW2.out, HF.out⟩⟩
          | false =>
            rw [hyf] at hlY
            cases hof : O2 id with
            | some l0 =>
              have HF : Bx (OpJ A (fun k => (Y k).isSome) (opL f H) (dnI H left) c (l.take (j + 1)) O2) := ⟨by rw [HTJ.out]; exact HJ.out.skip (.inr (by rw [hof]; simp))⟩
              rw [hof] at hlO HX2
              simp only [Option.isSome_some] at hlO
              clear hyf HJ HIA hof
              go_wp2
              rw [HX1.out, HX2.out]
              go_roundg (l.length + 1 - (j + 1))
              case measure => omega
              case rel => exact ⟨j + 1, n2, O2, rfl, by omega, by simp, ⟨HW2.out, HF.out⟩⟩
            | none =>
              have HF : Bx (OpJ A (fun k => (Y k).isSome) (opL f H) (dnI H left) c (l.take (j + 1)) (upd O2 id (some (opL f H id)))) := ⟨by rw [HTJ.out]; exact HJ.out.put hyf HIA.out⟩
              have HN : Bx (O2 id = none ∧ id ∈ K) := ⟨hof, HK.out c id HIA.out⟩
              rw [hof] at hlO HX2
              simp only [Option.isSome_none] at hlO
              have hbl : Below w0.heap.size w0 X2 := HW2.out.kmp.low HS.out.2.2.1 HS.out.2.2.2
              obtain ⟨ap, ac, hp, hc, hMv, hA⟩ := HS.out.2.1 id
              have hlM := (HW2.out.kmp.map HS.out.1 HO.out.1).look Try.underlying61 Try.zeroValue53 hid
              rw [hMv] at hlM
              have s0 : X2.cell? ⟨w.heap.size, 0, none⟩ = some (.map (some wm)) := cell_of HW2.out.k0 rfl
              have HCL : Bx (Calls Try.prog 77 #[agV (f id) ap ac hp hc, .func (.func 81) #[] #[.pointer (some ⟨w.heap.size + 1, 0, none⟩)]] X2 fun e w' => e = .returned (.tuple #[.agg #[.int .i64 (opL f H id).waker, .int .i64 (opL f H id).woken, .int .i64 (opL f H id).chan], .bool (lkD (f id) (fun h => H h.chan)).isSome]) ∧ Below X2.heap.size X2 w') := ⟨link_any X2 (f id) ap hp ac hc (hA.later hbl) _ _ (fun h => H h.chan) (enters_of Try.func81 (by kernel_rfl) rfl) (fun X hX x hx => by
                obtain ⟨q, hq, rfl⟩ := List.mem_iff_getElem.1 hx
                obtain ⟨_, _, _, hx64, _⟩ := hA.arms.at_ q hq
                have hWX := HW2.out.below hX
                exact open1_any X _ hx64 (w.heap.size + 1) hm nh H hWX.k1 (hWX.kmp.map HHM.out HO.out.2.2.1))⟩
              simp only [agV] at hlM HCL
              generalize (lkD (f id) (fun h => H h.chan)).isSome = lb at *
              have hn2 : n2 ≤ 4096 := Nat.le_trans HW2.out.cnt (Nat.le_trans (cnt_le _ _) HO.out.2.2.2.2.2)
              rw [← HX2.out] at hlM s0
              rw [← HX1.out] at hlM s0
              clear hyf HJ HIA hof hMv hA hbl
              go_wp2_with (first | (go_at_call 77; rw [HX1.out, HX2.out]; refine Calls.mono HCL.out ?_; rintro e w5 ⟨rfl, hb5⟩; obtain ⟨w6, hput, hm6, hg6⟩ := LkM.put2 (HW2.out.below hb5).out hid (by unfold maxLen; omega) (opL f H id); have HW6 : Bx (OpW w w6 am hm (w.heap.size + 2) W.heap.size nh na wm ym f H V A (fun k => (Y k).isSome) K (fun d => left d && !(d == c)) left cnt2 (n2 + 1) (upd O2 id (some (opL f H id)))) := ⟨(HW2.out.below hb5).put HN.out.1 HN.out.2 hm6 hg6 (Nat.le_refl _) (by have := HRr.out; omega) (by have := HO.out; omega) (by have := HO.out; omega)⟩; clear hb5 hm6 hg6))
              go_roundg (l.length + 1 - (j + 1))
              case measure => omega
              case rel => exact ⟨j + 1, n2 + 1, _, rfl, by omega, by simp, ⟨HW6.out, HF.out⟩⟩
        · have hje : j = l.length := by omega
          subst hje
          rw [List.take_length, ← HLE.out] at HQ
          have s1 : wr.cell? ⟨w.heap.size, 1, none⟩ = some (.map (some am)) := cell_of HQ.out.1.k0 rfl
          obtain ⟨w6, hdel, hm6, hg6⟩ := HQ.out.1.at_.del Try.underlying97 hc64 0
          have HF : Bx (OpW w w6 am hm (w.heap.size + 2) W.heap.size nh na wm ym f H V A (fun k => (Y k).isSome) K (fun d => left d && !(d == c)) (fun d => left d && !(d == c)) cnt2 n2 O2 ∧ OpO A (fun k => (Y k).isSome) (opL f H) (dnI H (fun d => left d && !(d == c))) O2) := ⟨HQ.out.1.del hhs (fun d => rfl) hm6 hg6 HO.out.2.2.2.1 (by have := HRr.out; have := HO.out; omega) (fun e => HO.out.2.2.1 e.symm) (by have := HO.out; omega), HQ.out.2.done (fun d => by
            unfold dnI
            by_cases e : d = c
            · subst e; simp [hhs]
            · have : (d == c) = false := by simpa using e
              simp [this])⟩
          clear hm6 hg6 HQ
          go_wp2
          go_roundg cnt2
          case measure => omega
          case rel => exact ⟨_, n2, O2, HF⟩
    · have HP : Bx (OpPost w wr am na f H V A (fun k => (Y k).isSome) K (w.heap.size + 2) n O) := ⟨op_done HR.out.1 HR.out.2 hdn H64.out (by omega)⟩
      go_ret
      exact ⟨_, n, O, rfl, HP.out⟩
end Go.Proofs.Ytjabdhmkibahlaa
namespace Go.Proofs.Ytjabdhmkibahlaa
open Go.RowKit Go.MapKept Go.ChangeMaps Go.WideShapes
set_option linter.unusedVariables false
set_option linter.unusedSimpArgs false

/-! ### maps by hands -/
theorem lawH : WideMaps.KeyLaw Try.prog 58 := deep_law_laid out_laid (m := 4) (by omega) (by decide +kernel) (by kernel_rfl) (by kernel_rfl)
theorem keyedH : Maps.Keyed Try.prog 58 := Maps.Keyed.of_law lawH
theorem sizeH : ∃ m, Try.prog.types.size = m + 1 := ⟨Try.prog.types.size - 1, by kernel_rfl⟩
theorem keyTH : Try.prog.keyType 58 = true := by kernel_rfl
theorem cellsH : Try.prog.cellsOf 58 = 2 := by kernel_rfl
theorem cellsI1 : Try.prog.cellsOf 3 = 1 := by kernel_rfl
theorem cellsB1 : Try.prog.cellsOf 4 = 1 := by kernel_rfl
theorem keyH (h : Hd) (hc : I64 h.chan) : ∃ kl, keyOf Try.prog 58 (hdV h) = some kl := by
  obtain ⟨ch, sd⟩ := h
  obtain ⟨m, hm⟩ := sizeH
  have hwf : (Lit.int .i64 ch).wf = true := WalkArith.wf_i64 (by unfold I64 at hc; simp only at hc; omega)
  unfold keyOf
  rw [Try.underlying58]
  simp only [keyTH, Bool.true_and, hdV]
  rw [hm]
  simp [Program.keyLits, Try.underlying58, Try.underlying3, Try.underlying4, cellsH, cellsI1, cellsB1, hwf, Value.cells, Value.formed]
theorem hdV_inj {h k : Hd} (e : hdV h = hdV k) : h = k := by
  obtain ⟨a, b⟩ := h
  obtain ⟨c, d⟩ := k
  simp [hdV] at e
  obtain ⟨rfl, rfl⟩ := e
  rfl
theorem keyH_ne {s t : Hd} {k l : Lit} (hk : keyOf Try.prog 58 (hdV s) = some k) (hl : keyOf Try.prog 58 (hdV t) = some l) (h : s ≠ t) : k ≠ l := fun e => h (hdV_inj (keyedH.inj hk (e ▸ hl)))
structure MpH (W : World) (mb n : Nat) (M : Hd → Value) : Prop where
  ex : ∃ D, W.ownsMap Try.prog 58 Rw mb n D ∧ ∀ c, I64 c.chan → ∀ kl, keyOf Try.prog 58 (hdV c) = some kl → D.atKey kl (.held nV) = .held (M c)
theorem mh_new (W : World) : MpH (W.alloc (.map #[] 0)) W.heap.size 0 (fun _ => nV) := ⟨_, World.ownsMap_made W Try.prog 58 Rw, fun c _ kl _ => rfl⟩
theorem MpH.same {W W' : World} {mb n : Nat} {M : Hd → Value} (h : MpH W mb n M) (hg : W'.heap[mb]? = W.heap[mb]?) : MpH W' mb n M := by
  obtain ⟨D, ⟨es, clock, h0, h3⟩, h2⟩ := h.ex
  exact ⟨D, ⟨es, clock, hg.trans h0, h3⟩, h2⟩
theorem MpH.lt {W : World} {mb n : Nat} {M : Hd → Value} (h : MpH W mb n M) : mb < W.heap.size := by
  obtain ⟨D, h1, _⟩ := h.ex
  exact h1.lt
theorem MpH.below {W W' : World} {mb n : Nat} {M : Hd → Value} (h : MpH W mb n M) (hb : Below W.heap.size W W') : MpH W' mb n M := h.same (hb.block mb h.lt)
theorem MpH.look {W : World} {mb n : Nat} {M : Hd → Value} (h : MpH W mb n M) (c : Hd) (hc : I64 c.chan) : (Instr.lookup 115 (.map (some mb)) (.agg #[.int .i64 c.chan, .bool c.send]) false).run Try.prog W = .ok (M c) W := by
  obtain ⟨D, h1, h2⟩ := h.ex
  obtain ⟨kl, hkl⟩ := keyH c hc
  obtain ⟨v, ps, hr, hv⟩ := h1.lookup keyedH Try.underlying115 (Try.zeroValue45 W) (zd := .held nV) (zp := []) rfl hkl
  rw [h2 c hc kl hkl] at hv
  have hv2 : v = M c := by
    have h3 := congrArg Prod.fst (Option.some.inj (show some ((DataW.held v : DataW Value), ([] : List MemPlace)) = some (DataW.held (M c), ps) from hv))
    exact DataW.held.inj h3
  exact hr.trans (by rw [hv2])
def updH {α : Type} (f : Hd → α) (c : Hd) (x : α) : Hd → α := fun d => if d.chan = c.chan ∧ d.send = c.send then x else f d
theorem updH_same {α : Type} (f : Hd → α) (c : Hd) (x : α) : updH f c x c = x := if_pos ⟨rfl, rfl⟩
theorem updH_other {α : Type} (f : Hd → α) {c d : Hd} (x : α) (h : d ≠ c) : updH f c x d = f d := if_neg (fun e => h (by
  obtain ⟨a, b⟩ := c
  obtain ⟨d1, d2⟩ := d
  simp only at e
  obtain ⟨rfl, rfl⟩ := e
  rfl))
theorem MpH.put {W : World} {mb n : Nat} {M : Hd → Value} (h : MpH W mb n M) (c : Hd) (hc : I64 c.chan) (hn : n < maxLen) (v : Value) :
    ∃ w', (Instr.mapUpdate 115 (.map (some mb)) (.agg #[.int .i64 c.chan, .bool c.send]) v).run Try.prog W = .ok () w' ∧ MpH w' mb (n + 1) (updH M c v) ∧ W.grownBy w' (some mb) := by
  obtain ⟨D, h1, h2⟩ := h.ex
  obtain ⟨kc, hkc⟩ := keyH c hc
  obtain ⟨w', hr, h4, h5⟩ := h1.update keyedH Try.underlying115 hn (val := v) (d := .held v) (ps := []) hkc rfl
  refine ⟨w', hr, ⟨_, h4, fun d hd kl hkl => ?_⟩, h5⟩
  by_cases e : d = c
  · subst e
    rw [hkc] at hkl
    cases hkl
    rw [updH_same, Maps.atKey_put_same h1.isMap (keyedH.key hkc)]
  · rw [updH_other _ _ e, Maps.atKey_put_other (keyH_ne hkl hkc e)]
    exact h2 d hd kl hkl
/-! ### who waits with which hand -/
def haStep (id : Int) (B : Hd → List Int) (h : Hd) : Hd → List Int := if h.chan ≠ 0 ∧ (B h).getLast? ≠ some id then updH B h (B h ++ [id]) else B
def haArms (B : Hd → List Int) (id : Int) (l : List Hd) : Hd → List Int := l.foldl (haStep id) B
def haF (B : Hd → List Int) (s : List Ag) : Hd → List Int := s.foldl (fun B a => haArms B a.id a.arms) B
def haD (s : List Ag) : Hd → List Int := haF (fun _ => []) s
theorem haArms_snoc (B : Hd → List Int) (id : Int) (l : List Hd) (h : Hd) : haArms B id (l ++ [h]) = haStep id (haArms B id l) h := by simp [haArms, List.foldl_append]
theorem haF_snoc (B : Hd → List Int) (s : List Ag) (a : Ag) : haF B (s ++ [a]) = haArms (haF B s) a.id a.arms := by simp [haF, List.foldl_append]
structure HaW (B : Nat) (W : World) (mb n : Nat) (V : Hd → Value) (A : Hd → List Int) (own : Nat → Option Hd) : Prop where
  map : MpH W mb n V
  row : ∀ c, W.ownsRow B 3 1 (V c) (A c).length (rowC (A c))
  lab : ∀ c g, (V c).ownBlock = some g → own g = some c
theorem HaW.new (W : World) (B : Nat) : HaW B (W.alloc (.map #[] 0)) W.heap.size 0 (fun _ => nV) (fun _ => []) (fun _ => none) :=
  ⟨mh_new W, fun c => ⟨rfl, .inl ⟨rfl, rfl⟩⟩, fun c g h => by cases h⟩
theorem HaW.below {B : Nat} {W X : World} {mb n : Nat} {V : Hd → Value} {A : Hd → List Int} {own : Nat → Option Hd} (h : HaW B W mb n V A own) (hb : Below W.heap.size W X) : HaW B X mb n V A own :=
  ⟨h.map.below hb, fun c => own_new (h.row c) hb, h.lab⟩
theorem HaW.grown_map {B : Nat} {W W2 : World} {mb n : Nat} {V : Hd → Value} {A : Hd → List Int} {own : Nat → Option Hd} (h : HaW B W mb n V A own) (c : Hd) (hg : W.grownBy W2 (V c).ownBlock) : MpH W2 mb n V ∧ ∃ es clock, W2.heap[mb]? = some (.map es clock) := by
  obtain ⟨D, ⟨es, clock, h0, _⟩, _⟩ := h.map.ex
  have e := hg.block mb h.map.lt (fun e => by
    obtain ⟨us, hu⟩ := own_blk_lt (h.row c) e.symm
    rw [hu] at h0
    cases h0)
  exact ⟨h.map.same e, es, clock, e.trans h0⟩
theorem HaW.add {B : Nat} {W W2 W3 : World} {mb n : Nat} {V : Hd → Value} {A : Hd → List Int} {own : Nat → Option Hd} (h : HaW B W mb n V A own) (c : Hd) (id : Int) {v' : Value}
    (ho : W2.ownsRow B 3 1 v' ((A c).length + 1) (rowC (A c) ++ [.int .i64 id])) (hg : W.grownBy W2 (V c).ownBlock) (hv : v'.ownBlock = (V c).ownBlock ∨ v'.ownBlock = some W.heap.size)
    (hm : MpH W3 mb (n + 1) (updH V c v')) (hg3 : W2.grownBy W3 (some mb)) :
    ∃ own', HaW B W3 mb (n + 1) (updH V c v') (updH A c (A c ++ [id])) own' := by
  obtain ⟨_, es, clock, hmap⟩ := h.grown_map c hg
  have keep3 : ∀ {v : Value} {k : Nat} {cs : List Value}, W2.ownsRow B 3 1 v k cs → W3.ownsRow B 3 1 v k cs := fun {v k cs} hr => own_same hr (fun g o hgo hgb => by
    refine (hg3.block g (Array.getElem?_eq_some_iff.1 hgb).1 (fun e => ?_)).trans hgb
    cases e
    obtain ⟨us, hu⟩ := own_blk_lt hr hgo
    rw [hmap] at hu
    cases hu)
  classical
  refine ⟨fun g => if v'.ownBlock = some g then some c else own g, ⟨hm, fun d => ?_, fun d g hd => ?_⟩⟩
  · by_cases e : d = c
    · subst e
      rw [updH_same, updH_same, List.length_append, rowC_snoc]
      exact keep3 ho
    · rw [updH_other _ _ e, updH_other _ _ e]
      refine keep3 (own_same (h.row d) (fun g o hgo hgb => (hg.block g (Array.getElem?_eq_some_iff.1 hgb).1 (fun e' => ?_)).trans hgb))
      have h1 := h.lab d g hgo
      have h2 := h.lab c g e'.symm
      rw [h1] at h2
      cases h2
      exact e rfl
  · show (if v'.ownBlock = some g then some c else own g) = some d
    by_cases e : d = c
    · subst e
      rw [updH_same] at hd
      rw [if_pos hd]
    · rw [updH_other _ _ e] at hd
      rw [if_neg (fun e' => ?_)]
      · exact h.lab d g hd
      · rcases hv with hv | hv
        · rw [hv] at e'
          have h1 := h.lab d g hd
          have h2 := h.lab c g e'
          rw [h1] at h2
          cases h2
          exact e rfl
        · rw [hv] at e'
          cases e'
          obtain ⟨us, hu⟩ := own_blk_lt (h.row d) hd
          have := (Array.getElem?_eq_some_iff.1 hu).1
          omega
def HaI (w W : World) (n : Nat) (A : Hd → List Int) : Prop := ∃ m V own, m ≤ n ∧ HaW w.heap.size W w.heap.size m V A own ∧ (∀ c, (A c).length ≤ n) ∧ (∀ c, ∀ x ∈ A c, I64 x) ∧ Below w.heap.size w W
theorem ha_put {w Z w9 : World} {m N ab : Nat} {V : Hd → Value} {A : Hd → List Int} {own : Nat → Option Hd} {o : Obj} (h : HaW w.heap.size Z w.heap.size m V A own) (hl : m ≤ N ∧ (∀ c, (A c).length ≤ N) ∧ ∀ c, ∀ x ∈ A c, I64 x) {c : Hd} (h64 : I64 c.chan) {id : Int} (hid : I64 id) (hN : N ≤ 8589934592) (hb : Below w.heap.size w Z) (hk : Z.heap[ab]? = some o) {us : Array Value} {fr : Nat × Nat} (ho : o = .cells us 53 fr) {kb : Nat} (hk2 : Z.heap[kb]? = some (.cells #[.int .i64 c.chan, .bool c.send] 58 (0, 0))) {v9 : Value} (hown : w9.ownsRow w.heap.size 3 1 v9 ((A c).length + 1) (rowC (A c) ++ [.int .i64 id])) (hg : Z.grownBy w9 (V c).ownBlock) (hv : v9.ownBlock = (V c).ownBlock ∨ v9.ownBlock = some Z.heap.size) :
    (w9.cell? ⟨kb, 0, none⟩ = some (.int .i64 c.chan) ∧ w9.cell? ⟨kb, 1, none⟩ = some (.bool c.send)) ∧ ∃ w10, (Instr.mapUpdate 115 (.map (some w.heap.size)) (.agg #[.int .i64 c.chan, .bool c.send]) v9).run Try.prog w9 = .ok () w10 ∧ Bx (HaI w w10 (N + 1) (updH A c (A c ++ [id])) ∧ w10.heap[ab]? = some o) := by
  obtain ⟨hm9, es, clock, hmb⟩ := h.grown_map c hg
  obtain ⟨w10, hput, hm, hg2⟩ := hm9.put c h64 (by unfold maxLen; omega) v9
  obtain ⟨own', hw⟩ := h.add c id hown hg hv hm hg2
  have hab := (Array.getElem?_eq_some_iff.1 hk).1
  have hne1 : some ab ≠ (V c).ownBlock := fun e => by
    obtain ⟨us', hu⟩ := own_blk_lt (h.row c) e.symm
    rw [hk, ho] at hu
    cases hu
  have h9 := (hg.block ab hab hne1).trans hk
  have hne2 : some ab ≠ some w.heap.size := fun e => by
    cases e
    rw [h9, ho] at hmb
    cases hmb
  have hb9 : Below w.heap.size w w9 := hb.grown hg hb.size (fun r e => own_base (h.row c) r e)
  have hk9 := (hg.block kb (Array.getElem?_eq_some_iff.1 hk2).1 (fun e => by
    obtain ⟨us', hu⟩ := own_blk_lt (h.row c) e.symm
    rw [hk2] at hu
    cases hu)).trans hk2
  refine ⟨⟨cell_of hk9 rfl, cell_of hk9 rfl⟩, w10, hput, ⟨⟨m + 1, _, own', by omega, hw, fun d => ?_, fun d x hx => ?_, hb9.grown hg2 hb9.size (fun r e => by cases e; exact Nat.le_refl _)⟩, (hg2.block ab (Nat.lt_of_lt_of_le hab hg.size) hne2).trans h9⟩⟩
  · have := hl.2.1 d
    by_cases e : d = c
    · subst e
      rw [updH_same, List.length_append]
      simp
      omega
    · rw [updH_other _ _ e]
      omega
  · by_cases e : d = c
    · subst e
      rw [updH_same] at hx
      rcases List.mem_append.1 hx with hx | hx
      · exact hl.2.2 d x hx
      · have : x = id := by simpa using hx
        rw [this]; exact hid
    · rw [updH_other _ _ e] at hx
      exact hl.2.2 d x hx
end Go.Proofs.Ytjabdhmkibahlaa
