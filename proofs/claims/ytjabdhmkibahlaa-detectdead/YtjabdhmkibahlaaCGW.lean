import Derived.Test.YtjabdhmkibahlaaCGD
namespace Go.Proofs.Ytjabdhmkibahlaa
open Go.RowKit
set_option linter.unusedVariables false
set_option linter.unusedSimpArgs false

/-! ### maps by numbers -/
def Rw (v : Value) : Option (DataW Value × List MemPlace) := some (.held v, [])
def kI (c : Int) : Lit := .int .i64 c
theorem keyI {c : Int} (h : I64 c) : keyOf Try.prog 3 (.int .i64 c) = some (kI c) := Maps.keyOf_int_mk Try.underlying3 (WalkArith.wf_i64 (by unfold I64 at h; omega))
theorem kI_ne {a b : Int} (h : a ≠ b) : kI a ≠ kI b := fun e => h (by unfold kI at e; cases e; rfl)
theorem kI_key (c : Int) : WideAt.IsKeyLit (kI c) := by simp [WideAt.IsKeyLit, kI]
structure MpI (W : World) (mb n : Nat) (z : Value) (M : Int → Value) (hs : Int → Bool) : Prop where
  ex : ∃ D, W.ownsMap Try.prog 3 Rw mb n D ∧ ∀ c, I64 c → D.atKey (kI c) (.held z) = .held (M c) ∧ Maps.has D (kI c) = hs c
theorem mp_new (W : World) (z : Value) : MpI (W.alloc (.map #[] 0)) W.heap.size 0 z (fun _ => z) (fun _ => false) :=
  ⟨_, World.ownsMap_made W Try.prog 3 Rw, fun c _ => ⟨rfl, rfl⟩⟩
theorem MpI.look {W : World} {mb n : Nat} {z : Value} {M : Int → Value} {hs : Int → Bool} (h : MpI W mb n z M hs) {t e : TypeId} (ht : Try.prog.underlying t = some (.map 3 e)) (hz : ∀ w, (zeroValue e).run Try.prog w = .ok z w) {c : Int} (hc : I64 c) : (Instr.lookup t (.map (some mb)) (.int .i64 c) false).run Try.prog W = .ok (M c) W := by
  obtain ⟨D, h1, h2⟩ := h.ex
  obtain ⟨v, ps, hr, hv⟩ := h1.lookup (Maps.int_keyed Try.underlying3) ht (hz _) (zd := .held z) (zp := []) rfl (keyI hc)
  rw [(h2 c hc).1] at hv
  have hv2 : v = M c := by
    have h3 := congrArg Prod.fst (Option.some.inj (show some ((DataW.held v : DataW Value), ([] : List MemPlace)) = some (DataW.held (M c), ps) from hv))
    exact DataW.held.inj h3
  rw [hr, hv2]
def upd {α : Type} (f : Int → α) (c : Int) (x : α) : Int → α := fun d => if d = c then x else f d
theorem upd_same {α : Type} (f : Int → α) (c : Int) (x : α) : upd f c x c = x := if_pos rfl
theorem upd_other {α : Type} (f : Int → α) {c d : Int} (x : α) (h : d ≠ c) : upd f c x d = f d := if_neg h
theorem MpI.put {W : World} {mb n : Nat} {z : Value} {M : Int → Value} {hs : Int → Bool} (h : MpI W mb n z M hs) {t e : TypeId} (ht : Try.prog.underlying t = some (.map 3 e)) {c : Int} (hc : I64 c) (hn : n < maxLen) (v : Value) :
    ∃ w', (Instr.mapUpdate t (.map (some mb)) (.int .i64 c) v).run Try.prog W = .ok () w' ∧ MpI w' mb (n + 1) z (upd M c v) (upd hs c true) ∧ W.grownBy w' (some mb) := by
  obtain ⟨D, h1, h2⟩ := h.ex
  obtain ⟨w', hr, h3, h4⟩ := h1.update (Maps.int_keyed Try.underlying3) ht hn (val := v) (d := .held v) (ps := []) (keyI hc) rfl
  refine ⟨w', hr, ⟨_, h3, fun d hd => ?_⟩, h4⟩
  by_cases e : d = c
  · subst e
    rw [upd_same, upd_same, Maps.atKey_put_same h1.isMap (kI_key _), Maps.has_put_same h1.isMap (kI_key _)]
    exact ⟨rfl, rfl⟩
  · rw [upd_other _ _ e, upd_other _ _ e, Maps.atKey_put_other (kI_ne e), Maps.has_put_other (kI_ne e)]
    exact h2 d hd
theorem MpI.same {W W' : World} {mb n : Nat} {z : Value} {M : Int → Value} {hs : Int → Bool} (h : MpI W mb n z M hs) (hg : W'.heap[mb]? = W.heap[mb]?) : MpI W' mb n z M hs := by
  obtain ⟨D, ⟨es, clock, h0, h3⟩, h2⟩ := h.ex
  exact ⟨D, ⟨es, clock, hg.trans h0, h3⟩, h2⟩
theorem MpI.lt {W : World} {mb n : Nat} {z : Value} {M : Int → Value} {hs : Int → Bool} (h : MpI W mb n z M hs) : mb < W.heap.size := by
  obtain ⟨D, h1, _⟩ := h.ex
  exact h1.lt
theorem MpI.below {W W' : World} {mb n : Nat} {z : Value} {M : Int → Value} {hs : Int → Bool} (h : MpI W mb n z M hs) (hb : Below W.heap.size W W') : MpI W' mb n z M hs := h.same (hb.block mb h.lt)
theorem MpI.ext {W : World} {mb n : Nat} {z : Value} {M M' : Int → Value} {hs hs' : Int → Bool} (h : MpI W mb n z M hs) (e1 : ∀ c, M' c = M c) (e2 : ∀ c, hs' c = hs c) : MpI W mb n z M' hs' := by
  obtain ⟨D, h1, h2⟩ := h.ex
  exact ⟨D, h1, fun c hc => by rw [e1, e2]; exact h2 c hc⟩
def stV (s : Stc) : Value := .agg #[.bool s.awake, .bool s.sends, .bool s.recvs]
def WtPost (w : World) (arms : List Hd) (e : Ending) (w' : World) : Prop := ∃ mb n, e = .returned (.map (some mb)) ∧ MpI w' mb n (stV st0) (fun c => stV (waitI arms c)) (onI arms) ∧ n ≤ arms.length ∧ w.heap.size ≤ mb ∧ Below w.heap.size w w'
theorem waitF_awake (c : Int) : ∀ (l : List Hd) (s : Stc), s.awake = false → (waitF c s l).awake = false
  | [], s, h => h
  | x :: r, s, h => by
    rw [waitF]
    refine waitF_awake c r _ ?_
    split
    · rfl
    · exact h
theorem wait_upd (l : List Hd) (h : Hd) (h0 : h.chan ≠ 0) (c : Int) : stV (waitI (l ++ [h]) c) = upd (fun c => stV (waitI l c)) h.chan (.agg #[.bool false, .bool ((waitI l h.chan).sends || h.send), .bool ((waitI l h.chan).recvs || !h.send)]) c := by
  unfold waitI
  rw [waitF_snoc]
  by_cases e : c = h.chan
  · subst e
    rw [if_pos ⟨h0, rfl⟩, upd_same]
    rfl
  · rw [if_neg (fun x => e x.2.symm), upd_other _ _ e]
theorem on_upd (l : List Hd) (h : Hd) (h0 : h.chan ≠ 0) (c : Int) : onI (l ++ [h]) c = upd (onI l) h.chan true c := by
  rw [onI_snoc]
  by_cases e : c = h.chan
  · subst e
    rw [upd_same]
    simp [h0]
  · rw [upd_other _ _ e]
    have : (h.chan == c) = false := by simp; exact fun x => e x.symm
    rw [this, Bool.and_false, Bool.or_false]
theorem wait_nil (l : List Hd) (h : Hd) (h0 : h.chan = 0) (c : Int) : stV (waitI (l ++ [h]) c) = stV (waitI l c) ∧ onI (l ++ [h]) c = onI l c := by
  unfold waitI
  rw [waitF_snoc, if_neg (fun x => x.1 h0), onI_snoc, h0]
  simp

set_option maxRecDepth 100000 in
set_option maxHeartbeats 8000000 in
theorem waiting_any (w : World) (a : Ag) (ap hp : Option Addr) (ac hc : Nat) (h : AgR w a ap ac hp hc) :
    Calls Try.prog 39 #[agV a ap ac hp hc] w (WtPost w a.arms) := by
  obtain ⟨id, aw, arms, held⟩ := a
  have HA : Bx (HdsR w ap ac arms) := ⟨h.arms⟩
  have h1 := HA.out.len
  have h2 := HA.out.max
  unfold maxLen at h2
  simp only [agV]
  have hmm := @run_makeMap Try.prog
  obtain ⟨W, hW⟩ : ∃ W, (w.alloc (.cells #[.int .i64 id, .bool aw, .slice ap arms.length ac, .slice hp held.length hc] 53)).alloc (.map #[] 0) = W := ⟨_, rfl⟩
  have hb : Below w.heap.size w W := by rw [← hW]; exact two_new _ _ _
  have hbk : W.heap[w.heap.size]? = some (.cells #[.int .i64 id, .bool aw, .slice ap arms.length ac, .slice hp held.length hc] 53 (0, 0)) := by
    rw [← hW]; exact (Below.heap_alloc _ _ _ (by simp)).trans (World.alloc_heap_new _ _)
  have hc2 : W.cell? ⟨w.heap.size, 2, none⟩ = some (.slice ap arms.length ac) := cell_of hbk rfl
  have hmp : MpI W (w.heap.size + 1) 0 (stV st0) (fun c => stV (waitI [] c)) (onI []) := by
    have := mp_new (w.alloc (.cells #[.int .i64 id, .bool aw, .slice ap arms.length ac, .slice hp held.length hc] 53)) (stV st0)
    rw [World.size_alloc, hW] at this
    exact this.ext (fun c => rfl) (fun c => rfl)
  have HM : Bx (MpI W (w.heap.size + 1) 0 (stV st0) (fun c => stV (waitI [] c)) (onI []) ∧ Below w.heap.size w W) := ⟨hmp, hb⟩
  rw [← hW] at hc2
  have HW : Bx (_ = W) := ⟨hW⟩
  clear hW hbk h hmp hb
  go_enter Try.func39, Try.ntmps39
  go_wp2
  clear hmm hc2
  go_loopg [11] (arms.length + 1) (fun k v wr => ∃ i n : Nat, k = arms.length + 1 - i ∧ i ≤ arms.length ∧ v = .int .i64 i ∧ Bx (n ≤ i ∧ MpI wr (w.heap.size + 1) n (stV st0) (fun c => stV (waitI (arms.take i) c)) (onI (arms.take i)) ∧ Below w.heap.size w wr))
  case atStart => exact ⟨0, 0, by simp, by omega, rfl, ⟨Nat.le_refl _, by rw [HW.out]; exact HM.out.1, by rw [HW.out]; exact HM.out.2⟩⟩
  case round =>
    obtain ⟨i, n, hk, hil, rfl, HR⟩ := hrel
    clear HM
    by_cases hlt : i < arms.length
    · obtain ⟨b, o, rfl, h64, hcl⟩ := HA.out.at_ i hlt
      have hbr := HR.out.2.2
      obtain ⟨c0, c1⟩ := hcl wr hbr
      have HT : Bx (arms.take (i + 1) = arms.take i ++ [arms[i]]) := ⟨List.take_succ_eq_append_getElem hlt⟩
      have HI : Bx (I64 arms[i].chan) := ⟨h64⟩
      clear hcl HA h64
      generalize arms[i] = am at *
      obtain ⟨mc, ms⟩ := am
      simp only at c0 c1 HI
      generalize arms.take i = pre at *
      obtain ⟨X, hX⟩ : ∃ X, wr.alloc (.cells #[.int .i64 mc, .bool ms] 58) = X := ⟨_, rfl⟩
      have hbX : Below wr.heap.size wr X := by rw [← hX]; exact below1 _ _
      have hkX : X.heap[wr.heap.size]? = some (.cells #[.int .i64 mc, .bool ms] 58 (0, 0)) := by rw [← hX]; exact World.alloc_heap_new _ _
      have hzX : X.heap.size = wr.heap.size + 1 := by rw [← hX]; simp
      have hbw : Below w.heap.size w X := hbr.trans (hbX.mono hbr.size)
      have hmX := HR.out.2.1.below hbX
      by_cases h0 : mc = 0
      · subst h0
        have HF : Bx (n ≤ i + 1 ∧ MpI X (w.heap.size + 1) n (stV st0) (fun c => stV (waitI (arms.take (i + 1)) c)) (onI (arms.take (i + 1))) ∧ Below w.heap.size w X) := ⟨by have := HR.out.1; omega, by rw [HT.out]; exact hmX.ext (fun c => (wait_nil pre ⟨0, ms⟩ rfl c).1) (fun c => (wait_nil pre ⟨0, ms⟩ rfl c).2), hbw⟩
        have d0 : X.cell? ⟨wr.heap.size, 0, none⟩ = some (.int .i64 0) := cell_of hkX rfl
        rw [← hX] at d0 HF
        clear hX hkX hmX hbX HR hbw hbr hzX
        go_wp2
        go_roundg (arms.length + 1 - (i + 1))
        case measure => omega
        case rel => exact ⟨i + 1, n, rfl, by omega, by simp, HF⟩
      · have g0 : (mc != 0) = true := by simpa using h0
        have hlk := hmX.look Try.underlying65 Try.zeroValue72 HI.out
        have haw := waitF_awake mc pre st0 rfl
        have hsv : stV (waitI pre mc) = .agg #[.bool false, .bool (waitI pre mc).sends, .bool (waitI pre mc).recvs] := by
          unfold stV
          rw [show (waitI pre mc).awake = false from haw]
        rw [hsv] at hlk
        generalize hys : (waitI pre mc).sends = ys at *
        generalize hyr : (waitI pre mc).recvs = yr at *
        obtain ⟨Y, hY⟩ : ∃ Y, X.alloc (.cells #[.bool false, .bool ys, .bool yr] 72) = Y := ⟨_, rfl⟩
        have hbY : Below X.heap.size X Y := by rw [← hY]; exact below1 _ _
        have hkY : Y.heap[X.heap.size]? = some (.cells #[.bool false, .bool ys, .bool yr] 72 (0, 0)) := by rw [← hY]; exact World.alloc_heap_new _ _
        have hkX' := (hbY.block wr.heap.size (by omega)).trans hkX
        have d0 : X.cell? ⟨wr.heap.size, 0, none⟩ = some (.int .i64 mc) := cell_of hkX rfl
        have e0 : Y.cell? ⟨wr.heap.size, 0, none⟩ = some (.int .i64 mc) := cell_of hkX' rfl
        have e1 : Y.cell? ⟨wr.heap.size, 1, none⟩ = some (.bool ms) := cell_of hkX' rfl
        rw [hzX] at hkY
        have f1 : Y.cell? ⟨wr.heap.size + 1, 1, none⟩ = some (.bool ys) := cell_of hkY rfl
        have f2 : Y.cell? ⟨wr.heap.size + 1, 2, none⟩ = some (.bool yr) := cell_of hkY rfl
        have hmY := hmX.below hbY
        have hn := HR.out.1
        obtain ⟨W2, hput, hm2, hg2⟩ := hmY.put Try.underlying65 HI.out (by unfold maxLen; omega) (.agg #[.bool false, .bool (ys || ms), .bool (yr || !ms)])
        have hbwY : Below w.heap.size w Y := hbw.trans (hbY.mono hbw.size)
        have HF : Bx (n + 1 ≤ i + 1 ∧ MpI W2 (w.heap.size + 1) (n + 1) (stV st0) (fun c => stV (waitI (arms.take (i + 1)) c)) (onI (arms.take (i + 1))) ∧ Below w.heap.size w W2) := ⟨by omega, by
            rw [HT.out]
            refine hm2.ext (fun c => ?_) (fun c => on_upd pre ⟨mc, ms⟩ h0 c)
            rw [wait_upd pre ⟨mc, ms⟩ h0 c]
            simp only [hys, hyr], hbwY.grown hg2 hbwY.size (fun r e => by cases e; omega)⟩
        rw [← hY, ← hX] at hput e0 e1 f1 f2
        rw [← hX] at hlk d0
        clear hX hY hkX hkY hkX' hmX hmY hm2 hg2 hbX hbY HR hbw hbwY hbr hzX hsv haw hys hyr h0
        cases ys <;> cases yr <;> cases ms
        all_goals
          simp only [Bool.or_true, Bool.or_false, Bool.true_or, Bool.false_or, Bool.not_true, Bool.not_false] at hput
          go_wp2
          go_roundg (arms.length + 1 - (i + 1))
          case measure => omega
          case rel => exact ⟨i + 1, n + 1, rfl, by omega, by simp, HF⟩
    · have hie : i = arms.length := by omega
      subst hie
      rw [List.take_length] at HR
      go_wp2
      go_ret
      exact ⟨_, n, rfl, HR.out.2.1, HR.out.1, by omega, HR.out.2.2⟩
end Go.Proofs.Ytjabdhmkibahlaa
