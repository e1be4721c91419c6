import Derived.Test.YtjfabholalnbeabCEB
namespace Go.Proofs.Ytjfabholalnbeab
open Go.RowKit Go.MapKept Go.ChangeMaps Go.WideShapes
set_option linter.unusedVariables false
set_option linter.unusedSimpArgs false

/-! ### who holds what is not opened yet -/
def hoStep (A : Int → List Int) (id : Int) (H : Int → Option Int) (c : Int) : Int → Option Int := if !(A c).isEmpty && !(H c).isSome then upd H c (some id) else H
def hoHeld (A : Int → List Int) (id : Int) (H : Int → Option Int) (l : List Int) : Int → Option Int := l.foldl (hoStep A id) H
def hoF (f : Int → Ag) (A : Int → List Int) (H : Int → Option Int) (ids : List Int) : Int → Option Int := ids.foldl (fun H id => hoHeld A id H (f id).held) H
def hoD (f : Int → Ag) (A : Int → List Int) (ids : List Int) : Int → Option Int := hoF f A (fun _ => none) ids
theorem hoHeld_snoc (A : Int → List Int) (id : Int) (H : Int → Option Int) (l : List Int) (c : Int) : hoHeld A id H (l ++ [c]) = hoStep A id (hoHeld A id H l) c := by simp [hoHeld, List.foldl_append]
theorem hoF_snoc (f : Int → Ag) (A : Int → List Int) (H : Int → Option Int) (l : List Int) (id : Int) : hoF f A H (l ++ [id]) = hoHeld A id (hoF f A H l) (f id).held := by simp [hoF, List.foldl_append]
def oV (o : Option Int) : Value := .int .i64 (o.getD 0)
/-- a map of who holds what -/
def HoM (W : World) (mb n : Nat) (H : Int → Option Int) : Prop := MpI W mb n (.int .i64 0) (fun c => oV (H c)) (fun c => (H c).isSome)
theorem HoM.put {W w' : World} {mb n : Nat} {H : Int → Option Int} {c id : Int} (h : MpI w' mb n (.int .i64 0) (upd (fun c => oV (H c)) c (.int .i64 id)) (upd (fun c => (H c).isSome) c true)) : HoM w' mb n (upd H c (some id)) :=
  h.ext (fun d => by
    by_cases e : d = c
    · subst e; rw [upd_same, upd_same]; rfl
    · rw [upd_other _ _ e, upd_other _ _ e]) (fun d => by
    by_cases e : d = c
    · subst e; rw [upd_same, upd_same]; rfl
    · rw [upd_other _ _ e, upd_other _ _ e])
def seV (wm am ym : Nat) : Value := .agg #[.map (some wm), .map (some am), .map (some ym)]
/-- the search, in every later world that keeps its maps -/
structure SeR (W : World) (f : Int → Ag) (wm nw : Nat) (M : Int → Value) (hw : Int → Bool) (am na : Nat) (V : Int → Value) (A : Int → List Int) : Prop where
  who : MpI W wm nw zV M hw
  val : WhoV W f M
  few : ∀ k, (f k).held.length ≤ 8589934592
  at_ : MpI W am na nV V (fun c => !(A c).isEmpty)
theorem SeR.below {W X : World} {f : Int → Ag} {wm nw am na : Nat} {M V : Int → Value} {hw : Int → Bool} {A : Int → List Int} (h : SeR W f wm nw M hw am na V A) (hb : Below W.heap.size W X) : SeR X f wm nw M hw am na V A := ⟨h.who.below hb, h.val.later hb, h.few, h.at_.below hb⟩
theorem HoM.put2 {W : World} {mb n : Nat} {H : Int → Option Int} (h : HoM W mb n H) {c : Int} (hc : I64 c) (hn : n < maxLen) (id : Int) : ∃ w', (Instr.mapUpdate 84 (.map (some mb)) (.int .i64 c) (.int .i64 id)).run Try.prog W = .ok () w' ∧ HoM w' mb (n + 1) (upd H c (some id)) ∧ W.grownBy w' (some mb) := by
  obtain ⟨w', h1, h2, h3⟩ := MpI.put h Try.underlying84 hc hn (.int .i64 id)
  exact ⟨w', h1, HoM.put (W := W) h2, h3⟩
theorem HoM.look2 {W : World} {mb n : Nat} {H : Int → Option Int} (h : HoM W mb n H) {t e : TypeId} (ht : Try.prog.underlying t = some (.map 3 e)) (hz : ∀ w, (zeroValue e).run Try.prog w = .ok (.int .i64 0) w) {c : Int} (hc : I64 c) : (Instr.lookup t (.map (some mb)) (.int .i64 c) true).run Try.prog W = .ok (.tuple #[.int .i64 ((H c).getD 0), .bool (H c).isSome]) W := MpI.look2 h ht hz hc
theorem ag_f3 (W : World) (a b c d : Value) : (Instr.field 32 (.agg #[a, b, c, d]) 3).run Try.prog W = .ok d W := by
  simp [Instr.field, go_sem, Try.underlying32, asAgg]
/-- all stays but one map -/
structure KMp (mb : Nat) (A X : World) : Prop where
  os : X.os = A.os
  tape : X.tape = A.tape
  output : X.output = A.output
  size : A.heap.size ≤ X.heap.size
  keep : ∀ b, b < A.heap.size → b ≠ mb → X.heap[b]? = A.heap[b]?
theorem KMp.below {mb : Nat} {A X : World} (h : Below A.heap.size A X) : KMp mb A X := ⟨h.os, h.tape, h.output, h.size, fun b hb _ => h.block b hb⟩
theorem KMp.refl (mb : Nat) (A : World) : KMp mb A A := KMp.below (Below.refl _ _)
theorem KMp.trans {mb : Nat} {A X Y : World} (h : KMp mb A X) (g : KMp mb X Y) : KMp mb A Y := ⟨g.os.trans h.os, g.tape.trans h.tape, g.output.trans h.output, Nat.le_trans h.size g.size, fun b hb hn => (g.keep b (Nat.lt_of_lt_of_le hb h.size) hn).trans (h.keep b hb hn)⟩
theorem KMp.grown {mb : Nat} {A X : World} (g : A.grownBy X (some mb)) : KMp mb A X := ⟨g.os, g.tape, g.output, g.size, fun b hb hn => g.block b hb (fun e => hn (by cases e; rfl))⟩
/-- a new block may turn, too -/
theorem KMp.over {mb r : Nat} {A X Y : World} (h : KMp mb A X) (g : X.grownBy Y (some r)) (hr : A.heap.size ≤ r) : KMp mb A Y := ⟨g.os.trans h.os, g.tape.trans h.tape, g.output.trans h.output, Nat.le_trans h.size g.size, fun b hb hn => (g.block b (Nat.lt_of_lt_of_le hb h.size) (fun e => by cases e; omega)).trans (h.keep b hb hn)⟩
theorem KMp.low {mb : Nat} {w A X : World} (h : KMp mb A X) (hb : Below w.heap.size w A) (hm : w.heap.size ≤ mb) : Below w.heap.size w X := ⟨h.os.trans hb.os, h.tape.trans hb.tape, h.output.trans hb.output, Nat.le_trans hb.size h.size, fun b hbl => (h.keep b (Nat.lt_of_lt_of_le hbl hb.size) (by omega)).trans (hb.block b hbl)⟩
theorem KMp.map {mb m n : Nat} {A X : World} {z : Value} {M : Int → Value} {hs : Int → Bool} (h : KMp mb A X) (hm : MpI A m n z M hs) (hn : m ≠ mb) : MpI X m n z M hs := hm.same (h.keep m hm.lt hn)
set_option maxRecDepth 100000 in
set_option maxHeartbeats 4000000 in
theorem holders_any (w : World) (f : Int → Ag) (wm nw am na ym : Nat) (M V : Int → Value) (hw : Int → Bool) (A : Int → List Int) (hs : SeR w f wm nw M hw am na V A) (q : Option Addr) (d : Nat) (ids : List Int) (hq : IntsR w q d ids) (hl : ids.length ≤ 4096) :
    Calls Try.prog 39 #[seV wm am ym, .slice q ids.length d] w fun e w' => ∃ mb n, e = .returned (.map (some mb)) ∧ HoM w' mb n (hoD f A ids) ∧ n ≤ 4096 * 8589934592 ∧ w.heap.size ≤ mb ∧ Below w.heap.size w w' := by
  have q1 := hq.len
  have q2 := hq.max
  unfold maxLen at q2
  have HS : Bx (SeR w f wm nw M hw am na V A) := ⟨hs⟩
  have HQ : Bx (IntsR w q d ids) := ⟨hq⟩
  have hmm := @run_makeMap Try.prog
  obtain ⟨W, hW⟩ : ∃ W, (w.alloc (.cells #[.map (some wm), .map (some am), .map (some ym)] 80)).alloc (.map #[] 0) = W := ⟨_, rfl⟩
  have hb : Below w.heap.size w W := by rw [← hW]; exact two_new _ _ _
  have hbk : W.heap[w.heap.size]? = some (.cells #[.map (some wm), .map (some am), .map (some ym)] 80 (0, 0)) := by
    rw [← hW]; exact (Below.heap_alloc _ _ _ (by simp)).trans (World.alloc_heap_new _ _)
  have hm0 : HoM W (w.heap.size + 1) 0 (hoD f A []) := by
    have := mp_new (w.alloc (.cells #[.map (some wm), .map (some am), .map (some ym)] 80)) (.int .i64 0)
    rw [World.size_alloc, hW] at this
    exact this
  have HI : Bx (HoM W (w.heap.size + 1) 0 (hoD f A []) ∧ Below w.heap.size w W ∧ W.heap[w.heap.size]? = some (.cells #[.map (some wm), .map (some am), .map (some ym)] 80 (0, 0))) := ⟨hm0, hb, hbk⟩
  have HWE : Bx (_ = W) := ⟨hW⟩
  obtain ⟨sb, hsb⟩ : ∃ sb, w.heap.size = sb := ⟨_, rfl⟩
  have HSB : Bx (w.heap.size = sb) := ⟨hsb⟩
  rw [hsb] at HI
  clear hs hq hW hb hbk hm0 hsb
  simp only [seV]
  go_enter Try.func39, Try.ntmps39
  go_wp2
  rw [HWE.out]
  clear hmm
  rw [HSB.out]
  go_loopg [17] (ids.length + 1) (fun g v wr => ∃ i n : Nat, g = ids.length + 1 - i ∧ i ≤ ids.length ∧ v = .int .i64 (i : Nat) ∧ Bx (n ≤ i * 8589934592 ∧ HoM wr (sb + 1) n (hoD f A (ids.take i)) ∧ Below sb w wr ∧ wr.heap[sb]? = some (.cells #[.map (some wm), .map (some am), .map (some ym)] 80 (0, 0))))
  case atStart => exact ⟨0, 0, by simp, by omega, rfl, ⟨Nat.zero_le _, HI.out⟩⟩
  case round =>
    obtain ⟨i, n, hg, hil, rfl, HR⟩ := hrel
    clear HI HWE
    by_cases hlt : i < ids.length
    · obtain ⟨qb, qo, rfl, h64, hcl⟩ := HQ.out.at_ i hlt
      obtain ⟨hn0, hho, hbr, hkb⟩ := HR.out
      have hbr' : Below w.heap.size w wr := by rw [HSB.out]; exact hbr
      have c0 := hcl wr hbr'
      have hsr := HS.out.below hbr'
      have hlk := hsr.who.look Try.underlying61 Try.zeroValue32 h64
      obtain ⟨ap, ac, hp, hc, hMv, hA⟩ := HS.out.val ids[i]
      rw [hMv] at hlk
      simp only [agV] at hlk
      have s0 : wr.cell? ⟨sb, 0, none⟩ = some (.map (some wm)) := cell_of hkb rfl
      have hfew := hsr.few ids[i]
      have k1 := hA.held.len
      have k2 := hA.held.max
      unfold maxLen at k2
      have HT : Bx (hoD f A (ids.take (i + 1)) = hoHeld A ids[i] (hoD f A (ids.take i)) (f ids[i]).held) := ⟨by rw [List.take_succ_eq_append_getElem hlt, hoD, hoF_snoc]; rfl⟩
      have HW1 : Bx (Below sb w wr ∧ IntsR w hp hc (f ids[i]).held) := ⟨hbr, hA.held⟩
      have HI : Bx (HoM wr (sb + 1) n (hoD f A (ids.take i)) ∧ wr.heap[sb]? = some (.cells #[.map (some wm), .map (some am), .map (some ym)] 80 (0, 0))) := ⟨hho, hkb⟩
      have HN0 : Bx (n ≤ i * 8589934592 ∧ i ≤ 4096) := ⟨hn0, by omega⟩
      have hid := h64
      clear hcl hsr hMv hA HR hho hbr hbr' hkb hn0
      generalize ids[i] = id at *
      generalize (f id).held = held at *
      generalize (f id).arms.length = al at *
      generalize (f id).id = aid at *
      generalize (f id).awake = aaw at *
      have HI2 : Bx (Below sb w wr) := ⟨HW1.out.1⟩
      have hf3 := ag_f3
      go_wp2
      clear hf3
      go_loopg [27] (held.length + 1) (fun g v wr => ∃ j m : Nat, g = held.length + 1 - j ∧ j ≤ held.length ∧ v = .int .i64 (j : Nat) ∧ Bx (m ≤ n + j ∧ HoM wr (sb + 1) m (hoHeld A id (hoD f A (ids.take i)) (held.take j)) ∧ Below sb w wr ∧ wr.heap[sb]? = some (.cells #[.map (some wm), .map (some am), .map (some ym)] 80 (0, 0))))
      case atStart => exact ⟨0, n, by simp, by omega, rfl, ⟨by omega, HI.out.1, HI2.out, HI.out.2⟩⟩
      case round =>
        obtain ⟨j, m, hgj, hjl, rfl, HR⟩ := hrel
        clear HI HI2
        by_cases hltj : j < held.length
        · obtain ⟨xb, xo, rfl, hc64, hcl⟩ := HW1.out.2.at_ j hltj
          obtain ⟨hm0, hho, hbr, hkb⟩ := HR.out
          have hbr' : Below w.heap.size w wr := by rw [HSB.out]; exact hbr
          have x0 := hcl wr hbr'
          have HTJ : Bx (hoHeld A id (hoD f A (ids.take i)) (held.take (j + 1)) = hoStep A id (hoHeld A id (hoD f A (ids.take i)) (held.take j)) held[j]) := ⟨by rw [List.take_succ_eq_append_getElem hltj, hoHeld_snoc]⟩
          have s1 : wr.cell? ⟨sb, 1, none⟩ = some (.map (some am)) := cell_of hkb rfl
          have hl1 := (HS.out.below hbr').at_.look2 Try.underlying77 Try.zeroValue25 hc64
          have hl2 := hho.look2 Try.underlying84 Try.zeroValue3 hc64
          have HB : Bx (Below sb w wr ∧ wr.heap[sb]? = some (.cells #[.map (some wm), .map (some am), .map (some ym)] 80 (0, 0))) := ⟨hbr, hkb⟩
          have HH : Bx (HoM wr (sb + 1) m (hoHeld A id (hoD f A (ids.take i)) (held.take j))) := ⟨hho⟩
          have hmN : m < 40000000000000 := by have := HN0.out; omega
          have HM0 : Bx (m ≤ n + j) := ⟨hm0⟩
          clear hcl HR hbr hbr' hkb hho hm0
          generalize held[j] = c at *
          generalize hoHeld A id (hoD f A (ids.take i)) (held.take j) = H at *
          cases hA1 : (A c).isEmpty with
          | true =>
            have HE : Bx (hoStep A id H c = H) := ⟨by unfold hoStep; rw [hA1]; rfl⟩
            rw [hA1] at hl1
            simp only [Bool.not_true] at hl1
            go_wp2
            go_roundg (held.length + 1 - (j + 1))
            case measure => omega
            case rel => exact ⟨j + 1, m, rfl, by omega, by simp, ⟨by have := HM0.out; omega, by rw [HTJ.out, HE.out]; exact HH.out, HB.out⟩⟩
          | false =>
            rw [hA1] at hl1
            simp only [Bool.not_false] at hl1
            cases hH1 : (H c).isSome with
            | true =>
              have HE : Bx (hoStep A id H c = H) := ⟨by unfold hoStep; rw [hA1, hH1]; rfl⟩
              rw [hH1] at hl2
              go_wp2
              go_roundg (held.length + 1 - (j + 1))
              case measure => omega
              case rel => exact ⟨j + 1, m, rfl, by omega, by simp, ⟨by have := HM0.out; omega, by rw [HTJ.out, HE.out]; exact HH.out, HB.out⟩⟩
            | false =>
              have HE : Bx (hoStep A id H c = upd H c (some id)) := ⟨by unfold hoStep; rw [hA1, hH1]; rfl⟩
              rw [hH1] at hl2
              obtain ⟨w2, hput, hm2, hg2⟩ := HH.out.put2 hc64 (by unfold maxLen; omega) id
              have HF : Bx (HoM w2 (sb + 1) (m + 1) (upd H c (some id)) ∧ Below sb w w2 ∧ w2.heap[sb]? = some (.cells #[.map (some wm), .map (some am), .map (some ym)] 80 (0, 0))) := ⟨hm2, by
                have h1 : Below w.heap.size w wr := by rw [HSB.out]; exact HB.out.1
                have h2 := h1.grown hg2 h1.size (fun r e => by cases e; rw [HSB.out]; omega)
                rw [HSB.out] at h2
                exact h2, (hg2.block sb (Array.getElem?_eq_some_iff.1 HB.out.2).1 (fun e => by injection e with e; omega)).trans HB.out.2⟩
              clear hm2 hg2 HB HH
              go_wp2
              go_roundg (held.length + 1 - (j + 1))
              case measure => omega
              case rel => exact ⟨j + 1, m + 1, rfl, by omega, by simp, ⟨by have := HM0.out; omega, by rw [HTJ.out, HE.out]; exact HF.out.1, HF.out.2⟩⟩
        · have hje : j = held.length := by omega
          subst hje
          rw [List.take_length] at HR
          have HF : Bx (m ≤ (i + 1) * 8589934592 ∧ HoM wr (sb + 1) m (hoD f A (ids.take (i + 1))) ∧ Below sb w wr ∧ wr.heap[sb]? = some (.cells #[.map (some wm), .map (some am), .map (some ym)] 80 (0, 0))) := ⟨by have := HR.out.1; have := HN0.out; rw [Nat.add_mul]; omega, by rw [HT.out]; exact HR.out.2.1, HR.out.2.2⟩
          clear HR
          go_wp2
          go_roundg (ids.length + 1 - (i + 1))
          case measure => omega
          case rel => exact ⟨i + 1, m, rfl, by omega, by simp, HF⟩
    · have hie : i = ids.length := by omega
      subst hie
      rw [List.take_length] at HR
      have hn := HR.out.1
      go_wp2
      go_ret
      exact ⟨_, n, rfl, HR.out.2.1, Nat.le_trans hn (Nat.mul_le_mul_right 8589934592 hl), by rw [HSB.out]; omega, by rw [HSB.out]; exact HR.out.2.2.1⟩
end Go.Proofs.Ytjfabholalnbeab
namespace Go.Proofs.Ytjfabholalnbeab
open Go.RowKit Go.MapKept Go.ChangeMaps Go.WideShapes
set_option linter.unusedVariables false
set_option linter.unusedSimpArgs false

def hdV (h : Hd) : Value := .agg #[.int .i64 h.chan, .bool h.send]
set_option maxRecDepth 100000 in
theorem worldly_any (w : World) (h : Hd) : Calls Try.prog 53 #[hdV h] w fun e w' => e = .returned (.bool (wldI h)) ∧ Below w.heap.size w w' := by
  obtain ⟨ch, sd⟩ := h
  simp only [hdV]
  have HB : Bx (Below w.heap.size w (w.alloc (.cells #[.int .i64 ch, .bool sd] 53))) := ⟨below1 _ _⟩
  have hk : (w.alloc (.cells #[.int .i64 ch, .bool sd] 53)).heap[w.heap.size]? = some (.cells #[.int .i64 ch, .bool sd] 53 (0, 0)) := World.alloc_heap_new _ _
  have c0 : (w.alloc (.cells #[.int .i64 ch, .bool sd] 53)).cell? ⟨w.heap.size, 0, none⟩ = some (.int .i64 ch) := cell_of hk rfl
  have c1 : (w.alloc (.cells #[.int .i64 ch, .bool sd] 53)).cell? ⟨w.heap.size, 1, none⟩ = some (.bool sd) := cell_of hk rfl
  clear hk
  by_cases h1 : ch = 1
  · subst h1
    have HE : Bx (wldI ⟨1, sd⟩ = !sd) := ⟨wld_1 sd⟩
    cases sd <;> (
      go_enter Try.func53, Try.ntmps53
      go_wp2
      go_ret
      exact ⟨by rw [HE.out]; rfl, HB.out⟩)
  · by_cases h2 : ch = 2
    · subst h2
      have HE : Bx (wldI ⟨2, sd⟩ = sd) := ⟨wld_2 sd⟩
      clear h1
      cases sd <;> (
        go_enter Try.func53, Try.ntmps53
        go_wp2
        go_ret
        exact ⟨by rw [HE.out]; rfl, HB.out⟩)
    · have h1' : (ch == 1) = false := by simpa using h1
      have h2' : (ch == 2) = false := by simpa using h2
      have HE : Bx (wldI ⟨ch, sd⟩ = false) := ⟨wld_no h1' h2' sd⟩
      clear h1 h2
      go_enter Try.func53, Try.ntmps53
      go_wp2
      go_ret
      exact ⟨by rw [HE.out]; rfl, HB.out⟩
def otI (ids : List Int) (id : Int) : Option Int := ids.find? (fun x => x != id)
def oT (o : Option Int) : Value := .tuple #[.int .i64 (o.getD 0), .bool o.isSome]
set_option maxRecDepth 100000 in
theorem other_any (w : World) (q : Option Addr) (d : Nat) (ids : List Int) (id : Int) (h : IntsR w q d ids) : Calls Try.prog 54 #[.slice q ids.length d, .int .i64 id] w fun e w' => e = .returned (oT (otI ids id)) ∧ w' = w := by
  have q1 := h.len
  have q2 := h.max
  unfold maxLen at q2
  have HQ : Bx (IntsR w q d ids) := ⟨h⟩
  clear h
  go_enter Try.func54, Try.ntmps54
  go_wp2
  go_loopg [10] (ids.length + 1) (fun g v wr => ∃ i : Nat, g = ids.length + 1 - i ∧ i ≤ ids.length ∧ v = .int .i64 (i : Nat) ∧ Bx (otI (ids.drop i) id = otI ids id ∧ wr = w))
  case atStart => exact ⟨0, by simp, by omega, rfl, ⟨by simp, rfl⟩⟩
  case round =>
    obtain ⟨i, hg, hil, rfl, HR⟩ := hrel
    by_cases hlt : i < ids.length
    · obtain ⟨qb, qo, rfl, h64, hcl⟩ := HQ.out.at_ i hlt
      have c0 := hcl wr (by rw [HR.out.2]; exact Below.refl _ _)
      have hd : ids.drop i = ids[i] :: ids.drop (i + 1) := List.drop_eq_getElem_cons hlt
      have hR := HR.out.1
      rw [hd, otI, List.find?_cons] at hR
      have HW : Bx (wr = w) := ⟨HR.out.2⟩
      clear hcl HR hd
      by_cases he : ids[i] = id
      · have HR2 : Bx (otI (ids.drop (i + 1)) id = otI ids id) := ⟨by
          rw [he] at hR
          simpa [otI] using hR⟩
        rw [he] at c0
        clear hR
        go_wp2
        go_roundg (ids.length + 1 - (i + 1))
        case measure => omega
        case rel => exact ⟨i + 1, rfl, by omega, by simp, ⟨HR2.out, HW.out⟩⟩
      · have he' : (ids[i] != id) = true := by simpa using he
        rw [he'] at hR
        have HE : Bx (oT (otI ids id) = .tuple #[.int .i64 ids[i], .bool true]) := ⟨by rw [← hR]; rfl⟩
        clear hR
        go_wp2
        exact bodyPost_ret (v := .tuple #[.int .i64 ids[i], .bool true]) (by simp [results, Try.results54, go_sem]) rfl ⟨by rw [HE.out], HW.out⟩
    · have hie : i = ids.length := by omega
      subst hie
      have HE : Bx (oT (otI ids id) = .tuple #[.int .i64 0, .bool false]) := ⟨by rw [← HR.out.1]; simp [otI, oT]⟩
      have HW : Bx (wr = w) := ⟨HR.out.2⟩
      clear HR
      go_wp2
      exact bodyPost_ret (v := .tuple #[.int .i64 0, .bool false]) (by simp [results, Try.results54, go_sem]) rfl ⟨by rw [HE.out], HW.out⟩
/-! ### an agent's link -/
def lkD (a : Ag) (wk : Hd → Option Int) : Option Lk := a.arms.findSome? fun h => (wk h).map fun i => ⟨i, a.id, h.chan⟩
def lk0 (o : Option Lk) : Lk := o.getD ⟨0, 0, 0⟩
def lT (o : Option Lk) : Value := .tuple #[lkV (lk0 o), .bool o.isSome]
set_option maxRecDepth 100000 in
set_option maxHeartbeats 2000000 in
theorem link_any (w : World) (a : Ag) (ap hp : Option Addr) (ac hc : Nat) (h : AgR w a ap ac hp hc) (F : Nat) (caps : Array Value) (wk : Hd → Option Int) (heg : ∀ args w, (callFunc F args).run Try.prog w = .ok (.enter F args) w)
    (hF : ∀ X, Below w.heap.size w X → ∀ x ∈ a.arms, Calls Try.prog F (#[hdV x] ++ caps) X fun e w' => e = .returned (oT (wk x)) ∧ Below X.heap.size X w') :
    Calls Try.prog 51 #[agV a ap ac hp hc, .func (.func F) #[] caps] w fun e w' => e = .returned (lT (lkD a wk)) ∧ Below w.heap.size w w' := by
  obtain ⟨id, aw, arms, held⟩ := a
  have HA : Bx (HdsR w ap ac arms) := ⟨h.arms⟩
  have h1 := HA.out.len
  have h2 := HA.out.max
  unfold maxLen at h2
  have HF : Bx (∀ X, Below w.heap.size w X → ∀ x ∈ arms, Calls Try.prog F (#[hdV x] ++ caps) X fun e w' => e = .returned (oT (wk x)) ∧ Below X.heap.size X w') := ⟨hF⟩
  simp only [agV]
  obtain ⟨W, hW⟩ : ∃ W, (w.alloc (.cells #[.int .i64 id, .bool aw, .slice ap arms.length ac, .slice hp held.length hc] 32)).alloc (.cells #[.int .i64 0, .int .i64 0, .int .i64 0] 38) = W := ⟨_, rfl⟩
  have hb : Below w.heap.size w W := by rw [← hW]; exact two_new _ _ _
  have hk0 : W.heap[w.heap.size]? = some (.cells #[.int .i64 id, .bool aw, .slice ap arms.length ac, .slice hp held.length hc] 32 (0, 0)) := by
    rw [← hW]; exact (Below.heap_alloc _ _ _ (by simp)).trans (World.alloc_heap_new _ _)
  have hk1 : W.heap[w.heap.size + 1]? = some (.cells #[.int .i64 0, .int .i64 0, .int .i64 0] 38 (0, 0)) := by
    have := World.alloc_heap_new (w.alloc (.cells #[.int .i64 id, .bool aw, .slice ap arms.length ac, .slice hp held.length hc] 32)) (.cells #[.int .i64 0, .int .i64 0, .int .i64 0] 38)
    rw [World.size_alloc, hW] at this
    exact this
  have c2 : W.cell? ⟨w.heap.size, 2, none⟩ = some (.slice ap arms.length ac) := cell_of hk0 rfl
  have HI : Bx (Below w.heap.size w W ∧ W.heap[w.heap.size]? = some (.cells #[.int .i64 id, .bool aw, .slice ap arms.length ac, .slice hp held.length hc] 32 (0, 0)) ∧ W.heap[w.heap.size + 1]? = some (.cells #[.int .i64 0, .int .i64 0, .int .i64 0] 38 (0, 0))) := ⟨hb, hk0, hk1⟩
  have HWE : Bx (_ = W) := ⟨hW⟩
  rw [← hW] at c2
  clear h hF hW hb hk0 hk1
  go_enter Try.func51, Try.ntmps51
  go_wp2
  rw [HWE.out]
  go_loopg [13] (arms.length + 1) (fun g v wr => ∃ i : Nat, g = arms.length + 1 - i ∧ i ≤ arms.length ∧ v = .int .i64 (i : Nat) ∧ Bx (lkD ⟨id, aw, arms.drop i, held⟩ wk = lkD ⟨id, aw, arms, held⟩ wk ∧ Below w.heap.size w wr ∧ wr.heap[w.heap.size]? = some (.cells #[.int .i64 id, .bool aw, .slice ap arms.length ac, .slice hp held.length hc] 32 (0, 0)) ∧ wr.heap[w.heap.size + 1]? = some (.cells #[.int .i64 0, .int .i64 0, .int .i64 0] 38 (0, 0))))
  case atStart => exact ⟨0, by simp, by omega, rfl, ⟨by simp, HI.out⟩⟩
  case round =>
    obtain ⟨i, hg, hil, rfl, HR⟩ := hrel
    clear HI HWE
    by_cases hlt : i < arms.length
    · obtain ⟨xb, xo, rfl, h64, hcl⟩ := HA.out.at_ i hlt
      obtain ⟨hR, hbr, hk0, hk1⟩ := HR.out
      obtain ⟨d0, d1⟩ := hcl wr hbr
      have hd : arms.drop i = arms[i] :: arms.drop (i + 1) := List.drop_eq_getElem_cons hlt
      rw [hd, lkD] at hR
      simp only [List.findSome?_cons] at hR
      have hmem : arms[i] ∈ arms := List.getElem_mem hlt
      have HC : Bx (∀ X, Below w.heap.size w X → Calls Try.prog F (#[hdV arms[i]] ++ caps) X fun e w' => e = .returned (oT (wk arms[i])) ∧ Below X.heap.size X w') := ⟨fun X hX => HF.out X hX _ hmem⟩
      clear hcl hd hmem HR
      generalize arms[i] = x at *
      obtain ⟨ch, sd⟩ := x
      simp only [hdV] at d0 d1 hR HC
      obtain ⟨Y, hY⟩ : ∃ Y, wr.alloc (.cells #[.int .i64 ch, .bool sd] 53) = Y := ⟨_, rfl⟩
      have hbY : Below wr.heap.size wr Y := by rw [← hY]; exact below1 _ _
      have hkY : Y.heap[wr.heap.size]? = some (.cells #[.int .i64 ch, .bool sd] 53 (0, 0)) := by rw [← hY]; exact World.alloc_heap_new _ _
      have e0 : Y.cell? ⟨wr.heap.size, 0, none⟩ = some (.int .i64 ch) := cell_of hkY rfl
      have e1 : Y.cell? ⟨wr.heap.size, 1, none⟩ = some (.bool sd) := cell_of hkY rfl
      have HB : Bx (Below w.heap.size w Y ∧ (∀ X, Below Y.heap.size Y X → X.heap[w.heap.size]? = some (.cells #[.int .i64 id, .bool aw, .slice (some ⟨xb, xo, none⟩) arms.length ac, .slice hp held.length hc] 32 (0, 0)) ∧ X.heap[w.heap.size + 1]? = some (.cells #[.int .i64 0, .int .i64 0, .int .i64 0] 38 (0, 0)) ∧ X.heap[wr.heap.size]? = some (.cells #[.int .i64 ch, .bool sd] 53 (0, 0)))) := ⟨hbr.trans (hbY.mono hbr.size), fun X hX => by
        have b2 := hbY.trans (hX.mono hbY.size)
        exact ⟨(b2.block _ (Array.getElem?_eq_some_iff.1 hk0).1).trans hk0, (b2.block _ (Array.getElem?_eq_some_iff.1 hk1).1).trans hk1, (hX.block _ (Array.getElem?_eq_some_iff.1 hkY).1).trans hkY⟩⟩
      have HYE : Bx (_ = Y) := ⟨hY⟩
      rw [← hY] at e0 e1
      clear hbY hkY hY hk0 hk1 hbr
      cases hwk : wk ⟨ch, sd⟩ with
      | none =>
        rw [hwk] at hR HC
        have HR2 : Bx (lkD ⟨id, aw, arms.drop (i + 1), held⟩ wk = lkD ⟨id, aw, arms, held⟩ wk) := ⟨by simpa [lkD] using hR⟩
        simp only [oT, Option.getD_none, Option.isSome_none] at HC
        clear hR hwk
        go_wp2_with (first | (rw [HYE.out]; refine Calls.mono (HC.out Y HB.out.1) ?_; rintro e w2 ⟨rfl, hb2⟩; have H2 : Bx (Below w.heap.size w w2 ∧ w2.heap[w.heap.size]? = _ ∧ w2.heap[w.heap.size + 1]? = _) := ⟨HB.out.1.trans (hb2.mono HB.out.1.size), (HB.out.2 w2 hb2).1, (HB.out.2 w2 hb2).2.1⟩; clear hb2))
        go_roundg (arms.length + 1 - (i + 1))
        case measure => omega
        case rel => exact ⟨i + 1, rfl, by omega, by simp, ⟨HR2.out, H2.out⟩⟩
      | some k =>
        rw [hwk] at hR HC
        simp only [oT, Option.getD_some, Option.isSome_some] at HC
        have HE : Bx (lT (lkD ⟨id, aw, arms, held⟩ wk) = .tuple #[.agg #[.int .i64 k, .int .i64 id, .int .i64 ch], .bool true]) := ⟨by rw [← hR]; rfl⟩
        clear hR hwk
        go_wp2_with (first | (rw [HYE.out]; refine Calls.mono (HC.out Y HB.out.1) ?_; rintro e w2 ⟨rfl, hb2⟩; obtain ⟨k0, k1, k2⟩ := HB.out.2 w2 hb2; have f0 : w2.cell? ⟨w.heap.size, 0, none⟩ = some (.int .i64 id) := cell_of k0 rfl; have f1 : w2.cell? ⟨wr.heap.size, 0, none⟩ = some (.int .i64 ch) := cell_of k2 rfl; have g0 : w2.cell? ⟨w.heap.size + 1, 0, none⟩ = some (.int .i64 0) := cell_of k1 rfl; have g1 : w2.cell? ⟨w.heap.size + 1, 1, none⟩ = some (.int .i64 0) := cell_of k1 rfl; have g2 : w2.cell? ⟨w.heap.size + 1, 2, none⟩ = some (.int .i64 0) := cell_of k1 rfl; have g3 : ∀ j, w2.frozen? ⟨w.heap.size + 1, j, none⟩ = false := (fun j => by simp [World.frozen?, k1]); have H2 : Bx (Below w.heap.size w w2 ∧ w2.heap[w.heap.size + 1]? = some (.cells #[.int .i64 0, .int .i64 0, .int .i64 0] 38 (0, 0))) := ⟨HB.out.1.trans (hb2.mono HB.out.1.size), k1⟩; clear hb2 k0 k1 k2))
        obtain ⟨Z, hZ⟩ : ∃ Z, ((w2.setCell ⟨w.heap.size + 1, 0, none⟩ (.int .i64 k)).setCell ⟨w.heap.size + 1, 1, none⟩ (.int .i64 id)).setCell ⟨w.heap.size + 1, 2, none⟩ (.int .i64 ch) = Z := ⟨_, rfl⟩
        have hZb : Z.heap[w.heap.size + 1]? = some (.cells #[.int .i64 k, .int .i64 id, .int .i64 ch] 38 (0, 0)) := by
          rw [← hZ]
          exact blk_set (blk_set (blk_set H2.out.2 0 _) 1 _) 2 _
        have hZl : Below w.heap.size w Z := by
          rw [← hZ]
          exact ((H2.out.1.setCell (p := ⟨w.heap.size + 1, 0, none⟩) (by show _ ≤ w.heap.size + 1; omega) _).setCell (p := ⟨w.heap.size + 1, 1, none⟩) (by show _ ≤ w.heap.size + 1; omega) _).setCell (p := ⟨w.heap.size + 1, 2, none⟩) (by show _ ≤ w.heap.size + 1; omega) _
        rw [hZ]
        have z0 : Z.cell? ⟨w.heap.size + 1, 0, none⟩ = some (.int .i64 k) := cell_of hZb rfl
        have z1 : Z.cell? ⟨w.heap.size + 1, 1, none⟩ = some (.int .i64 id) := cell_of hZb rfl
        have z2 : Z.cell? ⟨w.heap.size + 1, 2, none⟩ = some (.int .i64 ch) := cell_of hZb rfl
        exact bodyPost_ret (v := .tuple #[.agg #[.int .i64 k, .int .i64 id, .int .i64 ch], .bool true]) (by simp [results, Try.results51, go_sem, z0, z1, z2]) rfl ⟨by rw [HE.out], hZl⟩
    · have hie : i = arms.length := by omega
      subst hie
      obtain ⟨hR, hbr, hk0, k1⟩ := HR.out
      have HE : Bx (lT (lkD ⟨id, aw, arms, held⟩ wk) = .tuple #[.agg #[.int .i64 0, .int .i64 0, .int .i64 0], .bool false]) := ⟨by rw [← hR]; simp [lkD, lT, lk0, lkV]⟩
      have g0 : wr.cell? ⟨w.heap.size + 1, 0, none⟩ = some (.int .i64 0) := cell_of k1 rfl
      have g1 : wr.cell? ⟨w.heap.size + 1, 1, none⟩ = some (.int .i64 0) := cell_of k1 rfl
      have g2 : wr.cell? ⟨w.heap.size + 1, 2, none⟩ = some (.int .i64 0) := cell_of k1 rfl
      have g3 : ∀ j, wr.frozen? ⟨w.heap.size + 1, j, none⟩ = false := (fun j => by simp [World.frozen?, k1])
      have H2 : Bx (Below w.heap.size w wr ∧ wr.heap[w.heap.size + 1]? = some (.cells #[.int .i64 0, .int .i64 0, .int .i64 0] 38 (0, 0))) := ⟨hbr, k1⟩
      clear HR hR hk0 k1 hbr
      go_wp2
      obtain ⟨Z, hZ⟩ : ∃ Z, ((wr.setCell ⟨w.heap.size + 1, 0, none⟩ (.int .i64 0)).setCell ⟨w.heap.size + 1, 1, none⟩ (.int .i64 0)).setCell ⟨w.heap.size + 1, 2, none⟩ (.int .i64 0) = Z := ⟨_, rfl⟩
      have hZb : Z.heap[w.heap.size + 1]? = some (.cells #[.int .i64 0, .int .i64 0, .int .i64 0] 38 (0, 0)) := by
        rw [← hZ]
        exact blk_set (blk_set (blk_set H2.out.2 0 _) 1 _) 2 _
      have hZl : Below w.heap.size w Z := by
        rw [← hZ]
        exact ((H2.out.1.setCell (p := ⟨w.heap.size + 1, 0, none⟩) (by show _ ≤ w.heap.size + 1; omega) _).setCell (p := ⟨w.heap.size + 1, 1, none⟩) (by show _ ≤ w.heap.size + 1; omega) _).setCell (p := ⟨w.heap.size + 1, 2, none⟩) (by show _ ≤ w.heap.size + 1; omega) _
      rw [hZ]
      have z0 : Z.cell? ⟨w.heap.size + 1, 0, none⟩ = some (.int .i64 0) := cell_of hZb rfl
      have z1 : Z.cell? ⟨w.heap.size + 1, 1, none⟩ = some (.int .i64 0) := cell_of hZb rfl
      have z2 : Z.cell? ⟨w.heap.size + 1, 2, none⟩ = some (.int .i64 0) := cell_of hZb rfl
      exact bodyPost_ret (v := .tuple #[.agg #[.int .i64 0, .int .i64 0, .int .i64 0], .bool false]) (by simp [results, Try.results51, go_sem, z0, z1, z2]) rfl ⟨by rw [HE.out], hZl⟩
end Go.Proofs.Ytjfabholalnbeab
