import Derived.Test.YtjabdhmkibahlaaCEBa
namespace Go.Proofs.Ytjabdhmkibahlaa
open Go.RowKit Go.MapKept Go.ChangeMaps Go.WideShapes
set_option linter.unusedVariables false
set_option linter.unusedSimpArgs false

/-! ### who holds what is not opened yet -/
def hoStep (A : Int → List Int) (id : Int) (H : Int → Option Int) (c : Int) : Int → Option Int := if !(A c).isEmpty && !(H c).isSome then upd H c (some id) else H
def hoHeld (A : Int → List Int) (id : Int) (H : Int → Option Int) (l : List Int) : Int → Option Int := l.foldl (hoStep A id) H
def hoF (f : Int → Ag) (A : Int → List Int) (H : Int → Option Int) (ids : List Int) : Int → Option Int := ids.foldl (fun H id => hoHeld A id H (f id).held) H
def hoD (f : Int → Ag) (A : Int → List Int) (ids : List Int) : Int → Option Int := hoF f A (fun _ => none) ids
theorem hoHeld_snoc (A : Int → List Int) (id : Int) (H : Int → Option Int) (l : List Int) (c : Int) : hoHeld A id H (l ++ [c]) = hoStep A id (hoHeld A id H l) c := by simp [hoHeld, List.foldl_append]
theorem hoF_snoc (f : Int → Ag) (A : Int → List Int) (H : Int → Option Int) (l : List Int) (id : Int) : hoF f A H (l ++ [id]) = hoHeld A id (hoF f A H l) (f id).held := by simp [hoF, List.foldl_append]
def oV (o : Option Int) : Value := .int .i64 (o.getD 0)
/-- a map of who holds what -/
def HoM (W : World) (mb n : Nat) (H : Int → Option Int) : Prop := MpI W mb n (.int .i64 0) (fun c => oV (H c)) (fun c => (H c).isSome)
theorem HoM.put {W w' : World} {mb n : Nat} {H : Int → Option Int} {c id : Int} (h : MpI w' mb n (.int .i64 0) (upd (fun c => oV (H c)) c (.int .i64 id)) (upd (fun c => (H c).isSome) c true)) : HoM w' mb n (upd H c (some id)) :=
  h.ext (fun d => by
    by_cases e : d = c
    · subst e; rw [upd_same, upd_same]; rfl
    · rw [upd_other _ _ e, upd_other _ _ e]) (fun d => by
    by_cases e : d = c
    · subst e; rw [upd_same, upd_same]; rfl
    · rw [upd_other _ _ e, upd_other _ _ e])
def seV (wm am ym : Nat) : Value := .agg #[.map (some wm), .map (some am), .map (some ym)]
/-- the search, in every later world that keeps its maps -/
structure SeR (W : World) (f : Int → Ag) (wm nw : Nat) (M : Int → Value) (hw : Int → Bool) (am na : Nat) (V : Int → Value) (A : Int → List Int) : Prop where
  who : MpI W wm nw zV M hw
  val : WhoV W f M
  few : ∀ k, (f k).held.length ≤ 8589934592
  at_ : MpI W am na nV V (fun c => !(A c).isEmpty)
theorem SeR.below {W X : World} {f : Int → Ag} {wm nw am na : Nat} {M V : Int → Value} {hw : Int → Bool} {A : Int → List Int} (h : SeR W f wm nw M hw am na V A) (hb : Below W.heap.size W X) : SeR X f wm nw M hw am na V A := ⟨h.who.below hb, h.val.later hb, h.few, h.at_.below hb⟩
theorem HoM.put2 {W : World} {mb n : Nat} {H : Int → Option Int} (h : HoM W mb n H) {c : Int} (hc : I64 c) (hn : n < maxLen) (id : Int) : ∃ w', (Instr.mapUpdate 104 (.map (some mb)) (.int .i64 c) (.int .i64 id)).run Try.prog W = .ok () w' ∧ HoM w' mb (n + 1) (upd H c (some id)) ∧ W.grownBy w' (some mb) := by
  obtain ⟨w', h1, h2, h3⟩ := MpI.put h Try.underlying104 hc hn (.int .i64 id)
  exact ⟨w', h1, HoM.put (W := W) h2, h3⟩
theorem HoM.look2 {W : World} {mb n : Nat} {H : Int → Option Int} (h : HoM W mb n H) {t e : TypeId} (ht : Try.prog.underlying t = some (.map 3 e)) (hz : ∀ w, (zeroValue e).run Try.prog w = .ok (.int .i64 0) w) {c : Int} (hc : I64 c) : (Instr.lookup t (.map (some mb)) (.int .i64 c) true).run Try.prog W = .ok (.tuple #[.int .i64 ((H c).getD 0), .bool (H c).isSome]) W := MpI.look2 h ht hz hc
theorem ag_f3 (W : World) (a b c d : Value) : (Instr.field 53 (.agg #[a, b, c, d]) 3).run Try.prog W = .ok d W := by
  simp [Instr.field, go_sem, Try.underlying53, asAgg]
/-- all stays but one map -/
structure KMp (mb : Nat) (A X : World) : Prop where
  os : X.os = A.os
  tape : X.tape = A.tape
  output : X.output = A.output
  size : A.heap.size ≤ X.heap.size
  keep : ∀ b, b < A.heap.size → b ≠ mb → X.heap[b]? = A.heap[b]?
theorem KMp.below {mb : Nat} {A X : World} (h : Below A.heap.size A X) : KMp mb A X := ⟨h.os, h.tape, h.output, h.size, fun b hb _ => h.block b hb⟩
theorem KMp.refl (mb : Nat) (A : World) : KMp mb A A := KMp.below (Below.refl _ _)
theorem KMp.trans {mb : Nat} {A X Y : World} (h : KMp mb A X) (g : KMp mb X Y) : KMp mb A Y := ⟨g.os.trans h.os, g.tape.trans h.tape, g.output.trans h.output, Nat.le_trans h.size g.size, fun b hb hn => (g.keep b (Nat.lt_of_lt_of_le hb h.size) hn).trans (h.keep b hb hn)⟩
theorem KMp.grown {mb : Nat} {A X : World} (g : A.grownBy X (some mb)) : KMp mb A X := ⟨g.os, g.tape, g.output, g.size, fun b hb hn => g.block b hb (fun e => hn (by cases e; rfl))⟩
/-- a new block may turn, too -/
theorem KMp.over {mb r : Nat} {A X Y : World} (h : KMp mb A X) (g : X.grownBy Y (some r)) (hr : A.heap.size ≤ r) : KMp mb A Y := ⟨g.os.trans h.os, g.tape.trans h.tape, g.output.trans h.output, Nat.le_trans h.size g.size, fun b hb hn => (g.block b (Nat.lt_of_lt_of_le hb h.size) (fun e => by cases e; omega)).trans (h.keep b hb hn)⟩
theorem KMp.low {mb : Nat} {w A X : World} (h : KMp mb A X) (hb : Below w.heap.size w A) (hm : w.heap.size ≤ mb) : Below w.heap.size w X := ⟨h.os.trans hb.os, h.tape.trans hb.tape, h.output.trans hb.output, Nat.le_trans hb.size h.size, fun b hbl => (h.keep b (Nat.lt_of_lt_of_le hbl hb.size) (by omega)).trans (hb.block b hbl)⟩
theorem KMp.map {mb m n : Nat} {A X : World} {z : Value} {M : Int → Value} {hs : Int → Bool} (h : KMp mb A X) (hm : MpI A m n z M hs) (hn : m ≠ mb) : MpI X m n z M hs := hm.same (h.keep m hm.lt hn)
set_option maxRecDepth 100000 in
set_option maxHeartbeats 4000000 in
theorem holders_any (w : World) (f : Int → Ag) (wm nw am na ym : Nat) (M V : Int → Value) (hw : Int → Bool) (A : Int → List Int) (hs : SeR w f wm nw M hw am na V A) (q : Option Addr) (d : Nat) (ids : List Int) (hq : IntsR w q d ids) (hl : ids.length ≤ 4096) :
    Calls Try.prog 67 #[seV wm am ym, .slice q ids.length d] w fun e w' => ∃ mb n, e = .returned (.map (some mb)) ∧ HoM w' mb n (hoD f A ids) ∧ n ≤ 4096 * 8589934592 ∧ w.heap.size ≤ mb ∧ Below w.heap.size w w' := by
  have q1 := hq.len
  have q2 := hq.max
  unfold maxLen at q2
  have HS : Bx (SeR w f wm nw M hw am na V A) := ⟨hs⟩
  have HQ : Bx (IntsR w q d ids) := ⟨hq⟩
  have hmm := @run_makeMap Try.prog
  obtain ⟨W, hW⟩ : ∃ W, (w.alloc (.cells #[.map (some wm), .map (some am), .map (some ym)] 100)).alloc (.map #[] 0) = W := ⟨_, rfl⟩
  have hb : Below w.heap.size w W := by rw [← hW]; exact two_new _ _ _
  have hbk : W.heap[w.heap.size]? = some (.cells #[.map (some wm), .map (some am), .map (some ym)] 100 (0, 0)) := by
    rw [← hW]; exact (Below.heap_alloc _ _ _ (by simp)).trans (World.alloc_heap_new _ _)
  have hm0 : HoM W (w.heap.size + 1) 0 (hoD f A []) := by
    have := mp_new (w.alloc (.cells #[.map (some wm), .map (some am), .map (some ym)] 100)) (.int .i64 0)
    rw [World.size_alloc, hW] at this
    exact this
  have HI : Bx (HoM W (w.heap.size + 1) 0 (hoD f A []) ∧ Below w.heap.size w W ∧ W.heap[w.heap.size]? = some (.cells #[.map (some wm), .map (some am), .map (some ym)] 100 (0, 0))) := ⟨hm0, hb, hbk⟩
  have HWE : Bx (_ = W) := ⟨hW⟩
  obtain ⟨sb, hsb⟩ : ∃ sb, w.heap.size = sb := ⟨_, rfl⟩
  have HSB : Bx (w.heap.size = sb) := ⟨hsb⟩
  rw [hsb] at HI
  clear hs hq hW hb hbk hm0 hsb
  simp only [seV]
  go_enter Try.func67, Try.ntmps67
  go_wp2
  rw [HWE.out]
  clear hmm
  rw [HSB.out]
  go_loopg [17] (ids.length + 1) (fun g v wr => ∃ i n : Nat, g = ids.length + 1 - i ∧ i ≤ ids.length ∧ v = .int .i64 (i : Nat) ∧ Bx (n ≤ i * 8589934592 ∧ HoM wr (sb + 1) n (hoD f A (ids.take i)) ∧ Below sb w wr ∧ wr.heap[sb]? = some (.cells #[.map (some wm), .map (some am), .map (some ym)] 100 (0, 0))))
  case atStart => exact ⟨0, 0, by simp, by omega, rfl, ⟨Nat.zero_le _, HI.out⟩⟩
  case round =>
    obtain ⟨i, n, hg, hil, rfl, HR⟩ := hrel
    clear HI HWE
    by_cases hlt : i < ids.length
    · obtain ⟨qb, qo, rfl, h64, hcl⟩ := HQ.out.at_ i hlt
      obtain ⟨hn0, hho, hbr, hkb⟩ := HR.out
      have hbr' : Below w.heap.size w wr := by rw [HSB.out]; exact hbr
      have c0 := hcl wr hbr'
      have hsr := HS.out.below hbr'
      have hlk := hsr.who.look Try.underlying61 Try.zeroValue53 h64
      obtain ⟨ap, ac, hp, hc, hMv, hA⟩ := HS.out.val ids[i]
      rw [hMv] at hlk
      simp only [agV] at hlk
      have s0 : wr.cell? ⟨sb, 0, none⟩ = some (.map (some wm)) := cell_of hkb rfl
      have hfew := hsr.few ids[i]
      have k1 := hA.held.len
      have k2 := hA.held.max
      unfold maxLen at k2
      have HT : Bx (hoD f A (ids.take (i + 1)) = hoHeld A ids[i] (hoD f A (ids.take i)) (f ids[i]).held) := ⟨by rw [List.take_succ_eq_append_getElem hlt, hoD, hoF_snoc]; rfl⟩
      have HW1 : Bx (Below sb w wr ∧ IntsR w hp hc (f ids[i]).held) := ⟨hbr, hA.held⟩
      have HI : Bx (HoM wr (sb + 1) n (hoD f A (ids.take i)) ∧ wr.heap[sb]? = some (.cells #[.map (some wm), .map (some am), .map (some ym)] 100 (0, 0))) := ⟨hho, hkb⟩
      have HN0 : Bx (n ≤ i * 8589934592 ∧ i ≤ 4096) := ⟨hn0, by omega⟩
      have hid := h64
      clear hcl hsr hMv hA HR hho hbr hbr' hkb hn0
      generalize ids[i] = id at *
      generalize (f id).held = held at *
      generalize (f id).arms.length = al at *
      generalize (f id).id = aid at *
      generalize (f id).awake = aaw at *
      have HI2 : Bx (Below sb w wr) := ⟨HW1.out.1⟩
      have hf3 := ag_f3
      go_wp2
      clear hf3
      go_loopg [27] (held.length + 1) (fun g v wr => ∃ j m : Nat, g = held.length + 1 - j ∧ j ≤ held.length ∧ v = .int .i64 (j : Nat) ∧ Bx (m ≤ n + j ∧ HoM wr (sb + 1) m (hoHeld A id (hoD f A (ids.take i)) (held.take j)) ∧ Below sb w wr ∧ wr.heap[sb]? = some (.cells #[.map (some wm), .map (some am), .map (some ym)] 100 (0, 0))))
      case atStart => exact ⟨0, n, by simp, by omega, rfl, ⟨by omega, HI.out.1, HI2.out, HI.out.2⟩⟩
      case round =>
        obtain ⟨j, m, hgj, hjl, rfl, HR⟩ := hrel
        clear HI HI2
        by_cases hltj : j < held.length
        · obtain ⟨xb, xo, rfl, hc64, hcl⟩ := HW1.out.2.at_ j hltj
          obtain ⟨hm0, hho, hbr, hkb⟩ := HR.out
          have hbr' : Below w.heap.size w wr := by rw [HSB.out]; exact hbr
          have x0 := hcl wr hbr'
          have HTJ : Bx (hoHeld A id (hoD f A (ids.take i)) (held.take (j + 1)) = hoStep A id (hoHeld A id (hoD f A (ids.take i)) (held.take j)) held[j]) := ⟨by rw [List.take_succ_eq_append_getElem hltj, hoHeld_snoc]⟩
          have s1 : wr.cell? ⟨sb, 1, none⟩ = some (.map (some am)) := cell_of hkb rfl
          have hl1 := (HS.out.below hbr').at_.look2 Try.underlying97 Try.zeroValue45 hc64
          have hl2 := hho.look2 Try.underlying104 Try.zeroValue3 hc64
          have HB : Bx (Below sb w wr ∧ wr.heap[sb]? = some (.cells #[.map (some wm), .map (some am), .map (some ym)] 100 (0, 0))) := ⟨hbr, hkb⟩
          have HH : Bx (HoM wr (sb + 1) m (hoHeld A id (hoD f A (ids.take i)) (held.take j))) := ⟨hho⟩
          have hmN : m < 40000000000000 := by have := HN0.out; omega
          have HM0 : Bx (m ≤ n + j) := ⟨hm0⟩
          clear hcl HR hbr hbr' hkb hho hm0
          generalize held[j] = c at *
          generalize hoHeld A id (hoD f A (ids.take i)) (held.take j) = H at *
          cases hA1 : (A c).isEmpty with
          | true =>
            have HE : Bx (hoStep A id H c = H) := ⟨by unfold hoStep; rw [hA1]; rfl⟩
            rw [hA1] at hl1
            simp only [Bool.not_true] at hl1
            go_wp2
            go_roundg (held.length + 1 - (j + 1))
            case measure => omega
            case rel => exact ⟨j + 1, m, rfl, by omega, by simp, ⟨by have := HM0.out; omega, by rw [HTJ.out, HE.out]; exact HH.out, HB.out⟩⟩
          | false =>
            rw [hA1] at hl1
            simp only [Bool.not_false] at hl1
            cases hH1 : (H c).isSome with
            | true =>
              have HE : Bx (hoStep A id H c = H) := ⟨by unfold hoStep; rw [hA1, hH1]; rfl⟩
              rw [hH1] at hl2
              go_wp2
              go_roundg (held.length + 1 - (j + 1))
              case measure => omega
              case rel => exact ⟨j + 1, m, rfl, by omega, by simp, ⟨by have := HM0.out; omega, by rw [HTJ.out, HE.out]; exact HH.out, HB.out⟩⟩
            | false =>
              have HE : Bx (hoStep A id H c = upd H c (some id)) := ⟨by unfold hoStep; rw [hA1, hH1]; rfl⟩
              rw [hH1] at hl2
              obtain ⟨w2, hput, hm2, hg2⟩ := HH.out.put2 hc64 (by unfold maxLen; omega) id
              have HF : Bx (HoM w2 (sb + 1) (m + 1) (upd H c (some id)) ∧ Below sb w w2 ∧ w2.heap[sb]? = some (.cells #[.map (some wm), .map (some am), .map (some ym)] 100 (0, 0))) := ⟨hm2, by
                have h1 : Below w.heap.size w wr := by rw [HSB.out]; exact HB.out.1
                have h2 := h1.grown hg2 h1.size (fun r e => by cases e; rw [HSB.out]; omega)
                rw [HSB.out] at h2
                exact h2, (hg2.block sb (Array.getElem?_eq_some_iff.1 HB.out.2).1 (fun e => by injection e with e; omega)).trans HB.out.2⟩
              clear hm2 hg2 HB HH
              go_wp2
              go_roundg (held.length + 1 - (j + 1))
              case measure => omega
              case rel => exact ⟨j + 1, m + 1, rfl, by omega, by simp, ⟨by have := HM0.out; omega, by rw [HTJ.out, HE.out]; exact HF.out.1, HF.out.2⟩⟩
        · have hje : j = held.length := by omega
          subst hje
          rw [List.take_length] at HR
          have HF : Bx (m ≤ (i + 1) * 8589934592 ∧ HoM wr (sb + 1) m (hoD f A (ids.take (i + 1))) ∧ Below sb w wr ∧ wr.heap[sb]? = some (.cells #[.map (some wm), .map (some am), .map (some ym)] 100 (0, 0))) := ⟨by have := HR.out.1; have := HN0.out; rw [Nat.add_mul]; omega, by rw [HT.out]; exact HR.out.2.1, HR.out.2.2⟩
          clear HR
          go_wp2
          go_roundg (ids.length + 1 - (i + 1))
          case measure => omega
          case rel => exact ⟨i + 1, m, rfl, by omega, by simp, HF⟩
    · have hie : i = ids.length := by omega
      subst hie
      rw [List.take_length] at HR
      have hn := HR.out.1
      go_wp2
      go_ret
      exact ⟨_, n, rfl, HR.out.2.1, Nat.le_trans hn (Nat.mul_le_mul_right 8589934592 hl), by rw [HSB.out]; omega, by rw [HSB.out]; exact HR.out.2.2.1⟩
end Go.Proofs.Ytjabdhmkibahlaa
