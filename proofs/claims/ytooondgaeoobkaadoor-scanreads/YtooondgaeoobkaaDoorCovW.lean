import Derived.Test.YtooondgaeoobkaaDoorPassed
import Derived.Test.YtooondgaeoobkaaDoorShown
import Derived.Deep.QuietTactic
import Derived.BigQuiet
namespace Go.Proofs.YtooondgaeoobkaaDoor
open Go.RowKit
set_option linter.unusedVariables false
set_option linter.unusedSimpArgs false

/-- where a piece of a slice begins -/
def slA (b o cap l : Nat) : Option Addr := if cap = l then some ⟨b, o, none⟩ else some ⟨b, o + l, none⟩
theorem slice_lh (W : World) (b o n cap l h : Nat) (h1 : l ≤ h) (h2 : h ≤ cap) :
    (Instr.slice 26 (.slice (some ⟨b, o, none⟩) n cap) (some (.int .i64 (l : Int))) (some (.int .i64 (h : Int))) none).run Tryd.prog W = .ok (.slice (slA b o cap l) (h - l) (cap - l)) W := by
  have ht' : Tryd.prog.underlying 26 = some (.slice (Tryd.prog.elem 26)) := by simp [Program.elem, Tryd.underlying26]
  have he : Tryd.prog.elem 26 = 5 := by simp [Program.elem, Tryd.underlying26]
  rw [run_slice_lh W 26 _ _ _ ht' .i64 .i64 _ _ (by omega) (by omega) (by omega), he, sizeOf5]
  unfold slA
  by_cases hc : cap = l
  · simp [Result.andThen, sliced, hc]
  · by_cases h0 : l = 0
    · subst h0
      simp [Result.andThen, sliced, Addr.add, hc]
    · simp [Result.andThen, sliced, Addr.add, hc, h0]
theorem slice_l (W : World) (b o n cap l : Nat) (h1 : l ≤ n) (h2 : n ≤ cap) :
    (Instr.slice 26 (.slice (some ⟨b, o, none⟩) n cap) (some (.int .i64 (l : Int))) none none).run Tryd.prog W = .ok (.slice (slA b o cap l) (n - l) (cap - l)) W := by
  have ht' : Tryd.prog.underlying 26 = some (.slice (Tryd.prog.elem 26)) := by simp [Program.elem, Tryd.underlying26]
  have he : Tryd.prog.elem 26 = 5 := by simp [Program.elem, Tryd.underlying26]
  rw [run_slice_l W 26 _ _ _ ht' .i64 _ (by omega) (by omega), he, sizeOf5]
  unfold slA
  by_cases hc : cap = l
  · simp [Result.andThen, sliced, hc]
  · by_cases h0 : l = 0
    · subst h0
      simp [Result.andThen, sliced, Addr.add, hc]
    · simp [Result.andThen, sliced, Addr.add, hc, h0]
/-- a piece of a source is one -/
theorem Src.cut {w : World} {b o : Nat} {xs : List UInt8} (h : Src w b o xs) (l e : Nat) (he : e ≤ xs.length) : Src w b (o + l) (cut xs l e) := by
  intro i hi
  rw [cut_len xs l e he] at hi
  rw [Nat.add_assoc, h (l + i) (by omega)]
  simp [YtooondgaeoobkaaDoor.cut]
theorem passed_cut (w : World) (b o cap : Nat) (xs : List UInt8) (l e : Nat) (hs : Src w b o xs) (hle : l ≤ e) (he : e ≤ xs.length) (hl : xs.length ≤ 65536) (hc : xs.length ≤ cap) (c' : Nat) :
    Calls Tryd.prog 17 #[.slice (slA b o cap l) (e - l) c'] w fun e' w' => e' = .returned (.bool (passedL false (cut xs l e))) ∧ w = w' := by
  by_cases h0 : l = e
  · subst h0
    have hcut : cut xs l l = [] := by unfold cut; simp
    rw [hcut, Nat.sub_self]
    exact passed_none _ _ _
  · have h := passed_some b (o + l) c' (cut xs l e) w (hs.cut l e he) (by rw [cut_len xs l e he]; omega)
    rw [cut_len xs l e he] at h
    unfold slA
    rw [if_neg (by omega)]
    exact h
theorem passed_gap (xs : List UInt8) (k p : Nat) (h : skipTo xs k = p) : passedL false (cut xs k p) = true := by
  have e : p - k = skipL false (xs.drop k) := by rw [← h]; unfold skipTo; omega
  unfold cut
  rw [e]
  exact passed_skip _ _

structure CovMem (W wr : World) : Prop where
  below : Below W.heap.size W wr

theorem toksC_at : ∀ (l : List Tok) (j : Nat) (h : j < l.length), (toksC l)[j * 4]? = some (.int .i64 l[j].kind) ∧ (toksC l)[j * 4 + 1]? = some (.int .i64 l[j].place) ∧ (toksC l)[j * 4 + 2]? = some (.int .i64 l[j].len) ∧ (toksC l)[j * 4 + 3]? = some (.int .i64 l[j].num)
  | t :: r, 0, h => ⟨rfl, rfl, rfl, rfl⟩
  | t :: r, j + 1, h => by
    have ih := toksC_at r j (by simpa using h)
    have e : ∀ i, (toksC (t :: r))[i + 4]? = (toksC r)[i]? := fun i => rfl
    rw [show (j + 1) * 4 = j * 4 + 4 by omega, show j * 4 + 4 + 1 = j * 4 + 1 + 4 by omega, show j * 4 + 4 + 2 = j * 4 + 2 + 4 by omega, show j * 4 + 4 + 3 = j * 4 + 3 + 4 by omega, e, e, e, e]
    exact ih
/-- a list of tokens in memory -/
structure Toks (w : World) (g : Nat) (l : List Tok) : Prop where
  lt : g < w.heap.size
  at_ : ∀ j (h : j < l.length), w.cell? ⟨g, j * 4, none⟩ = some (.int .i64 l[j].kind) ∧ w.cell? ⟨g, j * 4 + 1, none⟩ = some (.int .i64 l[j].place) ∧ w.cell? ⟨g, j * 4 + 2, none⟩ = some (.int .i64 l[j].len) ∧ w.cell? ⟨g, j * 4 + 3, none⟩ = some (.int .i64 l[j].num)
theorem Toks.later {w w' : World} {g : Nat} {l : List Tok} (h : Toks w g l) (hb : Below w.heap.size w w') : Toks w' g l := by
  refine ⟨by have := hb.size; have := h.lt; omega, fun j hj => ?_⟩
  obtain ⟨a, b, c, d⟩ := h.at_ j hj
  exact ⟨by rw [hb.cell h.lt]; exact a, by rw [hb.cell h.lt]; exact b, by rw [hb.cell h.lt]; exact c, by rw [hb.cell h.lt]; exact d⟩
theorem toks_of_owns {w : World} {B : Nat} {v : Value} {l : List Tok} (h : w.ownsRow B 40 4 v l.length (toksC l)) (hn : 0 < l.length) :
    ∃ g cap, v = .slice (some ⟨g, 0, none⟩) l.length cap ∧ B ≤ g ∧ l.length ≤ cap ∧ Toks w g l := by
  obtain ⟨g, cap, hv, h1, h2, h3, hc⟩ := owns_cells h hn
  refine ⟨g, cap, hv, h1, h3, h2, fun j hj => ?_⟩
  have hl := toksC_len l
  obtain ⟨a, b, c, d⟩ := toksC_at l j hj
  exact ⟨by rw [hc _ (by omega)]; exact a, by rw [hc _ (by omega)]; exact b, by rw [hc _ (by omega)]; exact c, by rw [hc _ (by omega)]; exact d⟩

theorem covers_at (xs : List UInt8) : ∀ (l : List Tok) (j k : Nat) (h : j < l.length), Covers xs k (l.drop j) →
    skipTo xs k = l[j].place ∧ l[j].place < xs.length ∧ nextR xs l[j].place = (l[j], 0) ∧ Covers xs (l[j].place + l[j].len) (l.drop (j + 1)) := by
  intro l j k h hc
  rw [List.drop_eq_getElem_cons h] at hc
  exact hc

theorem slice_tok (W : World) (b o n cap p l : Nat) (h1 : 1 ≤ l) (h2 : p + l ≤ cap) :
    (Instr.slice 26 (.slice (some ⟨b, o, none⟩) n cap) (some (.int .i64 (p : Int))) (some (.int .i64 ((p : Int) + (l : Int)))) none).run Tryd.prog W = .ok (.slice (some ⟨b, o + p, none⟩) l (cap - p)) W := by
  have h := Lib.run_slice_window (P := Tryd.prog) W 26 5 Tryd.underlying26 sizeOf5 b o n cap p (p + l) (by omega) h2
  rw [Nat.add_sub_cancel_left] at h
  exact h
/-- what the law asks of one token -/
theorem scan_tok (W : World) (b o cap : Nat) (xs : List UInt8) (k : Nat) (t : Tok) (hs : Src W b o xs) (hb : b < W.heap.size) (hL : Laid W) (hl : xs.length ≤ 65536) (hcap : xs.length ≤ cap) (q1 : skipTo xs k = t.place) (q2 : t.place < xs.length) (q3 : nextR xs t.place = (t, 0)) (h1 : 1 ≤ t.len) (h2 : t.place + t.len ≤ xs.length) :
    Calls Tryd.prog 13 #[.slice (some ⟨b, o + t.place, none⟩) t.len (cap - t.place)] W fun e w' => ∃ g cp, e = .returned (.tuple #[.slice (some ⟨g, 0, none⟩) 1 cp, .agg #[.int .i64 0, .int .i64 0]]) ∧ 1 ≤ cp ∧ g < w'.heap.size ∧
      w'.cell? ⟨g, 0, none⟩ = some (.int .i64 t.kind) ∧ w'.cell? ⟨g, 1, none⟩ = some (.int .i64 0) ∧ w'.cell? ⟨g, 2, none⟩ = some (.int .i64 t.len) ∧ w'.cell? ⟨g, 3, none⟩ = some (.int .i64 t.num) ∧ Below W.heap.size W w' := by
  have hcl : (cut xs t.place (t.place + t.len)).length = t.len := by rw [cut_len _ _ _ h2]; omega
  have h := Scan_some b (o + t.place) (cap - t.place) (cut xs t.place (t.place + t.len)) W (hs.cut _ _ h2) hb (by omega) (by omega) hL
  rw [hcl, scan_alone xs k t.place t q1 q2 hl q3] at h
  refine h.mono ?_
  rintro e w' ⟨v, rfl, hown, hbl⟩
  obtain ⟨g, cp, rfl, _, h3, hT⟩ := toks_of_owns hown (by simp)
  obtain ⟨c0, c1, c2, c3⟩ := hT.at_ 0 (by simp)
  exact ⟨g, cp, rfl, h3, hT.lt, c0, c1, c2, c3, hbl⟩
theorem tok_keep {wr w3 : World} {t : Tok} (hb : Below (wr.alloc (tokO t)).heap.size (wr.alloc (tokO t)) w3) :
    wr.heap.size < w3.heap.size ∧ w3.cell? ⟨wr.heap.size, 0, none⟩ = some (.int .i64 t.kind) ∧ w3.cell? ⟨wr.heap.size, 1, none⟩ = some (.int .i64 t.place) ∧ w3.cell? ⟨wr.heap.size, 2, none⟩ = some (.int .i64 t.len) ∧ w3.cell? ⟨wr.heap.size, 3, none⟩ = some (.int .i64 t.num) := by
  have hz := hb.size
  simp at hz
  refine ⟨by omega, ?_, ?_, ?_, ?_⟩ <;> (rw [hb.cell (by simp)]; simp [tokO])

set_option maxHeartbeats 1000000 in
set_option maxRecDepth 100000 in
theorem covers_loop (b o cap : Nat) (xs : List UInt8) (w : World) (toks : List Tok) (fa : Nat) (hs : Src w b o xs) (hb : b < w.heap.size) (hcap : xs.length ≤ cap) (hL : Laid w) (hl : xs.length ≤ 65536) (hn : 0 < toks.length) (hnx : toks.length ≤ 65536)
    (HC : Box (Covers xs 0 toks))
    (HSC : Box (∀ W, Below w.heap.size w W → Calls Tryd.prog 13 #[.slice (some ⟨b, o, none⟩) xs.length cap] W fun e w' => ∃ g cp, e = .returned (.tuple #[.slice (some ⟨g, 0, none⟩) toks.length cp, .agg #[.int .i64 fa, .int .i64 0]]) ∧ toks.length ≤ cp ∧ Toks w' g toks ∧ Below W.heap.size W w')) :
    Calls Tryd.prog 5 #[.slice (some ⟨b, o, none⟩) xs.length cap] w fun e w' => e = .returned (.bool true) ∧ Below w.heap.size w w' := by
  go_enter Tryd.func5, Tryd.ntmps5
  go_wp2_with (first
    | (go_at_call 8; refine (shown_any w hL).mono ?_; rintro e w1 ⟨rfl, b1⟩)
    | (go_at_call 13; refine (HSC.out _ b1).mono ?_; rintro e w2 ⟨g, cp, rfl, hcp, hT, b2⟩))
  have HW : CovMem w (w2.alloc (.cells #[.int .i64 fa, .int .i64 0] 34)) := ⟨(b1.trans (b2.mono b1.size)).alloc (Nat.le_trans b1.size b2.size) _⟩
  have HT : Toks (w2.alloc (.cells #[.int .i64 fa, .int .i64 0] 34)) g toks := hT.later ((Below.refl _ _).alloc (Nat.le_refl _) _)
  clear HSC b1 b2 hT
  go_loopw [6, 7] (fun a i wr => ∃ k j : Nat, k ≤ xs.length ∧ j ≤ toks.length ∧ a = .int .i64 k ∧ i = .int .i64 j ∧ CovMem w wr ∧ Toks wr g toks ∧ Box (Covers xs k (toks.drop j)))
    (fun _ i _ => toks.length - (intOf i).toNat)
  case atStart => exact ⟨0, 0, Nat.zero_le _, Nat.zero_le _, rfl, rfl, HW, HT, HC⟩
  case round =>
    obtain ⟨k, j, hk, hj, rfl, rfl, HM, HTr, HCj⟩ := hrel
    by_cases hlt : j < toks.length
    · obtain ⟨q1, q2, q3, q4⟩ := covers_at xs toks j k hlt HCj.out
      obtain ⟨t0, t1, t2, t3⟩ := HTr.at_ j hlt
      have hgz := HTr.lt
      have hlen : 1 ≤ toks[j].len ∧ toks[j].place + toks[j].len ≤ xs.length := by
        have := nextR_len xs toks[j].place q2 (by rw [q3])
        rw [q3] at this
        exact this
      have hkp := (skipTo_le xs k hk).1
      rw [q1] at hkp
      have HP : Box (∀ W c', Below w.heap.size w W → Calls Tryd.prog 17 #[.slice (slA b o cap k) (toks[j].place - k) c'] W fun e' w' => e' = .returned (.bool true) ∧ W = w') := by
        refine ⟨fun W c' hW => ?_⟩
        have := passed_cut W b o cap xs k toks[j].place (hs.below hb hW) hkp (by omega) hl hcap c'
        rw [passed_gap xs k _ q1] at this
        exact this
      have HQ : Box (Covers xs (toks[j].place + toks[j].len) (toks.drop (j + 1))) := ⟨q4⟩
      have HS : Box (∀ W, Below w.heap.size w W → _) := ⟨fun W hW => scan_tok W b o cap xs k toks[j] (hs.below hb hW) (by have := hW.size; omega) (hL.below hW) hl hcap q1 q2 q3 hlen.1 hlen.2⟩
      have hna := next_alone xs toks[j].place toks[j] q2 q3
      have HX : Box (10 ≤ toks[j].kind → ∀ W, Below w.heap.size w W → Calls Tryd.prog 9 #[.int .i64 toks[j].kind] W fun e w' => e = .returned (.string ⟨(cut xs toks[j].place (toks[j].place + toks[j].len)).toArray⟩) ∧ w' = W) := by
        refine ⟨fun h10 W hW => ?_⟩
        have := Text_any toks[j].kind W (hL.below hW).words (hL.below hW).signs
        rw [hna.2.1 h10] at this
        exact this.mono (fun e w' h => ⟨h.1, h.2.symm⟩)
      have hnum := hna.2.2
      have HV : Box (∀ W c, Below w.heap.size w W → (convert 26 9 (.slice (some ⟨b, o + toks[j].place, none⟩) toks[j].len c)).run Tryd.prog W = .ok (.string ⟨(cut xs toks[j].place (toks[j].place + toks[j].len)).toArray⟩) W) := by
        refine ⟨fun W c hW => ?_⟩
        have := run_conv W b o c xs toks[j].place (toks[j].place + toks[j].len) (hs.below hb hW) (by omega) hlen.2
        rw [Nat.add_sub_cancel_left] at this
        exact this
      have hsl1 := fun W => slice_lh W b o xs.length cap k toks[j].place hkp (by omega)
      have hsl2 := fun W => slice_tok W b o xs.length cap toks[j].place toks[j].len hlen.1 (by omega)
      clear q1 q3 q4 HCj HC HW HT hs hna
      generalize toks[j] = t at *
      generalize cut xs t.place (t.place + t.len) = S at *
      obtain ⟨hlen1, hlen2⟩ := hlen
      have HMa : Below w.heap.size w (wr.alloc (.cells #[.int .i64 t.kind, .int .i64 t.place, .int .i64 t.len, .int .i64 t.num] 40)) := HM.below.alloc HM.below.size _
      have HT3 : Toks (wr.alloc (.cells #[.int .i64 t.kind, .int .i64 t.place, .int .i64 t.len, .int .i64 t.num] 40)) g toks := HTr.later ((Below.refl _ _).alloc (Nat.le_refl _) _)
      go_wp2_with (first
        | (go_at_call 17; refine (HP.out _ _ HMa).mono ?_; rintro e w' ⟨rfl, rfl⟩)
        | (go_at_call 13; refine Calls.mono (HS.out _ HMa) ?_; rintro e w3 ⟨g3, cp3, rfl, hc3, hg3, m0, m1, m2, m3, hb3⟩; obtain ⟨hz3, t30, t31, t32, t33⟩ := tok_keep hb3; have HM3 : Below w.heap.size w w3 := HMa.trans (hb3.mono (Nat.le_trans HM.below.size (by simp)))))
      go_quiet (fail)
      go_wp2
      have B4 : Below w3.heap.size w3 ((w3.alloc (.cells #[.int .i64 0, .int .i64 0] 34)).drewN nq) := below_drewN ((Below.refl _ _).alloc (Nat.le_refl _) _) nq
      have HM4 := HM3.trans (B4.mono HM3.size)
      have HT4 := (HT3.later hb3).later B4
      have e0 := (B4.cell (p := ⟨wr.heap.size, 0, none⟩) hz3).trans t30
      have e1 := (B4.cell (p := ⟨wr.heap.size, 1, none⟩) hz3).trans t31
      have e2 := (B4.cell (p := ⟨wr.heap.size, 2, none⟩) hz3).trans t32
      have e3 := (B4.cell (p := ⟨wr.heap.size, 3, none⟩) hz3).trans t33
      clear B4 HM3 HT3 t30 t31 t32 t33 m0 m1 m2 m3 hz3 hb3 hg3 HS HP HMa
      generalize (w3.alloc (.cells #[.int .i64 0, .int .i64 0] 34)).drewN nq = w4 at *
      have hcv := fun n => HV.out (w4.drewN n) (cap - t.place) (below_drewN HM4 n)
      clear HV
      by_cases h10 : 10 ≤ t.kind
      · have hz : ((t.num : Int) != 0) = false := by rw [hnum (by omega)]; rfl
        have hk2 : ((t.kind : Int) != 2) = true := by rw [bne_iff_ne]; omega
        have h10' : (10 : Int) ≤ (t.kind : Int) := by omega
        have HXX := HX.out h10
        clear hnum HX
        go_quiet ((go_at_call 9; exact Calls.quiet_of_same (HXX _ (below_drewN HM4 _))))
        go_wp2
        go_roundw
        case rel => exact ⟨t.place + t.len, j + 1, hlen2, by omega, by go_num, by go_num, ⟨below_drewN HM4 _⟩, HT4.later (below_drewN (Below.refl _ _) _), HQ⟩
        case measure => simp [intOf]; omega
      · have hd1 : decide (10 ≤ t.kind) = false := by simpa using h10
        have hd2 : decide ((10 : Int) ≤ (t.kind : Int)) = false := by simp; omega
        by_cases h2 : t.kind = 2
        · have hk2 : ((t.kind : Int) != 2) = false := by rw [h2]; rfl
          clear hnum HX h2
          go_quiet (fail)
          go_wp2
          go_roundw
          case rel => exact ⟨t.place + t.len, j + 1, hlen2, by omega, by go_num, by go_num, ⟨below_drewN HM4 _⟩, HT4.later (below_drewN (Below.refl _ _) _), HQ⟩
          case measure => simp [intOf]; omega
        · have hz : ((t.num : Int) != 0) = false := by rw [hnum h2]; rfl
          have hk2 : ((t.kind : Int) != 2) = true := by rw [bne_iff_ne]; omega
          clear hnum HX
          go_quiet (fail)
          go_wp2
          go_roundw
          case rel => exact ⟨t.place + t.len, j + 1, hlen2, by omega, by go_num, by go_num, ⟨below_drewN HM4 _⟩, HT4.later (below_drewN (Below.refl _ _) _), HQ⟩
          case measure => simp [intOf]; omega
    · have hend : skipTo xs k = xs.length := by
        have := HCj.out
        rw [List.drop_eq_nil_of_le (by omega)] at this
        exact this
      have HP : Box (∀ W c', Below w.heap.size w W → Calls Tryd.prog 17 #[.slice (slA b o cap k) (xs.length - k) c'] W fun e' w' => e' = .returned (.bool true) ∧ W = w') := by
        refine ⟨fun W c' hW => ?_⟩
        have := passed_cut W b o cap xs k xs.length (hs.below hb hW) hk (Nat.le_refl _) hl hcap c'
        rw [passed_gap xs k _ hend] at this
        exact this
      have hsl := fun W => slice_l W b o xs.length cap k hk hcap
      clear hend HCj HC HW HT hs
      go_wp2_with (first | (go_at_call 17; refine (HP.out _ _ HM.below).mono ?_; rintro e w' ⟨rfl, rfl⟩))
      go_ret
      exact ⟨rfl, HM.below⟩
end Go.Proofs.YtooondgaeoobkaaDoor
