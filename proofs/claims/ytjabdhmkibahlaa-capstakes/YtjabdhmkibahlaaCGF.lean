import Derived.Test.YtjabdhmkibahlaaCGB
namespace Go.Proofs.Ytjabdhmkibahlaa
open Go.RowKit
set_option linter.unusedVariables false
set_option linter.unusedSimpArgs false

def fitsF (f : Int → Ag) (l : Lk) : Bool := if l.woken = -1 ∨ l.waker = l.woken then false else (standI (f l.waker) l.chan).wakes (standI (f l.woken) l.chan)
/-- who may be asked -/
structure WhoOk (f : Int → Ag) : Prop where
  ris : ∀ k, (f k).awake = true → risI (f k).held = true
  len : ∀ k, (f k).held.length ≤ 2147483647
structure Lk64 (l : Lk) : Prop where
  waker : I64 l.waker
  woken : I64 l.woken
  chan : I64 l.chan
def lkV (l : Lk) : Value := .agg #[.int .i64 l.waker, .int .i64 l.woken, .int .i64 l.chan]

set_option maxRecDepth 100000 in
set_option maxHeartbeats 16000000 in
theorem fits_any (w : World) (mb n : Nat) (M : Int → Value) (hs : Int → Bool) (f : Int → Ag) (l : Lk) (hm : MpI w mb n zV M hs) (hv : WhoV w f M) (ho : WhoOk f) (h64 : Lk64 l) :
    Calls Try.prog 36 #[.map (some mb), lkV l] w fun e w' => e = .returned (.bool (fitsF f l)) ∧ Below w.heap.size w w' := by
  obtain ⟨lr, ln, lc⟩ := l
  simp only [lkV]
  obtain ⟨W, hW⟩ : ∃ W, w.alloc (.cells #[.int .i64 lr, .int .i64 ln, .int .i64 lc] 24) = W := ⟨_, rfl⟩
  have hb : Below w.heap.size w W := by rw [← hW]; exact below1 _ _
  have hbk : W.heap[w.heap.size]? = some (.cells #[.int .i64 lr, .int .i64 ln, .int .i64 lc] 24 (0, 0)) := by rw [← hW]; exact World.alloc_heap_new _ _
  have HB : Bx (Below w.heap.size w W) := ⟨hb⟩
  have HW : Bx (_ = W) := ⟨hW⟩
  have c0 : W.cell? ⟨w.heap.size, 0, none⟩ = some (.int .i64 lr) := cell_of hbk rfl
  have c1 : W.cell? ⟨w.heap.size, 1, none⟩ = some (.int .i64 ln) := cell_of hbk rfl
  by_cases h1 : ln = -1
  · subst h1
    have HE : Bx (fitsF f ⟨lr, -1, lc⟩ = false) := ⟨if_pos (.inl rfl)⟩
    rw [← hW] at c0 c1
    clear hW hbk hb
    go_enter Try.func36, Try.ntmps36
    go_wp2
    go_ret
    exact ⟨by rw [HE.out]; rfl, by rw [HW.out]; exact HB.out⟩
  · have g1 : (ln == -1) = false := by simpa using h1
    by_cases h2 : lr = ln
    · subst h2
      have HE : Bx (fitsF f ⟨lr, lr, lc⟩ = false) := ⟨if_pos (.inr rfl)⟩
      rw [← hW] at c0 c1
      clear hW hbk hb h1
      go_enter Try.func36, Try.ntmps36
      go_wp2
      go_ret
      exact ⟨by rw [HE.out]; rfl, by rw [HW.out]; exact HB.out⟩
    · have g2 : (lr == ln) = false := by simpa using h2
      have HE : Bx (fitsF f ⟨lr, ln, lc⟩ = (standI (f lr) lc).wakes (standI (f ln) lc)) := ⟨if_neg (fun h => by rcases h with h | h; exact h1 h; exact h2 h)⟩
      obtain ⟨ap, ac, hp, hc, e1, r1⟩ := hv lr
      obtain ⟨bp, bc, kp, kc, e2, r2⟩ := hv ln
      have HS1 : Bx (∀ Y, Below W.heap.size W Y → Calls Try.prog 55 #[M lr, .int .i64 lc] Y fun e w' => e = .returned (stV (standI (f lr) lc)) ∧ Below Y.heap.size Y w') := ⟨fun Y hY => by
        rw [e1]
        exact standing_any Y (f lr) ap hp ac hc (r1.later (hb.trans (hY.mono hb.size))) lc h64.chan (ho.ris lr) (ho.len lr)⟩
      have HS2 : Bx (∀ Y, Below W.heap.size W Y → Calls Try.prog 55 #[M ln, .int .i64 lc] Y fun e w' => e = .returned (stV (standI (f ln) lc)) ∧ Below Y.heap.size Y w') := ⟨fun Y hY => by
        rw [e2]
        exact standing_any Y (f ln) bp kp bc kc (r2.later (hb.trans (hY.mono hb.size))) lc h64.chan (ho.ris ln) (ho.len ln)⟩
      have HC : Bx (∀ Y, Below W.heap.size W Y → (Y.cell? ⟨w.heap.size, 0, none⟩ = some (.int .i64 lr) ∧ Y.cell? ⟨w.heap.size, 1, none⟩ = some (.int .i64 ln) ∧ Y.cell? ⟨w.heap.size, 2, none⟩ = some (.int .i64 lc)) ∧ (Instr.lookup 61 (.map (some mb)) (.int .i64 lr) false).run Try.prog Y = .ok (M lr) Y ∧ (Instr.lookup 61 (.map (some mb)) (.int .i64 ln) false).run Try.prog Y = .ok (M ln) Y) := ⟨fun Y hY => by
        have e := (hY.block w.heap.size (Array.getElem?_eq_some_iff.1 hbk).1).trans hbk
        have hmY := hm.below (hb.trans (hY.mono hb.size))
        exact ⟨⟨cell_of e rfl, cell_of e rfl, cell_of e rfl⟩, hmY.look Try.underlying61 Try.zeroValue53 h64.waker, hmY.look Try.underlying61 Try.zeroValue53 h64.woken⟩⟩
      have T1 : Bx True := ⟨trivial⟩
      rw [← hW] at c0 c1
      clear hW hbk hb h1 h2 hm hv ho e1 e2 r1 r2 h64
      generalize M lr = v1 at *
      generalize M ln = v2 at *
      generalize standI (f lr) lc = s1 at *
      generalize standI (f ln) lc = s2 at *
      go_enter Try.func36, Try.ntmps36
      go_wp2
      rw [HW.out]
      clear c0 c1
      go_region_held3 (fun Y => (Y.cell? ⟨w.heap.size, 0, none⟩ = some (.int .i64 lr) ∧ Y.cell? ⟨w.heap.size, 1, none⟩ = some (.int .i64 ln) ∧ Y.cell? ⟨w.heap.size, 2, none⟩ = some (.int .i64 lc)) ∧ (Instr.lookup 61 (.map (some mb)) (.int .i64 lr) false).run Try.prog Y = .ok v1 Y ∧ (Instr.lookup 61 (.map (some mb)) (.int .i64 ln) false).run Try.prog Y = .ok v2 Y)
        (first | exact HC.out _ hz3 | exact HC.out _ hz2 | exact HC.out _ hz1 | exact HC.out _ ((Below.refl _ _).drew))
        (first
          | (go_at_call 55; clear T1; refine Calls.mono (HS1.out _ ((Below.refl _ _).drew)) ?_; rintro e w1 ⟨rfl, hb1⟩; have hz1 : Below W.heap.size W w1 := ((Below.refl _ _).drew).trans hb1; clear hb1)
          | (go_at_call 55; refine Calls.mono (HS2.out _ hz1) ?_; rintro e w2 ⟨rfl, hb2⟩; have hz2 : Below W.heap.size W w2 := hz1.trans (hb2.mono hz1.size); clear hb2)
          | (go_at_call 56; refine Calls.mono (wakes_any s1 s2 _) ?_; rintro e w3 ⟨rfl, hb3⟩; have hz3 : Below W.heap.size W w3 := hz2.trans (hb3.mono hz2.size); clear hb3))
      all_goals
        go_wp2
        go_ret
        exact ⟨by rw [HE.out]; rfl, HB.out.trans (hz3.mono HB.out.size)⟩
theorem whoI_all (P : Ag → Prop) (h0 : ∀ k, P (who0 k)) : ∀ (s : List Ag), (∀ a ∈ s, P a) → ∀ k, P (whoI s k) := by
  have key : ∀ (s : List Ag) (g : Int → Ag), (∀ k, P (g k)) → (∀ a ∈ s, P a) → ∀ k, P (s.foldl (fun f a => upd f a.id a) g k) := by
    intro s
    induction s with
    | nil => intro g hg _ k; exact hg k
    | cons a r ih =>
      intro g hg hs k
      refine ih _ (fun d => ?_) (fun b hb => hs b (List.mem_cons_of_mem _ hb)) k
      by_cases e : d = a.id
      · subst e; show P (upd g a.id a a.id); rw [upd_same]; exact hs a List.mem_cons_self
      · show P (upd g a.id a d); rw [upd_other _ _ e]; exact hg d
  intro s hs k
  exact key s who0 h0 hs k
theorem ags_all : ∀ (s : List Ag) (k : Int), agsF k s = true → ∀ a ∈ s, agOk a = true
  | [], k, _, a, h => by cases h
  | b :: r, k, hs, a, h => by
    rw [agsF, Bool.and_eq_true, Bool.and_eq_true] at hs
    rcases List.mem_cons.1 h with rfl | h
    · exact hs.1.2
    · exact ags_all r b.id hs.2 a h
theorem ag_ris {a : Ag} (h : agOk a = true) : risI a.held = true := by
  unfold agOk at h
  rw [Bool.and_eq_true, Bool.and_eq_true] at h
  exact h.1.2
theorem who_ok {s : List Ag} (h : stOk s = true) (hz : Few s) : WhoOk (whoI s) := by
  unfold stOk at h
  rw [Bool.and_eq_true] at h
  refine ⟨fun k => ?_, fun k => ?_⟩
  · refine whoI_all (fun a => a.awake = true → risI a.held = true) (fun k => ?_) s (fun a ha _ => ag_ris (ags_all s _ h.2 a ha)) k
    unfold who0
    split <;> simp [wA, zA]
  · refine whoI_all (fun a => a.held.length ≤ 2147483647) (fun k => ?_) s (fun a ha => (hz a ha).1) k
    unfold who0
    split <;> simp [wA, zA]
theorem st_len {s : List Ag} (h : stOk s = true) : s.length ≤ 4096 := by
  unfold stOk at h
  rw [Bool.and_eq_true] at h
  simpa using h.1
set_option maxRecDepth 100000 in
set_option maxHeartbeats 16000000 in
theorem Fits_yes (w : World) (p : Option Addr) (c : Nat) (s : List Ag) (l : Lk) (h : AgsR w p c s) (hz : Few s) (h64 : Lk64 l) (hok : stOk s = true) :
    Calls Try.prog 10 #[.slice p s.length c, lkV l] w fun e w' => e = .returned (.bool (fitsF (whoI s) l)) ∧ Below w.heap.size w w' := by
  obtain ⟨lr, ln, lc⟩ := l
  simp only [lkV]
  obtain ⟨W, hW⟩ : ∃ W, w.alloc (.cells #[.int .i64 lr, .int .i64 ln, .int .i64 lc] 24) = W := ⟨_, rfl⟩
  have hb : Below w.heap.size w W := by rw [← hW]; exact below1 _ _
  have hbk : W.heap[w.heap.size]? = some (.cells #[.int .i64 lr, .int .i64 ln, .int .i64 lc] 24 (0, 0)) := by rw [← hW]; exact World.alloc_heap_new _ _
  have HB : Bx (Below w.heap.size w W) := ⟨hb⟩
  have HW : Bx (_ = W) := ⟨hW⟩
  have HC : Bx (∀ Y, Below W.heap.size W Y → Y.cell? ⟨w.heap.size, 0, none⟩ = some (.int .i64 lr) ∧ Y.cell? ⟨w.heap.size, 1, none⟩ = some (.int .i64 ln) ∧ Y.cell? ⟨w.heap.size, 2, none⟩ = some (.int .i64 lc)) := ⟨fun Y hY => by
    have e := (hY.block w.heap.size (Array.getElem?_eq_some_iff.1 hbk).1).trans hbk
    exact ⟨cell_of e rfl, cell_of e rfl, cell_of e rfl⟩⟩
  have HK : Bx (∀ Y, Below W.heap.size W Y → Calls Try.prog 9 #[.slice p s.length c] Y fun e w' => e = .returned (.int .i64 (chkI s)) ∧ Below Y.heap.size Y w') := ⟨fun Y hY => Check_any Y p c s (h.later (hb.trans (hY.mono hb.size))) hz⟩
  have hck : chkI s = 0 := by simp [chkI, hok]
  rw [hck] at HK
  have HI : Bx (∀ Y, Below W.heap.size W Y → Calls Try.prog 37 #[.slice p s.length c] Y (IdPost Y s)) := ⟨fun Y hY => byId_any Y p c s (h.later (hb.trans (hY.mono hb.size))) (st_len hok)⟩
  have HWO : Bx (WhoOk (whoI s)) := ⟨who_ok hok hz⟩
  have H64 : Bx (Lk64 ⟨lr, ln, lc⟩) := ⟨h64⟩
  clear hW hbk hb h hz h64 hck
  go_enter Try.func10, Try.ntmps10
  go_wp2
  rw [HW.out]
  go_region_held3 (fun Y => Y.cell? ⟨w.heap.size, 0, none⟩ = some (.int .i64 lr) ∧ Y.cell? ⟨w.heap.size, 1, none⟩ = some (.int .i64 ln) ∧ Y.cell? ⟨w.heap.size, 2, none⟩ = some (.int .i64 lc))
    (first | exact HC.out _ hz3 | exact HC.out _ hz2 | exact HC.out _ hz1 | exact HC.out _ ((Below.refl _ _).drew))
    (first
      | (go_at_call 9; refine Calls.mono (HK.out _ ((Below.refl _ _).drew)) ?_; rintro e w1 ⟨rfl, hb1⟩; have hz1 : Below W.heap.size W w1 := ((Below.refl _ _).drew).trans hb1; clear hb1)
      | (go_at_call 37; refine Calls.mono (HI.out _ hz1) ?_; rintro e w2 ⟨mb, n2, M2, rfl, hm2, hv2, _, _, hb2⟩; have hz2 : Below W.heap.size W w2 := hz1.trans (hb2.mono hz1.size); have HM2 : Bx (MpI w2 mb n2 zV M2 (hasI s) ∧ WhoV w2 (whoI s) M2) := ⟨hm2, hv2⟩; clear hb2 hm2 hv2)
      | (go_at_call 36; refine Calls.mono (fits_any w2 mb n2 M2 (hasI s) (whoI s) ⟨lr, ln, lc⟩ HM2.out.1 HM2.out.2 HWO.out H64.out) ?_; rintro e w3 ⟨rfl, hb3⟩; have hz3 : Below W.heap.size W w3 := hz2.trans (hb3.mono hz2.size); clear hb3))
  all_goals
    go_wp2
    go_ret
    exact ⟨rfl, HB.out.trans (hz3.mono HB.out.size)⟩
end Go.Proofs.Ytjabdhmkibahlaa
