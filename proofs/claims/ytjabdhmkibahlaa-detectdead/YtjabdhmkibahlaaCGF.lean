import Derived.Test.YtjabdhmkibahlaaCGB
import Derived.DeepKeys4
import Derived.WideKeyEntry
namespace Go.Proofs.Ytjabdhmkibahlaa
open Go.RowKit
set_option linter.unusedVariables false
set_option linter.unusedSimpArgs false

def fitsF (f : Int → Ag) (l : Lk) : Bool := if l.woken = -1 ∨ l.waker = l.woken then false else (standI (f l.waker) l.chan).wakes (standI (f l.woken) l.chan)
/-- who may be asked -/
structure WhoOk (f : Int → Ag) : Prop where
  ris : ∀ k, (f k).awake = true → risI (f k).held = true
  len : ∀ k, (f k).held.length ≤ 2147483647
structure Lk64 (l : Lk) : Prop where
  waker : I64 l.waker
  woken : I64 l.woken
  chan : I64 l.chan
def lkV (l : Lk) : Value := .agg #[.int .i64 l.waker, .int .i64 l.woken, .int .i64 l.chan]

set_option maxRecDepth 100000 in
set_option maxHeartbeats 16000000 in
theorem fits_any (w : World) (mb n : Nat) (M : Int → Value) (hs : Int → Bool) (f : Int → Ag) (l : Lk) (hm : MpI w mb n zV M hs) (hv : WhoV w f M) (ho : WhoOk f) (h64 : Lk64 l) :
    Calls Try.prog 36 #[.map (some mb), lkV l] w fun e w' => e = .returned (.bool (fitsF f l)) ∧ Below w.heap.size w w' := by
  obtain ⟨lr, ln, lc⟩ := l
  simp only [lkV]
  obtain ⟨W, hW⟩ : ∃ W, w.alloc (.cells #[.int .i64 lr, .int .i64 ln, .int .i64 lc] 24) = W := ⟨_, rfl⟩
  have hb : Below w.heap.size w W := by rw [← hW]; exact below1 _ _
  have hbk : W.heap[w.heap.size]? = some (.cells #[.int .i64 lr, .int .i64 ln, .int .i64 lc] 24 (0, 0)) := by rw [← hW]; exact World.alloc_heap_new _ _
  have HB : Bx (Below w.heap.size w W) := ⟨hb⟩
  have HW : Bx (_ = W) := ⟨hW⟩
  have c0 : W.cell? ⟨w.heap.size, 0, none⟩ = some (.int .i64 lr) := cell_of hbk rfl
  have c1 : W.cell? ⟨w.heap.size, 1, none⟩ = some (.int .i64 ln) := cell_of hbk rfl
  by_cases h1 : ln = -1
  · subst h1
    have HE : Bx (fitsF f ⟨lr, -1, lc⟩ = false) := ⟨if_pos (.inl rfl)⟩
    rw [← hW] at c0 c1
    clear hW hbk hb
    go_enter Try.func36, Try.ntmps36
    go_wp2
    go_ret
    exact ⟨by rw [HE.out]; rfl, by rw [HW.out]; exact HB.out⟩
  · have g1 : (ln == -1) = false := by simpa using h1
    by_cases h2 : lr = ln
    · subst h2
      have HE : Bx (fitsF f ⟨lr, lr, lc⟩ = false) := ⟨if_pos (.inr rfl)⟩
      rw [← hW] at c0 c1
      clear hW hbk hb h1
      go_enter Try.func36, Try.ntmps36
      go_wp2
      go_ret
      exact ⟨by rw [HE.out]; rfl, by rw [HW.out]; exact HB.out⟩
    · have g2 : (lr == ln) = false := by simpa using h2
      have HE : Bx (fitsF f ⟨lr, ln, lc⟩ = (standI (f lr) lc).wakes (standI (f ln) lc)) := ⟨if_neg (fun h => by rcases h with h | h; exact h1 h; exact h2 h)⟩
      obtain ⟨ap, ac, hp, hc, e1, r1⟩ := hv lr
      obtain ⟨bp, bc, kp, kc, e2, r2⟩ := hv ln
      have HS1 : Bx (∀ Y, Below W.heap.size W Y → Calls Try.prog 55 #[M lr, .int .i64 lc] Y fun e w' => e = .returned (stV (standI (f lr) lc)) ∧ Below Y.heap.size Y w') := ⟨fun Y hY => by
        rw [e1]
        exact standing_any Y (f lr) ap hp ac hc (r1.later (hb.trans (hY.mono hb.size))) lc h64.chan (ho.ris lr) (ho.len lr)⟩
      have HS2 : Bx (∀ Y, Below W.heap.size W Y → Calls Try.prog 55 #[M ln, .int .i64 lc] Y fun e w' => e = .returned (stV (standI (f ln) lc)) ∧ Below Y.heap.size Y w') := ⟨fun Y hY => by
        rw [e2]
        exact standing_any Y (f ln) bp kp bc kc (r2.later (hb.trans (hY.mono hb.size))) lc h64.chan (ho.ris ln) (ho.len ln)⟩
      have HC : Bx (∀ Y, Below W.heap.size W Y → (Y.cell? ⟨w.heap.size, 0, none⟩ = some (.int .i64 lr) ∧ Y.cell? ⟨w.heap.size, 1, none⟩ = some (.int .i64 ln) ∧ Y.cell? ⟨w.heap.size, 2, none⟩ = some (.int .i64 lc)) ∧ (Instr.lookup 61 (.map (some mb)) (.int .i64 lr) false).run Try.prog Y = .ok (M lr) Y ∧ (Instr.lookup 61 (.map (some mb)) (.int .i64 ln) false).run Try.prog Y = .ok (M ln) Y) := ⟨fun Y hY => by
        have e := (hY.block w.heap.size (Array.getElem?_eq_some_iff.1 hbk).1).trans hbk
        have hmY := hm.below (hb.trans (hY.mono hb.size))
        exact ⟨⟨cell_of e rfl, cell_of e rfl, cell_of e rfl⟩, hmY.look Try.underlying61 Try.zeroValue53 h64.waker, hmY.look Try.underlying61 Try.zeroValue53 h64.woken⟩⟩
      have T1 : Bx True := ⟨trivial⟩
      rw [← hW] at c0 c1
      clear hW hbk hb h1 h2 hm hv ho e1 e2 r1 r2 h64
      generalize M lr = v1 at *
      generalize M ln = v2 at *
      generalize standI (f lr) lc = s1 at *
      generalize standI (f ln) lc = s2 at *
      go_enter Try.func36, Try.ntmps36
      go_wp2
      rw [HW.out]
      clear c0 c1
      go_region_held3 (fun Y => (Y.cell? ⟨w.heap.size, 0, none⟩ = some (.int .i64 lr) ∧ Y.cell? ⟨w.heap.size, 1, none⟩ = some (.int .i64 ln) ∧ Y.cell? ⟨w.heap.size, 2, none⟩ = some (.int .i64 lc)) ∧ (Instr.lookup 61 (.map (some mb)) (.int .i64 lr) false).run Try.prog Y = .ok v1 Y ∧ (Instr.lookup 61 (.map (some mb)) (.int .i64 ln) false).run Try.prog Y = .ok v2 Y)
        (first | exact HC.out _ hz3 | exact HC.out _ hz2 | exact HC.out _ hz1 | exact HC.out _ ((Below.refl _ _).drew))
        (first
          | (go_at_call 55; clear T1; refine Calls.mono (HS1.out _ ((Below.refl _ _).drew)) ?_; rintro e w1 ⟨rfl, hb1⟩; have hz1 : Below W.heap.size W w1 := ((Below.refl _ _).drew).trans hb1; clear hb1)
          | (go_at_call 55; refine Calls.mono (HS2.out _ hz1) ?_; rintro e w2 ⟨rfl, hb2⟩; have hz2 : Below W.heap.size W w2 := hz1.trans (hb2.mono hz1.size); clear hb2)
          | (go_at_call 56; refine Calls.mono (wakes_any s1 s2 _) ?_; rintro e w3 ⟨rfl, hb3⟩; have hz3 : Below W.heap.size W w3 := hz2.trans (hb3.mono hz2.size); clear hb3))
      all_goals
        go_wp2
        go_ret
        exact ⟨by rw [HE.out]; rfl, HB.out.trans (hz3.mono HB.out.size)⟩
theorem whoI_all (P : Ag → Prop) (h0 : ∀ k, P (who0 k)) : ∀ (s : List Ag), (∀ a ∈ s, P a) → ∀ k, P (whoI s k) := by
  have key : ∀ (s : List Ag) (g : Int → Ag), (∀ k, P (g k)) → (∀ a ∈ s, P a) → ∀ k, P (s.foldl (fun f a => upd f a.id a) g k) := by
    intro s
    induction s with
    | nil => intro g hg _ k; exact hg k
    | cons a r ih =>
      intro g hg hs k
      refine ih _ (fun d => ?_) (fun b hb => hs b (List.mem_cons_of_mem _ hb)) k
      by_cases e : d = a.id
      · subst e; show P (upd g a.id a a.id); rw [upd_same]; exact hs a List.mem_cons_self
      · show P (upd g a.id a d); rw [upd_other _ _ e]; exact hg d
  intro s hs k
  exact key s who0 h0 hs k
theorem ags_all : ∀ (s : List Ag) (k : Int), agsF k s = true → ∀ a ∈ s, agOk a = true
  | [], k, _, a, h => by cases h
  | b :: r, k, hs, a, h => by
    rw [agsF, Bool.and_eq_true, Bool.and_eq_true] at hs
    rcases List.mem_cons.1 h with rfl | h
    · exact hs.1.2
    · exact ags_all r b.id hs.2 a h
theorem ag_ris {a : Ag} (h : agOk a = true) : risI a.held = true := by
  unfold agOk at h
  rw [Bool.and_eq_true, Bool.and_eq_true] at h
  exact h.1.2
theorem who_ok {s : List Ag} (h : stOk s = true) (hz : Few s) : WhoOk (whoI s) := by
  unfold stOk at h
  rw [Bool.and_eq_true] at h
  refine ⟨fun k => ?_, fun k => ?_⟩
  · refine whoI_all (fun a => a.awake = true → risI a.held = true) (fun k => ?_) s (fun a ha _ => ag_ris (ags_all s _ h.2 a ha)) k
    unfold who0
    split <;> simp [wA, zA]
  · refine whoI_all (fun a => a.held.length ≤ 2147483647) (fun k => ?_) s (fun a ha => (hz a ha).1) k
    unfold who0
    split <;> simp [wA, zA]
theorem st_len {s : List Ag} (h : stOk s = true) : s.length ≤ 4096 := by
  unfold stOk at h
  rw [Bool.and_eq_true] at h
  simpa using h.1
set_option maxRecDepth 100000 in
set_option maxHeartbeats 16000000 in
theorem Fits_yes (w : World) (p : Option Addr) (c : Nat) (s : List Ag) (l : Lk) (h : AgsR w p c s) (hz : Few s) (h64 : Lk64 l) (hok : stOk s = true) :
    Calls Try.prog 10 #[.slice p s.length c, lkV l] w fun e w' => e = .returned (.bool (fitsF (whoI s) l)) ∧ Below w.heap.size w w' := by
  obtain ⟨lr, ln, lc⟩ := l
  simp only [lkV]
  obtain ⟨W, hW⟩ : ∃ W, w.alloc (.cells #[.int .i64 lr, .int .i64 ln, .int .i64 lc] 24) = W := ⟨_, rfl⟩
  have hb : Below w.heap.size w W := by rw [← hW]; exact below1 _ _
  have hbk : W.heap[w.heap.size]? = some (.cells #[.int .i64 lr, .int .i64 ln, .int .i64 lc] 24 (0, 0)) := by rw [← hW]; exact World.alloc_heap_new _ _
  have HB : Bx (Below w.heap.size w W) := ⟨hb⟩
  have HW : Bx (_ = W) := ⟨hW⟩
  have HC : Bx (∀ Y, Below W.heap.size W Y → Y.cell? ⟨w.heap.size, 0, none⟩ = some (.int .i64 lr) ∧ Y.cell? ⟨w.heap.size, 1, none⟩ = some (.int .i64 ln) ∧ Y.cell? ⟨w.heap.size, 2, none⟩ = some (.int .i64 lc)) := ⟨fun Y hY => by
    have e := (hY.block w.heap.size (Array.getElem?_eq_some_iff.1 hbk).1).trans hbk
    exact ⟨cell_of e rfl, cell_of e rfl, cell_of e rfl⟩⟩
  have HK : Bx (∀ Y, Below W.heap.size W Y → Calls Try.prog 9 #[.slice p s.length c] Y fun e w' => e = .returned (.int .i64 (chkI s)) ∧ Below Y.heap.size Y w') := ⟨fun Y hY => Check_any Y p c s (h.later (hb.trans (hY.mono hb.size))) hz⟩
  have hck : chkI s = 0 := by simp [chkI, hok]
  rw [hck] at HK
  have HI : Bx (∀ Y, Below W.heap.size W Y → Calls Try.prog 37 #[.slice p s.length c] Y (IdPost Y s)) := ⟨fun Y hY => byId_any Y p c s (h.later (hb.trans (hY.mono hb.size))) (st_len hok)⟩
  have HWO : Bx (WhoOk (whoI s)) := ⟨who_ok hok hz⟩
  have H64 : Bx (Lk64 ⟨lr, ln, lc⟩) := ⟨h64⟩
  clear hW hbk hb h hz h64 hck
  go_enter Try.func10, Try.ntmps10
  go_wp2
  rw [HW.out]
  go_region_held3 (fun Y => Y.cell? ⟨w.heap.size, 0, none⟩ = some (.int .i64 lr) ∧ Y.cell? ⟨w.heap.size, 1, none⟩ = some (.int .i64 ln) ∧ Y.cell? ⟨w.heap.size, 2, none⟩ = some (.int .i64 lc))
    (first | exact HC.out _ hz3 | exact HC.out _ hz2 | exact HC.out _ hz1 | exact HC.out _ ((Below.refl _ _).drew))
    (first
      | (go_at_call 9; refine Calls.mono (HK.out _ ((Below.refl _ _).drew)) ?_; rintro e w1 ⟨rfl, hb1⟩; have hz1 : Below W.heap.size W w1 := ((Below.refl _ _).drew).trans hb1; clear hb1)
      | (go_at_call 37; refine Calls.mono (HI.out _ hz1) ?_; rintro e w2 ⟨mb, n2, M2, rfl, hm2, hv2, _, _, hb2⟩; have hz2 : Below W.heap.size W w2 := hz1.trans (hb2.mono hz1.size); have HM2 : Bx (MpI w2 mb n2 zV M2 (hasI s) ∧ WhoV w2 (whoI s) M2) := ⟨hm2, hv2⟩; clear hb2 hm2 hv2)
      | (go_at_call 36; refine Calls.mono (fits_any w2 mb n2 M2 (hasI s) (whoI s) ⟨lr, ln, lc⟩ HM2.out.1 HM2.out.2 HWO.out H64.out) ?_; rintro e w3 ⟨rfl, hb3⟩; have hz3 : Below W.heap.size W w3 := hz2.trans (hb3.mono hz2.size); clear hb3))
  all_goals
    go_wp2
    go_ret
    exact ⟨rfl, HB.out.trans (hz3.mono HB.out.size)⟩
end Go.Proofs.Ytjabdhmkibahlaa
namespace Go.Proofs.Ytjabdhmkibahlaa
open Go.RowKit Go.MapKept Go.ChangeMaps Go.WideShapes
set_option linter.unusedVariables false
set_option linter.unusedSimpArgs false

/-! ### maps by stances -/
theorem out_laid : laidOutB Try.prog = true := by kernel_rfl
theorem lawS : WideMaps.KeyLaw Try.prog 72 := deep_law_laid out_laid (m := 4) (by omega) (by decide +kernel) (by kernel_rfl) (by kernel_rfl)
theorem keyedS : Maps.Keyed Try.prog 72 := Maps.Keyed.of_law lawS
theorem keyS (s : Stc) : ∃ kl, keyOf Try.prog 72 (stV s) = some kl := by
  have h : (keyOf Try.prog 72 (stV s)).isSome = true := by
    obtain ⟨a, b, c⟩ := s
    cases a <;> cases b <;> cases c <;> kernel_rfl
  exact Option.isSome_iff_exists.1 h
theorem stV_inj {s t : Stc} (h : stV s = stV t) : s = t := by
  obtain ⟨a, b, c⟩ := s
  obtain ⟨d, e, f⟩ := t
  simp [stV] at h
  obtain ⟨rfl, rfl, rfl⟩ := h
  rfl
theorem keyS_ne {s t : Stc} {k l : Lit} (hk : keyOf Try.prog 72 (stV s) = some k) (hl : keyOf Try.prog 72 (stV t) = some l) (h : s ≠ t) : k ≠ l := fun e => h (stV_inj (keyedS.inj hk (e ▸ hl)))
def nV : Value := .slice none 0 0
structure MpS (W : World) (mb n : Nat) (M : Stc → Value) (hs : Stc → Bool) : Prop where
  ex : ∃ D, W.ownsMap Try.prog 72 Rw mb n D ∧ (∀ c kl, keyOf Try.prog 72 (stV c) = some kl → D.atKey kl (.held nV) = .held (M c) ∧ Maps.has D kl = hs c) ∧ ∀ kl, Maps.has D kl = true → ∃ c, keyOf Try.prog 72 (stV c) = some kl
theorem ms_new (W : World) : MpS (W.alloc (.map #[] 0)) W.heap.size 0 (fun _ => nV) (fun _ => false) :=
  ⟨_, World.ownsMap_made W Try.prog 72 Rw, fun c kl _ => ⟨rfl, rfl⟩, fun kl h => by simp [Maps.has] at h⟩
theorem MpS.same {W W' : World} {mb n : Nat} {M : Stc → Value} {hs : Stc → Bool} (h : MpS W mb n M hs) (hg : W'.heap[mb]? = W.heap[mb]?) : MpS W' mb n M hs := by
  obtain ⟨D, ⟨es, clock, h0, h3⟩, h2, h4⟩ := h.ex
  exact ⟨D, ⟨es, clock, hg.trans h0, h3⟩, h2, h4⟩
theorem MpS.lt {W : World} {mb n : Nat} {M : Stc → Value} {hs : Stc → Bool} (h : MpS W mb n M hs) : mb < W.heap.size := by
  obtain ⟨D, h1, _⟩ := h.ex
  exact h1.lt
theorem MpS.mono {W : World} {mb n m : Nat} {M : Stc → Value} {hs : Stc → Bool} (h : MpS W mb n M hs) (hn : n ≤ m) : MpS W mb m M hs := by
  obtain ⟨D, h1, h2⟩ := h.ex
  exact ⟨D, h1.mono hn, h2⟩
theorem MpI.mono {W : World} {mb n m : Nat} {z : Value} {M : Int → Value} {hs : Int → Bool} (h : MpI W mb n z M hs) (hn : n ≤ m) : MpI W mb m z M hs := by
  obtain ⟨D, h1, h2⟩ := h.ex
  exact ⟨D, h1.mono hn, h2⟩
def updS {α : Type} (f : Stc → α) (c : Stc) (x : α) : Stc → α := fun d => if d.awake = c.awake ∧ d.sends = c.sends ∧ d.recvs = c.recvs then x else f d
theorem updS_same {α : Type} (f : Stc → α) (c : Stc) (x : α) : updS f c x c = x := if_pos ⟨rfl, rfl, rfl⟩
theorem updS_other {α : Type} (f : Stc → α) {c d : Stc} (x : α) (h : d ≠ c) : updS f c x d = f d := if_neg (fun e => h (by
  obtain ⟨a, b, c⟩ := c
  obtain ⟨d1, d2, d3⟩ := d
  simp only at e
  obtain ⟨rfl, rfl, rfl⟩ := e
  rfl))
theorem MpS.put {W : World} {mb n : Nat} {M : Stc → Value} {hs : Stc → Bool} (h : MpS W mb n M hs) (c : Stc) (hn : n < maxLen) (v : Value) :
    ∃ w', (Instr.mapUpdate 75 (.map (some mb)) (stV c) v).run Try.prog W = .ok () w' ∧ MpS w' mb (n + 1) (updS M c v) (updS hs c true) ∧ W.grownBy w' (some mb) := by
  obtain ⟨D, h1, h2, h3⟩ := h.ex
  obtain ⟨kc, hkc⟩ := keyS c
  obtain ⟨w', hr, h4, h5⟩ := h1.update keyedS Try.underlying75 hn (val := v) (d := .held v) (ps := []) hkc rfl
  refine ⟨w', hr, ⟨_, h4, fun d kl hkl => ?_, fun kl hkl => ?_⟩, h5⟩
  · by_cases e : d = c
    · subst e
      rw [hkc] at hkl
      cases hkl
      rw [updS_same, updS_same, Maps.atKey_put_same h1.isMap (keyedS.key hkc), Maps.has_put_same h1.isMap (keyedS.key hkc)]
      exact ⟨rfl, rfl⟩
    · rw [updS_other _ _ e, updS_other _ _ e, Maps.atKey_put_other (keyS_ne hkl hkc e), Maps.has_put_other (keyS_ne hkl hkc e)]
      exact h2 d kl hkl
  · by_cases e : kl = kc
    · exact ⟨c, by rw [e]; exact hkc⟩
    · rw [Maps.has_put_other e] at hkl
      exact h3 kl hkl
/-- m[k] = append(m[k], ..): the entry, and its store -/
theorem MpS.entry {W : World} {mb n : Nat} {M : Stc → Value} {hs : Stc → Bool} (h : MpS W mb n M hs) (c : Stc) (hn : n < maxLen) :
    ∃ (st : Nat) (W1 : World), (Instr.mapEntry 75 (.map (some mb)) (stV c)).run Try.prog W = .ok (.tuple #[M c, goInt st]) W1 ∧ W.grownBy W1 (some mb) ∧ W1.heap.size = W.heap.size ∧
      ∀ (w2 : World) (val : Value), w2.heap[mb]? = W1.heap[mb]? → ∃ w3, (Instr.entryStore 75 (.map (some mb)) (goInt st) val).run Try.prog w2 = .ok () w3 ∧ MpS w3 mb (n + 1) (updS M c val) (updS hs c true) ∧ w2.grownBy w3 (some mb) ∧ w3.heap.size = w2.heap.size := by
  have hput := fun v => h.put c hn v
  obtain ⟨kc, hkc⟩ := keyS c
  obtain ⟨D, ⟨es, clock, hb, F, hsz, hD⟩, h2, _⟩ := h.ex
  obtain ⟨v0, st, es1, clock1, hr, hv, hst⟩ := WideElems.entry_then_store lawS Try.underlying75 (z := nV) Try.zeroValue45 hb F hkc
  have hl := (Array.getElem?_eq_some_iff.1 hb).1
  have hv0 : v0 = M c := by
    have hat := (h2 c kc hkc).1
    rw [hD] at hat
    rcases Maps.fit_look false keyedS Try.underlying75 (Try.zeroValue45 W) hb F hkc with ⟨_, hno, ha⟩ | ⟨e0, y, he0, hk0, _, hRv, ha, _⟩
    · rw [ha] at hat
      rcases hv with ⟨e1, he1, hk1, _⟩ | ⟨_, rfl⟩
      · exact absurd hk1 (hno e1 he1)
      · exact DataW.held.inj hat
    · rw [ha] at hat
      have hy : y.1 = .held e0.val := by
        have : some ((DataW.held e0.val : DataW Value), ([] : List MemPlace)) = some y := hRv
        rw [← Option.some.inj this]
      rw [hy] at hat
      rcases hv with ⟨e1, he1, hk1, rfl⟩ | ⟨hno, _⟩
      · have := entry_eq_of_key ((MapKept.stamped_iff es clock).1 F.stamped).2.2 he1 he0 (hk1.trans hk0.symm)
        rw [this]
        exact DataW.held.inj hat
      · exact absurd hk0 (hno e0 he0)
  subst hv0
  refine ⟨st, _, hr, ?_, by simp [setBlock], fun w2 val hw2 => ?_⟩
  · exact ⟨rfl, rfl, rfl, by simp [setBlock], fun i _ hi => heap_setBlock_other hb _ (fun e => hi (by rw [e]))⟩
  · have e1 : (setBlock W mb (.map es1 clock1)).heap[mb]? = some (.map es1 clock1) := heap_setBlock_same hb _
    rw [e1] at hw2
    obtain ⟨es', clock', hr2, hu⟩ := hst w2 val hw2
    obtain ⟨w', hu2, hm', hg'⟩ := hput val
    rw [hu] at hu2
    injection hu2 with _ hu2
    subst hu2
    refine ⟨_, hr2, hm'.same ?_, ⟨rfl, rfl, rfl, by simp [setBlock], fun i _ hi => heap_setBlock_other hw2 _ (fun e => hi (by rw [e]))⟩, by simp [setBlock]⟩
    rw [heap_setBlock_same hw2, heap_setBlock_same hb]
end Go.Proofs.Ytjabdhmkibahlaa
