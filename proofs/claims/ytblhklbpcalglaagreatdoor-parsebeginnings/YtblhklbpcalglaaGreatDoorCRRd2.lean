import Derived.Test.YtblhklbpcalglaaGreatDoorCRPgm
import Derived.Test.YtblhklbpcalglaaGreatDoorCNext
namespace Go.Proofs.YtblhklbpcalglaaGreatDoor
open Go.RowKit
set_option linter.unusedVariables false
set_option linter.unusedSimpArgs false
def withEnd (toks : List Tok) (n : Nat) : List Tok := toks ++ [⟨0, n, 0, 0⟩]
def Kx (v : Value) (w w' : World) : Prop := ∀ y, y < w.heap.size → v.ownBlock ≠ some y → w'.heap[y]? = w.heap[y]?
def ReadP (w : World) (base : Nat) (v : Value) (R : Res) (e : Ending) (w' : World) : Prop :=
  match R with
  | .ok ts s' => ∃ nv rb, e = .returned (.tuple #[nv, .agg #[.int .i64 0, .int .i64 0]]) ∧ NodesO (fun _ => False) w' rb nv (flats ts 0) ∧ w.heap.size ≤ rb ∧ Below base w w' ∧ Kx v w w'
  | .err s' => e = .returned (.tuple #[.slice none 0 0, .agg #[.int .i64 (hd s').place, .int .i64 30]]) ∧ Below base w w' ∧ Kx v w w'
  | .out => False
theorem toks_row {w : World} {base g cap : Nat} {l : List Tok} (h : w.ownsRow base 34 4 (.slice (some ⟨g, 0, none⟩) l.length cap) l.length (toksC l)) : Toks w g l := by
  rcases h.2 with ⟨e, _⟩ | ⟨g', cap', cur, e, h1, h2, h3, h4, h5, h6⟩
  · cases e
  · cases e
    refine ⟨(Array.getElem?_eq_some_iff.1 h2).1, fun j hj => ?_⟩
    have key : ∀ (l : List Tok) (j : Nat) (hj : j < l.length), (toksC l)[j * 4]? = some (.int .i64 l[j].kind) ∧ (toksC l)[j * 4 + 1]? = some (.int .i64 l[j].place) ∧ (toksC l)[j * 4 + 2]? = some (.int .i64 l[j].len) ∧ (toksC l)[j * 4 + 3]? = some (.int .i64 l[j].num) := by
      intro l
      induction l with
      | nil => intro j hj; simp at hj
      | cons t r ih =>
        intro j hj
        have e1 : toksC (t :: r) = tokC t ++ toksC r := by simp [toksC]
        cases j with
        | zero => rw [e1]; exact ⟨rfl, rfl, rfl, rfl⟩
        | succ j =>
          have := ih j (by simpa using hj)
          have hl : (tokC t).length = 4 := rfl
          rw [e1, show (j + 1) * 4 = 4 + j * 4 by omega]
          rw [List.getElem?_append_right (by omega), List.getElem?_append_right (by omega), List.getElem?_append_right (by omega), List.getElem?_append_right (by omega), hl]
          rw [show 4 + j * 4 - 4 = j * 4 by omega, show 4 + j * 4 + 1 - 4 = j * 4 + 1 by omega, show 4 + j * 4 + 2 - 4 = j * 4 + 2 by omega, show 4 + j * 4 + 3 - 4 = j * 4 + 3 by omega]
          simpa using this
    have hc : ∀ o u, (toksC l)[o]? = some u → w.cell? ⟨g, o, none⟩ = some u := fun o u hu => by
      rw [← h6] at hu
      have ho : o < l.length * 4 := by
        have := (List.getElem?_eq_some_iff.1 hu).1
        simp at this
        omega
      rw [List.getElem?_take_of_lt ho, Array.getElem?_toList] at hu
      simp [World.cell?, h2, hu]
    obtain ⟨k0, k1, k2, k3⟩ := key l j hj
    exact ⟨hc _ _ k0, hc _ _ k1, hc _ _ k2, hc _ _ k3⟩
theorem NodesO.kept {W W' : World} {rb : Nat} {nv : Value} {ns : List Nd} (h : NodesO (fun _ => False) W rb nv ns) (hk : ∀ y o, rb < y → W.heap[y]? = some o → W'.heap[y]? = some o) : NodesO (fun _ => False) W' rb nv ns := by
  obtain ⟨ks, h1, h2, h3⟩ := h.ex
  have own : ∀ {e : TypeId} {s : Nat} {v : Value} {n : Nat} {cs : List Value}, W.ownsRow (rb + 1) e s v n cs → W'.ownsRow (rb + 1) e s v n cs := fun h => by
    refine ⟨h.1, ?_⟩
    rcases h.2 with q | ⟨g, cap, cur, e, q1, q2, q3⟩
    · exact .inl q
    · exact .inr ⟨g, cap, cur, e, q1, hk g _ (by omega) q2, q3⟩
  exact ⟨ks, h1, own h2, fun j hj hj' => ⟨own (h3 j hj hj').1, (h3 j hj hj').2⟩⟩
theorem tok_news (X : World) (H : Nat) (hH : X.heap.size = H) (a b c d : Value) : ∀ (j : Nat) (u : Value), [a, b, c, d][j]? = some u → (X.alloc (.cells #[a, b, c, d] 34)).cell? ((⟨H, 0, none⟩ : Addr).add j) = some u := by
  subst hH
  exact World.news_of_block (w := X.alloc (.cells #[a, b, c, d] 34)) (cs := #[a, b, c, d]) (heap_alloc_new X (.cells #[a, b, c, d] 34))
theorem NodesO.form {U : Nat → Prop} {W : World} {rb : Nat} {nv : Value} {ns : List Nd} (h : NodesO U W rb nv ns) : ∃ a n c, nv = .slice a n c := by
  obtain ⟨ks, _, h2, _⟩ := h.ex
  rcases h2.2 with ⟨e, _⟩ | ⟨g, cap, cur, e, _⟩
  · exact ⟨_, _, _, e⟩
  · exact ⟨_, _, _, e⟩
set_option maxRecDepth 100000 in
set_option maxHeartbeats 4000000 in
theorem read_any (w : World) (hL : Laid w) (base : Nat) (a : Option Addr) (cap : Nat) (xs : List UInt8) (hs : ∀ w', Below base w w' → IsSrc w' a cap xs ∧ Laid w') (hlo : 0 < xs.length → ∀ b o, a = some ⟨b, o, none⟩ → b < base) (hlen : xs.length ≤ 65536) (v : Value) (toks : List Tok) (hv : w.ownsRow base 34 4 v toks.length (toksC toks)) (hb7 : 7 ≤ base) (hbw : base ≤ w.heap.size) (hn : toks.length ≤ 65536) (hK : Kinds (withEnd toks xs.length)) (hin : ∀ i (h : i < (withEnd toks xs.length).length), (withEnd toks xs.length)[i].kind ≠ 0 → 1 ≤ (withEnd toks xs.length)[i].len ∧ (withEnd toks xs.length)[i].place + (withEnd toks xs.length)[i].len ≤ xs.length) {f : Nat} (hne : pF (f + 1) .program (pts xs (withEnd toks xs.length) 0) ≠ .out) :
    Calls Tryz.prog 8 #[.slice a xs.length cap, v] w (ReadP w base v (pF (f + 1) .program (pts xs (withEnd toks xs.length) 0))) := by
  obtain ⟨i0, hi, hz0, hz1, hz2⟩ := info_parts info40
  have hmf : ∀ (fn : Fn) (first cap : Array Value) (w : World), (Instr.makeFunc fn first cap).run Tryz.prog w = .ok (.func fn first cap) w := fun _ _ _ _ => rfl
  have hcap : xs.length ≤ cap := (hs w (Below.refl _ _)).1.cap_
  have hmax := (hs w (Below.refl _ _)).1.max_
  obtain ⟨W1, hW1⟩ : ∃ W1, (w.alloc (Obj.cells #[.slice none 0 0] 24)).alloc (Obj.cells #[.int .i64 0, .int .i64 0] 27) = W1 := ⟨_, rfl⟩
  have hb1 : Below w.heap.size w W1 := by rw [← hW1]; exact (below1 _ _).trans ((below1 _ _).mono (by simp))
  have hz : W1.heap.size = w.heap.size + 2 := by rw [← hW1]; simp
  have HV : Bx (W1.ownsRow base 34 4 v toks.length (toksC toks)) := ⟨owns_bel hv hb1⟩
  have HZ : Bx (W1.heap.size = w.heap.size + 2) := ⟨hz⟩
  have hTLl : (withEnd toks xs.length).length = toks.length + 1 := by simp [withEnd]
  have HP : Bx (∀ g cp w4 W5, w4.ownsRow base 34 4 (.slice (some ⟨g, 0, none⟩) (toks.length + 1) cp) (toks.length + 1) (toksC toks ++ [.int .i64 0, .int .i64 (xs.length : Int), .int .i64 0, .int .i64 0]) → (W1.alloc (.cells #[.int .i64 0, .int .i64 (xs.length : Int), .int .i64 0, .int .i64 0] 34)).grownBy w4 v.ownBlock → g < w4.heap.size → w4.alloc (rdO (.slice a xs.length cap) (.slice (some ⟨g, 0, none⟩) (toks.length + 1) cp) 0 (.slice none 0 0)) = W5 →
      Calls Tryz.prog 13 #[.pointer (some ⟨w4.heap.size, 0, none⟩)] W5 (PostG W5 w4.heap.size (.slice a xs.length cap) (.slice (some ⟨g, 0, none⟩) (toks.length + 1) cp) (fun _ => False) W5 [] (pF (f + 1) .program (pts xs (withEnd toks xs.length) 0))) ∧ (Below base w W5 ∧ base ≤ w4.heap.size ∧ w.heap.size + 2 ≤ w4.heap.size ∧ Kx v w W5) ∧ ∀ W6, Below w4.heap.size W5 W6 → W6.cell? ⟨w.heap.size, 0, none⟩ = some (.slice none 0 0) ∧ W6.cell? ⟨w.heap.size + 1, 0, none⟩ = some (.int .i64 0) ∧ W6.cell? ⟨w.heap.size + 1, 1, none⟩ = some (.int .i64 0) ∧ W6.frozen? ⟨w.heap.size, 0, none⟩ = false ∧ W6.frozen? ⟨w.heap.size + 1, 0, none⟩ = false ∧ W6.frozen? ⟨w.heap.size + 1, 1, none⟩ = false) := ⟨fun g cp w4 W5 hown hgrow hlt4 hW5 => by
    have hown' : w4.ownsRow base 34 4 (.slice (some ⟨g, 0, none⟩) (withEnd toks xs.length).length cp) (withEnd toks xs.length).length (toksC (withEnd toks xs.length)) := by
      rw [hTLl, withEnd, toksC_snoc]
      exact hown
    have hTk := toks_row hown'
    have hgs := hgrow.size
    simp [hz] at hgs
    have hvb : ∀ y, v.ownBlock = some y → base ≤ y ∧ y < w.heap.size := fun y hy => hv.lt y hy
    have b14 : Below base w w4 := ((hb1.mono hbw).trans ((below1 W1 _).mono (by omega))).grown hgrow (by simp [hz]; omega) (fun y hy => (hvb y hy).1)
    have b45 : Below w4.heap.size w4 W5 := by rw [← hW5]; exact below1 _ _
    have b15 : Below base w W5 := b14.trans (b45.mono (by omega))
    have hrd : W5.heap[w4.heap.size]? = some (rdO (.slice a xs.length cap) (.slice (some ⟨g, 0, none⟩) (toks.length + 1) cp) 0 (.slice none 0 0)) := by rw [← hW5]; exact heap_alloc_new _ _
    have hcp : toks.length + 1 ≤ cp := by
      rcases hown.2 with ⟨e, _⟩ | ⟨_, _, _, e, _, _, h5, _⟩
      · cases e
      · cases e; exact h5
    have hkp : ∀ y o, y < w.heap.size + 2 → w.heap.size ≤ y → W1.heap[y]? = some o → W5.heap[y]? = some o := fun y o h1 h2 h3 => by
      rw [b45.block y (by omega), hgrow.block y (by simp [hz]; omega) (fun e => by have := hvb y e.symm; omega), (below1 W1 _).block y (by omega)]
      exact h3
    have p0 : W5.heap[w.heap.size]? = some (Obj.cells #[.slice none 0 0] 24) := hkp _ _ (by omega) (Nat.le_refl _) (by rw [← hW1]; exact (Below.heap_alloc _ _ _ (by simp)).trans (heap_alloc_new _ _))
    have p1 : W5.heap[w.heap.size + 1]? = some (Obj.cells #[.int .i64 0, .int .i64 0] 27) := hkp _ _ (by omega) (by omega) (by rw [← hW1]; have := heap_alloc_new (w.alloc (Obj.cells #[.slice none 0 0] 24)) (Obj.cells #[.int .i64 0, .int .i64 0] 27); simpa using this)
    have hT : RT W5 w4.heap.size (.slice a xs.length cap) (.slice (some ⟨g, 0, none⟩) (toks.length + 1) cp) (withEnd toks xs.length) xs := ⟨⟨g, cp, by rw [hTLl], hlt4, by omega, hTk.later b45⟩, (hs W5 b15).2, by omega, by omega, fun h0 => by
      obtain ⟨b, o, e, hbl, hsr⟩ := (hs W5 b15).1.at_ h0
      have := hlo h0 b o e
      exact ⟨b, o, cap, by rw [e], by omega, hcap, hsr⟩, hlen, hin⟩
    have hRS : RSs W5 w4.heap.size (.slice a xs.length cap) (.slice (some ⟨g, 0, none⟩) (toks.length + 1) cp) (withEnd toks xs.length) xs (fun _ => False) W5 (pts xs (withEnd toks xs.length) 0) [] := ⟨0, rfl, by omega, ⟨⟨_, hrd, ⟨[], rfl, World.ownsRow_nil _ _ _ _, fun j hj => by simp at hj⟩⟩, Below.refl _ _⟩, by simp, fun g hg => hg.elim⟩
    have hkx : Kx v w W5 := fun y hy hne => by
      rw [b45.block y (by omega), hgrow.block y (by simp [hz]; omega) (fun e => hne e.symm), (below1 W1 _).block y (by omega), hb1.block y hy]
    refine ⟨program_any hT hK (fun f' h => (all_rules hT hK f').tyn) (fun f' h => (all_rules hT hK f').stmt) hRS hne, ⟨b15, by omega, by omega, hkx⟩, fun W6 h6 => ?_⟩
    have q0 := (h6.block w.heap.size (by omega)).trans p0
    have q1 := (h6.block (w.heap.size + 1) (by omega)).trans p1
    refine ⟨?_, ?_, ?_, ?_, ?_, ?_⟩ <;> simp [World.cell?, World.frozen?, q0, q1]⟩
  have HNE : Bx _ := ⟨hne⟩
  clear hs hL hK hin hne hv hb1
  obtain ⟨R, hR⟩ : ∃ R, pF (f + 1) .program (pts xs (withEnd toks xs.length) 0) = R := ⟨_, rfl⟩
  rw [hR] at HP HNE ⊢
  clear hR
  match R, HP, HNE with
  | .out, HP, HNE => exact absurd rfl HNE.out
  | .err s', HP, HNE =>
    go_enter_defers Tryz.func8, Tryz.ntmps8
    go_wp2_with (first
      | (at_builtin; refine wpList_append_lies _ rfl (.tmp 9) (.tmp 13) 30 rfl base 34 i0 (.agg #[.int .i64 0, .int .i64 0, .int .i64 0, .int .i64 0]) 4 32 Tryz.underlying30 hi hz0 hz1 hz2 rfl (by decide) v toks.length (toksC toks) rfl (owns_bel HV.out (below1 W1 (.cells #[.int .i64 0, .int .i64 (xs.length : Int), .int .i64 0, .int .i64 0] 34))) ⟨w.heap.size + 2, 0, none⟩ 1 1 [.int .i64 0, .int .i64 (xs.length : Int), .int .i64 0, .int .i64 0] rfl rfl (tok_news W1 _ HZ.out _ _ _ _) (by simp [Value.oneCell']) (by decide) (by unfold maxLen; omega) (by omega) (by have := HZ.out; simp; omega) (w.heap.size + 3) (by have := HZ.out; simp; omega) ?_; intro g cp w4 hown hgrow hat hlt4; obtain ⟨W5, hW5⟩ : ∃ W5, w4.alloc (.cells #[.slice a xs.length cap, .slice (some ⟨g, 0, none⟩) (toks.length + 1) cp, .int .i64 0, .slice none 0 0] 46) = W5 := ⟨_, rfl⟩; have hp := HP.out g cp w4 W5 hown hgrow hlt4 hW5; have PC : Bx _ := ⟨hp⟩; have HW5 : Bx _ := ⟨hW5⟩; clear hown hgrow hat hp hW5)
      | (go_at_call 13; rw [HW5.out]; refine Calls.mono PC.out.1 ?_; rintro e W6 ⟨rfl, b6⟩; obtain ⟨d0, d1, d2, e0, e1, e2⟩ := PC.out.2.2 W6 b6; have B6 : Bx _ := ⟨b6⟩; clear b6; unfold faultP))
    refine leaves_cons (f := 12) (args := #[.pointer (some ⟨w.heap.size, 0, none⟩), .pointer (some ⟨w.heap.size + 1, 0, none⟩)]) (by simp) (by simp [go_sem]) ?_
    refine (catch_panicking w.heap.size (w.heap.size + 1) (hd s').place [] W6 _ _ _ d0 d1 d2 e0 e1 e2 (by omega)).mono ?_
    rintro e u' w'' ⟨rfl, rfl, rfl⟩
    simp [Leaves, settle, results, Tryz.results8, go_sem, d0, d1, d2]
    have hB6 := ((((Below.refl w.heap.size W6).setCell (p := ⟨w.heap.size, 0, none⟩) (Nat.le_refl _) (.slice none 0 0)).setCell (p := ⟨w.heap.size + 1, 0, none⟩) (by show w.heap.size ≤ w.heap.size + 1; omega) (.int .i64 (hd s').place)).setCell (p := ⟨w.heap.size + 1, 1, none⟩) (by show w.heap.size ≤ w.heap.size + 1; omega) (.int .i64 30)).drew
    have hr := PC.out.2.1.2.2.1
    have h56 := PC.out.2.1.2.2.2
    have hz5 : w4.heap.size ≤ w4.heap.size := Nat.le_refl _
    exact ⟨rfl, ((((PC.out.2.1.1.trans (B6.out.mono PC.out.2.1.2.1)).setCell (p := ⟨w.heap.size, 0, none⟩) hbw _).setCell (p := ⟨w.heap.size + 1, 0, none⟩) (by show base ≤ w.heap.size + 1; omega) _).setCell (p := ⟨w.heap.size + 1, 1, none⟩) (by show base ≤ w.heap.size + 1; omega) _).drew, fun y hy hne => (hB6.block y hy).trans ((B6.out.block y (by omega)).trans (h56 y hy hne))⟩
  | .ok ts s', HP, HNE =>
    go_enter_defers Tryz.func8, Tryz.ntmps8
    go_wp2_with (first
      | (at_builtin; refine wpList_append_lies _ rfl (.tmp 9) (.tmp 13) 30 rfl base 34 i0 (.agg #[.int .i64 0, .int .i64 0, .int .i64 0, .int .i64 0]) 4 32 Tryz.underlying30 hi hz0 hz1 hz2 rfl (by decide) v toks.length (toksC toks) rfl (owns_bel HV.out (below1 W1 (.cells #[.int .i64 0, .int .i64 (xs.length : Int), .int .i64 0, .int .i64 0] 34))) ⟨w.heap.size + 2, 0, none⟩ 1 1 [.int .i64 0, .int .i64 (xs.length : Int), .int .i64 0, .int .i64 0] rfl rfl (tok_news W1 _ HZ.out _ _ _ _) (by simp [Value.oneCell']) (by decide) (by unfold maxLen; omega) (by omega) (by have := HZ.out; simp; omega) (w.heap.size + 3) (by have := HZ.out; simp; omega) ?_; intro g cp w4 hown hgrow hat hlt4; obtain ⟨W5, hW5⟩ : ∃ W5, w4.alloc (.cells #[.slice a xs.length cap, .slice (some ⟨g, 0, none⟩) (toks.length + 1) cp, .int .i64 0, .slice none 0 0] 46) = W5 := ⟨_, rfl⟩; have hp := HP.out g cp w4 W5 hown hgrow hlt4 hW5; have PC : Bx _ := ⟨hp⟩; have HW5 : Bx _ := ⟨hW5⟩; clear hown hgrow hat hp hW5)
      | (go_at_call 13; rw [HW5.out]; refine Calls.mono PC.out.1 ?_; rintro e W6 ⟨⟨r6, rfl⟩, ⟨i6, q6⟩, k6⟩; obtain ⟨nv, hrd, hno⟩ := q6.rd; obtain ⟨na, nn, nc, rfl⟩ := hno.form; obtain ⟨c0, c1, c2, c3, hlt6⟩ := rd_cells hrd; obtain ⟨d0, d1, d2, e0, e1, e2⟩ := PC.out.2.2 W6 q6.bel; have NO : Bx _ := ⟨hno⟩; have B6 : Bx _ := ⟨q6.bel⟩; clear hrd hno q6))
    refine leaves_cons (f := 12) (args := #[.pointer (some ⟨w.heap.size, 0, none⟩), .pointer (some ⟨w.heap.size + 1, 0, none⟩)]) (by simp) (by simp [go_sem]) ?_
    refine (catch_idle ⟨w.heap.size, 0, none⟩ ⟨w.heap.size + 1, 0, none⟩ _).mono ?_
    rintro e u' w'' ⟨rfl, rfl, rfl⟩
    simp [Leaves, settle, results, Tryz.results8, go_sem, d0, d1, d2]
    have hr := PC.out.2.1.2.2.1
    have h56 := PC.out.2.1.2.2.2
    refine ⟨_, w4.heap.size, rfl, NodesO.kept (by simpa using NO.out) (fun y o hy ho => ?_), (by omega), (((PC.out.2.1.1.trans (B6.out.mono PC.out.2.1.2.1)).setCell (p := ⟨w.heap.size, 0, none⟩) hbw _).setCell (p := ⟨w.heap.size + 1, 0, none⟩) (by show base ≤ w.heap.size + 1; omega) _).setCell (p := ⟨w.heap.size + 1, 1, none⟩) (by show base ≤ w.heap.size + 1; omega) _, fun y hy hne => ?_⟩
    · rw [Below.heap_setCell _ _ _ _ (by show y ≠ w.heap.size + 1; omega), Below.heap_setCell _ _ _ _ (by show y ≠ w.heap.size + 1; omega), Below.heap_setCell _ _ _ _ (by show y ≠ w.heap.size; omega)]
      exact ho
    · rw [Below.heap_setCell _ _ _ _ (by show y ≠ w.heap.size + 1; omega), Below.heap_setCell _ _ _ _ (by show y ≠ w.heap.size + 1; omega), Below.heap_setCell _ _ _ _ (by show y ≠ w.heap.size; omega)]
      exact (B6.out.block y (by omega)).trans (h56 y hy hne)
end Go.Proofs.YtblhklbpcalglaaGreatDoor
namespace Go.Proofs.YtblhklbpcalglaaGreatDoor
open Go.RowKit
set_option linter.unusedVariables false
set_option linter.unusedSimpArgs false
theorem kindFrom_rng : ∀ (T : List (List UInt8)) (n : Nat) (t : List UInt8), kindFrom T n t ≠ 0 → n ≤ kindFrom T n t ∧ kindFrom T n t < n + T.length
  | [], n, t, h => absurd rfl h
  | s :: r, n, t, h => by
    simp only [kindFrom] at h ⊢
    split at h
    · rename_i h1
      rw [if_pos h1]
      simp only [List.length_cons]
      omega
    · rename_i h1
      rw [if_neg h1]
      have ih := kindFrom_rng r (n + 1) t h
      simp only [List.length_cons]
      omega
theorem next_kind (xs : List UInt8) (k : Nat) (t : Tok) (h : nextR xs k = (t, 0)) : t.kind = 1 ∨ t.kind = 2 ∨ (10 ≤ t.kind ∧ t.kind < 31) ∨ (40 ≤ t.kind ∧ t.kind < 67) := by
  unfold nextR at h
  split at h
  · unfold wordR at h
    split at h
    · rename_i n1
      have e := (Prod.mk.inj h).1
      subst e
      have := kindFrom_rng wordsT 10 _ n1
      have hl : wordsT.length = 21 := rfl
      right; right; left
      simp only
      unfold wordK
      omega
    · split at h
      · simp at h
      · have e := (Prod.mk.inj h).1
        subst e
        exact .inl rfl
  · split at h
    · unfold numR at h
      split at h
      · simp at h
      · split at h
        · simp at h
        · split at h
          · have e := (Prod.mk.inj h).1
            subst e
            exact .inr (.inl rfl)
          · simp at h
    · unfold signR at h
      split at h
      · simp at h
      · rename_i n1
        have e := (Prod.mk.inj h).1
        subst e
        right; right; right
        simp only
        rcases (bestFrom_spec (xs.drop k) signsT 40 (0, 0)).2.2 with h3 | ⟨i, a1, a2, a3, a4⟩
        · exfalso
          apply n1
          unfold bestS
          rw [h3]
        · have hl : signsT.length = 27 := rfl
          unfold bestS
          omega
theorem covers_all (xs : List UInt8) : ∀ (l : List Tok) (k : Nat), Covers xs k l → ∀ i (h : i < l.length), (l[i].kind = 1 ∨ l[i].kind = 2 ∨ (10 ≤ l[i].kind ∧ l[i].kind < 31) ∨ (40 ≤ l[i].kind ∧ l[i].kind < 67)) ∧ 1 ≤ l[i].len ∧ l[i].place + l[i].len ≤ xs.length
  | [], _, _, i, h => by simp at h
  | t :: r, k, hc, i, h => by
    obtain ⟨q1, q2, q3, q4⟩ := hc
    have hlen := nextR_len xs t.place q2 (by rw [q3])
    rw [q3] at hlen
    match i with
    | 0 => exact ⟨next_kind xs _ _ q3, hlen⟩
    | i + 1 => exact covers_all xs r _ q4 i (by simpa using h)
theorem covers_len (xs : List UInt8) : ∀ (l : List Tok) (k : Nat), k ≤ xs.length → Covers xs k l → l.length + k ≤ xs.length
  | [], k, hk, hc => by simpa using hk
  | t :: r, k, hk, hc => by
    obtain ⟨q1, q2, q3, q4⟩ := hc
    have hlen := nextR_len xs t.place q2 (by rw [q3])
    rw [q3] at hlen
    simp only at hlen
    have hs := skipTo_le xs k hk
    have ih := covers_len xs r _ hlen.2 q4
    simp only [List.length_cons]
    omega
theorem scan_kinds (xs : List UInt8) (h : (scanAll xs).2.2 = 0) : Kinds (withEnd (scanAll xs).1 xs.length) ∧ (scanAll xs).1.length ≤ 65536 ∧ xs.length ≤ 65536 ∧
    ∀ i (h : i < (withEnd (scanAll xs).1 xs.length).length), (withEnd (scanAll xs).1 xs.length)[i].kind ≠ 0 → 1 ≤ (withEnd (scanAll xs).1 xs.length)[i].len ∧ (withEnd (scanAll xs).1 xs.length)[i].place + (withEnd (scanAll xs).1 xs.length)[i].len ≤ xs.length := by
  obtain ⟨hc, hl⟩ := scan_covers xs h
  generalize (scanAll xs).1 = l at hc ⊢
  have ha := covers_all xs l 0 hc
  have hn := covers_len xs l 0 (Nat.zero_le _) hc
  have key : ∀ i (h : i < (withEnd l xs.length).length), (∃ h2 : i < l.length, (withEnd l xs.length)[i] = l[i]) ∨ (i = l.length ∧ (withEnd l xs.length)[i] = ⟨0, xs.length, 0, 0⟩) := by
    intro i h
    by_cases h2 : i < l.length
    · left
      refine ⟨h2, ?_⟩
      simp [withEnd, List.getElem_append, h2]
    · right
      have hi : i = l.length := by simp [withEnd] at h; omega
      refine ⟨hi, ?_⟩
      subst hi
      simp [withEnd]
  have hlen : (withEnd l xs.length).length = l.length + 1 := by simp [withEnd]
  refine ⟨⟨?_, ?_⟩, by omega, hl, ?_⟩
  · intro i h
    rcases key i h with ⟨h2, e⟩ | ⟨e1, e⟩
    · rw [e]; exact .inr (ha i h2).1
    · rw [e]; exact .inl rfl
  · intro i h
    rcases key i h with ⟨h2, e⟩ | ⟨e1, e⟩
    · rw [e]
      have := (ha i h2).1
      constructor
      · intro h0; omega
      · intro h0; omega
    · rw [e]
      constructor
      · intro _; omega
      · intro _; rfl
  · intro i h h0
    rcases key i h with ⟨h2, e⟩ | ⟨e1, e⟩
    · rw [e]; exact (ha i h2).2
    · rw [e] at h0; exact absurd rfl h0
end Go.Proofs.YtblhklbpcalglaaGreatDoor
