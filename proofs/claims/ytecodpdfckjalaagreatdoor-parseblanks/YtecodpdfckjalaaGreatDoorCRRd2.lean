import Derived.Test.YtecodpdfckjalaaGreatDoorCPN
import Derived.Test.YtecodpdfckjalaaGreatDoorCNext
namespace Go.Proofs.YtecodpdfckjalaaGreatDoor
open Go.RowKit
set_option linter.unusedVariables false
set_option linter.unusedSimpArgs false

/-- the tokens, and the end's behind them -/
def withEnd (toks : List Tok) (n : Nat) : List Tok := toks ++ [⟨0, n, 0, 0⟩]
/-- what lay there stays, but for one's own row -/
def Kx (v : Value) (w w' : World) : Prop := ∀ y, y < w.heap.size → v.ownBlock ≠ some y → w'.heap[y]? = w.heap[y]?
/-- what read answers -/
def ReadP (w : World) (base : Nat) (v : Value) (R : Res) (e : Ending) (w' : World) : Prop :=
  match R with
  | .ok ts s' => ∃ nv rb, e = .returned (.tuple #[nv, .agg #[.int .i64 0, .int .i64 0]]) ∧ NodesO (fun _ => False) w' rb nv (flats ts 0) ∧ w.heap.size ≤ rb ∧ Below base w w' ∧ Kx v w w'
  | .err s' => e = .returned (.tuple #[.slice none 0 0, .agg #[.int .i64 (hd s').place, .int .i64 30]]) ∧ Below base w w' ∧ Kx v w w'
  | .out => False
theorem toks_row {w : World} {base g cap : Nat} {l : List Tok} (h : w.ownsRow base 62 4 (.slice (some ⟨g, 0, none⟩) l.length cap) l.length (toksC l)) : Toks w g l := by
  rcases h.2 with ⟨e, _⟩ | ⟨g', cap', cur, e, h1, h2, h3, h4, h5, h6⟩
  · cases e
  · cases e
    refine ⟨(Array.getElem?_eq_some_iff.1 h2).1, fun j hj => ?_⟩
    have key : ∀ (l : List Tok) (j : Nat) (hj : j < l.length), (toksC l)[j * 4]? = some (.int .i64 l[j].kind) ∧ (toksC l)[j * 4 + 1]? = some (.int .i64 l[j].place) ∧ (toksC l)[j * 4 + 2]? = some (.int .i64 l[j].len) ∧ (toksC l)[j * 4 + 3]? = some (.int .i64 l[j].num) := by
      intro l
      induction l with
      | nil => intro j hj; simp at hj
      | cons t r ih =>
        intro j hj
        have e1 : toksC (t :: r) = tokC t ++ toksC r := by simp [toksC]
        cases j with
        | zero => rw [e1]; exact ⟨rfl, rfl, rfl, rfl⟩
        | succ j =>
          have := ih j (by simpa using hj)
          have hl : (tokC t).length = 4 := rfl
          rw [e1, show (j + 1) * 4 = 4 + j * 4 by omega]
          rw [List.getElem?_append_right (by omega), List.getElem?_append_right (by omega), List.getElem?_append_right (by omega), List.getElem?_append_right (by omega), hl]
          rw [show 4 + j * 4 - 4 = j * 4 by omega, show 4 + j * 4 + 1 - 4 = j * 4 + 1 by omega, show 4 + j * 4 + 2 - 4 = j * 4 + 2 by omega, show 4 + j * 4 + 3 - 4 = j * 4 + 3 by omega]
          simpa using this
    have hc : ∀ o u, (toksC l)[o]? = some u → w.cell? ⟨g, o, none⟩ = some u := fun o u hu => by
      rw [← h6] at hu
      have ho : o < l.length * 4 := by
        have := (List.getElem?_eq_some_iff.1 hu).1
        simp at this
        omega
      rw [List.getElem?_take_of_lt ho, Array.getElem?_toList] at hu
      simp [World.cell?, h2, hu]
    obtain ⟨k0, k1, k2, k3⟩ := key l j hj
    exact ⟨hc _ _ k0, hc _ _ k1, hc _ _ k2, hc _ _ k3⟩
theorem NodesO.kept {W W' : World} {rb : Nat} {nv : Value} {ns : List Nd} (h : NodesO (fun _ => False) W rb nv ns) (hk : ∀ y o, rb < y → W.heap[y]? = some o → W'.heap[y]? = some o) : NodesO (fun _ => False) W' rb nv ns := by
  obtain ⟨ks, h1, h2, h3⟩ := h.ex
  have own : ∀ {e : TypeId} {s : Nat} {v : Value} {n : Nat} {cs : List Value}, W.ownsRow (rb + 1) e s v n cs → W'.ownsRow (rb + 1) e s v n cs := fun h => by
    refine ⟨h.1, ?_⟩
    rcases h.2 with q | ⟨g, cap, cur, e, q1, q2, q3⟩
    · exact .inl q
    · exact .inr ⟨g, cap, cur, e, q1, hk g _ (by omega) q2, q3⟩
  exact ⟨ks, h1, own h2, fun j hj hj' => ⟨own (h3 j hj hj').1, (h3 j hj hj').2⟩⟩
theorem tok_news (X : World) (H : Nat) (hH : X.heap.size = H) (a b c d : Value) : ∀ (j : Nat) (u : Value), [a, b, c, d][j]? = some u → (X.alloc (.cells #[a, b, c, d] 62)).cell? ((⟨H, 0, none⟩ : Addr).add j) = some u := by
  subst hH
  exact World.news_of_block (w := X.alloc (.cells #[a, b, c, d] 62)) (cs := #[a, b, c, d]) (heap_alloc_new X (.cells #[a, b, c, d] 62))
theorem NodesO.form {U : Nat → Prop} {W : World} {rb : Nat} {nv : Value} {ns : List Nd} (h : NodesO U W rb nv ns) : ∃ a n c, nv = .slice a n c := by
  obtain ⟨ks, _, h2, _⟩ := h.ex
  rcases h2.2 with ⟨e, _⟩ | ⟨g, cap, cur, e, _⟩
  · exact ⟨_, _, _, e⟩
  · exact ⟨_, _, _, e⟩
set_option maxRecDepth 100000 in
set_option maxHeartbeats 4000000 in
theorem read_any (w : World) (hL : Laid w) (base : Nat) (a : Option Addr) (cap : Nat) (xs : List UInt8) (hs : ∀ w', Below base w w' → IsSrc w' a cap xs ∧ Laid w') (hlo : 0 < xs.length → ∀ b o, a = some ⟨b, o, none⟩ → b < base) (hlen : xs.length ≤ 65536) (v : Value) (toks : List Tok) (hv : w.ownsRow base 62 4 v toks.length (toksC toks)) (hb7 : 7 ≤ base) (hbw : base ≤ w.heap.size) (hn : toks.length ≤ 65536) (hK : Kinds (withEnd toks xs.length)) (hin : ∀ i (h : i < (withEnd toks xs.length).length), (withEnd toks xs.length)[i].kind ≠ 0 → 1 ≤ (withEnd toks xs.length)[i].len ∧ (withEnd toks xs.length)[i].place + (withEnd toks xs.length)[i].len ≤ xs.length) {f : Nat} (hne : pF (f + 1) .program (pts xs (withEnd toks xs.length) 0) ≠ .out) :
    Calls Tryz.prog 20 #[.slice a xs.length cap, v] w (ReadP w base v (pF (f + 1) .program (pts xs (withEnd toks xs.length) 0))) := by
  obtain ⟨i0, hi, hz0, hz1, hz2⟩ := info_parts info40
  have hmf : ∀ (fn : Fn) (first cap : Array Value) (w : World), (Instr.makeFunc fn first cap).run Tryz.prog w = .ok (.func fn first cap) w := fun _ _ _ _ => rfl
  have hcap : xs.length ≤ cap := (hs w (Below.refl _ _)).1.cap_
  have hmax := (hs w (Below.refl _ _)).1.max_
  obtain ⟨W1, hW1⟩ : ∃ W1, (w.alloc (Obj.cells #[.slice none 0 0] 22)).alloc (Obj.cells #[.int .i64 0, .int .i64 0] 30) = W1 := ⟨_, rfl⟩
  have hb1 : Below w.heap.size w W1 := by rw [← hW1]; exact (below1 _ _).trans ((below1 _ _).mono (by simp))
  have hz : W1.heap.size = w.heap.size + 2 := by rw [← hW1]; simp
  have HV : Bx (W1.ownsRow base 62 4 v toks.length (toksC toks)) := ⟨owns_bel hv hb1⟩
  have HZ : Bx (W1.heap.size = w.heap.size + 2) := ⟨hz⟩
  have hTLl : (withEnd toks xs.length).length = toks.length + 1 := by simp [withEnd]
  have HP : Bx (∀ g cp w4 W5, w4.ownsRow base 62 4 (.slice (some ⟨g, 0, none⟩) (toks.length + 1) cp) (toks.length + 1) (toksC toks ++ [.int .i64 0, .int .i64 (xs.length : Int), .int .i64 0, .int .i64 0]) → (W1.alloc (.cells #[.int .i64 0, .int .i64 (xs.length : Int), .int .i64 0, .int .i64 0] 62)).grownBy w4 v.ownBlock → g < w4.heap.size → w4.alloc (rdO (.slice a xs.length cap) (.slice (some ⟨g, 0, none⟩) (toks.length + 1) cp) 0 (.slice none 0 0)) = W5 →
      Calls Tryz.prog 38 #[.pointer (some ⟨w4.heap.size, 0, none⟩)] W5 (PostG W5 w4.heap.size (.slice a xs.length cap) (.slice (some ⟨g, 0, none⟩) (toks.length + 1) cp) (fun _ => False) W5 [] (pF (f + 1) .program (pts xs (withEnd toks xs.length) 0))) ∧ (Below base w W5 ∧ base ≤ w4.heap.size ∧ w.heap.size + 2 ≤ w4.heap.size ∧ Kx v w W5) ∧ ∀ W6, Below w4.heap.size W5 W6 → W6.cell? ⟨w.heap.size, 0, none⟩ = some (.slice none 0 0) ∧ W6.cell? ⟨w.heap.size + 1, 0, none⟩ = some (.int .i64 0) ∧ W6.cell? ⟨w.heap.size + 1, 1, none⟩ = some (.int .i64 0) ∧ W6.frozen? ⟨w.heap.size, 0, none⟩ = false ∧ W6.frozen? ⟨w.heap.size + 1, 0, none⟩ = false ∧ W6.frozen? ⟨w.heap.size + 1, 1, none⟩ = false) := ⟨fun g cp w4 W5 hown hgrow hlt4 hW5 => by
    have hown' : w4.ownsRow base 62 4 (.slice (some ⟨g, 0, none⟩) (withEnd toks xs.length).length cp) (withEnd toks xs.length).length (toksC (withEnd toks xs.length)) := by
      rw [hTLl, withEnd, toksC_snoc]
      exact hown
    have hTk := toks_row hown'
    have hgs := hgrow.size
    simp [hz] at hgs
    have hvb : ∀ y, v.ownBlock = some y → base ≤ y ∧ y < w.heap.size := fun y hy => hv.lt y hy
    have b14 : Below base w w4 := ((hb1.mono hbw).trans ((below1 W1 _).mono (by omega))).grown hgrow (by simp [hz]; omega) (fun y hy => (hvb y hy).1)
    have b45 : Below w4.heap.size w4 W5 := by rw [← hW5]; exact below1 _ _
    have b15 : Below base w W5 := b14.trans (b45.mono (by omega))
    have hrd : W5.heap[w4.heap.size]? = some (rdO (.slice a xs.length cap) (.slice (some ⟨g, 0, none⟩) (toks.length + 1) cp) 0 (.slice none 0 0)) := by rw [← hW5]; exact heap_alloc_new _ _
    have hcp : toks.length + 1 ≤ cp := by
      rcases hown.2 with ⟨e, _⟩ | ⟨_, _, _, e, _, _, h5, _⟩
      · cases e
      · cases e; exact h5
    have hkp : ∀ y o, y < w.heap.size + 2 → w.heap.size ≤ y → W1.heap[y]? = some o → W5.heap[y]? = some o := fun y o h1 h2 h3 => by
      rw [b45.block y (by omega), hgrow.block y (by simp [hz]; omega) (fun e => by have := hvb y e.symm; omega), (below1 W1 _).block y (by omega)]
      exact h3
    have p0 : W5.heap[w.heap.size]? = some (Obj.cells #[.slice none 0 0] 22) := hkp _ _ (by omega) (Nat.le_refl _) (by rw [← hW1]; exact (Below.heap_alloc _ _ _ (by simp)).trans (heap_alloc_new _ _))
    have p1 : W5.heap[w.heap.size + 1]? = some (Obj.cells #[.int .i64 0, .int .i64 0] 30) := hkp _ _ (by omega) (by omega) (by rw [← hW1]; have := heap_alloc_new (w.alloc (Obj.cells #[.slice none 0 0] 22)) (Obj.cells #[.int .i64 0, .int .i64 0] 30); simpa using this)
    have hT : RT W5 w4.heap.size (.slice a xs.length cap) (.slice (some ⟨g, 0, none⟩) (toks.length + 1) cp) (withEnd toks xs.length) xs := ⟨⟨g, cp, by rw [hTLl], hlt4, by omega, hTk.later b45⟩, (hs W5 b15).2, by omega, by omega, fun h0 => by
      obtain ⟨b, o, e, hbl, hsr⟩ := (hs W5 b15).1.at_ h0
      have := hlo h0 b o e
      exact ⟨b, o, cap, by rw [e], by omega, hcap, hsr⟩, hlen, hin⟩
    have hRS : RSs W5 w4.heap.size (.slice a xs.length cap) (.slice (some ⟨g, 0, none⟩) (toks.length + 1) cp) (withEnd toks xs.length) xs (fun _ => False) W5 (pts xs (withEnd toks xs.length) 0) [] := ⟨0, rfl, by omega, ⟨⟨_, hrd, ⟨[], rfl, World.ownsRow_nil _ _ _ _, fun j hj => by simp at hj⟩⟩, Below.refl _ _⟩, by simp, fun g hg => hg.elim⟩
    have hkx : Kx v w W5 := fun y hy hne => by
      rw [b45.block y (by omega), hgrow.block y (by simp [hz]; omega) (fun e => hne e.symm), (below1 W1 _).block y (by omega), hb1.block y hy]
    refine ⟨program_any hT hK (fun f' h => (all_rules hT hK f').tyn) (fun f' h => (all_rules hT hK f').stmt) hRS hne, ⟨b15, by omega, by omega, hkx⟩, fun W6 h6 => ?_⟩
    have q0 := (h6.block w.heap.size (by omega)).trans p0
    have q1 := (h6.block (w.heap.size + 1) (by omega)).trans p1
    refine ⟨?_, ?_, ?_, ?_, ?_, ?_⟩ <;> simp [World.cell?, World.frozen?, q0, q1]⟩
  have HNE : Bx _ := ⟨hne⟩
  clear hs hL hK hin hne hv hb1
  obtain ⟨R, hR⟩ : ∃ R, pF (f + 1) .program (pts xs (withEnd toks xs.length) 0) = R := ⟨_, rfl⟩
  rw [hR] at HP HNE ⊢
  clear hR
  match R, HP, HNE with
  | .out, HP, HNE => exact absurd rfl HNE.out
  | .err s', HP, HNE =>
    go_enter_defers Tryz.func20, Tryz.ntmps20
    go_wp2_with (first
      | (at_builtin; refine wpList_append_lies _ rfl (.tmp 9) (.tmp 13) 56 rfl base 62 i0 (.agg #[.int .i64 0, .int .i64 0, .int .i64 0, .int .i64 0]) 4 32 Tryz.underlying56 hi hz0 hz1 hz2 rfl (by decide) v toks.length (toksC toks) rfl (owns_bel HV.out (below1 W1 (.cells #[.int .i64 0, .int .i64 (xs.length : Int), .int .i64 0, .int .i64 0] 62))) ⟨w.heap.size + 2, 0, none⟩ 1 1 [.int .i64 0, .int .i64 (xs.length : Int), .int .i64 0, .int .i64 0] rfl rfl (tok_news W1 _ HZ.out _ _ _ _) (by simp [Value.oneCell']) (by decide) (by unfold maxLen; omega) (by omega) (by have := HZ.out; simp; omega) (w.heap.size + 3) (by have := HZ.out; simp; omega) ?_; intro g cp w4 hown hgrow hat hlt4; obtain ⟨W5, hW5⟩ : ∃ W5, w4.alloc (.cells #[.slice a xs.length cap, .slice (some ⟨g, 0, none⟩) (toks.length + 1) cp, .int .i64 0, .slice none 0 0] 74) = W5 := ⟨_, rfl⟩; have hp := HP.out g cp w4 W5 hown hgrow hlt4 hW5; have PC : Bx _ := ⟨hp⟩; have HW5 : Bx _ := ⟨hW5⟩; clear hown hgrow hat hp hW5)
      | (go_at_call 38; rw [HW5.out]; refine Calls.mono PC.out.1 ?_; rintro e W6 ⟨rfl, b6⟩; obtain ⟨d0, d1, d2, e0, e1, e2⟩ := PC.out.2.2 W6 b6; have B6 : Bx _ := ⟨b6⟩; clear b6; unfold faultP))
    refine leaves_cons (f := 37) (args := #[.pointer (some ⟨w.heap.size, 0, none⟩), .pointer (some ⟨w.heap.size + 1, 0, none⟩)]) (by simp) (by simp [go_sem]) ?_
    refine (catch_panicking w.heap.size (w.heap.size + 1) (hd s').place [] W6 _ _ _ d0 d1 d2 e0 e1 e2 (by omega)).mono ?_
    rintro e u' w'' ⟨rfl, rfl, rfl⟩
    simp [Leaves, settle, results, Tryz.results20, go_sem, d0, d1, d2]
    have hB6 := ((((Below.refl w.heap.size W6).setCell (p := ⟨w.heap.size, 0, none⟩) (Nat.le_refl _) (.slice none 0 0)).setCell (p := ⟨w.heap.size + 1, 0, none⟩) (by show w.heap.size ≤ w.heap.size + 1; omega) (.int .i64 (hd s').place)).setCell (p := ⟨w.heap.size + 1, 1, none⟩) (by show w.heap.size ≤ w.heap.size + 1; omega) (.int .i64 30)).drew
    have hr := PC.out.2.1.2.2.1
    have h56 := PC.out.2.1.2.2.2
    have hz5 : w4.heap.size ≤ w4.heap.size := Nat.le_refl _
    exact ⟨rfl, ((((PC.out.2.1.1.trans (B6.out.mono PC.out.2.1.2.1)).setCell (p := ⟨w.heap.size, 0, none⟩) hbw _).setCell (p := ⟨w.heap.size + 1, 0, none⟩) (by show base ≤ w.heap.size + 1; omega) _).setCell (p := ⟨w.heap.size + 1, 1, none⟩) (by show base ≤ w.heap.size + 1; omega) _).drew, fun y hy hne => (hB6.block y hy).trans ((B6.out.block y (by omega)).trans (h56 y hy hne))⟩
  | .ok ts s', HP, HNE =>
    go_enter_defers Tryz.func20, Tryz.ntmps20
    go_wp2_with (first
      | (at_builtin; refine wpList_append_lies _ rfl (.tmp 9) (.tmp 13) 56 rfl base 62 i0 (.agg #[.int .i64 0, .int .i64 0, .int .i64 0, .int .i64 0]) 4 32 Tryz.underlying56 hi hz0 hz1 hz2 rfl (by decide) v toks.length (toksC toks) rfl (owns_bel HV.out (below1 W1 (.cells #[.int .i64 0, .int .i64 (xs.length : Int), .int .i64 0, .int .i64 0] 62))) ⟨w.heap.size + 2, 0, none⟩ 1 1 [.int .i64 0, .int .i64 (xs.length : Int), .int .i64 0, .int .i64 0] rfl rfl (tok_news W1 _ HZ.out _ _ _ _) (by simp [Value.oneCell']) (by decide) (by unfold maxLen; omega) (by omega) (by have := HZ.out; simp; omega) (w.heap.size + 3) (by have := HZ.out; simp; omega) ?_; intro g cp w4 hown hgrow hat hlt4; obtain ⟨W5, hW5⟩ : ∃ W5, w4.alloc (.cells #[.slice a xs.length cap, .slice (some ⟨g, 0, none⟩) (toks.length + 1) cp, .int .i64 0, .slice none 0 0] 74) = W5 := ⟨_, rfl⟩; have hp := HP.out g cp w4 W5 hown hgrow hlt4 hW5; have PC : Bx _ := ⟨hp⟩; have HW5 : Bx _ := ⟨hW5⟩; clear hown hgrow hat hp hW5)
      | (go_at_call 38; rw [HW5.out]; refine Calls.mono PC.out.1 ?_; rintro e W6 ⟨⟨r6, rfl⟩, ⟨i6, q6⟩, k6⟩; obtain ⟨nv, hrd, hno⟩ := q6.rd; obtain ⟨na, nn, nc, rfl⟩ := hno.form; obtain ⟨c0, c1, c2, c3, hlt6⟩ := rd_cells hrd; obtain ⟨d0, d1, d2, e0, e1, e2⟩ := PC.out.2.2 W6 q6.bel; have NO : Bx _ := ⟨hno⟩; have B6 : Bx _ := ⟨q6.bel⟩; clear hrd hno q6))
    refine leaves_cons (f := 37) (args := #[.pointer (some ⟨w.heap.size, 0, none⟩), .pointer (some ⟨w.heap.size + 1, 0, none⟩)]) (by simp) (by simp [go_sem]) ?_
    refine (catch_idle ⟨w.heap.size, 0, none⟩ ⟨w.heap.size + 1, 0, none⟩ _).mono ?_
    rintro e u' w'' ⟨rfl, rfl, rfl⟩
    simp [Leaves, settle, results, Tryz.results20, go_sem, d0, d1, d2]
    have hr := PC.out.2.1.2.2.1
    have h56 := PC.out.2.1.2.2.2
    refine ⟨_, w4.heap.size, rfl, NodesO.kept (by simpa using NO.out) (fun y o hy ho => ?_), (by omega), (((PC.out.2.1.1.trans (B6.out.mono PC.out.2.1.2.1)).setCell (p := ⟨w.heap.size, 0, none⟩) hbw _).setCell (p := ⟨w.heap.size + 1, 0, none⟩) (by show base ≤ w.heap.size + 1; omega) _).setCell (p := ⟨w.heap.size + 1, 1, none⟩) (by show base ≤ w.heap.size + 1; omega) _, fun y hy hne => ?_⟩
    · rw [Below.heap_setCell _ _ _ _ (by show y ≠ w.heap.size + 1; omega), Below.heap_setCell _ _ _ _ (by show y ≠ w.heap.size + 1; omega), Below.heap_setCell _ _ _ _ (by show y ≠ w.heap.size; omega)]
      exact ho
    · rw [Below.heap_setCell _ _ _ _ (by show y ≠ w.heap.size + 1; omega), Below.heap_setCell _ _ _ _ (by show y ≠ w.heap.size + 1; omega), Below.heap_setCell _ _ _ _ (by show y ≠ w.heap.size; omega)]
      exact (B6.out.block y (by omega)).trans (h56 y hy hne)
end Go.Proofs.YtecodpdfckjalaaGreatDoor
namespace Go.Proofs.YtecodpdfckjalaaGreatDoor
open Go.RowKit
set_option linter.unusedVariables false
set_option linter.unusedSimpArgs false

theorem skip_again : ∀ (l : List UInt8) (m : Bool), skipL false (l.drop (skipL m l)) = 0
  | [], m => by cases m <;> rfl
  | c :: r, true => by
    have ih1 := skip_again r true
    have ih2 := skip_again r false
    simp only [skipL]
    cases h : remI (c.toNat : Int)
    · simp only [Bool.false_eq_true, if_false, List.drop_succ_cons]; exact ih2
    · simp only [if_true, List.drop_succ_cons]; exact ih1
  | c :: r, false => by
    have ih1 := skip_again r true
    have ih2 := skip_again r false
    simp only [skipL]
    cases hb : blankI (c.toNat : Int)
    · cases h35 : ((c.toNat : Int) == 35)
      · simp [skipL, hb, h35]
      · simp only [Bool.false_eq_true, if_false, if_true, List.drop_succ_cons]; exact ih1
    · simp only [if_true, List.drop_succ_cons]; exact ih2
theorem skipTo_head (xs : List UInt8) (at_ k : Nat) (hk : skipTo xs at_ = k) (hl : k < xs.length) : blankI (xs[k].toNat : Int) = false ∧ ((xs[k].toNat : Int) == 35) = false := by
  have h := skip_again (xs.drop at_) false
  rw [List.drop_drop] at h
  have e : at_ + skipL false (xs.drop at_) = k := hk
  rw [e, drop_at xs k hl] at h
  simp only [skipL] at h
  cases hb : blankI (xs[k].toNat : Int)
  · cases h35 : ((xs[k].toNat : Int) == 35)
    · exact ⟨rfl, rfl⟩
    · rw [hb, h35] at h; simp at h
  · rw [hb] at h; simp at h
def Covers (xs : List UInt8) : Nat → List Tok → Prop
  | k, [] => skipTo xs k = xs.length
  | k, t :: r => skipTo xs k = t.place ∧ t.place < xs.length ∧ nextR xs t.place = (t, 0) ∧ Covers xs (t.place + t.len) r
theorem nextR_place (xs : List UInt8) (k : Nat) (h : (nextR xs k).2 = 0) : (nextR xs k).1.place = k := by
  unfold nextR at h ⊢
  split at h
  · rename_i h1
    rw [if_pos h1]
    unfold wordR at h ⊢
    split at h
    · rename_i n1; rw [if_pos n1]
    · rename_i n1
      split at h
      · simp at h
      · rename_i n2; rw [if_neg n1, if_neg n2]
  · rename_i h1
    rw [if_neg h1]
    split at h
    · rename_i h2
      rw [if_pos h2]
      unfold numR at h ⊢
      split at h
      · simp at h
      · rename_i n1
        split at h
        · simp at h
        · rename_i n2
          split at h
          · rename_i n3; rw [if_neg n1, if_neg n2, if_pos n3]
          · simp at h
    · rename_i h2
      rw [if_neg h2]
      unfold signR at h ⊢
      split at h
      · simp at h
      · rename_i n1; rw [if_neg n1]
theorem scanGo_covers (xs : List UInt8) : ∀ (f k at_ : Nat) (acc l : List Tok) (a c : Nat), skipTo xs at_ = k → k ≤ xs.length → xs.length - k < f → scanGo f xs k acc = (l, a, c) →
    (c = 0 → ∃ r, l = acc ++ r ∧ Covers xs at_ r) ∧ (c ≠ 0 → l = [] ∧ a ≤ xs.length)
  | 0, k, at_, acc, l, a, c, _, _, hf, _ => absurd hf (Nat.not_lt_zero _)
  | f + 1, k, at_, acc, l, a, c, hk, hl, hf, h => by
    rw [scanGo] at h
    by_cases hlt : k < xs.length
    · rw [if_pos hlt] at h
      by_cases h0 : (nextR xs k).2 = 0
      · rw [if_pos h0] at h
        have hlen := nextR_len xs k hlt h0
        have hpl := nextR_place xs k h0
        have hs := skipTo_le xs (k + (nextR xs k).1.len) hlen.2
        obtain ⟨i1, i2⟩ := scanGo_covers xs f _ (k + (nextR xs k).1.len) _ l a c rfl hs.2 (by omega) h
        refine ⟨fun hc => ?_, i2⟩
        obtain ⟨r, e, hcov⟩ := i1 hc
        refine ⟨(nextR xs k).1 :: r, by rw [e]; simp, ?_⟩
        refine ⟨by rw [hpl]; exact hk, by rw [hpl]; exact hlt, ?_, by rw [hpl]; exact hcov⟩
        rw [hpl]
        exact Prod.ext rfl h0
      · rw [if_neg h0] at h
        have e1 := congrArg (·.1) h
        have e2 := congrArg (·.2.1) h
        have e3 := congrArg (·.2.2) h
        simp only at e1 e2 e3
        refine ⟨fun hc => absurd (e3.trans hc) h0, fun _ => ⟨e1.symm, by omega⟩⟩
    · rw [if_neg hlt] at h
      have e1 := congrArg (·.1) h
      have e3 := congrArg (·.2.2) h
      simp only at e1 e3
      refine ⟨fun _ => ⟨[], by simp [e1], ?_⟩, fun hc => absurd e3.symm hc⟩
      show skipTo xs at_ = xs.length
      omega
theorem scan_covers (xs : List UInt8) (h : (scanAll xs).2.2 = 0) : Covers xs 0 (scanAll xs).1 ∧ xs.length ≤ 65536 := by
  unfold scanAll at h ⊢
  by_cases hl : 65536 < xs.length
  · rw [if_pos hl] at h; simp at h
  · rw [if_neg hl] at h ⊢
    have hs := skipTo_le xs 0 (Nat.zero_le _)
    generalize hg : scanGo (xs.length + 1) xs (skipTo xs 0) [] = R at h ⊢
    obtain ⟨l, a, c⟩ := R
    obtain ⟨h1, _⟩ := scanGo_covers xs (xs.length + 1) (skipTo xs 0) 0 [] l a c rfl hs.2 (by omega) hg
    obtain ⟨r, e, hc⟩ := h1 h
    have e' : l = r := by simpa using e
    exact ⟨by rw [e']; exact hc, by omega⟩
theorem scan_fault (xs : List UInt8) (h : (scanAll xs).2.2 ≠ 0) : (scanAll xs).1 = [] ∧ (scanAll xs).2.1 ≤ xs.length := by
  unfold scanAll at h ⊢
  by_cases hl : 65536 < xs.length
  · rw [if_pos hl]; exact ⟨rfl, by simp only; omega⟩
  · rw [if_neg hl] at h ⊢
    have hs := skipTo_le xs 0 (Nat.zero_le _)
    generalize hg : scanGo (xs.length + 1) xs (skipTo xs 0) [] = R at h ⊢
    obtain ⟨l, a, c⟩ := R
    obtain ⟨_, h2⟩ := scanGo_covers xs (xs.length + 1) (skipTo xs 0) 0 [] l a c rfl hs.2 (by omega) hg
    exact h2 h
theorem bestFrom_spec (l : List UInt8) : ∀ (T : List (List UInt8)) (n : Nat) (acc : Nat × Nat),
    acc.2 ≤ (bestFrom T n acc l).2 ∧ (∀ s ∈ T, s.isPrefixOf l = true → s.length ≤ (bestFrom T n acc l).2) ∧
    (bestFrom T n acc l = acc ∨ ∃ i, i < T.length ∧ (bestFrom T n acc l).1 = n + i ∧ (T.getD i []).isPrefixOf l = true ∧ (T.getD i []).length = (bestFrom T n acc l).2)
  | [], n, acc => by
    refine ⟨Nat.le_refl _, ?_, .inl rfl⟩
    intro s h
    exact absurd h (List.not_mem_nil)
  | s :: r, n, acc => by
    simp only [bestFrom]
    by_cases hc : acc.2 < s.length ∧ s.isPrefixOf l = true
    · rw [if_pos hc]
      obtain ⟨h1, h2, h3⟩ := bestFrom_spec l r (n + 1) (n, s.length)
      simp only at h1
      refine ⟨by omega, ?_, ?_⟩
      · intro s' hs' hp
        rcases List.mem_cons.1 hs' with rfl | hs'
        · exact h1
        · exact h2 s' hs' hp
      · right
        rcases h3 with h3 | ⟨i, a1, a2, a3, a4⟩
        · refine ⟨0, by simp, by rw [h3]; rfl, by simpa using hc.2, by rw [h3]; rfl⟩
        · exact ⟨i + 1, by simp; omega, by omega, by simpa using a3, by simpa using a4⟩
    · rw [if_neg hc]
      obtain ⟨h1, h2, h3⟩ := bestFrom_spec l r (n + 1) acc
      refine ⟨h1, ?_, ?_⟩
      · intro s' hs' hp
        rcases List.mem_cons.1 hs' with rfl | hs'
        · have : ¬ acc.2 < s'.length := fun h => hc ⟨h, hp⟩
          omega
        · exact h2 s' hs' hp
      · rcases h3 with h3 | ⟨i, a1, a2, a3, a4⟩
        · exact .inl h3
        · exact .inr ⟨i + 1, by simp; omega, by omega, by simpa using a3, by simpa using a4⟩
theorem bestFrom_congr (l l' : List UInt8) : ∀ (T : List (List UInt8)) (n : Nat) (acc : Nat × Nat), (∀ s ∈ T, s.isPrefixOf l = s.isPrefixOf l') → bestFrom T n acc l = bestFrom T n acc l'
  | [], n, acc, _ => rfl
  | s :: r, n, acc, h => by
    simp only [bestFrom]
    rw [h s (List.mem_cons_self), bestFrom_congr l l' r _ _ (fun s' hs' => h s' (List.mem_cons_of_mem _ hs'))]
theorem covers_scanGo (xs : List UInt8) : ∀ (l : List Tok) (at_ f : Nat) (acc : List Tok), at_ ≤ xs.length → Covers xs at_ l → xs.length - skipTo xs at_ < f → scanGo f xs (skipTo xs at_) acc = (acc ++ l, 0, 0)
  | [], at_, f, acc, ha, hc, hf => by
    obtain ⟨f, rfl⟩ : ∃ f', f = f' + 1 := ⟨f - 1, by omega⟩
    have hc : skipTo xs at_ = xs.length := hc
    rw [scanGo, if_neg (by omega)]
    simp
  | t :: r, at_, f, acc, ha, hc, hf => by
    obtain ⟨f, rfl⟩ : ∃ f', f = f' + 1 := ⟨f - 1, by omega⟩
    obtain ⟨q1, q2, q3, q4⟩ := hc
    have hlen := nextR_len xs t.place q2 (by rw [q3])
    rw [q3] at hlen
    simp only at hlen
    have hs := skipTo_le xs (t.place + t.len) hlen.2
    rw [q1] at hf ⊢
    rw [scanGo, if_pos q2, q3]
    simp only [if_true]
    rw [covers_scanGo xs r (t.place + t.len) f (acc ++ [t]) hlen.2 q4 (by omega)]
    simp
theorem covers_scan (xs : List UInt8) (l : List Tok) (h : Covers xs 0 l) (hl : xs.length ≤ 65536) : scanAll xs = (l, 0, 0) := by
  unfold scanAll
  rw [if_neg (by omega), covers_scanGo xs l 0 (xs.length + 1) [] (Nat.zero_le _) h (by omega)]
  simp
def Ends (c : UInt8) : Prop := wbI c.toNat = false ∧ digI c.toNat = false ∧ wsI c.toNat = false ∧ ∀ s ∈ signsT, c ∉ s
theorem spanL_ends (p : Int → Bool) (c : UInt8) (h : p c.toNat = false) (r : List UInt8) : ∀ l : List UInt8, spanL p (l ++ c :: r) = spanL p l
  | [] => by simp [spanL, h]
  | b :: l => by
    have ih := spanL_ends p c h r l
    simp only [List.cons_append, spanL]
    rw [ih]
theorem spanTo_ends (p : Int → Bool) (c : UInt8) (h : p c.toNat = false) (r xs : List UInt8) (k : Nat) (hk : k ≤ xs.length) : spanTo p (xs ++ c :: r) k = spanTo p xs k := by
  unfold spanTo
  rw [List.drop_append_of_le_length hk, spanL_ends p c h r]
theorem cut_ends (xs r : List UInt8) (k e : Nat) (hk : k ≤ e) (he : e ≤ xs.length) : cut (xs ++ r) k e = cut xs k e := by
  unfold cut
  rw [List.drop_append_of_le_length (by omega), List.take_append_of_le_length (by simp; omega)]
theorem getD_left (xs r : List UInt8) (k : Nat) (hk : k < xs.length) : (xs ++ r).getD k 0 = xs.getD k 0 := by
  simp [List.getD, List.getElem?_append, hk]
theorem getD_at (xs r : List UInt8) (c : UInt8) : (xs ++ c :: r).getD xs.length 0 = c := by
  simp [List.getD]
theorem prefix_ends (c : UInt8) (r : List UInt8) : ∀ (s l : List UInt8), c ∉ s → s.isPrefixOf (l ++ c :: r) = s.isPrefixOf l
  | [], l, _ => by simp [List.isPrefixOf]
  | a :: s, [], h => by
    have : a ≠ c := fun e => h (by simp [e])
    simp [List.isPrefixOf, this]
  | a :: s, b :: l, h => by
    have ih := prefix_ends c r s l (fun hm => h (List.mem_cons_of_mem _ hm))
    simp only [List.cons_append, List.isPrefixOf, ih]
theorem best_ends (c : UInt8) (hc : Ends c) (r l : List UInt8) : bestS (l ++ c :: r) = bestS l :=
  bestFrom_congr _ _ signsT 40 (0, 0) (fun s hs => prefix_ends c r s l (hc.2.2.2 s hs))
theorem next_ends (c : UInt8) (hc : Ends c) (r xs : List UInt8) (k : Nat) (hk : k < xs.length) : nextR (xs ++ c :: r) k = nextR xs k := by
  obtain ⟨c1, c2, c3, c4⟩ := hc
  unfold nextR
  rw [getD_left xs (c :: r) k hk]
  have hw : wordR (xs ++ c :: r) k = wordR xs k := by
    have hle := spanTo_le wbI xs k (by omega)
    have hcut : ((xs ++ c :: r).drop k).take (spanTo wbI xs k - k) = (xs.drop k).take (spanTo wbI xs k - k) := cut_ends xs (c :: r) k (spanTo wbI xs k) hle.1 hle.2
    unfold wordR
    rw [spanTo_ends wbI c c1 r xs k (by omega), hcut]
  have hn : numR (xs ++ c :: r) k = numR xs k := by
    have hle := spanTo_le digI xs k (by omega)
    unfold numR
    rw [spanTo_ends digI c c2 r xs k (by omega), getD_left xs (c :: r) k hk, cut_ends xs (c :: r) k _ hle.1 hle.2]
    by_cases he : spanTo digI xs k < xs.length
    · rw [getD_left xs (c :: r) _ he]
      have e : (spanTo digI xs k < (xs ++ c :: r).length ∧ wsI ((xs.getD (spanTo digI xs k) 0).toNat : Int) = true) ↔ (spanTo digI xs k < xs.length ∧ wsI ((xs.getD (spanTo digI xs k) 0).toNat : Int) = true) := by
        constructor
        · intro h; exact ⟨he, h.2⟩
        · intro h; exact ⟨by simp; omega, h.2⟩
      by_cases h1 : spanTo digI xs k < xs.length ∧ wsI ((xs.getD (spanTo digI xs k) 0).toNat : Int) = true
      · rw [if_pos h1, if_pos (e.2 h1)]
      · rw [if_neg h1, if_neg (fun h => h1 (e.1 h))]
    · have he' : spanTo digI xs k = xs.length := by omega
      rw [he', getD_at]
      have n1 : ¬ (xs.length < (xs ++ c :: r).length ∧ wsI (c.toNat : Int) = true) := fun h => by rw [c3] at h; exact absurd h.2 (by simp)
      have n2 : ¬ (xs.length < xs.length ∧ wsI ((xs.getD xs.length 0).toNat : Int) = true) := fun h => absurd h.1 (by omega)
      rw [if_neg n1, if_neg n2]
  have hsg : signR (xs ++ c :: r) k = signR xs k := by
    unfold signR
    rw [List.drop_append_of_le_length (by omega), best_ends c ⟨c1, c2, c3, c4⟩]
  rw [hw, hn, hsg]
def shiftT (n : Nat) (t : Tok) : Tok := ⟨t.kind, t.place + n, t.len, t.num⟩
theorem drop_pre (pre r : List UInt8) (k : Nat) : (pre ++ r).drop (pre.length + k) = r.drop k := by
  rw [List.drop_append]
  simp
theorem getD_pre (pre r : List UInt8) (k : Nat) : (pre ++ r).getD (pre.length + k) 0 = r.getD k 0 := by
  rw [List.getD_eq_getElem?_getD, List.getElem?_append_right (by omega), Nat.add_sub_cancel_left, List.getD_eq_getElem?_getD]
theorem spanTo_pre (p : Int → Bool) (pre r : List UInt8) (k : Nat) : spanTo p (pre ++ r) (pre.length + k) = pre.length + spanTo p r k := by
  unfold spanTo; rw [drop_pre]; omega
theorem skipTo_pre (pre r : List UInt8) (k : Nat) : skipTo (pre ++ r) (pre.length + k) = pre.length + skipTo r k := by
  unfold skipTo; rw [drop_pre]; omega
theorem next_pre (pre r : List UInt8) (k : Nat) (t : Tok) (h : nextR r k = (t, 0)) : nextR (pre ++ r) (pre.length + k) = (shiftT pre.length t, 0) := by
  have hR : nextR (pre ++ r) (pre.length + k) = if wsI ((r.getD k 0).toNat : Int) = true then wordR (pre ++ r) (pre.length + k) else if digI ((r.getD k 0).toNat : Int) = true then numR (pre ++ r) (pre.length + k) else signR (pre ++ r) (pre.length + k) := by
    unfold nextR; rw [getD_pre]
  rw [hR]
  unfold nextR at h
  have e0 : ∀ p, pre.length + spanTo p r k - (pre.length + k) = spanTo p r k - k := fun p => by omega
  by_cases h1 : wsI ((r.getD k 0).toNat : Int) = true
  · rw [if_pos h1] at h ⊢
    unfold wordR at h ⊢
    rw [spanTo_pre, drop_pre, e0]
    split at h
    · rename_i n1
      rw [if_pos n1]
      have e := (Prod.mk.inj h).1
      subst e
      simp [shiftT]; omega
    · rename_i n1
      split at h
      · simp at h
      · rename_i n2
        rw [if_neg n1, if_neg n2]
        have e := (Prod.mk.inj h).1
        subst e
        simp [shiftT]; omega
  · rw [if_neg h1] at h ⊢
    by_cases h2 : digI ((r.getD k 0).toNat : Int) = true
    · rw [if_pos h2] at h ⊢
      unfold numR at h ⊢
      have ec : cut (pre ++ r) (pre.length + k) (pre.length + spanTo digI r k) = cut r k (spanTo digI r k) := by unfold cut; rw [drop_pre, e0]
      rw [spanTo_pre, getD_pre, getD_pre, e0, ec]
      have el : (pre.length + spanTo digI r k < (pre ++ r).length) ↔ spanTo digI r k < r.length := by simp
      split at h
      · simp at h
      · rename_i n1
        rw [if_neg (fun hh => n1 ⟨el.1 hh.1, hh.2⟩)]
        split at h
        · simp at h
        · rename_i n2
          rw [if_neg n2]
          split at h
          · rename_i n3
            rw [if_pos n3]
            have e := (Prod.mk.inj h).1
            subst e
            simp [shiftT]; omega
          · simp at h
    · rw [if_neg h2] at h ⊢
      unfold signR at h ⊢
      rw [drop_pre]
      split at h
      · simp at h
      · rename_i n1
        rw [if_neg n1]
        have e := (Prod.mk.inj h).1
        subst e
        simp [shiftT]; omega
theorem covers_pre (pre r : List UInt8) : ∀ (l : List Tok) (k : Nat), Covers r k l → Covers (pre ++ r) (pre.length + k) (l.map (shiftT pre.length))
  | [], k, h => by
    have h : skipTo r k = r.length := h
    show skipTo (pre ++ r) (pre.length + k) = (pre ++ r).length
    rw [skipTo_pre, h]; simp
  | t :: l, k, h => by
    obtain ⟨q1, q2, q3, q4⟩ := h
    have ih := covers_pre pre r l _ q4
    refine ⟨?_, ?_, ?_, ?_⟩
    · rw [skipTo_pre, q1]; simp [shiftT]; omega
    · simp [shiftT]; omega
    · have := next_pre pre r t.place t q3
      have e : (shiftT pre.length t).place = pre.length + t.place := by simp [shiftT]; omega
      rw [e]; exact this
    · have e : (shiftT pre.length t).place + (shiftT pre.length t).len = pre.length + (t.place + t.len) := by simp [shiftT]; omega
      rw [e]; exact ih
end Go.Proofs.YtecodpdfckjalaaGreatDoor
namespace Go.Proofs.YtecodpdfckjalaaGreatDoor
open Go.RowKit
set_option linter.unusedVariables false
set_option linter.unusedSimpArgs false

theorem kindFrom_rng : ∀ (T : List (List UInt8)) (n : Nat) (t : List UInt8), kindFrom T n t ≠ 0 → n ≤ kindFrom T n t ∧ kindFrom T n t < n + T.length
  | [], n, t, h => absurd rfl h
  | s :: r, n, t, h => by
    simp only [kindFrom] at h ⊢
    split at h
    · rename_i h1
      rw [if_pos h1]
      simp only [List.length_cons]
      omega
    · rename_i h1
      rw [if_neg h1]
      have ih := kindFrom_rng r (n + 1) t h
      simp only [List.length_cons]
      omega
/-- the kinds that the scanner finds -/
theorem next_kind (xs : List UInt8) (k : Nat) (t : Tok) (h : nextR xs k = (t, 0)) : t.kind = 1 ∨ t.kind = 2 ∨ (10 ≤ t.kind ∧ t.kind < 31) ∨ (40 ≤ t.kind ∧ t.kind < 67) := by
  unfold nextR at h
  split at h
  · unfold wordR at h
    split at h
    · rename_i n1
      have e := (Prod.mk.inj h).1
      subst e
      have := kindFrom_rng wordsT 10 _ n1
      have hl : wordsT.length = 21 := rfl
      right; right; left
      simp only
      unfold wordK
      omega
    · split at h
      · simp at h
      · have e := (Prod.mk.inj h).1
        subst e
        exact .inl rfl
  · split at h
    · unfold numR at h
      split at h
      · simp at h
      · split at h
        · simp at h
        · split at h
          · have e := (Prod.mk.inj h).1
            subst e
            exact .inr (.inl rfl)
          · simp at h
    · unfold signR at h
      split at h
      · simp at h
      · rename_i n1
        have e := (Prod.mk.inj h).1
        subst e
        right; right; right
        simp only
        rcases (bestFrom_spec (xs.drop k) signsT 40 (0, 0)).2.2 with h3 | ⟨i, a1, a2, a3, a4⟩
        · exfalso
          apply n1
          unfold bestS
          rw [h3]
        · have hl : signsT.length = 27 := rfl
          unfold bestS
          omega
/-- every token of a text stands in it, and none is an end -/
theorem covers_all (xs : List UInt8) : ∀ (l : List Tok) (k : Nat), Covers xs k l → ∀ i (h : i < l.length), (l[i].kind = 1 ∨ l[i].kind = 2 ∨ (10 ≤ l[i].kind ∧ l[i].kind < 31) ∨ (40 ≤ l[i].kind ∧ l[i].kind < 67)) ∧ 1 ≤ l[i].len ∧ l[i].place + l[i].len ≤ xs.length
  | [], _, _, i, h => by simp at h
  | t :: r, k, hc, i, h => by
    obtain ⟨q1, q2, q3, q4⟩ := hc
    have hlen := nextR_len xs t.place q2 (by rw [q3])
    rw [q3] at hlen
    match i with
    | 0 => exact ⟨next_kind xs _ _ q3, hlen⟩
    | i + 1 => exact covers_all xs r _ q4 i (by simpa using h)
theorem covers_len (xs : List UInt8) : ∀ (l : List Tok) (k : Nat), k ≤ xs.length → Covers xs k l → l.length + k ≤ xs.length
  | [], k, hk, hc => by simpa using hk
  | t :: r, k, hk, hc => by
    obtain ⟨q1, q2, q3, q4⟩ := hc
    have hlen := nextR_len xs t.place q2 (by rw [q3])
    rw [q3] at hlen
    simp only at hlen
    have hs := skipTo_le xs k hk
    have ih := covers_len xs r _ hlen.2 q4
    simp only [List.length_cons]
    omega
theorem scan_kinds (xs : List UInt8) (h : (scanAll xs).2.2 = 0) : Kinds (withEnd (scanAll xs).1 xs.length) ∧ (scanAll xs).1.length ≤ 65536 ∧ xs.length ≤ 65536 ∧
    ∀ i (h : i < (withEnd (scanAll xs).1 xs.length).length), (withEnd (scanAll xs).1 xs.length)[i].kind ≠ 0 → 1 ≤ (withEnd (scanAll xs).1 xs.length)[i].len ∧ (withEnd (scanAll xs).1 xs.length)[i].place + (withEnd (scanAll xs).1 xs.length)[i].len ≤ xs.length := by
  obtain ⟨hc, hl⟩ := scan_covers xs h
  generalize (scanAll xs).1 = l at hc ⊢
  have ha := covers_all xs l 0 hc
  have hn := covers_len xs l 0 (Nat.zero_le _) hc
  have key : ∀ i (h : i < (withEnd l xs.length).length), (∃ h2 : i < l.length, (withEnd l xs.length)[i] = l[i]) ∨ (i = l.length ∧ (withEnd l xs.length)[i] = ⟨0, xs.length, 0, 0⟩) := by
    intro i h
    by_cases h2 : i < l.length
    · left
      refine ⟨h2, ?_⟩
      simp [withEnd, List.getElem_append, h2]
    · right
      have hi : i = l.length := by simp [withEnd] at h; omega
      refine ⟨hi, ?_⟩
      subst hi
      simp [withEnd]
  have hlen : (withEnd l xs.length).length = l.length + 1 := by simp [withEnd]
  refine ⟨⟨?_, ?_⟩, by omega, hl, ?_⟩
  · intro i h
    rcases key i h with ⟨h2, e⟩ | ⟨e1, e⟩
    · rw [e]; exact .inr (ha i h2).1
    · rw [e]; exact .inl rfl
  · intro i h
    rcases key i h with ⟨h2, e⟩ | ⟨e1, e⟩
    · rw [e]
      have := (ha i h2).1
      constructor
      · intro h0; omega
      · intro h0; omega
    · rw [e]
      constructor
      · intro _; omega
      · intro _; rfl
  · intro i h h0
    rcases key i h with ⟨h2, e⟩ | ⟨e1, e⟩
    · rw [e]; exact (ha i h2).2
    · rw [e] at h0; exact absurd rfl h0
end Go.Proofs.YtecodpdfckjalaaGreatDoor
