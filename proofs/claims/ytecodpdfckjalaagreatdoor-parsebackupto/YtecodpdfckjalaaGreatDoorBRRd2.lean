import Derived.Test.YtecodpdfckjalaaGreatDoorBRPgm
import Derived.Test.YtecodpdfckjalaaGreatDoorBCovQ
set_option linter.unusedVariables false
set_option linter.unusedSimpArgs false
set_option maxHeartbeats 4000000
set_option maxRecDepth 100000
namespace Go.Proofs.YtecodpdfckjalaaGreatDoor
open Go.RowKit
def aW (toks : List Tok) (n : Nat) : List Tok := toks ++ [⟨0, n, 0, 0⟩]
def Kx (v : Value) (w w' : World) : Prop := ∀ y, y < w.heap.size -> v.ownBlock ≠ some y -> w'.heap[y]? = w.heap[y]?
def xf (w : World) (base : Nat) (v : Value) (R : Res) (e : Ending) (w' : World) : Prop :=
 match R with
 | .ok ts s' => ∃ nv rb, e = .returned (.tuple #[nv, .agg #[.int .i64 0, .int .i64 0]]) /\ eO (fun _ => False) w' rb nv (ag ts 0) /\ w.heap.size <= rb /\ Below base w w' /\ Kx v w w'
 | .err s' => e = .returned (.tuple #[.slice none 0 0, .agg #[.int .i64 (hd s').place, .int .i64 30]]) /\ Below base w w' /\ Kx v w w'
 | .out => False
theorem Ei {w : World} {base g cap : Nat} {l : List Tok} (h : w.ownsRow base 62 4 (.slice (some ⟨g, 0, none⟩) l.length cap) l.length (eZ l)) : DK w g l := by
 rcases h.2 with ⟨e, _⟩ | ⟨g', cap', cur, e, h1, h2, h3, h4, h5, h6⟩
 ·cases e
 ·cases e
  refine ⟨(Array.getElem?_eq_some_iff.1 h2).1, fun j hj => ?_⟩
  have key : ∀ (l : List Tok) (j : Nat) (hj : j < l.length), (eZ l)[j * 4]? = some (.int .i64 l[j].kind) /\ (eZ l)[j * 4 + 1]? = some (.int .i64 l[j].place) /\ (eZ l)[j * 4 + 2]? = some (.int .i64 l[j].len) /\ (eZ l)[j * 4 + 3]? = some (.int .i64 l[j].num) := by
   intro l
   induction l with
   | nil => intro j hj; simp at hj
   | cons t r ih =>
    intro j hj
    have e1 : eZ (t :: r) = sS t ++ eZ r := by simp [eZ]
    cases j with
    | zero => rw [e1]; exact ⟨rfl, rfl, rfl, rfl⟩
    | succ j =>
     have := ih j (by simpa using hj)
     have hl : (sS t).length = 4 := rfl
     rw [e1, show (j + 1) * 4 = 4 + j * 4 by omega]
     rw [List.getElem?_append_right (by omega), List.getElem?_append_right (by omega), List.getElem?_append_right (by omega), List.getElem?_append_right (by omega), hl]
     rw [show 4 + j * 4 - 4 = j * 4 by omega, show 4 + j * 4 + 1 - 4 = j * 4 + 1 by omega, show 4 + j * 4 + 2 - 4 = j * 4 + 2 by omega, show 4 + j * 4 + 3 - 4 = j * 4 + 3 by omega]
     simpa using this
  have hc : ∀ o u, (eZ l)[o]? = some u -> w.cell? ⟨g, o, none⟩ = some u := fun o u hu => by
   rw [← h6] at hu
   have ho : o < l.length * 4 := by
    have := (List.getElem?_eq_some_iff.1 hu).1
    simp at this
    omega
   rw [List.getElem?_take_of_lt ho, Array.getElem?_toList] at hu
   simp [World.cell?, h2, hu]
  obtain ⟨k0, k1, k2, k3⟩ := key l j hj
  exact ⟨hc _ _ k0, hc _ _ k1, hc _ _ k2, hc _ _ k3⟩
theorem eO.kept {W W' : World} {rb : Nat} {nv : Value} {ns : List Nd} (h : eO (fun _ => False) W rb nv ns) (hk : ∀ y o, rb < y -> W.heap[y]? = some o -> W'.heap[y]? = some o) : eO (fun _ => False) W' rb nv ns := by
 obtain ⟨ks, h1, h2, h3⟩ := h.ex
 have own : ∀ {e : TypeId} {s : Nat} {v : Value} {n : Nat} {cs : List Value}, W.ownsRow (rb + 1) e s v n cs -> W'.ownsRow (rb + 1) e s v n cs := fun h => by
  refine ⟨h.1, ?_⟩
  rcases h.2 with q | ⟨g, cap, cur, e, q1, q2, q3⟩
  ·exact .inl q
  ·exact .inr ⟨g, cap, cur, e, q1, hk g _ (by omega) q2, q3⟩
 exact ⟨ks, h1, own h2, fun j hj hj' => ⟨own (h3 j hj hj').1, (h3 j hj hj').2⟩⟩
theorem xg (X : World) (H : Nat) (hH : X.heap.size = H) (a b c d : Value) : ∀ (j : Nat) (u : Value), [a, b, c, d][j]? = some u -> (X.alloc (.cells #[a, b, c, d] 62)).cell? ((⟨H, 0, none⟩ : Addr).add j) = some u := by
 subst hH
 exact World.news_of_block (w := X.alloc (.cells #[a, b, c, d] 62)) (cs := #[a, b, c, d]) (heap_alloc_new X (.cells #[a, b, c, d] 62))
theorem eO.form {U : Nat -> Prop} {W : World} {rb : Nat} {nv : Value} {ns : List Nd} (h : eO U W rb nv ns) : ∃ a n c, nv = .slice a n c := by
 obtain ⟨ks, _, h2, _⟩ := h.ex
 rcases h2.2 with ⟨e, _⟩ | ⟨g, cap, cur, e, _⟩
 ·exact ⟨_, _, _, e⟩
 ·exact ⟨_, _, _, e⟩
theorem Ej (w : World) (hL : Laid w) (base : Nat) (a : Option Addr) (cap : Nat) (xs : List UInt8) (hs : ∀ w', Below base w w' -> jH w' a cap xs /\ Laid w') (hlo : 0 < xs.length -> ∀ b o, a = some ⟨b, o, none⟩ -> b < base) (hlen : xs.length <= 65536) (v : Value) (toks : List Tok) (hv : w.ownsRow base 62 4 v toks.length (eZ toks)) (hb7 : 7 <= base) (hbw : base <= w.heap.size) (hn : toks.length <= 65536) (hK : aR (aW toks xs.length)) (hin : ∀ i (h : i < (aW toks xs.length).length), (aW toks xs.length)[i].kind ≠ 0 -> 1 <= (aW toks xs.length)[i].len /\ (aW toks xs.length)[i].place + (aW toks xs.length)[i].len <= xs.length) {f : Nat} (hne : pF (f + 1) .program (pts xs (aW toks xs.length) 0) ≠ .out) :
  Calls Tryz.prog 20 #[.slice a xs.length cap, v] w (xf w base v (pF (f + 1) .program (pts xs (aW toks xs.length) 0))) := by
 obtain ⟨i0, hi, hz0, hz1, hz2⟩ := info_parts Dz
 have hmf : ∀ (fn : Fn) (first cap : Array Value) (w : World), (Instr.makeFunc fn first cap).run Tryz.prog w = .ok (.func fn first cap) w := fun _ _ _ _ => rfl
 have hcap : xs.length <= cap := (hs w (Below.refl _ _)).1.cap_
 have hmax := (hs w (Below.refl _ _)).1.max_
 obtain ⟨W1, hW1⟩ : ∃ W1, (w.alloc (Obj.cells #[.slice none 0 0] 22)).alloc (Obj.cells #[.int .i64 0, .int .i64 0] 30) = W1 := ⟨_, rfl⟩
 have hb1 : Below w.heap.size w W1 := by rw [← hW1]; exact (ah _ _).trans ((ah _ _).mono (by simp))
 have hz : W1.heap.size = w.heap.size + 2 := by rw [← hW1]; simp
 have HV : Bx (W1.ownsRow base 62 4 v toks.length (eZ toks)) := ⟨bO hv hb1⟩
 have HZ : Bx (W1.heap.size = w.heap.size + 2) := ⟨hz⟩
 have hTLl : (aW toks xs.length).length = toks.length + 1 := by simp [aW]
 have HP : Bx (∀ g cp w4 W5, w4.ownsRow base 62 4 (.slice (some ⟨g, 0, none⟩) (toks.length + 1) cp) (toks.length + 1) (eZ toks ++ [.int .i64 0, .int .i64 (xs.length : Int), .int .i64 0, .int .i64 0]) -> (W1.alloc (.cells #[.int .i64 0, .int .i64 (xs.length : Int), .int .i64 0, .int .i64 0] 62)).grownBy w4 v.ownBlock -> g < w4.heap.size -> w4.alloc (rdO (.slice a xs.length cap) (.slice (some ⟨g, 0, none⟩) (toks.length + 1) cp) 0 (.slice none 0 0)) = W5 ->
   Calls Tryz.prog 38 #[.pointer (some ⟨w4.heap.size, 0, none⟩)] W5 (Ee W5 w4.heap.size (.slice a xs.length cap) (.slice (some ⟨g, 0, none⟩) (toks.length + 1) cp) (fun _ => False) W5 [] (pF (f + 1) .program (pts xs (aW toks xs.length) 0))) /\ (Below base w W5 /\ base <= w4.heap.size /\ w.heap.size + 2 <= w4.heap.size /\ Kx v w W5) /\ ∀ W6, Below w4.heap.size W5 W6 -> W6.cell? ⟨w.heap.size, 0, none⟩ = some (.slice none 0 0) /\ W6.cell? ⟨w.heap.size + 1, 0, none⟩ = some (.int .i64 0) /\ W6.cell? ⟨w.heap.size + 1, 1, none⟩ = some (.int .i64 0) /\ W6.frozen? ⟨w.heap.size, 0, none⟩ = false /\ W6.frozen? ⟨w.heap.size + 1, 0, none⟩ = false /\ W6.frozen? ⟨w.heap.size + 1, 1, none⟩ = false) := ⟨fun g cp w4 W5 hown hgrow hlt4 hW5 => by
  have hown' : w4.ownsRow base 62 4 (.slice (some ⟨g, 0, none⟩) (aW toks xs.length).length cp) (aW toks xs.length).length (eZ (aW toks xs.length)) := by
   rw [hTLl, aW, pY]
   exact hown
  have hTk := Ei hown'
  have hgs := hgrow.size
  simp [hz] at hgs
  have hvb : ∀ y, v.ownBlock = some y -> base <= y /\ y < w.heap.size := fun y hy => hv.lt y hy
  have b14 : Below base w w4 := ((hb1.mono hbw).trans ((ah W1 _).mono (by omega))).grown hgrow (by simp [hz]; omega) (fun y hy => (hvb y hy).1)
  have b45 : Below w4.heap.size w4 W5 := by rw [← hW5]; exact ah _ _
  have b15 : Below base w W5 := b14.trans (b45.mono (by omega))
  have hrd : W5.heap[w4.heap.size]? = some (rdO (.slice a xs.length cap) (.slice (some ⟨g, 0, none⟩) (toks.length + 1) cp) 0 (.slice none 0 0)) := by rw [← hW5]; exact heap_alloc_new _ _
  have hcp : toks.length + 1 <= cp := by
   rcases hown.2 with ⟨e, _⟩ | ⟨_, _, _, e, _, _, h5, _⟩
   ·cases e
   ·cases e; exact h5
  have hkp : ∀ y o, y < w.heap.size + 2 -> w.heap.size <= y -> W1.heap[y]? = some o -> W5.heap[y]? = some o := fun y o h1 h2 h3 => by
   rw [b45.block y (by omega), hgrow.block y (by simp [hz]; omega) (fun e => by have := hvb y e.symm; omega), (ah W1 _).block y (by omega)]
   exact h3
  have p0 : W5.heap[w.heap.size]? = some (Obj.cells #[.slice none 0 0] 22) := hkp _ _ (by omega) (Nat.le_refl _) (by rw [← hW1]; exact (Below.heap_alloc _ _ _ (by simp)).trans (heap_alloc_new _ _))
  have p1 : W5.heap[w.heap.size + 1]? = some (Obj.cells #[.int .i64 0, .int .i64 0] 30) := hkp _ _ (by omega) (by omega) (by rw [← hW1]; have := heap_alloc_new (w.alloc (Obj.cells #[.slice none 0 0] 22)) (Obj.cells #[.int .i64 0, .int .i64 0] 30); simpa using this)
  have hT : RT W5 w4.heap.size (.slice a xs.length cap) (.slice (some ⟨g, 0, none⟩) (toks.length + 1) cp) (aW toks xs.length) xs := ⟨⟨g, cp, by rw [hTLl], hlt4, by omega, hTk.later b45⟩, (hs W5 b15).2, by omega, by omega, fun h0 => by
   obtain ⟨b, o, e, hbl, hsr⟩ := (hs W5 b15).1.at_ h0
   have := hlo h0 b o e
   exact ⟨b, o, cap, by rw [e], by omega, hcap, hsr⟩, hlen, hin⟩
  have hRS : RSs W5 w4.heap.size (.slice a xs.length cap) (.slice (some ⟨g, 0, none⟩) (toks.length + 1) cp) (aW toks xs.length) xs (fun _ => False) W5 (pts xs (aW toks xs.length) 0) [] := ⟨0, rfl, by omega, ⟨⟨_, hrd, ⟨[], rfl, World.ownsRow_nil _ _ _ _, fun j hj => by simp at hj⟩⟩, Below.refl _ _⟩, by simp, fun g hg => hg.elim⟩
  have hkx : Kx v w W5 := fun y hy hne => by
   rw [b45.block y (by omega), hgrow.block y (by simp [hz]; omega) (fun e => hne e.symm), (ah W1 _).block y (by omega), hb1.block y hy]
  refine ⟨xe hT hK (fun f' h => (uh hT hK f').tyn) (fun f' h => (uh hT hK f').stmt) hRS hne, ⟨b15, by omega, by omega, hkx⟩, fun W6 h6 => ?_⟩
  have q0 := (h6.block w.heap.size (by omega)).trans p0
  have q1 := (h6.block (w.heap.size + 1) (by omega)).trans p1
  refine ⟨?_, ?_, ?_, ?_, ?_, ?_⟩ <;> simp [World.cell?, World.frozen?, q0, q1]⟩
 have HNE : Bx _ := ⟨hne⟩
 clear hs hL hK hin hne hv hb1
 obtain ⟨R, hR⟩ : ∃ R, pF (f + 1) .program (pts xs (aW toks xs.length) 0) = R := ⟨_, rfl⟩
 rw [hR] at HP HNE ⊢
 clear hR
 match R, HP, HNE with
 | .out, HP, HNE => exact absurd rfl HNE.out
 | .err s', HP, HNE =>
  go_enter_defers Tryz.func20, Tryz.ntmps20
  go_wp2_with (first
   | (at_builtin; refine wpList_append_lies _ rfl (.tmp 9) (.tmp 13) 56 rfl base 62 i0 (.agg #[.int .i64 0, .int .i64 0, .int .i64 0, .int .i64 0]) 4 32 Tryz.underlying56 hi hz0 hz1 hz2 rfl (by decide) v toks.length (eZ toks) rfl (bO HV.out (ah W1 (.cells #[.int .i64 0, .int .i64 (xs.length : Int), .int .i64 0, .int .i64 0] 62))) ⟨w.heap.size + 2, 0, none⟩ 1 1 [.int .i64 0, .int .i64 (xs.length : Int), .int .i64 0, .int .i64 0] rfl rfl (xg W1 _ HZ.out _ _ _ _) (by simp [Value.oneCell']) (by decide) (by unfold maxLen; omega) (by omega) (by have := HZ.out; simp; omega) (w.heap.size + 3) (by have := HZ.out; simp; omega) ?_; intro g cp w4 hown hgrow hat hlt4; obtain ⟨W5, hW5⟩ : ∃ W5, w4.alloc (.cells #[.slice a xs.length cap, .slice (some ⟨g, 0, none⟩) (toks.length + 1) cp, .int .i64 0, .slice none 0 0] 74) = W5 := ⟨_, rfl⟩; have hp := HP.out g cp w4 W5 hown hgrow hlt4 hW5; have PC : Bx _ := ⟨hp⟩; have HW5 : Bx _ := ⟨hW5⟩; clear hown hgrow hat hp hW5)
   | (go_at_call 38; rw [HW5.out]; refine Calls.mono PC.out.1 ?_; rintro e W6 ⟨rfl, b6⟩; obtain ⟨d0, d1, d2, e0, e1, e2⟩ := PC.out.2.2 W6 b6; have B6 : Bx _ := ⟨b6⟩; clear b6; unfold ak))
  refine leaves_cons (f := 37) (args := #[.pointer (some ⟨w.heap.size, 0, none⟩), .pointer (some ⟨w.heap.size + 1, 0, none⟩)]) (by simp) (by simp [go_sem]) ?_
  refine (pE w.heap.size (w.heap.size + 1) (hd s').place [] W6 _ _ _ d0 d1 d2 e0 e1 e2 (by omega)).mono ?_
  rintro e u' w'' ⟨rfl, rfl, rfl⟩
  simp [Leaves, settle, results, Tryz.results20, go_sem, d0, d1, d2]
  have hB6 := ((((Below.refl w.heap.size W6).setCell (p := ⟨w.heap.size, 0, none⟩) (Nat.le_refl _) (.slice none 0 0)).setCell (p := ⟨w.heap.size + 1, 0, none⟩) (by show w.heap.size <= w.heap.size + 1; omega) (.int .i64 (hd s').place)).setCell (p := ⟨w.heap.size + 1, 1, none⟩) (by show w.heap.size <= w.heap.size + 1; omega) (.int .i64 30)).drew
  have hr := PC.out.2.1.2.2.1
  have h56 := PC.out.2.1.2.2.2
  have hz5 : w4.heap.size <= w4.heap.size := Nat.le_refl _
  exact ⟨rfl, ((((PC.out.2.1.1.trans (B6.out.mono PC.out.2.1.2.1)).setCell (p := ⟨w.heap.size, 0, none⟩) hbw _).setCell (p := ⟨w.heap.size + 1, 0, none⟩) (by show base <= w.heap.size + 1; omega) _).setCell (p := ⟨w.heap.size + 1, 1, none⟩) (by show base <= w.heap.size + 1; omega) _).drew, fun y hy hne => (hB6.block y hy).trans ((B6.out.block y (by omega)).trans (h56 y hy hne))⟩
 | .ok ts s', HP, HNE =>
  go_enter_defers Tryz.func20, Tryz.ntmps20
  go_wp2_with (first
   | (at_builtin; refine wpList_append_lies _ rfl (.tmp 9) (.tmp 13) 56 rfl base 62 i0 (.agg #[.int .i64 0, .int .i64 0, .int .i64 0, .int .i64 0]) 4 32 Tryz.underlying56 hi hz0 hz1 hz2 rfl (by decide) v toks.length (eZ toks) rfl (bO HV.out (ah W1 (.cells #[.int .i64 0, .int .i64 (xs.length : Int), .int .i64 0, .int .i64 0] 62))) ⟨w.heap.size + 2, 0, none⟩ 1 1 [.int .i64 0, .int .i64 (xs.length : Int), .int .i64 0, .int .i64 0] rfl rfl (xg W1 _ HZ.out _ _ _ _) (by simp [Value.oneCell']) (by decide) (by unfold maxLen; omega) (by omega) (by have := HZ.out; simp; omega) (w.heap.size + 3) (by have := HZ.out; simp; omega) ?_; intro g cp w4 hown hgrow hat hlt4; obtain ⟨W5, hW5⟩ : ∃ W5, w4.alloc (.cells #[.slice a xs.length cap, .slice (some ⟨g, 0, none⟩) (toks.length + 1) cp, .int .i64 0, .slice none 0 0] 74) = W5 := ⟨_, rfl⟩; have hp := HP.out g cp w4 W5 hown hgrow hlt4 hW5; have PC : Bx _ := ⟨hp⟩; have HW5 : Bx _ := ⟨hW5⟩; clear hown hgrow hat hp hW5)
   | (go_at_call 38; rw [HW5.out]; refine Calls.mono PC.out.1 ?_; rintro e W6 ⟨⟨r6, rfl⟩, ⟨i6, q6⟩, k6⟩; obtain ⟨nv, hrd, hno⟩ := q6.rd; obtain ⟨na, nn, nc, rfl⟩ := hno.form; obtain ⟨c0, c1, c2, c3, hlt6⟩ := gT hrd; obtain ⟨d0, d1, d2, e0, e1, e2⟩ := PC.out.2.2 W6 q6.bel; have NO : Bx _ := ⟨hno⟩; have B6 : Bx _ := ⟨q6.bel⟩; clear hrd hno q6))
  refine leaves_cons (f := 37) (args := #[.pointer (some ⟨w.heap.size, 0, none⟩), .pointer (some ⟨w.heap.size + 1, 0, none⟩)]) (by simp) (by simp [go_sem]) ?_
  refine (yX ⟨w.heap.size, 0, none⟩ ⟨w.heap.size + 1, 0, none⟩ _).mono ?_
  rintro e u' w'' ⟨rfl, rfl, rfl⟩
  simp [Leaves, settle, results, Tryz.results20, go_sem, d0, d1, d2]
  have hr := PC.out.2.1.2.2.1
  have h56 := PC.out.2.1.2.2.2
  refine ⟨_, w4.heap.size, rfl, eO.kept (by simpa using NO.out) (fun y o hy ho => ?_), (by omega), (((PC.out.2.1.1.trans (B6.out.mono PC.out.2.1.2.1)).setCell (p := ⟨w.heap.size, 0, none⟩) hbw _).setCell (p := ⟨w.heap.size + 1, 0, none⟩) (by show base <= w.heap.size + 1; omega) _).setCell (p := ⟨w.heap.size + 1, 1, none⟩) (by show base <= w.heap.size + 1; omega) _, fun y hy hne => ?_⟩
  ·rw [Below.heap_setCell _ _ _ _ (by show y ≠ w.heap.size + 1; omega), Below.heap_setCell _ _ _ _ (by show y ≠ w.heap.size + 1; omega), Below.heap_setCell _ _ _ _ (by show y ≠ w.heap.size; omega)]
   exact ho
  ·rw [Below.heap_setCell _ _ _ _ (by show y ≠ w.heap.size + 1; omega), Below.heap_setCell _ _ _ _ (by show y ≠ w.heap.size + 1; omega), Below.heap_setCell _ _ _ _ (by show y ≠ w.heap.size; omega)]
   exact (B6.out.block y (by omega)).trans (h56 y hy hne)
theorem nE : ∀ (T : List (List UInt8)) (n : Nat) (t : List UInt8), dx T n t ≠ 0 -> n <= dx T n t /\ dx T n t < n + T.length
 | [], n, t, h => absurd rfl h
 | s :: r, n, t, h => by
  simp only [dx] at h ⊢
  split at h
  ·rename_i h1
   rw [if_pos h1]
   simp only [List.length_cons]
   omega
  ·rename_i h1
   rw [if_neg h1]
   have ih := nE r (n + 1) t h
   simp only [List.length_cons]
   omega
theorem Cx (xs : List UInt8) (k : Nat) (t : Tok) (h : bR xs k = (t, 0)) : t.kind = 1 ∨ t.kind = 2 ∨ (10 <= t.kind /\ t.kind < 31) ∨ (40 <= t.kind /\ t.kind < 67) := by
 unfold bR at h
 split at h
 ·unfold iZ at h
  split at h
  ·rename_i n1
   have e := (Prod.mk.inj h).1
   subst e
   have := nE fK 10 _ n1
   have hl : fK.length = 21 := rfl
   right; right; left
   simp only
   unfold iE
   omega
  ·split at h
   ·simp at h
   ·have e := (Prod.mk.inj h).1
    subst e
    exact .inl rfl
 ·split at h
  ·unfold kJ at h
   split at h
   ·simp at h
   ·split at h
    ·simp at h
    ·split at h
     ·have e := (Prod.mk.inj h).1
      subst e
      exact .inr (.inl rfl)
     ·simp at h
  ·unfold iq at h
   split at h
   ·simp at h
   ·rename_i n1
    have e := (Prod.mk.inj h).1
    subst e
    right; right; right
    simp only
    rcases (iN (xs.drop k) dL 40 (0, 0)).2.2 with h3 | ⟨i, a1, a2, a3, a4⟩
    ·exfalso
     apply n1
     unfold jm
     rw [h3]
    ·have hl : dL.length = 27 := rfl
     unfold jm
     omega
theorem ql (xs : List UInt8) : ∀ (l : List Tok) (k : Nat), iT xs k l -> ∀ i (h : i < l.length), (l[i].kind = 1 ∨ l[i].kind = 2 ∨ (10 <= l[i].kind /\ l[i].kind < 31) ∨ (40 <= l[i].kind /\ l[i].kind < 67)) /\ 1 <= l[i].len /\ l[i].place + l[i].len <= xs.length
 | [], _, _, i, h => by simp at h
 | t :: r, k, hc, i, h => by
  obtain ⟨q1, q2, q3, q4⟩ := hc
  have hlen := jg xs t.place q2 (by rw [q3])
  rw [q3] at hlen
  match i with
  | 0 => exact ⟨Cx xs _ _ q3, hlen⟩
  | i + 1 => exact ql xs r _ q4 i (by simpa using h)
theorem mD (xs : List UInt8) : ∀ (l : List Tok) (k : Nat), k <= xs.length -> iT xs k l -> l.length + k <= xs.length
 | [], k, hk, hc => by simpa using hk
 | t :: r, k, hk, hc => by
  obtain ⟨q1, q2, q3, q4⟩ := hc
  have hlen := jg xs t.place q2 (by rw [q3])
  rw [q3] at hlen
  simp only at hlen
  have hs := iG xs k hk
  have ih := mD xs r _ hlen.2 q4
  simp only [List.length_cons]
  omega
theorem yY (xs : List UInt8) (h : (aB xs).2.2 = 0) : aR (aW (aB xs).1 xs.length) /\ (aB xs).1.length <= 65536 /\ xs.length <= 65536 /\
  ∀ i (h : i < (aW (aB xs).1 xs.length).length), (aW (aB xs).1 xs.length)[i].kind ≠ 0 -> 1 <= (aW (aB xs).1 xs.length)[i].len /\ (aW (aB xs).1 xs.length)[i].place + (aW (aB xs).1 xs.length)[i].len <= xs.length := by
 obtain ⟨hc, hl⟩ := kM xs h
 generalize (aB xs).1 = l at hc ⊢
 have ha := ql xs l 0 hc
 have hn := mD xs l 0 (Nat.zero_le _) hc
 have key : ∀ i (h : i < (aW l xs.length).length), (∃ h2 : i < l.length, (aW l xs.length)[i] = l[i]) ∨ (i = l.length /\ (aW l xs.length)[i] = ⟨0, xs.length, 0, 0⟩) := by
  intro i h
  by_cases h2 : i < l.length
  ·left
   refine ⟨h2, ?_⟩
   simp [aW, List.getElem_append, h2]
  ·right
   have hi : i = l.length := by simp [aW] at h; omega
   refine ⟨hi, ?_⟩
   subst hi
   simp [aW]
 have hlen : (aW l xs.length).length = l.length + 1 := by simp [aW]
 refine ⟨⟨?_, ?_⟩, by omega, hl, ?_⟩
 ·intro i h
  rcases key i h with ⟨h2, e⟩ | ⟨e1, e⟩
  ·rw [e]; exact .inr (ha i h2).1
  ·rw [e]; exact .inl rfl
 ·intro i h
  rcases key i h with ⟨h2, e⟩ | ⟨e1, e⟩
  ·rw [e]
   have := (ha i h2).1
   constructor
   ·intro h0; omega
   ·intro h0; omega
  ·rw [e]
   constructor
   ·intro _; omega
   ·intro _; rfl
 ·intro i h h0
  rcases key i h with ⟨h2, e⟩ | ⟨e1, e⟩
  ·rw [e]; exact (ha i h2).2
  ·rw [e] at h0; exact absurd rfl h0
end Go.Proofs.YtecodpdfckjalaaGreatDoor
namespace Go.Proofs.YtecodpdfckjalaaGreatDoor
structure OkT (t : ai) : Prop where
 place : t.place <= 65536
 num : t.num < 9223372036854775808
 name : t.name.length <= 65536
def jE (s : List ai) : Prop := ∀ t ∈ s, OkT t
theorem AR {s : List ai} (h : jE s) : OkT (hd s) := by
 cases s with
 | nil => exact ⟨Nat.zero_le _, by decide, Nat.zero_le _⟩
 | cons a r => exact h a (List.mem_cons_self)
theorem oU {s : List ai} (h : jE s) : jE (tl s) := fun t ht => h t (List.mem_of_mem_tail ht)
mutual
def tW : Tr -> Prop
 | .mk k p n nm ks => (0 <= k /\ k <= 100) /\ p <= 65536 /\ (0 <= n /\ n < 9223372036854775808) /\ nm.length <= 65536 /\ tsW ks
def tsW : List Tr -> Prop
 | [] => True
 | t :: r => tW t /\ tsW r
end
theorem iO : ∀ {a b : List Tr}, tsW a -> tsW b -> tsW (a ++ b)
 | [], b, _, hb => hb
 | t :: r, b, ha, hb => ⟨ha.1, iO ha.2 hb⟩
theorem lD : ∀ a : List Tr, a.length <= sizes a
 | [] => Nat.zero_le _
 | t :: r => by
  have := lD r
  have := mY t
  simp only [List.length_cons, sizes]
  omega
def Wl (N D : Nat) : Res -> Prop
 | .ok ts s => tsW ts /\ jE s /\ sizes ts + s.length + D <= N
 | .err s => jE s
 | .out => True
theorem Lv {M d N D : Nat} {x : Res} (h : Wl M d x) (he : M + D <= N + d) : Wl N D x := by
 cases x with
 | ok a s => exact ⟨h.1, h.2.1, by have := h.2.2; omega⟩
 | err s => exact h
 | out => trivial
theorem jF {M d N D : Nat} {x : Res} {k : List Tr -> List ai -> Res} (h : Wl M d x) (hk : ∀ a s, tsW a -> jE s -> sizes a + s.length + d <= M -> TlF s -> Wl N D (k a s)) : Wl N D (aC x k) := by
 cases x with
 | ok a s => exact hk a s h.1 h.2.1 h.2.2 (dA s)
 | err s => exact h
 | out => trivial
theorem pO {N D c : Nat} {s : List ai} {k : List ai -> Res} (hs : jE s) (hc : c ≠ 0) (hk : jE (tl s) -> (tl s).length + 1 = s.length -> TlF (tl s) -> Wl N D (k (tl s))) : Wl N D (want c s k) := by
 unfold want
 split
 ·rename_i h
  exact hk (oU hs) (dA s (by omega)) (dA _)
 ·exact hs
theorem Gj {N D : Nat} {s : List ai} {k : List UInt8 -> List ai -> Res} (hs : jE s) (hk : ∀ n, n.length <= 65536 -> jE (tl s) -> (tl s).length + 1 = s.length -> TlF (tl s) -> Wl N D (k n (tl s))) : Wl N D (dJ s k) := by
 unfold dJ
 split
 ·rename_i h
  exact hk _ (AR hs).name (oU hs) (dA s (by omega)) (dA _)
 ·exact hs
theorem El {N D : Nat} {s : List ai} {k : Nat -> List ai -> Res} (hs : jE s) (hk : ∀ n, n < 9223372036854775808 -> jE (tl s) -> (tl s).length + 1 = s.length -> TlF (tl s) -> Wl N D (k n (tl s))) : Wl N D (gN s k) := by
 unfold gN
 split
 ·rename_i h
  exact hk _ (AR hs).num (oU hs) (dA s (by omega)) (dA _)
 ·exact hs
theorem uj {N D : Nat} {p : Prop} [Decidable p] {a b : Res} (h1 : p -> Wl N D a) (h2 : ¬ p -> Wl N D b) : Wl N D (if p then a else b) := by
 split
 ·rename_i h; exact h1 h
 ·rename_i h; exact h2 h
theorem Lx {N D : Nat} {kind num : Int} {s r : List ai} {name : List UInt8} {kids : List Tr} (hs : jE s) (hr : jE r) (hks : tsW kids) (hn : name.length <= 65536) (hk : 0 <= kind /\ kind <= 100) (hnu : 0 <= num /\ num < 9223372036854775808) (h : sizes kids + 1 + r.length + D <= N) : Wl N D (mk1 kind s num name kids r) :=
 ⟨⟨⟨hk, (AR hs).place, hnu, hn, hks⟩, trivial⟩, hr, by simp only [sizes, Tr.size]; omega⟩
theorem uk {N D : Nat} {a : List Tr} {r : List ai} (ha : tsW a) (hr : jE r) (h : sizes a + r.length + D <= N) : Wl N D (.ok a r) := ⟨ha, hr, h⟩
def exR : Rl -> Nat
 | .ops _ left _ => sizes left
 | .post kid => sizes kid
 | .program => 1
 | _ => 0
def slR : Rl -> Nat
 | .listed _ => 1
 | _ => 0
def WrW : Rl -> Prop
 | .operands n => 1 <= n
 | .ops n left _ => 1 <= n /\ tsW left
 | .post kid => tsW kid
 | _ => True
theorem JS {p : Prop} [Decidable p] {a b : Int} (ha : 0 <= a /\ a < 9223372036854775808) (hb : 0 <= b /\ b < 9223372036854775808) : 0 <= (if p then a else b) /\ (if p then a else b) < 9223372036854775808 := by
 split
 ·exact ha
 ·exact hb
theorem Gl (k : Nat) : 0 <= fe k /\ fe k < 9223372036854775808 := by
 unfold fe
 repeat (refine JS (by decide) ?_)
 decide
theorem Gm {b : List Tr} {n d N : Nat} (h : sizes b + n + d <= N) (hN : N <= 70000) : 0 <= (b.length : Int) /\ (b.length : Int) < 9223372036854775808 := by
 have := lD b
 omega
theorem Gn {n : Nat} (h : n < 9223372036854775808) : 0 <= (n : Int) /\ (n : Int) < 9223372036854775808 := by omega
theorem Gp {k : Int} {p : Nat} {n : Int} {nm : List UInt8} {ks : List Tr} {s : List ai} (hs : jE s) (hk : 0 <= k /\ k <= 100) (hp : p = (hd s).place) (hn : 0 <= n /\ n < 9223372036854775808) (hnm : nm.length <= 65536) (hks : tsW ks) : tsW [.mk k p n nm ks] :=
 ⟨⟨hk, by rw [hp]; exact (AR hs).place, hn, hnm, hks⟩, trivial⟩
theorem LA (o : One) : exR (.of o) = 0 /\ slR (.of o) = 0 /\ WrW (.of o) := by cases o <;> simp [Rl.of, exR, slR, WrW]
theorem Gq {g : Rl -> List ai -> Res} (H : ∀ r s, WrW r -> jE s -> s.length <= 70000 -> Wl (s.length + exR r) (slR r) (g r s)) (r : Rl) (s : List ai) (hr : WrW r) (hs : jE s) (hl : s.length <= 70000) : Wl (s.length + exR r) (slR r) (body g r s) := by
 have e0 := dA s
 have ht := oU hs
 have L : ∀ {r s} {N D : Nat}, WrW r -> jE s -> s.length <= 70000 -> s.length + exR r + D <= N + slR r -> Wl N D (g r s) := fun h1 h2 h3 he => Lv (H _ _ h1 h2 h3) he
 cases r
 case ops least left most =>
  unfold body
  obtain ⟨hr, hle⟩ := hr
  refine uj (fun h => uk hle hs (by simp only [exR, slR]; omega)) (fun h => ?_)
  have h1 : 1 <= aP (fe (kd s)) := by omega
  have h2 := e0 (oC h1)
  refine jF (H (.operands _) _ (by show 1 <= _; omega) ht (by omega)) (fun a s1 q1 q2 q q3 => ?_)
  simp only [exR, slR] at q ⊢
  refine L (show WrW (.ops _ _ _) from ⟨hr, Gp hs (by decide) rfl (Gl _) (Nat.zero_le _) (iO hle q1)⟩) q2 (by omega) ?_
  simp only [exR, slR, sizes, Tr.size, aI]
  omega
 case post kid =>
  unfold body
  have hle : tsW kid := hr
  simp only [exR, slR]
  refine uj (fun h => ?_) (fun h => uj (fun h => ?_) (fun h => uj (fun h => ?_) (fun h => uk hle hs (by omega))))
  ·refine jF (H (.listed .expr) _ trivial hs hl) (fun a s1 q1 q2 q q3 => ?_)
   simp only [exR, slR] at q
   refine L (show WrW (.post _) from Gp hs (by decide) rfl (by decide) (Nat.zero_le _) (iO hle q1)) q2 (by omega) ?_
   simp only [exR, slR, sizes, Tr.size, aI]
   omega
  ·refine pO hs (by decide) (fun t1 t2 t3 => jF (H (.operands 1) _ (by show (1 : Int) <= 1; decide) t1 (by omega)) (fun a s1 q1 q2 q q3 => pO q2 (by decide) (fun u1 u2 u3 => ?_)))
   simp only [exR, slR] at q
   refine L (show WrW (.post _) from Gp hs (by decide) rfl (by decide) (Nat.zero_le _) (iO hle q1)) u1 (by omega) ?_
   simp only [exR, slR, sizes, Tr.size, aI]
   omega
  ·refine pO hs (by decide) (fun t1 t2 t3 => El t1 (fun n n1 u1 u2 u3 => ?_))
   refine L (show WrW (.post _) from Gp hs (by decide) rfl ⟨by omega, by omega⟩ (Nat.zero_le _) hle) u1 (by omega) ?_
   simp only [exR, slR, sizes, Tr.size]
   omega
 case parted o =>
  unfold body
  obtain ⟨w1, w3, w2⟩ := LA o
  refine jF (H _ _ w2 hs hl) (fun a s1 q1 q2 q q3 => ?_)
  rw [w1, w3] at q
  refine uj (fun h => ?_) (fun h => uk q1 q2 (by simp only [exR, slR]; omega))
  have h2 := q3 (by omega)
  refine jF (H (.parted o) _ trivial (oU q2) (by omega)) (fun b s2 p1 p2 p p3 => uk (iO q1 p1) p2 ?_)
  simp only [exR, slR, aI] at p ⊢
  omega
 case operands least =>
  unfold body
  refine jF (H .unary _ trivial hs hl) (fun a s1 q1 q2 q q3 => ?_)
  simp only [exR, slR] at q ⊢
  exact L (show WrW (.ops _ _ _) from ⟨hr, q1⟩) q2 (by omega) (by simp only [exR, slR]; omega)
 case «postfix» =>
  unfold body
  refine jF (H .primary _ trivial hs hl) (fun a s1 q1 q2 q q3 => ?_)
  simp only [exR, slR] at q ⊢
  exact L (show WrW (.post _) from q1) q2 (by omega) (by simp only [exR, slR]; omega)
 case program =>
  unfold body
  refine jF (H .types _ trivial hs hl) (fun a s1 q1 q2 q q3 => ?_)
  simp only [exR, slR] at q ⊢
  refine jF (H .tops _ trivial q2 (by omega)) (fun b s2 p1 p2 p p3 => ?_)
  simp only [exR, slR] at p
  have := lD a
  refine uk ⟨⟨by decide, by decide, ⟨by omega, by omega⟩, by decide, iO q1 p1⟩, trivial⟩ p2 ?_
  simp only [sizes, Tr.size, aI]
  omega
 all_goals
  unfold body
  simp only [exR, slR]
  repeat' (first
   | refine Gj (by assumption) (fun n n1 t1 t2 t3 => ?_)
   | refine El (by assumption) (fun n n1 t1 t2 t3 => ?_)
   | refine pO (by assumption) (by decide) (fun t1 t2 t3 => ?_)
   | refine jF (H _ _ (by first | trivial | (show (1 : Int) <= 1; decide)) (by assumption) (by simp only [TlF, exR, slR] at *; omega)) (fun a s1 q1 q2 q q3 => ?_)
   | refine uj (fun h => ?_) (fun h => ?_))
  all_goals
   first
   | refine Lx (by assumption) (by first | assumption | exact oU (by assumption)) (by first | exact trivial | assumption | exact iO (by assumption) (by assumption) | exact iO (by assumption) (iO (by assumption) (by assumption))) (by first | assumption | exact Nat.zero_le _) (by first | decide | (split <;> decide)) (by first | decide | exact Gn (by assumption) | exact Gm (by assumption) (by simp only [TlF, exR, slR] at *; omega)) ?_
   | refine uk (by first | exact trivial | assumption | exact iO (by assumption) (by assumption)) (by first | assumption | exact oU (by assumption)) ?_
   | refine L (by first | trivial | (show (1 : Int) <= 1; decide)) (by first | assumption | exact oU (by assumption)) (by simp only [TlF, exR, slR] at *; omega) ?_
  all_goals
   simp only [TlF, exR, slR, sizes, aI, List.length_nil] at *
   omega
theorem Em : ∀ (f : Nat) (r : Rl) (s : List ai), WrW r -> jE s -> s.length <= 70000 -> Wl (s.length + exR r) (slR r) (pF f r s)
 | 0, _, _, _, _, _ => trivial
 | f + 1, r, s, h1, h2, h3 => Gq (Em f) r s h1 h2 h3
end Go.Proofs.YtecodpdfckjalaaGreatDoor
