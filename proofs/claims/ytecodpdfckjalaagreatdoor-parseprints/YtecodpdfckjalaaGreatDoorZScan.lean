import Derived.Test.YtecodpdfckjalaaGreatDoorZSignP
import Derived.Deep.AppendLies
import Derived.Test.YtecodpdfckjalaaGreatDoorZTPlain
import Derived.Deep.QuietTactic
import Derived.BigQuiet
import Derived.Deep.RegionHeld
import Derived.WalkSmall
set_option linter.unusedVariables false
set_option linter.unusedSimpArgs false
set_option maxHeartbeats 4000000
set_option maxRecDepth 100000
namespace Go.Proofs.YtecodpdfckjalaaGreatDoor
open Go.RowKit
def iw : Nat -> List UInt8 -> Nat -> List Tok -> List Tok × Nat × Nat
 | 0, _, _, acc => (acc, 0, 0)
 | f + 1, xs, k, acc =>
  if k < xs.length then
   (if (bG xs k).2 = 0 then iw f xs (bB xs (k + (bG xs k).1.len)) (acc ++ [(bG xs k).1]) else ([], k, (bG xs k).2))
  else (acc, 0, 0)
def aA (xs : List UInt8) : List Tok × Nat × Nat := if 65536 < xs.length then ([], 65536, 10) else iw (xs.length + 1) xs (bB xs 0) []
def dF (l : List Tok) : List Value := l.flatMap pQ
theorem BX (l : List Tok) : (dF l).length = l.length * 4 := by
 induction l with
 | nil => rfl
 | cons t r ih => unfold dF at *; simp only [List.flatMap_cons, List.length_append, List.length_cons, ih]; simp [pQ]; omega
theorem pV (l : List Tok) (t : Tok) : dF (l ++ [t]) = dF l ++ pQ t := by
 unfold dF; simp
theorem D9 : (Tryz.prog.info? 62).map (fun i => (i.zero, i.size, i.bytes)) = some (some (.agg #[.int .i64 0, .int .i64 0, .int .i64 0, .int .i64 0]), 4, 32) := by kernel_rfl
structure uA (w : World) (xs : List UInt8) (f k : Nat) (acc : List Tok) : Prop where
 eq : aA xs = iw f xs k acc
 fuel : xs.length - k < f
 few : acc.length <= k
def ll (w wr : World) : Prop := Below (w.heap.size + 1) (w.alloc (.cells #[.int .i64 0, .int .i64 0] 30)) wr
theorem ll.below {w wr : World} (h : ll w wr) : Below w.heap.size w wr :=
 ((Below.refl w.heap.size w).alloc (Nat.le_refl _) _).trans (Below.mono h (by omega))
theorem jQ {w w' : World} {B : Nat} {e : TypeId} {s : Nat} {v : Value} {n : Nat} {cs : List Value} (h : w.ownsRow B e s v n cs) (hb : Below w.heap.size w w') : w'.ownsRow B e s v n cs := by
 obtain ⟨h1, h2⟩ := h
 refine ⟨h1, ?_⟩
 rcases h2 with h2 | ⟨g, cap, cur, hv, hg, hh, r⟩
 ·exact .inl h2
 ·refine .inr ⟨g, cap, cur, hv, hg, ?_, r⟩
  rw [hb.block g ?_]
  ·exact hh
  ·rcases Nat.lt_or_ge g w.heap.size with hlt | hge
   ·exact hlt
   ·rw [Array.getElem?_eq_none hge] at hh; cases hh
theorem sI {w : World} {B B' : Nat} {e : TypeId} {s : Nat} {v : Value} {n : Nat} {cs : List Value} (h : w.ownsRow B e s v n cs) (hb : B' <= B) : w.ownsRow B' e s v n cs := by
 obtain ⟨h1, h2⟩ := h
 refine ⟨h1, ?_⟩
 rcases h2 with h2 | ⟨g, cap, cur, hv, hg, r⟩
 ·exact .inl h2
 ·exact .inr ⟨g, cap, cur, hv, by omega, r⟩
def Ea (t : Tok) : Obj := .cells #[.int .i64 t.kind, .int .i64 t.place, .int .i64 t.len, .int .i64 t.num] 62
theorem F6 (w1 : World) (o1 : Obj) (t : Tok) : ∀ j u, (pQ t)[j]? = some u -> ((w1.alloc o1).alloc (Ea t)).cell? ((⟨w1.heap.size + 1, 0, none⟩ : Addr).add j) = some u := by
 have h := heap_alloc_new (w1.alloc o1) (Ea t)
 have e : (w1.alloc o1).heap.size = w1.heap.size + 1 := by simp
 rw [e] at h
 exact World.news_of_block (cs := #[.int .i64 t.kind, .int .i64 t.place, .int .i64 t.len, .int .i64 t.num]) h
theorem Eb (t : Tok) : ∀ u ∈ pQ t, u.oneCell' = true := by
 intro u hu
 simp only [pQ, List.mem_cons, List.not_mem_nil, or_false] at hu
 rcases hu with rfl | rfl | rfl | rfl <;> rfl
theorem sJ (w1 : World) (o1 o2 : Obj) : Below w1.heap.size w1 ((w1.alloc o1).alloc o2) := ((Below.refl _ _).alloc (Nat.le_refl _) _).alloc (by simp) _
theorem BZ {w wr w1 w2 : World} {u : Value} {n : Nat} {cs : List Value} {t : Tok} (hown : wr.ownsRow (w.heap.size + 1) 62 4 u n cs) (HB : ll w wr) (hb1 : Below wr.heap.size wr w1)
  (hg : ((w1.alloc (Ea t)).alloc (Ea t)).grownBy w2 u.ownBlock) : ll w w2 /\ w2.cell? ⟨w1.heap.size, 2, none⟩ = some (.int .i64 t.len) := by
 have hz := Below.size HB
 simp at hz
 have hz1 := hb1.size
 refine ⟨?_, ?_⟩
 ·refine Below.grown (Below.trans (Below.trans HB (hb1.mono (by omega))) ((sJ w1 _ _).mono (by omega))) hg (by simp; omega) ?_
  intro k hk
  exact (hown.lt k hk).1
 ·rw [hg.cell_far _ (by simp; omega) (by intro e; have := (hown.lt _ e.symm).2; simp at this; omega)]
  simp [Ea]
theorem yN {w wr : World} {u : Value} {n : Nat} {cs : List Value} {x y : Value} (h : wr.ownsRow (w.heap.size + 1) 62 4 u n cs) :
  ((wr.setCell ⟨w.heap.size, 0, none⟩ x).setCell ⟨w.heap.size, 1, none⟩ y).ownsRow w.heap.size 62 4 u n cs :=
 sI (ownsRow_setCell_below (ownsRow_setCell_below h (by simp) _) (by simp) _) (by omega)
theorem oD {w wr : World} (HB : ll w wr) : ∀ w1, Below wr.heap.size wr w1 -> w1.cell? ⟨w.heap.size, 0, none⟩ = some (.int .i64 0) /\ w1.cell? ⟨w.heap.size, 1, none⟩ = some (.int .i64 0) /\ w1.frozen? ⟨w.heap.size, 0, none⟩ = false /\ w1.frozen? ⟨w.heap.size, 1, none⟩ = false /\ w.heap.size < w1.heap.size := by
 intro w1 hb1
 have hz1 := hb1.size
 have hz := Below.size HB
 simp at hz
 refine ⟨?_, ?_, ?_, ?_, by omega⟩
 ·rw [hb1.cell (by simp; omega), Below.cell HB (by simp)]; simp
 ·rw [hb1.cell (by simp; omega), Below.cell HB (by simp)]; simp
 ·rw [hb1.frozen (by simp; omega), Below.frozen HB (by simp)]; simp
 ·rw [hb1.frozen (by simp; omega), Below.frozen HB (by simp)]; simp
theorem Ca (b o cap : Nat) (xs : List UInt8) (w : World) (hs : Src w b o xs) (hb : b < w.heap.size) (hl : xs.length <= 65536) (hcap : xs.length <= cap) (hL : Laid w) :
  Calls Tryz.prog 19 #[.slice (some ⟨b, o, none⟩) xs.length cap] w fun e w' => ∃ v, e = .returned (.tuple #[v, .agg #[.int .i64 (aA xs).2.1, .int .i64 (aA xs).2.2]]) /\ w'.ownsRow w.heap.size 62 4 v (aA xs).1.length (dF (aA xs).1) /\ Below w.heap.size w w' := by
 have hml : xs.length <= maxLen := by unfold maxLen; omega
 have hsk := vL b o cap xs 0 (w.alloc (.cells #[.int .i64 0, .int .i64 0] 30)) (hs.below hb ((Below.refl _ _).alloc (Nat.le_refl _) _)) hml (Nat.zero_le _)
 have HK : Box _ := ⟨hsk⟩
 have h0 := (iq xs 0 (Nat.zero_le _)).2
 have hst : uA w xs (xs.length + 1) (bB xs 0) [] := ⟨by unfold aA; rw [if_neg (by omega)], by omega, Nat.zero_le _⟩
 generalize bB xs 0 = k0 at *
 clear hsk
 obtain ⟨i0, hi, hz0, hz1, hz2⟩ := info_parts D9
 go_enter Tryz.func19, Tryz.ntmps19
 go_wp2_with (first | (go_at_call 35; refine Calls.mono HK.out ?_; rintro e w' ⟨rfl, rfl⟩))
 go_loopw [4, 5] (fun v i wr => ∃ f k : Nat, ∃ acc : List Tok, k <= xs.length /\ i = .int .i64 k /\ wr.ownsRow (w.heap.size + 1) 62 4 v acc.length (dF acc) /\ ll w wr /\ uA w xs f k acc)
  (fun _ i _ => xs.length - (intOf i).toNat)
 case atStart => exact ⟨xs.length + 1, k0, [], h0, rfl, World.ownsRow_nil _ _ _ _, Below.refl _ _, hst⟩
 case round =>
  obtain ⟨f, k, acc, hk, rfl, hown, HB, HE⟩ := hrel
  by_cases hlt : k < xs.length
  ·have hsz := HB.below.size
   have HN : Box _ := ⟨D8 b o cap xs k wr (hs.below hb HB.below) (by omega) hl hcap hlt (hL.below HB.below)⟩
   have hlen := jc xs k hlt
   generalize hr : bG xs k = r at *
   by_cases he : r.2 = 0
   ·have hlen := hlen he
    have hnx : f ≠ 0 := by have := HE.fuel; omega
    obtain ⟨f, rfl⟩ : ∃ f', f = f' + 1 := ⟨f - 1, by omega⟩
    have hskl := iq xs (k + r.1.len) hlen.2
    have HE' : uA w xs f (bB xs (k + r.1.len)) (acc ++ [r.1]) := by
     refine ⟨?_, ?_, ?_⟩
     ·rw [HE.eq, iw, if_pos hlt, hr, if_pos he]
     ·have := HE.fuel; omega
     ·have := HE.few; simp; omega
    have HSK : Box (∀ w2, Below w.heap.size w w2 -> Calls Tryz.prog 35 #[.slice (some ⟨b, o, none⟩) xs.length cap, .int .i64 ((k : Int) + (r.1.len : Int))] w2 fun e w' => e = .returned (.int .i64 (bB xs (k + r.1.len))) /\ w2 = w') :=
     ⟨fun w2 h2 => vL b o cap xs (k + r.1.len) w2 (hs.below hb h2) hml hlen.2⟩
    generalize bB xs (k + r.1.len) = k' at *
    have hec : ((r.2 : Int) != 0) = false := by rw [he]; rfl
    have hfew := HE.few
    clear HE hr he hs hL HK hst h0
    obtain ⟨hlen1, hlen2⟩ := hlen
    go_wp2_with (first | (go_at_call 36; refine Calls.mono HN.out ?_; rintro e w1 ⟨rfl, hb1⟩; unfold aa) | (at_builtin; refine wpList_append_lies _ rfl (.tmp 29) (.tmp 31) 56 rfl (w.heap.size + 1) 62 i0 (.agg #[.int .i64 0, .int .i64 0, .int .i64 0, .int .i64 0]) 4 32 Tryz.underlying56 hi hz0 hz1 hz2 rfl (by omega) _ acc.length (dF acc) rfl (jQ (jQ hown hb1) (sJ w1 _ _)) ⟨w1.heap.size + 1, 0, none⟩ 1 1 (pQ r.1) rfl rfl (F6 w1 _ r.1) (Eb r.1) (by omega) (by unfold maxLen; omega) (by omega) (by have := Below.size HB; have := hb1.size; simp at *; omega) (w1.heap.size + 2) (by simp) ?_; intro g cp w2 hown2 hgrow hat hlt2; obtain ⟨HB2, hc2⟩ := BZ hown HB hb1 hgrow; clear hgrow hat hlt2) | (go_at_call 35; refine Calls.mono (HSK.out _ HB2.below) ?_; rintro e w' ⟨rfl, rfl⟩))
    go_roundw
    case rel => exact ⟨f, k', acc ++ [r.1], hskl.2, rfl, by rw [pV]; simpa using hown2, HB2, HE'⟩
    case measure => simp [intOf]; omega
   ·have hec : ((r.2 : Int) != 0) = true := by rw [bne_iff_ne]; omega
    obtain ⟨f, rfl⟩ : ∃ f', f = f' + 1 := ⟨f - 1, by have := HE.fuel; omega⟩
    have HA : Box (aA xs = ([], k, r.2)) := ⟨by rw [HE.eq, iw, if_pos hlt, hr, if_neg he]⟩
    have HF := oD HB
    clear HE hr he hs hL HK hst h0 hown hlen
    go_wp2_with (first | (go_at_call 36; refine Calls.mono HN.out ?_; rintro e w1 ⟨rfl, hb1⟩; obtain ⟨p0, p1, p2, p3, p4⟩ := HF w1 hb1; unfold aa))
    refine bodyPost_ret (v := .tuple #[.slice none 0 0, .agg #[.int .i64 k, .int .i64 r.2]]) (by simp [results, Tryz.results19, go_sem, p0, p1, p4]) rfl ⟨.slice none 0 0, by rw [HA.out], by rw [HA.out]; exact World.ownsRow_nil _ _ _ _, ?_⟩
    exact ((((HB.below.trans (hb1.mono (by omega))).setCell (Nat.le_refl _) _).setCell (Nat.le_refl _) _).alloc (by simp; omega) _)
  ·obtain ⟨f, rfl⟩ : ∃ f', f = f' + 1 := ⟨f - 1, by have := HE.fuel; omega⟩
   have HA : Box (aA xs = (acc, 0, 0)) := ⟨by rw [HE.eq, iw, if_neg hlt]⟩
   have hwr : Below wr.heap.size wr wr := Below.refl _ _
   obtain ⟨p0, p1, p2, p3, p4⟩ := oD HB wr hwr
   clear HE hs hL HK hst h0 hwr
   go_wp2
   refine bodyPost_ret (v := .tuple #[u4, .agg #[.int .i64 0, .int .i64 0]]) (by simp [results, Tryz.results19, go_sem, p0, p1]) rfl ⟨u4, by rw [HA.out]; rfl, by rw [HA.out]; exact yN hown, ?_⟩
   exact (HB.below.setCell (Nat.le_refl _) _).setCell (Nat.le_refl _) _
def gY (xs : List UInt8) : Nat -> List Tok -> Prop
 | k, [] => bB xs k = xs.length
 | k, t :: r => bB xs k = t.place /\ t.place < xs.length /\ bG xs t.place = (t, 0) /\ gY xs (t.place + t.len) r
theorem vR (xs : List UInt8) (k : Nat) (h : (bG xs k).2 = 0) : (bG xs k).1.place = k := by
 unfold bG at h ⊢
 split at h
 ·rename_i h1
  rw [if_pos h1]
  unfold il at h ⊢
  split at h
  ·rename_i n1; rw [if_pos n1]
  ·rename_i n1
   split at h
   ·simp at h
   ·rename_i n2; rw [if_neg n1, if_neg n2]
 ·rename_i h1
  rw [if_neg h1]
  split at h
  ·rename_i h2
   rw [if_pos h2]
   unfold kD at h ⊢
   split at h
   ·simp at h
   ·rename_i n1
    split at h
    ·simp at h
    ·rename_i n2
     split at h
     ·rename_i n3; rw [if_neg n1, if_neg n2, if_pos n3]
     ·simp at h
  ·rename_i h2
   rw [if_neg h2]
   unfold gQ at h ⊢
   split at h
   ·simp at h
   ·rename_i n1; rw [if_neg n1]
theorem jD (xs : List UInt8) : ∀ (f k at_ : Nat) (acc l : List Tok) (a c : Nat), bB xs at_ = k -> k <= xs.length -> xs.length - k < f -> iw f xs k acc = (l, a, c) ->
  (c = 0 -> ∃ r, l = acc ++ r /\ gY xs at_ r) /\ (c ≠ 0 -> l = [] /\ a <= xs.length)
 | 0, k, at_, acc, l, a, c, _, _, hf, _ => absurd hf (Nat.not_lt_zero _)
 | f + 1, k, at_, acc, l, a, c, hk, hl, hf, h => by
  rw [iw] at h
  by_cases hlt : k < xs.length
  ·rw [if_pos hlt] at h
   by_cases h0 : (bG xs k).2 = 0
   ·rw [if_pos h0] at h
    have hlen := jc xs k hlt h0
    have hpl := vR xs k h0
    have hs := iq xs (k + (bG xs k).1.len) hlen.2
    obtain ⟨i1, i2⟩ := jD xs f _ (k + (bG xs k).1.len) _ l a c rfl hs.2 (by omega) h
    refine ⟨fun hc => ?_, i2⟩
    obtain ⟨r, e, hcov⟩ := i1 hc
    refine ⟨(bG xs k).1 :: r, by rw [e]; simp, ?_⟩
    refine ⟨by rw [hpl]; exact hk, by rw [hpl]; exact hlt, ?_, by rw [hpl]; exact hcov⟩
    rw [hpl]
    exact Prod.ext rfl h0
   ·rw [if_neg h0] at h
    have e1 := congrArg (·.1) h
    have e2 := congrArg (·.2.1) h
    have e3 := congrArg (·.2.2) h
    simp only at e1 e2 e3
    refine ⟨fun hc => absurd (e3.trans hc) h0, fun _ => ⟨e1.symm, by omega⟩⟩
  ·rw [if_neg hlt] at h
   have e1 := congrArg (·.1) h
   have e3 := congrArg (·.2.2) h
   simp only at e1 e3
   refine ⟨fun _ => ⟨[], by simp [e1], ?_⟩, fun hc => absurd e3.symm hc⟩
   show bB xs at_ = xs.length
   omega
theorem iF (xs : List UInt8) (h : (aA xs).2.2 = 0) : gY xs 0 (aA xs).1 /\ xs.length <= 65536 := by
 unfold aA at h ⊢
 by_cases hl : 65536 < xs.length
 ·rw [if_pos hl] at h; simp at h
 ·rw [if_neg hl] at h ⊢
  have hs := iq xs 0 (Nat.zero_le _)
  generalize hg : iw (xs.length + 1) xs (bB xs 0) [] = R at h ⊢
  obtain ⟨l, a, c⟩ := R
  obtain ⟨h1, _⟩ := jD xs (xs.length + 1) (bB xs 0) 0 [] l a c rfl hs.2 (by omega) hg
  obtain ⟨r, e, hc⟩ := h1 h
  have e' : l = r := by simpa using e
  exact ⟨by rw [e']; exact hc, by omega⟩
theorem yO (xs : List UInt8) (h : (aA xs).2.2 ≠ 0) : (aA xs).1 = [] /\ (aA xs).2.1 <= xs.length := by
 unfold aA at h ⊢
 by_cases hl : 65536 < xs.length
 ·rw [if_pos hl]; exact ⟨rfl, by simp only; omega⟩
 ·rw [if_neg hl] at h ⊢
  have hs := iq xs 0 (Nat.zero_le _)
  generalize hg : iw (xs.length + 1) xs (bB xs 0) [] = R at h ⊢
  obtain ⟨l, a, c⟩ := R
  obtain ⟨_, h2⟩ := jD xs (xs.length + 1) (bB xs 0) 0 [] l a c rfl hs.2 (by omega) hg
  exact h2 h
theorem gB (l : List UInt8) : ∀ (T : List (List UInt8)) (n : Nat) (acc : Nat × Nat),
  acc.2 <= (cz T n acc l).2 /\ (∀ s ∈ T, s.isPrefixOf l = true -> s.length <= (cz T n acc l).2) /\
  (cz T n acc l = acc ∨ ∃ i, i < T.length /\ (cz T n acc l).1 = n + i /\ (T.getD i []).isPrefixOf l = true /\ (T.getD i []).length = (cz T n acc l).2)
 | [], n, acc => by
  refine ⟨Nat.le_refl _, ?_, .inl rfl⟩
  intro s h
  exact absurd h (List.not_mem_nil)
 | s :: r, n, acc => by
  simp only [cz]
  by_cases hc : acc.2 < s.length /\ s.isPrefixOf l = true
  ·rw [if_pos hc]
   obtain ⟨h1, h2, h3⟩ := gB l r (n + 1) (n, s.length)
   simp only at h1
   refine ⟨by omega, ?_, ?_⟩
   ·intro s' hs' hp
    rcases List.mem_cons.1 hs' with rfl | hs'
    ·exact h1
    ·exact h2 s' hs' hp
   ·right
    rcases h3 with h3 | ⟨i, a1, a2, a3, a4⟩
    ·refine ⟨0, by simp, by rw [h3]; rfl, by simpa using hc.2, by rw [h3]; rfl⟩
    ·exact ⟨i + 1, by simp; omega, by omega, by simpa using a3, by simpa using a4⟩
  ·rw [if_neg hc]
   obtain ⟨h1, h2, h3⟩ := gB l r (n + 1) acc
   refine ⟨h1, ?_, ?_⟩
   ·intro s' hs' hp
    rcases List.mem_cons.1 hs' with rfl | hs'
    ·have : ¬ acc.2 < s'.length := fun h => hc ⟨h, hp⟩
     omega
    ·exact h2 s' hs' hp
   ·rcases h3 with h3 | ⟨i, a1, a2, a3, a4⟩
    ·exact .inl h3
    ·exact .inr ⟨i + 1, by simp; omega, by omega, by simpa using a3, by simpa using a4⟩
theorem kL (l l' : List UInt8) : ∀ (T : List (List UInt8)) (n : Nat) (acc : Nat × Nat), (∀ s ∈ T, s.isPrefixOf l = s.isPrefixOf l') -> cz T n acc l = cz T n acc l'
 | [], n, acc, _ => rfl
 | s :: r, n, acc, h => by
  simp only [cz]
  rw [h s (List.mem_cons_self), kL l l' r _ _ (fun s' hs' => h s' (List.mem_cons_of_mem _ hs'))]
theorem lM (xs : List UInt8) : ∀ (l : List Tok) (at_ f : Nat) (acc : List Tok), at_ <= xs.length -> gY xs at_ l -> xs.length - bB xs at_ < f -> iw f xs (bB xs at_) acc = (acc ++ l, 0, 0)
 | [], at_, f, acc, ha, hc, hf => by
  obtain ⟨f, rfl⟩ : ∃ f', f = f' + 1 := ⟨f - 1, by omega⟩
  have hc : bB xs at_ = xs.length := hc
  rw [iw, if_neg (by omega)]
  simp
 | t :: r, at_, f, acc, ha, hc, hf => by
  obtain ⟨f, rfl⟩ : ∃ f', f = f' + 1 := ⟨f - 1, by omega⟩
  obtain ⟨q1, q2, q3, q4⟩ := hc
  have hlen := jc xs t.place q2 (by rw [q3])
  rw [q3] at hlen
  simp only at hlen
  have hs := iq xs (t.place + t.len) hlen.2
  rw [q1] at hf ⊢
  rw [iw, if_pos q2, q3]
  simp only [if_true]
  rw [lM xs r (t.place + t.len) f (acc ++ [t]) hlen.2 q4 (by omega)]
  simp
theorem kM (xs : List UInt8) (l : List Tok) (h : gY xs 0 l) (hl : xs.length <= 65536) : aA xs = (l, 0, 0) := by
 unfold aA
 rw [if_neg (by omega), lM xs l 0 (xs.length + 1) [] (Nat.zero_le _) h (by omega)]
 simp
def Ends (c : UInt8) : Prop := wbI c.toNat = false /\ bF c.toNat = false /\ wsI c.toNat = false /\ ∀ s ∈ bW, c ∉ s
theorem pW (p : Int -> Bool) (c : UInt8) (h : p c.toNat = false) (r : List UInt8) : ∀ l : List UInt8, eD p (l ++ c :: r) = eD p l
 | [] => by simp [eD, h]
 | b :: l => by
  have ih := pW p c h r l
  simp only [List.cons_append, eD]
  rw [ih]
theorem oF (p : Int -> Bool) (c : UInt8) (h : p c.toNat = false) (r xs : List UInt8) (k : Nat) (hk : k <= xs.length) : aC p (xs ++ c :: r) k = aC p xs k := by
 unfold aC
 rw [List.drop_append_of_le_length hk, pW p c h r]
theorem vS (xs r : List UInt8) (k e : Nat) (hk : k <= e) (he : e <= xs.length) : cut (xs ++ r) k e = cut xs k e := by
 unfold cut
 rw [List.drop_append_of_le_length (by omega), List.take_append_of_le_length (by simp; omega)]
theorem nS (xs r : List UInt8) (k : Nat) (hk : k < xs.length) : (xs ++ r).getD k 0 = xs.getD k 0 := by
 simp [List.getD, List.getElem?_append, hk]
theorem getD_at (xs r : List UInt8) (c : UInt8) : (xs ++ c :: r).getD xs.length 0 = c := by
 simp [List.getD]
theorem oG (c : UInt8) (r : List UInt8) : ∀ (s l : List UInt8), c ∉ s -> s.isPrefixOf (l ++ c :: r) = s.isPrefixOf l
 | [], l, _ => by simp [List.isPrefixOf]
 | a :: s, [], h => by
  have : a ≠ c := fun e => h (by simp [e])
  simp [List.isPrefixOf, this]
 | a :: s, b :: l, h => by
  have ih := oG c r s l (fun hm => h (List.mem_cons_of_mem _ hm))
  simp only [List.cons_append, List.isPrefixOf, ih]
theorem Cb (c : UInt8) (hc : Ends c) (r l : List UInt8) : gP (l ++ c :: r) = gP l :=
 kL _ _ bW 40 (0, 0) (fun s hs => oG c r s l (hc.2.2.2 s hs))
theorem Cc (c : UInt8) (hc : Ends c) (r xs : List UInt8) (k : Nat) (hk : k < xs.length) : bG (xs ++ c :: r) k = bG xs k := by
 obtain ⟨c1, c2, c3, c4⟩ := hc
 unfold bG
 rw [nS xs (c :: r) k hk]
 have hw : il (xs ++ c :: r) k = il xs k := by
  have hle := dN wbI xs k (by omega)
  have hcut : ((xs ++ c :: r).drop k).take (aC wbI xs k - k) = (xs.drop k).take (aC wbI xs k - k) := vS xs (c :: r) k (aC wbI xs k) hle.1 hle.2
  unfold il
  rw [oF wbI c c1 r xs k (by omega), hcut]
 have hn : kD (xs ++ c :: r) k = kD xs k := by
  have hle := dN bF xs k (by omega)
  unfold kD
  rw [oF bF c c2 r xs k (by omega), nS xs (c :: r) k hk, vS xs (c :: r) k _ hle.1 hle.2]
  by_cases he : aC bF xs k < xs.length
  ·rw [nS xs (c :: r) _ he]
   have e : (aC bF xs k < (xs ++ c :: r).length /\ wsI ((xs.getD (aC bF xs k) 0).toNat : Int) = true) ↔ (aC bF xs k < xs.length /\ wsI ((xs.getD (aC bF xs k) 0).toNat : Int) = true) := by
    constructor
    ·intro h; exact ⟨he, h.2⟩
    ·intro h; exact ⟨by simp; omega, h.2⟩
   by_cases h1 : aC bF xs k < xs.length /\ wsI ((xs.getD (aC bF xs k) 0).toNat : Int) = true
   ·rw [if_pos h1, if_pos (e.2 h1)]
   ·rw [if_neg h1, if_neg (fun h => h1 (e.1 h))]
  ·have he' : aC bF xs k = xs.length := by omega
   rw [he', getD_at]
   have n1 : ¬ (xs.length < (xs ++ c :: r).length /\ wsI (c.toNat : Int) = true) := fun h => by rw [c3] at h; exact absurd h.2 (by simp)
   have n2 : ¬ (xs.length < xs.length /\ wsI ((xs.getD xs.length 0).toNat : Int) = true) := fun h => absurd h.1 (by omega)
   rw [if_neg n1, if_neg n2]
 have hsg : gQ (xs ++ c :: r) k = gQ xs k := by
  unfold gQ
  rw [List.drop_append_of_le_length (by omega), Cb c ⟨c1, c2, c3, c4⟩]
 rw [hw, hn, hsg]
def nT (n : Nat) (t : Tok) : Tok := ⟨t.kind, t.place + n, t.len, t.num⟩
theorem kN (pre r : List UInt8) (k : Nat) : (pre ++ r).drop (pre.length + k) = r.drop k := by
 rw [List.drop_append]
 simp
theorem pX (pre r : List UInt8) (k : Nat) : (pre ++ r).getD (pre.length + k) 0 = r.getD k 0 := by
 rw [List.getD_eq_getElem?_getD, List.getElem?_append_right (by omega), Nat.add_sub_cancel_left, List.getD_eq_getElem?_getD]
theorem pY (p : Int -> Bool) (pre r : List UInt8) (k : Nat) : aC p (pre ++ r) (pre.length + k) = pre.length + aC p r k := by
 unfold aC; rw [kN]; omega
theorem yP (pre r : List UInt8) (k : Nat) : bB (pre ++ r) (pre.length + k) = pre.length + bB r k := by
 unfold bB; rw [kN]; omega
theorem Ec (pre r : List UInt8) (k : Nat) (t : Tok) (h : bG r k = (t, 0)) : bG (pre ++ r) (pre.length + k) = (nT pre.length t, 0) := by
 have hR : bG (pre ++ r) (pre.length + k) = if wsI ((r.getD k 0).toNat : Int) = true then il (pre ++ r) (pre.length + k) else if bF ((r.getD k 0).toNat : Int) = true then kD (pre ++ r) (pre.length + k) else gQ (pre ++ r) (pre.length + k) := by
  unfold bG; rw [pX]
 rw [hR]
 unfold bG at h
 have e0 : ∀ p, pre.length + aC p r k - (pre.length + k) = aC p r k - k := fun p => by omega
 by_cases h1 : wsI ((r.getD k 0).toNat : Int) = true
 ·rw [if_pos h1] at h ⊢
  unfold il at h ⊢
  rw [pY, kN, e0]
  split at h
  ·rename_i n1
   rw [if_pos n1]
   have e := (Prod.mk.inj h).1
   subst e
   simp [nT]; omega
  ·rename_i n1
   split at h
   ·simp at h
   ·rename_i n2
    rw [if_neg n1, if_neg n2]
    have e := (Prod.mk.inj h).1
    subst e
    simp [nT]; omega
 ·rw [if_neg h1] at h ⊢
  by_cases h2 : bF ((r.getD k 0).toNat : Int) = true
  ·rw [if_pos h2] at h ⊢
   unfold kD at h ⊢
   have ec : cut (pre ++ r) (pre.length + k) (pre.length + aC bF r k) = cut r k (aC bF r k) := by unfold cut; rw [kN, e0]
   rw [pY, pX, pX, e0, ec]
   have el : (pre.length + aC bF r k < (pre ++ r).length) ↔ aC bF r k < r.length := by simp
   split at h
   ·simp at h
   ·rename_i n1
    rw [if_neg (fun hh => n1 ⟨el.1 hh.1, hh.2⟩)]
    split at h
    ·simp at h
    ·rename_i n2
     rw [if_neg n2]
     split at h
     ·rename_i n3
      rw [if_pos n3]
      have e := (Prod.mk.inj h).1
      subst e
      simp [nT]; omega
     ·simp at h
  ·rw [if_neg h2] at h ⊢
   unfold gQ at h ⊢
   rw [kN]
   split at h
   ·simp at h
   ·rename_i n1
    rw [if_neg n1]
    have e := (Prod.mk.inj h).1
    subst e
    simp [nT]; omega
structure Bx (p : Prop) : Prop where
  out : p
theorem dS {a b : Bool} (h : a = b) : Ending.returned (.bool a) = .returned (.bool b) := by rw [h]
theorem ah (w : World) (o : Obj) : Below w.heap.size w (w.alloc o) := (Below.refl _ _).alloc (Nat.le_refl _) _
def ndV (ka : Option Addr) (kc : Nat) (n : Nd) : Value := .agg #[.int .i64 n.kind, .int .i64 n.pos, .slice ka n.kids.length kc, .string n.name, .int .i64 n.num]
theorem iy (k : Int) (w : World) : Calls Tryz.prog 28 #[.int .i64 k] w fun e w' => e = .returned (.bool (dZ k)) /\ w = w' := by
  unfold dZ
  cases h1 : decide (1 <= k) <;>
    (go_enter Tryz.func28, Tryz.ntmps28
     go_wp2
     go_ret
     exact ⟨by simp, rfl⟩)
theorem gL (k : Int) (w : World) : Calls Tryz.prog 30 #[.int .i64 k] w fun e w' => e = .returned (.bool (aL k)) /\ w = w' := by
  unfold aL
  cases h1 : decide (11 <= k) <;>
    (go_enter Tryz.func30, Tryz.ntmps30
     go_wp2
     go_ret
     exact ⟨by simp, rfl⟩)
theorem eQ (k : Int) (w : World) : Calls Tryz.prog 32 #[.int .i64 k] w fun e w' => e = .returned (.bool (gM k)) /\ w = w' := by
  unfold gM
  cases h1 : decide (31 <= k) <;>
    (go_enter Tryz.func32, Tryz.ntmps32
     go_wp2
     go_ret
     exact ⟨by simp, rfl⟩)
theorem fP (k : Int) (w : World) : Calls Tryz.prog 22 #[.int .i64 k] w fun e w' => e = .returned (.bool (fZ k)) /\ w = w' := by
  unfold fZ
  cases h1 : dZ k <;> cases h2 : aL k <;> cases h3 : gM k <;> cases h4 : decide (42 <= k) <;>
    (go_enter Tryz.func22, Tryz.ntmps22
     go_wp2_with (first | (go_at_call 28; refine (iy _ _).mono ?_; rintro e w' ⟨rfl, rfl⟩) | (go_at_call 30; refine (gL _ _).mono ?_; rintro e w' ⟨rfl, rfl⟩) | (go_at_call 32; refine (eQ _ _).mono ?_; rintro e w' ⟨rfl, rfl⟩))
     go_ret
     exact ⟨by simp, rfl⟩)
theorem Ce (k : Int) (w : World) : Calls Tryz.prog 46 #[.int .i64 k] w fun e w' => e = .returned (.bool (pK k)) /\ w = w' := by
  unfold pK
  cases h1 : (k == 43) <;>
    (go_enter Tryz.func46, Tryz.ntmps46
     go_wp2
     go_ret
     exact ⟨by simp, rfl⟩)
theorem yQ (k : Int) (w : World) : Calls Tryz.prog 45 #[.int .i64 k] w fun e w' => e = .returned (.bool (kF k)) /\ w = w' := by
  unfold kF
  cases h1 : (k == 41) <;>
    (go_enter Tryz.func45, Tryz.ntmps45
     go_wp2
     go_ret
     exact ⟨by simp, rfl⟩)
theorem uB (op : Int) (w : World) : Calls Tryz.prog 71 #[.int .i64 op] w fun e w' => e = .returned (.int .i64 (aX op)) /\ w = w' := by
  go_enter Tryz.func71, Tryz.ntmps71
  go_wp2
  all_goals
    go_ret
    refine ⟨fJ ?_, rfl⟩
    simp at *
    unfold aX
    (repeat' split) <;> omega
theorem lm (ka : Option Addr) (kc : Nat) (n : Nd) (w : World) : Calls Tryz.prog 39 #[ndV ka kc n] w fun e w' => e = .returned (.int .i64 (dL n.kind n.num)) /\ Below w.heap.size w w' := by
  obtain ⟨k, p, ks, nm, num⟩ := n
  unfold ndV
  simp only
  have hx : ∀ j, aL j = (decide (11 <= j) && decide (j <= 25)) := fun _ => rfl
  go_enter Tryz.func39, Tryz.ntmps39
  go_wp2_with (first | (go_at_call 71; refine (uB _ _).mono ?_; rintro e w' ⟨rfl, rfl⟩) | (go_at_call 30; refine (gL _ _).mono ?_; rintro e w' ⟨rfl, rfl⟩))
  all_goals
    go_ret
    refine ⟨fJ ?_, ah _ _⟩
    unfold dL aL at *
    simp at *
    (repeat' split) <;> first | rfl | omega
theorem yR (w w1 : World) (o : Obj) (h : Below (w.alloc o).heap.size (w.alloc o) w1) : Below w.heap.size w w1 := (ah w o).trans (h.mono (by simp))
theorem gT (ka : Option Addr) (kc : Nat) (n : Nd) (w : World) : Calls Tryz.prog 23 #[ndV ka kc n] w fun e w' => e = .returned (.bool (bz n.kind n.num n.kids.length)) /\ Below w.heap.size w w' := by
 obtain ⟨k, p, ks, nm, num⟩ := n
 unfold ndV
 simp only
 have HL : Bx (∀ w, Calls Tryz.prog 39 #[.agg #[.int .i64 k, .int .i64 p, .slice ka ks.length kc, .string nm, .int .i64 num]] w fun e w' => e = .returned (.int .i64 (dL k num)) /\ Below w.heap.size w w') := ⟨fun w => lm ka kc ⟨k, p, ks, nm, num⟩ w⟩
 go_enter Tryz.func23, Tryz.ntmps23
 go_wp2_with (first | (go_at_call 39; refine Calls.mono (HL.out _) ?_; rintro e w1 ⟨rfl, hb1⟩))
 all_goals
  go_ret
  refine ⟨dS ?_, by first | exact ah _ _ | exact yR _ _ _ hb1⟩
  clear HL
  unfold bz
  simp at *
  (repeat' split) <;> first | rfl | omega | (simp_all; done) | (simp_all; omega)
def IA (lv pl : Int) : Int := if pl = 0 /\ lv ≠ 3 then lv else lv + 1
theorem o7 (lv pl : Int) (w : World) (h : 0 <= lv) (h' : lv <= 8) : Calls Tryz.prog 73 #[.int .i64 lv, .int .i64 pl] w fun e w' => e = .returned (.int .i64 (IA lv pl)) /\ w = w' := by
 go_enter Tryz.func73, Tryz.ntmps73
 go_wp2
 all_goals
  go_ret
  refine ⟨fJ ?_, rfl⟩
  unfold IA
  simp at *
  (repeat' split) <;> omega
theorem yS (ka : Option Addr) (kc : Nat) (n : Nd) (pl : Nat) (hp : pl <= maxLen) (w : World) : Calls Tryz.prog 47 #[ndV ka kc n, .int .i64 pl] w fun e w' => e = .returned (.int .i64 (eO n.kind n.num pl)) /\ Below w.heap.size w w' := by
 obtain ⟨k, p, ks, nm, num⟩ := n
 unfold ndV
 simp only
 have HL : Bx (∀ w, Calls Tryz.prog 39 #[.agg #[.int .i64 k, .int .i64 p, .slice ka ks.length kc, .string nm, .int .i64 num]] w fun e w' => e = .returned (.int .i64 (dL k num)) /\ Below w.heap.size w w') := ⟨fun w => lm ka kc ⟨k, p, ks, nm, num⟩ w⟩
 have hle := nP k num
 go_enter Tryz.func47, Tryz.ntmps47
 go_wp2_with (first | (go_at_call 39; refine Calls.mono (HL.out _) ?_; rintro e w1 ⟨rfl, hb1⟩) | (go_at_call 73; refine (o7 _ _ _ hle.1 hle.2).mono ?_; rintro e w' ⟨rfl, rfl⟩))
 all_goals
  go_ret
  refine ⟨fJ ?_, by first | exact ah _ _ | exact yR _ _ _ hb1⟩
  clear HL
  unfold eO
  try unfold IA
  simp at *
  (repeat' split) <;> first | rfl | omega | (simp_all; done) | (simp_all; omega)
def opT (op : Int) : List UInt8 :=
 if op = 1 ∨ op = 32 then [45] else if op = 2 then [33] else if op = 3 then [60, 45] else if op = 11 then [124, 124] else if op = 12 then [38, 38] else if op = 21 then [61, 61] else if op = 22 then [33, 61] else if op = 23 then [60]
 else if op = 24 then [60, 61] else if op = 25 then [62] else if op = 26 then [62, 61] else if op = 31 then [43] else if op = 41 then [42] else if op = 42 then [47] else [37]
theorem mQ (op : Int) (w : World) : Calls Tryz.prog 56 #[.int .i64 op] w fun e w' => e = .returned (.string ⟨(opT op).toArray⟩) /\ w = w' := by
 go_enter Tryz.func56, Tryz.ntmps56
 go_wp2
 all_goals
  go_ret
  refine ⟨?_, rfl⟩
  unfold opT
  simp at *
  simp [*]
theorem Ed (a : Int) (w : World) : Calls Tryz.prog 43 #[.int .i64 a] w fun e w' => e = .returned (.func (.func 72) #[] #[.pointer (some ⟨w.heap.size, 0, none⟩)]) /\ w.alloc (.cells #[.int .i64 a] 3) = w' := by
 go_enter Tryz.func43, Tryz.ntmps43
 go_wp2
 go_ret
 exact ⟨rfl, rfl⟩
theorem Cf (a k : Int) (g : Nat) (w : World) (hc : w.cell? ⟨g, 0, none⟩ = some (.int .i64 a)) : Calls Tryz.prog 72 #[.int .i64 k, .pointer (some ⟨g, 0, none⟩)] w fun e w' => e = .returned (.bool (cu a k)) /\ w = w' := by
 go_enter Tryz.func72, Tryz.ntmps72
 go_wp2
 go_ret
 exact ⟨rfl, rfl⟩
def Far (c : Nat) (w w' : World) : Prop := ∀ b, b ≠ c -> w'.heap[b]? = w.heap[b]?
theorem Far.refl (c : Nat) (w : World) : Far c w w := fun _ _ => rfl
theorem Far.drew {c : Nat} {w w' : World} (h : Far c w w') : Far c w w'.drew := h
theorem Far.trans {c : Nat} {w w' w'' : World} (h : Far c w w') (h' : Far c w' w'') : Far c w w'' := fun b hb => (h' b hb).trans (h b hb)
theorem Far.cell {c : Nat} {w w' : World} (h : Far c w w') (b i : Nat) (hb : b ≠ c) : w'.cell? ⟨b, i, none⟩ = w.cell? ⟨b, i, none⟩ := by
 have := h b hb
 simp only [World.cell?, this]
structure aQ (w : World) (B : Nat) (v : Value) (ks : List Int) : Prop where
 ex : ∃ a cap, v = .slice a ks.length cap /\ ks.length <= cap /\ ks.length <= maxLen /\ (0 < ks.length -> ∃ b o, a = some ⟨b, o, none⟩ /\ b < B /\ ∀ i (h : i < ks.length), w.cell? ⟨b, o + i, none⟩ = some (.int .i64 ks[i]))
def fu (lv left : Value) (m : Bool) : Obj := .cells #[lv, left, .bool m] 79 (0, 0)
theorem yT (c : Nat) (lv : Value) (a : Option Addr) (cap : Nat) (m : Bool) (cl : Value) (w : World) (hc : w.heap[c]? = some (fu lv (.slice a 0 cap) m)) :
  Calls Tryz.prog 44 #[.pointer (some ⟨c, 0, none⟩), cl] w fun e w' => e = .returned (.bool false) /\ w'.heap = w.heap /\ Below w.heap.size w w' := by
 have c0 : w.cell? ⟨c, 0, none⟩ = some lv := by simp [World.cell?, hc, fu]
 have c1 : w.cell? ⟨c, 1, none⟩ = some (.slice a 0 cap) := by simp [World.cell?, hc, fu]
 have hlt : c < w.heap.size := World.block_lt_of_cell? w _ c0
 clear hc
 go_enter Tryz.func44, Tryz.ntmps44
 go_wp2
 go_quiet (fail)
 go_wp2
 go_ret
 exact ⟨rfl, by simp, below_drewN (Below.refl _ _) nq⟩
theorem sizeOf3 (w : World) : (Go.sizeOf 3).run Tryz.prog w = .ok 1 w := by kernel_rfl
theorem yU {w : World} {B b o cap : Nat} {k : Int} {r : List Int} (h : aQ w B (.slice (some ⟨b, o, none⟩) (r.length + 1) cap) (k :: r)) :
  ∃ a' cap', (∀ W, (Instr.slice 39 (.slice (some ⟨b, o, none⟩) (r.length + 1) cap) (some (.int .i64 1)) none none).run Tryz.prog W = .ok (.slice a' r.length cap') W) /\ aQ w B (.slice a' r.length cap') r := by
 obtain ⟨a, c, he, hc, hm, hx⟩ := h.ex
 simp only [Value.slice.injEq] at he
 obtain ⟨rfl, _, rfl⟩ := he
 obtain ⟨b', o', hb, hB, hcell⟩ := hx (by simp)
 simp only [Option.some.injEq, Addr.mk.injEq, and_true] at hb
 obtain ⟨rfl, rfl⟩ := hb
 simp only [List.length_cons] at hc hm
 have ht' : Tryz.prog.underlying 39 = some (.slice (Tryz.prog.elem 39)) := by simp [Program.elem, Tryz.underlying39]
 have he : Tryz.prog.elem 39 = 3 := by simp [Program.elem, Tryz.underlying39]
 by_cases h1 : cap = 1
 ·have hr : r.length = 0 := by omega
  subst h1
  refine ⟨some ⟨b, o, none⟩, 0, fun W => ?_, ⟨_, _, rfl, by omega, by omega, fun h0 => by omega⟩⟩
  have := run_slice_l W 39 (some ⟨b, o, none⟩) (r.length + 1) 1 ht' .i64 1 (by omega) (by omega)
  rw [this, he, sizeOf3]
  simp [Result.andThen, sliced, Addr.add, hr]
 ·refine ⟨some ⟨b, o + 1, none⟩, cap - 1, fun W => ?_, ⟨_, _, rfl, by omega, by omega, fun h0 => ⟨b, o + 1, rfl, hB, fun i hi => ?_⟩⟩⟩
  ·have := run_slice_l W 39 (some ⟨b, o, none⟩) (r.length + 1) cap ht' .i64 1 (by omega) (by omega)
   rw [this, he, sizeOf3]
   simp [Result.andThen, sliced, Addr.add, h1]
  ·have := hcell (i + 1) (by simp; omega)
   rw [show o + 1 + i = o + (i + 1) by omega, this]
   simp
end Go.Proofs.YtecodpdfckjalaaGreatDoor
