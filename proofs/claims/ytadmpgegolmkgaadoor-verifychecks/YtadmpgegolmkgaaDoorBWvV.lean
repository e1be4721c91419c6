import Derived.Test.YtadmpgegolmkgaaDoorBWmE
import Derived.ArgAppend
set_option linter.unusedVariables false
set_option linter.unusedSimpArgs false
set_option maxHeartbeats 4000000
set_option maxRecDepth 100000
namespace Go.Proofs.YtadmpgegolmkgaaDoor
open Go.RowKit
def bT (kd : Int) (n : Nat) (res : Bool) : Bool :=
 if kd = 1 ∨ kd = 2 then n == 0 && !res
 else if kd = 3 ∨ kd = 5 then n == 1 && !res
 else if kd = 4 then decide (2 <= n) && !res
 else if kd = 6 then decide (1 <= n) || !res
 else false
def bJ (n : Nat) (k : Int) : Bool := decide (0 <= k) && decide (k < n)
def kOk (n : Nat) (t : CTy) : Bool := bT t.kind t.kids.length t.res && t.kids.all (bJ n)
def gz (n : Nat) (ts : List CTy) : Bool := ts.all (kOk n)
def dO (ts : List CTy) : Bool := gz ts.length ts
theorem rZ {n : Nat} {l : List CTy} {k : Nat} (h : k < l.length) : gz n (l.drop k) = (kOk n l[k] && gz n (l.drop (k + 1))) := by
 unfold gz
 rw [List.drop_eq_getElem_cons h, List.all_cons]
theorem iC {f : Int -> Bool} {l : List Int} {k : Nat} (h : k < l.length) : (l.drop k).all f = (f l[k] && (l.drop (k + 1)).all f) := by
 rw [List.drop_eq_getElem_cons h, List.all_cons]
theorem uj (w : World) (kd : Int) (ka : Option Addr) (n kc : Nat) (r : Bool) :
  Calls Tryd.prog 47 #[.agg #[.int .i64 kd, .slice ka n kc, .bool r]] w fun e w' => e = .returned (.bool (bT kd n r)) /\ Below w.heap.size w w' := by
 go_enter Tryd.func47, Tryd.ntmps47
 go_wp2
 all_goals
  go_ret
  refine ⟨aG ?_, ak _ _⟩
  unfold bT
  simp at *
  first | (simp [*]; done) | (cases r <;> simp_all <;> omega)
theorem xm (w : World) (a : Option Addr) (n cap : Nat) (k : Int) :
  Calls Tryd.prog 48 #[.slice a n cap, .int .i64 k] w fun e w' => e = .returned (.bool (bJ n k)) /\ w = w' := by
 unfold bJ
 cases e1 : decide (0 <= k)
 ·go_enter Tryd.func48, Tryd.ntmps48
  go_wp2
  go_ret
  exact ⟨aG (by simp), rfl⟩
 ·go_enter Tryd.func48, Tryd.ntmps48
  go_wp2
  go_ret
  exact ⟨aG (by simp), rfl⟩
theorem fq {w : World} {B tc : Nat} {ta : Option Addr} {l : List CTy} (h : Row (jT w B) B 3 ta tc l) {k : Nat} (hk : k < l.length) : ∃ b o ka kc, ta = some ⟨b, o, none⟩ /\ b < B /\ aF w B ka kc l[k].kids /\ Bx (∀ X, Below B w X -> X.cell? ⟨b, o + k * 3, none⟩ = some (.int .i64 l[k].kind) /\ X.cell? ⟨b, o + k * 3 + 1, none⟩ = some (.slice ka l[k].kids.length kc) /\ X.cell? ⟨b, o + k * 3 + 2, none⟩ = some (.bool l[k].res)) := by
 obtain ⟨b, o, e, hb, hj⟩ := h.at_ (by omega)
 obtain ⟨ka, kc, h0, h1, h2, h3⟩ := (hj k hk).ex
 have hc : ∀ X, Below B w X -> ∀ i, X.cell? ⟨b, i, none⟩ = w.cell? ⟨b, i, none⟩ := fun X hX i => hX.cell (p := ⟨b, i, none⟩) hb
 exact ⟨b, o, ka, kc, e, hb, h3, ⟨fun X hX => ⟨by rw [hc X hX]; exact h0, by rw [hc X hX]; exact h1, by rw [hc X hX]; exact h2⟩⟩⟩
theorem uk (w : World) (B : Nat) (hB : B <= w.heap.size) (ta : Option Addr) (tc : Nat) (ts : List CTy) (hr : Row (jT w B) B 3 ta tc ts) :
  Calls Tryd.prog 31 #[.slice ta ts.length tc] w fun e w' => e = .returned (.bool (dO ts)) /\ Bx (Below w.heap.size w w') := by
 have hcap := hr.cap
 have hmx := hr.max
 unfold maxLen at hmx
 have HT : Bx (∀ k (hk : k < ts.length), _) := ⟨fun k hk => fq hr hk⟩
 unfold dO
 generalize hRR : gz ts.length ts = R
 have HR : Bx (gz ts.length (ts.drop 0) = R) := ⟨by rw [List.drop_zero]; exact hRR⟩
 clear hr hRR
 go_enter Tryd.func31, Tryd.ntmps31
 go_wp2
 go_loopg [9] (ts.length + 1) (fun f v9 wr => ∃ k : Nat, f = ts.length + 1 - k /\ k <= ts.length /\ v9 = .int .i64 k /\ Bx (gz ts.length (ts.drop k) = R) /\ Bx (Below w.heap.size w wr))
 case atStart => exact ⟨0, by simp, Nat.zero_le _, rfl, HR, ⟨Below.refl _ _⟩⟩
 case round =>
  obtain ⟨k, hf, hk, rfl, HW, HB⟩ := hrel
  by_cases hlt : k < ts.length
  ·obtain ⟨b, o, ka, kc, rfl, hb, hks, HC⟩ := HT.out k hlt
   have hs := HB.out.size
   obtain ⟨c0, c1, c2⟩ := HC.out wr (HB.out.mono hB)
   have hbl : b < wr.heap.size := by omega
   have hkI : (k : Int) < (ts.length : Int) := by omega
   have HW2 : Bx _ := ⟨(rZ hlt).symm.trans HW.out⟩
   obtain ⟨W1, hW1⟩ : ∃ W1, wr.alloc (.cells #[.int .i64 ts[k].kind, .slice ka ts[k].kids.length kc, .bool ts[k].res] 49) = W1 := ⟨_, rfl⟩
   have b1 : Below wr.heap.size wr W1 := by rw [← hW1]; exact ak wr _
   have q1 : W1.heap[wr.heap.size]? = some (.cells #[.int .i64 ts[k].kind, .slice ka ts[k].kids.length kc, .bool ts[k].res] 49 (0, 0)) := by rw [← hW1]; exact aj _ _ _ rfl
   have HF : Bx (Calls Tryd.prog 47 #[.agg #[.int .i64 ts[k].kind, .slice ka ts[k].kids.length kc, .bool ts[k].res]] W1 fun e w' => e = .returned (.bool (bT ts[k].kind ts[k].kids.length ts[k].res)) /\ w'.cell? ⟨wr.heap.size, 1, none⟩ = some (.slice ka ts[k].kids.length kc) /\ Bx (Below w.heap.size w w') /\ Bx (aF w' B ka kc ts[k].kids)) := ⟨(uj W1 _ ka _ kc _).mono fun e w' q => by
    have hb2 : Below wr.heap.size wr w' := b1.trans (q.2.mono b1.size)
    exact ⟨q.1, aa ((q.2.block _ (ah q1)).trans q1) rfl, ⟨HB.out.trans (hb2.mono hs)⟩, ⟨hks.below (HB.out.mono hB |>.trans (hb2.mono (by omega)))⟩⟩⟩
   have hkcp := hks.cap
   have hkmx := hks.max
   unfold maxLen at hkmx
   unfold kOk at HW2
   have HW1 : Bx _ := ⟨hW1⟩
   clear hW1
   clear HC hs HB HW HT hks b1 q1
   generalize ts[k] = t at *
   cases hfi : bT t.kind t.kids.length t.res with
   | false =>
    rw [hfi] at HF HW2
    have hr := HW2.out
    simp only [Bool.false_and] at hr
    subst hr
    clear hfi HW2
    go_wp2_with (first
     | (go_at_call 47; rw [HW1.out]; refine HF.out.mono ?_; rintro e w2 ⟨rfl, y1, HB2, HK⟩))
    go_ret
    exact ⟨rfl, HB2⟩
   | true =>
    rw [hfi] at HF HW2
    simp only [Bool.true_and] at HW2
    clear hfi
    generalize hRK : t.kids.all (bJ ts.length) = rk at *
    have HKA : Bx ((t.kids.drop 0).all (bJ ts.length) = rk) := ⟨by rw [List.drop_zero]; exact hRK⟩
    clear hRK
    obtain ⟨wA, rfl⟩ : ∃ X, X = wr := ⟨_, rfl⟩
    go_wp2_with (first
     | (go_at_call 47; rw [HW1.out]; refine HF.out.mono ?_; rintro e w2 ⟨rfl, y1, HB2, HK⟩))
    clear y1 c0 c1 c2 HF HW1
    go_loopg [19] (t.kids.length + 1) (fun f v19 wr => ∃ i : Nat, f = t.kids.length + 1 - i /\ i <= t.kids.length /\ v19 = .int .i64 i /\ Bx ((t.kids.drop i).all (bJ ts.length) = rk) /\ wr = w2)
    case atStart => exact ⟨0, by simp, Nat.zero_le _, rfl, HKA, rfl⟩
    case round =>
     obtain ⟨i, hf2, hi, rfl, HA, rfl⟩ := hrel
     clear HKA
     by_cases hlt2 : i < t.kids.length
     ·obtain ⟨b', o', rfl, hb', hc⟩ := HK.out.at_ (by omega)
      have d0 := hc i hlt2
      have hiI : (i : Int) < (t.kids.length : Int) := by omega
      have HA2 : Bx _ := ⟨(iC hlt2).symm.trans HA.out⟩
      have HI : Bx _ := ⟨xm wr (some ⟨b, o, none⟩) ts.length tc t.kids[i]⟩
      clear hc HA HK
      generalize t.kids[i] = y at *
      cases hy : bJ ts.length y with
      | false =>
       rw [hy] at HI HA2
       have hr := HA2.out
       simp only [Bool.false_and] at hr
       subst hr
       have hr2 := HW2.out
       simp only [Bool.false_and] at hr2
       subst hr2
       clear HA2 HW2 hy
       go_wp2_with (first
        | (go_at_call 48; refine HI.out.mono ?_; rintro e w3 ⟨rfl, rfl⟩))
       go_ret
       exact ⟨rfl, HB2⟩
      | true =>
       rw [hy] at HI HA2
       have hr := HA2.out
       simp only [Bool.true_and] at hr
       have HA3 : Bx _ := ⟨hr⟩
       clear HA2 hr hy
       go_wp2_with (first
        | (go_at_call 48; refine HI.out.mono ?_; rintro e w3 ⟨rfl, rfl⟩))
       go_roundg (t.kids.length + 1 - (i + 1))
       case measure => omega
       case rel => exact ⟨i + 1, rfl, by omega, by simp, HA3, rfl⟩
     ·obtain rfl : i = t.kids.length := by omega
      have hr := HA.out
      rw [List.drop_length, List.all_nil] at hr
      subst hr
      have hr2 := HW2.out
      simp only [Bool.true_and] at hr2
      have HW3 : Bx _ := ⟨hr2⟩
      clear HA HW2 hr2
      go_wp2
      go_roundg (ts.length + 1 - (k + 1))
      case measure => omega
      case rel => exact ⟨k + 1, rfl, by omega, by simp, HW3, HB2⟩
  ·obtain rfl : k = ts.length := by omega
   have hr := HW.out
   rw [List.drop_length] at hr
   subst hr
   clear HW HT
   go_wp2
   go_ret
   exact ⟨rfl, HB⟩
end Go.Proofs.YtadmpgegolmkgaaDoor
namespace Go.Proofs.YtadmpgegolmkgaaDoor
inductive Gr (ts : List CTy) : Nat -> Prop
 | leaf (r : Nat) (h : ¬ bG ts r) : Gr ts r
 | node (r : Nat) (h : ∀ k ∈ (tyA ts r).kids, Gr ts k.toNat) : Gr ts r
structure D4 (ts : List CTy) (s : DfS) : Prop where
 d2 : D2 ts s
 snd : ∀ r, s.has r = true -> Gr ts r
 all : ∀ r, r < ts.length -> s.has r = false -> s.ms r = 0 -> (r : Int) ∈ s.fd
theorem xq {ts : List CTy} (hv : TsV ts) : ∀ (m k : Nat) (s : DfS), k + m = ts.length -> D1 ts k s -> D1 ts ts.length (fA (ts.drop k) k s)
 | 0, k, s, hk, h => by
  obtain rfl : k = ts.length := by omega
  rw [List.drop_length]
  exact h
 | m + 1, k, s, hk, h => by
  rw [mq (show k < ts.length by omega)]
  exact xq hv m (k + 1) _ (by omega) (h.step hv (by omega))
theorem AJ {ts : List CTy} {has : Nat -> Bool} : ∀ {rem : List Int} {ms : Nat -> Int} {fd : List Int}, D3 ts has rem ms fd -> (∀ r, r < ts.length -> has r = false -> ms r = 0 -> (r : Int) ∈ fd) -> D3 ts has [] (iV rem (ms, fd)).1 (iV rem (ms, fd)).2 /\ ∀ r, r < ts.length -> has r = false -> (iV rem (ms, fd)).1 r = 0 -> (r : Int) ∈ (iV rem (ms, fd)).2
 | [], ms, fd, h, ha => ⟨h, ha⟩
 | w :: rem, ms, fd, h, ha => by
  rw [iV]
  obtain ⟨h1, h2, h3⟩ := h.step
  refine AJ h1 fun r hr hh hm => ?_
  obtain ⟨r1, r2, r3⟩ := h.rr w List.mem_cons_self
  by_cases e : r = w.toNat
  ·subst e
   rw [aU] at hm
   rw [if_pos hm]
   refine List.mem_append.2 (.inr ?_)
   simp
   omega
  ·rw [bg _ _ e] at hm
   have := ha r hr hh hm
   split
   ·exact List.mem_append.2 (.inl this)
   ·exact this
theorem zM {ts : List CTy} {has : Nat -> Bool} {w : Nat} (h : cN ts has w = 0) : ∀ k ∈ (tyA ts w).kids, has k.toNat = true := by
 intro k hk
 unfold cN at h
 have := List.countP_eq_zero.1 h k hk
 simpa using this
theorem D4.step {ts : List CTy} {s : DfS} (h : D4 ts s) (hv : TsV ts) {rest : List Int} {x : Int} (hf : s.fd = rest ++ [x]) : D4 ts (df2 s x.toNat rest) /\ cH ts.length s.has = cH ts.length (df2 s x.toNat rest).has + 1 := by
 obtain ⟨p1, p2, p3, p4⟩ := h.d2.pop hv hf
 have hx : x ∈ s.fd := by rw [hf]; simp
 obtain ⟨a1, a2, a3, a4⟩ := h.d2.d3.ef x hx
 obtain ⟨g1, g2⟩ := AJ p4 fun r hr hh hm => by
  have hne : r ≠ x.toNat := fun e => by subst e; rw [aU] at hh; cases hh
  rw [bg _ _ hne] at hh
  have := h.all r hr hh hm
  rw [hf] at this
  rcases List.mem_append.1 this with e | e
  ·exact e
  ·simp at e; omega
 refine ⟨⟨⟨h.d2.whr, h.d2.whc, g1⟩, fun r hr => ?_, g2⟩, xf (show x.toNat < ts.length by omega) p3⟩
 by_cases e : r = x.toNat
 ·subst e
  by_cases ht : bG ts x.toNat
  ·have em := h.d2.d3.em x.toNat
   rw [if_pos ht, a4] at em
   have hz : cN ts s.has x.toNat = 0 := by simp at em; omega
   exact .node _ fun k hk => h.snd _ (zM hz k hk)
  ·exact .leaf _ ht
 ·have hr' : fup s.has x.toNat true r = true := hr
  rw [bg _ _ e] at hr'
  exact h.snd r hr'
theorem xu {ts : List CTy} (hv : TsV ts) : ∀ (f : Nat) {s : DfS}, D4 ts s -> cH ts.length s.has < f -> D4 ts (fB f s) /\ (fB f s).fd = []
 | 0, s, h, hf => by omega
 | f + 1, s, h, hf => by
  rw [fB]
  cases hl : s.fd.getLast? with
  | none => exact ⟨h, by simpa using hl⟩
  | some x =>
   have hfd : s.fd = s.fd.dropLast ++ [x] := by
    have hne : s.fd ≠ [] := fun e => by rw [e] at hl; cases hl
    have := List.dropLast_concat_getLast hne
    rw [List.getLast?_eq_some_getLast hne] at hl
    injection hl with hl
    rw [← hl]
    exact this.symm
   obtain ⟨h1, h2⟩ := h.step hv hfd
   exact xu hv f h1 (by omega)
theorem Bo {ts : List CTy} (hv : TsV ts) (h2 : ∀ r, bG ts r -> 0 < (tyA ts r).kids.length) {r : Nat} (hr : r < ts.length) : (gI ts).has r = true ↔ Gr ts r := by
 have h0 : D1 ts ts.length (fA (ts.drop 0) 0 df0) := xq hv ts.length 0 df0 (by omega) (rX ts)
 rw [List.drop_zero] at h0
 have h4 : D4 ts (fA ts 0 df0) := by
  refine ⟨h0.two, fun r hr => ?_, fun r hr _ hm => ?_⟩
  ·rw [h0.has] at hr; cases hr
  ·by_cases ht : bG ts r
   ·rw [h0.ms, if_pos ⟨hr, ht⟩] at hm
    have := h2 r ht
    omega
   ·exact h0.fda r hr ht
 obtain ⟨g1, g2⟩ := xu hv (ts.length + 1) h4 (Nat.lt_succ_of_le (AF _ _))
 have key : ∀ r, r < ts.length -> ((gI ts).ms r = 0) -> (gI ts).has r = true := fun r hr hm => by
  cases hh : (gI ts).has r with
  | true => rfl
  | false =>
   have : (r : Int) ∈ (gI ts).fd := g1.all r hr hh hm
   rw [show (gI ts).fd = [] from g2] at this
   cases this
 constructor
 ·exact g1.snd r
 ·intro h
  induction h with
  | leaf r ht =>
   refine key r hr ?_
   have := g1.d2.d3.em r
   rw [if_neg ht] at this
   exact this
  | node r hk ih =>
   refine key r hr ?_
   have em := g1.d2.d3.em r
   have hz : cN ts (gI ts).has r = 0 := by
    unfold cN
    rw [List.countP_eq_zero]
    intro k hkm
    have hkb := hv.kids r k hkm
    have := ih k hkm (by omega)
    rw [this]
    simp
   have : (gI ts).ms r = if bG ts r then (cN ts (gI ts).has r : Int) + ([] : List Int).count (r : Int) else 0 := em
   rw [this, hz]
   simp
inductive Rt (ts : List CTy) : Nat -> Nat -> Prop
 | refl (a : Nat) : Rt ts a a
 | step {a b : Nat} {k : Int} (h : bG ts a) (hk : k ∈ (tyA ts a).kids) (hr : Rt ts k.toNat b) : Rt ts a b
def Rp (ts : List CTy) (a b : Nat) : Prop := bG ts a /\ ∃ k ∈ (tyA ts a).kids, Rt ts k.toNat b
theorem Rt.trans {ts : List CTy} {a b c : Nat} (h : Rt ts a b) (h2 : Rt ts b c) : Rt ts a c := by
 induction h with
 | refl a => exact h2
 | step ht hk hr ih => exact .step ht hk (ih h2)
theorem Rp.rt {ts : List CTy} {a b : Nat} (h : Rp ts a b) : Rt ts a b := by
 obtain ⟨h1, k, hk, h2⟩ := h
 exact .step h1 hk h2
theorem Rp.on {ts : List CTy} {a b c : Nat} (h : Rp ts a b) (h2 : Rt ts b c) : Rp ts a c := by
 obtain ⟨h1, k, hk, h3⟩ := h
 exact ⟨h1, k, hk, h3.trans h2⟩
theorem Gr.kids {ts : List CTy} {r : Nat} (h : Gr ts r) (ht : bG ts r) : ∀ k ∈ (tyA ts r).kids, Gr ts k.toNat := by
 cases h with
 | leaf _ hn => exact absurd ht hn
 | node _ hk => exact hk
theorem Gr.rt {ts : List CTy} {a b : Nat} (h : Gr ts a) (hr : Rt ts a b) : Gr ts b := by
 induction hr with
 | refl a => exact h
 | step ht hk _ ih => exact ih (h.kids ht _ hk)
theorem Gr.BR {ts : List CTy} {r : Nat} (h : Gr ts r) : ¬ Rp ts r r := by
 induction h with
 | leaf r hn => exact fun e => hn e.1
 | node r hk ih =>
  intro e
  obtain ⟨ht, k, hkm, hr⟩ := e
  refine ih k hkm ?_
  have hrk : Rt ts r k.toNat := .step ht hkm (.refl _)
  cases hr with
  | refl => exact ⟨ht, k, hkm, hrk⟩
  | step ht2 hk2 hr2 => exact ⟨ht2, _, hk2, hr2.trans hrk⟩
theorem oV {ts : List CTy} (hv : TsV ts) : ∀ (m : Nat) (P : List Int) (r : Nat), P.Nodup -> (∀ p ∈ P, 0 <= p /\ p < (ts.length : Int) /\ Rp ts p.toNat r) -> ts.length < P.length + m -> r < ts.length -> ¬ Gr ts r -> ∃ b, Rt ts r b /\ Rp ts b b
 | 0, P, r, hn, hp, hm, hr, hg => by
  have := eH ts.length P hn fun x hx => ⟨(hp x hx).1, (hp x hx).2.1⟩
  omega
 | m + 1, P, r, hn, hp, hm, hr, hg => by
  by_cases hi : (r : Int) ∈ P
  ·have := (hp _ hi).2.2
   exact ⟨r, .refl r, by simpa using this⟩
  ·have ht : bG ts r := by
    rcases Decidable.em (bG ts r) with e | e
    ·exact e
    ·exact absurd (.leaf r e) hg
   have hk : ∃ k ∈ (tyA ts r).kids, ¬ Gr ts k.toNat := Classical.byContradiction fun e => hg (.node r fun k hk => Classical.byContradiction fun e2 => e ⟨k, hk, e2⟩)
   obtain ⟨k, hkm, hkg⟩ := hk
   have hb := hv.kids r k hkm
   have hrk : Rp ts r k.toNat := ⟨ht, k, hkm, .refl _⟩
   obtain ⟨b, b1, b2⟩ := oV hv m ((r : Int) :: P) k.toNat (List.nodup_cons.2 ⟨hi, hn⟩) (fun p hpm => by
    rcases List.mem_cons.1 hpm with e | e
    ·subst e; exact ⟨by omega, by omega, by simpa using hrk⟩
    ·obtain ⟨q1, q2, q3⟩ := hp p e
     exact ⟨q1, q2, q3.on hrk.rt⟩) (by simp; omega) (by omega) hkg
   exact ⟨b, hrk.rt.trans b1, b2⟩
theorem Bp {ts : List CTy} (hv : TsV ts) {r : Nat} (hr : r < ts.length) : Gr ts r ↔ ∀ b, Rt ts r b -> ¬ Rp ts b b := by
 constructor
 ·exact fun h b hb => (h.rt hb).BR
 ·intro h
  refine Classical.byContradiction fun e => ?_
  obtain ⟨b, b1, b2⟩ := oV hv (ts.length + 1) [] r List.nodup_nil (fun p hp => by cases hp) (by simp) hr e
  exact h b b1 b2
structure BJ (ts : List CTy) (S N : List Int) : Prop where
 nb : ∀ x ∈ N, 0 <= x /\ x < (ts.length : Int)
 sb : ∀ x ∈ S, 0 <= x /\ x < (ts.length : Int) /\ bG ts x.toNat
 nd : S.Nodup
def unS (ts : List CTy) (S : List Int) : Nat := ((List.range ts.length).map fun (r : Nat) => if (r : Int) ∈ S then 0 else (tyA ts r).kids.length).sum
theorem si {f g : Nat -> Nat} {i d : Nat} : ∀ {n : Nat}, i < n -> f i = g i + d -> (∀ j, j ≠ i -> f j = g j) -> ((List.range n).map f).sum = ((List.range n).map g).sum + d
 | 0, h, _, _ => by omega
 | n + 1, h, hf, he => by
  rw [List.range_succ, List.map_append, List.map_append, List.sum_append, List.sum_append]
  by_cases hi : i = n
  ·subst hi
   have : (List.range i).map f = (List.range i).map g := List.map_congr_left fun j hj => he j (by have := List.mem_range.1 hj; omega)
   rw [this]
   simp
   omega
  ·have := si (n := n) (by omega) hf he
   rw [this]
   have e := he n (Ne.symm hi)
   simp [e]
   omega
theorem kU {ts : List CTy} {S : List Int} {x : Int} (h0 : 0 <= x) (hx : x < (ts.length : Int)) (hn : x ∉ S) : unS ts S = unS ts (S ++ [x]) + (tyA ts x.toNat).kids.length := by
 have e : ((x.toNat : Nat) : Int) = x := by omega
 unfold unS
 refine si (i := x.toNat) (by omega) ?_ fun j hj => ?_
 ·simp [e, hn]
 ·have : (j : Int) ≠ x := by omega
  simp [this]
theorem oW (ts : List CTy) : unS ts [] = (ts.map fun t => t.kids.length).sum := by
 unfold unS
 congr 1
 refine List.ext_getElem (by simp) fun i h1 h2 => ?_
 have hi : i < ts.length := by simpa using h2
 simp [gP hi]
theorem xw {f g : Nat -> Nat} (h : ∀ r, f r <= g r) : ∀ l : List Nat, (l.map f).sum <= (l.map g).sum
 | [] => Nat.le_refl _
 | a :: l => by
  have := xw h l
  have := h a
  simp only [List.map_cons, List.sum_cons]
  omega
theorem xy (ts : List CTy) (S : List Int) : unS ts S <= unS ts [] := by
 unfold unS
 refine xw (fun r => ?_) _
 simp
 split <;> omega
structure EnS (ts : List CTy) (row : Nat) (S N : List Int) : Prop where
 sr : BJ ts S N
 rs : ∀ x ∈ S, Rt ts row x.toNat
 rn : ∀ x ∈ N, Rt ts row x.toNat
 cl : ∀ a ∈ S, ∀ k ∈ (tyA ts a.toNat).kids, (bG ts k.toNat -> k ∈ S) ∨ k ∈ N
 st : (bG ts row -> (row : Int) ∈ S) ∨ (row : Int) ∈ N
theorem EnS.start {ts : List CTy} {row : Nat} (hr : row < ts.length) : EnS ts row [] [(row : Int)] :=
 ⟨⟨fun x hx => (by simp at hx; omega), fun x hx => (by cases hx), List.nodup_nil⟩, fun x hx => (by cases hx), fun x hx => (by simp at hx; subst hx; exact .refl _), fun a ha => (by cases ha), .inr (by simp)⟩
theorem EnS.skip {ts : List CTy} {row : Nat} {S N : List Int} {x : Int} (h : EnS ts row S (x :: N)) (hx : ¬ bG ts x.toNat ∨ x ∈ S) : EnS ts row S N := by
 refine ⟨⟨fun y hy => h.sr.nb y (List.mem_cons_of_mem _ hy), h.sr.sb, h.sr.nd⟩, h.rs, fun y hy => h.rn y (List.mem_cons_of_mem _ hy), fun a ha k hk => ?_, ?_⟩
 ·rcases h.cl a ha k hk with e | e
  ·exact .inl e
  ·rcases List.mem_cons.1 e with e | e
   ·subst e
    exact .inl fun ht => by
     rcases hx with hx | hx
     ·exact absurd ht hx
     ·exact hx
   ·exact .inr e
 ·rcases h.st with e | e
  ·exact .inl e
  ·rcases List.mem_cons.1 e with e | e
   ·exact .inl fun ht => by
     rw [← e] at hx
     rcases hx with hx | hx
     ·exact absurd (by simpa using ht) hx
     ·exact hx
   ·exact .inr e
theorem EnS.push {ts : List CTy} (hv : TsV ts) {row : Nat} {S N : List Int} {x : Int} (h : EnS ts row S (x :: N)) (ht : bG ts x.toNat) (hx : x ∉ S) : EnS ts row (S ++ [x]) (N ++ (tyA ts x.toNat).kids) := by
 have hb := h.sr.nb x List.mem_cons_self
 have hrx := h.rn x List.mem_cons_self
 refine ⟨⟨fun y hy => ?_, fun y hy => ?_, ?_⟩, fun y hy => ?_, fun y hy => ?_, fun a ha k hk => ?_, ?_⟩
 ·rcases List.mem_append.1 hy with e | e
  ·exact h.sr.nb y (List.mem_cons_of_mem _ e)
  ·exact hv.kids _ y e
 ·rcases List.mem_append.1 hy with e | e
  ·exact h.sr.sb y e
  ·simp at e; subst e; exact ⟨hb.1, hb.2, ht⟩
 ·rw [List.nodup_append]
  exact ⟨h.sr.nd, by simp, fun a ha b hb2 => by simp at hb2; subst hb2; exact fun e => hx (e ▸ ha)⟩
 ·rcases List.mem_append.1 hy with e | e
  ·exact h.rs y e
  ·simp at e; subst e; exact hrx
 ·rcases List.mem_append.1 hy with e | e
  ·exact h.rn y (List.mem_cons_of_mem _ e)
  ·exact hrx.trans (.step ht e (.refl _))
 ·rcases List.mem_append.1 ha with e | e
  ·rcases h.cl a e k hk with q | q
   ·exact .inl fun ht => List.mem_append.2 (.inl (q ht))
   ·rcases List.mem_cons.1 q with q | q
    ·exact .inl fun _ => List.mem_append.2 (.inr (by simp [q]))
    ·exact .inr (List.mem_append.2 (.inl q))
  ·simp at e
   subst e
   exact .inr (List.mem_append.2 (.inr hk))
 ·rcases h.st with q | q
  ·exact .inl fun ht => List.mem_append.2 (.inl (q ht))
  ·rcases List.mem_cons.1 q with q | q
   ·exact .inl fun _ => List.mem_append.2 (.inr (by simp [q]))
   ·exact .inr (List.mem_append.2 (.inl q))
theorem EnS.done {ts : List CTy} (hv : TsV ts) {row : Nat} {S : List Int} (h : EnS ts row S []) (b : Nat) (ht : bG ts b) (hr : Rt ts row b) : (b : Int) ∈ S := by
 have key : ∀ a b, Rt ts a b -> (bG ts a -> (a : Int) ∈ S) -> bG ts b -> (b : Int) ∈ S := by
  intro a b hr
  induction hr with
  | refl a => exact fun h1 h2 => h1 h2
  | @step a b k hta hk hr2 ih =>
   intro h1 h2
   refine ih (fun htk => ?_) h2
   have hkb := hv.kids a k hk
   rcases h.cl (a : Int) (h1 hta) k (by simpa using hk) with e | e
   ·have := e htk
    rwa [show ((k.toNat : Nat) : Int) = k by omega]
   ·cases e
 refine key row b hr (fun h1 => ?_) ht
 rcases h.st with e | e
 ·exact e h1
 ·cases e
theorem EnS.tells {ts : List CTy} (hv : TsV ts) {row : Nat} (hr : row < ts.length) {S : List Int} (h : EnS ts row S []) : Gr ts row ↔ ∀ x ∈ S, ¬ Rp ts x.toNat x.toNat := by
 rw [Bp hv hr]
 constructor
 ·exact fun q x hx => q _ (h.rs x hx)
 ·intro q b hb hc
  have := q _ (h.done hv b hc.1 hb)
  exact this (by simpa using hc)
structure BkS (ts : List CTy) (row : Nat) (S N : List Int) : Prop where
 sr : BJ ts S N
 rn : ∀ x ∈ N, Rp ts row x.toNat
 cl : ∀ a, a = (row : Int) ∨ a ∈ S -> ∀ k ∈ (tyA ts a.toNat).kids, (k ≠ row /\ (bG ts k.toNat -> k ∈ S)) ∨ k ∈ N
theorem BkS.start {ts : List CTy} (hv : TsV ts) {row : Nat} (ht : bG ts row) : BkS ts row [] (tyA ts row).kids :=
 ⟨⟨fun x hx => hv.kids row x hx, fun x hx => (by cases hx), List.nodup_nil⟩, fun x hx => ⟨ht, x, hx, .refl _⟩, fun a ha k hk => by
  rcases ha with e | e
  ·subst e; exact .inr (by simpa using hk)
  ·cases e⟩
theorem BkS.skip {ts : List CTy} {row : Nat} {S N : List Int} {x : Int} (h : BkS ts row S (x :: N)) (hn : x ≠ row) (hx : ¬ bG ts x.toNat ∨ x ∈ S) : BkS ts row S N := by
 refine ⟨⟨fun y hy => h.sr.nb y (List.mem_cons_of_mem _ hy), h.sr.sb, h.sr.nd⟩, fun y hy => h.rn y (List.mem_cons_of_mem _ hy), fun a ha k hk => ?_⟩
 rcases h.cl a ha k hk with e | e
 ·exact .inl e
 ·rcases List.mem_cons.1 e with e | e
  ·subst e
   exact .inl ⟨hn, fun ht => by
    rcases hx with hx | hx
    ·exact absurd ht hx
    ·exact hx⟩
  ·exact .inr e
theorem BkS.push {ts : List CTy} (hv : TsV ts) {row : Nat} {S N : List Int} {x : Int} (h : BkS ts row S (x :: N)) (hn : x ≠ row) (ht : bG ts x.toNat) (hx : x ∉ S) : BkS ts row (S ++ [x]) (N ++ (tyA ts x.toNat).kids) := by
 have hb := h.sr.nb x List.mem_cons_self
 have hrx := h.rn x List.mem_cons_self
 refine ⟨⟨fun y hy => ?_, fun y hy => ?_, ?_⟩, fun y hy => ?_, fun a ha k hk => ?_⟩
 ·rcases List.mem_append.1 hy with e | e
  ·exact h.sr.nb y (List.mem_cons_of_mem _ e)
  ·exact hv.kids _ y e
 ·rcases List.mem_append.1 hy with e | e
  ·exact h.sr.sb y e
  ·simp at e; subst e; exact ⟨hb.1, hb.2, ht⟩
 ·rw [List.nodup_append]
  exact ⟨h.sr.nd, by simp, fun a ha b hb2 => by simp at hb2; subst hb2; exact fun e => hx (e ▸ ha)⟩
 ·rcases List.mem_append.1 hy with e | e
  ·exact h.rn y (List.mem_cons_of_mem _ e)
  ·exact hrx.on (.step ht e (.refl _))
 ·have old : a = (row : Int) ∨ a ∈ S -> (k ≠ row /\ (bG ts k.toNat -> k ∈ S ++ [x])) ∨ k ∈ N ++ (tyA ts x.toNat).kids := fun ha => by
   rcases h.cl a ha k hk with e | e
   ·exact .inl ⟨e.1, fun q => List.mem_append.2 (.inl (e.2 q))⟩
   ·rcases List.mem_cons.1 e with e | e
    ·subst e
     exact .inl ⟨hn, fun _ => List.mem_append.2 (.inr (by simp))⟩
    ·exact .inr (List.mem_append.2 (.inl e))
  rcases ha with e | e
  ·exact old (.inl e)
  ·rcases List.mem_append.1 e with e | e
   ·exact old (.inr e)
   ·simp at e
    subst e
    exact .inr (List.mem_append.2 (.inr hk))
theorem BkS.no {ts : List CTy} (hv : TsV ts) {row : Nat} {S : List Int} (h : BkS ts row S []) : ¬ Rp ts row row := by
 have key : ∀ a b, Rt ts a b -> a ≠ row -> (bG ts a -> (a : Int) ∈ S) -> b ≠ row := by
  intro a b hr
  induction hr with
  | refl a => exact fun h1 _ => h1
  | @step a b k hta hk hr2 ih =>
   intro h1 h2
   have hkb := hv.kids a k hk
   rcases h.cl (a : Int) (.inr (h2 hta)) k (by simpa using hk) with e | e
   ·refine ih (fun q => e.1 (by omega)) fun q => ?_
    rw [show ((k.toNat : Nat) : Int) = k by omega]
    exact e.2 q
   ·cases e
 intro ⟨ht, k, hk, hr⟩
 have hkb := hv.kids row k hk
 rcases h.cl (row : Int) (.inl rfl) k (by simpa using hk) with e | e
 ·refine key k.toNat row hr (fun q => e.1 (by omega)) (fun q => ?_) rfl
  rw [show ((k.toNat : Nat) : Int) = k by omega]
  exact e.2 q
 ·cases e
theorem BkS.yes {ts : List CTy} {row : Nat} {S N : List Int} {x : Int} (h : BkS ts row S (x :: N)) (hx : x = row) : Rp ts row row := by
 have := h.rn x List.mem_cons_self
 rw [hx] at this
 simpa using this
end Go.Proofs.YtadmpgegolmkgaaDoor
namespace Go.Proofs.YtadmpgegolmkgaaDoor
open Go.RowKit
def QM (W : World) (B : Nat) (v : Value) (xs : List Int) : Prop := (v = .slice none 0 0 /\ xs = []) ∨ ∃ b off cap cur, v = .slice (some ⟨b, off, none⟩) xs.length cap /\ B <= b /\ W.heap[b]? = some (.cells cur 3 (0, 0)) /\ off + cap <= cur.size /\ xs.length <= cap /\ cap <= maxLen /\ ∀ i (h : i < xs.length), cur[off + i]? = some (.int .i64 xs[i])
theorem QM.same {W W' : World} {B : Nat} {v : Value} {xs : List Int} (h : QM W B v xs) (hb : ∀ g o, v.ownBlock = some g -> W.heap[g]? = some o -> W'.heap[g]? = some o) : QM W' B v xs := by
 rcases h with h | ⟨b, off, cap, cur, rfl, h2, h3, h4⟩
 ·exact .inl h
 ·exact .inr ⟨b, off, cap, cur, rfl, h2, hb b _ rfl h3, h4⟩
theorem QM.kind {W : World} {B : Nat} {v : Value} {xs : List Int} (h : QM W B v xs) {g : Nat} (hg : v.ownBlock = some g) : B <= g /\ ∃ cur, W.heap[g]? = some (.cells cur 3 (0, 0)) := by
 rcases h with ⟨rfl, _⟩ | ⟨b, off, cap, cur, rfl, h2, h3, h4⟩
 ·cases hg
 ·simp only [Value.ownBlock, Option.some.injEq] at hg
  subst hg
  exact ⟨h2, _, h3⟩
theorem QM.tail {W : World} {B : Nat} {v : Value} {x : Int} {xs : List Int} (h : QM W B v (x :: xs)) : ∃ b off cap, v = .slice (some ⟨b, off, none⟩) (xs.length + 1) cap /\ xs.length + 1 <= cap /\ cap <= maxLen /\ W.cell? ⟨b, off, none⟩ = some (.int .i64 x) /\ ∀ ka, ka = (if cap = 1 then some (⟨b, off, none⟩ : Addr) else some ⟨b, off + 1, none⟩) -> QM W B (.slice ka xs.length (cap - 1)) xs /\ (Value.slice ka xs.length (cap - 1)).ownBlock = v.ownBlock := by
 rcases h with ⟨_, h⟩ | ⟨b, off, cap, cur, rfl, h2, h3, h4, h5, h6, h7⟩
 ·cases h
 ·simp only [List.length_cons] at h5 h7
  refine ⟨b, off, cap, rfl, h5, h6, aa h3 (by have := h7 0 (by omega); simpa using this), fun ka hka => ?_⟩
  by_cases hc : cap = 1
  ·rw [if_pos hc] at hka
   subst hka
   have hx : xs = [] := List.eq_nil_of_length_eq_zero (by omega)
   subst hx
   exact ⟨.inr ⟨b, off, cap - 1, cur, rfl, h2, h3, by omega, by simp, by omega, fun i hi => by simp at hi⟩, rfl⟩
  ·rw [if_neg hc] at hka
   subst hka
   refine ⟨.inr ⟨b, off + 1, cap - 1, cur, rfl, h2, h3, by omega, by omega, by omega, fun i hi => ?_⟩, rfl⟩
   have := h7 (i + 1) (by omega)
   rw [show off + 1 + i = off + (i + 1) by omega, this]
   simp
theorem ints_at {w : World} {B b o : Nat} {ks : List Int} (h : ∀ i (h : i < ks.length), w.cell? ⟨b, o + i, none⟩ = some (.int .i64 ks[i])) : ∀ j u, (bn ks)[j]? = some u -> w.cell? ((⟨b, o, none⟩ : Addr).add j) = some u := by
 intro j u hu
 obtain ⟨hj, he⟩ := List.getElem?_eq_some_iff.1 hu
 have hj2 : j < ks.length := by simpa [bn] using hj
 rw [Addr.add_lit, h j hj2, ← he]
 simp [bn]
theorem ji : ∀ (vs : List Value) (o : Nat) (C : Array Value) (j : Nat), o + vs.length <= C.size -> (jX C o vs)[j]? = if o <= j /\ j < o + vs.length then vs[j - o]? else C[j]?
 | [], o, C, j, h => by
  rw [jX, if_neg (by simp <;> omega)]
 | v :: r, o, C, j, h => by
  simp only [List.length_cons] at h
  rw [jX, ji r (o + 1) _ j (by simp; omega)]
  by_cases h1 : j = o
  ·subst h1
   rw [if_neg (by omega), if_pos (by simp), Array.getElem?_setIfInBounds_self, if_pos (by omega)]
   simp
  ·rw [Array.getElem?_setIfInBounds_ne (by omega)]
   by_cases h2 : o + 1 <= j /\ j < o + 1 + r.length
   ·rw [if_pos h2, if_pos (by simp; omega), show j - o = (j - (o + 1)) + 1 by omega]
    simp
   ·rw [if_neg h2, if_neg (by simp; omega)]
theorem kV : ∀ (vs : List Value) (o : Nat) (C : Array Value), (jX C o vs).size = C.size
 | [], o, C => rfl
 | v :: r, o, C => by rw [jX, kV r]; simp
theorem QM.app {W : World} {B : Nat} {v : Value} {xs : List Int} (h : QM W B v xs) {K : Nat} {ka : Option Addr} {kc : Nat} {ks : List Int} (hk : aF W K ka kc ks) (h0 : 0 < ks.length) (hn : xs.length + ks.length <= 8589934592) (hB : B <= W.heap.size) :
  ∃ v' W3, (∀ ty, (Builtin.append_ #[32, 32] ty #[v, .slice ka ks.length kc]).run Tryd.prog W = .ok v' W3) /\ QM W3 B v' (xs ++ ks) /\ W.grownBy W3 v.ownBlock /\ (v'.ownBlock = v.ownBlock ∨ ∃ g, v'.ownBlock = some g /\ W.heap.size <= g) := by
 obtain ⟨i0, hi, hz0, hz1, hz2⟩ := info_parts gQ
 obtain ⟨kb, ko, rfl, hkb, hkc⟩ := hk.at_ h0
 have hnew : ∀ j u, (bn ks)[j]? = some u -> W.cell? ((⟨kb, ko, none⟩ : Addr).add j) = some u := ints_at (B := K) hkc
 have h1c : ∀ u ∈ bn ks, u.oneCell' = true := fun u hu => by
  obtain ⟨x, _, rfl⟩ := List.mem_map.1 hu
  rfl
 have hlk : (bn ks).length = ks.length := by simp [bn]
 have grown : ∀ v' W3 n, W3.ownsRow W.heap.size 3 1 v' n (bn (xs ++ ks)) -> n = (xs ++ ks).length -> 0 < n -> QM W3 B v' (xs ++ ks) /\ ∃ g, v'.ownBlock = some g /\ W.heap.size <= g := fun v' W3 n ho hnn hp => by
  rcases ho.2 with ⟨_, e⟩ | ⟨g, cap, cur, rfl, q1, q2, q3, q4, q5, q6⟩
  ·omega
  ·refine ⟨.inr ⟨g, 0, cap, cur, by rw [← hnn], Nat.le_trans hB q1, q2, by omega, by omega, q4, fun i hi => ?_⟩, g, rfl, q1⟩
   have e : (cur.toList.take (n * 1))[i]? = (bn (xs ++ ks))[i]? := by rw [q6]
   rw [List.getElem?_take_of_lt (by omega), Array.getElem?_toList] at e
   rw [Nat.zero_add, e]
   unfold bn
   rw [List.getElem?_map, List.getElem?_eq_getElem hi]
   rfl
 have hml : maxLen = 9223372036854775807 := rfl
 rcases h with ⟨rfl, rfl⟩ | ⟨b, off, cap, cur, rfl, h2, h3, h4, h5, h6, h7⟩
 ·obtain ⟨g, c, W3, r1, r2, r3, r4, r5⟩ := run_append_lies (P := Tryd.prog) W 32 32 W.heap.size 3 i0 (.int .i64 0) 1 8 Tryd.underlying32 hi hz0 hz1 hz2 rfl (by decide) (.slice none 0 0) 0 [] (World.ownsRow_nil W _ 3 1) ⟨kb, ko, none⟩ ks.length kc (bn ks) (by omega) hnew h1c h0 (by omega) (by omega) (Nat.le_refl _) _ rfl
  obtain ⟨g1, g2⟩ := grown _ W3 (0 + ks.length) (by simpa using r2) (by simp) (by omega)
  rw [Nat.zero_add] at r1
  exact ⟨_, W3, fun ty => r1, g1, r3, .inr g2⟩
 ·have hol : ∀ j u, (bn xs)[j]? = some u -> W.cell? ((⟨b, off, none⟩ : Addr).add j) = some u := ints_at (B := B) fun i hi => aa h3 (h7 i hi)
  by_cases hr : xs.length + ks.length <= cap
  ·have hrun := fun ty => run_append_room_cells (P := Tryd.prog) W 32 ty 3 i0 Tryd.underlying32 hi b off xs.length cap ⟨kb, ko, none⟩ ks.length kc (bn ks) (by rw [hz1]; omega) hnew h1c hr
    (fun j hj => by
     have : off + xs.length * i0.size + j < cur.size := by rw [hz1]; omega
     rw [aa h3 (Array.getElem?_eq_getElem this)]
     rfl)
    (fun j hj => aL h3)
   rw [hz1, Nat.mul_one] at hrun
   have hblk := dS b 3 (bn ks) (off + xs.length) W cur h3
   have hfx := Fx.sets (P := (· = b)) (b := b) rfl (bn ks) (off + xs.length) (Fx.refl _ W)
   refine ⟨_, _, hrun, .inr ⟨b, off, cap, _, by rw [List.length_append], h2, hblk, by rw [kV]; exact h4, by rw [List.length_append]; exact hr, h6, fun i hi => ?_⟩, ⟨hfx.os, hfx.tape, hfx.output, hfx.size, fun k hk hne => hfx.block k hk (fun e => hne (by rw [e]; rfl))⟩, .inl rfl⟩
   rw [List.length_append] at hi
   rw [ji _ _ _ _ (by rw [hlk]; omega)]
   by_cases hix : i < xs.length
   ·rw [if_neg (by omega), h7 i hix, List.getElem_append_left hix]
   ·rw [if_pos (by rw [hlk]; omega), show off + i - (off + xs.length) = i - xs.length by omega, List.getElem_append_right (by omega)]
    simp [bn]
  ·obtain ⟨v', W3, r1, r2, r3⟩ := run_append_arg_grows (P := Tryd.prog) W 32 32 3 i0 (.int .i64 0) 1 8 Tryd.underlying32 hi hz0 hz1 hz2 rfl (by decide) ⟨b, off, none⟩ xs.length cap (bn xs) (by simp [bn]) hol ⟨kb, ko, none⟩ ks.length kc (bn ks) (by omega) hnew (by omega) (by omega) (by omega)
   obtain ⟨g1, g2⟩ := grown v' W3 (xs.length + ks.length) (by simpa [bn] using r2) (by simp) (by omega)
   exact ⟨v', W3, fun ty => r1, g1, ⟨r3.os, r3.tape, r3.output, r3.size, fun k hk _ => r3.block k hk (by simp)⟩, .inr g2⟩
theorem jk {W : World} {B n c : Nat} {a : Option Addr} {S : List Int} (h : W.ownsRow B 3 1 (.slice a n c) n (bn S)) : aF W W.heap.size a c S /\ n = S.length := by
 have hl := h.1
 simp only [bn, List.length_map, Nat.mul_one] at hl
 refine ⟨⟨?_, ?_, fun h0 => ?_⟩, hl.symm⟩
 all_goals
  rcases h.2 with ⟨e, e2⟩ | ⟨g, cap, cur, e, q1, q2, q3, q4, q5, q6⟩
 ·simp only [Value.slice.injEq] at e; omega
 ·simp only [Value.slice.injEq] at e; omega
 ·omega
 ·omega
 ·omega
 ·simp only [Value.slice.injEq] at e
  refine ⟨g, 0, e.1, ah q2, fun i hi => ?_⟩
  have e2 : (cur.toList.take (n * 1))[i]? = (bn S)[i]? := by rw [q6]
  rw [List.getElem?_take_of_lt (by omega), Array.getElem?_toList] at e2
  rw [Nat.zero_add]
  refine aa q2 ?_
  rw [e2]
  simp [bn, hi]
end Go.Proofs.YtadmpgegolmkgaaDoor
