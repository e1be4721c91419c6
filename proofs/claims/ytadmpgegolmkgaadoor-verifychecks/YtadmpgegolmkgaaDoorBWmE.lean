import Derived.Test.YtadmpgegolmkgaaDoorBWmD
import Derived.Test.YtadmpgegolmkgaaDoorBWjD
import Derived.Test.YtadmpgegolmkgaaDoorBWsI
set_option linter.unusedVariables false
set_option linter.unusedSimpArgs false
set_option maxHeartbeats 4000000
set_option maxRecDepth 100000
namespace Go.Proofs.YtadmpgegolmkgaaDoor
open Go.RowKit Go.MapKept Go.ChangeMaps Go.WideShapes
def wA0 : WA := ⟨.int .i64 0, .int .i64 0, .int .i64 0, .bool false, .slice none 0 0⟩
structure NwP (B : Nat) (w w' : World) (wb n : Nat) (g : WG) : Prop where
 r : WkR w' B wb g wA0 (List.replicate n (0, 0))
 gn : g.n = n
 top : szW g.n (g.L - 1) = 1
 l0 : 0 < g.L
 bel : Below B w w'
theorem wU {w X : World} {kb db dc L n : Nat} {eb : Nat -> Nat} (hd : DuE X db dc eb L n fun _ _ => false) (hk : X.heap[kb]? = some (.cells (kN (List.replicate n (0, 0))).toArray 66 (0, 0))) (hb : Below w.heap.size w X) (h1 : w.heap.size <= kb) (h2 : w.heap.size <= db) (h3 : ∀ l, l < L -> w.heap.size <= eb l) (n4 : db ≠ kb) (t1 : szW n (L - 1) = 1) (t2 : 0 < L) {wb : Nat} (hwb : X.heap.size = wb) :
  NwP w.heap.size w (X.alloc (wkA ((⟨kb, n, db, dc, L, 0, eb⟩ : WG).h wA0) 0 (.slice none 0 0) (.map none))) wb n ⟨kb, n, db, dc, L, 0, eb⟩ := by
 subst hwb
 have b1 := ak X (wkA ((⟨kb, n, db, dc, L, 0, eb⟩ : WG).h wA0) 0 (.slice none 0 0) (.map none))
 have x1 : Fx (fun _ => False) X (X.alloc (wkA ((⟨kb, n, db, dc, L, 0, eb⟩ : WG).h wA0) 0 (.slice none 0 0) (.map none))) := Fx.of b1
 have hs := hb.size
 have hdl := hd.dlt
 exact ⟨⟨hs, h1, h2, h3, (b1.block _ (ah hk)).trans hk, List.length_replicate, hd.fx x1 id fun _ _ => id, ⟨by show db ≠ X.heap.size; omega, n4⟩, .inl ⟨0, aj X _ _ rfl⟩⟩, rfl, t1, t2, hb.trans (b1.mono hs)⟩
theorem iQ (w : World) (n : Nat) (h0 : 0 < n) (hn : n <= 2147483648) :
  Calls Tryd.prog 26 #[.int .i64 (n : Int)] w fun e w' => ∃ wb g, e = .returned (.pointer (some ⟨wb, 0, none⟩)) /\ Bx (NwP w.heap.size w w' wb n g) := by
 have HD : Bx (∀ W, _) := ⟨fun W => qg W n h0 hn⟩
 have hmk := fun W => wN W n hn
 go_enter Tryd.func26, Tryd.ntmps26
 go_wp2
 go_region_with (first
  | (go_at_call 39; refine (HD.out _).mono ?_; rintro e w1 ⟨db, dc, eb, L, rfl, HX⟩))
 ·go_wp2
  go_ret
  have hx := HX.out
  have hs : (w.alloc (.cells (kN (List.replicate n (0, 0))).toArray 66)).drew.heap.size = w.heap.size + 1 := by simp
  rw [hs] at hx
  obtain ⟨q1, q2, q3, q4, q5, q6⟩ := hx
  exact ⟨_, _, rfl, ⟨wU (w := w) (n := n) (kb := w.heap.size) q1 ((q2.block w.heap.size (by omega)).trans (aj w _ _ rfl)) (Below.trans (b := (w.alloc (.cells (kN (List.replicate n (0, 0))).toArray 66)).drew) (ak w _).drew (q2.mono (by omega))) (Nat.le_refl _) (by omega) (fun l hl => by have := q4 l hl; omega) (by omega) q5 q6 rfl⟩⟩
 ·go_wp2
  go_ret
  obtain ⟨q1, q2, q3, q4, q5, q6⟩ := HX.out
  have hs := q2.size
  have hs' : w.heap.size <= w1.heap.size := hs
  have b1 := ak w1 (.cells (kN (List.replicate n (0, 0))).toArray 66)
  have x1 : Fx (fun _ => False) w1 (w1.alloc (.cells (kN (List.replicate n (0, 0))).toArray 66)) := Fx.of b1
  have hdl := q1.dlt
  exact ⟨_, _, rfl, ⟨wU (w := w) (n := n) (kb := w1.heap.size) (q1.fx x1 id fun _ _ => id) (aj w1 _ _ rfl) (Below.trans ⟨q2.os, q2.tape, q2.output, q2.size, q2.block⟩ (b1.mono hs')) hs' q3 q4 (by omega) q5 q6 (by simp)⟩⟩
end Go.Proofs.YtadmpgegolmkgaaDoor
namespace Go.Proofs.YtadmpgegolmkgaaDoor
structure AgK (n : Nat) (K K' : List Wy) : Prop where
 l1 : n <= K.length
 l2 : n <= K'.length
 eq : ∀ i, i < n -> kA K i = kA K' i
theorem AgK.come {n : Nat} {K K' : List Wy} (h : AgK n K K') {i : Nat} (hi : i < n) (p : Wy) : AgK n (aI K i p) (aI K' i p) := by
 have h1 := h.l1
 have h2 := h.l2
 refine ⟨by rw [dR]; exact h1, by rw [dR]; exact h2, fun j hj => ?_⟩
 rw [iH p (by omega), iH p (by omega), h.eq i hi, h.eq j hj]
theorem AgK.aP {n : Nat} {K K' : List Wy} (h : AgK n K K') {i : Nat} (hi : i < n) (D : Nat -> Bool) : aP K i D = aP K' i D := by
 funext j
 rw [dX, dX, h.eq i hi]
theorem AgK.bI {n : Nat} {K K' : List Wy} (h : AgK n K K') {i : Nat} (hi : i < n) (p : Wy) : bI K i p = bI K' i p := by
 have := (h.come hi p).eq i hi
 unfold kA at this
 unfold Go.Proofs.YtadmpgegolmkgaaDoor.bI
 rw [this]
theorem AgK.aC {n : Nat} : ∀ (nx : List (Nat × Wy)) {K K' : List Wy} (D : Nat -> Bool), AgK n K K' -> (∀ q ∈ nx, q.1 < n) -> (aC nx K D).1 = (aC nx K' D).1 /\ AgK n (aC nx K D).2.1 (aC nx K' D).2.1 /\ (aC nx K D).2.2 = (aC nx K' D).2.2
 | [], K, K', D, h, _ => ⟨rfl, h, rfl⟩
 | (i, p) :: r, K, K', D, h, hq => by
  have hi := hq (i, p) List.mem_cons_self
  have h1 := h.come hi p
  have h2 := h.bI hi p
  have h3 := h.aP hi D
  rw [Go.Proofs.YtadmpgegolmkgaaDoor.aC, Go.Proofs.YtadmpgegolmkgaaDoor.aC, h2, h3]
  split
  ·exact AgK.aC r _ h1 fun q hm => hq q (List.mem_cons_of_mem _ hm)
  ·exact ⟨rfl, h1, rfl⟩
structure AgS (n : Nat) (s s' : Wst) : Prop where
 P : s.P = s'.P
 K : AgK n s.K s'.K
 D : s.D = s'.D
theorem wW {n L i : Nat} {sl : Int} {res : Bool} {x : CIn} {p : Wy} {s s' : Wst} (hx : LkX n sl i x) (hi : i < n) (h : AgS n s s') : (bY n res L i x p s).1 = (bY n res L i x p s').1 /\ AgS n (bY n res L i x p s).2 (bY n res L i x p s').2 := by
 unfold bY
 rw [← h.P]
 split
 ·exact ⟨rfl, h⟩
 ·split
  ·exact ⟨rfl, h⟩
  ·split
   ·exact ⟨rfl, h⟩
   ·split
    ·exact ⟨rfl, h⟩
    ·rename_i hb
     have ht := hx.tY hi hb
     obtain ⟨c1, c2, c3⟩ := AgK.aC (aQ i x (abN x p, (past L s.P p.2 x.op x.a).2)) s.D h.K fun q hq => (mi ht hq).1
     unfold goP
     rw [← h.P, ← h.D]
     exact ⟨by rw [c1], ⟨rfl, c2, c3⟩⟩
theorem rV {n L : Nat} {sl : Int} {res : Bool} {code : List CIn} (hx : ∀ i, i < n -> LkX n sl i (inA code i)) : ∀ (f : Nat) {s s' : Wst}, AgS n s s' -> (eO n res L code f s).1 = (eO n res L code f s').1 /\ (eO n res L code f s).2.1 = (eO n res L code f s').2.1 /\ AgS n (eO n res L code f s).2.2 (eO n res L code f s').2.2
 | 0, s, s', h => ⟨rfl, rfl, h⟩
 | f + 1, s, s', h => by
  rw [eO, eO, ← h.D]
  cases hi : cB n s.D with
  | none => exact ⟨rfl, rfl, h⟩
  | some i =>
   simp only
   obtain ⟨hin, _⟩ := least_some hi
   rw [← h.K.eq i hin, ← h.P]
   obtain ⟨e1, e2⟩ := wW (res := res) (L := L) (p := kA s.K i) (s := ⟨s.P, s.K, del i s.D⟩) (s' := ⟨s.P, s'.K, del i s.D⟩) (hx i hin) hin ⟨rfl, h.K, rfl⟩
   rw [← e1]
   split
   ·exact rV hx f e2
   ·exact ⟨rfl, e1, e2⟩
theorem iK.Bl {pg : CPg} {sl pr : Nat} (h : iK pg sl pr) {i : Nat} (hi : i < pg.code.length) : LkX pg.code.length pg.slots i (inA pg.code i) /\ (inA pg.code i).Wf /\ (inA pg.code i).list.length <= 281474976710656 := h.ins i _ (by unfold inA; rw [List.getElem?_eq_getElem hi]; rfl)
theorem wX {pg : CPg} {sl pr : Nat} (hp : iK pg sl pr) {K K' : List Wy} (h1 : pg.code.length <= K.length) (h2 : pg.code.length <= K'.length) : (gy sl pr pg.res pg.code K).1 = (gy sl pr pg.res pg.code K').1 /\ (gy sl pr pg.res pg.code K).2.1 = (gy sl pr pg.res pg.code K').2.1 /\ AgS pg.code.length (gy sl pr pg.res pg.code K).2.2 (gy sl pr pg.res pg.code K').2.2 := by
 have hc : AgK pg.code.length (dw pg.code.length K) (dw pg.code.length K') := ⟨by rw [eY h1]; exact h1, by rw [eY h2]; exact h2, fun i hi => by rw [eQ hi, eQ hi]⟩
 exact rV (fun i hi => (hp.Bl hi).1) _ ⟨rfl, hc.come hp.n0 _, hc.aP hp.n0 _⟩
def dB (p : CPg) : Nat × Int × Wst := gy p.slots.toNat p.params.toNat p.res p.code (List.replicate p.code.length (0, 0))
def fU : List CPg -> Nat -> Nat × Nat × Int
 | [], _ => (0, 0, 0)
 | p :: r, k => if (dB p).2.1 = 0 then fU r (k + 1) else (k, (dB p).1, (dB p).2.1)
theorem rW {l : List CPg} {k : Nat} (h : k < l.length) : fU (l.drop k) k = if (dB l[k]).2.1 = 0 then fU (l.drop (k + 1)) (k + 1) else (k, (dB l[k]).1, (dB l[k]).2.1) := by
 rw [List.drop_eq_getElem_cons h, fU]
def fo : List CPg -> Nat
 | [] => 0
 | p :: r => max p.code.length (fo r)
theorem zF {l : List CPg} {p : CPg} (h : p ∈ l) : p.code.length <= fo l := by
 induction l with
 | nil => cases h
 | cons q r ih =>
  rw [fo]
  rcases List.mem_cons.1 h with e | e
  ·subst e; omega
  ·have := ih e; omega
theorem oP : ∀ {l : List CPg}, l = [] ∨ ∃ p ∈ l, fo l = p.code.length
 | [] => .inl rfl
 | q :: r => by
  refine .inr ?_
  rw [fo]
  by_cases h : fo r <= q.code.length
  ·exact ⟨q, List.mem_cons_self, by omega⟩
  ·rcases oP (l := r) with e | ⟨p, hp, e⟩
   ·subst e; simp [fo] at h
   ·exact ⟨p, List.mem_cons_of_mem _ hp, by omega⟩
def jg : List CPg -> Nat -> Nat
 | [], m => m
 | p :: r, m => jg r (max m p.code.length)
theorem oQ : ∀ (l : List CPg) (m : Nat), jg l m = max m (fo l)
 | [], m => by simp [jg, fo]
 | p :: r, m => by rw [jg, oQ r, fo]; omega
theorem xc {l : List CPg} {k m : Nat} (h : k < l.length) : jg (l.drop k) m = jg (l.drop (k + 1)) (max m l[k].code.length) := by
 rw [List.drop_eq_getElem_cons h, jg]
end Go.Proofs.YtadmpgegolmkgaaDoor
namespace Go.Proofs.YtadmpgegolmkgaaDoor
open Go.RowKit Go.MapKept Go.ChangeMaps Go.WideShapes
theorem WkR.base {w : World} {B B' wb : Nat} {g : WG} {A : WA} {K : List Wy} (h : WkR w B wb g A K) (hB : B' <= B) : WkR w B' wb g A K := by
 refine ⟨Nat.le_trans hB h.b1, Nat.le_trans hB h.b2, Nat.le_trans hB h.b3, fun l hl => Nat.le_trans hB (h.b4 l hl), h.kn, h.kl, h.du, h.nd, ?_⟩
 rcases h.st with e | ⟨mb, L, gb, gc, P, s, q1, q2, q3⟩
 ·exact .inl e
 ·exact .inr ⟨mb, L, gb, gc, P, s, Nat.le_trans hB q1, Nat.le_trans hB q2, q3⟩
abbrev PgF (p : CPg) : Prop := iK p p.slots.toNat p.params.toNat
theorem bR {w : World} {B pc : Nat} {pa : Option Addr} {l : List CPg} (h : Row (mR w B) B 5 pa pc l) {k : Nat} (hk : k < l.length) : ∃ b o ca cc, pa = some ⟨b, o, none⟩ /\ b < B /\ Row (cu w B) B 4 ca cc l[k].code /\ Bx (∀ X, Below B w X -> X.cell? ⟨b, o + k * 5, none⟩ = some (.int .i64 l[k].params) /\ X.cell? ⟨b, o + k * 5 + 1, none⟩ = some (.int .i64 l[k].slots) /\ X.cell? ⟨b, o + k * 5 + 2, none⟩ = some (.int .i64 l[k].caps) /\ X.cell? ⟨b, o + k * 5 + 3, none⟩ = some (.bool l[k].res) /\ X.cell? ⟨b, o + k * 5 + 4, none⟩ = some (.slice ca l[k].code.length cc)) := by
 obtain ⟨b, o, e, hb, hj⟩ := h.at_ (by omega)
 obtain ⟨ca, cc, h0, h1, h2, h3, h4, h5⟩ := (hj k hk).ex
 have hc : ∀ X, Below B w X -> ∀ i, X.cell? ⟨b, i, none⟩ = w.cell? ⟨b, i, none⟩ := fun X hX i => hX.cell (p := ⟨b, i, none⟩) hb
 exact ⟨b, o, ca, cc, e, hb, h5, ⟨fun X hX => ⟨by rw [hc X hX]; exact h0, by rw [hc X hX]; exact h1, by rw [hc X hX]; exact h2, by rw [hc X hX]; exact h3, by rw [hc X hX]; exact h4⟩⟩⟩
theorem nD (w : World) (hV : VW w) (u : CUn) (pa ta : Option Addr) (pc tc : Nat) (hu : dL w w.heap.size pa pc ta tc u) (hp : ∀ p ∈ u.ae, PgF p) (h0 : 0 < u.ae.length) :
  Calls Tryd.prog 21 #[unV u pa pc ta tc] w fun e w' => e = .returned (.tuple #[.int .i64 ((fU u.ae 0).1 : Int), .int .i64 ((fU u.ae 0).2.1 : Int), .int .i64 (fU u.ae 0).2.2]) /\ Bx (Below w.heap.size w w') := by
 obtain ⟨H, hH⟩ : ∃ H, w.heap.size = H := ⟨_, rfl⟩
 have hrow := hu.ae
 have hcap := hrow.cap
 have hmx := hrow.max
 unfold maxLen at hmx
 obtain ⟨w1, hw1⟩ : ∃ w1, w.alloc (.cells #[.slice pa u.ae.length pc, .slice ta u.types.length tc] 25) = w1 := ⟨_, rfl⟩
 have b1 : Below w.heap.size w w1 := by rw [← hw1]; exact ak w _
 have q1 : w1.heap[H]? = some (.cells #[.slice pa u.ae.length pc, .slice ta u.types.length tc] 25 (0, 0)) := by rw [← hw1]; exact aj _ _ _ hH
 have s1 : w1.heap.size = H + 1 := by rw [← hw1]; simp [hH]
 have HU : Bx (∀ X, Below (H + 1) w1 X -> X.cell? ⟨H, 0, none⟩ = some (.slice pa u.ae.length pc)) := ⟨fun X hX => aa ((hX.block H (by omega)).trans q1) rfl⟩
 have HB1 : Bx (Below w.heap.size w w1) := ⟨b1⟩
 have HPC : Bx (∀ k (hk : k < u.ae.length), _) := ⟨fun k hk => bR hrow hk⟩
 have HV : Bx (VW w) := ⟨hV⟩
 have HP : Bx (∀ p ∈ u.ae, PgF p) := ⟨hp⟩
 have hlong : fo u.ae <= 268435456 /\ 0 < fo u.ae := by
  rcases oP (l := u.ae) with e | ⟨p, hm, e⟩
  ·rw [e] at h0; simp at h0
  ·rw [e]; exact ⟨(hp p hm).n1, (hp p hm).n0⟩
 have HNW : Bx (∀ X, Calls Tryd.prog 26 #[.int .i64 (fo u.ae : Int)] X fun e w' => ∃ wb g, e = .returned (.pointer (some ⟨wb, 0, none⟩)) /\ Bx (NwP X.heap.size X w' wb (fo u.ae) g)) := ⟨fun X => iQ X _ hlong.2 (by omega)⟩
 have HML : Bx (jg (u.ae.drop 0) 0 = fo u.ae) := ⟨by rw [List.drop_zero, oQ]; omega⟩
 have HLE : Bx (∀ p ∈ u.ae, p.code.length <= fo u.ae) := ⟨fun p hm => zF hm⟩
 generalize hRR : fU u.ae 0 = R
 have HR : Bx (fU (u.ae.drop 0) 0 = R) := ⟨by rw [List.drop_zero]; exact hRR⟩
 have hu0 := HU.out w1 (Below.refl _ _)
 generalize hln : fo u.ae = lng at *
 clear hV hp hu hrow q1 b1 hRR hln hlong
 unfold unV
 go_enter Tryd.func21, Tryd.ntmps21
 go_wp2
 clear hu0
 go_loopg [5, 16] (u.ae.length + 1) (fun f v5 v16 wr => ∃ k m : Nat, f = u.ae.length + 1 - k /\ k <= u.ae.length /\ m <= 268435456 /\ v5 = .int .i64 m /\ v16 = .int .i64 k /\ Bx (jg (u.ae.drop k) m = lng) /\ Bx (Below (H + 1) w1 wr))
 case atStart => exact ⟨0, 0, by simp, Nat.zero_le _, by omega, rfl, rfl, HML, ⟨Below.refl _ _⟩⟩
 case round =>
  obtain ⟨k, m, hf, hk, hm, rfl, rfl, HM, HB⟩ := hrel
  by_cases hlt : k < u.ae.length
  ·obtain ⟨b, o, ca, cc, rfl, hb, -, HC⟩ := HPC.out k hlt
   have hs := HB.out.size
   have hwr : Below w.heap.size w wr := HB1.out.trans (HB.out.mono (by omega))
   obtain ⟨c0, c1, c2, c3, c4⟩ := HC.out wr hwr
   have hbl : b < wr.heap.size := by omega
   have hn1 := (HP.out _ (List.getElem_mem hlt)).n1
   have HM2 : Bx _ := ⟨(xc hlt).symm.trans HM.out⟩
   have HB2 : Bx (∀ o, Below (H + 1) w1 (wr.alloc o)) := ⟨fun o => HB.out.alloc (by omega) _⟩
   have hkI : (k : Int) < (u.ae.length : Int) := by omega
   generalize u.ae[k] = pg at *
   generalize pg.code.length = n at *
   clear HM HC hwr hs HB
   go_wp2
   go_roundg (u.ae.length + 1 - (k + 1))
   case measure => omega
   case rel => exact ⟨k + 1, max m n, rfl, by omega, by omega, congrArg _ (by omega), by simp, HM2, ⟨HB2.out _⟩⟩
  ·obtain rfl : k = u.ae.length := by omega
   have hml : m = lng := by
    have := HM.out
    rw [List.drop_length] at this
    exact this
   subst hml
   have hu1 := HU.out wr HB.out
   obtain ⟨wA, rfl⟩ : ∃ X, X = wr := ⟨_, rfl⟩
   have hwA : Below w.heap.size w wA := HB1.out.trans (HB.out.mono (by omega))
   have HN : Bx (Calls Tryd.prog 26 #[.int .i64 (m : Int)] wA fun e w' => ∃ wb g, e = .returned (.pointer (some ⟨wb, 0, none⟩)) /\ w'.cell? ⟨H, 0, none⟩ = some (.slice pa u.ae.length pc) /\ Bx (Below (H + 1) w1 w' /\ WkR w' w.heap.size wb g wA0 (List.replicate m (0, 0)) /\ g.n = m /\ szW g.n (g.L - 1) = 1 /\ 0 < g.L)) := ⟨(HNW.out wA).mono fun e w' ⟨wb, g, he, hn⟩ => by
    obtain ⟨h1, h2, h3, h4, h5⟩ := hn.out
    have hs := HB.out.size
    have hb' : Below (H + 1) w1 w' := HB.out.trans (h5.mono (by omega))
    exact ⟨wb, g, he, HU.out _ hb', ⟨hb', h1.base hwA.size, h2, h3, h4⟩⟩⟩
   clear HB hwA HML HM
   go_wp2_with (first
    | (go_at_call 26; refine HN.out.mono ?_; rintro e wB ⟨wb, g, rfl, hu2, HX⟩; clear HN hu1))
   clear HNW hu2
   have HG : Bx (g.n = m /\ szW g.n (g.L - 1) = 1 /\ 0 < g.L) := ⟨HX.out.2.2⟩
   go_loopg [31] (u.ae.length + 1) (fun f v31 wr => ∃ k : Nat, f = u.ae.length + 1 - k /\ k <= u.ae.length /\ v31 = .int .i64 k /\ Bx (fU (u.ae.drop k) k = R) /\ Bx (Below w.heap.size w wr) /\ Bx (∃ A K, WkR wr w.heap.size wb g A K))
   case atStart => exact ⟨0, by simp, Nat.zero_le _, rfl, HR, ⟨HB1.out.trans (HX.out.1.mono (by omega))⟩, ⟨_, _, HX.out.2.1⟩⟩
   case round =>
    obtain ⟨k, hf, hk, rfl, HW, HB, HK⟩ := hrel
    by_cases hlt : k < u.ae.length
    ·obtain ⟨b, o, ca, cc, hpa, hb, hci, HC⟩ := HPC.out k hlt
     have hwr : Below w.heap.size w wr := HB.out
     have hs := hwr.size
     obtain ⟨c0, c1, c2, c3, c4⟩ := HC.out wr hwr
     have hbl : b < wr.heap.size := by omega
     have hpg := HP.out _ (List.getElem_mem hlt)
     have hle := HLE.out _ (List.getElem_mem hlt)
     have HW2 : Bx _ := ⟨(rW hlt).symm.trans HW.out⟩
     obtain ⟨A, K, hR⟩ := HK.out
     have HFO : Bx (Calls Tryd.prog 27 #[.pointer (some ⟨wb, 0, none⟩), .agg (pgC u.ae[k] ca cc)] (wr.alloc (.cells (pgC u.ae[k] ca cc) 40)) fun e w' => e = .returned (.tuple #[.int .i64 ((dB u.ae[k]).1 : Int), .int .i64 (dB u.ae[k]).2.1]) /\ Bx (Below w.heap.size w w' /\ ((dB u.ae[k]).2.1 = 0 -> ∃ A K, WkR w' w.heap.size wb g A K))) := ⟨by
      have ba := ak wr (.cells (pgC u.ae[k] ca cc) 40)
      have hR2 := hR.below ba
      have hkl := hR2.kl
      obtain ⟨g1, g2, g3⟩ := HG.out
      have := kP w _ HV.out (hwr.trans (ba.mono (by have := hwr.size; omega))) wb g A K hR2 u.ae[k] _ _ hpg ca cc hci (by omega) g2 g3
      obtain ⟨e1, e2, _⟩ := wX hpg (K := K) (K' := List.replicate u.ae[k].code.length (0, 0)) (by omega) (by simp)
      rw [e1, e2] at this
      refine this.mono ?_
      rintro e w' ⟨rfl, hh⟩
      obtain ⟨h1, h2⟩ := hh.out
      exact ⟨rfl, ⟨h1, fun e => ⟨_, _, h2 e⟩⟩⟩⟩
     subst hpa
     clear HC hwr hs HB HK hR hpg hle HW HPC hci
     generalize dB u.ae[k] = y at *
     generalize u.ae[k] = pg at *
     unfold pgC at HFO
     have hkI : (k : Int) < (u.ae.length : Int) := by omega
     by_cases hy : y.2.1 = 0
     ·have hy0 : ((y.2.1 : Int) != 0) = false := by simp [hy]
      have HW3 := HW2.out
      rw [if_pos hy] at HW3
      have HY : Bx (y.2.1 = 0) := ⟨hy⟩
      have HWB : Bx _ := ⟨HW3⟩
      clear hy HW3 HW2
      go_wp2_with (first
       | (go_at_call 27; refine HFO.out.mono ?_; rintro e wC ⟨rfl, HZ⟩))
      go_roundg (u.ae.length + 1 - (k + 1))
      case measure => omega
      case rel => exact ⟨k + 1, rfl, by omega, by simp, HWB, ⟨HZ.out.1⟩, ⟨HZ.out.2 HY.out⟩⟩
     ·have hy0 : ((y.2.1 : Int) != 0) = true := by simp [hy]
      have HW3 := HW2.out
      rw [if_neg hy] at HW3
      clear hy HW2
      subst HW3
      go_wp2_with (first
       | (go_at_call 27; refine HFO.out.mono ?_; rintro e wC ⟨rfl, HZ⟩))
      go_returns
      exact ⟨rfl, ⟨by first | exact HZ.out.1 | (rw [← hH]; exact HZ.out.1)⟩⟩
    ·obtain rfl : k = u.ae.length := by omega
     have hRe := HW.out
     rw [List.drop_length] at hRe
     subst hRe
     clear HW HPC
     go_wp2
     go_returns
     exact ⟨rfl, ⟨by first | exact HB.out | (rw [← hH]; exact HB.out)⟩⟩
end Go.Proofs.YtadmpgegolmkgaaDoor
namespace Go.Proofs.YtadmpgegolmkgaaDoor
open Go.RowKit
def bN (u : CUn) (dfs : List Bool) (pg : CPg) : List CIn -> Nat -> Nat × Int
 | [], _ => (0, 0)
 | x :: r, i => if dI u dfs pg i x = 0 then bN u dfs pg r (i + 1) else (i, dI u dfs pg i x)
def bH (u : CUn) (dfs : List Bool) : List CPg -> Nat -> Nat × Nat × Int
 | [], _ => (0, 0, 0)
 | p :: r, n => if (bN u dfs p p.code 0).2 = 0 then bH u dfs r (n + 1) else (n, bN u dfs p p.code 0)
theorem kQ {u : CUn} {dfs : List Bool} {pg : CPg} {l : List CIn} {k : Nat} (h : k < l.length) : bN u dfs pg (l.drop k) k = if dI u dfs pg k l[k] = 0 then bN u dfs pg (l.drop (k + 1)) (k + 1) else (k, dI u dfs pg k l[k]) := by
 rw [List.drop_eq_getElem_cons h, bN]
theorem mo {u : CUn} {dfs : List Bool} {l : List CPg} {k : Nat} (h : k < l.length) : bH u dfs (l.drop k) k = if (bN u dfs l[k] l[k].code 0).2 = 0 then bH u dfs (l.drop (k + 1)) (k + 1) else (k, bN u dfs l[k] l[k].code 0) := by
 rw [List.drop_eq_getElem_cons h, bH]
def jP (w : World) (jb : Nat) (pg : CPg) (ca : Option Addr) (cc : Nat) : World := ((((w.setCell ⟨jb, 2, none⟩ (.int .i64 pg.params)).setCell ⟨jb, 3, none⟩ (.int .i64 pg.slots)).setCell ⟨jb, 4, none⟩ (.int .i64 pg.caps)).setCell ⟨jb, 5, none⟩ (.bool pg.res)).setCell ⟨jb, 6, none⟩ (.slice ca pg.code.length cc)
theorem Bn {w : World} {jb : Nat} {v0 v1 a0 a1 a2 a3 a4 : Value} (h : w.heap[jb]? = some (.cells #[v0, v1, a0, a1, a2, a3, a4] 87 (0, 0))) (pg : CPg) (ca : Option Addr) (cc : Nat) : (jP w jb pg ca cc).heap[jb]? = some (.cells #[v0, v1, .int .i64 pg.params, .int .i64 pg.slots, .int .i64 pg.caps, .bool pg.res, .slice ca pg.code.length cc] 87 (0, 0)) := by
 have e0 := heap_setCell_same w jb 2 _ 87 (.int .i64 pg.params) h
 simp only [List.setIfInBounds_toArray, List.set_cons_succ, List.set_cons_zero] at e0
 have e1 := heap_setCell_same _ jb 3 _ 87 (.int .i64 pg.slots) e0
 simp only [List.setIfInBounds_toArray, List.set_cons_succ, List.set_cons_zero] at e1
 have e2 := heap_setCell_same _ jb 4 _ 87 (.int .i64 pg.caps) e1
 simp only [List.setIfInBounds_toArray, List.set_cons_succ, List.set_cons_zero] at e2
 have e3 := heap_setCell_same _ jb 5 _ 87 (.bool pg.res) e2
 simp only [List.setIfInBounds_toArray, List.set_cons_succ, List.set_cons_zero] at e3
 have e4 := heap_setCell_same _ jb 6 _ 87 (.slice ca pg.code.length cc) e3
 simp only [List.setIfInBounds_toArray, List.set_cons_succ, List.set_cons_zero] at e4
 exact e4
theorem BI (w : World) (jb : Nat) (pg : CPg) (ca : Option Addr) (cc : Nat) : Fx (· = jb) w (jP w jb pg ca cc) := by
 unfold jP
 exact Fx.set (P := (· = jb)) (p := ⟨jb, 6, none⟩) (Fx.set (P := (· = jb)) (p := ⟨jb, 5, none⟩) (Fx.set (P := (· = jb)) (p := ⟨jb, 4, none⟩) (Fx.set (P := (· = jb)) (p := ⟨jb, 3, none⟩) (Fx.set (P := (· = jb)) (p := ⟨jb, 2, none⟩) (Fx.refl _ w) (.inl rfl) _) (.inl rfl) _) (.inl rfl) _) (.inl rfl) _) (.inl rfl) _
theorem JgM.put {w : World} {jb B pc dc cc : Nat} {u : CUn} {pa da ca : Option Addr} {dfs : List Bool} {pg : CPg} (h : JgM w jb B u pa pc da dc dfs pg ca cc) (hB : B <= jb) (pg' : CPg) (ca' : Option Addr) (cc' : Nat) (hcl : pg'.code.length <= 268435456) (hdj : ∀ b o, da = some ⟨b, o, none⟩ -> 0 < dfs.length -> b ≠ jb) : JgM (jP w jb pg' ca' cc') jb B u pa pc da dc dfs pg' ca' cc' /\ Fx (· = jb) w (jP w jb pg' ca' cc') := by
 have x := BI w jb pg' ca' cc'
 have hq := Bn h.h pg' ca' cc'
 generalize jP w jb pg' ca' cc' = W at *
 have hbl : Below B w W := x.bel h.bw fun k hk e => by omega
 refine ⟨⟨hq, ⟨h.df.cap, h.df.max, fun i hi => ?_⟩, h.pr.mono fun b o y hb he => he.below hbl (Nat.le_refl _) hb, Nat.le_trans h.bw x.size, hcl⟩, x⟩
 obtain ⟨b, o, e, hb, hc⟩ := h.df.at_ i hi
 have hz : 0 < dfs.length := Nat.lt_of_le_of_lt (Nat.zero_le _) hi
 have hn := hdj b o e hz
 refine ⟨b, o, e, Nat.lt_of_lt_of_le hb x.size, ?_⟩
 rw [← hc]
 exact World.cell?_of_block (x.block b hb hn)
theorem bF {w : World} {B cc : Nat} {ca : Option Addr} {l : List CIn} (h : Row (cu w B) B 4 ca cc l) {k : Nat} (hk : k < l.length) : ∃ b o ka kc, ca = some ⟨b, o, none⟩ /\ b < B /\ aF w B ka kc l[k].list /\ Bx (∀ X, Below B w X -> X.cell? ⟨b, o + k * 4, none⟩ = some (.int .i64 l[k].op) /\ X.cell? ⟨b, o + k * 4 + 1, none⟩ = some (.int .i64 l[k].a) /\ X.cell? ⟨b, o + k * 4 + 2, none⟩ = some (.int .i64 l[k].b) /\ X.cell? ⟨b, o + k * 4 + 3, none⟩ = some (.slice ka l[k].list.length kc)) := by
 obtain ⟨b, o, e, hb, hj⟩ := h.at_ (by omega)
 obtain ⟨ka, kc, h0, h1, h2, h3, h4⟩ := (hj k hk).ex
 have hc : ∀ X, Below B w X -> ∀ i, X.cell? ⟨b, i, none⟩ = w.cell? ⟨b, i, none⟩ := fun X hX i => hX.cell (p := ⟨b, i, none⟩) hb
 exact ⟨b, o, ka, kc, e, hb, h4, ⟨fun X hX => ⟨by rw [hc X hX]; exact h0, by rw [hc X hX]; exact h1, by rw [hc X hX]; exact h2, by rw [hc X hX]; exact h3⟩⟩⟩
structure PgB (p : CPg) : Prop where
 pr : 0 <= p.params /\ p.params <= p.slots
 sl : 0 <= p.slots /\ p.slots <= 65536
 cp : 0 <= p.caps /\ p.caps <= 65536
 cl : 0 < p.code.length /\ p.code.length <= 268435456
def UnB (u : CUn) : Prop := ∀ p ∈ u.ae, ∀ x ∈ p.code, x.list.length <= 281474976710656
theorem kR (w : World) (hV : VW w) (u : CUn) (pa ta : Option Addr) (pc tc : Nat) (hu : dL w w.heap.size pa pc ta tc u) (hp : ∀ p ∈ u.ae, PgB p) (hl : UnB u) (dfs : List Bool)
  (hdf : ∀ X, Below w.heap.size w X -> Calls Tryd.prog 35 #[.slice ta u.types.length tc] X fun e w' => ∃ da dc, e = .returned (.slice da dfs.length dc) /\ Bx (iy w' da dc dfs /\ Below X.heap.size X w')) :
  Calls Tryd.prog 20 #[unV u pa pc ta tc] w fun e w' => e = .returned (.tuple #[.int .i64 ((bH u dfs u.ae 0).1 : Int), .int .i64 ((bH u dfs u.ae 0).2.1 : Int), .int .i64 (bH u dfs u.ae 0).2.2]) /\ Bx (Below w.heap.size w w') := by
 obtain ⟨H, hH⟩ : ∃ H, w.heap.size = H := ⟨_, rfl⟩
 have hrow := hu.ae
 have hcap := hrow.cap
 have hmx := hrow.max
 unfold maxLen at hmx
 obtain ⟨w1, hw1⟩ : ∃ w1, w.alloc (.cells #[.slice pa u.ae.length pc, .slice ta u.types.length tc] 25) = w1 := ⟨_, rfl⟩
 have b1 : Below w.heap.size w w1 := by rw [← hw1]; exact ak w _
 have q1 : w1.heap[H]? = some (.cells #[.slice pa u.ae.length pc, .slice ta u.types.length tc] 25 (0, 0)) := by rw [← hw1]; exact aj _ _ _ hH
 have s1 : w1.heap.size = H + 1 := by rw [← hw1]; simp [hH]
 have HU : Bx (∀ X, Below (H + 1) w1 X -> X.cell? ⟨H, 0, none⟩ = some (.slice pa u.ae.length pc) /\ X.cell? ⟨H, 1, none⟩ = some (.slice ta u.types.length tc)) := ⟨fun X hX => ⟨aa ((hX.block H (by omega)).trans q1) rfl, aa ((hX.block H (by omega)).trans q1) rfl⟩⟩
 have HB1 : Bx (Below w.heap.size w w1) := ⟨b1⟩
 have HPC : Bx (∀ k (hk : k < u.ae.length), _) := ⟨fun k hk => bR hrow hk⟩
 have HROW : Bx _ := ⟨hrow⟩
 have HV : Bx (VW w) := ⟨hV⟩
 have HP : Bx (∀ p ∈ u.ae, PgB p) := ⟨hp⟩
 have HL : Bx (UnB u) := ⟨hl⟩
 have HDF : Bx (Calls Tryd.prog 35 #[.slice ta u.types.length tc] w1.drew fun e w' => ∃ da dc, e = .returned (.slice da dfs.length dc) /\ (w'.cell? ⟨H, 0, none⟩ = some (.slice pa u.ae.length pc) /\ w'.cell? ⟨H, 1, none⟩ = some (.slice ta u.types.length tc)) /\ Bx (iy w' da dc dfs /\ Below (H + 1) w1 w')) := ⟨(hdf w1.drew ⟨b1.os, b1.tape, b1.output, b1.size, b1.block⟩).mono fun e w' ⟨da, dc, he, hh⟩ => by
  obtain ⟨h1, h2⟩ := hh.out
  have h3 : Below (H + 1) w1 w' := ⟨h2.os, h2.tape, h2.output, h2.size, fun k hk => h2.block k (by show k < w1.heap.size; omega)⟩
  exact ⟨da, dc, he, HU.out _ h3, ⟨h1, h3⟩⟩⟩
 generalize hRR : bH u dfs u.ae 0 = R
 have HR : Bx (bH u dfs (u.ae.drop 0) 0 = R) := ⟨by rw [List.drop_zero]; exact hRR⟩
 obtain ⟨hu0, hu1⟩ := HU.out w1 (Below.refl _ _)
 clear hV hp hu hrow q1 b1 hRR hdf hl
 unfold unV
 go_enter Tryd.func20, Tryd.ntmps20
 go_wp2
 go_region_held3 (fun w' => w'.cell? ⟨H, 0, none⟩ = some (.slice pa u.ae.length pc) /\ w'.cell? ⟨H, 1, none⟩ = some (.slice ta u.types.length tc))
  (first | exact ⟨hv0, hv1⟩ | exact ⟨hu0, hu1⟩ | exact hva _)
  (first | (go_at_call 35; refine HDF.out.mono ?_; rintro e w2 ⟨da, dc, rfl, ⟨hv0, hv1⟩, HD⟩; have hva : ∀ o, _ := fun o => HU.out _ (HD.out.2.alloc (by have := HD.out.2.size; omega) o)))
 have hD := HD.out
 have hDs := hD.2.size
 obtain ⟨jb, hjb⟩ : ∃ jb, jb = w2.heap.size := ⟨_, rfl⟩
 rw [← hjb]
 obtain ⟨w3, hw3⟩ : ∃ w3, w2.alloc (.cells #[.slice pa u.ae.length pc, .slice da dfs.length dc, .int .i64 0, .int .i64 0, .int .i64 0, .bool false, .slice none 0 0] 87) = w3 := ⟨_, rfl⟩
 have b3 : Below w2.heap.size w2 w3 := by rw [← hw3]; exact ak w2 _
 have q3 : w3.heap[jb]? = some (.cells #[.slice pa u.ae.length pc, .slice da dfs.length dc, .int .i64 0, .int .i64 0, .int .i64 0, .bool false, .slice none 0 0] 87 (0, 0)) := by rw [← hw3]; exact aj _ _ _ hjb.symm
 have b13 : Below (H + 1) w1 w3 := hD.2.trans (b3.mono (by omega))
 have bw3 : Below w.heap.size w w3 := HB1.out.trans (b13.mono (by omega))
 obtain ⟨hz0, hz1⟩ := HU.out w3 b13
 have HDA : Bx (∀ b o, da = some ⟨b, o, none⟩ -> 0 < dfs.length -> b < jb) := ⟨fun b o e h0 => by
  obtain ⟨b', o', e', hb', _⟩ := hD.1.at_ 0 h0
  rw [e] at e'
  cases e'
  rw [hjb]
  exact hb'⟩
 have HJ : Bx (∃ pg ca cc, JgM w3 jb w.heap.size u pa pc da dc dfs pg ca cc) := ⟨⟨pgD, none, 0, q3, hD.1.below b3, HROW.out.mono fun b o y hb he => he.below bw3 (Nat.le_refl _) hb, bw3.size, by simp [pgD]⟩⟩
 have HB3 : Bx (Below w.heap.size w w3) := ⟨bw3⟩
 have hjbl : w.heap.size <= jb := by omega
 have HJL : Bx (w.heap.size <= jb) := ⟨hjbl⟩
 rw [hw3]
 clear hva hv0 hv1 hD hDs hw3 b3 q3 b13 bw3 HDF hjb hu0 hu1 HD hjbl
 go_wp2
 clear hz0 hz1
 go_loopg [21] (u.ae.length + 1) (fun f v21 wr => ∃ k : Nat, f = u.ae.length + 1 - k /\ k <= u.ae.length /\ v21 = .int .i64 k /\ Bx (bH u dfs (u.ae.drop k) k = R) /\ Bx (Below w.heap.size w wr) /\ Bx (∃ pg ca cc, JgM wr jb w.heap.size u pa pc da dc dfs pg ca cc))
 case atStart => exact ⟨0, by simp, Nat.zero_le _, rfl, HR, HB3, HJ⟩
 case round =>
  obtain ⟨k, hf, hk, rfl, HW, HB, HK⟩ := hrel
  by_cases hlt : k < u.ae.length
  ·obtain ⟨b, o, ca, cc, hpa, hb, hci, HC⟩ := HPC.out k hlt
   have hwr : Below w.heap.size w wr := HB.out
   have hs := hwr.size
   obtain ⟨c0, c1, c2, c3, c4⟩ := HC.out wr hwr
   have hbl : b < wr.heap.size := by omega
   have hpg := HP.out _ (List.getElem_mem hlt)
   have HUB : Bx (∀ x ∈ u.ae[k].code, x.list.length <= 281474976710656) := ⟨HL.out _ (List.getElem_mem hlt)⟩
   have HW2 : Bx _ := ⟨(mo hlt).symm.trans HW.out⟩
   obtain ⟨pg0, ca0, cc0, hJ0⟩ := HK.out
   have hjw := fI hJ0.h
   have jfz : ∀ j, wr.frozen? ⟨jb, j, none⟩ = false := fun j => by simp [World.frozen?, hJ0.h]
   have j2 : wr.cell? ⟨jb, 2, none⟩ = some (.int .i64 pg0.params) := aa hJ0.h rfl
   have j3 : wr.cell? ⟨jb, 3, none⟩ = some (.int .i64 pg0.slots) := aa hJ0.h rfl
   have j4 : wr.cell? ⟨jb, 4, none⟩ = some (.int .i64 pg0.caps) := aa hJ0.h rfl
   have j5 : wr.cell? ⟨jb, 5, none⟩ = some (.bool pg0.res) := aa hJ0.h rfl
   have j6 : wr.cell? ⟨jb, 6, none⟩ = some (.slice ca0 pg0.code.length cc0) := aa hJ0.h rfl
   obtain ⟨hJ1, x1⟩ := hJ0.put (by have := HJL.out; omega) u.ae[k] ca cc hpg.cl.2 (fun b o e h0 => by have := HDA.out b o e h0; omega)
   obtain ⟨X2, hX2⟩ : ∃ X2, (jP wr jb u.ae[k] ca cc).alloc (.cells (pgC u.ae[k] ca cc) 40) = X2 := ⟨_, rfl⟩
   have bx2 : Below (jP wr jb u.ae[k] ca cc).heap.size (jP wr jb u.ae[k] ca cc) X2 := by rw [← hX2]; exact ak _ _
   have HJ2 : Bx _ := ⟨hJ1.below bx2⟩
   have hjs : (jP wr jb u.ae[k] ca cc).heap.size = wr.heap.size := by unfold jP; simp
   have HB2 : Bx (Below w.heap.size w X2) := ⟨hwr.trans ((x1.bel hs fun k hk e => by have := HJL.out; omega).trans (bx2.mono (by omega)))⟩
   have p4 : X2.cell? ⟨wr.heap.size, 4, none⟩ = some (.slice ca u.ae[k].code.length cc) := aa (by rw [← hX2]; exact aj _ _ _ hjs) rfl
   have HAG : Bx (bN u dfs u.ae[k] (u.ae[k].code.drop 0) 0 = bN u dfs u.ae[k] u.ae[k].code 0) := ⟨by rw [List.drop_zero]⟩
   have hccap := hci.cap
   have hcl := hpg.cl.2
   have HIC : Bx (∀ i (hi : i < u.ae[k].code.length), _) := ⟨fun i hi => bF hci hi⟩
   have HPGB : Bx _ := ⟨hpg⟩
   have hkI : (k : Int) < (u.ae.length : Int) := by omega
   unfold jP at hX2
   generalize hRG : bN u dfs u.ae[k] u.ae[k].code 0 = RG at *
   subst hpa
   clear HC hwr hs HB HK hJ0 hpg HW HPC hci hJ1 x1 bx2 hjs hRG
   generalize u.ae[k] = pg at *
   unfold pgC at hX2
   go_wp2
   clear hX2 jfz j2 j3 j4 j5 j6 c0 c1 c2 c3 c4 p4 hjw
   obtain ⟨wA, rfl⟩ : ∃ X, X = wr := ⟨_, rfl⟩
   go_loopg [33] (pg.code.length + 1) (fun f v33 wr => ∃ i : Nat, f = pg.code.length + 1 - i /\ i <= pg.code.length /\ v33 = .int .i64 i /\ Bx (bN u dfs pg (pg.code.drop i) i = RG) /\ Bx (Below w.heap.size w wr) /\ Bx (JgM wr jb w.heap.size u (some ⟨b, o, none⟩) pc da dc dfs pg ca cc))
   case atStart => exact ⟨0, by simp, Nat.zero_le _, rfl, HAG, HB2, HJ2⟩
   case round =>
    obtain ⟨i, hf2, hi, rfl, HA, HB, HJ3⟩ := hrel
    clear HAG HB2 HJ2
    by_cases hlt2 : i < pg.code.length
    ·obtain ⟨b', o', ka, kc, hca, hb', hks, HC⟩ := HIC.out i hlt2
     have hwr : Below w.heap.size w wr := HB.out
     have hs := hwr.size
     obtain ⟨c0, c1, c2, c3⟩ := HC.out wr hwr
     have hbl' : b' < wr.heap.size := by omega
     have hiI : (i : Int) < (pg.code.length : Int) := by omega
     have HA2 : Bx _ := ⟨(kQ hlt2).symm.trans HA.out⟩
     have hlx := HUB.out _ (List.getElem_mem hlt2)
     have HWR : Bx (∀ oo, Calls Tryd.prog 36 #[.pointer (some ⟨jb, 0, none⟩), .int .i64 (i : Int), aR pg.code[i] ka kc] (wr.alloc oo) fun e w' => e = .returned (.int .i64 (dI u dfs pg i pg.code[i])) /\ Bx (Below w.heap.size w w' /\ JgM w' jb w.heap.size u (some ⟨b, o, none⟩) pc da dc dfs pg ca cc)) := ⟨fun oo => by
      have ba := ak wr oo
      have hJ4 := HJ3.out.below ba
      have hb4 : Below w.heap.size w (wr.alloc oo) := hwr.trans (ba.mono (by omega))
      refine (tJ _ (HV.out.below hb4) hJ4 HPGB.out.sl HPGB.out.cp i pg.code[i] ka kc (hks.below hb4) hlx).mono ?_
      rintro e w' ⟨rfl, hq⟩
      exact ⟨rfl, ⟨hb4.trans (hq.out.mono hb4.size), hJ4.below hq.out⟩⟩⟩
     unfold aR at HWR
     subst hca
     clear HC hwr hs HB HJ3 HA hlx HIC hks
     generalize dI u dfs pg i pg.code[i] = y at *
     generalize pg.code[i] = x at *
     by_cases hy : y = 0
     ·have hy0 : ((y : Int) != 0) = false := by simp [hy]
      have HA3 := HA2.out
      rw [if_pos hy] at HA3
      have HAB : Bx _ := ⟨HA3⟩
      clear hy HA3 HA2
      go_wp2_with (first
       | (go_at_call 36; refine (HWR.out _).mono ?_; rintro e wC ⟨rfl, HZ⟩))
      go_roundg (pg.code.length + 1 - (i + 1))
      case measure => omega
      case rel => exact ⟨i + 1, rfl, by omega, by simp, HAB, ⟨HZ.out.1⟩, ⟨HZ.out.2⟩⟩
     ·have hy0 : ((y : Int) != 0) = true := by simp [hy]
      have HA3 := HA2.out
      rw [if_neg hy] at HA3
      have HW3 := HW2.out
      rw [← HA3] at HW3
      simp only [if_neg hy] at HW3
      subst HW3
      clear hy HA3 HA2 HW2
      go_wp2_with (first
       | (go_at_call 36; refine (HWR.out _).mono ?_; rintro e wC ⟨rfl, HZ⟩))
      go_returns
      exact ⟨rfl, ⟨by first | exact HZ.out.1 | (rw [← hH]; exact HZ.out.1)⟩⟩
    ·obtain rfl : i = pg.code.length := by omega
     have hRe := HA.out
     rw [List.drop_length] at hRe
     have HW3 := HW2.out
     rw [← hRe] at HW3
     simp only [bN, if_true] at HW3
     have HWB : Bx _ := ⟨HW3⟩
     clear HA hRe HW3 HW2
     go_wp2
     go_roundg (u.ae.length + 1 - (k + 1))
     case measure => omega
     case rel => exact ⟨k + 1, rfl, by omega, by simp, HWB, HB, ⟨_, _, _, HJ3.out⟩⟩
  ·obtain rfl : k = u.ae.length := by omega
   have hRe := HW.out
   rw [List.drop_length] at hRe
   subst hRe
   clear HW HPC
   go_wp2
   go_returns
   exact ⟨rfl, ⟨by first | exact HB.out | (rw [← hH]; exact HB.out)⟩⟩
end Go.Proofs.YtadmpgegolmkgaaDoor
namespace Go.Proofs.YtadmpgegolmkgaaDoor
def fup {α : Type} (f : Nat -> α) (i : Nat) (v : α) : Nat -> α := fun j => if j = i then v else f j
theorem aU {α : Type} (f : Nat -> α) (i : Nat) (v : α) : fup f i v i = v := by simp [fup]
theorem bg {α : Type} (f : Nat -> α) {i j : Nat} (v : α) (h : j ≠ i) : fup f i v j = f j := by simp [fup, h]
structure DfS where
 has : Nat -> Bool
 ms : Nat -> Int
 wh : Nat -> List Int
 fd : List Int
def tyD : CTy := ⟨0, [], false⟩
def tyA (ts : List CTy) (r : Nat) : CTy := ts.getD r tyD
def iU (row : Nat) : List Int -> (Nat -> List Int) -> Nat -> List Int
 | [], W => W
 | k :: r, W => iU row r (fup W k.toNat (W k.toNat ++ [(row : Int)]))
def df1 (t : CTy) (row : Nat) (s : DfS) : DfS := if t.kind = 4 then ⟨s.has, fup s.ms row t.kids.length, iU row t.kids s.wh, s.fd⟩ else ⟨s.has, s.ms, s.wh, s.fd ++ [(row : Int)]⟩
def fA : List CTy -> Nat -> DfS -> DfS
 | [], _, s => s
 | t :: r, k, s => fA r (k + 1) (df1 t k s)
def df0 : DfS := ⟨fun _ => false, fun _ => 0, fun _ => [], []⟩
def iV : List Int -> (Nat -> Int) × List Int -> (Nat -> Int) × List Int
 | [], p => p
 | w :: r, p => iV r (fup p.1 w.toNat (p.1 w.toNat - 1), if p.1 w.toNat - 1 = 0 then p.2 ++ [w] else p.2)
def df2 (s : DfS) (x : Nat) (rest : List Int) : DfS := ⟨fup s.has x true, (iV (s.wh x) (s.ms, rest)).1, s.wh, (iV (s.wh x) (s.ms, rest)).2⟩
def fB : Nat -> DfS -> DfS
 | 0, s => s
 | f + 1, s => match s.fd.getLast? with
  | none => s
  | some x => fB f (df2 s x.toNat s.fd.dropLast)
def gI (ts : List CTy) : DfS := fB (ts.length + 1) (fA ts 0 df0)
def dfL (ts : List CTy) : List Bool := (List.range ts.length).map (gI ts).has
theorem mq {l : List CTy} {k : Nat} (h : k < l.length) (s : DfS) : fA (l.drop k) k s = fA (l.drop (k + 1)) (k + 1) (df1 l[k] k s) := by
 rw [List.drop_eq_getElem_cons h, fA]
theorem zG {row : Nat} {l : List Int} {k : Nat} (h : k < l.length) (W : Nat -> List Int) : iU row (l.drop k) W = iU row (l.drop (k + 1)) (fup W (l[k]).toNat (W (l[k]).toNat ++ [(row : Int)])) := by
 rw [List.drop_eq_getElem_cons h, iU]
theorem zH {l : List Int} {k : Nat} (h : k < l.length) (p : (Nat -> Int) × List Int) : iV (l.drop k) p = iV (l.drop (k + 1)) (fup p.1 (l[k]).toNat (p.1 (l[k]).toNat - 1), if p.1 (l[k]).toNat - 1 = 0 then p.2 ++ [l[k]] else p.2) := by
 rw [List.drop_eq_getElem_cons h, iV]
abbrev bG (ts : List CTy) (r : Nat) : Prop := (tyA ts r).kind = 4
def kc (ts : List CTy) (w x : Nat) : Nat := (tyA ts w).kids.count (x : Int)
structure TsV (ts : List CTy) : Prop where
 kids : ∀ r, ∀ k ∈ (tyA ts r).kids, 0 <= k /\ k < ts.length
structure D1 (ts : List CTy) (k : Nat) (s : DfS) : Prop where
 has : ∀ r, s.has r = false
 ms : ∀ r, s.ms r = if r < k /\ bG ts r then ((tyA ts r).kids.length : Int) else 0
 whr : ∀ x, ∀ w ∈ s.wh x, 0 <= w /\ w < (k : Int) /\ bG ts w.toNat
 whc : ∀ (x w : Nat), (s.wh x).count (w : Int) = if w < k /\ bG ts w then kc ts w x else 0
 fd : s.fd.Nodup /\ ∀ w ∈ s.fd, 0 <= w /\ w < (k : Int) /\ ¬ bG ts w.toNat
 fda : ∀ r, r < k -> ¬ bG ts r -> (r : Int) ∈ s.fd
theorem kS (row : Nat) : ∀ (l : List Int) (W : Nat -> List Int), (∀ k ∈ l, 0 <= k) -> ∀ x (w : Int), (iU row l W x).count w = (W x).count w + if w = row then l.count (x : Int) else 0
 | [], W, _, x, w => by simp [iU]
 | k :: r, W, h, x, w => by
  rw [iU, kS row r _ (fun j hj => h j (List.mem_cons_of_mem _ hj))]
  have hk := h k List.mem_cons_self
  by_cases hx : x = k.toNat
  ·subst hx
   rw [aU, List.count_append]
   have e : ((k.toNat : Nat) : Int) = k := by omega
   rw [List.count_cons, e]
   by_cases hw : w = row
   ·subst hw; simp; omega
   ·simp [hw]
    exact fun e2 => hw e2.symm
  ·rw [bg _ _ hx, List.count_cons]
   have : ¬ k = (x : Int) := by omega
   simp [this]
theorem oU (row : Nat) : ∀ (l : List Int) (W : Nat -> List Int) (x : Nat) (w : Int), w ∈ iU row l W x -> w ∈ W x ∨ w = row
 | [], W, x, w, h => .inl h
 | k :: r, W, x, w, h => by
  rw [iU] at h
  rcases oU row r _ x w h with h | h
  ·by_cases hx : x = k.toNat
   ·subst hx
    rw [aU] at h
    rcases List.mem_append.1 h with h | h
    ·exact .inl h
    ·exact .inr (by simpa using h)
   ·rw [bg _ _ hx] at h
    exact .inl h
  ·exact .inr h
theorem rX (ts : List CTy) : D1 ts 0 df0 := ⟨fun _ => rfl, fun r => by simp [df0], fun x w hw => by simp [df0] at hw, fun x w => by simp [df0], ⟨by simp [df0], fun w hw => by simp [df0] at hw⟩, fun r hr => by omega⟩
theorem gP {ts : List CTy} {k : Nat} (h : k < ts.length) : tyA ts k = ts[k] := by
 unfold tyA
 rw [List.getD_eq_getElem?_getD, List.getElem?_eq_getElem h]
 rfl
theorem D1.step {ts : List CTy} {k : Nat} {s : DfS} (h : D1 ts k s) (hv : TsV ts) (hk : k < ts.length) : D1 ts (k + 1) (df1 ts[k] k s) := by
 rw [← gP hk]
 unfold df1
 by_cases ht : (tyA ts k).kind = 4
 ·rw [if_pos ht]
  have htu : bG ts k := ht
  refine ⟨h.has, fun r => ?_, fun x w hw => ?_, fun x w => ?_, ⟨h.fd.1, fun w hw => ?_⟩, fun r hr hn => ?_⟩
  ·by_cases hr : r = k
   ·subst hr
    show fup _ _ _ _ = _
    rw [aU, if_pos ⟨by omega, htu⟩]
   ·show fup _ _ _ _ = _
    rw [bg _ _ hr, h.ms]
    by_cases h2 : bG ts r
    ·by_cases h3 : r < k
     ·rw [if_pos ⟨h3, h2⟩, if_pos ⟨by omega, h2⟩]
     ·rw [if_neg fun e => h3 e.1, if_neg fun e => by omega]
    ·rw [if_neg fun e => h2 e.2, if_neg fun e => h2 e.2]
  ·rcases oU k _ _ x w hw with e | e
   ·have := h.whr x w e
    exact ⟨this.1, by omega, this.2.2⟩
   ·subst e
    exact ⟨by omega, by omega, by simpa using htu⟩
  ·show (iU k _ _ x).count _ = _
   rw [kS k _ _ (fun j hj => (hv.kids k j hj).1), h.whc]
   by_cases hw : w = k
   ·subst hw
    rw [if_neg (by omega), if_pos rfl, if_pos ⟨by omega, htu⟩]
    simp [kc]
   ·rw [if_neg (show ¬ (w : Int) = (k : Int) by omega)]
    by_cases h2 : bG ts w
    ·by_cases h3 : w < k
     ·rw [if_pos ⟨h3, h2⟩, if_pos ⟨by omega, h2⟩]; rfl
     ·rw [if_neg fun e => h3 e.1, if_neg fun e => by omega]
    ·rw [if_neg fun e => h2 e.2, if_neg fun e => h2 e.2]
  ·have := h.fd.2 w hw
   exact ⟨this.1, by omega, this.2.2⟩
  ·by_cases e : r = k
   ·subst e; exact absurd htu hn
   ·exact h.fda r (by omega) hn
 ·rw [if_neg ht]
  have htu : ¬ bG ts k := ht
  refine ⟨h.has, fun r => ?_, fun x w hw => ?_, fun x w => ?_, ⟨?_, fun w hw => ?_⟩, fun r hr hn => ?_⟩
  ·show s.ms r = _
   rw [h.ms]
   by_cases h2 : bG ts r
   ·by_cases h3 : r < k
    ·rw [if_pos ⟨h3, h2⟩, if_pos ⟨by omega, h2⟩]
    ·rw [if_neg fun e => h3 e.1, if_neg fun e => by
      have : r = k := by omega
      subst this
      exact htu h2]
   ·rw [if_neg fun e => h2 e.2, if_neg fun e => h2 e.2]
  ·have := h.whr x w hw
   exact ⟨this.1, by omega, this.2.2⟩
  ·show (s.wh x).count _ = _
   rw [h.whc]
   by_cases h2 : bG ts w
   ·by_cases h3 : w < k
    ·rw [if_pos ⟨h3, h2⟩, if_pos ⟨by omega, h2⟩]
    ·rw [if_neg fun e => h3 e.1, if_neg fun e => by
      have : w = k := by omega
      subst this
      exact htu h2]
   ·rw [if_neg fun e => h2 e.2, if_neg fun e => h2 e.2]
  ·show (s.fd ++ [(k : Int)]).Nodup
   rw [List.nodup_append]
   refine ⟨h.fd.1, by simp, fun a ha b hb => ?_⟩
   have := h.fd.2 a ha
   simp at hb
   omega
  ·rcases List.mem_append.1 hw with e | e
   ·have := h.fd.2 w e
    exact ⟨this.1, by omega, this.2.2⟩
   ·simp at e
    subst e
    exact ⟨by omega, by omega, by simpa using htu⟩
  ·by_cases e : r = k
   ·subst e; exact List.mem_append.2 (.inr (by simp))
   ·exact List.mem_append.2 (.inl (h.fda r (by omega) hn))
theorem eH : ∀ (n : Nat) (l : List Int), l.Nodup -> (∀ x ∈ l, 0 <= x /\ x < (n : Int)) -> l.length <= n
 | 0, l, _, h => by
  cases l with
  | nil => simp
  | cons a r => have := h a List.mem_cons_self; omega
 | n + 1, l, hd, h => by
  by_cases hm : (n : Int) ∈ l
  ·have h1 := eH n (l.erase n) (hd.erase _) fun x hx => by
    have h2 := (List.Nodup.mem_erase_iff hd).1 hx
    have := h x h2.2
    omega
   rw [List.length_erase_of_mem hm] at h1
   omega
  ·have h1 := eH n l hd fun x hx => by
    have h2 := h x hx
    have : x ≠ n := fun e => hm (e ▸ hx)
    omega
   omega
def cN (ts : List CTy) (has : Nat -> Bool) (w : Nat) : Nat := (tyA ts w).kids.countP fun k => !has k.toNat
structure D3 (ts : List CTy) (has : Nat -> Bool) (rem : List Int) (ms : Nat -> Int) (fd : List Int) : Prop where
 em : ∀ w, ms w = if bG ts w then (cN ts has w : Int) + rem.count (w : Int) else 0
 rr : ∀ w ∈ rem, 0 <= w /\ w < (ts.length : Int) /\ bG ts w.toNat
 nd : fd.Nodup
 ef : ∀ w ∈ fd, 0 <= w /\ w < (ts.length : Int) /\ has w.toNat = false /\ ms w.toNat = 0
 hm : ∀ w, has w = true -> ms w = 0
theorem D3.step {ts : List CTy} {has : Nat -> Bool} {w : Int} {rem : List Int} {ms : Nat -> Int} {fd : List Int} (h : D3 ts has (w :: rem) ms fd) : D3 ts has rem (fup ms w.toNat (ms w.toNat - 1)) (if ms w.toNat - 1 = 0 then fd ++ [w] else fd) /\ 1 <= ms w.toNat /\ ms w.toNat <= cN ts has w.toNat + (w :: rem).length := by
 obtain ⟨r1, r2, r3⟩ := h.rr w List.mem_cons_self
 have hw : ((w.toNat : Nat) : Int) = w := by omega
 have hmw := h.em w.toNat
 rw [if_pos r3, hw, List.count_cons_self] at hmw
 have hcl := List.count_le_length (a := w) (l := rem)
 refine ⟨⟨fun v => ?_, fun v hv => h.rr v (List.mem_cons_of_mem _ hv), ?_, fun v hv => ?_, fun v hv => ?_⟩, by omega, by simp; omega⟩
 ·by_cases hv : v = w.toNat
  ·subst hv
   rw [aU, if_pos r3, hw]
   omega
  ·rw [bg _ _ hv, h.em v]
   have : ¬ w = (v : Int) := by omega
   rw [List.count_cons]
   simp [this]
 ·split
  ·rename_i h0
   rw [List.nodup_append]
   refine ⟨h.nd, by simp, fun a ha b hb => ?_⟩
   simp at hb
   intro e
   have := (h.ef a ha).2.2.2
   rw [e, hb] at this
   omega
  ·exact h.nd
 ·have hold : v ∈ fd -> 0 <= v /\ v < (ts.length : Int) /\ has v.toNat = false /\ fup ms w.toNat (ms w.toNat - 1) v.toNat = 0 := fun hv => by
   obtain ⟨a1, a2, a3, a4⟩ := h.ef v hv
   refine ⟨a1, a2, a3, ?_⟩
   rw [bg _ _ (fun e => by rw [e] at a4; omega)]
   exact a4
  split at hv
  ·rename_i h0
   rcases List.mem_append.1 hv with e | e
   ·exact hold e
   ·simp at e
    subst e
    refine ⟨r1, r2, ?_, by rw [aU]; exact h0⟩
    cases hh : has v.toNat with
    | false => rfl
    | true => have := h.hm _ hh; omega
  ·exact hold hv
 ·have h0 := h.hm v hv
  rw [bg _ _ (fun e => by rw [e] at h0; omega)]
  exact h0
structure D2 (ts : List CTy) (s : DfS) : Prop where
 whr : ∀ x, ∀ w ∈ s.wh x, 0 <= w /\ w < (ts.length : Int) /\ bG ts w.toNat
 whc : ∀ (x w : Nat), (s.wh x).count (w : Int) = if w < ts.length /\ bG ts w then kc ts w x else 0
 d3 : D3 ts s.has [] s.ms s.fd
theorem xe {ts : List CTy} {w : Nat} (h : bG ts w) : w < ts.length := by
 rcases Nat.lt_or_ge w ts.length with e | e
 ·exact e
 ·unfold bG tyA at h
  rw [List.getD_eq_getElem?_getD, List.getElem?_eq_none e] at h
  simp [tyD] at h
theorem D1.two {ts : List CTy} {s : DfS} (h : D1 ts ts.length s) : D2 ts s := by
 refine ⟨h.whr, h.whc, ⟨fun w => ?_, fun w hw => by simp at hw, h.fd.1, fun w hw => ?_, fun w hw => ?_⟩⟩
 ·rw [h.ms]
  by_cases ht : bG ts w
  ·rw [if_pos ⟨xe ht, ht⟩, if_pos ht]
   have : cN ts s.has w = (tyA ts w).kids.length := by
    unfold cN
    rw [List.countP_eq_length]
    intro k hk
    simp [h.has]
   rw [this]
   simp
  ·rw [if_neg fun e => ht e.2, if_neg ht]
 ·obtain ⟨a1, a2, a3⟩ := h.fd.2 w hw
  refine ⟨a1, a2, h.has _, ?_⟩
  rw [h.ms, if_neg fun e => a3 e.2]
 ·rw [h.has] at hw
  cases hw
theorem zI {ts : List CTy} (hv : TsV ts) {has : Nat -> Bool} {x : Nat} (hx : has x = false) (w : Nat) : cN ts has w = cN ts (fup has x true) w + kc ts w x := by
 unfold cN kc
 have hk := hv.kids w
 generalize (tyA ts w).kids = l at *
 induction l with
 | nil => rfl
 | cons k r ih =>
  have h0 := hk k List.mem_cons_self
  have := ih fun j hj => hk j (List.mem_cons_of_mem _ hj)
  rw [List.countP_cons, List.countP_cons, List.count_cons, this]
  by_cases hkx : k.toNat = x
  ·have e : k = (x : Int) := by omega
   subst e
   simp [fup, hx]
   omega
  ·have e : ¬ k = (x : Int) := by omega
   simp [fup, hkx, e]
   omega
theorem D2.pop {ts : List CTy} {s : DfS} (h : D2 ts s) (hv : TsV ts) {rest : List Int} {x : Int} (hf : s.fd = rest ++ [x]) : 0 <= x /\ x < (ts.length : Int) /\ s.has x.toNat = false /\ D3 ts (fup s.has x.toNat true) (s.wh x.toNat) s.ms rest := by
 have hx : x ∈ s.fd := by rw [hf]; simp
 obtain ⟨a1, a2, a3, a4⟩ := h.d3.ef x hx
 have hnd := h.d3.nd
 rw [hf, List.nodup_append] at hnd
 have hxe : ((x.toNat : Nat) : Int) = x := by omega
 refine ⟨a1, a2, a3, ⟨fun w => ?_, h.whr _, hnd.1, fun w hw => ?_, fun w hw => ?_⟩⟩
 ·have e1 := h.d3.em w
  rw [e1]
  by_cases ht : bG ts w
  ·rw [if_pos ht, if_pos ht, zI hv a3 w, h.whc, if_pos ⟨xe ht, ht⟩]
   simp
  ·rw [if_neg ht, if_neg ht]
 ·obtain ⟨b1, b2, b3, b4⟩ := h.d3.ef w (by rw [hf]; exact List.mem_append.2 (.inl hw))
  refine ⟨b1, b2, ?_, b4⟩
  have : w ≠ x := hnd.2.2 w hw x (by simp)
  rw [bg _ _ (by omega)]
  exact b3
 ·by_cases e : w = x.toNat
  ·subst e; exact a4
  ·rw [bg _ _ e] at hw
   exact h.d3.hm w hw
def cH (n : Nat) (has : Nat -> Bool) : Nat := (List.range n).countP fun i => !has i
theorem xf {n x : Nat} {has : Nat -> Bool} (hx : x < n) (h : has x = false) : cH n has = cH n (fup has x true) + 1 :=
 je hx (by simp [h]) (by simp [fup]) fun j hj => by simp [fup, hj]
theorem AF (n : Nat) (has : Nat -> Bool) : cH n has <= n := by
 have := List.countP_le_length (p := fun i => !has i) (l := List.range n)
 simpa [cH] using this
theorem xg {ts : List CTy} {s : DfS} (hv : TsV ts) (h : D2 ts s) {rest : List Int} {x : Int} (hf : s.fd = rest ++ [x]) (f : Nat) : fB (f + 1) s = fB f (df2 s x.toNat rest) := by
 rw [fB, hf]
 simp
theorem xh {s : DfS} (hf : s.fd = []) (f : Nat) : fB f s = s := by
 cases f with
 | zero => rfl
 | succ f => rw [fB, hf]; rfl
end Go.Proofs.YtadmpgegolmkgaaDoor
namespace Go.Proofs.YtadmpgegolmkgaaDoor
open Go.RowKit
def dV (n : Nat) (f : Nat -> Value) : Array Value := ((List.range n).map f).toArray
theorem gJ (n : Nat) (f : Nat -> Value) : (dV n f).size = n := by simp [dV]
theorem fE {n : Nat} {f : Nat -> Value} {i : Nat} (h : i < n) : (dV n f)[i]? = some (f i) := by simp [dV, h]
theorem jh {n : Nat} {f : Nat -> Value} {i : Nat} (h : i < n) (v : Value) : (dV n f).setIfInBounds i v = dV n (fup f i v) := by
 apply Array.ext_getElem?
 intro j
 by_cases hj : j < n
 ·rw [fE hj]
  by_cases e : i = j
  ·subst e
   rw [Array.getElem?_setIfInBounds_self, gJ, if_pos h, aU]
  ·rw [Array.getElem?_setIfInBounds_ne e, fE hj, bg _ _ (fun q => e q.symm)]
 ·rw [Array.getElem?_eq_none (by simp [gJ]; omega), Array.getElem?_eq_none (by rw [gJ]; omega)]
theorem kT (z : Value) (n : Nat) : madeCells #[z] n = dV n fun _ => z := by
 apply Array.ext_getElem?
 intro j
 by_cases hj : j < n
 ·rw [fE hj]
  simp [madeCells, hj, Nat.mod_one]
 ·rw [Array.getElem?_eq_none (by rw [size_madeCells]; omega), Array.getElem?_eq_none (by rw [gJ]; omega)]
theorem gQ : (Tryd.prog.info? 3).map (fun i => (i.zero, i.size, i.bytes)) = some (some (.int .i64 0), 1, 8) := by kernel_rfl
theorem xk : (Tryd.prog.info? 4).map (fun i => (i.zero, i.size, i.bytes)) = some (some (.bool false), 1, 1) := by kernel_rfl
theorem zJ : (Tryd.prog.info? 32).map (fun i => (i.zero, i.size, i.bytes)) = some (some (.slice none 0 0), 1, 24) := by kernel_rfl
theorem zK (w : World) (n : Nat) (hn : n <= 2147483648) : (Instr.makeSlice 41 (.int .i64 n) (.int .i64 n)).run Tryd.prog w = .ok (.slice (some ⟨w.heap.size, 0, none⟩) n n) (w.alloc (.cells (dV n fun _ => .bool false) 4)) := by
 obtain ⟨i0, hi, hz0, hz1, hz2⟩ := info_parts xk
 have := run_make (P := Tryd.prog) w 41 4 i0 (.bool false) Tryd.underlying41 hi hz0 .i64 .i64 n n (by omega) (by omega) (by rw [hz2]; omega) (by omega)
 rw [hz1] at this
 rw [← kT]
 simpa [Value.cells] using this
theorem rY (w : World) (n : Nat) (hn : n <= 2147483648) : (Instr.makeSlice 32 (.int .i64 n) (.int .i64 n)).run Tryd.prog w = .ok (.slice (some ⟨w.heap.size, 0, none⟩) n n) (w.alloc (.cells (dV n fun _ => .int .i64 0) 3)) := by
 obtain ⟨i0, hi, hz0, hz1, hz2⟩ := info_parts gQ
 have := run_make (P := Tryd.prog) w 32 3 i0 (.int .i64 0) Tryd.underlying32 hi hz0 .i64 .i64 n n (by omega) (by omega) (by rw [hz2]; omega) (by omega)
 rw [hz1] at this
 rw [← kT]
 simpa [Value.cells] using this
theorem zL (w : World) (n : Nat) (hn : n <= 2147483648) : (Instr.makeSlice 103 (.int .i64 n) (.int .i64 n)).run Tryd.prog w = .ok (.slice (some ⟨w.heap.size, 0, none⟩) n n) (w.alloc (.cells (dV n fun _ => .slice none 0 0) 32)) := by
 obtain ⟨i0, hi, hz0, hz1, hz2⟩ := info_parts zJ
 have := run_make (P := Tryd.prog) w 103 32 i0 (.slice none 0 0) Tryd.underlying103 hi hz0 .i64 .i64 n n (by omega) (by omega) (by rw [hz2]; omega) (by omega)
 rw [hz1] at this
 rw [← kT]
 simpa [Value.cells] using this
def bn (l : List Int) : List Value := l.map (Value.int .i64)
structure Fam (W : World) (base m : Nat) (va : Nat -> Value) (S : Nat -> List Int) : Prop where
 own : ∀ r, r < m -> W.ownsRow base 3 1 (va r) (S r).length (bn (S r))
 ne : ∀ r r', r < m -> r' < m -> r ≠ r' -> ∀ g, (va r).ownBlock = some g -> (va r').ownBlock ≠ some g
theorem Fam.same {W W' : World} {base m : Nat} {va : Nat -> Value} {S : Nat -> List Int} (h : Fam W base m va S) (hb : ∀ k, base <= k -> k < W.heap.size -> W'.heap[k]? = W.heap[k]?) : Fam W' base m va S :=
 ⟨fun r hr => cO (h.own r hr) hb, h.ne⟩
theorem Fam.slice {W : World} {base m : Nat} {va : Nat -> Value} {S : Nat -> List Int} (h : Fam W base m va S) {r : Nat} (hr : r < m) : ∃ a c, va r = .slice a (S r).length c := aN (h.own r hr)
theorem Fam.push {W : World} {base m : Nat} {va : Nat -> Value} {S : Nat -> List Int} (h : Fam W base m va S) {r : Nat} (hr : r < m) (hB : base <= W.heap.size) (x : Int) (hn : (S r).length <= 4294967296) :
  ∃ g c W3, (∀ ty, (Builtin.append_ #[32, 32] ty #[va r, .slice (some ⟨W.heap.size, 0, none⟩) 1 1]).run Tryd.prog (W.alloc (.cells #[.int .i64 x] 3)) = .ok (.slice (some ⟨g, 0, none⟩) ((S r).length + 1) c) W3) /\ Bx (Fam W3 base m (fup va r (.slice (some ⟨g, 0, none⟩) ((S r).length + 1) c)) (fup S r (S r ++ [x])) /\ W.grownBy W3 (va r).ownBlock /\ ∀ k, k < base -> W3.heap[k]? = W.heap[k]?) := by
 obtain ⟨i0, hi, hz0, hz1, hz2⟩ := info_parts gQ
 obtain ⟨g, c, W3, r1, r2, r3, r4, r5⟩ := app1 (t := 32) Tryd.underlying32 hi hz0 hz1 hz2 rfl (by decide) W base (va r) (S r).length (bn (S r)) (h.own r hr) #[.int .i64 x] rfl (by intro u hu; simp at hu; subst hu; rfl) (by unfold maxLen; omega) (by omega) hB
 have hlow : ∀ k, k < base -> W3.heap[k]? = W.heap[k]? := fun k hk => r3.block k (by omega) fun e => by
  have := vL (h.own r hr) k e.symm
  omega
 refine ⟨g, c, W3, r1, ⟨⟨fun q hq => ?_, fun q q' hq hq' hne g' hg => ?_⟩, r3, hlow⟩⟩
 ·by_cases e : q = r
  ·subst e
   rw [aU, aU]
   have e2 : bn (S q ++ [x]) = bn (S q) ++ (#[Value.int .i64 x] : Array Value).toList := by simp [bn]
   rw [e2, List.length_append]
   exact r2
  ·rw [bg _ _ e, bg _ _ e]
   exact bS (h.own q hq) fun y o hy ho => dF r3 ho fun eq => h.ne q r hq hr e y hy eq
 ·by_cases e : q = r
  ·subst e
   rw [aU] at hg
   rw [bg _ _ (fun e2 => hne e2.symm)]
   simp only [Value.ownBlock, Option.some.injEq] at hg
   subst hg
   rcases r5 with e5 | e5
   ·exact h.ne q q' hr hq' hne g e5
   ·intro hg'
    have := aD (h.own q' hq') hg'
    omega
  ·rw [bg _ _ e] at hg
   by_cases e' : q' = r
   ·subst e'
    rw [aU]
    simp only [Value.ownBlock, ne_eq, Option.some.injEq]
    intro eg
    subst eg
    rcases r5 with e5 | e5
    ·exact h.ne q q' hq hr e g hg e5
    ·have := aD (h.own q hq) hg
     omega
   ·rw [bg _ _ e']
    exact h.ne q q' hq hq' hne g' hg
theorem Fam.pop {W : World} {base m : Nat} {va : Nat -> Value} {S : Nat -> List Int} (h : Fam W base m va S) {r : Nat} (hr : r < m) {rest : List Int} {x : Int} (hs : S r = rest ++ [x]) : ∃ g c, va r = .slice (some ⟨g, 0, none⟩) (rest.length + 1) c /\ rest.length + 1 <= c /\ W.cell? ⟨g, rest.length, none⟩ = some (.int .i64 x) /\ g < W.heap.size /\ Fam W base m (fup va r (.slice (some ⟨g, 0, none⟩) rest.length c)) (fup S r rest) := by
 have ho := h.own r hr
 rw [hs] at ho
 have hl : (rest ++ [x]).length = rest.length + 1 := by simp
 rw [hl] at ho
 obtain ⟨a, c, e⟩ := aN ho
 have ho2 := ho
 rcases ho.2 with ⟨e1, e2⟩ | ⟨g, cap, cur, e1, hg, hb, hcap, _⟩
 ·omega
 ·rw [e1] at ho
  have hi : bn (rest ++ [x]) = bn rest ++ [.int .i64 x] := by simp [bn]
  refine ⟨g, cap, e1, hcap, dA ho (by rw [hi, List.getElem?_append_right (by simp [bn])]; simp [bn]), (Array.getElem?_eq_some_iff.1 hb).1, ⟨fun q hq => ?_, fun q q' hq hq' hne g' hg' => ?_⟩⟩
  ·by_cases e : q = r
   ·subst e
    rw [aU, aU]
    rw [hi] at ho
    exact oh ho (by simp [bn]) (by omega)
   ·rw [bg _ _ e, bg _ _ e]
    exact h.own q hq
  ·have hq1 : ∀ q, (fup va r (.slice (some ⟨g, 0, none⟩) rest.length cap) q).ownBlock = (va q).ownBlock := fun q => by
    by_cases e : q = r
    ·subst e; rw [aU, e1]; rfl
    ·rw [bg _ _ e]
   rw [hq1] at hg' ⊢
   exact h.ne q q' hq hq' hne g' hg'
theorem Fam.cell {W : World} {base m : Nat} {va : Nat -> Value} {S : Nat -> List Int} (h : Fam W base m va S) {r : Nat} (hr : r < m) {i : Nat} (hi : i < (S r).length) : ∃ g c, va r = .slice (some ⟨g, 0, none⟩) (S r).length c /\ (S r).length <= c /\ g < W.heap.size /\ W.cell? ⟨g, i, none⟩ = some (.int .i64 (S r)[i]) := by
 have ho := h.own r hr
 rcases ho.2 with ⟨e1, e2⟩ | ⟨g, cap, cur, e1, hg, hb, hcap, _⟩
 ·omega
 ·rw [e1] at ho
  exact ⟨g, cap, e1, hcap, (Array.getElem?_eq_some_iff.1 hb).1, dA ho (by simp [bn, hi])⟩
end Go.Proofs.YtadmpgegolmkgaaDoor
