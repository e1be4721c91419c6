import Derived.Test.YtijdcplffmdijaaDoorCDHd
import Derived.Test.YtijdcplffmdijaaDoorCDFf
import Derived.Test.YtijdcplffmdijaaDoorCDFj
namespace Go.Proofs.YtijdcplffmdijaaDoor
open Go.RowKit
set_option linter.unusedVariables false
set_option linter.unusedSimpArgs false

def lists (u : CUn) : List (List Int) := u.types.map (·.kids) ++ u.progs.flatMap fun p => p.code.map (·.list)
/-- what lend answers, and leaves -/
structure Lent (w w' : World) (u : CUn) (pg tg pcap tcap : Nat) (cv iv : Value) : Prop where
  bel : Below w.heap.size w w'
  un : UnIn w' w'.heap.size (some ⟨pg, 0, none⟩) pcap (some ⟨tg, 0, none⟩) tcap u
  tys : OwnL TyC w' w.heap.size 54 3 (.slice (some ⟨tg, 0, none⟩) (u.types.length + 1) tcap) (u.types ++ [noTy])
  pgs : ∃ cut, OwnL (PgC w.heap.size cut) w' w.heap.size 57 5 (.slice (some ⟨pg, 0, none⟩) (u.progs.length + 1) pcap) (u.progs ++ [noPg])
  cds : ∃ cut, OwnL (SlC w.heap.size cut) w' w.heap.size 55 1 cv (u.progs.map (·.code))
  its : OwnL (SlI w.heap.size) w' w.heap.size 26 1 iv (lists u)
def LentA (w : World) (u : CUn) (e : Ending) (w' : World) : Prop := ∃ pg tg pcap tcap cv iv, e = .returned (.agg #[.slice (some ⟨pg, 0, none⟩) u.progs.length pcap, .slice (some ⟨tg, 0, none⟩) u.types.length tcap, .slice (some ⟨pg, 0, none⟩) (u.progs.length + 1) pcap, .slice (some ⟨tg, 0, none⟩) (u.types.length + 1) tcap, cv, iv]) ∧ Bx (Lent w w' u pg tg pcap tcap cv iv)
theorem flat_cnt : ∀ l : List CPg, (l.flatMap fun p => p.code.map (·.list)).length ≤ sumF (fun p : CPg => 1 + p.code.length) l
  | [] => by simp [sumF]
  | p :: l => by
    have := flat_cnt l
    rw [List.flatMap_cons, List.length_append, List.length_map, sumF]
    omega
theorem own_cap {α : Type} {R : World → α → List Value → Prop} {w : World} {B s : Nat} {e : TypeId} {g n cap : Nat} {l : List α} (h : OwnL R w B e s (.slice (some ⟨g, 0, none⟩) n cap) l) : n ≤ cap := by
  obtain ⟨cs, _, q⟩ := h.ex
  rcases q.2 with ⟨q, _⟩ | ⟨g', c', cur, q, _, _, q1, _⟩
  · cases q
  · injection q with _ q2 q3
    omega
theorem Kp.drew {P : Nat → TypeId → Prop} {a b : World} (h : Kp P a b) : Kp P a b.drew := ⟨h.size, h.blk⟩
theorem own_sl {α : Type} {R : World → α → List Value → Prop} {w : World} {B s : Nat} {e : TypeId} {v : Value} {l : List α} (h : OwnL R w B e s v l) : ∃ a m c, v = .slice a m c := by
  obtain ⟨cs, _, q⟩ := h.ex
  rcases q.2 with ⟨rfl, _⟩ | ⟨g', c', cur, rfl, _⟩
  · exact ⟨_, _, _, rfl⟩
  · exact ⟨_, _, _, rfl⟩
theorem six_set {X : World} {b : Nat} {C : Array Value} {e : TypeId} (h : X.heap[b]? = some (.cells C e (0, 0))) (v0 v1 v2 v3 v4 v5 : Value) : Kp (fun _ t => t ≠ e) X ((((((X.setCell ⟨b, 0, none⟩ v0).setCell ⟨b, 1, none⟩ v1).setCell ⟨b, 2, none⟩ v2).setCell ⟨b, 3, none⟩ v3).setCell ⟨b, 4, none⟩ v4).setCell ⟨b, 5, none⟩ v5) := by
  have e1 := heap_setCell_same _ b 0 _ _ v0 h
  have e2 := heap_setCell_same _ b 1 _ _ v1 e1
  have e3 := heap_setCell_same _ b 2 _ _ v2 e2
  have e4 := heap_setCell_same _ b 3 _ _ v3 e3
  have e5 := heap_setCell_same _ b 4 _ _ v4 e4
  exact (((((Kp.set h).trans (Kp.set e1)).trans (Kp.set e2)).trans (Kp.set e3)).trans (Kp.set e4)).trans (Kp.set e5)
theorem PgC.low {w : World} {B B' cut : Nat} (hb : B' ≤ B) (p : CPg) (c : List Value) (h : PgC B cut w p c) : PgC B' cut w p c := by
  obtain ⟨v, h1, h2, h3⟩ := h
  exact ⟨v, h1, h2.low hb, h3⟩
theorem SlC.low {w : World} {B B' cut : Nat} (hb : B' ≤ B) (l : List CIn) (c : List Value) (h : SlC B cut w l c) : SlC B' cut w l c := by
  obtain ⟨v, h1, h2, h3⟩ := h
  exact ⟨v, h1, h2.low hb, h3⟩
/-- at its end it is lent -/
theorem lent_fin {w X W : World} {B cut xb g1 g2 c1 c2 np nt : Nat} {cv iv : Value} {u : CUn} (h : LU X B cut xb (.slice (some ⟨g2, 0, none⟩) (np + 1) c2) (.slice (some ⟨g1, 0, none⟩) (nt + 1) c1) cv iv (u.progs ++ [noPg]) (u.types ++ [noTy]) (u.progs.map (·.code)) (u.types.map (·.kids) ++ u.progs.flatMap fun p => p.code.map (·.list))) (hB : w.heap.size ≤ B) (hk : Kp (fun _ t => t ≠ 41) X W) (hb : Below w.heap.size w W) (hp : np = u.progs.length) (ht : nt = u.types.length) : Lent w W u g2 g1 c2 c1 cv iv := by
  subst hp ht
  have t1 := h.tys.on (TyC.on hk fun _ => by decide) hk fun _ _ => by decide
  have i1 := h.its.on (SlI.on hk fun _ => by decide) hk fun _ _ => by decide
  have p1 := h.pgs.on (PgC.on hk (fun _ => by decide) fun _ _ => by decide) hk fun _ _ => by decide
  have d1 := h.cds.on (SlC.on hk (fun _ => by decide) fun _ _ => by decide) hk fun _ _ => by decide
  have p2 : OwnL (PgC w.heap.size cut) W w.heap.size 57 5 (.slice (some ⟨g2, 0, none⟩) (u.progs.length + 1) c2) (u.progs ++ [noPg]) := by
    obtain ⟨cs, a, b⟩ := p1.ex
    exact ⟨cs, a.mono (PgC.low hB), owns_low b hB⟩
  have d2 : OwnL (SlC w.heap.size cut) W w.heap.size 55 1 cv (u.progs.map (·.code)) := by
    obtain ⟨cs, a, b⟩ := d1.ex
    exact ⟨cs, a.mono (SlC.low hB), owns_low b hB⟩
  have i2 : OwnL (SlI w.heap.size) W w.heap.size 26 1 iv (lists u) := by
    obtain ⟨cs, a, b⟩ := i1.ex
    refine ⟨cs, a.mono ?_, owns_low b hB⟩
    rintro ks c ⟨g, cp, q1, q2, q3, q4⟩
    exact ⟨g, cp, q1, q2, by omega, q4⟩
  refine ⟨hb, ?_, t1.low hB, ⟨cut, p2⟩, ⟨cut, d2⟩, i2⟩
  obtain ⟨a, c, e, hr⟩ := (p2.pre pgC_len rfl).row pgC_len (pgAt_of (w := W))
  obtain ⟨a', c', e', hr'⟩ := (t1.pre tyC_len rfl).row tyC_len (tyAt_of (w := W))
  injection e with e1 _ e3
  injection e' with e1' _ e3'
  subst e1 e3 e1' e3'
  exact ⟨hr, hr'⟩
theorem szU_unS (u : CUn) : szU u ≤ unS u := by
  have h1 := sumF_len tS (fun t => by unfold tS; omega) u.types
  have h2 := sumF_le (fun p : CPg => 1 + p.code.length) pS 1 (fun p => by
    have := sumF_len iS (fun i => by unfold iS; omega) p.code
    unfold pS
    omega) u.progs
  unfold szU unS
  omega
set_option maxRecDepth 100000 in
set_option maxHeartbeats 8000000 in
theorem lend_any (w : World) (u : CUn) (pa ta : Option Addr) (pc tc : Nat) (hu : UnIn w w.heap.size pa pc ta tc u) (hs : unS u ≤ 2147483647) :
    Calls Tryd.prog 21 #[unV u pa pc ta tc] w (LentA w u) := by
  obtain ⟨Q, hQ⟩ : ∃ Q, Q = LentA w u := ⟨_, rfl⟩
  rw [← hQ]
  have HQ : Bx (∀ e w', LentA w u e w' → Q e w') := ⟨fun e w' h => by rw [hQ]; exact h⟩
  clear hQ
  have hsz := szU_unS u
  have hst := szU_types u
  have hsp := szU_progs u
  obtain ⟨H, hH⟩ : ∃ H, w.heap.size = H := ⟨_, rfl⟩
  obtain ⟨np, hnp⟩ : ∃ n, u.progs.length = n := ⟨_, rfl⟩
  obtain ⟨nt, hnt⟩ : ∃ n, u.types.length = n := ⟨_, rfl⟩
  obtain ⟨w1, hw1⟩ : ∃ X, w.alloc (.cells #[.slice pa np pc, .slice ta nt tc] 36) = X := ⟨_, rfl⟩
  have b1 : Below H w w1 := by rw [← hw1, ← hH]; exact below1 w _
  have s1 : w1.heap.size = H + 1 := by rw [← hw1, ← hH]; simp
  have i1 : w1.heap[H]? = some (.cells #[.slice pa np pc, .slice ta nt tc] 36 (0, 0)) := by rw [← hw1]; exact heap_newH w _ H hH
  obtain ⟨w2, hw2⟩ : ∃ X, w1.alloc (.cells #[.slice none 0 0, .slice none 0 0, .slice none 0 0, .slice none 0 0, .slice none 0 0, .slice none 0 0] 41) = X := ⟨_, rfl⟩
  have b2 : Below (H + 1) w1 w2 := by rw [← hw2, ← s1]; exact below1 w1 _
  have s2 : w2.heap.size = H + 2 := by rw [← hw2]; simp; omega
  have i2 : w2.heap[H + 1]? = some (.cells #[.slice none 0 0, .slice none 0 0, .slice none 0 0, .slice none 0 0, .slice none 0 0, .slice none 0 0] 41 (0, 0)) := by rw [← hw2]; exact heap_newH w1 _ _ s1
  obtain ⟨w3, hw3⟩ : ∃ X, w2.alloc (.cells #[.slice none 0 0, .slice none 0 0, .slice none 0 0, .slice none 0 0, .slice none 0 0, .slice none 0 0] 41) = X := ⟨_, rfl⟩
  have b3 : Below (H + 2) w2 w3 := by rw [← hw3, ← s2]; exact below1 w2 _
  have s3 : w3.heap.size = H + 3 := by rw [← hw3]; simp; omega
  have i3 : w3.heap[H + 2]? = some (.cells #[.slice none 0 0, .slice none 0 0, .slice none 0 0, .slice none 0 0, .slice none 0 0, .slice none 0 0] 41 (0, 0)) := by rw [← hw3]; exact heap_newH w2 _ _ s2
  have HF : Bx (∀ X, Below (H + 2) w3 X → (X.cell? ⟨H, 0, none⟩ = some (.slice pa np pc) ∧ X.cell? ⟨H, 1, none⟩ = some (.slice ta nt tc) ∧ H < X.heap.size ∧ H + 1 < X.heap.size) ∧ X.heap[H + 1]? = some (.cells #[.slice none 0 0, .slice none 0 0, .slice none 0 0, .slice none 0 0, .slice none 0 0, .slice none 0 0] 41 (0, 0)) ∧ Below H w X ∧ UnIn X H pa pc ta tc u) := ⟨fun X hX => by
    have e1 : X.heap[H]? = some (.cells #[.slice pa np pc, .slice ta nt tc] 36 (0, 0)) := by rw [hX.block H (by omega), b3.block H (by omega), b2.block H (by omega)]; exact i1
    have e2 : X.heap[H + 1]? = some (.cells #[.slice none 0 0, .slice none 0 0, .slice none 0 0, .slice none 0 0, .slice none 0 0, .slice none 0 0] 41 (0, 0)) := by rw [hX.block (H + 1) (by omega), b3.block (H + 1) (by omega)]; exact i2
    have bw : Below H w X := ((b1.trans (b2.mono (by omega))).trans (b3.mono (by omega))).trans (hX.mono (by omega))
    exact ⟨⟨cell_blk e1 rfl, cell_blk e1 rfl, (Array.getElem?_eq_some_iff.1 e1).1, (Array.getElem?_eq_some_iff.1 e2).1⟩, e2, bw, hu.below (by rw [hH]; exact bw) (Nat.le_of_eq hH)⟩⟩
  have L0 : Bx (LU w3 (H + 2) (H + 2) (H + 2) (.slice none 0 0) (.slice none 0 0) (.slice none 0 0) (.slice none 0 0) [] [] [] [] ∧ Below (H + 2) w3 w3) := ⟨⟨i3, OwnL.nil _ _ _ _ _, OwnL.nil _ _ _ _ _, OwnL.nil _ _ _ _ _, OwnL.nil _ _ _ _ _, by omega⟩, Below.refl _ _⟩
  have HNP : Bx _ := ⟨hnp⟩
  have HNT : Bx _ := ⟨hnt⟩
  have HSZ : Bx (szU u ≤ 2147483647) := ⟨by omega⟩
  have HUS : Bx (unS u ≤ 2147483647) := ⟨hs⟩
  have hntb : nt ≤ 2147483647 := by omega
  have hnpb : np ≤ 2147483647 := by omega
  have S3 : Bx (w3.heap.size = H + 3) := ⟨s3⟩
  show Calls Tryd.prog 21 #[.agg #[.slice pa u.progs.length pc, .slice ta u.types.length tc]] w Q
  rw [hnp, hnt]
  have HW3 : Bx _ := ⟨hw3⟩
  clear hu hs b1 b2 b3 i1 i2 i3 hsz hst hsp hnp hnt s3 hw3
  go_enter Tryd.func21, Tryd.ntmps21
  go_wp2
  rw [HW3.out]
  clear hw1 hw2 HW3 s1 s2
  go_loopw [4] (fun x wr => ∃ (i : Nat) (tv iv : Value), i ≤ nt ∧ x = .int .i64 i ∧ Bx (LU wr (H + 2) (H + 2) (H + 2) (.slice none 0 0) tv (.slice none 0 0) iv [] (u.types.take i) [] ((u.types.take i).map (·.kids)) ∧ Below (H + 2) w3 wr)) (fun x _ => nt - (intOf x).toNat)
  case atStart => exact ⟨0, _, _, Nat.zero_le _, rfl, L0⟩
  case round =>
    obtain ⟨i, tv, iv, hi, rfl, HS⟩ := hrel
    clear L0
    obtain ⟨⟨y0, y1, y2, y3⟩, _, _, hun⟩ := HF.out wr HS.out.2
    by_cases hlt : i < nt
    · have hi' : i < u.types.length := by have := HNT.out; omega
      obtain ⟨b, o, rfl, hbl, hj⟩ := hun.types.at_ (by omega)
      obtain ⟨ka, kc, p0, p1, p2, p3⟩ := (hj i hi').ex
      have hlen : (u.types.take i).length = i := by rw [List.length_take]; omega
      have hkt : u.types.take (i + 1) = u.types.take i ++ [u.types[i]] := List.take_succ_eq_append_getElem hi'
      have hsu := sumF_take tS u.types i hi'
      have hus : sumF tS u.types ≤ 2147483647 := by have := HUS.out; unfold unS at this; omega
      generalize u.types[i] = t at *
      have hts : tS t = 40 + 21 * t.kids.length := rfl
      obtain ⟨n, hn⟩ : ∃ n, t.kids.length = n := ⟨_, rfl⟩
      rw [hn] at p1
      obtain ⟨Hh, hHh⟩ : ∃ Hh, wr.heap.size = Hh := ⟨_, rfl⟩
      have HLI : Bx (Calls Tryd.prog 14 #[.slice ka n kc] (wr.alloc (.cells #[.int .i64 t.kind, .slice ka n kc, .bool t.res] 54)) fun e w' => ∃ g c, e = .returned (.slice (some ⟨g, 0, none⟩) (n + 2) c) ∧ Bx (IK w' (some ⟨g, 0, none⟩) c (t.kids ++ [-77, -78]) ∧ Below (Hh + 1) (wr.alloc (.cells #[.int .i64 t.kind, .slice ka n kc, .bool t.res] 54)) w' ∧ Hh + 1 ≤ g ∧ IlK w' g)) := ⟨by
        have := lentInts_ik (wr.alloc (.cells #[.int .i64 t.kind, .slice ka n kc, .bool t.res] 54)) H ka kc t.kids (p3.below ((below1 wr _).mono (by omega))) (by simp; omega) (by rw [hn]; omega)
        rw [hn] at this
        refine Calls.mono this ?_
        rintro e w' ⟨g, c, rfl, h⟩
        exact ⟨g, c, rfl, ⟨h.out.1, h.out.2.1.mono (by simp; omega), by have := h.out.2.2.1; simp at this; omega, h.out.2.2.2⟩⟩⟩
      have hlen2 : ((u.types.take i).map (·.kids)).length = i := by rw [List.length_map]; exact hlen
      have HST : Bx (∀ X tv' iv', LU X (H + 2) (H + 2) (H + 2) (.slice none 0 0) tv' (.slice none 0 0) iv' [] (u.types.take i ++ [t]) [] ((u.types.take i).map (·.kids) ++ [t.kids]) ∧ Below (H + 2) wr X → LU X (H + 2) (H + 2) (H + 2) (.slice none 0 0) tv' (.slice none 0 0) iv' [] (u.types.take (i + 1)) [] ((u.types.take (i + 1)).map (·.kids)) ∧ Below (H + 2) w3 X) := ⟨fun X tv' iv' h => by
        rw [hkt, List.map_append]
        exact ⟨h.1, HS.out.2.trans h.2⟩⟩
      have hHB : H + 2 ≤ wr.heap.size := by have := HS.out.1.cut_; exact this
      have q1 : (i : Int) < (nt : Int) := by omega
      have f2 : (n : Int) + 2 - 2 = (n : Int) := by omega
      have hnb : n ≤ 2147483647 := by omega
      clear hun hj p3 hkt hsu hus hts hi'
      go_wp2_with (first
        | (go_at_call 14; refine HLI.out.mono ?_; clear HLI; rintro e w2 ⟨g, c, rfl, HX⟩
           have LT := lend_type HS.out.1 hHB (Nat.le_refl _) hHh (by rw [hlen]; omega) (by rw [hlen2]; omega) t ka kc n hn w2 g c HX.out.2.1 HX.out.1 ⟨by have := HX.out.2.2.1; omega, HX.out.2.2.2⟩
           rw [hlen, hlen2] at LT
           have hcg : n + 2 ≤ c := (by have := HX.out.1.cap; rw [List.length_append, hn] at this; exact this)
           obtain ⟨⟨a1, a2, a3⟩, X3, hX3, ⟨a4, a5⟩, X4, hX4, g5, c5, X5, r5, ⟨a6, a7, a8⟩, X6, hX6, ⟨a9, a10, a11, a12, a13, a14⟩, X7, hX7, g8, c8, X8, r8, ⟨a15, a16, a17⟩, HN⟩ := LT)
        | (at_builtin; refine wpList_appI rfl (.tmp 36) (.tmp 38) 39 rfl rfl rfl r5 ?_; clear r5)
        | (at_builtin; refine wpList_appI rfl (.tmp 42) (.tmp 44) 34 rfl rfl rfl r8 ?_; clear r8))
      go_roundw
      case rel => exact ⟨i + 1, _, _, by omega, by go_num, ⟨HST.out _ _ _ HN.out⟩⟩
      case measure => simp [intOf]; omega
    · have hie : i = nt := by omega
      subst hie
      have h := HS.out
      rw [List.take_of_length_le (by have := HNT.out; omega)] at h
      have hlen : u.types.length = i := HNT.out
      have hHB : H + 2 ≤ wr.heap.size := h.1.cut_
      obtain ⟨a1, a2, g1, c1, X1, r1, L1, S1⟩ := tys_step h.1 hHB (Nat.le_refl _) (by omega) noTy none 0 (IK.nil _ _ _)
      rw [hlen] at r1 L1 S1
      have a3 := S1.cell
      have a4 := S1.froz
      have a5 := S1.lt
      have r1' : ∀ ty, (Builtin.append_ #[34, 34] ty #[tv, .slice (some ⟨wr.heap.size, 0, none⟩) 1 1]).run Tryd.prog (wr.alloc (.cells #[.int .i64 (-9), .slice none 0 0, .bool false] 54)) = .ok (.slice (some ⟨g1, 0, none⟩) (i + 1) c1) X1 := r1
      obtain ⟨X2, hX2⟩ : ∃ X, X1.setCell ⟨H + 2, 3, none⟩ (.slice (some ⟨g1, 0, none⟩) (i + 1) c1) = X := ⟨_, rfl⟩
      rw [hX2] at L1 S1
      have L2 : Bx (LU X2 (H + 2) (H + 2) (H + 2) (.slice none 0 0) (.slice (some ⟨g1, 0, none⟩) (i + 1) c1) (.slice none 0 0) iv [] (u.types ++ [noTy]) [] (u.types.map (·.kids)) ∧ Below (H + 2) w3 X2) := ⟨L1, h.2.trans S1.bel⟩
      clear h L1 S1 HS r1
      go_wp2_with (first
        | (at_builtin; refine wpList_appI rfl (.tmp 48) (.tmp 50) 34 rfl rfl rfl r1' ?_; clear r1'))
      clear y0 y1 a1 a3
      go_loopw [7] (fun x wr => ∃ (j cut : Nat) (pv cv iv : Value), j ≤ np ∧ x = .int .i64 j ∧ Bx (LU wr (H + 2) cut (H + 2) pv (.slice (some ⟨g1, 0, none⟩) (i + 1) c1) cv iv (u.progs.take j) (u.types ++ [noTy]) ((u.progs.take j).map (·.code)) (u.types.map (·.kids) ++ (u.progs.take j).flatMap fun p => p.code.map (·.list)) ∧ Below (H + 2) w3 wr)) (fun x _ => np - (intOf x).toNat)
      case atStart => exact ⟨0, H + 2, _, _, iv, Nat.zero_le _, rfl, ⟨by simpa using L2.out.1, L2.out.2⟩⟩
      case round =>
        clear L2
        obtain ⟨j, cut, pv, cv, iv2, hj, rfl, HS⟩ := hrel
        obtain ⟨wo, hwo⟩ : ∃ x, x = wr := ⟨_, rfl⟩
        subst hwo
        obtain ⟨⟨y0, y1, y2, y3⟩, _, _, hun⟩ := HF.out wo HS.out.2
        by_cases hlt : j < np
        · have hj' : j < u.progs.length := by have := HNP.out; omega
          obtain ⟨b, o, rfl, hbl, hjj⟩ := hun.progs.at_ (by omega)
          obtain ⟨ca, cc, p0, p1, p2, p3, p4, p5⟩ := (hjj j hj').ex
          have hlenp : (u.progs.take j).length = j := by rw [List.length_take]; omega
          have hlenc : ((u.progs.take j).map (·.code)).length = j := by rw [List.length_map]; exact hlenp
          have hkp : u.progs.take (j + 1) = u.progs.take j ++ [u.progs[j]] := List.take_succ_eq_append_getElem hj'
          have hcnt := flat_cnt (u.progs.take j)
          have hsu := sumF_take (fun p : CPg => 1 + p.code.length) u.progs j hj'
          have hus : i + sumF (fun p : CPg => 1 + p.code.length) u.progs ≤ 2147483647 := by have := HSZ.out; unfold szU at this; rw [hlen] at this; exact this
          have hlb : ∀ k (h : k < u.progs[j].code.length), u.progs[j].code[k].list.length ≤ 2147483647 := fun k h => by
            have e1 := sumF_take pS u.progs j hj'
            have e2 := sumF_take iS u.progs[j].code k h
            have e3 : iS u.progs[j].code[k] = 60 + 21 * u.progs[j].code[k].list.length := rfl
            have e4 : pS u.progs[j] = 100 + sumF iS u.progs[j].code := rfl
            have := HUS.out
            unfold unS at this
            omega
          generalize u.progs[j] = p at *
          generalize hil : (u.types.map (·.kids) ++ (u.progs.take j).flatMap fun p => p.code.map (·.list)) = il at *
          have hill : il.length + (1 + p.code.length) ≤ 2147483647 := by rw [← hil, List.length_append, List.length_map, hlen]; omega
          obtain ⟨n, hn⟩ : ∃ n, p.code.length = n := ⟨_, rfl⟩
          rw [hn] at p4
          obtain ⟨Hp, hHp⟩ : ∃ Hp, wo.heap.size = Hp := ⟨_, rfl⟩
          have hHB2 : H + 2 ≤ wo.heap.size := by
            have := HS.out.2.size
            have := S3.out
            omega
          have hcutp : cut ≤ Hp := by have := HS.out.1.cut_; omega
          have P5 : Bx (Row (InAt wo H) H 4 ca cc p.code) := ⟨p5⟩
          obtain ⟨Y1, hY1⟩ : ∃ X, wo.alloc (.cells #[.int .i64 p.params, .int .i64 p.slots, .int .i64 p.caps, .bool p.res, .slice ca n cc] 57) = X := ⟨_, rfl⟩
          have bY1 : Below wo.heap.size wo Y1 := by rw [← hY1]; exact below1 wo _
          have sY1 : Y1.heap.size = Hp + 1 := by rw [← hY1]; simp; omega
          have iY1 : Y1.heap[Hp]? = some (.cells #[.int .i64 p.params, .int .i64 p.slots, .int .i64 p.caps, .bool p.res, .slice ca n cc] 57 (0, 0)) := by rw [← hY1]; exact heap_newH wo _ Hp hHp
          obtain ⟨Y2, hY2⟩ : ∃ X, Y1.alloc (.cells #[] 28) = X := ⟨_, rfl⟩
          have bY2 : Below (Hp + 1) Y1 Y2 := by rw [← hY2, ← sY1]; exact below1 Y1 _
          have iY2 : Y2.heap[Hp + 1]? = some (.cells #[] 28 (0, 0)) := by rw [← hY2]; exact heap_newH Y1 _ _ sY1
          have bY : Below wo.heap.size wo Y2 := bY1.trans (bY2.mono (by omega))
          have hps := HS.out.1.lt
          have L0 : Bx (LU Y2 (H + 2) cut (H + 2) pv (.slice (some ⟨g1, 0, none⟩) (i + 1) c1) cv iv2 (u.progs.take j) (u.types ++ [noTy]) ((u.progs.take j).map (·.code)) il ∧ OwnL InC Y2 (Hp + 1) 28 4 (.slice (some ⟨Hp + 1, 0, none⟩) 0 0) [] ∧ Below (H + 2) wo Y2 ∧ Y2.heap[Hp]? = some (.cells #[.int .i64 p.params, .int .i64 p.slots, .int .i64 p.caps, .bool p.res, .slice ca n cc] 57 (0, 0))) := ⟨HS.out.1.below bY, ⟨[], trivial, rfl, .inr ⟨Hp + 1, 0, #[], rfl, Nat.le_refl _, iY2, Nat.le_refl _, by simp [maxLen], rfl, rfl⟩⟩, bY.mono (by omega), (bY2.block Hp (by omega)).trans iY1⟩
          have SY2 : Bx (Y2.heap.size = Hp + 2) := ⟨by rw [← hY2]; simp; omega⟩
          have HFW : Bx (∀ X, Below (H + 2) wo X → Below (H + 2) w3 X) := ⟨fun X hX => HS.out.2.trans hX⟩
          have HTVB : Bx ((∀ g, ((.slice (some ⟨g1, 0, none⟩) (i + 1) c1) : Value).ownBlock = some g → g < Hp) ∧ (∀ g, pv.ownBlock = some g → g < Hp)) := ⟨⟨fun g hg => by have := hps.1 g hg; omega, fun g hg => by have := hps.2.2.1 g hg; omega⟩⟩
          have q1 : (j : Int) < (np : Int) := by omega
          have HCN : Bx _ := ⟨hn⟩
          have HKP : Bx _ := ⟨hkp⟩
          have HLB : Bx _ := ⟨hlb⟩
          have HIL : Bx _ := ⟨hil⟩
          clear hun hjj p5 hsu hus hcnt hlb bY1 bY2 iY1 iY2 bY hps HS hkp hil
          go_wp2
          clear hY1 hY2 p0 p1 p2 p3 p4 y0 y1 sY1
          go_loopw [10, 9] (fun x z wq => ∃ (k : Nat) (iv3 vv : Value), k ≤ n ∧ x = .int .i64 k ∧ vv = z ∧ Bx (LU wq (H + 2) cut (H + 2) pv (.slice (some ⟨g1, 0, none⟩) (i + 1) c1) cv iv3 (u.progs.take j) (u.types ++ [noTy]) ((u.progs.take j).map (·.code)) (il ++ (p.code.take k).map (·.list)) ∧ OwnL InC wq (Hp + 1) 28 4 vv (p.code.take k) ∧ Below (H + 2) wo wq ∧ wq.heap[Hp]? = some (.cells #[.int .i64 p.params, .int .i64 p.slots, .int .i64 p.caps, .bool p.res, .slice ca n cc] 57 (0, 0)))) (fun x _ _ => n - (intOf x).toNat)
          case atStart => exact ⟨0, iv2, _, Nat.zero_le _, rfl, rfl, ⟨by simpa using L0.out.1, by simpa using L0.out.2.1, L0.out.2.2⟩⟩
          case round =>
            obtain ⟨k, iv3, vv, hk, rfl, rfl, HR⟩ := hrel
            clear L0
            have iQ := HR.out.2.2.2
            have z4 : wr.cell? ⟨Hp, 4, none⟩ = some (.slice ca n cc) := cell_blk iQ rfl
            have lQ : Hp < wr.heap.size := (Array.getElem?_eq_some_iff.1 iQ).1
            have hsq := HR.out.2.2.1.size
            have hcl : (p.code.take k).length = k := by rw [List.length_take]; have := HCN.out; omega
            have hil2 : (il ++ (p.code.take k).map (·.list)).length = il.length + k := by rw [List.length_append, List.length_map, hcl]
            have hc3 : Hp + 1 ≤ wr.heap.size := by omega
            by_cases hlk : k < n
            · have hk' : k < p.code.length := by have := HCN.out; omega
              have bHo : Below H wo wr := HR.out.2.2.1.mono (by omega)
              obtain ⟨b2, o2, rfl, hbl2, hkk⟩ := (P5.out.mono fun b o x hx he => InAt.below he bHo (Nat.le_refl H) hx).at_ (by omega)
              obtain ⟨ka, kc, x0, x1, x2, x3, x4⟩ := (hkk k hk').ex
              have hml := HLB.out k hk'
              have hkt : p.code.take (k + 1) = p.code.take k ++ [p.code[k]] := List.take_succ_eq_append_getElem hk'
              generalize p.code[k] = t at *
              obtain ⟨m, hm⟩ : ∃ m, t.list.length = m := ⟨_, rfl⟩
              rw [hm] at x3 hml
              have hb2l : b2 < wr.heap.size := by omega
              obtain ⟨Hh, hHh⟩ : ∃ Hh, wr.heap.size = Hh := ⟨_, rfl⟩
              have HLI : Bx (Calls Tryd.prog 14 #[.slice ka m kc] (wr.alloc (.cells #[.int .i64 t.op, .int .i64 t.a, .int .i64 t.b, .slice ka m kc] 28)) fun e w' => ∃ g c, e = .returned (.slice (some ⟨g, 0, none⟩) (m + 2) c) ∧ Bx (IK w' (some ⟨g, 0, none⟩) c (t.list ++ [-77, -78]) ∧ Below (Hh + 1) (wr.alloc (.cells #[.int .i64 t.op, .int .i64 t.a, .int .i64 t.b, .slice ka m kc] 28)) w' ∧ Hh + 1 ≤ g ∧ IlK w' g)) := ⟨by
                have := lentInts_ik (wr.alloc (.cells #[.int .i64 t.op, .int .i64 t.a, .int .i64 t.b, .slice ka m kc] 28)) H ka kc t.list (x4.below ((below1 wr _).mono (by omega))) (by simp; omega) (by rw [hm]; omega)
                rw [hm] at this
                refine Calls.mono this ?_
                rintro e w' ⟨g, c, rfl, h⟩
                exact ⟨g, c, rfl, ⟨h.out.1, h.out.2.1.mono (by simp; omega), by have := h.out.2.2.1; simp at this; omega, h.out.2.2.2⟩⟩⟩
              have HST : Bx (∀ X iv' vv', LU X (H + 2) cut (H + 2) pv (.slice (some ⟨g1, 0, none⟩) (i + 1) c1) cv iv' (u.progs.take j) (u.types ++ [noTy]) ((u.progs.take j).map (·.code)) (il ++ (p.code.take k).map (·.list) ++ [t.list]) ∧ OwnL InC X (Hp + 1) 28 4 vv' (p.code.take k ++ [t]) ∧ Below (H + 2) wr X ∧ Kp (fun x t => (t ≠ 28) ∧ t ≠ 26 ∧ t ≠ 41) wr X → LU X (H + 2) cut (H + 2) pv (.slice (some ⟨g1, 0, none⟩) (i + 1) c1) cv iv' (u.progs.take j) (u.types ++ [noTy]) ((u.progs.take j).map (·.code)) (il ++ (p.code.take (k + 1)).map (·.list)) ∧ OwnL InC X (Hp + 1) 28 4 vv' (p.code.take (k + 1)) ∧ Below (H + 2) wo X ∧ X.heap[Hp]? = some (.cells #[.int .i64 p.params, .int .i64 p.slots, .int .i64 p.caps, .bool p.res, .slice (some ⟨b2, o2, none⟩) n cc] 57 (0, 0))) := ⟨fun X iv' vv' h => by
                rw [hkt, List.map_append, ← List.append_assoc]
                exact ⟨h.1, h.2.1, HR.out.2.2.1.trans h.2.2.1, (h.2.2.2.blk Hp _ _ _ HR.out.2.2.2 (by decide)).trans HR.out.2.2.2⟩⟩
              have q2 : (k : Int) < (n : Int) := by omega
              have f2 : (m : Int) + 2 - 2 = (m : Int) := by omega
              clear hkk x4 hkt iQ
              go_wp2_with (first
                | (go_at_call 14; refine HLI.out.mono ?_; clear HLI; rintro e w2 ⟨g, c, rfl, HX⟩
                   have LT := lend_ins HR.out.1 HR.out.2.1 (by omega) (by omega) hc3 (Nat.le_refl _) hHh (by rw [hcl]; omega) (by rw [hil2]; omega) t ka kc m hm w2 g c HX.out.2.1 HX.out.1 ⟨by have := HX.out.2.2.1; omega, HX.out.2.2.2⟩
                   rw [hcl, hil2] at LT
                   have hcg : m + 2 ≤ c := (by have := HX.out.1.cap; rw [List.length_append, hm] at this; exact this)
                   obtain ⟨⟨a1, a2, a3⟩, X3, hX3, ⟨a4, a5⟩, X4, hX4, g5, c5, X5, r5, ⟨a6, a7, a8⟩, X6, hX6, ⟨a11, a12, a13, a13', a14⟩, X7, hX7, g8, c8, X8, r8, HN⟩ := LT)
                | (at_builtin; refine wpList_appI rfl (.tmp 88) (.tmp 90) 39 rfl rfl rfl r5 ?_; clear r5)
                | (at_builtin; refine wpList_appI rfl (.tmp 93) (.tmp 95) 55 rfl rfl rfl r8 ?_; clear r8))
              go_roundw
              case rel => exact ⟨k + 1, _, _, by omega, by go_num, rfl, ⟨HST.out _ _ _ HN.out⟩⟩
              case measure => simp [intOf]; omega
            · have hke : k = n := by omega
              subst hke
              have hkn : p.code.take k = p.code := List.take_of_length_le (by have := HCN.out; omega)
              have h := HR.out
              rw [hkn] at h
              have q2 : ¬ (k : Int) < (k : Int) := by omega
              have LT := lend_prog h.1 p HCN.out h.2.1 (by omega) (by omega) hc3 (Nat.le_refl _) (Nat.lt_succ_self Hp) hcutp (by omega) HTVB.out.1 HTVB.out.2 _ h.2.2.2 (by omega) (by rw [hlenp]; omega) (by rw [hlenc]; omega)
              rw [hlenp, hlenc] at LT
              obtain ⟨X1, hX1, g2, c2, X2, r2, ⟨a1, a2⟩, X3, hX3, g4, c4, X4, r4, ⟨a3, a4, a5⟩, X5, hX5, ⟨a6, a7, a8⟩, X6, hX6, ⟨a9, a10, a11, a12, a13, a14, a15, a16⟩, X7, hX7, g8, c8, X8, r8, ⟨a17, a18, a19⟩, hcap2, HN⟩ := LT
              have HNX : Bx (∃ cut' : Nat, LU (X8.setCell ⟨H + 2, 2, none⟩ (.slice (some ⟨g8, 0, none⟩) (j + 1) c8)) (H + 2) cut' (H + 2) (.slice (some ⟨g8, 0, none⟩) (j + 1) c8) (.slice (some ⟨g1, 0, none⟩) (i + 1) c1) (.slice (some ⟨g4, 0, none⟩) (j + 1) c4) iv3 (u.progs.take (j + 1)) (u.types ++ [noTy]) ((u.progs.take (j + 1)).map (·.code)) (u.types.map (·.kids) ++ (u.progs.take (j + 1)).flatMap fun p => p.code.map (·.list)) ∧ Below (H + 2) w3 (X8.setCell ⟨H + 2, 2, none⟩ (.slice (some ⟨g8, 0, none⟩) (j + 1) c8))) := ⟨by
                obtain ⟨cut', l1, l2⟩ := HN.out
                refine ⟨cut', ?_, HFW.out _ (h.2.2.1.trans l2)⟩
                have e : u.types.map (·.kids) ++ (u.progs.take (j + 1)).flatMap (fun p => p.code.map (·.list)) = il ++ p.code.map (·.list) := by
                  rw [HKP.out, List.flatMap_append, ← List.append_assoc, HIL.out]
                  simp
                rw [e, HKP.out, List.map_append]
                exact l1⟩
              have f3 : (k : Int) + 1 - 1 = (k : Int) := by omega
              have hkb : k ≤ 2147483647 := by omega
              clear h HR iQ HN
              go_wp2_with (first
                | (at_builtin; refine wpList_appI rfl (.tmp 97) (.tmp 99) 55 rfl rfl rfl r2 ?_; clear r2)
                | (at_builtin; refine wpList_appI rfl (.tmp 102) (.tmp 104) 38 rfl rfl rfl r4 ?_; clear r4)
                | (at_builtin; refine wpList_appI rfl (.tmp 114) (.tmp 116) 33 rfl rfl rfl r8 ?_; clear r8))
              obtain ⟨cut', hfin⟩ := HNX.out
              go_roundw
              case rel => exact ⟨j + 1, cut', _, _, iv3, by omega, by go_num, ⟨hfin⟩⟩
              case measure => simp [intOf]; omega
        · have hje : j = np := by omega
          subst hje
          have h := HS.out
          have hkn : u.progs.take j = u.progs := List.take_of_length_le (by have := HNP.out; omega)
          rw [hkn] at h
          have hlp : u.progs.length = j := HNP.out
          have q1 : ¬ (j : Int) < (j : Int) := by omega
          have hHB2 : H + 2 ≤ wo.heap.size := by
            have := HS.out.2.size
            have := S3.out
            omega
          obtain ⟨a1, a2, g2, c2, X1, r1, L1, S1⟩ := pgs_step h.1 hHB2 (Nat.le_refl _) (by omega) noPg none 0 (OwnL.nil _ _ _ _ _) (fun g hg => by cases hg)
          rw [hlp] at r1 L1 S1
          have a3 := S1.cell
          have a4 := S1.froz
          have a5 := S1.lt
          have r1' : ∀ ty, (Builtin.append_ #[33, 33] ty #[pv, .slice (some ⟨wo.heap.size, 0, none⟩) 1 1]).run Tryd.prog (wo.alloc (.cells #[.int .i64 (-9), .int .i64 0, .int .i64 0, .bool false, .slice none 0 0] 57)) = .ok (.slice (some ⟨g2, 0, none⟩) (j + 1) c2) X1 := r1
          obtain ⟨X2, hX2⟩ : ∃ X, X1.setCell ⟨H + 2, 2, none⟩ (.slice (some ⟨g2, 0, none⟩) (j + 1) c2) = X := ⟨_, rfl⟩
          rw [hX2] at L1 S1
          have b2 : Below (H + 2) w3 X2 := h.2.trans S1.bel
          obtain ⟨⟨y0', y1', y2', y3'⟩, iR, _, _⟩ := HF.out X2 b2
          have iX := L1.blk
          have z2 : X2.cell? ⟨H + 2, 2, none⟩ = some (.slice (some ⟨g2, 0, none⟩) (j + 1) c2) := cell_blk iX rfl
          have z3 : X2.cell? ⟨H + 2, 3, none⟩ = some (.slice (some ⟨g1, 0, none⟩) (i + 1) c1) := cell_blk iX rfl
          have z0 : X2.cell? ⟨H + 2, 0, none⟩ = some (.slice none 0 0) := cell_blk iX rfl
          have z1 : X2.cell? ⟨H + 2, 1, none⟩ = some (.slice none 0 0) := cell_blk iX rfl
          have f0 : X2.frozen? ⟨H + 2, 0, none⟩ = false := by simp [World.frozen?, iX]
          have f1 : X2.frozen? ⟨H + 2, 1, none⟩ = false := by simp [World.frozen?, iX]
          have cp1 : i + 1 ≤ c1 := own_cap L1.tys
          have cp2 : j + 1 ≤ c2 := own_cap L1.pgs
          have c1' : i ≤ c1 := by omega
          have c2' : j ≤ c2 := by omega
          have lX2 : H + 2 < X2.heap.size := (Array.getElem?_eq_some_iff.1 iX).1
          obtain ⟨X3, hX3⟩ : ∃ X, (X2.setCell ⟨H + 2, 0, none⟩ (.slice (some ⟨g2, 0, none⟩) j c2)).setCell ⟨H + 2, 1, none⟩ (.slice (some ⟨g1, 0, none⟩) i c1) = X := ⟨_, rfl⟩
          have e1 := heap_setCell_same X2 (H + 2) 0 _ _ (.slice (some ⟨g2, 0, none⟩) j c2) iX
          have e2 := heap_setCell_same _ (H + 2) 1 _ _ (.slice (some ⟨g1, 0, none⟩) i c1) e1
          have k3 := (Kp.set (i := 0) (v := (.slice (some ⟨g2, 0, none⟩) j c2)) iX).trans (Kp.set (i := 1) (v := (.slice (some ⟨g1, 0, none⟩) i c1)) e1)
          have iX3 : X3.heap[H + 2]? = some (.cells #[(.slice (some ⟨g2, 0, none⟩) j c2), (.slice (some ⟨g1, 0, none⟩) i c1), (.slice (some ⟨g2, 0, none⟩) (j + 1) c2), (.slice (some ⟨g1, 0, none⟩) (i + 1) c1), cv, iv2] 41 (0, 0)) := by rw [← hX3]; exact e2
          have iR3 : X3.heap[H + 1]? = some (.cells #[.slice none 0 0, .slice none 0 0, .slice none 0 0, .slice none 0 0, .slice none 0 0, .slice none 0 0] 41 (0, 0)) := by rw [← hX3, Below.heap_setCell _ _ _ _ (by simp), Below.heap_setCell _ _ _ _ (by simp)]; exact iR
          have bX3 : Below H w X3 := by rw [← hX3]; exact ((HF.out X2 b2).2.2.1.setCell (p := ⟨H + 2, 0, none⟩) (show H ≤ H + 2 by omega) _).setCell (p := ⟨H + 2, 1, none⟩) (show H ≤ H + 2 by omega) _
          have SF : Bx (((X2.setCell ⟨H + 2, 0, none⟩ (.slice (some ⟨g2, 0, none⟩) j c2)).setCell ⟨H + 2, 1, none⟩ (.slice (some ⟨g1, 0, none⟩) i c1)).cell? ⟨H, 0, none⟩ = some (.slice pa j pc) ∧ ((X2.setCell ⟨H + 2, 0, none⟩ (.slice (some ⟨g2, 0, none⟩) j c2)).setCell ⟨H + 2, 1, none⟩ (.slice (some ⟨g1, 0, none⟩) i c1)).cell? ⟨H, 1, none⟩ = some (.slice ta i tc) ∧ ((X2.setCell ⟨H + 2, 0, none⟩ (.slice (some ⟨g2, 0, none⟩) j c2)).setCell ⟨H + 2, 1, none⟩ (.slice (some ⟨g1, 0, none⟩) i c1)).cell? ⟨H + 2, 2, none⟩ = some (.slice (some ⟨g2, 0, none⟩) (j + 1) c2) ∧ ((X2.setCell ⟨H + 2, 0, none⟩ (.slice (some ⟨g2, 0, none⟩) j c2)).setCell ⟨H + 2, 1, none⟩ (.slice (some ⟨g1, 0, none⟩) i c1)).cell? ⟨H + 2, 3, none⟩ = some (.slice (some ⟨g1, 0, none⟩) (i + 1) c1)) := ⟨by
            have hc : ∀ z, ((X2.setCell ⟨H + 2, 0, none⟩ (.slice (some ⟨g2, 0, none⟩) j c2)).setCell ⟨H + 2, 1, none⟩ (.slice (some ⟨g1, 0, none⟩) i c1)).cell? ⟨H, z, none⟩ = X2.cell? ⟨H, z, none⟩ := fun z => by
              rw [World.cell?_of_block (w := X2) (a := ⟨H, z, none⟩) (by rw [Below.heap_setCell _ _ _ _ (by simp), Below.heap_setCell _ _ _ _ (by simp)])]
            exact ⟨by rw [hc]; exact y0', by rw [hc]; exact y1', cell_blk e2 rfl, cell_blk e2 rfl⟩⟩
          have m0 : X3.cell? ⟨H + 2, 0, none⟩ = some (.slice (some ⟨g2, 0, none⟩) j c2) := cell_blk iX3 rfl
          have m1 : X3.cell? ⟨H + 2, 1, none⟩ = some (.slice (some ⟨g1, 0, none⟩) i c1) := cell_blk iX3 rfl
          have m2 : X3.cell? ⟨H + 2, 2, none⟩ = some (.slice (some ⟨g2, 0, none⟩) (j + 1) c2) := cell_blk iX3 rfl
          have m3 : X3.cell? ⟨H + 2, 3, none⟩ = some (.slice (some ⟨g1, 0, none⟩) (i + 1) c1) := cell_blk iX3 rfl
          have m4 : X3.cell? ⟨H + 2, 4, none⟩ = some cv := cell_blk iX3 rfl
          have m5 : X3.cell? ⟨H + 2, 5, none⟩ = some iv2 := cell_blk iX3 rfl
          have n0 : X3.cell? ⟨H + 1, 0, none⟩ = some (.slice none 0 0) := cell_blk iR3 rfl
          have o0 : X3.frozen? ⟨H + 1, 0, none⟩ = false := by simp [World.frozen?, iR3]
          have n1 : X3.cell? ⟨H + 1, 1, none⟩ = some (.slice none 0 0) := cell_blk iR3 rfl
          have o1 : X3.frozen? ⟨H + 1, 1, none⟩ = false := by simp [World.frozen?, iR3]
          have n2 : X3.cell? ⟨H + 1, 2, none⟩ = some (.slice none 0 0) := cell_blk iR3 rfl
          have o2 : X3.frozen? ⟨H + 1, 2, none⟩ = false := by simp [World.frozen?, iR3]
          have n3 : X3.cell? ⟨H + 1, 3, none⟩ = some (.slice none 0 0) := cell_blk iR3 rfl
          have o3 : X3.frozen? ⟨H + 1, 3, none⟩ = false := by simp [World.frozen?, iR3]
          have n4 : X3.cell? ⟨H + 1, 4, none⟩ = some (.slice none 0 0) := cell_blk iR3 rfl
          have o4 : X3.frozen? ⟨H + 1, 4, none⟩ = false := by simp [World.frozen?, iR3]
          have n5 : X3.cell? ⟨H + 1, 5, none⟩ = some (.slice none 0 0) := cell_blk iR3 rfl
          have o5 : X3.frozen? ⟨H + 1, 5, none⟩ = false := by simp [World.frozen?, iR3]
          have lR3 : H + 1 < X3.heap.size := (Array.getElem?_eq_some_iff.1 iR3).1
          have lX3 : H + 2 < X3.heap.size := (Array.getElem?_eq_some_iff.1 iX3).1
          have hcvs : ∃ a m c, cv = .slice a m c := own_sl L1.cds
          have hivs : ∃ a m c, iv2 = .slice a m c := own_sl L1.its
          obtain ⟨ac, mc, cc2, rfl⟩ := hcvs
          obtain ⟨ai, mi, ci, rfl⟩ := hivs
          have HFIN : Bx (∀ v0 v1 v2 v3 v4 v5, LentA w u (.returned (.agg #[(.slice (some ⟨g2, 0, none⟩) j c2), (.slice (some ⟨g1, 0, none⟩) i c1), (.slice (some ⟨g2, 0, none⟩) (j + 1) c2), (.slice (some ⟨g1, 0, none⟩) (i + 1) c1), .slice ac mc cc2, .slice ai mi ci])) ((((((X3.setCell ⟨H + 1, 0, none⟩ v0).setCell ⟨H + 1, 1, none⟩ v1).setCell ⟨H + 1, 2, none⟩ v2).setCell ⟨H + 1, 3, none⟩ v3).setCell ⟨H + 1, 4, none⟩ v4).setCell ⟨H + 1, 5, none⟩ v5).drew) := ⟨fun v0 v1 v2 v3 v4 v5 => by
            have kS := six_set (X := X3) (b := H + 1) iR3 v0 v1 v2 v3 v4 v5
            have bS : Below H w ((((((X3.setCell ⟨H + 1, 0, none⟩ v0).setCell ⟨H + 1, 1, none⟩ v1).setCell ⟨H + 1, 2, none⟩ v2).setCell ⟨H + 1, 3, none⟩ v3).setCell ⟨H + 1, 4, none⟩ v4).setCell ⟨H + 1, 5, none⟩ v5).drew := ((((((bX3.setCell (p := ⟨H + 1, 0, none⟩) (show H ≤ H + 1 by omega) _).setCell (p := ⟨H + 1, 1, none⟩) (show H ≤ H + 1 by omega) _).setCell (p := ⟨H + 1, 2, none⟩) (show H ≤ H + 1 by omega) _).setCell (p := ⟨H + 1, 3, none⟩) (show H ≤ H + 1 by omega) _).setCell (p := ⟨H + 1, 4, none⟩) (show H ≤ H + 1 by omega) _).setCell (p := ⟨H + 1, 5, none⟩) (show H ≤ H + 1 by omega) _).drew
            rw [hX3] at k3
            have K := (k3.trans kS).drew
            refine ⟨g2, g1, c2, c1, .slice ac mc cc2, .slice ai mi ci, by rw [hlp, hlen], ⟨lent_fin L1 (by omega) K (by rw [hH]; exact bS) ?_ ?_⟩⟩
            · rw [hlp]
            · rw [hlen]⟩
          clear h L1 S1 HS r1 iX iR b2 e1 e2 k3 iX3 iR3 bX3
          go_wp2_with (first
            | (at_builtin; refine wpList_appI rfl (.tmp 120) (.tmp 122) 33 rfl rfl rfl r1' ?_; clear r1'))
          have HX3 : Bx _ := ⟨hX3⟩
          clear hX3
          go_region_held3 (fun w' => (w'.cell? ⟨H, 0, none⟩ = some (.slice pa j pc) ∧ w'.cell? ⟨H, 1, none⟩ = some (.slice ta i tc) ∧ w'.cell? ⟨H + 2, 2, none⟩ = some (.slice (some ⟨g2, 0, none⟩) (j + 1) c2) ∧ w'.cell? ⟨H + 2, 3, none⟩ = some (.slice (some ⟨g1, 0, none⟩) (i + 1) c1)))
            (first | exact ⟨y0', y1', z2, z3⟩ | exact SF.out | go_keep)
            (fail)
          rw [HX3.out]
          clear SF
          go_wp2
          refine bodyPost_ret (v := .agg #[(.slice (some ⟨g2, 0, none⟩) j c2), (.slice (some ⟨g1, 0, none⟩) i c1), (.slice (some ⟨g2, 0, none⟩) (j + 1) c2), (.slice (some ⟨g1, 0, none⟩) (i + 1) c1), .slice ac mc cc2, .slice ai mi ci]) (by simp [results, Tryd.results21, go_sem, n0, n1, n2, n3, n4, n5, lR3]) rfl ?_
          exact HQ.out _ _ (HFIN.out _ _ _ _ _ _)
end Go.Proofs.YtijdcplffmdijaaDoor
