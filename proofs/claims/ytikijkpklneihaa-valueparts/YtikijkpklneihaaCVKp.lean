import Derived.Test.YtikijkpklneihaaCVKs
import Derived.Test.YtikijkpklneihaaCVSe
namespace Go.Proofs.Ytikijkpklneihaa
open Go.RowKit
set_option linter.unusedVariables false
set_option linter.unusedSimpArgs false

def cv1 (h : Nat) (vv : Value) (x : V) (p0 : Option Addr) (c0 n : Nat) : Nat → Option Value := fun zz => ([some (.pointer (some ⟨h, 0, none⟩)), some (.pointer (some ⟨h, 0, none⟩)), some (.pointer (some ⟨h, 0, none⟩)), some (vv), some (agV x.k x.n p0 x.l.length c0), some (.int .i64 n), none, none, none, none, some (.pointer (some ⟨h, 0, none⟩)), some (.pointer (some ⟨h, 0, none⟩)), none] : List (Option Value)).getD zz none
def cv2 (h : Nat) (vv : Value) (x : V) (p1 : Option Addr) (c1 n : Nat) : Nat → Option Value := fun zz => ([some (.pointer (some ⟨h, 0, none⟩)), some (.pointer (some ⟨h, 0, none⟩)), some (.pointer (some ⟨h, 1, none⟩)), some (vv), some (agV x.k x.n p1 x.l.length c1), none, some (.int .i64 n), none, none, none, none, some (.pointer (some ⟨h, 0, none⟩)), some (.pointer (some ⟨h, 1, none⟩)), none] : List (Option Value)).getD zz none
def KeepP (w : World) (lo h : Nat) (ρ : Gh) (ov wv : Value) (n : Nat) (X : Nat → V) (x : V) (s t : Nat) (p0 : Option Addr) (c0 : Nat) (w' : World) : Prop :=
  ∃ av bv, (∃ ρ', Bk w' lo h ρ' av bv (n + 1) (fun j => if j = n then x else X j) ∧ ∀ b, ρ' b ≠ none → ρ b ≠ none ∨ (s ≤ b ∧ b < t) ∨ w.heap.size ≤ b) ∧ KF w w' h ov wv
theorem KeepP.next {w W W' : World} {lo h : Nat} {ρ : Gh} {ov wv : Value} {n : Nat} {X : Nat → V} {x : V} {s t : Nat} {p0 : Option Addr} {c0 : Nat} (H : KeepP w lo h ρ ov wv n X x s t p0 c0 W) (hb : Below W.heap.size W W') : KeepP w lo h ρ ov wv n X x s t p0 c0 W' := by
  obtain ⟨av, bv, ⟨ρ', h1, h2⟩, h3⟩ := H
  exact ⟨av, bv, ⟨ρ', h1.next hb, h2⟩, ⟨hb.os.trans h3.os, hb.tape.trans h3.tape, hb.output.trans h3.output, Nat.le_trans h3.size hb.size, fun b k1 k2 k3 k4 => (hb.block b (Nat.lt_of_lt_of_le k1 h3.size)).trans (h3.blk b k1 k2 k3 k4)⟩⟩
set_option maxRecDepth 100000 in
set_option maxHeartbeats 8000000 in
/-- keep: one more in the book -/
theorem keep_any (w : World) (lo h : Nat) (ρ : Gh) (ov wv : Value) (n : Nat) (X : Nat → V) (hB : Bk w lo h ρ ov wv n X) (hn : n ≤ 1000) (x : V) (p0 : Option Addr) (c0 : Nat) (hk64 : I64 x.k) (hn64 : I64 x.n) (s t : Nat) (hp : Prv w s t 0 x p0 c0) (htl : t ≤ lo) (hst : ¬ (s ≤ h ∧ h < t)) (hρ : ∀ b, s ≤ b → b < t → ρ b = none) (B : Nat) (p1 : Option Addr) (c1 : Nat) (hw : IsV w B (agV x.k x.n p1 x.l.length c1) x) (hBl : B ≤ lo) (hx : x.sz ≤ 1000000) :
    Calls Try.prog 11 #[.pointer (some ⟨h, 0, none⟩), agV x.k x.n p0 x.l.length c0, agV x.k x.n p1 x.l.length c1] w fun e w' => e = .returned (.bool true) ∧ Bx (KeepP w lo h ρ ov wv n X x s t p0 c0 w') := by
  obtain ⟨cs, o1, o2⟩ := hB.orow
  obtain ⟨ds, w1, w2⟩ := hB.wrow
  have hlow := hB.low
  have hsiz := hB.siz
  obtain ⟨H, hH⟩ : ∃ H, w.heap.size = H := ⟨_, rfl⟩
  obtain ⟨W0, hW0⟩ : ∃ W0, (w.alloc (.cells #[.int .i64 x.k, .int .i64 x.n, .slice p0 x.l.length c0] 24)).alloc (.cells #[.int .i64 x.k, .int .i64 x.n, .slice p1 x.l.length c1] 24) = W0 := ⟨_, rfl⟩
  have b0 : Below w.heap.size w W0 := by rw [← hW0]; exact two_new _ _ _
  have s0 : W0.heap.size = H + 2 := by rw [← hW0, ← hH]; simp
  have qa : W0.heap[w.heap.size]? = some (.cells #[.int .i64 x.k, .int .i64 x.n, .slice p0 x.l.length c0] 24 (0, 0)) := by rw [← hW0]; exact (Below.heap_alloc _ _ _ (by simp)).trans (World.alloc_heap_new _ _)
  have qb : W0.heap[w.heap.size + 1]? = some (.cells #[.int .i64 x.k, .int .i64 x.n, .slice p1 x.l.length c1] 24 (0, 0)) := by rw [← hW0]; exact alloc_at _ _ _
  have hovl : ∀ b, ov.ownBlock = some b → lo ≤ b ∧ b < w.heap.size := fun b hb => owns_block o1 hb
  have hwvl : ∀ b, wv.ownBlock = some b → lo ≤ b ∧ b < w.heap.size := fun b hb => owns_block w1 hb
  have HLO : Bx (lo ≤ W0.drew.heap.size ∧ h < lo ∧ n ≤ 1000000) := ⟨by show lo ≤ W0.heap.size; omega, hlow, by omega⟩
  have HSH : Bx ((∃ ga gc, ov = .slice ga n gc) ∧ ∃ ga gc, wv = .slice ga n gc) := ⟨owns_slice o1, owns_slice w1⟩
  have HV0 : Bx (∀ wz : World, W0.drew.heap.size ≤ wz.heap.size → (∀ b, b < W0.drew.heap.size → b ≠ h → ov.ownBlock ≠ some b → wz.heap[b]? = W0.drew.heap[b]?) → wz.cell? ⟨H, 0, none⟩ = some (.int .i64 x.k) ∧ wz.cell? ⟨H, 1, none⟩ = some (.int .i64 x.n) ∧ wz.cell? ⟨H, 2, none⟩ = some (.slice p0 x.l.length c0)) := ⟨fun wz _ hb => by
    have q : wz.heap[H]? = some (.cells #[.int .i64 x.k, .int .i64 x.n, .slice p0 x.l.length c0] 24 (0, 0)) := by
      rw [hb H (by show H < W0.heap.size; omega) (by omega) (fun e => by have := hovl H e; omega), ← hH]
      exact qa
    exact ⟨cell_blk q rfl, cell_blk q rfl, cell_blk q rfl⟩⟩
  have HS1 : Bx (KpS W0.drew lo h 0 ov wv n cs x false p0 c0 (cv1 h ov x p0 c0 n) 3 4 6 7 8 9 12 (fun _ => none) W0.drew) := ⟨⟨rfl, rfl, rfl, Nat.le_refl _, fun _ _ _ _ => rfl, fun k v e => (by cases e), fun _ => (b0.block h (by omega)).trans hB.hd, fun _ e => (by cases e), fun _ => own_new o1 b0.drew, fun _ e => (by cases e), fun _ e => (by cases e), fun _ e => (by cases e), fun _ e => (by cases e), fun e => absurd rfl e, fun e => absurd rfl e, fun e => absurd rfl e, fun b e => by show b < W0.heap.size; have := hovl b e; omega, fun e => absurd rfl e⟩⟩
  have HCS : Bx (cs.length = n * 3) := ⟨o1.1⟩
  have HDS : Bx (ds.length = n * 3) := ⟨w1.1⟩
  have HPU : Bx (∀ W1 W2 av bv pa ca pb cb, KpE W0.drew lo h 0 ov wv n cs x false p0 c0 W1 av pa ca → KpE W1.drew lo h 1 wv av n ds x true p1 c1 W2 bv pb cb → KeepP w lo h ρ ov wv n X x s t p0 c0 W2 ∧ Prv W2 s t 0 x p0 c0) := ⟨fun W1 W2 av bv pa ca pb cb e1 e2 => by
    have e2' : KpE W1.drew lo h 1 wv av n ds x true pb cb W2 bv pb cb := ⟨e2.os, e2.tape, e2.output, e2.size, e2.blk, e2.hd, e2.row, e2.at_, fun e => (by cases e), e2.new⟩
    obtain ⟨q1, q2, q3⟩ := Bk.push hB o1 o2 w1 w2 b0.drew e1 (Below.refl _ _).drew e2' hk64 hn64 hp htl hst hρ
    exact ⟨⟨av, bv, q1, q2⟩, q3⟩⟩
  have HN1 : Bx (∀ W1 av pa ca, KpE W0.drew lo h 0 ov wv n cs x false p0 c0 W1 av pa ca → lo ≤ W1.heap.size ∧ H + 2 ≤ W1.heap.size ∧ KpS W1.drew lo h 1 wv av n ds x true p1 c1 (cv2 h wv x p1 c1 n) 3 5 7 8 9 10 13 (fun _ => none) W1.drew) := ⟨fun W1 av pa ca e1 => by
    have z1 := e1.size
    have z1' : W0.heap.size ≤ W1.heap.size := z1
    have k1 : W1.ownsRow lo 24 3 wv n ds := own_same w1 fun g o hg ho => by
      have h1 := hwvl g hg
      rw [e1.blk g (by show g < W0.heap.size; omega) (by omega) (fun e => hB.ne g e hg)]
      exact (b0.block g h1.2).trans ho
    exact ⟨by omega, by omega, ⟨rfl, rfl, rfl, Nat.le_refl _, fun _ _ _ _ => rfl, fun k v e => (by cases e), fun _ => e1.hd, fun _ e => (by cases e), fun _ => own_new k1 (Below.refl _ _).drew, fun _ e => (by cases e), fun _ e => (by cases e), fun _ e => (by cases e), fun _ e => (by cases e), fun e => absurd rfl e, fun e => absurd rfl e, fun e => absurd rfl e, fun b e => by show b < W1.heap.size; have := hwvl b e; omega, fun e => absurd rfl e⟩⟩⟩
  have HN2 : Bx (∀ W1 av pa ca, KpE W0.drew lo h 0 ov wv n cs x false p0 c0 W1 av pa ca → ∀ wz : World, W1.drew.heap.size ≤ wz.heap.size → (∀ b, b < W1.drew.heap.size → b ≠ h → wv.ownBlock ≠ some b → wz.heap[b]? = W1.drew.heap[b]?) → (∀ b, b < w.heap.size → b ≠ h → ov.ownBlock ≠ some b → wv.ownBlock ≠ some b → wz.heap[b]? = w.heap[b]?) ∧ wz.heap[H]? = some (.cells #[.int .i64 x.k, .int .i64 x.n, .slice p0 x.l.length c0] 24 (0, 0)) ∧ wz.heap[H + 1]? = some (.cells #[.int .i64 x.k, .int .i64 x.n, .slice p1 x.l.length c1] 24 (0, 0)) ∧ IsV wz B (agV x.k x.n p1 x.l.length c1) x ∧ B ≤ wz.heap.size) := ⟨fun W1 av pa ca e1 wz hz hb => by
    have z1 : W0.heap.size ≤ W1.heap.size := e1.size
    have z2 : W1.heap.size ≤ wz.heap.size := hz
    have g1 : ∀ b, b < W0.heap.size → b ≠ h → ov.ownBlock ≠ some b → wv.ownBlock ≠ some b → wz.heap[b]? = W0.heap[b]? := fun b h1 h2 h3 h4 => (hb b (by show b < W1.heap.size; omega) h2 h4).trans (e1.blk b h1 h2 h3)
    have g2 : ∀ b, b < w.heap.size → b ≠ h → ov.ownBlock ≠ some b → wv.ownBlock ≠ some b → wz.heap[b]? = w.heap[b]? := fun b h1 h2 h3 h4 => (g1 b (by omega) h2 h3 h4).trans (b0.block b h1)
    refine ⟨g2, ?_, ?_, hw.skip (h := h) (fun b o h1 h2 => ?_) (fun o k e => ?_), by omega⟩
    · rw [g1 H (by omega) (by omega) (fun e => by have := hovl H e; omega) (fun e => by have := hwvl H e; omega), ← hH]; exact qa
    · rw [g1 (H + 1) (by omega) (by omega) (fun e => by have := hovl _ e; omega) (fun e => by have := hwvl _ e; omega), ← hH]; exact qb
    · simp only [World.cell?]
      rw [g2 b (by omega) h2 (fun e => by have := hovl b e; omega) (fun e => by have := hwvl b e; omega)]
    · have hh := hB.hd
      simp only [World.cell?, hh] at e
      obtain ⟨ga, gc, rfl⟩ := HSH.out.1
      obtain ⟨gb, gd, rfl⟩ := HSH.out.2
      rcases o with _ | _ | o
      · simp at e
      · simp at e
      · simp at e⟩
  have HX : Bx ((I64 x.k ∧ I64 x.n) ∧ x.sz ≤ 1000000 ∧ B ≤ lo) := ⟨⟨hk64, hn64⟩, hx, hBl⟩
  obtain ⟨c00, c01, c02, f00, f01, f02, hl0⟩ := c3 qa
  obtain ⟨c10, c11, c12, f10, f11, f12, hl1⟩ := c3 qb
  rw [hH] at c00 c01 c02 c10 c11 c12 f00 f01 f02 f10 f11 f12 hl0 hl1
  have HH : Bx (W0.heap.size = H + 2) := ⟨s0⟩
  clear hB o1 o2 w1 w2 hlow hsiz b0 qa qb hovl hwvl hp htl hst hρ hw hBl hx hk64 hn64 s0
  go_enter Try.func11, Try.ntmps11
  go_wp2
  refine region_flowV (KpS W0.drew lo h 0 ov wv n cs x false p0 c0 (cv1 h ov x p0 c0 n) 3 4 6 7 8 9 12) (by kernel_rfl) (by decide +kernel) HS1.out ?stp ?fin
  case stp =>
    intro u9 wz jj op bb hS hnu ho hdep hA
    rcases jj with _ | _ | _ | _ | _ | _ | _ | _ | _ | _ | _ | _ | _ | jj
    · simp only [List.getElem?_cons_succ, List.getElem?_cons_zero, Option.some.injEq] at ho
      subst ho
      have f0 := hA.was (t := 0) (by decide +kernel)
      simp only [Act.eval] at f0
      refine ⟨rfl, .inl ⟨.pointer (some ⟨h, 0, none⟩), wz, ?_, hS.pure (by decide) (fun e => by cases e) rfl⟩⟩
      simp only [execOp, f0]
      go_simp
      try rfl
    · simp only [List.getElem?_cons_succ, List.getElem?_cons_zero, Option.some.injEq] at ho
      subst ho
      have e0 := hA.at_ (j := 0) (t := 7) rfl rfl (hS.get (hdep ⟨0, Ground.data⟩ (by simp) rfl) (c := .pointer (some ⟨h, 0, none⟩)) rfl) (Nat.le_of_ble_eq_true rfl)
      refine ⟨rfl, .inl ⟨.pointer (some ⟨h, 0, none⟩), wz, ?_, hS.pure (by decide) (fun e => by cases e) rfl⟩⟩
      simp only [execOp, e0]
      go_simp
      try rfl
    · simp only [List.getElem?_cons_succ, List.getElem?_cons_zero, Option.some.injEq] at ho
      subst ho
      have e1 := hA.at_ (j := 1) (t := 8) rfl rfl (hS.get (hdep ⟨1, Ground.data⟩ (by simp) rfl) (c := .pointer (some ⟨h, 0, none⟩)) rfl) (Nat.le_of_ble_eq_true rfl)
      refine ⟨rfl, .inl ⟨.pointer (some ⟨h, 0, none⟩), wz, ?_, hS.pure (by decide) (fun e => by cases e) rfl⟩⟩
      simp only [execOp, e1]
      go_simp
      try rfl
    · simp only [List.getElem?_cons_succ, List.getElem?_cons_zero, Option.some.injEq] at ho
      subst ho
      have e2 := hA.at_ (j := 2) (t := 9) rfl rfl (hS.get (hdep ⟨2, Ground.data⟩ (by simp) rfl) (c := .pointer (some ⟨h, 0, none⟩)) rfl) (Nat.le_of_ble_eq_true rfl)
      have hja : u9 7 = none := by
        cases hh : u9 7 with
        | none => rfl
        | some y => exact absurd hnu (hS.d1 (by rw [hh]; simp))
      have hjh : u9 12 = none := by
        cases hh : u9 12 with
        | none => rfl
        | some y => exact absurd hja (hS.d2 (by rw [hh]; simp))
      have c0 := cell_blk (hS.hd0 hjh) (hdr_at (show 0 < 2 by decide) _ _)
      refine ⟨rfl, .inl ⟨ov, wz, ?_, hS.pure (by decide) (fun e => by cases e) rfl⟩⟩
      simp only [execOp, e2]
      go_simp
      try rfl
    · simp only [List.getElem?_cons_succ, List.getElem?_cons_zero, Option.some.injEq] at ho
      subst ho
      have f4 := hA.was (t := 4) (by decide +kernel)
      simp only [Act.eval] at f4
      have hjs : u9 9 = none := by
        cases hh : u9 9 with
        | none => rfl
        | some y => exact absurd hnu (hS.d3 (by rw [hh]; simp)).1
      obtain ⟨q0, q1, q2⟩ := HV0.out wz hS.size hS.blk
      refine ⟨rfl, .inl ⟨agV x.k x.n p0 x.l.length c0, wz, ?_, hS.pure (by decide) (fun _ => ⟨rfl, rfl, hjs⟩) rfl⟩⟩
      simp only [execOp, f4]
      go_simp
      try rfl
    · simp only [List.getElem?_cons_succ, List.getElem?_cons_zero, Option.some.injEq] at ho
      subst ho
      have e3 := hA.at_ (j := 3) (t := 10) rfl rfl (hS.get (hdep ⟨3, Ground.data⟩ (by simp) rfl) (c := ov) rfl) (Nat.le_of_ble_eq_true rfl)
      have b3 : bb.tmps[10]?.getD undef = ov := by simpa [Act.eval, Array.getD_eq_getD_getElem?] using e3
      have hov := HSH.out.1
      obtain ⟨ga, gc, rfl⟩ := hov
      refine ⟨rfl, .inl ⟨.int .i64 n, wz, ?_, hS.pure (by decide) (fun e => by cases e) rfl⟩⟩
      simp only [execOp, e3, b3]
      go_simp
      try rfl
    · simp only [List.getElem?_cons_succ, List.getElem?_cons_zero, Option.some.injEq] at ho
      subst ho
      have hna : u9 7 = none := by
        cases hh : u9 7 with
        | none => rfl
        | some y => exact absurd hnu (hS.d4 (by rw [hh]; simp))
      refine ⟨rfl, .inl ⟨.slice (some ⟨wz.heap.size, 0, none⟩) 1 1, wz.alloc (.cells z3c.toArray 24), ?_, hS.build (by decide) rfl hna⟩⟩
      simp only [execOp]
      go_simp
      try rfl
    · simp only [List.getElem?_cons_succ, List.getElem?_cons_zero, Option.some.injEq] at ho
      subst ho
      obtain ⟨vb, hvb⟩ := hdep ⟨6, Ground.data⟩ (by simp) rfl
      obtain ⟨g0, hg0, _⟩ := hS.bs vb hvb hnu
      subst hg0
      obtain ⟨g, c, W3, hr, hS3⟩ := hS.append (by decide) rfl hnu (by obtain ⟨vl, hvl⟩ := hdep ⟨3, Ground.data⟩ (by simp) rfl; rw [hvl]; simp) hvb HLO.out.1 HLO.out.2.1 HLO.out.2.2
      have e3 := hA.at_ (j := 3) (t := 10) rfl rfl (hS.get (hdep ⟨3, Ground.data⟩ (by simp) rfl) (c := ov) rfl) (Nat.le_of_ble_eq_true rfl)
      have e6 := hA.at_ (j := 6) (t := 13) rfl rfl hvb (Nat.le_of_ble_eq_true rfl)
      refine ⟨rfl, .inl ⟨_, W3, ?_, hS3⟩⟩
      simp [execOp, resolve, invoke, builtin, e3, e6, hr, Result.andThen]
    · simp only [List.getElem?_cons_succ, List.getElem?_cons_zero, Option.some.injEq] at ho
      subst ho
      obtain ⟨va, hva⟩ := hdep ⟨7, Ground.data⟩ (by simp) rfl
      obtain ⟨g, c, hg, hgc, _, _, _⟩ := hS.app va hva
      subst hg
      have e7 := hA.at_ (j := 7) (t := 14) rfl rfl hva (Nat.le_of_ble_eq_true rfl)
      have e5 := hA.at_ (j := 5) (t := 12) rfl rfl (hS.get (hdep ⟨5, Ground.data⟩ (by simp) rfl) (c := .int .i64 n) rfl) (Nat.le_of_ble_eq_true rfl)
      have hn0 : (0 : Int) ≤ (n : Int) := by omega
      have hn1 : (n : Int) < ((n + 1 : Nat) : Int) := by omega
      have hn2 : n < n + 1 := by omega
      refine ⟨rfl, .inl ⟨.pointer (some ⟨g, n * 3, none⟩), wz, ?_, hS.place (by decide) rfl hva⟩⟩
      simp only [execOp, e7, e5]
      go_simp
      try first | rfl | (intro hq; exfalso; omega)
    · simp only [List.getElem?_cons_succ, List.getElem?_cons_zero, Option.some.injEq] at ho
      subst ho
      obtain ⟨vx, hvx⟩ := hdep ⟨8, Ground.data⟩ (by simp) rfl
      obtain ⟨vc, hvc⟩ := hdep ⟨4, Ground.data⟩ (by simp) rfl
      obtain ⟨g, c, hva, hg⟩ := hS.ptr vx hvx
      subst hg
      obtain ⟨p, c2, hp, _, _⟩ := hS.call vc hvc
      subst hp
      have ex := hA.at_ (j := 8) (t := 15) rfl rfl hvx (Nat.le_of_ble_eq_true rfl)
      have ec := hA.at_ (j := 4) (t := 11) rfl rfl hvc (Nat.le_of_ble_eq_true rfl)
      have hlen := HCS.out
      obtain ⟨g2, c3, hq, hcc, _, hrow, _⟩ := hS.app _ hva
      have hS3 := hS.stored (by decide) rfl hnu hlen HLO.out.2.1 hva hvc undef
      obtain ⟨u0, u1, u2, t0, t1, t2, tf, tl⟩ := row_cells (hrow hnu)
      have f0 := tf (n * 3)
      have f1 := tf (n * 3 + 1)
      have f2 := tf (n * 3 + 2)
      refine ⟨rfl, .inr (.inl ⟨_, ?_, hS3⟩)⟩
      clear hS3 hcc hrow hlen
      simp only [execOp, ex, ec, agV]
      go_simp
      try rfl
    · simp only [List.getElem?_cons_succ, List.getElem?_cons_zero, Option.some.injEq] at ho
      subst ho
      have e0 := hA.at_ (j := 0) (t := 7) rfl rfl (hS.get (hdep ⟨0, Ground.data⟩ (by simp) rfl) (c := .pointer (some ⟨h, 0, none⟩)) rfl) (Nat.le_of_ble_eq_true rfl)
      refine ⟨rfl, .inl ⟨.pointer (some ⟨h, 0, none⟩), wz, ?_, hS.pure (by decide) (fun e => by cases e) rfl⟩⟩
      simp only [execOp, e0]
      go_simp
      try rfl
    · simp only [List.getElem?_cons_succ, List.getElem?_cons_zero, Option.some.injEq] at ho
      subst ho
      have e10 := hA.at_ (j := 10) (t := 16) rfl rfl (hS.get (hdep ⟨10, Ground.data⟩ (by simp) rfl) (c := .pointer (some ⟨h, 0, none⟩)) rfl) (Nat.le_of_ble_eq_true rfl)
      refine ⟨rfl, .inl ⟨.pointer (some ⟨h, 0, none⟩), wz, ?_, hS.pure (by decide) (fun e => by cases e) rfl⟩⟩
      simp only [execOp, e10]
      go_simp
      try rfl
    · simp only [List.getElem?_cons_succ, List.getElem?_cons_zero, Option.some.injEq] at ho
      subst ho
      obtain ⟨va, hva⟩ := hdep ⟨7, Ground.data⟩ (by simp) rfl
      have ea := hA.at_ (j := 7) (t := 14) rfl rfl hva (Nat.le_of_ble_eq_true rfl)
      have e11 := hA.at_ (j := 11) (t := 17) rfl rfl (hS.get (hdep ⟨11, Ground.data⟩ (by simp) rfl) (c := .pointer (some ⟨h, 0, none⟩)) rfl) (Nat.le_of_ble_eq_true rfl)
      have hhd := hS.hd0 hnu
      have c0 := cell_blk hhd (hdr_at (show 0 < 2 by decide) _ _)
      have f0 : wz.frozen? ⟨h, 0, none⟩ = false := frz_blk hhd
      have hhl := heap_lt hhd
      obtain ⟨ga, ca, hga, _⟩ := hS.app va hva
      subst hga
      have hS3 := hS.headed (by decide) rfl hnu (by decide) HLO.out.2.1 HLO.out.1 hva (fun s t _ h1 h2 => by have := HLO.out.1; have := HLO.out.2.1; omega) undef
      refine ⟨rfl, .inr (.inl ⟨_, ?_, hS3⟩)⟩
      simp only [execOp, e11, ea]
      go_simp
      try rfl
    · simp at ho
  case fin =>
    intro u9 vs W1 hvl hvs hS
    match vs, hvl with
    | [y0, y1, y2, y3, y4, y5, y6, y7, y8, y9, y10, y11, y12], _ =>
      have f0 : y0 = .pointer (some ⟨h, 0, none⟩) := hS.pur 0 y0 (hvs 0 (Nat.le_of_ble_eq_true rfl)) _ rfl
      have f1 : y1 = .pointer (some ⟨h, 0, none⟩) := hS.pur 1 y1 (hvs 1 (Nat.le_of_ble_eq_true rfl)) _ rfl
      have f2 : y2 = .pointer (some ⟨h, 0, none⟩) := hS.pur 2 y2 (hvs 2 (Nat.le_of_ble_eq_true rfl)) _ rfl
      have f3 : y3 = ov := hS.pur 3 y3 (hvs 3 (Nat.le_of_ble_eq_true rfl)) _ rfl
      have f4 : y4 = agV x.k x.n p0 x.l.length c0 := hS.pur 4 y4 (hvs 4 (Nat.le_of_ble_eq_true rfl)) _ rfl
      have f5 : y5 = .int .i64 n := hS.pur 5 y5 (hvs 5 (Nat.le_of_ble_eq_true rfl)) _ rfl
      have f10 : y10 = .pointer (some ⟨h, 0, none⟩) := hS.pur 10 y10 (hvs 10 (Nat.le_of_ble_eq_true rfl)) _ rfl
      have f11 : y11 = .pointer (some ⟨h, 0, none⟩) := hS.pur 11 y11 (hvs 11 (Nat.le_of_ble_eq_true rfl)) _ rfl
      obtain ⟨pa, ca, E1⟩ := hS.fin (av := y7) (y := y4) (hvs 7 (Nat.le_of_ble_eq_true rfl)) (hvs 4 (Nat.le_of_ble_eq_true rfl)) (by rw [hvs 9 (Nat.le_of_ble_eq_true rfl)]; simp) (by rw [hvs 12 (Nat.le_of_ble_eq_true rfl)]; simp)
      subst f0
      subst f1
      subst f2
      subst f3
      subst f4
      subst f5
      subst f10
      subst f11
      have E1B : Bx _ := ⟨E1⟩
      clear E1 hS hvs
      refine ⟨_, flowF 7 9 (by decide +kernel) (by rfl) (by exact Nat.le_of_ble_eq_true rfl) (by exact Nat.le_of_ble_eq_true rfl) (by simp only [List.drop_succ_cons, List.drop_zero, List.drop_nil, List.take_succ_cons, List.take_zero, List.cons_append, List.nil_append, flowEnd, Act.put, List.setIfInBounds_toArray, List.set_cons_zero, List.set_cons_succ]; rfl), ?_⟩
      obtain ⟨hz1, hz2, hs2⟩ := HN1.out W1 _ _ _ E1B.out
      have HS2 : Bx _ := ⟨hs2⟩
      have HV : Bx _ := ⟨HN2.out W1 _ _ _ E1B.out⟩
      have HV1 : Bx (∀ wz : World, W1.drew.heap.size ≤ wz.heap.size → (∀ b, b < W1.drew.heap.size → b ≠ h → wv.ownBlock ≠ some b → wz.heap[b]? = W1.drew.heap[b]?) → wz.cell? ⟨H + 1, 0, none⟩ = some (.int .i64 x.k) ∧ wz.cell? ⟨H + 1, 1, none⟩ = some (.int .i64 x.n) ∧ wz.cell? ⟨H + 1, 2, none⟩ = some (.slice p1 x.l.length c1)) := ⟨fun wz h1 h2 => by
        obtain ⟨_, _, q, _⟩ := HV.out wz h1 h2
        exact ⟨cell_blk q rfl, cell_blk q rfl, cell_blk q rfl⟩⟩
      have HOW : Bx (∀ wz : World, (W1.drew.heap.size ≤ wz.heap.size ∧ ∀ b, b < W1.drew.heap.size → b ≠ h → wv.ownBlock ≠ some b → wz.heap[b]? = W1.drew.heap[b]?) → Calls Try.prog 6 #[agV x.k x.n p1 x.l.length c1] wz (OwP2 wz x)) := ⟨fun wz hz => by
        obtain ⟨_, _, _, q, q2⟩ := HV.out wz hz.1 hz.2
        exact lownP_any wz B _ x q q2 HX.out.2.1⟩
      have hLO := HLO.out.2
      clear HLO HCS HS1 HN1 HN2 HV0 c00 c01 c02 c10 c11 c12 f00 f01 f02 f10 f11 f12 hl0 hl1
      have HLO : Bx (lo ≤ W1.drew.heap.size ∧ h < lo ∧ n ≤ 1000000) := ⟨hz1, hLO⟩
      have HCS : Bx (ds.length = n * 3) := HDS
      clear hLO HDS hs2
      go_wp2
      refine region_flowV (KpS W1.drew lo h 1 wv y7 n ds x true p1 c1 (cv2 h wv x p1 c1 n) 3 5 7 8 9 10 13) (by kernel_rfl) (by decide +kernel) HS2.out ?stp ?fin
      case stp =>
        intro u9 wz jj op bb hS hnu ho hdep hA
        rcases jj with _ | _ | _ | _ | _ | _ | _ | _ | _ | _ | _ | _ | _ | _ | jj
        · simp only [List.getElem?_cons_succ, List.getElem?_cons_zero, Option.some.injEq] at ho
          subst ho
          have f0 := hA.was (t := 0) (by decide +kernel)
          simp only [Act.eval] at f0
          refine ⟨rfl, .inl ⟨.pointer (some ⟨h, 0, none⟩), wz, ?_, hS.pure (by decide) (fun e => by cases e) rfl⟩⟩
          simp only [execOp, f0]
          go_simp
          try rfl
        · simp only [List.getElem?_cons_succ, List.getElem?_cons_zero, Option.some.injEq] at ho
          subst ho
          have e0 := hA.at_ (j := 0) (t := 18) rfl rfl (hS.get (hdep ⟨0, Ground.data⟩ (by simp) rfl) (c := .pointer (some ⟨h, 0, none⟩)) rfl) (Nat.le_of_ble_eq_true rfl)
          refine ⟨rfl, .inl ⟨.pointer (some ⟨h, 0, none⟩), wz, ?_, hS.pure (by decide) (fun e => by cases e) rfl⟩⟩
          simp only [execOp, e0]
          go_simp
          try rfl
        · simp only [List.getElem?_cons_succ, List.getElem?_cons_zero, Option.some.injEq] at ho
          subst ho
          have e1 := hA.at_ (j := 1) (t := 19) rfl rfl (hS.get (hdep ⟨1, Ground.data⟩ (by simp) rfl) (c := .pointer (some ⟨h, 0, none⟩)) rfl) (Nat.le_of_ble_eq_true rfl)
          refine ⟨rfl, .inl ⟨.pointer (some ⟨h, 1, none⟩), wz, ?_, hS.pure (by decide) (fun e => by cases e) rfl⟩⟩
          simp only [execOp, e1]
          go_simp
          try rfl
        · simp only [List.getElem?_cons_succ, List.getElem?_cons_zero, Option.some.injEq] at ho
          subst ho
          have e2 := hA.at_ (j := 2) (t := 20) rfl rfl (hS.get (hdep ⟨2, Ground.data⟩ (by simp) rfl) (c := .pointer (some ⟨h, 1, none⟩)) rfl) (Nat.le_of_ble_eq_true rfl)
          have hja : u9 8 = none := by
            cases hh : u9 8 with
            | none => rfl
            | some y => exact absurd hnu (hS.d1 (by rw [hh]; simp))
          have hjh : u9 13 = none := by
            cases hh : u9 13 with
            | none => rfl
            | some y => exact absurd hja (hS.d2 (by rw [hh]; simp))
          have c0 := cell_blk (hS.hd0 hjh) (hdr_at (show 1 < 2 by decide) _ _)
          refine ⟨rfl, .inl ⟨wv, wz, ?_, hS.pure (by decide) (fun e => by cases e) rfl⟩⟩
          simp only [execOp, e2]
          go_simp
          try rfl
        · simp only [List.getElem?_cons_succ, List.getElem?_cons_zero, Option.some.injEq] at ho
          subst ho
          have f5 := hA.was (t := 5) (by decide +kernel)
          simp only [Act.eval] at f5
          obtain ⟨q0, q1, q2⟩ := HV1.out wz hS.size hS.blk
          refine ⟨rfl, .inl ⟨agV x.k x.n p1 x.l.length c1, wz, ?_, hS.pure (by decide) (fun e => by cases e) rfl⟩⟩
          simp only [execOp, f5]
          go_simp
          try rfl
        · simp only [List.getElem?_cons_succ, List.getElem?_cons_zero, Option.some.injEq] at ho
          subst ho
          have e4 := hA.at_ (j := 4) (t := 22) rfl rfl (hS.get (hdep ⟨4, Ground.data⟩ (by simp) rfl) (c := agV x.k x.n p1 x.l.length c1) rfl) (Nat.le_of_ble_eq_true rfl)
          have b4 : bb.tmps[22]?.getD undef = agV x.k x.n p1 x.l.length c1 := by simpa [Act.eval, Array.getD_eq_getD_getElem?] using e4
          refine ⟨rfl, .inr (.inr ⟨_, _, ?_, Calls.mono (HOW.out wz ⟨hS.size, hS.blk⟩) ?_⟩)⟩
          · simp only [execOp, e4]
            go_simp
            try first | rfl | simp [b4]
          · rintro e w2 ⟨p, c, rfl, _, hpv, hb2⟩
            exact ⟨_, rfl, hS.called (by decide) rfl hnu rfl hb2 hpv (by have := hS.size; have := HLO.out.1; have := HLO.out.2.1; omega)⟩
        · simp only [List.getElem?_cons_succ, List.getElem?_cons_zero, Option.some.injEq] at ho
          subst ho
          have e3 := hA.at_ (j := 3) (t := 21) rfl rfl (hS.get (hdep ⟨3, Ground.data⟩ (by simp) rfl) (c := wv) rfl) (Nat.le_of_ble_eq_true rfl)
          have b3 : bb.tmps[21]?.getD undef = wv := by simpa [Act.eval, Array.getD_eq_getD_getElem?] using e3
          have hov := HSH.out.2
          obtain ⟨ga, gc, rfl⟩ := hov
          refine ⟨rfl, .inl ⟨.int .i64 n, wz, ?_, hS.pure (by decide) (fun e => by cases e) rfl⟩⟩
          simp only [execOp, e3, b3]
          go_simp
          try rfl
        · simp only [List.getElem?_cons_succ, List.getElem?_cons_zero, Option.some.injEq] at ho
          subst ho
          have hna : u9 8 = none := by
            cases hh : u9 8 with
            | none => rfl
            | some y => exact absurd hnu (hS.d4 (by rw [hh]; simp))
          refine ⟨rfl, .inl ⟨.slice (some ⟨wz.heap.size, 0, none⟩) 1 1, wz.alloc (.cells z3c.toArray 24), ?_, hS.build (by decide) rfl hna⟩⟩
          simp only [execOp]
          go_simp
          try rfl
        · simp only [List.getElem?_cons_succ, List.getElem?_cons_zero, Option.some.injEq] at ho
          subst ho
          obtain ⟨vb, hvb⟩ := hdep ⟨7, Ground.data⟩ (by simp) rfl
          obtain ⟨g0, hg0, _⟩ := hS.bs vb hvb hnu
          subst hg0
          obtain ⟨g, c, W3, hr, hS3⟩ := hS.append (by decide) rfl hnu (by obtain ⟨vl, hvl⟩ := hdep ⟨3, Ground.data⟩ (by simp) rfl; rw [hvl]; simp) hvb HLO.out.1 HLO.out.2.1 HLO.out.2.2
          have e3 := hA.at_ (j := 3) (t := 21) rfl rfl (hS.get (hdep ⟨3, Ground.data⟩ (by simp) rfl) (c := wv) rfl) (Nat.le_of_ble_eq_true rfl)
          have e7 := hA.at_ (j := 7) (t := 25) rfl rfl hvb (Nat.le_of_ble_eq_true rfl)
          refine ⟨rfl, .inl ⟨_, W3, ?_, hS3⟩⟩
          simp [execOp, resolve, invoke, builtin, e3, e7, hr, Result.andThen]
        · simp only [List.getElem?_cons_succ, List.getElem?_cons_zero, Option.some.injEq] at ho
          subst ho
          obtain ⟨va, hva⟩ := hdep ⟨8, Ground.data⟩ (by simp) rfl
          obtain ⟨g, c, hg, hgc, _, _, _⟩ := hS.app va hva
          subst hg
          have e8 := hA.at_ (j := 8) (t := 26) rfl rfl hva (Nat.le_of_ble_eq_true rfl)
          have e6 := hA.at_ (j := 6) (t := 24) rfl rfl (hS.get (hdep ⟨6, Ground.data⟩ (by simp) rfl) (c := .int .i64 n) rfl) (Nat.le_of_ble_eq_true rfl)
          have hn0 : (0 : Int) ≤ (n : Int) := by omega
          have hn1 : (n : Int) < ((n + 1 : Nat) : Int) := by omega
          have hn2 : n < n + 1 := by omega
          refine ⟨rfl, .inl ⟨.pointer (some ⟨g, n * 3, none⟩), wz, ?_, hS.place (by decide) rfl hva⟩⟩
          simp only [execOp, e8, e6]
          go_simp
          try first | rfl | (intro hq; exfalso; omega)
        · simp only [List.getElem?_cons_succ, List.getElem?_cons_zero, Option.some.injEq] at ho
          subst ho
          obtain ⟨vx, hvx⟩ := hdep ⟨9, Ground.data⟩ (by simp) rfl
          obtain ⟨vc, hvc⟩ := hdep ⟨5, Ground.data⟩ (by simp) rfl
          obtain ⟨g, c, hva, hg⟩ := hS.ptr vx hvx
          subst hg
          obtain ⟨p, c2, hp, _, _⟩ := hS.call vc hvc
          subst hp
          have ex := hA.at_ (j := 9) (t := 27) rfl rfl hvx (Nat.le_of_ble_eq_true rfl)
          have ec := hA.at_ (j := 5) (t := 23) rfl rfl hvc (Nat.le_of_ble_eq_true rfl)
          have hlen := HCS.out
          obtain ⟨g2, c3, hq, hcc, _, hrow, _⟩ := hS.app _ hva
          have hS3 := hS.stored (by decide) rfl hnu hlen HLO.out.2.1 hva hvc undef
          obtain ⟨u0, u1, u2, t0, t1, t2, tf, tl⟩ := row_cells (hrow hnu)
          have f0 := tf (n * 3)
          have f1 := tf (n * 3 + 1)
          have f2 := tf (n * 3 + 2)
          refine ⟨rfl, .inr (.inl ⟨_, ?_, hS3⟩)⟩
          clear hS3 hcc hrow hlen
          simp only [execOp, ex, ec, agV]
          go_simp
          try rfl
        · simp only [List.getElem?_cons_succ, List.getElem?_cons_zero, Option.some.injEq] at ho
          subst ho
          have e0 := hA.at_ (j := 0) (t := 18) rfl rfl (hS.get (hdep ⟨0, Ground.data⟩ (by simp) rfl) (c := .pointer (some ⟨h, 0, none⟩)) rfl) (Nat.le_of_ble_eq_true rfl)
          refine ⟨rfl, .inl ⟨.pointer (some ⟨h, 0, none⟩), wz, ?_, hS.pure (by decide) (fun e => by cases e) rfl⟩⟩
          simp only [execOp, e0]
          go_simp
          try rfl
        · simp only [List.getElem?_cons_succ, List.getElem?_cons_zero, Option.some.injEq] at ho
          subst ho
          have e11 := hA.at_ (j := 11) (t := 28) rfl rfl (hS.get (hdep ⟨11, Ground.data⟩ (by simp) rfl) (c := .pointer (some ⟨h, 0, none⟩)) rfl) (Nat.le_of_ble_eq_true rfl)
          refine ⟨rfl, .inl ⟨.pointer (some ⟨h, 1, none⟩), wz, ?_, hS.pure (by decide) (fun e => by cases e) rfl⟩⟩
          simp only [execOp, e11]
          go_simp
          try rfl
        · simp only [List.getElem?_cons_succ, List.getElem?_cons_zero, Option.some.injEq] at ho
          subst ho
          obtain ⟨va, hva⟩ := hdep ⟨8, Ground.data⟩ (by simp) rfl
          have ea := hA.at_ (j := 8) (t := 26) rfl rfl hva (Nat.le_of_ble_eq_true rfl)
          have e12 := hA.at_ (j := 12) (t := 29) rfl rfl (hS.get (hdep ⟨12, Ground.data⟩ (by simp) rfl) (c := .pointer (some ⟨h, 1, none⟩)) rfl) (Nat.le_of_ble_eq_true rfl)
          have hhd := hS.hd0 hnu
          have c0 := cell_blk hhd (hdr_at (show 1 < 2 by decide) _ _)
          have f0 : wz.frozen? ⟨h, 1, none⟩ = false := frz_blk hhd
          have hhl := heap_lt hhd
          obtain ⟨ga, ca, hga, _⟩ := hS.app va hva
          subst hga
          have hS3 := hS.headed (by decide) rfl hnu (by decide) HLO.out.2.1 HLO.out.1 hva (fun s t _ h1 h2 => by have := HLO.out.1; have := HLO.out.2.1; omega) undef
          refine ⟨rfl, .inr (.inl ⟨_, ?_, hS3⟩)⟩
          simp only [execOp, e12, ea]
          go_simp
          try rfl
        · simp at ho
      case fin =>
        intro u9 vs W2 hvl hvs hS
        match vs, hvl with
        | [z0, z1, z2, z3, z4, z5, z6, z7, z8, z9, z10, z11, z12, z13], _ =>
          have f0 : z0 = .pointer (some ⟨h, 0, none⟩) := hS.pur 0 z0 (hvs 0 (Nat.le_of_ble_eq_true rfl)) _ rfl
          have f1 : z1 = .pointer (some ⟨h, 0, none⟩) := hS.pur 1 z1 (hvs 1 (Nat.le_of_ble_eq_true rfl)) _ rfl
          have f2 : z2 = .pointer (some ⟨h, 1, none⟩) := hS.pur 2 z2 (hvs 2 (Nat.le_of_ble_eq_true rfl)) _ rfl
          have f3 : z3 = wv := hS.pur 3 z3 (hvs 3 (Nat.le_of_ble_eq_true rfl)) _ rfl
          have f4 : z4 = agV x.k x.n p1 x.l.length c1 := hS.pur 4 z4 (hvs 4 (Nat.le_of_ble_eq_true rfl)) _ rfl
          have f6 : z6 = .int .i64 n := hS.pur 6 z6 (hvs 6 (Nat.le_of_ble_eq_true rfl)) _ rfl
          have f11 : z11 = .pointer (some ⟨h, 0, none⟩) := hS.pur 11 z11 (hvs 11 (Nat.le_of_ble_eq_true rfl)) _ rfl
          have f12 : z12 = .pointer (some ⟨h, 1, none⟩) := hS.pur 12 z12 (hvs 12 (Nat.le_of_ble_eq_true rfl)) _ rfl
          obtain ⟨pb, cb, E2⟩ := hS.fin (av := z8) (y := z5) (hvs 8 (Nat.le_of_ble_eq_true rfl)) (hvs 5 (Nat.le_of_ble_eq_true rfl)) (by rw [hvs 10 (Nat.le_of_ble_eq_true rfl)]; simp) (by rw [hvs 13 (Nat.le_of_ble_eq_true rfl)]; simp)
          subst f0
          subst f1
          subst f2
          subst f3
          subst f4
          subst f6
          subst f11
          subst f12
          have E2B : Bx _ := ⟨E2⟩
          clear E2 hS hvs
          refine ⟨_, flowF 18 10 (by decide +kernel) (by rfl) (by exact Nat.le_of_ble_eq_true rfl) (by exact Nat.le_of_ble_eq_true rfl) (by simp only [List.drop_succ_cons, List.drop_zero, List.drop_nil, List.take_succ_cons, List.take_zero, List.cons_append, List.nil_append, flowEnd, Act.put, List.setIfInBounds_toArray, List.set_cons_zero, List.set_cons_succ]; rfl), ?_⟩
          obtain ⟨_, r0, r1, r2, r3⟩ := HV.out W2 E2B.out.size E2B.out.blk
          obtain ⟨hK, hP⟩ := HPU.out W1 W2 _ _ _ _ _ _ E1B.out E2B.out
          have HK : Bx _ := ⟨hK⟩
          obtain ⟨c00, c01, c02, f00, f01, f02, hl0⟩ := c3 r0
          obtain ⟨c10, c11, c12, f10, f11, f12, hl1⟩ := c3 r1
          have HSM : Bx _ := ⟨same_any W2 W2.heap.size (agV x.k x.n p0 x.l.length c0) (agV x.k x.n p1 x.l.length c1) x x ⟨⟨p0, c0, rfl, hP.sl (by decide)⟩, HX.out.1.1, HX.out.1.2⟩ (r2.up r3) (Nat.le_refl _)⟩
          clear hK hP r0 r1 r2 r3 HPU HV HV1 HOW HLO HCS HX E1B E2B
          go_wp2_with (first
            | (go_at_call 12; refine Calls.mono HSM.out ?_; rintro e w3 ⟨rfl, hb3⟩; have HK3 : Bx _ := ⟨HK.out.next hb3⟩; rw [eqB_yes rfl]; clear hb3))
          go_ret
          exact ⟨rfl, HK3⟩
end Go.Proofs.Ytikijkpklneihaa
