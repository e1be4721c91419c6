import Derived.Test.YtikijkpklneihaaCVRo
import Derived.Test.YtikijkpklneihaaCFL
namespace Go.Proofs.Ytikijkpklneihaa
open Go.RowKit
set_option linter.unusedVariables false
set_option linter.unusedSimpArgs false

/-! ### a value that is put behind a field's row, in a drawn region -/
theorem put_eqs (u : Vals) (j : Nat) (v : Value) : ∀ k, k ≠ j → u.put j v k = u k := fun k hk => Vals.put_ne _ _ hk
theorem put_eq_self (u : Vals) (j : Nat) (v : Value) : u.put j v j = some v := Vals.put_self _ _ _
def hdr (fo : Nat) (a b : Value) : Array Value := if fo = 0 then #[a, b] else #[b, a]
theorem hdr_at {fo : Nat} (hf : fo < 2) (a b : Value) : (hdr fo a b)[fo]? = some a := by
  rcases fo with _ | _ | fo
  · rfl
  · rfl
  · omega
theorem hdr_set {fo : Nat} (hf : fo < 2) (a b y : Value) : (hdr fo a b).setIfInBounds fo y = hdr fo y b := by
  rcases fo with _ | _ | fo
  · rfl
  · rfl
  · omega
def z3c : List Value := [.int .i64 0, .int .i64 0, .slice none 0 0]
theorem row_cells {W : World} {lo n g c : Nat} {e : TypeId} {xs : List Value} (h : W.ownsRow lo e 3 (.slice (some ⟨g, 0, none⟩) (n + 1) c) (n + 1) xs) : ∃ u0 u1 u2, W.cell? ⟨g, n * 3, none⟩ = some u0 ∧ W.cell? ⟨g, n * 3 + 1, none⟩ = some u1 ∧ W.cell? ⟨g, n * 3 + 2, none⟩ = some u2 ∧ (∀ o, W.frozen? ⟨g, o, none⟩ = false) ∧ g < W.heap.size := by
  rcases h.2 with ⟨e1, _⟩ | ⟨g', cap, cur, e1, h1, h2, h3, h4, h5, h6⟩
  · cases e1
  · simp only [Value.slice.injEq, Option.some.injEq, Addr.mk.injEq] at e1
    obtain ⟨⟨rfl, _⟩, _, rfl⟩ := e1
    exact ⟨cur[n * 3]'(by omega), cur[n * 3 + 1]'(by omega), cur[n * 3 + 2]'(by omega), cell_blk h2 (Array.getElem?_eq_getElem _), cell_blk h2 (Array.getElem?_eq_getElem _), cell_blk h2 (Array.getElem?_eq_getElem _), fun o => frz_blk h2, heap_lt h2⟩
/-- what is so throughout: jl the row's load, jc the value's, jb a slice of one, ja append, jx its place, js the store there, jh the row's store -/
structure KpS (w0 : World) (lo h fo : Nat) (vv ot : Value) (n : Nat) (cs : List Value) (x : V) (own : Bool) (p0 : Option Addr) (c0 : Nat) (cv : Nat → Option Value) (jl jc jb ja jx js jh : Nat) (u : Vals) (w : World) : Prop where
  os : w.os = w0.os
  tape : w.tape = w0.tape
  output : w.output = w0.output
  size : w0.heap.size ≤ w.heap.size
  blk : ∀ b, b < w0.heap.size → b ≠ h → vv.ownBlock ≠ some b → w.heap[b]? = w0.heap[b]?
  pur : ∀ k v, u k = some v → ∀ c, cv k = some c → v = c
  hd0 : u jh = none → w.heap[h]? = some (.cells (hdr fo vv ot) 30 (0, 0))
  hd1 : ∀ y, u ja = some y → u jh ≠ none → w.heap[h]? = some (.cells (hdr fo y ot) 30 (0, 0))
  row : u ja = none → w.ownsRow lo 24 3 vv n cs
  bs : ∀ v, u jb = some v → u ja = none → ∃ g, v = .slice (some ⟨g, 0, none⟩) 1 1 ∧ w0.heap.size ≤ g ∧ w.heap[g]? = some (.cells z3c.toArray 24 (0, 0))
  call : ∀ v, u jc = some v → ∃ p c, v = agV x.k x.n p x.l.length c ∧ (own = false → p = p0 ∧ c = c0) ∧ (own = true → ∃ s t, w0.heap.size ≤ s ∧ t ≤ w.heap.size ∧ Prv w s t 1 x p c ∧ (∀ y, u ja = some y → ∀ b, s ≤ b → b < t → y.ownBlock ≠ some b))
  app : ∀ v, u ja = some v → ∃ g c, v = .slice (some ⟨g, 0, none⟩) (n + 1) c ∧ n + 1 ≤ c ∧ (vv.ownBlock = some g ∨ w0.heap.size ≤ g) ∧ (u js = none → w.ownsRow lo 24 3 v (n + 1) (cs ++ z3c)) ∧ ∀ y, u js ≠ none → u jc = some y → ∃ p c', y = agV x.k x.n p x.l.length c' ∧ w.ownsRow lo 24 3 v (n + 1) (cs ++ [.int .i64 x.k, .int .i64 x.n, .slice p x.l.length c'])
  ptr : ∀ v, u jx = some v → ∃ g c, u ja = some (.slice (some ⟨g, 0, none⟩) (n + 1) c) ∧ v = .pointer (some ⟨g, n * 3, none⟩)
  d1 : u ja ≠ none → u jl ≠ none
  d2 : u jh ≠ none → u ja ≠ none
  d3 : u js ≠ none → u jc ≠ none ∧ u ja ≠ none
  vlt : ∀ b, vv.ownBlock = some b → b < w0.heap.size
  d4 : u ja ≠ none → u jb ≠ none
section
variable {w0 : World} {lo h fo : Nat} {vv ot : Value} {n : Nat} {cs : List Value} {x : V} {own : Bool} {p0 : Option Addr} {c0 : Nat} {cv : Nat → Option Value} {jl jc jb ja jx js jh : Nat} {u : Vals} {w : World}
theorem KpS.get (H : KpS w0 lo h fo vv ot n cs x own p0 c0 cv jl jc jb ja jx js jh u w) {k : Nat} (hk : ∃ v, u k = some v) {c : Value} (hc : cv k = some c) : u k = some c := by
  obtain ⟨v, hv⟩ := hk
  rw [hv, H.pur k v hv c hc]
/-- a value that hangs on nothing -/
theorem KpS.pure (H : KpS w0 lo h fo vv ot n cs x own p0 c0 cv jl jc jb ja jx js jh u w) {k : Nat} {v : Value} (hk : k ≠ jb ∧ k ≠ ja ∧ k ≠ jx ∧ k ≠ js ∧ k ≠ jh) (hkc : k = jc → own = false ∧ v = agV x.k x.n p0 x.l.length c0 ∧ u js = none) (hv : cv k = some v) : KpS w0 lo h fo vv ot n cs x own p0 c0 cv jl jc jb ja jx js jh (u.put k v) w := by
  obtain ⟨k1, k2, k3, k4, k5⟩ := hk
  have e1 := put_eqs u k v jb (Ne.symm k1)
  have e2 := put_eqs u k v ja (Ne.symm k2)
  have e3 := put_eqs u k v jx (Ne.symm k3)
  have e4 := put_eqs u k v js (Ne.symm k4)
  have e5 := put_eqs u k v jh (Ne.symm k5)
  have ne : ∀ j, u j ≠ none → u.put k v j ≠ none := fun j hj => by
    by_cases e : j = k
    · subst e; rw [put_eq_self]; simp
    · rw [put_eqs u k v j e]; exact hj
  refine ⟨H.os, H.tape, H.output, H.size, H.blk, fun k' v' hk' c hc => ?_, ?_, ?_, ?_, ?_, fun v' hv' => ?_, fun v' hv' => ?_, ?_, ?_, ?_, ?_, H.vlt, by rw [e1, e2]; exact H.d4⟩
  · by_cases e : k' = k
    · subst e
      rw [put_eq_self] at hk'
      rw [hv] at hc
      exact (Option.some.inj hk').symm.trans (Option.some.inj hc)
    · rw [put_eqs u k v k' e] at hk'
      exact H.pur k' v' hk' c hc
  · rw [e5]; exact H.hd0
  · rw [e2, e5]; exact H.hd1
  · rw [e2]; exact H.row
  · rw [e1, e2]; exact H.bs
  · rw [e2]
    by_cases e : jc = k
    · obtain ⟨q1, q2, _⟩ := hkc e.symm
      subst e
      rw [put_eq_self] at hv'
      obtain rfl := Option.some.inj hv'
      exact ⟨p0, c0, q2, fun _ => ⟨rfl, rfl⟩, fun e => by rw [q1] at e; cases e⟩
    · rw [put_eqs u k v jc e] at hv'
      exact H.call v' hv'
  · rw [e2] at hv'
    rw [e4]
    obtain ⟨g, c, a1, a2, a3, a4, a5⟩ := H.app v' hv'
    refine ⟨g, c, a1, a2, a3, a4, fun y hy hc => ?_⟩
    by_cases e : jc = k
    · exact absurd (hkc e.symm).2.2 hy
    · rw [put_eqs u k v jc e] at hc
      exact a5 y hy hc
  · rw [e2, e3]; exact H.ptr
  · rw [e2]; exact fun hj => ne jl (H.d1 hj)
  · rw [e2, e5]; exact H.d2
  · rw [e2, e4]; exact fun hj => ⟨ne jc (H.d3 hj).1, (H.d3 hj).2⟩
/-- the place behind the row -/
theorem KpS.place (H : KpS w0 lo h fo vv ot n cs x own p0 c0 cv jl jc jb ja jx js jh u w) (hN : jx ≠ jb ∧ jx ≠ ja ∧ jx ≠ jl ∧ jx ≠ js ∧ jx ≠ jh ∧ jx ≠ jc) (hc : cv jx = none) {g c : Nat} (ha : u ja = some (.slice (some ⟨g, 0, none⟩) (n + 1) c)) : KpS w0 lo h fo vv ot n cs x own p0 c0 cv jl jc jb ja jx js jh (u.put jx (.pointer (some ⟨g, n * 3, none⟩))) w := by
  obtain ⟨k1, k2, k3, k4, k5, k6⟩ := hN
  obtain ⟨pv, hpv⟩ : ∃ pv, Value.pointer (some ⟨g, n * 3, none⟩) = pv := ⟨_, rfl⟩
  rw [hpv]
  have e1 := put_eqs u jx pv jb (Ne.symm k1)
  have e2 := put_eqs u jx pv ja (Ne.symm k2)
  have e3 := put_eqs u jx pv jl (Ne.symm k3)
  have e4 := put_eqs u jx pv js (Ne.symm k4)
  have e5 := put_eqs u jx pv jh (Ne.symm k5)
  have e6 := put_eqs u jx pv jc (Ne.symm k6)
  refine ⟨H.os, H.tape, H.output, H.size, H.blk, fun k' v' hk' c hc' => ?_, ?_, ?_, ?_, ?_, ?_, ?_, fun v hv => ?_, ?_, ?_, ?_, H.vlt, by rw [e1, e2]; exact H.d4⟩
  · by_cases e : k' = jx
    · subst e; rw [hc] at hc'; cases hc'
    · rw [put_eqs u jx pv k' e] at hk'; exact H.pur k' v' hk' c hc'
  · rw [e5]; exact H.hd0
  · rw [e2, e5]; exact H.hd1
  · rw [e2]; exact H.row
  · rw [e1, e2]; exact H.bs
  · rw [e2, e6]; exact H.call
  · rw [e2, e4, e6]; exact H.app
  · rw [put_eq_self] at hv
    rw [e2]
    exact ⟨g, c, ha, (Option.some.inj hv).symm.trans hpv.symm⟩
  · rw [e2, e3]; exact H.d1
  · rw [e2, e5]; exact H.d2
  · rw [e2, e4, e6]; exact H.d3
/-- a slice of one zero -/
theorem KpS.build (H : KpS w0 lo h fo vv ot n cs x own p0 c0 cv jl jc jb ja jx js jh u w) (hN : jb ≠ jx ∧ jb ≠ ja ∧ jb ≠ jl ∧ jb ≠ js ∧ jb ≠ jh ∧ jb ≠ jc) (hc : cv jb = none) (hna : u ja = none) : KpS w0 lo h fo vv ot n cs x own p0 c0 cv jl jc jb ja jx js jh (u.put jb (.slice (some ⟨w.heap.size, 0, none⟩) 1 1)) (w.alloc (.cells z3c.toArray 24)) := by
  obtain ⟨k1, k2, k3, k4, k5, k6⟩ := hN
  have hb := below1 w (.cells z3c.toArray 24)
  have hq : ∀ {b : Nat} {o : Obj}, w.heap[b]? = some o → (w.alloc (.cells z3c.toArray 24)).heap[b]? = some o := fun {b o} ho => (hb.block b (heap_lt ho)).trans ho
  obtain ⟨pv, hpv⟩ : ∃ pv, Value.slice (some ⟨w.heap.size, 0, none⟩) 1 1 = pv := ⟨_, rfl⟩
  rw [hpv]
  have e1 := put_eqs u jb pv jx (Ne.symm k1)
  have e2 := put_eqs u jb pv ja (Ne.symm k2)
  have e3 := put_eqs u jb pv jl (Ne.symm k3)
  have e4 := put_eqs u jb pv js (Ne.symm k4)
  have e5 := put_eqs u jb pv jh (Ne.symm k5)
  have e6 := put_eqs u jb pv jc (Ne.symm k6)
  refine ⟨hb.os.trans H.os, hb.tape.trans H.tape, hb.output.trans H.output, Nat.le_trans H.size hb.size, fun b h1 h2 h3 => (hb.block b (Nat.lt_of_lt_of_le h1 H.size)).trans (H.blk b h1 h2 h3), fun k' v' hk' c hc' => ?_, fun hu => ?_, fun y hy => ?_, fun hu => own_new (H.row hna) hb, fun v hv _ => ?_, fun v hv => ?_, fun v hv => ?_, ?_, ?_, ?_, ?_, H.vlt, fun _ => by rw [put_eq_self]; simp⟩
  · by_cases e : k' = jb
    · subst e; rw [hc] at hc'; cases hc'
    · rw [put_eqs u jb pv k' e] at hk'; exact H.pur k' v' hk' c hc'
  · rw [e5] at hu; exact hq (H.hd0 hu)
  · rw [e2, hna] at hy; cases hy
  · rw [put_eq_self] at hv
    obtain rfl := Option.some.inj hv
    exact ⟨w.heap.size, hpv.symm, H.size, World.alloc_heap_new _ _⟩
  · rw [e6] at hv
    rw [e2, hna]
    obtain ⟨p, c, q1, q2, q3⟩ := H.call v hv
    refine ⟨p, c, q1, q2, fun ho => ?_⟩
    obtain ⟨s, t, s1, s2, s3, _⟩ := q3 ho
    exact ⟨s, t, s1, Nat.le_trans s2 hb.size, s3.keep fun b _ _ h3 => hb.block b h3, fun y hy => by cases hy⟩
  · rw [e2, hna] at hv; cases hv
  · rw [e1, e2]; exact H.ptr
  · rw [e2, e3]; exact H.d1
  · rw [e2, e5]; exact H.d2
  · rw [e2, e4, e6]; exact H.d3
/-- append -/
theorem KpS.append (H : KpS w0 lo h fo vv ot n cs x own p0 c0 cv jl jc jb ja jx js jh u w) (hN : ja ≠ jx ∧ ja ≠ jb ∧ ja ≠ jl ∧ ja ≠ js ∧ ja ≠ jh ∧ ja ≠ jc) (hc : cv ja = none) (hna : u ja = none) (hl : u jl ≠ none) {g0 : Nat} (hb : u jb = some (.slice (some ⟨g0, 0, none⟩) 1 1)) (hlo : lo ≤ w0.heap.size) (hhl : h < lo) (hn : n ≤ 1000000) :
    ∃ g c W3, (∀ ty, (Builtin.append_ #[22, 22] ty #[vv, .slice (some ⟨g0, 0, none⟩) 1 1]).run Try.prog w = .ok (.slice (some ⟨g, 0, none⟩) (n + 1) c) W3) ∧ KpS w0 lo h fo vv ot n cs x own p0 c0 cv jl jc jb ja jx js jh (u.put ja (.slice (some ⟨g, 0, none⟩) (n + 1) c)) W3 := by
  obtain ⟨k1, k2, k3, k4, k5, k6⟩ := hN
  obtain ⟨g1, b1, b2, b3⟩ := H.bs _ hb hna
  simp only [Value.slice.injEq, Option.some.injEq, Addr.mk.injEq, and_true] at b1
  obtain rfl := b1
  have ho := H.row hna
  have hsz := H.size
  obtain ⟨i0, hi, hz0, hz1, hz2⟩ := info_parts infoVl
  obtain ⟨g, c, W3, r1, r2, r3, r4, _⟩ := run_append_lies (P := Try.prog) w 22 24 lo 24 i0 _ _ _ Try.underlying22 hi hz0 hz1 hz2 rfl (by decide) vv n cs ho ⟨g0, 0, none⟩ 1 1 z3c (by simp [z3c]) (block_cells _ _ _ _ b3) (by simp [z3c, Value.oneCell']) (by omega) (by unfold maxLen; omega) (by omega) (by omega) _ rfl
  have hcap : n + 1 ≤ c := by
    rcases r2.2 with ⟨e1, _⟩ | ⟨g', cap', cur, e1, _, _, q1, _⟩
    · cases e1
    · simp only [Value.slice.injEq] at e1
      obtain ⟨_, _, rfl⟩ := e1
      exact q1
  have hg3 : vv.ownBlock = some g ∨ w.heap.size ≤ g := r4.elim .inl fun e => .inr (by omega)
  obtain ⟨pv, hpv⟩ : ∃ pv, Value.slice (some ⟨g, 0, none⟩) (n + 1) c = pv := ⟨_, rfl⟩
  have hvl : ∀ b, vv.ownBlock = some b → lo ≤ b := fun b hb => own_base ho b hb
  have hvw : ∀ b, vv.ownBlock = some b → b < w.heap.size := fun b hb => (owns_block ho hb).2
  refine ⟨g, c, W3, fun ty => r1, ?_⟩
  rw [hpv]
  have e1 := put_eqs u ja pv jx (Ne.symm k1)
  have e2 := put_eqs u ja pv jb (Ne.symm k2)
  have e3 := put_eqs u ja pv jl (Ne.symm k3)
  have e4 := put_eqs u ja pv js (Ne.symm k4)
  have e5 := put_eqs u ja pv jh (Ne.symm k5)
  have e6 := put_eqs u ja pv jc (Ne.symm k6)
  have hjh : u jh = none := by
    cases hh : u jh with
    | none => rfl
    | some y => exact absurd hna (H.d2 (by rw [hh]; simp))
  have hjs : u js = none := by
    cases hh : u js with
    | none => rfl
    | some y => exact absurd hna (H.d3 (by rw [hh]; simp)).2
  refine ⟨r3.os.trans H.os, r3.tape.trans H.tape, r3.output.trans H.output, Nat.le_trans H.size r3.size, fun b h1 h2 h3 => (r3.block b (by omega) (Ne.symm h3)).trans (H.blk b h1 h2 h3), fun k' v' hk' c hc' => ?_, fun hu => ?_, fun y hy hu => ?_, fun hu => ?_, fun v hv hu => ?_, fun v hv => ?_, fun v hv => ?_, fun v hv => ?_, fun _ => by rw [e3]; exact hl, fun _ => by rw [put_eq_self]; simp, fun hu => by rw [e4, hjs] at hu; exact absurd rfl hu, H.vlt, fun _ => by rw [e2, hb]; simp⟩
  · by_cases e : k' = ja
    · subst e; rw [hc] at hc'; cases hc'
    · rw [put_eqs u ja pv k' e] at hk'; exact H.pur k' v' hk' c hc'
  · rw [r3.block h (by omega) (fun e => by have := hvl h e.symm; omega)]
    exact H.hd0 hjh
  · rw [e5, hjh] at hu; exact absurd rfl hu
  · rw [put_eq_self] at hu; cases hu
  · rw [put_eq_self] at hu; cases hu
  · rw [e6] at hv
    obtain ⟨p, c', q1, q2, q3⟩ := H.call v hv
    refine ⟨p, c', q1, q2, fun hq => ?_⟩
    obtain ⟨s, t, s1, s2, s3, _⟩ := q3 hq
    refine ⟨s, t, s1, Nat.le_trans s2 r3.size, s3.keep fun b h1 h2 h3 => r3.block b h3 fun e => ?_, fun y hy b h1 h2 hyb => ?_⟩
    · have := H.vlt b e.symm
      omega
    · rw [put_eq_self] at hy
      obtain rfl := Option.some.inj hy
      rw [← hpv] at hyb
      simp only [Value.ownBlock, Option.some.injEq] at hyb
      subst hyb
      rcases hg3 with h3 | h3
      · have := H.vlt _ h3
        omega
      · omega
  · rw [put_eq_self] at hv
    obtain rfl := Option.some.inj hv
    rw [e4, hjs]
    exact ⟨g, c, hpv.symm, hcap, hg3.elim .inl fun e => .inr (by omega), fun _ => by rw [← hpv]; exact r2, fun y hy => absurd rfl hy⟩
  · rw [e1] at hv
    obtain ⟨g', c', q, _⟩ := H.ptr v hv
    rw [hna] at q; cases q
/-- a call that makes a tree -/
theorem KpS.called (H : KpS w0 lo h fo vv ot n cs x own p0 c0 cv jl jc jb ja jx js jh u w) (hN : jc ≠ jx ∧ jc ≠ jb ∧ jc ≠ jl ∧ jc ≠ js ∧ jc ≠ jh ∧ jc ≠ ja) (hc : cv jc = none) (hnc : u jc = none) (hown : own = true) {w' : World} {p : Option Addr} {c : Nat} (hb : Below w.heap.size w w') (hp : Prv w' w.heap.size w'.heap.size 1 x p c) (hhw : h < w.heap.size) :
    KpS w0 lo h fo vv ot n cs x own p0 c0 cv jl jc jb ja jx js jh (u.put jc (agV x.k x.n p x.l.length c)) w' := by
  obtain ⟨k1, k2, k3, k4, k5, k6⟩ := hN
  obtain ⟨pv, hpv⟩ : ∃ pv, agV x.k x.n p x.l.length c = pv := ⟨_, rfl⟩
  have hq : ∀ {b : Nat} {o : Obj}, w.heap[b]? = some o → w'.heap[b]? = some o := fun {b o} ho => (hb.block b (heap_lt ho)).trans ho
  rw [hpv]
  have e1 := put_eqs u jc pv jx (Ne.symm k1)
  have e2 := put_eqs u jc pv jb (Ne.symm k2)
  have e3 := put_eqs u jc pv jl (Ne.symm k3)
  have e4 := put_eqs u jc pv js (Ne.symm k4)
  have e5 := put_eqs u jc pv jh (Ne.symm k5)
  have e6 := put_eqs u jc pv ja (Ne.symm k6)
  have hjs : u js = none := by
    cases hh : u js with
    | none => rfl
    | some y => exact absurd hnc (H.d3 (by rw [hh]; simp)).1
  refine ⟨hb.os.trans H.os, hb.tape.trans H.tape, hb.output.trans H.output, Nat.le_trans H.size hb.size, fun b h1 h2 h3 => (hb.block b (Nat.lt_of_lt_of_le h1 H.size)).trans (H.blk b h1 h2 h3), fun k' v' hk' c hc' => ?_, fun hu => ?_, fun y hy hu => ?_, fun hu => ?_, fun v hv hu => ?_, fun v hv => ?_, fun v hv => ?_, ?_, ?_, ?_, fun hu => ?_, H.vlt, by rw [e2, e6]; exact H.d4⟩
  · by_cases e : k' = jc
    · subst e; rw [hc] at hc'; cases hc'
    · rw [put_eqs u jc pv k' e] at hk'; exact H.pur k' v' hk' c hc'
  · rw [e5] at hu; exact hq (H.hd0 hu)
  · rw [e6] at hy; rw [e5] at hu; exact hq (H.hd1 y hy hu)
  · rw [e6] at hu; exact own_new (H.row hu) hb
  · rw [e2] at hv; rw [e6] at hu
    obtain ⟨g, a1, a2, a3⟩ := H.bs v hv hu
    exact ⟨g, a1, a2, hq a3⟩
  · rw [put_eq_self] at hv
    obtain rfl := Option.some.inj hv
    refine ⟨p, c, hpv.symm, fun e => (by rw [hown] at e; cases e), fun _ => ⟨w.heap.size, w'.heap.size, H.size, Nat.le_refl _, hp, fun y hy b h1 _ hyb => ?_⟩⟩
    rw [e6] at hy
    obtain ⟨g, c', a1, _, _, a4, _⟩ := H.app y hy
    have := (owns_block (a4 hjs) hyb).2
    omega
  · rw [e6] at hv
    rw [e4, hjs]
    obtain ⟨g, c', a1, a2, a3, a4, a5⟩ := H.app v hv
    exact ⟨g, c', a1, a2, a3, fun _ => own_new (a4 hjs) hb, fun y hy => absurd rfl hy⟩
  · rw [e1, e6]; exact H.ptr
  · rw [e6, e3]; exact H.d1
  · rw [e5, e6]; exact H.d2
  · rw [e4, hjs] at hu; exact absurd rfl hu
/-- the value is stored behind the row -/
theorem KpS.stored (H : KpS w0 lo h fo vv ot n cs x own p0 c0 cv jl jc jb ja jx js jh u w) (hN : js ≠ jx ∧ js ≠ jb ∧ js ≠ jl ∧ js ≠ jc ∧ js ≠ jh ∧ js ≠ ja) (hc : cv js = none) (hns : u js = none) (hlen : cs.length = n * 3) (hhl : h < lo) {g c : Nat} (ha : u ja = some (.slice (some ⟨g, 0, none⟩) (n + 1) c)) {p : Option Addr} {c' : Nat} (hcl : u jc = some (agV x.k x.n p x.l.length c')) (y : Value) :
    KpS w0 lo h fo vv ot n cs x own p0 c0 cv jl jc jb ja jx js jh (u.put js y) (((w.setCell ⟨g, n * 3, none⟩ (.int .i64 x.k)).setCell ⟨g, n * 3 + 1, none⟩ (.int .i64 x.n)).setCell ⟨g, n * 3 + 2, none⟩ (.slice p x.l.length c')) := by
  obtain ⟨k1, k2, k3, k4, k5, k6⟩ := hN
  have e1 := put_eqs u js y jx (Ne.symm k1)
  have e2 := put_eqs u js y jb (Ne.symm k2)
  have e3 := put_eqs u js y jl (Ne.symm k3)
  have e4 := put_eqs u js y jc (Ne.symm k4)
  have e5 := put_eqs u js y jh (Ne.symm k5)
  have e6 := put_eqs u js y ja (Ne.symm k6)
  obtain ⟨g', c2, a1, a2, a3, a4, _⟩ := H.app _ ha
  simp only [Value.slice.injEq, Option.some.injEq, Addr.mk.injEq, and_true, true_and] at a1
  obtain ⟨rfl, rfl⟩ := a1
  have hrow := own_last3 (.int .i64 x.k) (.int .i64 x.n) (.slice p x.l.length c') (a4 hns) hlen
  have hglo : lo ≤ g := (owns_block (a4 hns) rfl).1
  obtain ⟨W2, hW2⟩ : ∃ W2, ((w.setCell ⟨g, n * 3, none⟩ (.int .i64 x.k)).setCell ⟨g, n * 3 + 1, none⟩ (.int .i64 x.n)).setCell ⟨g, n * 3 + 2, none⟩ (.slice p x.l.length c') = W2 := ⟨_, rfl⟩
  have hoth : ∀ b, b ≠ g → W2.heap[b]? = w.heap[b]? := fun b hb => by
    rw [← hW2, Below.heap_setCell _ _ _ _ hb, Below.heap_setCell _ _ _ _ hb, Below.heap_setCell _ _ _ _ hb]
  have hsz : W2.heap.size = w.heap.size := by rw [← hW2]; simp [World.size_setCell]
  have hos : W2.os = w.os ∧ W2.tape = w.tape ∧ W2.output = w.output := by rw [← hW2]; exact ⟨rfl, rfl, rfl⟩
  rw [hW2] at hrow ⊢
  refine ⟨hos.1.trans H.os, hos.2.1.trans H.tape, hos.2.2.trans H.output, by rw [hsz]; exact H.size, fun b h1 h2 h3 => ?_, fun k' v' hk' c hc' => ?_, fun hu => ?_, fun z hz hu => ?_, fun hu => ?_, fun v hv hu => ?_, fun v hv => ?_, fun v hv => ?_, ?_, ?_, ?_, fun _ => ?_, H.vlt, by rw [e2, e6]; exact H.d4⟩
  · rw [hoth b (fun e => by
      subst e
      rcases a3 with a3 | a3
      · exact h3 a3
      · omega)]
    exact H.blk b h1 h2 h3
  · by_cases e : k' = js
    · subst e; rw [hc] at hc'; cases hc'
    · rw [put_eqs u js y k' e] at hk'; exact H.pur k' v' hk' c hc'
  · rw [e5] at hu; rw [hoth h (by omega)]; exact H.hd0 hu
  · rw [e6] at hz; rw [e5] at hu; rw [hoth h (by omega)]; exact H.hd1 z hz hu
  · rw [e6, ha] at hu; cases hu
  · rw [e6, ha] at hu; cases hu
  · rw [e4] at hv
    obtain ⟨p', c3, q1, q2, q3⟩ := H.call v hv
    refine ⟨p', c3, q1, q2, fun ho => ?_⟩
    obtain ⟨s, t, s1, s2, s3, s4⟩ := q3 ho
    exact ⟨s, t, s1, by omega, s3.keep fun b h1 h2 _ => hoth b fun e => s4 _ ha b h1 h2 (by rw [e]; rfl), fun z hz => by rw [e6] at hz; exact s4 z hz⟩
  · rw [e6, ha] at hv
    obtain rfl := Option.some.inj hv
    refine ⟨g, c, rfl, a2, a3, fun hu => (by rw [put_eq_self] at hu; cases hu), fun z _ hz => ?_⟩
    rw [e4, hcl] at hz
    exact ⟨p, c', (Option.some.inj hz).symm, hrow⟩
  · rw [e1, e6]; exact H.ptr
  · rw [e6, e3]; exact H.d1
  · rw [e5, e6]; exact H.d2
  · rw [e4, e6, hcl, ha]; simp
/-- the row is stored in its field -/
theorem KpS.headed (H : KpS w0 lo h fo vv ot n cs x own p0 c0 cv jl jc jb ja jx js jh u w) (hN : jh ≠ jx ∧ jh ≠ jb ∧ jh ≠ jl ∧ jh ≠ jc ∧ jh ≠ js ∧ jh ≠ ja) (hc : cv jh = none) (hnh : u jh = none) (hfo : fo < 2) (hhl : h < lo) (hlo : lo ≤ w0.heap.size) {av : Value} (ha : u ja = some av) (hst : ∀ s t : Nat, own = true → w0.heap.size ≤ s → ¬ (s ≤ h ∧ h < t)) (y : Value) :
    KpS w0 lo h fo vv ot n cs x own p0 c0 cv jl jc jb ja jx js jh (u.put jh y) (w.setCell ⟨h, fo, none⟩ av) := by
  obtain ⟨k1, k2, k3, k4, k5, k6⟩ := hN
  have e1 := put_eqs u jh y jx (Ne.symm k1)
  have e2 := put_eqs u jh y jb (Ne.symm k2)
  have e3 := put_eqs u jh y jl (Ne.symm k3)
  have e4 := put_eqs u jh y jc (Ne.symm k4)
  have e5 := put_eqs u jh y js (Ne.symm k5)
  have e6 := put_eqs u jh y ja (Ne.symm k6)
  have hoth : ∀ b, b ≠ h → (w.setCell ⟨h, fo, none⟩ av).heap[b]? = w.heap[b]? := fun b hb => Below.heap_setCell _ _ _ _ hb
  have hhd := set1b (H.hd0 hnh) fo av
  rw [hdr_set hfo] at hhd
  have hown : ∀ {B n c : Nat} {v : Value} {xs : List Value}, w.ownsRow lo 24 3 v n xs → (w.setCell ⟨h, fo, none⟩ av).ownsRow lo 24 3 v n xs := fun {B n c v xs} ho => own_same ho fun g o hg hgo => by
    rw [hoth g (by have := own_base ho g hg; omega)]
    exact hgo
  refine ⟨H.os, H.tape, H.output, by simpa [World.size_setCell] using H.size, fun b h1 h2 h3 => ?_, fun k' v' hk' c hc' => ?_, fun hu => ?_, fun z hz hu => ?_, fun hu => ?_, fun v hv hu => ?_, fun v hv => ?_, fun v hv => ?_, ?_, ?_, fun _ => by rw [e6, ha]; simp, ?_, H.vlt, by rw [e2, e6]; exact H.d4⟩
  · rw [hoth b h2]; exact H.blk b h1 h2 h3
  · by_cases e : k' = jh
    · subst e; rw [hc] at hc'; cases hc'
    · rw [put_eqs u jh y k' e] at hk'; exact H.pur k' v' hk' c hc'
  · rw [put_eq_self] at hu; cases hu
  · rw [e6, ha] at hz
    obtain rfl := Option.some.inj hz
    exact hhd
  · rw [e6, ha] at hu; cases hu
  · rw [e6, ha] at hu; cases hu
  · rw [e4] at hv
    obtain ⟨p', c3, q1, q2, q3⟩ := H.call v hv
    refine ⟨p', c3, q1, q2, fun ho => ?_⟩
    obtain ⟨s, t, s1, s2, s3, s4⟩ := q3 ho
    exact ⟨s, t, s1, by simpa [World.size_setCell] using s2, s3.keep fun b h1 h2 _ => hoth b fun e => hst s t ho s1 (by subst e; exact ⟨h1, h2⟩), fun z hz => by rw [e6] at hz; exact s4 z hz⟩
  · rw [e6] at hv
    rw [e5, e4]
    obtain ⟨g, c, a1, a2, a3, a4, a5⟩ := H.app v hv
    refine ⟨g, c, a1, a2, a3, fun hu => hown (B := 0) (c := 0) (a4 hu), fun z h1 h2 => ?_⟩
    obtain ⟨p, c', q1, q2⟩ := a5 z h1 h2
    exact ⟨p, c', q1, hown (B := 0) (c := 0) q2⟩
  · rw [e1, e6]; exact H.ptr
  · rw [e6, e3]; exact H.d1
  · rw [e5, e4, e6]; exact H.d3
end
end Go.Proofs.Ytikijkpklneihaa
namespace Go.Proofs.Ytikijkpklneihaa
open Go.RowKit
set_option linter.unusedVariables false
set_option linter.unusedSimpArgs false

/-- a value stays where its blocks stay, but for a block that has no number in it -/
theorem InV.skip {w w' : World} {B h : Nat} (hB : ∀ b o, b < B → b ≠ h → w'.cell? ⟨b, o, none⟩ = w.cell? ⟨b, o, none⟩) (hh : ∀ o k, w.cell? ⟨h, o, none⟩ ≠ some (.int .i64 k)) : ∀ x : V, ∀ {b off : Nat}, InV w B b off x → b < B → InV w' B b off x := by
  intro x
  induction x using V.ind with
  | h k n l ih =>
    intro b off h' hb
    obtain ⟨h0, h1, h2, h3, p, cap, h4, h5, h6, h7⟩ := h'
    have hne : b ≠ h := fun e => by subst e; exact hh _ _ h0
    refine ⟨by rw [hB _ _ hb hne]; exact h0, by rw [hB _ _ hb hne]; exact h1, h2, h3, p, cap, by rw [hB _ _ hb hne]; exact h4, h5, h6, ?_⟩
    rcases h7 with h7 | ⟨b', o', h8, h9, h10⟩
    · exact .inl h7
    · exact .inr ⟨b', o', h8, h9, AtVs.of_get (fun i hi => ih _ (List.getElem_mem hi) (h10.get i hi) h9)⟩
theorem SlV.skip {w w' : World} {B h : Nat} {p : Option Addr} {cap : Nat} {l : List V} (hB : ∀ b o, b < B → b ≠ h → w'.cell? ⟨b, o, none⟩ = w.cell? ⟨b, o, none⟩) (hh : ∀ o k, w.cell? ⟨h, o, none⟩ ≠ some (.int .i64 k)) (hs : SlV w B p cap l) : SlV w' B p cap l := by
  obtain ⟨h5, h6, h7⟩ := hs
  refine ⟨h5, h6, ?_⟩
  rcases h7 with h7 | ⟨b', o', h8, h9, h10⟩
  · exact .inl h7
  · exact .inr ⟨b', o', h8, h9, AtVs.of_get fun i hi => (h10.get i hi).skip hB hh _ h9⟩
theorem IsV.skip {w w' : World} {B h : Nat} {v : Value} {x : V} (hB : ∀ b o, b < B → b ≠ h → w'.cell? ⟨b, o, none⟩ = w.cell? ⟨b, o, none⟩) (hh : ∀ o k, w.cell? ⟨h, o, none⟩ ≠ some (.int .i64 k)) (hv : IsV w B v x) : IsV w' B v x := by
  obtain ⟨⟨p, cap, h1, h2⟩, h3, h4⟩ := hv
  exact ⟨⟨p, cap, h1, h2.skip hB hh⟩, h3, h4⟩
/-- what the region leaves -/
structure KpE (w0 : World) (lo h fo : Nat) (vv ot : Value) (n : Nat) (cs : List Value) (x : V) (own : Bool) (p0 : Option Addr) (c0 : Nat) (w : World) (av : Value) (p : Option Addr) (c : Nat) : Prop where
  os : w.os = w0.os
  tape : w.tape = w0.tape
  output : w.output = w0.output
  size : w0.heap.size ≤ w.heap.size
  blk : ∀ b, b < w0.heap.size → b ≠ h → vv.ownBlock ≠ some b → w.heap[b]? = w0.heap[b]?
  hd : w.heap[h]? = some (.cells (hdr fo av ot) 30 (0, 0))
  row : w.ownsRow lo 24 3 av (n + 1) (cs ++ [.int .i64 x.k, .int .i64 x.n, .slice p x.l.length c])
  at_ : ∀ b, av.ownBlock = some b → vv.ownBlock = some b ∨ w0.heap.size ≤ b
  old : own = false → p = p0 ∧ c = c0
  new : own = true → ∃ s t, w0.heap.size ≤ s ∧ t ≤ w.heap.size ∧ Prv w s t 1 x p c ∧ ∀ b, s ≤ b → b < t → av.ownBlock ≠ some b
theorem KpS.fin {w0 : World} {lo h fo : Nat} {vv ot : Value} {n : Nat} {cs : List Value} {x : V} {own : Bool} {p0 : Option Addr} {c0 : Nat} {cv : Nat → Option Value} {jl jc jb ja jx js jh : Nat} {u : Vals} {w : World} (H : KpS w0 lo h fo vv ot n cs x own p0 c0 cv jl jc jb ja jx js jh u w) {av y : Value} (ha : u ja = some av) (hc : u jc = some y) (hs : u js ≠ none) (hh : u jh ≠ none) : ∃ p c, KpE w0 lo h fo vv ot n cs x own p0 c0 w av p c := by
  obtain ⟨g, c, a1, a2, a3, a4, a5⟩ := H.app av ha
  obtain ⟨p, c', q1, q2⟩ := a5 y hs hc
  obtain ⟨p2, c2, r1, r2, r3⟩ := H.call y hc
  have e : p2 = p ∧ c2 = c' := by
    rw [q1] at r1
    simp [agV] at r1
    exact ⟨r1.1.symm, r1.2.symm⟩
  obtain ⟨rfl, rfl⟩ := e
  refine ⟨p2, c2, H.os, H.tape, H.output, H.size, H.blk, H.hd1 av ha hh, q2, fun b hb => ?_, r2, fun ho => ?_⟩
  · rw [a1] at hb
    simp only [Value.ownBlock, Option.some.injEq] at hb
    subst hb
    exact a3
  · obtain ⟨s, t, s1, s2, s3, s4⟩ := r3 ho
    exact ⟨s, t, s1, s2, s3, fun b h1 h2 => s4 av ha b h1 h2⟩
/-- two ghosts at once -/
def orG (ρ ρ' : Gh) : Gh := fun b => match ρ b with
  | some r => some r
  | none => ρ' b
theorem orG_l {ρ ρ' : Gh} {b : Nat} {r : Nat × List Nat} (h : ρ b = some r) : orG ρ ρ' b = some r := by simp [orG, h]
theorem orG_r {ρ ρ' : Gh} {b : Nat} {r : Nat × List Nat} (h : ρ' b = some r) (hn : ρ b = none) : orG ρ ρ' b = some r := by simp [orG, h, hn]
theorem orG_ne {ρ ρ' : Gh} {b : Nat} (h : orG ρ ρ' b ≠ none) : ρ b ≠ none ∨ ρ' b ≠ none := by
  cases hr : ρ b with
  | some r => exact .inl (by simp)
  | none => exact .inr (by simpa [orG, hr] using h)
theorem orG_some {ρ ρ' : Gh} {b : Nat} {r : Nat × List Nat} (h : orG ρ ρ' b = some r) : ρ b = some r ∨ ρ' b = some r := by
  cases hr : ρ b with
  | some r' => exact .inl (by simpa [orG, hr] using h)
  | none => exact .inr (by simpa [orG, hr] using h)
/-- the frame of what grows the book -/
structure KF (w w' : World) (h : Nat) (ov wv : Value) : Prop where
  os : w'.os = w.os
  tape : w'.tape = w.tape
  output : w'.output = w.output
  size : w.heap.size ≤ w'.heap.size
  blk : ∀ b, b < w.heap.size → b ≠ h → ov.ownBlock ≠ some b → wv.ownBlock ≠ some b → w'.heap[b]? = w.heap[b]?
/-- the book, one more kept -/
theorem Bk.push {w W0 W1 W1' W2 : World} {lo h : Nat} {ρ : Gh} {ov wv av bv : Value} {n : Nat} {X : Nat → V} {cs ds : List Value} {x : V} {p0 p p' : Option Addr} {c0 c c' s t : Nat} (hB : Bk w lo h ρ ov wv n X) (o1 : w.ownsRow lo 24 3 ov n cs) (o2 : Ents w ρ 0 n X cs) (w1 : w.ownsRow lo 24 3 wv n ds) (w2 : Ents w ρ 1 n X ds)
    (hb0 : Below w.heap.size w W0) (E1 : KpE W0 lo h 0 ov wv n cs x false p0 c0 W1 av p c) (hb1 : Below W1.heap.size W1 W1') (E2 : KpE W1' lo h 1 wv av n ds x true p' c' W2 bv p' c') (hk : I64 x.k) (hn : I64 x.n) (hp : Prv w s t 0 x p0 c0) (htl : t ≤ lo) (hst : ¬ (s ≤ h ∧ h < t)) (hρ : ∀ b, s ≤ b → b < t → ρ b = none) :
    (∃ ρ', Bk W2 lo h ρ' av bv (n + 1) (fun j => if j = n then x else X j) ∧ ∀ b, ρ' b ≠ none → ρ b ≠ none ∨ (s ≤ b ∧ b < t) ∨ w.heap.size ≤ b) ∧ KF w W2 h ov wv ∧ Prv W2 s t 0 x p0 c0 := by
  have hlow := hB.low
  have hsiz := hB.siz
  have z0 := hb0.size
  have z1 := E1.size
  have z1' := hb1.size
  have z2 := E2.size
  obtain ⟨rfl, rfl⟩ := E1.old rfl
  have hovl : ∀ b, ov.ownBlock = some b → lo ≤ b ∧ b < w.heap.size := fun b hb => owns_block o1 hb
  have hwvl : ∀ b, wv.ownBlock = some b → lo ≤ b ∧ b < w.heap.size := fun b hb => owns_block w1 hb
  have f1 : ∀ b, b < w.heap.size → b ≠ h → ov.ownBlock ≠ some b → W1'.heap[b]? = w.heap[b]? := fun b h1 h2 h3 => (hb1.block b (by omega)).trans ((E1.blk b (by omega) h2 h3).trans (hb0.block b h1))
  have f2 : ∀ b, b < w.heap.size → b ≠ h → ov.ownBlock ≠ some b → wv.ownBlock ≠ some b → W2.heap[b]? = w.heap[b]? := fun b h1 h2 h3 h4 => (E2.blk b (by omega) h2 h4).trans (f1 b h1 h2 h3)
  have hav : ∀ b, av.ownBlock = some b → ov.ownBlock = some b ∨ w.heap.size ≤ b := fun b hb => (E1.at_ b hb).elim .inl fun e => .inr (by omega)
  have havs : ∀ b, av.ownBlock = some b → b < W1.heap.size := fun b hb => (owns_block E1.row hb).2
  have havne : ∀ b, av.ownBlock = some b → wv.ownBlock ≠ some b := fun b h1 h2 => by
    rcases hav b h1 with h3 | h3
    · exact hB.ne b h3 h2
    · have := hwvl b h2; omega
  have hbv : ∀ b, bv.ownBlock = some b → wv.ownBlock = some b ∨ W1'.heap.size ≤ b := E2.at_
  have hrow : W2.ownsRow lo 24 3 av (n + 1) (cs ++ [.int .i64 x.k, .int .i64 x.n, .slice p x.l.length c]) := own_same (own_new E1.row hb1) fun g o hg ho => by
    have := havs g hg
    rw [E2.blk g (by omega) (by have := own_base E1.row g hg; omega) (havne g hg)]
    exact ho
  have hpW : Prv W2 s t 0 x p c := hp.keep fun b h1 h2 h3 => f2 b h3 (fun e => hst (by subst e; exact ⟨h1, h2⟩)) (fun e => by have := hovl b e; omega) (fun e => by have := hwvl b e; omega)
  obtain ⟨s2, t2, s21, s22, s23, s24⟩ := E2.new rfl
  obtain ⟨ρa, a1, a2, a3⟩ := hpW (2 * n + 0) [] (by omega)
  obtain ⟨ρb, b1, b2, b3⟩ := s23 (2 * n + 1) [] (by omega)
  have d1 : ∀ b, ρ b ≠ none → ρa b = none ∧ ρb b = none := fun b hb => by
    refine ⟨?_, ?_⟩
    · cases h1 : ρa b with
      | none => rfl
      | some r =>
        have := a2 b (by rw [h1]; simp)
        exact absurd (hρ b this.1 this.2) hb
    · cases h1 : ρb b with
      | none => rfl
      | some r =>
        have := b2 b (by rw [h1]; simp)
        have := (hB.sup b hb).1
        omega
  have d2 : ∀ b, ρa b ≠ none → ρ b = none ∧ ρb b = none := fun b hb => by
    have h0 := a2 b hb
    refine ⟨hρ b h0.1 h0.2, ?_⟩
    cases h1 : ρb b with
    | none => rfl
    | some r =>
      have := b2 b (by rw [h1]; simp)
      omega
  have d3 : ∀ b, ρb b ≠ none → ρ b = none ∧ ρa b = none := fun b hb => by
    refine ⟨?_, ?_⟩
    · cases h1 : ρ b with
      | none => rfl
      | some r => exact absurd (d1 b (by rw [h1]; simp)).2 hb
    · cases h1 : ρa b with
      | none => rfl
      | some r => exact absurd (d2 b (by rw [h1]; simp)).2 hb
  have hre : ∀ b id q, ρ b = some (id, q) → orG ρ (orG ρa ρb) b = some (id, q) := fun b id q hb => orG_l hb
  have hra : ∀ b q, ρa b = some (2 * n + 0, q ++ []) → orG ρ (orG ρa ρb) b = some (2 * n + 0, q ++ []) := fun b q hb => orG_r (orG_l hb) (d2 b (by rw [hb]; simp)).1
  have hrb : ∀ b q, ρb b = some (2 * n + 1, q ++ []) → orG ρ (orG ρa ρb) b = some (2 * n + 1, q ++ []) := fun b q hb => orG_r (orG_r hb (d3 b (by rw [hb]; simp)).2) (d3 b (by rw [hb]; simp)).1
  have hsup := hB.sup
  have hke : ∀ b, b < w.heap.size → ρ b ≠ none → W2.heap[b]? = w.heap[b]? := fun b h1 h2 => by
    obtain ⟨_, g2, g3, g4⟩ := hsup b h2
    exact f2 b h1 g2 g3 g4
  refine ⟨⟨orG ρ (orG ρa ρb), ⟨E2.hd, hlow, by omega, ⟨_, hrow, ((o2.keep hke).re hre).snoc o1.1 hk hn (TrV.re x a1 hra)⟩, ⟨_, E2.row, ((w2.keep hke).re hre).snoc w1.1 hk hn (TrV.re x b1 hrb)⟩, fun b hb => ?_, fun b id q hb => ?_, fun b h1 h2 => ?_⟩, fun b hb => ?_⟩, ⟨E2.os.trans (hb1.os.trans (E1.os.trans hb0.os)), E2.tape.trans (hb1.tape.trans (E1.tape.trans hb0.tape)), E2.output.trans (hb1.output.trans (E1.output.trans hb0.output)), by omega, f2⟩, hpW⟩
  · rcases orG_ne hb with h1 | h1
    · obtain ⟨g1, g2, g3, g4⟩ := hsup b h1
      refine ⟨by omega, g2, fun e => ?_, fun e => ?_⟩
      · rcases hav b e with h3 | h3
        · exact g3 h3
        · omega
      · rcases hbv b e with h3 | h3
        · exact g4 h3
        · omega
    · rcases orG_ne h1 with h2 | h2
      · have h0 := a2 b h2
        refine ⟨by omega, fun e => hst (by subst e; exact h0), fun e => ?_, fun e => ?_⟩
        · have := own_base E1.row b e; omega
        · have := own_base E2.row b e; omega
      · have h0 := b2 b h2
        refine ⟨by omega, by omega, fun e => ?_, s24 b h0.1 h0.2⟩
        have := havs b e
        omega
  · rcases orG_some hb with h1 | h1
    · have := hB.ids b id q h1; omega
    · rcases orG_some h1 with h2 | h2
      · obtain ⟨s', e⟩ := a3 b _ h2
        simp only [Prod.mk.injEq] at e
        omega
      · obtain ⟨s', e⟩ := b3 b _ h2
        simp only [Prod.mk.injEq] at e
        omega
  · rcases hbv b h2 with h3 | h3
    · exact havne b h1 h3
    · have := havs b h1; omega
  · rcases orG_ne hb with h1 | h1
    · exact .inl h1
    · rcases orG_ne h1 with h2 | h2
      · exact .inr (.inl (a2 b h2))
      · have := b2 b h2
        exact .inr (.inr (by omega))
end Go.Proofs.Ytikijkpklneihaa
