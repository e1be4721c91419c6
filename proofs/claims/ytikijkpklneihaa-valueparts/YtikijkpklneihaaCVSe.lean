import Derived.Test.YtikijkpklneihaaCVSh
import Derived.Deep.RegionHeld
namespace Go.Proofs.Ytikijkpklneihaa
open Go.RowKit
set_option linter.unusedVariables false
set_option linter.unusedSimpArgs false

theorem eqB_iff {x y : V} : eqB x y = true ↔ x = y := by simp [eqB]
/-- two boxes with values -/
structure TwoB (w W : World) (B : Nat) (x y : V) (p : Option Addr) (c : Nat) (p' : Option Addr) (c' : Nat) : Prop where
  a : W.heap[w.heap.size]? = some (Obj.cells #[.int .i64 x.k, .int .i64 x.n, .slice p x.l.length c] 24)
  b : W.heap[w.heap.size + 1]? = some (Obj.cells #[.int .i64 y.k, .int .i64 y.n, .slice p' y.l.length c'] 24)
  va : SlV W B p c x.l
  vb : SlV W B p' c' y.l
  bel : Below w.heap.size w W
theorem TwoB.next {w W W' : World} {B : Nat} {x y : V} {p : Option Addr} {c : Nat} {p' : Option Addr} {c' : Nat} (h : TwoB w W B x y p c p' c') (hB : B ≤ w.heap.size) (hb : Below W.heap.size W W') : TwoB w W' B x y p c p' c' :=
  ⟨keep_h hb h.a, keep_h hb h.b, h.va.lo (Lo.of (hb.mono (Nat.le_trans hB h.bel.size))), h.vb.lo (Lo.of (hb.mono (Nat.le_trans hB h.bel.size))), h.bel.trans (hb.mono h.bel.size)⟩
theorem TwoB.start (w : World) (B : Nat) (x y : V) (p : Option Addr) (c : Nat) (p' : Option Addr) (c' : Nat) (hx : SlV w B p c x.l) (hy : SlV w B p' c' y.l) (hB : B ≤ w.heap.size) :
    TwoB w ((w.alloc (Obj.cells #[.int .i64 x.k, .int .i64 x.n, .slice p x.l.length c] 24)).alloc (Obj.cells #[.int .i64 y.k, .int .i64 y.n, .slice p' y.l.length c'] 24)) B x y p c p' c' :=
  ⟨(Below.heap_alloc _ _ _ (by simp)).trans (World.alloc_heap_new _ _), alloc_at _ _ _, hx.lo (Lo.of ((two_new _ _ _).mono hB)), hy.lo (Lo.of ((two_new _ _ _).mono hB)), two_new _ _ _⟩
/-- the i-th of both, with what is read on the way -/
structure Rd (w W : World) (x y : V) (p : Option Addr) (c : Nat) (p' : Option Addr) (c' : Nat) (b o b' o' i : Nat) (k n : Int) (s : Value) (k' n' : Int) (s' : Value) : Prop where
  a2 : W.cell? ⟨w.heap.size, 2, none⟩ = some (.slice p x.l.length c)
  b2 : W.cell? ⟨w.heap.size + 1, 2, none⟩ = some (.slice p' y.l.length c')
  d0 : W.cell? ⟨b, o + i * 3, none⟩ = some (.int .i64 k)
  d1 : W.cell? ⟨b, o + i * 3 + 1, none⟩ = some (.int .i64 n)
  d2 : W.cell? ⟨b, o + i * 3 + 2, none⟩ = some s
  e0 : W.cell? ⟨b', o' + i * 3, none⟩ = some (.int .i64 k')
  e1 : W.cell? ⟨b', o' + i * 3 + 1, none⟩ = some (.int .i64 n')
  e2 : W.cell? ⟨b', o' + i * 3 + 2, none⟩ = some s'

set_option maxRecDepth 100000 in
set_option maxHeartbeats 4000000 in
theorem same_rec (N : Nat) (ih : ∀ (x y : V), x.sz < N → ∀ (w : World) (B : Nat) (v u : Value), IsV w B v x → IsV w B u y → B ≤ w.heap.size → Calls Try.prog 12 #[v, u] w fun e w' => e = .returned (.bool (eqB x y)) ∧ Below w.heap.size w w')
    (w : World) (B : Nat) (v u : Value) (x y : V) (hv : IsV w B v x) (hu : IsV w B u y) (hB : B ≤ w.heap.size) (hN : x.sz ≤ N) :
    Calls Try.prog 12 #[v, u] w fun e w' => e = .returned (.bool (eqB x y)) ∧ Below w.heap.size w w' := by
  obtain ⟨⟨p, c, rfl, h1⟩, h2, h3⟩ := hv
  obtain ⟨⟨p', c', rfl, k1⟩, k2, k3⟩ := hu
  have HT0 : Bx _ := ⟨TwoB.start w B x y p c p' c' h1 k1 hB⟩
  have hlc : x.l.length ≤ c := h1.1
  have hlc' : y.l.length ≤ c' := k1.1
  have hcm : c ≤ maxLen := h1.2.1
  have hcm' : c' ≤ maxLen := k1.2.1
  unfold maxLen at hcm hcm'
  have HIH : Bx _ := ⟨ih⟩
  clear h1 h2 h3 k1 k2 k3 ih
  by_cases hk : x.k = y.k
  · by_cases hn : x.n = y.n
    · by_cases hl : x.l.length = y.l.length
      · have b1 : (x.k != y.k) = false := by simpa using hk
        have b2 : (x.n != y.n) = false := by simpa using hn
        have b3 : ((x.l.length : Int) != (y.l.length : Int)) = false := by simp; omega
        have HH : Bx (x.k = y.k ∧ x.n = y.n ∧ x.l.length = y.l.length) := ⟨hk, hn, hl⟩
        clear hk hn hl
        go_enter Try.func12, Try.ntmps12
        go_wp2
        go_loopg [5] x.l.length (fun q v wr => ∃ i : Nat, q = x.l.length - i ∧ i ≤ x.l.length ∧ v = .int .i64 i ∧ Bx (TwoB w wr B x y p c p' c' ∧ ∀ j (h : j < x.l.length) (h' : j < y.l.length), j < i → x.l[j] = y.l[j]))
        case atStart => exact ⟨0, by simp, by omega, rfl, ⟨HT0.out, fun j _ _ h => by omega⟩⟩
        case round =>
          obtain ⟨i, hq, hil, rfl, HS⟩ := hrel
          clear HT0
          obtain ⟨r0, r1, r2, _, _, _, rl⟩ := c3 HS.out.1.a
          obtain ⟨s0, s1, s2, _, _, _, sl⟩ := c3 HS.out.1.b
          by_cases hlt : i < x.l.length
          · have hlt' : i < y.l.length := by have := HH.out.2.2; omega
            obtain ⟨b, o, q1, qc, rfl, hbB, d0, d1, d2, hq1, dk, dn⟩ := HS.out.1.va.at3 i hlt
            obtain ⟨b', o', q2, qc2, rfl, hbB', e0, e1, e2, hq2, ek, en⟩ := HS.out.1.vb.at3 i hlt'
            have HRd : Bx (∀ W, Below wr.heap.size wr W → Rd w W x y (some ⟨b, o, none⟩) c (some ⟨b', o', none⟩) c' b o b' o' i x.l[i].k x.l[i].n (.slice q1 x.l[i].l.length qc) y.l[i].k y.l[i].n (.slice q2 y.l[i].l.length qc2)) := ⟨fun W hb => by
              have hw := HS.out.1.bel.size
              have hc : ∀ z k, z < wr.heap.size → W.cell? ⟨z, k, none⟩ = wr.cell? ⟨z, k, none⟩ := fun z k hz => hb.cell (p := ⟨z, k, none⟩) hz
              exact ⟨by rw [hc _ _ rl]; exact r2, by rw [hc _ _ sl]; exact s2, by rw [hc _ _ (by omega)]; exact d0, by rw [hc _ _ (by omega)]; exact d1, by rw [hc _ _ (by omega)]; exact d2, by rw [hc _ _ (by omega)]; exact e0, by rw [hc _ _ (by omega)]; exact e1, by rw [hc _ _ (by omega)]; exact e2⟩⟩
            have HC : Bx (∀ W, Below wr.heap.size wr W → Calls Try.prog 12 #[.agg #[.int .i64 x.l[i].k, .int .i64 x.l[i].n, .slice q1 x.l[i].l.length qc], .agg #[.int .i64 y.l[i].k, .int .i64 y.l[i].n, .slice q2 y.l[i].l.length qc2]] W fun e w' => e = .returned (.bool (eqB x.l[i] y.l[i])) ∧ Below W.heap.size W w') := ⟨fun W hb =>
              HIH.out x.l[i] y.l[i] (by have h9 := szs_mem (List.getElem_mem hlt); have := V.sz_eq x; omega) W B _ _ ⟨⟨q1, qc, rfl, hq1.lo (Lo.of (hb.mono (Nat.le_trans hB HS.out.1.bel.size)))⟩, dk, dn⟩ ⟨⟨q2, qc2, rfl, hq2.lo (Lo.of (hb.mono (Nat.le_trans hB HS.out.1.bel.size)))⟩, ek, en⟩ (Nat.le_trans hB (Nat.le_trans HS.out.1.bel.size hb.size))⟩
            clear hq1 hq2 dk dn ek en r0 r1 s0 s1 d0 d1 d2 e0 e1 e2
            have hbr : Below wr.heap.size wr wr := Below.refl _ _
            have HF : Bx (∀ w', Below wr.heap.size wr w' → w'.cell? ⟨w.heap.size, 2, none⟩ = some (.slice (some ⟨b, o, none⟩) x.l.length c) ∧ w'.cell? ⟨w.heap.size + 1, 2, none⟩ = some (.slice (some ⟨b', o', none⟩) y.l.length c') ∧ w'.cell? ⟨b, o + i * 3, none⟩ = some (.int .i64 x.l[i].k) ∧ w'.cell? ⟨b, o + i * 3 + 1, none⟩ = some (.int .i64 x.l[i].n) ∧ w'.cell? ⟨b, o + i * 3 + 2, none⟩ = some (.slice q1 x.l[i].l.length qc) ∧ w'.cell? ⟨b', o' + i * 3, none⟩ = some (.int .i64 y.l[i].k) ∧ w'.cell? ⟨b', o' + i * 3 + 1, none⟩ = some (.int .i64 y.l[i].n) ∧ w'.cell? ⟨b', o' + i * 3 + 2, none⟩ = some (.slice q2 y.l[i].l.length qc2) ∧ Below wr.heap.size wr w') := ⟨fun W hb => by obtain ⟨a1, a2, a3, a4, a5, a6, a7, a8⟩ := HRd.out W hb; exact ⟨a1, a2, a3, a4, a5, a6, a7, a8, hb⟩⟩
            go_wp2_with fail
            go_region_held (fun w' => w'.cell? ⟨w.heap.size, 2, none⟩ = some (.slice (some ⟨b, o, none⟩) x.l.length c) ∧ w'.cell? ⟨w.heap.size + 1, 2, none⟩ = some (.slice (some ⟨b', o', none⟩) y.l.length c') ∧ w'.cell? ⟨b, o + i * 3, none⟩ = some (.int .i64 x.l[i].k) ∧ w'.cell? ⟨b, o + i * 3 + 1, none⟩ = some (.int .i64 x.l[i].n) ∧ w'.cell? ⟨b, o + i * 3 + 2, none⟩ = some (.slice q1 x.l[i].l.length qc) ∧ w'.cell? ⟨b', o' + i * 3, none⟩ = some (.int .i64 y.l[i].k) ∧ w'.cell? ⟨b', o' + i * 3 + 1, none⟩ = some (.int .i64 y.l[i].n) ∧ w'.cell? ⟨b', o' + i * 3 + 2, none⟩ = some (.slice q2 y.l[i].l.length qc2) ∧ Below wr.heap.size wr w')
              (first | exact HF.out _ hbr.drew | exact HF.out _ hbr | exact HF.out _ hb4)
              (first | (go_at_call 12; refine Calls.mono (HC.out _ hbr.drew) ?_; rintro e w4 ⟨rfl, hb4'⟩; have hb4 : Below wr.heap.size wr w4 := hbr.drew.trans (hb4'.mono (Nat.le_refl _))))
            all_goals
              have HN : Bx _ := ⟨HS.out.1.next hB hb4⟩
              have HE : Bx (eqB x.l[i] y.l[i] = false → eqB x y = false) := ⟨fun h => eqB_no (fun e => by subst e; rw [eqB_yes rfl] at h; cases h)⟩
              cases hee : eqB x.l[i] y.l[i]
              · go_wp2
                go_ret
                exact ⟨congrArg (fun z => Ending.returned (.bool z)) (HE.out hee).symm, HN.out.bel⟩
              · go_wp2
                go_roundg (x.l.length - (i + 1))
                case measure => omega
                case rel => exact ⟨i + 1, rfl, by omega, by simp, ⟨HN.out, fun j h h' hj => by
                  rcases Nat.lt_or_ge j i with h3 | h3
                  · exact HS.out.2 j h h' h3
                  · have : j = i := by omega
                    subst this
                    exact eqB_iff.1 hee⟩⟩
          · have HE : Bx (eqB x y = true ∧ Below w.heap.size w wr) := ⟨eqB_yes (V.ext HH.out.1 HH.out.2.1 (List.ext_getElem HH.out.2.2 (fun j h h' => HS.out.2 j h h' (by omega)))), HS.out.1.bel⟩
            clear HS
            go_wp2
            go_ret
            exact ⟨congrArg (fun z => Ending.returned (.bool z)) HE.out.1.symm, HE.out.2⟩
      · have b1 : (x.k != y.k) = false := by simpa using hk
        have b2 : (x.n != y.n) = false := by simpa using hn
        have b3 : ((x.l.length : Int) != (y.l.length : Int)) = true := by simp; omega
        have e : eqB x y = false := eqB_no (fun e => hl (by rw [e]))
        rw [e]
        clear hk hn hl
        go_enter Try.func12, Try.ntmps12
        go_wp2
        go_ret
        exact ⟨rfl, HT0.out.bel⟩
    · have b1 : (x.k != y.k) = false := by simpa using hk
      have b2 : (x.n != y.n) = true := by simpa using hn
      have e : eqB x y = false := eqB_no (fun e => hn (by rw [e]))
      rw [e]
      clear hk hn
      go_enter Try.func12, Try.ntmps12
      go_wp2
      go_ret
      exact ⟨rfl, HT0.out.bel⟩
  · have b1 : (x.k != y.k) = true := by simpa using hk
    have e : eqB x y = false := eqB_no (fun e => hk (by rw [e]))
    rw [e]
    clear hk
    go_enter Try.func12, Try.ntmps12
    go_wp2
    go_ret
    exact ⟨rfl, HT0.out.bel⟩
/-- same: are two values alike? -/
theorem same_any (w : World) (B : Nat) (v u : Value) (x y : V) (hv : IsV w B v x) (hu : IsV w B u y) (hB : B ≤ w.heap.size) : Calls Try.prog 12 #[v, u] w fun e w' => e = .returned (.bool (eqB x y)) ∧ Below w.heap.size w w' := by
  have key : ∀ N : Nat, ∀ (x y : V), x.sz ≤ N → ∀ (w : World) (B : Nat) (v u : Value), IsV w B v x → IsV w B u y → B ≤ w.heap.size → Calls Try.prog 12 #[v, u] w fun e w' => e = .returned (.bool (eqB x y)) ∧ Below w.heap.size w w' := by
    intro N
    induction N with
    | zero => intro x y h; have := x.sz_pos; omega
    | succ N ih => intro x y h w B v u hv hu hB; exact same_rec (N + 1) (fun x' y' h' => ih x' y' (by omega)) w B v u x y hv hu hB h
  exact key x.sz x y (Nat.le_refl _) w B v u hv hu hB
end Go.Proofs.Ytikijkpklneihaa
