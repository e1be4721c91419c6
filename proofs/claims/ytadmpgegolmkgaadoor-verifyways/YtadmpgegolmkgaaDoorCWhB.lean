import Derived.Test.YtadmpgegolmkgaaDoorCWlS
import Derived.Test.YtadmpgegolmkgaaDoorCWaP
namespace Go.Proofs.YtadmpgegolmkgaaDoor
open Go.RowKit
set_option linter.unusedVariables false
set_option linter.unusedSimpArgs false

set_option maxRecDepth 100000 in
set_option maxHeartbeats 2000000 in
theorem among_any (w : World) (i : Int) (n : Nat) (h0 : 0 < n) (hn : n ≤ 4611686018427387904) : Calls Tryd.prog 15 #[.int .i64 i, .int .i64 (n : Int)] w fun e w' => ∃ r : Nat, e = .returned (.int .i64 (r : Int)) ∧ r < n ∧ w = w' := by
  have hb1 : decide ((n : Int) < 1) = false := decide_eq_false (by omega)
  have hz : ((n : Int) == 0) = false := by simp; omega
  have h1 : -(n : Int) < i.tmod n ∧ i.tmod n < n := by
    have a1 := Int.lt_tmod_of_pos i (show (0 : Int) < n by omega)
    have a2 := Int.tmod_lt_of_pos i (show (0 : Int) < n by omega)
    exact ⟨a1, a2⟩
  go_enter Tryd.func15, Tryd.ntmps15
  go_wp2
  · go_ret
    exact ⟨(i.tmod (n : Int) + n).toNat, by rw [Int.toNat_of_nonneg (by omega)]; rfl, by omega, rfl⟩
  · go_ret
    exact ⟨(i.tmod (n : Int)).toNat, by rw [Int.toNat_of_nonneg (by omega)]; rfl, by omega, rfl⟩
/-- what an instruction is known for on its own, besides -/
structure LkY (n : Nat) (cp : Int) (i : Nat) (x : CIn) : Prop where
  ah : x.op = 19 ∨ x.op = 20 → (i : Int) < x.a
  cap : x.op = 7 → 0 ≤ x.a ∧ x.a < cp
  ar : x.op = 27 → ∀ j (q : 2 * j + 1 < x.list.length), (i : Int) < x.list[2 * j + 1] ∧ (x.list[2 * j] = 0 ∨ x.list[2 * j] = 1)
theorem armsGo_all : ∀ {l : List Int}, armsGo l = true → ∀ j (q : 2 * j < l.length), l[2 * j] = 0 ∨ l[2 * j] = 1
  | [], _, j, q => by simp at q
  | [k], h, j, q => by
    have : j = 0 := by simp at q; omega
    subst this
    simp [armsGo, inI] at h
    simp
    omega
  | k :: t :: r, h, j, q => by
    rw [armsGo, Bool.and_eq_true] at h
    cases j with
    | zero =>
      have h1 := h.1
      simp [inI] at h1
      simp
      omega
    | succ j => exact armsGo_all h.2 j (by simp at q; omega)
theorem lky_of {u : CUn} {dfs : List Bool} {pg : CPg} {i : Nat} {x : CIn} (h : wrongI u dfs pg i x = 0) : LkY pg.code.length pg.caps i x := by
  obtain ⟨h1, h2, h3, h4, h5⟩ := wrong_zero h
  refine ⟨fun e => ?_, fun e => ?_, fun e => ?_⟩
  · have hv : (vsI x.op).1 = 14 := by rcases e with e | e <;> rw [vsI_at _ e] <;> rfl
    simp [targetsI, hv, aheadI] at h5
    omega
  · have hv : (vsI x.op).1 = 13 := by rw [vsI_at _ e]; rfl
    rw [hv] at h4
    simp [slotI, inI] at h4
    omega
  · have hv : vsI x.op = (0, 0, 11) := by rw [vsI_at _ e]; rfl
    rw [hv] at h3 h5
    simp only [formedI, listI, Bool.and_eq_true] at h3
    simp only [targetsI] at h5
    have h6 := h3.2.1
    simp at h6 h5
    exact fun j q => ⟨(tgGo_all h5 j q).1, armsGo_all h6.1 j (by omega)⟩
/-- where an instruction goes on -/
def WayP (x : CIn) (i ab : Nat) (e : Ending) (w w' : World) : Prop := (∃ t h : Int, e = .returned (.tuple #[.int .i64 t, .int .i64 h, .bool false]) ∧ Bx (Below w.heap.size w w')) ∨ ∃ t h : Nat, e = .returned (.tuple #[.int .i64 (t : Int), .int .i64 (h : Int), .bool true]) ∧ Bx ((∀ s, ∃ q ∈ nextsI i x (ab, s), q.1 = t ∧ q.2.1 = h + 1 ∧ q.2.2 = s) ∧ (t ≤ i → x.op = 21) ∧ Below w.heap.size w w')
theorem arm_at : ∀ {ks : List Int} {p : Wy} {j : Nat} (h : 2 * j + 1 < ks.length), ((ks[2 * j + 1]).toNat, if ks[2 * j] = 0 then (p.1 + 1, p.2) else p) ∈ armW ks p
  | [], _, j, h => by simp at h
  | [_], _, j, h => by simp at h
  | k :: t :: r, p, 0, h => by rw [armW]; exact List.mem_cons_self
  | k :: t :: r, p, j + 1, h => by
    rw [armW]
    exact List.mem_cons_of_mem _ (arm_at (ks := r) (j := j) (by simp at h; omega))
set_option maxRecDepth 100000 in
set_option maxHeartbeats 8000000 in
theorem way_any (w : World) (hV : VW w) (x : CIn) (ka : Option Addr) (kc B : Nat) (hk : IntsV w B ka kc x.list) (hB : B ≤ w.heap.size) (hw : x.Wf) (hlen : x.list.length ≤ 281474976710656) (n i hh ab : Nat) {sl cp : Int} (hx : LkX n sl i x) (hy : LkY n cp i x) (hi : i < n) (hn : n ≤ 268435456) (hb : ¬ (behB x.op = true ∧ i + 1 = n)) (hab : (ab : Int) = ((hh : Int) + 1) + (pushesI x - popsI x)) (hab0 : ab ≠ 0) (hhb : hh ≤ 2147483648) (pick : Int) :
    Calls Tryd.prog 17 #[insV x ka kc, .int .i64 (i : Int), .int .i64 (hh : Int), .int .i64 pick] w fun e w' => WayP x i ab e w w' := by
  obtain ⟨H, hH⟩ : ∃ H, w.heap.size = H := ⟨_, rfl⟩
  obtain ⟨Q, hQ⟩ : ∃ Q, Q = fun e w' => WayP x i ab e w w' := ⟨_, rfl⟩
  have HQ0 : Bx (∀ e w' (t h : Int), e = .returned (.tuple #[.int .i64 t, .int .i64 h, .bool false]) → Below w.heap.size w w' → Q e w') := ⟨fun e w' t h h1 h2 => by rw [hQ]; exact .inl ⟨t, h, h1, ⟨h2⟩⟩⟩
  have HQ1 : Bx (∀ e w' (t h : Nat), e = .returned (.tuple #[.int .i64 (t : Int), .int .i64 (h : Int), .bool true]) → (∀ s, ∃ q ∈ nextsI i x (ab, s), q.1 = t ∧ q.2.1 = h + 1 ∧ q.2.2 = s) → (t ≤ i → x.op = 21) → Below w.heap.size w w' → Q e w') := ⟨fun e w' t h h1 h2 h3 h4 => by rw [hQ]; exact .inr ⟨t, h, h1, ⟨h2, h3, h4⟩⟩⟩
  rw [← hQ]
  clear hQ
  obtain ⟨w1, hw1⟩ : ∃ w1, w.alloc (.cells #[.int .i64 x.op, .int .i64 x.a, .int .i64 x.b, .slice ka x.list.length kc] 43) = w1 := ⟨_, rfl⟩
  have b1 : Below w.heap.size w w1 := by rw [← hw1]; exact below1 w _
  have q1 : w1.heap[H]? = some (.cells #[.int .i64 x.op, .int .i64 x.a, .int .i64 x.b, .slice ka x.list.length kc] 43 (0, 0)) := by rw [← hw1]; exact heap_newH _ _ _ hH
  have s1 : w1.heap.size = H + 1 := by rw [← hw1]; simp [hH]
  have HC : Bx (∀ X, Below (H + 1) w1 X → X.cell? ⟨H, 0, none⟩ = some (.int .i64 x.op) ∧ X.cell? ⟨H, 1, none⟩ = some (.int .i64 x.a) ∧ X.cell? ⟨H, 2, none⟩ = some (.int .i64 x.b) ∧ X.cell? ⟨H, 3, none⟩ = some (.slice ka x.list.length kc)) := ⟨fun X hX => by
    have := (hX.block H (by omega)).trans q1
    exact ⟨cell_blk this rfl, cell_blk this rfl, cell_blk this rfl, cell_blk this rfl⟩⟩
  have hXb : ∀ X, Below (H + 1) w1 X → Below w.heap.size w X := fun X hX => b1.trans (hX.mono (by omega))
  have HXB : Bx (∀ X, Below (H + 1) w1 X → Below w.heap.size w X) := ⟨hXb⟩
  have HPO : Bx (∀ X, Below (H + 1) w1 X → Calls Tryd.prog 16 #[insV x ka kc] X fun e w' => e = .returned (.int .i64 (popsI x)) ∧ Below (H + 1) w1 w') := ⟨fun X hX => (Pops_any X B x ka kc (hV.below (hXb X hX)).shp hw (hk.below ((hXb X hX).mono hB)) hlen (Nat.le_trans hB (hXb X hX).size)).mono fun e w' q => ⟨q.1, hX.trans (q.2.mono (by have := hX.size; omega))⟩⟩
  have HPU : Bx (∀ X, Below (H + 1) w1 X → Calls Tryd.prog 30 #[insV x ka kc] X fun e w' => e = .returned (.int .i64 (pushesI x)) ∧ Below (H + 1) w1 w') := ⟨fun X hX => (Pushes_any X x ka kc (hV.below (hXb X hX)).shp hw).mono fun e w' q => ⟨q.1, hX.trans (q.2.mono (by have := hX.size; omega))⟩⟩
  have hpu := hx.push
  have hpo := hx.pop
  obtain ⟨hh2, hhe⟩ : ∃ h2 : Nat, ab = h2 + 1 := ⟨ab - 1, by omega⟩
  have hhb2 : hh2 ≤ 2147483650 := by omega
  have hwa : IntKind.i64.wrap (pushesI x - popsI x) = pushesI x - popsI x := by rw [IntKind.wrap_i64]; omega
  have hwb : IntKind.i64.wrap ((hh : Int) + (pushesI x - popsI x)) = (hh2 : Int) := by rw [IntKind.wrap_i64]; omega
  have HKS : Bx (∀ X, Below (H + 1) w1 X → IntsV X B ka kc x.list) := ⟨fun X hX => hk.below ((hXb X hX).mono hB)⟩
  have HAM : Bx (∀ X (m : Nat), 0 < m → m ≤ 4611686018427387904 → _) := ⟨fun X m h0 hm => among_any X pick m h0 hm⟩
  have HX : Bx _ := ⟨hx⟩
  have HY : Bx _ := ⟨hy⟩
  have HBE : Bx _ := ⟨hb⟩
  have HAB : Bx (ab = hh2 + 1) := ⟨hhe⟩
  obtain ⟨e0, e1, e2, e3⟩ := HC.out w1 (Below.refl _ _)
  have hkcp := hk.cap
  unfold insV at HPO HPU
  unfold insV
  clear hV hk hw hx hy hb b1 q1 hXb hhe hab hab0
  have HB0 : Bx (Below (H + 1) w1 w1) := ⟨Below.refl _ _⟩
  generalize pushesI x = pu at *
  generalize popsI x = po at *
  go_enter Tryd.func17, Tryd.ntmps17
  go_wp2
  have HBd : Bx (Below (H + 1) w1 w1.drew) := ⟨⟨HB0.out.os, HB0.out.tape, HB0.out.output, HB0.out.size, HB0.out.block⟩⟩
  go_region_held3 (fun w' => w'.cell? ⟨H, 0, none⟩ = some (.int .i64 x.op) ∧ w'.cell? ⟨H, 1, none⟩ = some (.int .i64 x.a) ∧ w'.cell? ⟨H, 2, none⟩ = some (.int .i64 x.b) ∧ w'.cell? ⟨H, 3, none⟩ = some (.slice ka x.list.length kc))
    (first | exact HC.out _ HB3.out | exact HC.out _ HB2.out | exact HC.out _ HB1.out | exact HC.out _ HBd.out)
    (first
      | (go_at_call 30; refine Calls.mono (HPU.out _ (by first | exact HB2.out | exact HBd.out)) ?_; rintro e z1 ⟨rfl, hz1⟩; have HB1 : Bx _ := ⟨hz1⟩; clear hz1)
      | (go_at_call 16; refine Calls.mono (HPO.out _ (by first | exact HB1.out | exact HBd.out)) ?_; rintro e z2 ⟨rfl, hz2⟩; have HB2 : Bx _ := ⟨hz2⟩; clear hz2))
  obtain ⟨g0, g1, g2, g3⟩ := HC.out z2 HB2.out
  have HBZ : Bx (Below w.heap.size w z2) := ⟨HXB.out _ HB2.out⟩
  have HKZ : Bx (IntsV z2 B ka kc x.list) := ⟨HKS.out _ HB2.out⟩
  have hz2 : Bx (w.heap.size ≤ z2.heap.size) := ⟨HBZ.out.size⟩
  clear e0 e1 e2 e3 HB1 HB2 HBd HPO HPU HC HXB HKS HB0 hwa hwb
  by_cases h25 : x.op = 25
  · have b : (x.op == 25) = true := by simp [h25]
    go_wp2
    exact HQ0.out _ _ _ _ rfl HBZ.out
  have b25 : (x.op == 25) = false := by simp [h25]
  by_cases h19 : x.op = 19 ∨ x.op = 21
  · obtain ⟨t1, t2⟩ := HX.out.tg (by omega)
    obtain ⟨t, ht⟩ : ∃ t : Nat, x.a = t := ⟨x.a.toNat, by omega⟩
    have HM : Bx (∀ s, ∃ q ∈ nextsI i x (ab, s), q.1 = t ∧ q.2.1 = hh2 + 1 ∧ q.2.2 = s) := ⟨fun s => ⟨(x.a.toNat, (ab, s)), by unfold nextsI; rw [if_neg h25, if_pos h19]; simp, by simp only; omega, HAB.out, rfl⟩⟩
    have HT : Bx (t ≤ i → x.op = 21) := ⟨fun h => by
      rcases h19 with e | e
      · have := HY.out.ah (.inl e); omega
      · exact e⟩
    rw [ht] at g1
    rcases h19 with e | e
    · have b19 : (x.op == 19) = true := by simp [e]
      clear h25
      go_wp2
      exact HQ1.out _ _ t hh2 rfl HM.out HT.out HBZ.out
    · have b19 : (x.op == 19) = false := by simp [e]
      have b21 : (x.op == 21) = true := by simp [e]
      clear h25
      go_wp2
      exact HQ1.out _ _ t hh2 rfl HM.out HT.out HBZ.out
  have b19 : (x.op == 19) = false := by simp; omega
  have b21 : (x.op == 21) = false := by simp; omega
  by_cases h27 : x.op = 27
  · have b20 : (x.op == 20) = false := by simp [h27]
    have b27 : (x.op == 27) = true := by simp [h27]
    obtain ⟨ev, tg⟩ := HX.out.arms h27
    by_cases hl0 : x.list.length = 0
    · have hq : (((x.list.length : Int) / 2) == 0) = true := by simp [hl0]
      have hl0b : Bx (x.list.length = 0) := ⟨hl0⟩
      clear h25 h27 hl0 h19
      go_wp2
      exact HQ0.out _ _ _ _ rfl HBZ.out
    · obtain ⟨m, hm⟩ : ∃ m, x.list.length = 2 * m := ⟨x.list.length / 2, by omega⟩
      have hm0 : 0 < m := by omega
      have HAM2 : Bx _ := ⟨HAM.out z2 m hm0 (by omega)⟩
      obtain ⟨b, o, hka, hb', hc⟩ := HKZ.out.at_ (by omega)
      have HR : Bx (∀ r, r < m → ∃ (t k h3 : Nat), 2 * r + 1 < x.list.length ∧ z2.cell? ⟨b, o + (2 * r + 1), none⟩ = some (.int .i64 (t : Int)) ∧ z2.cell? ⟨b, o + 2 * r, none⟩ = some (.int .i64 (k : Int)) ∧ k ≤ 1 ∧ (h3 : Int) = (hh2 : Int) + 1 - k ∧ Bx ((∀ s, ∃ q ∈ nextsI i x (ab, s), q.1 = t ∧ q.2.1 = h3 + 1 ∧ q.2.2 = s) ∧ ¬ t ≤ i)) := ⟨fun r hr => by
        have hj : 2 * r + 1 < x.list.length := by omega
        obtain ⟨y1, y2⟩ := HY.out.ar h27 r hj
        obtain ⟨y3, y4⟩ := tg r hj
        have c1 := hc (2 * r + 1) hj
        have c2 := hc (2 * r) (by omega)
        refine ⟨(x.list[2 * r + 1]).toNat, (x.list[2 * r]).toNat, if x.list[2 * r] = 0 then hh2 + 1 else hh2, hj, by rw [c1, Int.toNat_of_nonneg y3], by rw [c2, Int.toNat_of_nonneg (by omega)], by omega, ?_, ⟨fun s => ⟨_, by unfold nextsI; rw [if_neg h25, if_neg h19, if_neg (by omega), if_pos h27]; exact arm_at hj, rfl, ?_, ?_⟩, by omega⟩⟩
        · rcases y2 with e | e
          · rw [if_pos e]; omega
          · rw [if_neg (by omega)]; omega
        · have := HAB.out
          rcases y2 with e | e
          · rw [if_pos e, if_pos e]; simp only; omega
          · rw [if_neg (by omega), if_neg (by omega)]; exact this
        · rcases y2 with e | e
          · rw [if_pos e]
          · rw [if_neg (by omega)]⟩
      have hq1 : ((x.list.length : Int) / 2) = (m : Int) := by omega
      have hq3 : ((m : Int) == 0) = false := by simp; omega
      have hm32 : m ≤ 281474976710656 := by omega
      subst hka
      clear h25 h27 hl0 h19 ev tg hc hm HX HY HBE HKZ
      go_wp2_with (first
        | (go_at_call 15; refine HAM2.out.mono ?_; rintro e z5 ⟨r, rfl, hrm, rfl⟩; obtain ⟨t, k, h3, hj, cc1, cc2, hk1, hh3, HM⟩ := HR.out r hrm; have hrI : 2 * (r : Int) + 1 < (x.list.length : Int) := (by omega); have hrI2 : 2 * (r : Int) < (x.list.length : Int) := (by omega); have hr0 : (0 : Int) ≤ 2 * (r : Int) + 1 := (by omega); have hr1 : (0 : Int) ≤ 2 * (r : Int) := (by omega); have hrN : (2 * (r : Int) + 1).toNat = 2 * r + 1 := (by omega); have hrN2 : (2 * (r : Int)).toNat = 2 * r := (by omega); have hw1 : IntKind.i64.wrap ((hh2 : Int) + 1) = (hh2 : Int) + 1 := (by rw [IntKind.wrap_i64]; omega); have hw2 : IntKind.i64.wrap ((hh2 : Int) + 1 - (k : Int)) = (h3 : Int) := (by rw [hh3, IntKind.wrap_i64]; omega)))
      go_quiet (fail)
      go_wp2
      exact HQ1.out _ _ t h3 (by rw [hh3]; rfl) HM.out.1 (fun h => absurd h HM.out.2) ⟨HBZ.out.os, HBZ.out.tape, HBZ.out.output, HBZ.out.size, HBZ.out.block⟩
  have hb2 : (x.op == 27) = false := by simp [h27]
  have hbeh : behB x.op = true := by
    simp [behB]
    omega
  have hin : i + 1 < n := by
    have := HBE.out
    have h2 : ¬ i + 1 = n := fun e => this ⟨hbeh, e⟩
    omega
  by_cases h20 : x.op = 20
  · have b20 : (x.op == 20) = true := by simp [h20]
    obtain ⟨t1, t2⟩ := HX.out.tg (by omega)
    obtain ⟨t, ht⟩ : ∃ t : Nat, x.a = t := ⟨x.a.toNat, by omega⟩
    have hah := HY.out.ah (.inr h20)
    rw [ht] at g1
    have HM : Bx (∀ s, ∃ q ∈ nextsI i x (ab, s), q.1 = t ∧ q.2.1 = hh2 + 1 ∧ q.2.2 = s) := ⟨fun s => ⟨(x.a.toNat, (ab, s)), by unfold nextsI; rw [if_neg h25, if_neg h19, if_pos h20]; simp, by simp only; omega, HAB.out, rfl⟩⟩
    have HM2 : Bx (∀ s, ∃ q ∈ nextsI i x (ab, s), q.1 = i + 1 ∧ q.2.1 = hh2 + 1 ∧ q.2.2 = s) := ⟨fun s => ⟨(i + 1, (ab, s)), by unfold nextsI; rw [if_neg h25, if_neg h19, if_pos h20]; simp, rfl, HAB.out, rfl⟩⟩
    clear h25 h19 h27
    by_cases hp : (pick.tmod 2) = 0
    · have hpb : ((pick.tmod 2) != 0) = false := by simp [hp]
      clear hp
      go_wp2
      exact HQ1.out _ _ (i + 1) hh2 rfl HM2.out (fun h => by omega) HBZ.out
    · have hpb : ((pick.tmod 2) != 0) = true := by simp [hp]
      clear hp
      go_wp2
      exact HQ1.out _ _ t hh2 rfl HM.out (fun h => by omega) HBZ.out
  have b20 : (x.op == 20) = false := by simp [h20]
  have HM2 : Bx (∀ s, ∃ q ∈ nextsI i x (ab, s), q.1 = i + 1 ∧ q.2.1 = hh2 + 1 ∧ q.2.2 = s) := ⟨fun s => ⟨(i + 1, (ab, s)), by unfold nextsI; rw [if_neg h25, if_neg h19, if_neg h20, if_neg h27]; simp, rfl, HAB.out, rfl⟩⟩
  clear h25 h19 h27 h20
  go_wp2
  exact HQ1.out _ _ (i + 1) hh2 rfl HM2.out (fun h => by omega) HBZ.out
end Go.Proofs.YtadmpgegolmkgaaDoor
