import Derived.Test.YtadmpgegolmkgaaDoorCWfA
import Derived.Test.YtadmpgegolmkgaaDoorCWmE
import Derived.Test.YtadmpgegolmkgaaDoorCWfQ
namespace Go.Proofs.YtadmpgegolmkgaaDoor
open Go.RowKit
set_option linter.unusedVariables false
set_option linter.unusedSimpArgs false

theorem unin_at {w X : World} {pa ta : Option Addr} {pc tc : Nat} {u : CUn} (hu : UnIn w w.heap.size pa pc ta tc u) (hb : Below w.heap.size w X) : UnIn X X.heap.size pa pc ta tc u := hu.below hb hb.size
set_option maxRecDepth 100000 in
set_option maxHeartbeats 8000000 in
/-- **CHECK** of whatever unit -/
theorem Check_any (w : World) (hV : VW w) (u : CUn) (pa ta : Option Addr) (pc tc : Nat) (hu : UnIn w w.heap.size pa pc ta tc u) (hw : UnW u) :
    Calls Tryd.prog 9 #[unV u pa pc ta tc] w fun e w' => e = .returned (.tuple #[.int .i64 ((checkR u).1 : Int), .int .i64 ((checkR u).2.1 : Int), .int .i64 (checkR u).2.2]) ∧ Bx (Below w.heap.size w w') := by
  obtain ⟨H, hH⟩ : ∃ H, w.heap.size = H := ⟨_, rfl⟩
  obtain ⟨w1, hw1⟩ : ∃ w1, w.alloc (.cells #[.slice pa u.progs.length pc, .slice ta u.types.length tc] 25) = w1 := ⟨_, rfl⟩
  have b1 : Below w.heap.size w w1 := by rw [← hw1]; exact below1 w _
  have q1 : w1.heap[H]? = some (.cells #[.slice pa u.progs.length pc, .slice ta u.types.length tc] 25 (0, 0)) := by rw [← hw1]; exact heap_newH _ _ _ hH
  have s1 : w1.heap.size = H + 1 := by rw [← hw1]; simp [hH]
  have HU : Bx (∀ X, Below (H + 1) w1 X → X.cell? ⟨H, 0, none⟩ = some (.slice pa u.progs.length pc) ∧ X.cell? ⟨H, 1, none⟩ = some (.slice ta u.types.length tc)) := ⟨fun X hX => ⟨cell_blk ((hX.block H (by omega)).trans q1) rfl, cell_blk ((hX.block H (by omega)).trans q1) rfl⟩⟩
  have hXb : ∀ X, Below (H + 1) w1 X → Below w.heap.size w X := fun X hX => b1.trans (hX.mono (by omega))
  have HXB : Bx (∀ X, Below (H + 1) w1 X → Below w.heap.size w X) := ⟨hXb⟩
  have HPR : Bx (∀ X, Below (H + 1) w1 X → Calls Tryd.prog 19 #[.agg #[.slice pa u.progs.length pc, .slice ta u.types.length tc]] X fun e w' => e = .returned (.tuple #[.int .i64 ((progR u).1 : Int), .bool (progR u).2]) ∧ Bx (Below (H + 1) w1 w')) := ⟨fun X hX => (wrongProg_any X u pa ta pc tc (unin_at hu (hXb X hX))).mono fun e w' q => ⟨q.1, ⟨hX.trans (q.2.out.mono (by have := hX.size; omega))⟩⟩⟩
  have HAL : Bx ((progR u).2 = false → ∀ X, Below (H + 1) w1 X → Calls Tryd.prog 20 #[.agg #[.slice pa u.progs.length pc, .slice ta u.types.length tc]] X fun e w' => e = .returned (.tuple #[.int .i64 ((aloneR u (dfL u.types) u.progs 0).1 : Int), .int .i64 ((aloneR u (dfL u.types) u.progs 0).2.1 : Int), .int .i64 (aloneR u (dfL u.types) u.progs 0).2.2]) ∧ Bx (Below (H + 1) w1 w')) := ⟨fun hp X hX => by
    have hX2 := hXb X hX
    refine (wrongAlone_any X (hV.below hX2) u pa ta pc tc (unin_at hu hX2) (pgB_all hp) hw.ls (dfL u.types) fun Y hY => ?_).mono fun e w' q => ⟨q.1, ⟨hX.trans (q.2.out.mono (by have := hX.size; omega))⟩⟩
    exact defaults_any Y Y.heap.size (Nat.le_refl _) ta tc u.types (unin_at hu (hX2.trans (hY.mono hX2.size))).types (tsV_of (prog_ok hp).2.1) hw.tl hw.sk⟩
  have HWY : Bx ((progR u).2 = false → (aloneR u (dfL u.types) u.progs 0).2.2 = 0 → ∀ X, Below (H + 1) w1 X → Calls Tryd.prog 21 #[.agg #[.slice pa u.progs.length pc, .slice ta u.types.length tc]] X fun e w' => e = .returned (.tuple #[.int .i64 ((wayR u.progs 0).1 : Int), .int .i64 ((wayR u.progs 0).2.1 : Int), .int .i64 (wayR u.progs 0).2.2]) ∧ Bx (Below (H + 1) w1 w')) := ⟨fun hp ha X hX => by
    have hX2 := hXb X hX
    exact (wrongWay_any X (hV.below hX2) u pa ta pc tc (unin_at hu hX2) (pgF_all hw hp ha) (prog_ok hp).1).mono fun e w' q => ⟨q.1, ⟨hX.trans (q.2.out.mono (by have := hX.size; omega))⟩⟩⟩
  have HB0 : Bx (Below (H + 1) w1 w1) := ⟨Below.refl _ _⟩
  obtain ⟨hu0, hu1⟩ := HU.out w1 (Below.refl _ _)
  unfold checkR unV
  clear hV hu hw b1 q1 hXb
  generalize progR u = PR at *
  generalize aloneR u (dfL u.types) u.progs 0 = AR at *
  generalize wayR u.progs 0 = WR at *
  cases hp : PR.2 with
  | true =>
    rw [hp] at HPR
    simp only [if_true]
    clear HAL HWY hp
    go_enter Tryd.func9, Tryd.ntmps9
    go_wp2_with (first
      | (go_at_call 19; refine (HPR.out _ HB0.out).mono ?_; rintro e w2 ⟨rfl, HB2⟩))
    go_returns
    exact ⟨rfl, ⟨by first | exact HXB.out _ HB2.out | (rw [← hH]; exact HXB.out _ HB2.out)⟩⟩
  | false =>
    rw [hp] at HPR
    have HAL2 : Bx _ := ⟨HAL.out hp⟩
    simp only [Bool.false_eq_true, if_false]
    by_cases ha : AR.2.2 = 0
    · have HWY2 : Bx _ := ⟨HWY.out hp ha⟩
      have hab : ((AR.2.2 : Int) != 0) = false := by simp [ha]
      simp only [if_pos ha]
      clear HAL HWY hp ha
      go_enter Tryd.func9, Tryd.ntmps9
      go_wp2_with (first
        | (go_at_call 19; refine (HPR.out _ HB0.out).mono ?_; rintro e w2 ⟨rfl, HB2⟩; obtain ⟨k0, k1⟩ := HU.out _ HB2.out)
        | (go_at_call 20; refine (HAL2.out _ HB2.out).mono ?_; rintro e w3 ⟨rfl, HB3⟩; obtain ⟨k2, k3⟩ := HU.out _ HB3.out)
        | (go_at_call 21; refine (HWY2.out _ HB3.out).mono ?_; rintro e w4 ⟨rfl, HB4⟩))
      go_returns
      exact ⟨rfl, ⟨by first | exact HXB.out _ HB4.out | (rw [← hH]; exact HXB.out _ HB4.out)⟩⟩
    · have hab : ((AR.2.2 : Int) != 0) = true := by simp [ha]
      simp only [if_neg ha]
      clear HAL HWY hp ha
      go_enter Tryd.func9, Tryd.ntmps9
      go_wp2_with (first
        | (go_at_call 19; refine (HPR.out _ HB0.out).mono ?_; rintro e w2 ⟨rfl, HB2⟩; obtain ⟨k0, k1⟩ := HU.out _ HB2.out)
        | (go_at_call 20; refine (HAL2.out _ HB2.out).mono ?_; rintro e w3 ⟨rfl, HB3⟩; obtain ⟨k2, k3⟩ := HU.out _ HB3.out))
      go_returns
      exact ⟨rfl, ⟨by first | exact HXB.out _ HB3.out | (rw [← hH]; exact HXB.out _ HB3.out)⟩⟩
end Go.Proofs.YtadmpgegolmkgaaDoor
namespace Go.Proofs.YtadmpgegolmkgaaDoor
set_option linter.unusedVariables false
set_option linter.unusedSimpArgs false

theorem run_kv {n L : Nat} {sl : Int} {res : Bool} {code : List CIn} (hx : ∀ i, i < n → LkX n sl i (inA code i)) : ∀ (f : Nat) {s : Wst} {m : Nat}, PrOk s.P → Kv n L m s.P s.K s.D → PrOk (runP n res L code f s).2.2.P ∧ Kv n L (m + 2 * f) (runP n res L code f s).2.2.P (runP n res L code f s).2.2.K (runP n res L code f s).2.2.D ∧ s.P <+: (runP n res L code f s).2.2.P ∧ (runP n res L code f s).2.2.K.length = s.K.length
  | 0, s, m, hP, hk => ⟨hP, hk, List.prefix_refl _, rfl⟩
  | f + 1, s, m, hP, hk => by
    rw [runP]
    cases hi : leastD n s.D with
    | none => exact ⟨hP, hk.mono (List.prefix_refl _) (by omega), List.prefix_refl _, rfl⟩
    | some i =>
      simp only
      obtain ⟨hin, hlb⟩ := least_some hi
      have L := look_kv (res := res) (s := ⟨s.P, s.K, del i s.D⟩) (hx i hin) hin hP (hk.del i) (hk.vs i hin (hk.dn i hlb.1).2) (hk.ab i hin)
      split
      · obtain ⟨h1, h2, h3, h4⟩ := run_kv hx f (m := m + 2) L.pr L.kv
        exact ⟨h1, h2.mono (List.prefix_refl _) (by omega), L.pre.trans h3, h4.trans L.kl⟩
      · exact ⟨L.pr, L.kv.mono (List.prefix_refl _) (by omega), L.pre, L.kl⟩
theorem st0_kv {pg : CPg} {sl pr : Nat} (hp : PgOk pg sl pr) {K : List Wy} (hk : pg.code.length ≤ K.length) : PrOk (st0 pg.code.length sl pr K).P ∧ Kv pg.code.length (lvS sl) 1 (st0 pg.code.length sl pr K).P (st0 pg.code.length sl pr K).K (st0 pg.code.length sl pr K).D := by
  obtain ⟨f1, f2, f3, f4, f5, f6, f7⟩ := fir_spec pr (lvS sl) begin_ok
  have hk0 : Kv pg.code.length (lvS sl) 1 (firP pr (lvS sl) [pz]).1 (clearK pg.code.length K) (fun _ => false) :=
    ⟨by rw [clearK_len hk]; exact hk, fun i q => (by cases q), fun i hi hz => absurd (by rw [kA_clear hi]) hz, fun i hi => by rw [kA_clear hi]; exact Nat.zero_le _⟩
  exact ⟨f2, hk0.come (i := 0) (p := (1, _)) hp.n0 (by simp) f4 (by simp)⟩
theorem run0_kv {pg : CPg} {sl pr : Nat} (hp : PgOk pg sl pr) {K : List Wy} (hk : pg.code.length ≤ K.length) : PrOk (run0 sl pr pg.res pg.code K).2.2.P ∧ Kv pg.code.length (lvS sl) 2147483647 (run0 sl pr pg.res pg.code K).2.2.P (run0 sl pr pg.res pg.code K).2.2.K (run0 sl pr pg.res pg.code K).2.2.D ∧ (st0 pg.code.length sl pr K).P <+: (run0 sl pr pg.res pg.code K).2.2.P ∧ (run0 sl pr pg.res pg.code K).2.2.K.length = K.length := by
  obtain ⟨h1, h2⟩ := st0_kv hp hk
  obtain ⟨a1, a2, a3, a4⟩ := run_kv (res := pg.res) (fun i hi => (hp.insA hi).1) (3 * pg.code.length + 1) h1 h2
  have := hp.n1
  refine ⟨a1, a2.mono (List.prefix_refl _) (by omega), a3, a4.trans ?_⟩
  show (comeK _ _ _).length = _
  rw [comeK_len, clearK_len hk]
theorem way1_kv {p : CPg} (hp : PgOk p p.slots.toNat p.params.toNat) : (way1 p).2.2.K.length = p.code.length ∧ ∀ i, i < p.code.length → (kA (way1 p).2.2.K i).1 ≤ 2147483647 := by
  obtain ⟨_, h2, _, h4⟩ := run0_kv hp (K := List.replicate p.code.length (0, 0)) (by simp)
  exact ⟨h4.trans (by simp), fun i hi => h2.ab i hi⟩
end Go.Proofs.YtadmpgegolmkgaaDoor
namespace Go.Proofs.YtadmpgegolmkgaaDoor
open Go.RowKit
set_option linter.unusedVariables false
set_option linter.unusedSimpArgs false

theorem wayR_zero : ∀ {l : List CPg} {k : Nat}, (wayR l k).2.2 = 0 → ∀ p ∈ l, (way1 p).2.1 = 0
  | [], _, _, p, hp => by cases hp
  | q :: r, k, h, p, hp => by
    rw [wayR] at h
    split at h
    · rename_i h0
      rcases List.mem_cons.1 hp with e | e
      · subst e; exact h0
      · exact wayR_zero h p e
    · rename_i h0
      exact absurd h h0
theorem check_zero {u : CUn} (h : (checkR u).2.2 = 0) : (progR u).2 = false ∧ (aloneR u (dfL u.types) u.progs 0).2.2 = 0 ∧ (wayR u.progs 0).2.2 = 0 := by
  unfold checkR at h
  split at h
  · exact absurd h (by simp)
  · rename_i h1
    split at h
    · rename_i h2
      exact ⟨by simpa using h1, h2, h⟩
    · rename_i h2
      exact absurd h h2
def highs (p : CPg) : List Int := (List.range p.code.length).map fun i => ((kA (way1 p).2.2.K i).1 : Int) - 1
def highR (u : CUn) (k : Int) : List Int := if 0 ≤ k ∧ k < u.progs.length ∧ (checkR u).2.2 = 0 then highs (u.progs.getD k.toNat pgD) else []
/-- a list that was handed out: none, or a row of one's own -/
structure HiO (w w' : World) (v : Value) (l : List Int) : Prop where
  bel : Below w.heap.size w w'
  row : (l = [] ∧ v = .slice none 0 0) ∨ ∃ g, w.heap.size ≤ g ∧ v = .slice (some ⟨g, 0, none⟩) l.length l.length ∧ w'.heap[g]? = some (.cells (l.map (Value.int .i64)).toArray 3 (0, 0))
theorem highs_len (p : CPg) : (highs p).length = p.code.length := by simp [highs]
set_option maxRecDepth 100000 in
set_option maxHeartbeats 8000000 in
/-- **HEIGHTS** of whatever prog of whatever unit -/
theorem Heights_any (w : World) (hV : VW w) (u : CUn) (pa ta : Option Addr) (pc tc : Nat) (hu : UnIn w w.heap.size pa pc ta tc u) (hw : UnW u) (k : Int) :
    Calls Tryd.prog 11 #[unV u pa pc ta tc, .int .i64 k] w fun e w' => ∃ v, e = .returned v ∧ Bx (HiO w w' v (highR u k)) := by
  obtain ⟨H, hH⟩ : ∃ H, w.heap.size = H := ⟨_, rfl⟩
  obtain ⟨w1, hw1⟩ : ∃ w1, w.alloc (.cells #[.slice pa u.progs.length pc, .slice ta u.types.length tc] 25) = w1 := ⟨_, rfl⟩
  have b1 : Below w.heap.size w w1 := by rw [← hw1]; exact below1 w _
  have q1 : w1.heap[H]? = some (.cells #[.slice pa u.progs.length pc, .slice ta u.types.length tc] 25 (0, 0)) := by rw [← hw1]; exact heap_newH _ _ _ hH
  have s1 : w1.heap.size = H + 1 := by rw [← hw1]; simp [hH]
  have HU : Bx (∀ X, Below (H + 1) w1 X → X.cell? ⟨H, 0, none⟩ = some (.slice pa u.progs.length pc) ∧ X.cell? ⟨H, 1, none⟩ = some (.slice ta u.types.length tc)) := ⟨fun X hX => ⟨cell_blk ((hX.block H (by omega)).trans q1) rfl, cell_blk ((hX.block H (by omega)).trans q1) rfl⟩⟩
  have hXb : ∀ X, Below (H + 1) w1 X → Below w.heap.size w X := fun X hX => b1.trans (hX.mono (by omega))
  have HXB : Bx (∀ X, Below (H + 1) w1 X → Below w.heap.size w X) := ⟨hXb⟩
  have HB0 : Bx (Below (H + 1) w1 w1) := ⟨Below.refl _ _⟩
  have HCK : Bx (∀ X, Below (H + 1) w1 X → Calls Tryd.prog 9 #[.agg #[.slice pa u.progs.length pc, .slice ta u.types.length tc]] X fun e w' => e = .returned (.tuple #[.int .i64 ((checkR u).1 : Int), .int .i64 ((checkR u).2.1 : Int), .int .i64 (checkR u).2.2]) ∧ Bx (Below (H + 1) w1 w')) := ⟨fun X hX => (Check_any X (hV.below (hXb X hX)) u pa ta pc tc (unin_at hu (hXb X hX)) hw).mono fun e w' q => ⟨q.1, ⟨hX.trans (q.2.out.mono (by have := hX.size; omega))⟩⟩⟩
  obtain ⟨hu0, hu1⟩ := HU.out w1 (Below.refl _ _)
  have hcap := hu.progs.cap
  unfold highR unV
  by_cases hk0 : k < 0
  · rw [if_neg (by omega)]
    have hkb : decide (k < 0) = true := decide_eq_true hk0
    have HF : Bx (HiO w w1 (.slice none 0 0) []) := ⟨⟨b1, .inl ⟨rfl, rfl⟩⟩⟩
    clear hV hu hw b1 q1 hXb HCK hk0
    go_enter Tryd.func11, Tryd.ntmps11
    go_wp2
    go_ret
    exact ⟨_, rfl, HF⟩
  have hkb : decide (k < 0) = false := decide_eq_false hk0
  by_cases hkl : ¬ k < u.progs.length
  · rw [if_neg (by omega)]
    have hkb2 : decide ((u.progs.length : Int) ≤ k) = true := decide_eq_true (by omega)
    have HF : Bx (HiO w w1 (.slice none 0 0) []) := ⟨⟨b1, .inl ⟨rfl, rfl⟩⟩⟩
    clear hV hu hw b1 q1 hXb HCK hk0 hkl
    go_enter Tryd.func11, Tryd.ntmps11
    go_wp2
    go_ret
    exact ⟨_, rfl, HF⟩
  have hkl2 : k < u.progs.length := by omega
  have hkb2 : decide ((u.progs.length : Int) ≤ k) = false := decide_eq_false (by omega)
  by_cases hc : (checkR u).2.2 = 0
  · rw [if_pos ⟨by omega, hkl2, hc⟩]
    have hcb : (((checkR u).2.2 : Int) != 0) = false := by simp [hc]
    obtain ⟨m, hm⟩ : ∃ m : Nat, k = m := ⟨k.toNat, by omega⟩
    have hml : m < u.progs.length := by omega
    have hpe : u.progs.getD k.toNat pgD = u.progs[m] := by
      rw [hm, show ((m : Int)).toNat = m by omega, List.getD_eq_getElem?_getD, List.getElem?_eq_getElem hml]
      rfl
    rw [hpe]
    obtain ⟨z1, z2, z3⟩ := check_zero hc
    have hpg := pgF_all hw z1 z2 _ (List.getElem_mem hml)
    have hwy := wayR_zero z3 _ (List.getElem_mem hml)
    obtain ⟨b, o, ca, cc, hpa, hb, hci, HC⟩ := prog_cells hu.progs hml
    have hccap := hci.cap
    have hn0 := hpg.n0
    have hn1 := hpg.n1
    have HFO : Bx (∀ X, Below w.heap.size w X → Calls Tryd.prog 26 #[.int .i64 (u.progs[m].code.length : Int)] X fun e w' => ∃ wb g, e = .returned (.pointer (some ⟨wb, 0, none⟩)) ∧ Bx (∀ X', Below w'.heap.size w' X' → Calls Tryd.prog 27 #[.pointer (some ⟨wb, 0, none⟩), .agg (pgC u.progs[m] ca cc)] X' fun e w'' => (∃ y, e = .returned y) ∧ Bx (Below X.heap.size X w'' ∧ WkR w'' X.heap.size wb g (pgA u.progs[m] ca cc) (way1 u.progs[m]).2.2.K)) ∧ Bx (Below X.heap.size X w' ∧ g.n = u.progs[m].code.length)) := ⟨fun X hX => by
      refine (newWalker_all X _ hn0 (by omega)).mono ?_
      rintro e w' ⟨wb, g, rfl, hn⟩
      obtain ⟨r, gn, t1, t2, bl⟩ := hn.out
      refine ⟨wb, g, rfl, ⟨fun X' hX' => ?_⟩, ⟨bl, gn⟩⟩
      have hb1 : Below X.heap.size X X' := bl.trans (hX'.mono bl.size)
      refine (follow_any X X' (hV.below hX) hb1 wb g wA0 _ (r.below hX') u.progs[m] _ _ hpg ca cc ((hci.mono fun b o x hb he => he.below hX hX.size hb).up hX.size) (by omega) t1 t2).mono ?_
      rintro e w'' ⟨rfl, hq⟩
      exact ⟨⟨_, rfl⟩, ⟨hq.out.1, hq.out.2 hwy⟩⟩⟩
    have HHL : Bx (∀ i, i < u.progs[m].code.length → (highs u.progs[m])[i]? = some (((kA (way1 u.progs[m]).2.2.K i).1 : Int) - 1)) := ⟨fun i hi => by simp [highs, hi]⟩
    have HHN : Bx ((highs u.progs[m]).length = u.progs[m].code.length) := ⟨highs_len _⟩
    have HKB : Bx ((way1 u.progs[m]).2.2.K.length = u.progs[m].code.length ∧ ∀ i, i < u.progs[m].code.length → (kA (way1 u.progs[m]).2.2.K i).1 ≤ 2147483647) := ⟨way1_kv hpg⟩
    have hmI : (m : Int) < (u.progs.length : Int) := by omega
    have hwlt : Bx (b < w.heap.size) := ⟨hb⟩
    clear hV hu hw b1 q1 hXb hk0 hkl hc hkl2 z1 z2 z3 hpg hwy hpe hci
    generalize checkR u = CR at *
    generalize way1 u.progs[m] = WY at *
    generalize highs u.progs[m] = HI at *
    subst hm
    subst hpa
    unfold pgC at HFO
    generalize u.progs[m] = pg at *
    have HXA : Bx (∀ X : World, Below (H + 1) w1 X → ∀ o, Below w.heap.size w (X.alloc o)) := ⟨fun X hX o => (HXB.out X hX).alloc (HXB.out X hX).size o⟩
    have HPC : Bx (∀ X Y : World, Below (X.alloc (.cells (pgC pg ca cc) 40)).heap.size (X.alloc (.cells (pgC pg ca cc) 40)) Y → Y.cell? ⟨X.heap.size, 0, none⟩ = some (.int .i64 pg.params) ∧ Y.cell? ⟨X.heap.size, 1, none⟩ = some (.int .i64 pg.slots) ∧ Y.cell? ⟨X.heap.size, 2, none⟩ = some (.int .i64 pg.caps) ∧ Y.cell? ⟨X.heap.size, 3, none⟩ = some (.bool pg.res) ∧ Y.cell? ⟨X.heap.size, 4, none⟩ = some (.slice ca pg.code.length cc)) := ⟨fun X Y hY => by
      have := (hY.block X.heap.size (by simp)).trans (heap_newH X _ _ rfl)
      exact ⟨cell_blk this rfl, cell_blk this rfl, cell_blk this rfl, cell_blk this rfl, cell_blk this rfl⟩⟩
    unfold pgC at HPC
    have hmk := fun W => make_iF W pg.code.length (by omega)
    go_enter Tryd.func11, Tryd.ntmps11
    go_wp2_with (first
      | (go_at_call 9; refine (HCK.out _ HB0.out).mono ?_; rintro e w2 ⟨rfl, HB2⟩; obtain ⟨k0, k1⟩ := HU.out _ HB2.out; obtain ⟨c0, c1, c2, c3, c4⟩ := HC.out _ (HXB.out _ HB2.out); have hbl2 : b < w2.heap.size := (by have := hwlt.out; have := (HXB.out _ HB2.out).size; omega))
      | (go_at_call 26; refine (HFO.out _ (HXA.out w2 HB2.out _)).mono ?_; rintro e w3 ⟨wb, g, rfl, HF3, HB3⟩; obtain ⟨p0, p1, p2, p3, p4⟩ := HPC.out w2 w3 HB3.out.1)
      | (go_at_call 27; refine (HF3.out _ (Below.refl _ _)).mono ?_; rintro e w4 ⟨⟨y, rfl⟩, HF4⟩; obtain ⟨r0, r1, r2, r3, r4⟩ := HPC.out w2 w4 HF4.out.1))
    have hWR := HF4.out.2
    obtain ⟨lv, pv, mv, hwk⟩ := hWR.wk
    unfold wkA at hwk
    have HK5 : Bx (w4.cell? ⟨wb, 5, none⟩ = some (.slice (some ⟨g.kb, 0, none⟩) g.n g.n)) := ⟨cell_blk hwk rfl⟩
    have HKN : Bx (w4.heap[g.kb]? = some (.cells (kN WY.2.2.K).toArray 66 (0, 0))) := ⟨hWR.kn⟩
    obtain ⟨G, hG⟩ : ∃ G, w4.heap.size = G := ⟨_, rfl⟩
    have hwbl : wb < G := by rw [← hG]; exact hWR.lt.1
    have hkbl : g.kb < G := by rw [← hG]; exact hWR.lt.2.1
    obtain ⟨w5, hw5⟩ : ∃ w5, w4.alloc (.cells (rowF pg.code.length fun _ => .int .i64 0) 3) = w5 := ⟨_, rfl⟩
    have b5 : Below w4.heap.size w4 w5 := by rw [← hw5]; exact below1 w4 _
    have q5 : w5.heap[G]? = some (.cells (rowF pg.code.length fun _ => .int .i64 0) 3 (0, 0)) := by rw [← hw5]; exact heap_newH _ _ _ hG
    have hwb4 : Below w.heap.size w w4 := by
      have h1 := HXA.out w2 HB2.out (.cells (pgC pg ca cc) 40)
      exact h1.trans (HF4.out.1.mono h1.size)
    have hwG : w.heap.size ≤ G := by rw [← hG]; exact hwb4.size
    have HB5 : Bx (Below w.heap.size w w5) := ⟨hwb4.trans (b5.mono hwb4.size)⟩
    have HQ5 : Bx (w5.heap[G]? = some (.cells (rowF pg.code.length fun j => .int .i64 (if j < 0 then ((kA WY.2.2.K j).1 : Int) - 1 else 0)) 3 (0, 0))) := ⟨by simpa using q5⟩
    have HS5 : Bx (∀ j, j < G → w5.heap[j]? = w4.heap[j]?) := ⟨fun j hj => b5.block j (by omega)⟩
    have hgn := HB3.out.2
    have hwG2 : Bx (w.heap.size ≤ G) := ⟨hwG⟩
    rw [hG, hw5]
    clear hWR hwk hw5 b5 q5 hwb4 hwG HF4 HF3 p0 p1 p2 p3 p4 r0 r1 r2 r3 r4 k0 k1 c0 c1 c2 c3 c4 hu0 hu1 hmk HCK HFO HPC HXA hbl2 HB2 HB3 hG
    go_loopg [47] (pg.code.length + 1) (fun f v47 wr => ∃ i : Nat, f = pg.code.length + 1 - i ∧ i ≤ pg.code.length ∧ v47 = .int .i64 i ∧ Bx (wr.heap[G]? = some (.cells (rowF pg.code.length fun j => .int .i64 (if j < i then ((kA WY.2.2.K j).1 : Int) - 1 else 0)) 3 (0, 0))) ∧ Bx (∀ j, j < G → wr.heap[j]? = w4.heap[j]?) ∧ Bx (Below w.heap.size w wr))
    case atStart => exact ⟨0, by simp, Nat.zero_le _, rfl, HQ5, HS5, HB5⟩
    case round =>
      clear HQ5 HS5 HB5
      obtain ⟨i, hf, hi, rfl, HQ, HS, HB⟩ := hrel
      by_cases hlt : i < pg.code.length
      · have hiI : (i : Int) < (pg.code.length : Int) := by omega
        have hig : (i : Int) < (g.n : Int) := by omega
        have k5 := (World.cell?_of_block (a := ⟨wb, 5, none⟩) (HS.out wb hwbl)).trans HK5.out
        obtain ⟨e1, e2⟩ := HKB.out
        have hka : WY.2.2.K[i]? = some (kA WY.2.2.K i) := by
          unfold kA
          rw [List.getElem?_eq_getElem (by omega)]
          rfl
        have k6 := (World.cell?_of_block (a := ⟨g.kb, i * 2, none⟩) (HS.out g.kb hkbl)).trans (cell_blk HKN.out (by simpa using (kN_get _ _ _ hka).1))
        have hbd := e2 i hlt
        have g0 : wr.cell? ⟨G, i, none⟩ = some (.int .i64 0) := cell_blk HQ.out (by rw [rowF_at hlt, if_neg (by omega)])
        have gf : ∀ j, wr.frozen? ⟨G, j, none⟩ = false := fun j => by simp [World.frozen?, HQ.out]
        have hwr : IntKind.i64.wrap (((kA WY.2.2.K i).1 : Int) - 1) = ((kA WY.2.2.K i).1 : Int) - 1 := by rw [IntKind.wrap_i64]; omega
        have HQ2 : Bx ((wr.setCell ⟨G, i, none⟩ (.int .i64 (((kA WY.2.2.K i).1 : Int) - 1))).heap[G]? = some (.cells (rowF pg.code.length fun j => .int .i64 (if j < i + 1 then ((kA WY.2.2.K j).1 : Int) - 1 else 0)) 3 (0, 0))) := ⟨by
          have := heap_setCell_same wr G i _ 3 (.int .i64 (((kA WY.2.2.K i).1 : Int) - 1)) HQ.out
          rw [rowF_set hlt] at this
          rw [this]
          congr 2
          refine rowF_congr fun j hj => ?_
          by_cases e : j = i
          · subst e; rw [fup_same, if_pos (by omega)]
          · rw [fup_ne _ _ e]
            by_cases e2 : j < i
            · rw [if_pos e2, if_pos (by omega)]
            · rw [if_neg e2, if_neg (by omega)]⟩
        have HS2 : Bx (∀ j, j < G → (wr.setCell ⟨G, i, none⟩ (.int .i64 (((kA WY.2.2.K i).1 : Int) - 1))).heap[j]? = w4.heap[j]?) := ⟨fun j hj => (Below.heap_setCell wr ⟨G, i, none⟩ _ j (by show j ≠ G; omega)).trans (HS.out j hj)⟩
        have HB6 : Bx (Below w.heap.size w (wr.setCell ⟨G, i, none⟩ (.int .i64 (((kA WY.2.2.K i).1 : Int) - 1)))) := ⟨HB.out.setCell (p := ⟨G, i, none⟩) hwG2.out _⟩
        clear HQ HS HB e1 e2 hka
        generalize ((kA WY.2.2.K i).1 : Int) = y at *
        go_wp2
        go_roundg (pg.code.length + 1 - (i + 1))
        case measure => omega
        case rel => exact ⟨i + 1, rfl, by omega, by simp, HQ2, HS2, HB6⟩
      · obtain rfl : i = pg.code.length := by omega
        have HFI : Bx (HiO w wr (.slice (some ⟨G, 0, none⟩) pg.code.length pg.code.length) HI) := ⟨⟨HB.out, .inr ⟨G, hwG2.out, by rw [HHN.out], by
          rw [HQ.out]
          congr 2
          apply Array.ext_getElem?
          intro j
          by_cases hj : j < pg.code.length
          · rw [rowF_at hj, if_pos hj]
            simp [HHL.out j hj]
          · rw [Array.getElem?_eq_none (by rw [rowF_size]; omega), Array.getElem?_eq_none (by simp [HHN.out]; omega)]⟩⟩⟩
        clear HQ HS HB
        go_wp2
        go_ret
        exact ⟨_, rfl, HFI⟩
  · rw [if_neg (by omega)]
    have hcb : (((checkR u).2.2 : Int) != 0) = true := by simp [hc]
    clear hV hu hw b1 q1 hXb hk0 hkl hc hkl2
    generalize checkR u = CR at *
    go_enter Tryd.func11, Tryd.ntmps11
    go_wp2_with (first
      | (go_at_call 9; refine (HCK.out _ HB0.out).mono ?_; rintro e w2 ⟨rfl, HB2⟩))
    go_ret
    exact ⟨_, rfl, ⟨⟨HXB.out _ HB2.out, .inl ⟨rfl, rfl⟩⟩⟩⟩
end Go.Proofs.YtadmpgegolmkgaaDoor
