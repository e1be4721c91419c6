import Derived.Test.YtadmpgegolmkgaaDoorCWmE
namespace Go.Proofs.YtadmpgegolmkgaaDoor
open Go.RowKit Go.MapKept Go.ChangeMaps Go.WideShapes
set_option linter.unusedVariables false
set_option linter.unusedSimpArgs false

theorem WkR.base {w : World} {B B' wb : Nat} {g : WG} {A : WA} {K : List Wy} (h : WkR w B wb g A K) (hB : B' ≤ B) : WkR w B' wb g A K := by
  refine ⟨Nat.le_trans hB h.b1, Nat.le_trans hB h.b2, Nat.le_trans hB h.b3, fun l hl => Nat.le_trans hB (h.b4 l hl), h.kn, h.kl, h.du, h.nd, ?_⟩
  rcases h.st with e | ⟨mb, L, gb, gc, P, s, q1, q2, q3⟩
  · exact .inl e
  · exact .inr ⟨mb, L, gb, gc, P, s, Nat.le_trans hB q1, Nat.le_trans hB q2, q3⟩
abbrev PgF (p : CPg) : Prop := PgOk p p.slots.toNat p.params.toNat
/-- a prog's cells -/
theorem prog_cells {w : World} {B pc : Nat} {pa : Option Addr} {l : List CPg} (h : Row (PgAt w B) B 5 pa pc l) {k : Nat} (hk : k < l.length) : ∃ b o ca cc, pa = some ⟨b, o, none⟩ ∧ b < B ∧ Row (InAt w B) B 4 ca cc l[k].code ∧ Bx (∀ X, Below B w X → X.cell? ⟨b, o + k * 5, none⟩ = some (.int .i64 l[k].params) ∧ X.cell? ⟨b, o + k * 5 + 1, none⟩ = some (.int .i64 l[k].slots) ∧ X.cell? ⟨b, o + k * 5 + 2, none⟩ = some (.int .i64 l[k].caps) ∧ X.cell? ⟨b, o + k * 5 + 3, none⟩ = some (.bool l[k].res) ∧ X.cell? ⟨b, o + k * 5 + 4, none⟩ = some (.slice ca l[k].code.length cc)) := by
  obtain ⟨b, o, e, hb, hj⟩ := h.at_ (by omega)
  obtain ⟨ca, cc, h0, h1, h2, h3, h4, h5⟩ := (hj k hk).ex
  have hc : ∀ X, Below B w X → ∀ i, X.cell? ⟨b, i, none⟩ = w.cell? ⟨b, i, none⟩ := fun X hX i => hX.cell (p := ⟨b, i, none⟩) hb
  exact ⟨b, o, ca, cc, e, hb, h5, ⟨fun X hX => ⟨by rw [hc X hX]; exact h0, by rw [hc X hX]; exact h1, by rw [hc X hX]; exact h2, by rw [hc X hX]; exact h3, by rw [hc X hX]; exact h4⟩⟩⟩
set_option maxRecDepth 100000 in
set_option maxHeartbeats 8000000 in
/-- **THE WAYS OF ALL PROGS** -/
theorem wrongWay_any (w : World) (hV : VW w) (u : CUn) (pa ta : Option Addr) (pc tc : Nat) (hu : UnIn w w.heap.size pa pc ta tc u) (hp : ∀ p ∈ u.progs, PgF p) (h0 : 0 < u.progs.length) :
    Calls Tryd.prog 21 #[unV u pa pc ta tc] w fun e w' => e = .returned (.tuple #[.int .i64 ((wayR u.progs 0).1 : Int), .int .i64 ((wayR u.progs 0).2.1 : Int), .int .i64 (wayR u.progs 0).2.2]) ∧ Bx (Below w.heap.size w w') := by
  obtain ⟨H, hH⟩ : ∃ H, w.heap.size = H := ⟨_, rfl⟩
  have hrow := hu.progs
  have hcap := hrow.cap
  have hmx := hrow.max
  unfold maxLen at hmx
  obtain ⟨w1, hw1⟩ : ∃ w1, w.alloc (.cells #[.slice pa u.progs.length pc, .slice ta u.types.length tc] 25) = w1 := ⟨_, rfl⟩
  have b1 : Below w.heap.size w w1 := by rw [← hw1]; exact below1 w _
  have q1 : w1.heap[H]? = some (.cells #[.slice pa u.progs.length pc, .slice ta u.types.length tc] 25 (0, 0)) := by rw [← hw1]; exact heap_newH _ _ _ hH
  have s1 : w1.heap.size = H + 1 := by rw [← hw1]; simp [hH]
  have HU : Bx (∀ X, Below (H + 1) w1 X → X.cell? ⟨H, 0, none⟩ = some (.slice pa u.progs.length pc)) := ⟨fun X hX => cell_blk ((hX.block H (by omega)).trans q1) rfl⟩
  have HB1 : Bx (Below w.heap.size w w1) := ⟨b1⟩
  have HPC : Bx (∀ k (hk : k < u.progs.length), _) := ⟨fun k hk => prog_cells hrow hk⟩
  have HV : Bx (VW w) := ⟨hV⟩
  have HP : Bx (∀ p ∈ u.progs, PgF p) := ⟨hp⟩
  have hlong : longI u.progs ≤ 268435456 ∧ 0 < longI u.progs := by
    rcases long_mem (l := u.progs) with e | ⟨p, hm, e⟩
    · rw [e] at h0; simp at h0
    · rw [e]; exact ⟨(hp p hm).n1, (hp p hm).n0⟩
  have HNW : Bx (∀ X, Calls Tryd.prog 26 #[.int .i64 (longI u.progs : Int)] X fun e w' => ∃ wb g, e = .returned (.pointer (some ⟨wb, 0, none⟩)) ∧ Bx (NwP X.heap.size X w' wb (longI u.progs) g)) := ⟨fun X => newWalker_all X _ hlong.2 (by omega)⟩
  have HML : Bx (maxGo (u.progs.drop 0) 0 = longI u.progs) := ⟨by rw [List.drop_zero, maxGo_eq]; omega⟩
  have HLE : Bx (∀ p ∈ u.progs, p.code.length ≤ longI u.progs) := ⟨fun p hm => long_le hm⟩
  generalize hRR : wayR u.progs 0 = R
  have HR : Bx (wayR (u.progs.drop 0) 0 = R) := ⟨by rw [List.drop_zero]; exact hRR⟩
  have hu0 := HU.out w1 (Below.refl _ _)
  generalize hln : longI u.progs = lng at *
  clear hV hp hu hrow q1 b1 hRR hln hlong
  unfold unV
  go_enter Tryd.func21, Tryd.ntmps21
  go_wp2
  clear hu0
  go_loopg [5, 16] (u.progs.length + 1) (fun f v5 v16 wr => ∃ k m : Nat, f = u.progs.length + 1 - k ∧ k ≤ u.progs.length ∧ m ≤ 268435456 ∧ v5 = .int .i64 m ∧ v16 = .int .i64 k ∧ Bx (maxGo (u.progs.drop k) m = lng) ∧ Bx (Below (H + 1) w1 wr))
  case atStart => exact ⟨0, 0, by simp, Nat.zero_le _, by omega, rfl, rfl, HML, ⟨Below.refl _ _⟩⟩
  case round =>
    obtain ⟨k, m, hf, hk, hm, rfl, rfl, HM, HB⟩ := hrel
    by_cases hlt : k < u.progs.length
    · obtain ⟨b, o, ca, cc, rfl, hb, -, HC⟩ := HPC.out k hlt
      have hs := HB.out.size
      have hwr : Below w.heap.size w wr := HB1.out.trans (HB.out.mono (by omega))
      obtain ⟨c0, c1, c2, c3, c4⟩ := HC.out wr hwr
      have hbl : b < wr.heap.size := by omega
      have hn1 := (HP.out _ (List.getElem_mem hlt)).n1
      have HM2 : Bx _ := ⟨(maxGo_at hlt).symm.trans HM.out⟩
      have HB2 : Bx (∀ o, Below (H + 1) w1 (wr.alloc o)) := ⟨fun o => HB.out.alloc (by omega) _⟩
      have hkI : (k : Int) < (u.progs.length : Int) := by omega
      generalize u.progs[k] = pg at *
      generalize pg.code.length = n at *
      clear HM HC hwr hs HB
      go_wp2
      go_roundg (u.progs.length + 1 - (k + 1))
      case measure => omega
      case rel => exact ⟨k + 1, max m n, rfl, by omega, by omega, congrArg _ (by omega), by simp, HM2, ⟨HB2.out _⟩⟩
    · obtain rfl : k = u.progs.length := by omega
      have hml : m = lng := by
        have := HM.out
        rw [List.drop_length] at this
        exact this
      subst hml
      have hu1 := HU.out wr HB.out
      obtain ⟨wA, rfl⟩ : ∃ X, X = wr := ⟨_, rfl⟩
      have hwA : Below w.heap.size w wA := HB1.out.trans (HB.out.mono (by omega))
      have HN : Bx (Calls Tryd.prog 26 #[.int .i64 (m : Int)] wA fun e w' => ∃ wb g, e = .returned (.pointer (some ⟨wb, 0, none⟩)) ∧ w'.cell? ⟨H, 0, none⟩ = some (.slice pa u.progs.length pc) ∧ Bx (Below (H + 1) w1 w' ∧ WkR w' w.heap.size wb g wA0 (List.replicate m (0, 0)) ∧ g.n = m ∧ szW g.n (g.L - 1) = 1 ∧ 0 < g.L)) := ⟨(HNW.out wA).mono fun e w' ⟨wb, g, he, hn⟩ => by
        obtain ⟨h1, h2, h3, h4, h5⟩ := hn.out
        have hs := HB.out.size
        have hb' : Below (H + 1) w1 w' := HB.out.trans (h5.mono (by omega))
        exact ⟨wb, g, he, HU.out _ hb', ⟨hb', h1.base hwA.size, h2, h3, h4⟩⟩⟩
      clear HB hwA HML HM
      go_wp2_with (first
        | (go_at_call 26; refine HN.out.mono ?_; rintro e wB ⟨wb, g, rfl, hu2, HX⟩; clear HN hu1))
      clear HNW hu2
      have HG : Bx (g.n = m ∧ szW g.n (g.L - 1) = 1 ∧ 0 < g.L) := ⟨HX.out.2.2⟩
      go_loopg [31] (u.progs.length + 1) (fun f v31 wr => ∃ k : Nat, f = u.progs.length + 1 - k ∧ k ≤ u.progs.length ∧ v31 = .int .i64 k ∧ Bx (wayR (u.progs.drop k) k = R) ∧ Bx (Below w.heap.size w wr) ∧ Bx (∃ A K, WkR wr w.heap.size wb g A K))
      case atStart => exact ⟨0, by simp, Nat.zero_le _, rfl, HR, ⟨HB1.out.trans (HX.out.1.mono (by omega))⟩, ⟨_, _, HX.out.2.1⟩⟩
      case round =>
        obtain ⟨k, hf, hk, rfl, HW, HB, HK⟩ := hrel
        by_cases hlt : k < u.progs.length
        · obtain ⟨b, o, ca, cc, hpa, hb, hci, HC⟩ := HPC.out k hlt
          have hwr : Below w.heap.size w wr := HB.out
          have hs := hwr.size
          obtain ⟨c0, c1, c2, c3, c4⟩ := HC.out wr hwr
          have hbl : b < wr.heap.size := by omega
          have hpg := HP.out _ (List.getElem_mem hlt)
          have hle := HLE.out _ (List.getElem_mem hlt)
          have HW2 : Bx _ := ⟨(wayR_at hlt).symm.trans HW.out⟩
          obtain ⟨A, K, hR⟩ := HK.out
          have HFO : Bx (Calls Tryd.prog 27 #[.pointer (some ⟨wb, 0, none⟩), .agg (pgC u.progs[k] ca cc)] (wr.alloc (.cells (pgC u.progs[k] ca cc) 40)) fun e w' => e = .returned (.tuple #[.int .i64 ((way1 u.progs[k]).1 : Int), .int .i64 (way1 u.progs[k]).2.1]) ∧ Bx (Below w.heap.size w w' ∧ ((way1 u.progs[k]).2.1 = 0 → ∃ A K, WkR w' w.heap.size wb g A K))) := ⟨by
            have ba := below1 wr (.cells (pgC u.progs[k] ca cc) 40)
            have hR2 := hR.below ba
            have hkl := hR2.kl
            obtain ⟨g1, g2, g3⟩ := HG.out
            have := follow_any w _ HV.out (hwr.trans (ba.mono (by have := hwr.size; omega))) wb g A K hR2 u.progs[k] _ _ hpg ca cc hci (by omega) g2 g3
            obtain ⟨e1, e2, _⟩ := run0_agr hpg (K := K) (K' := List.replicate u.progs[k].code.length (0, 0)) (by omega) (by simp)
            rw [e1, e2] at this
            refine this.mono ?_
            rintro e w' ⟨rfl, hh⟩
            obtain ⟨h1, h2⟩ := hh.out
            exact ⟨rfl, ⟨h1, fun e => ⟨_, _, h2 e⟩⟩⟩⟩
          subst hpa
          clear HC hwr hs HB HK hR hpg hle HW HPC hci
          generalize way1 u.progs[k] = y at *
          generalize u.progs[k] = pg at *
          unfold pgC at HFO
          have hkI : (k : Int) < (u.progs.length : Int) := by omega
          by_cases hy : y.2.1 = 0
          · have hy0 : ((y.2.1 : Int) != 0) = false := by simp [hy]
            have HW3 := HW2.out
            rw [if_pos hy] at HW3
            have HY : Bx (y.2.1 = 0) := ⟨hy⟩
            have HWB : Bx _ := ⟨HW3⟩
            clear hy HW3 HW2
            go_wp2_with (first
              | (go_at_call 27; refine HFO.out.mono ?_; rintro e wC ⟨rfl, HZ⟩))
            go_roundg (u.progs.length + 1 - (k + 1))
            case measure => omega
            case rel => exact ⟨k + 1, rfl, by omega, by simp, HWB, ⟨HZ.out.1⟩, ⟨HZ.out.2 HY.out⟩⟩
          · have hy0 : ((y.2.1 : Int) != 0) = true := by simp [hy]
            have HW3 := HW2.out
            rw [if_neg hy] at HW3
            clear hy HW2
            subst HW3
            go_wp2_with (first
              | (go_at_call 27; refine HFO.out.mono ?_; rintro e wC ⟨rfl, HZ⟩))
            go_returns
            exact ⟨rfl, ⟨by first | exact HZ.out.1 | (rw [← hH]; exact HZ.out.1)⟩⟩
        · obtain rfl : k = u.progs.length := by omega
          have hRe := HW.out
          rw [List.drop_length] at hRe
          subst hRe
          clear HW HPC
          go_wp2
          go_returns
          exact ⟨rfl, ⟨by first | exact HB.out | (rw [← hH]; exact HB.out)⟩⟩
end Go.Proofs.YtadmpgegolmkgaaDoor
namespace Go.Proofs.YtadmpgegolmkgaaDoor
open Go.RowKit
set_option linter.unusedVariables false
set_option linter.unusedSimpArgs false

/-! ### a table of types is valid -/
def kfits (kd : Int) (n : Nat) (res : Bool) : Bool :=
  if kd = 1 ∨ kd = 2 then n == 0 && !res
  else if kd = 3 ∨ kd = 5 then n == 1 && !res
  else if kd = 4 then decide (2 ≤ n) && !res
  else if kd = 6 then decide (1 ≤ n) || !res
  else false
def kRow (n : Nat) (k : Int) : Bool := decide (0 ≤ k) && decide (k < n)
def kOk (n : Nat) (t : CTy) : Bool := kfits t.kind t.kids.length t.res && t.kids.all (kRow n)
def kAll (n : Nat) (ts : List CTy) : Bool := ts.all (kOk n)
def validI (ts : List CTy) : Bool := kAll ts.length ts
theorem kAll_at {n : Nat} {l : List CTy} {k : Nat} (h : k < l.length) : kAll n (l.drop k) = (kOk n l[k] && kAll n (l.drop (k + 1))) := by
  unfold kAll
  rw [List.drop_eq_getElem_cons h, List.all_cons]
theorem all_at {f : Int → Bool} {l : List Int} {k : Nat} (h : k < l.length) : (l.drop k).all f = (f l[k] && (l.drop (k + 1)).all f) := by
  rw [List.drop_eq_getElem_cons h, List.all_cons]
set_option maxRecDepth 100000 in
set_option maxHeartbeats 2000000 in
theorem kfits_any (w : World) (kd : Int) (ka : Option Addr) (n kc : Nat) (r : Bool) :
    Calls Tryd.prog 47 #[.agg #[.int .i64 kd, .slice ka n kc, .bool r]] w fun e w' => e = .returned (.bool (kfits kd n r)) ∧ Below w.heap.size w w' := by
  go_enter Tryd.func47, Tryd.ntmps47
  go_wp2
  all_goals
    go_ret
    refine ⟨ret_bool ?_, below1 _ _⟩
    unfold kfits
    simp at *
    first | (simp [*]; done) | (cases r <;> simp_all <;> omega)
theorem kRow_any (w : World) (a : Option Addr) (n cap : Nat) (k : Int) :
    Calls Tryd.prog 48 #[.slice a n cap, .int .i64 k] w fun e w' => e = .returned (.bool (kRow n k)) ∧ w = w' := by
  unfold kRow
  cases e1 : decide (0 ≤ k)
  · go_enter Tryd.func48, Tryd.ntmps48
    go_wp2
    go_ret
    exact ⟨ret_bool (by simp), rfl⟩
  · go_enter Tryd.func48, Tryd.ntmps48
    go_wp2
    go_ret
    exact ⟨ret_bool (by simp), rfl⟩
/-- a type's cells -/
theorem ty_cells {w : World} {B tc : Nat} {ta : Option Addr} {l : List CTy} (h : Row (TyAt w B) B 3 ta tc l) {k : Nat} (hk : k < l.length) : ∃ b o ka kc, ta = some ⟨b, o, none⟩ ∧ b < B ∧ IntsV w B ka kc l[k].kids ∧ Bx (∀ X, Below B w X → X.cell? ⟨b, o + k * 3, none⟩ = some (.int .i64 l[k].kind) ∧ X.cell? ⟨b, o + k * 3 + 1, none⟩ = some (.slice ka l[k].kids.length kc) ∧ X.cell? ⟨b, o + k * 3 + 2, none⟩ = some (.bool l[k].res)) := by
  obtain ⟨b, o, e, hb, hj⟩ := h.at_ (by omega)
  obtain ⟨ka, kc, h0, h1, h2, h3⟩ := (hj k hk).ex
  have hc : ∀ X, Below B w X → ∀ i, X.cell? ⟨b, i, none⟩ = w.cell? ⟨b, i, none⟩ := fun X hX i => hX.cell (p := ⟨b, i, none⟩) hb
  exact ⟨b, o, ka, kc, e, hb, h3, ⟨fun X hX => ⟨by rw [hc X hX]; exact h0, by rw [hc X hX]; exact h1, by rw [hc X hX]; exact h2⟩⟩⟩
set_option maxRecDepth 100000 in
set_option maxHeartbeats 4000000 in
/-- **Valid** -/
theorem Valid_any (w : World) (B : Nat) (hB : B ≤ w.heap.size) (ta : Option Addr) (tc : Nat) (ts : List CTy) (hr : Row (TyAt w B) B 3 ta tc ts) :
    Calls Tryd.prog 31 #[.slice ta ts.length tc] w fun e w' => e = .returned (.bool (validI ts)) ∧ Bx (Below w.heap.size w w') := by
  have hcap := hr.cap
  have hmx := hr.max
  unfold maxLen at hmx
  have HT : Bx (∀ k (hk : k < ts.length), _) := ⟨fun k hk => ty_cells hr hk⟩
  unfold validI
  generalize hRR : kAll ts.length ts = R
  have HR : Bx (kAll ts.length (ts.drop 0) = R) := ⟨by rw [List.drop_zero]; exact hRR⟩
  clear hr hRR
  go_enter Tryd.func31, Tryd.ntmps31
  go_wp2
  go_loopg [9] (ts.length + 1) (fun f v9 wr => ∃ k : Nat, f = ts.length + 1 - k ∧ k ≤ ts.length ∧ v9 = .int .i64 k ∧ Bx (kAll ts.length (ts.drop k) = R) ∧ Bx (Below w.heap.size w wr))
  case atStart => exact ⟨0, by simp, Nat.zero_le _, rfl, HR, ⟨Below.refl _ _⟩⟩
  case round =>
    obtain ⟨k, hf, hk, rfl, HW, HB⟩ := hrel
    by_cases hlt : k < ts.length
    · obtain ⟨b, o, ka, kc, rfl, hb, hks, HC⟩ := HT.out k hlt
      have hs := HB.out.size
      obtain ⟨c0, c1, c2⟩ := HC.out wr (HB.out.mono hB)
      have hbl : b < wr.heap.size := by omega
      have hkI : (k : Int) < (ts.length : Int) := by omega
      have HW2 : Bx _ := ⟨(kAll_at hlt).symm.trans HW.out⟩
      obtain ⟨W1, hW1⟩ : ∃ W1, wr.alloc (.cells #[.int .i64 ts[k].kind, .slice ka ts[k].kids.length kc, .bool ts[k].res] 49) = W1 := ⟨_, rfl⟩
      have b1 : Below wr.heap.size wr W1 := by rw [← hW1]; exact below1 wr _
      have q1 : W1.heap[wr.heap.size]? = some (.cells #[.int .i64 ts[k].kind, .slice ka ts[k].kids.length kc, .bool ts[k].res] 49 (0, 0)) := by rw [← hW1]; exact heap_newH _ _ _ rfl
      have HF : Bx (Calls Tryd.prog 47 #[.agg #[.int .i64 ts[k].kind, .slice ka ts[k].kids.length kc, .bool ts[k].res]] W1 fun e w' => e = .returned (.bool (kfits ts[k].kind ts[k].kids.length ts[k].res)) ∧ w'.cell? ⟨wr.heap.size, 1, none⟩ = some (.slice ka ts[k].kids.length kc) ∧ Bx (Below w.heap.size w w') ∧ Bx (IntsV w' B ka kc ts[k].kids)) := ⟨(kfits_any W1 _ ka _ kc _).mono fun e w' q => by
        have hb2 : Below wr.heap.size wr w' := b1.trans (q.2.mono b1.size)
        exact ⟨q.1, cell_blk ((q.2.block _ (heap_lt q1)).trans q1) rfl, ⟨HB.out.trans (hb2.mono hs)⟩, ⟨hks.below (HB.out.mono hB |>.trans (hb2.mono (by omega)))⟩⟩⟩
      have hkcp := hks.cap
      have hkmx := hks.max
      unfold maxLen at hkmx
      unfold kOk at HW2
      have HW1 : Bx _ := ⟨hW1⟩
      clear hW1
      clear HC hs HB HW HT hks b1 q1
      generalize ts[k] = t at *
      cases hfi : kfits t.kind t.kids.length t.res with
      | false =>
        rw [hfi] at HF HW2
        have hr := HW2.out
        simp only [Bool.false_and] at hr
        subst hr
        clear hfi HW2
        go_wp2_with (first
          | (go_at_call 47; rw [HW1.out]; refine HF.out.mono ?_; rintro e w2 ⟨rfl, y1, HB2, HK⟩))
        go_ret
        exact ⟨rfl, HB2⟩
      | true =>
        rw [hfi] at HF HW2
        simp only [Bool.true_and] at HW2
        clear hfi
        generalize hRK : t.kids.all (kRow ts.length) = rk at *
        have HKA : Bx ((t.kids.drop 0).all (kRow ts.length) = rk) := ⟨by rw [List.drop_zero]; exact hRK⟩
        clear hRK
        obtain ⟨wA, rfl⟩ : ∃ X, X = wr := ⟨_, rfl⟩
        go_wp2_with (first
          | (go_at_call 47; rw [HW1.out]; refine HF.out.mono ?_; rintro e w2 ⟨rfl, y1, HB2, HK⟩))
        clear y1 c0 c1 c2 HF HW1
        go_loopg [19] (t.kids.length + 1) (fun f v19 wr => ∃ i : Nat, f = t.kids.length + 1 - i ∧ i ≤ t.kids.length ∧ v19 = .int .i64 i ∧ Bx ((t.kids.drop i).all (kRow ts.length) = rk) ∧ wr = w2)
        case atStart => exact ⟨0, by simp, Nat.zero_le _, rfl, HKA, rfl⟩
        case round =>
          obtain ⟨i, hf2, hi, rfl, HA, rfl⟩ := hrel
          clear HKA
          by_cases hlt2 : i < t.kids.length
          · obtain ⟨b', o', rfl, hb', hc⟩ := HK.out.at_ (by omega)
            have d0 := hc i hlt2
            have hiI : (i : Int) < (t.kids.length : Int) := by omega
            have HA2 : Bx _ := ⟨(all_at hlt2).symm.trans HA.out⟩
            have HI : Bx _ := ⟨kRow_any wr (some ⟨b, o, none⟩) ts.length tc t.kids[i]⟩
            clear hc HA HK
            generalize t.kids[i] = y at *
            cases hy : kRow ts.length y with
            | false =>
              rw [hy] at HI HA2
              have hr := HA2.out
              simp only [Bool.false_and] at hr
              subst hr
              have hr2 := HW2.out
              simp only [Bool.false_and] at hr2
              subst hr2
              clear HA2 HW2 hy
              go_wp2_with (first
                | (go_at_call 48; refine HI.out.mono ?_; rintro e w3 ⟨rfl, rfl⟩))
              go_ret
              exact ⟨rfl, HB2⟩
            | true =>
              rw [hy] at HI HA2
              have hr := HA2.out
              simp only [Bool.true_and] at hr
              have HA3 : Bx _ := ⟨hr⟩
              clear HA2 hr hy
              go_wp2_with (first
                | (go_at_call 48; refine HI.out.mono ?_; rintro e w3 ⟨rfl, rfl⟩))
              go_roundg (t.kids.length + 1 - (i + 1))
              case measure => omega
              case rel => exact ⟨i + 1, rfl, by omega, by simp, HA3, rfl⟩
          · obtain rfl : i = t.kids.length := by omega
            have hr := HA.out
            rw [List.drop_length, List.all_nil] at hr
            subst hr
            have hr2 := HW2.out
            simp only [Bool.true_and] at hr2
            have HW3 : Bx _ := ⟨hr2⟩
            clear HA HW2 hr2
            go_wp2
            go_roundg (ts.length + 1 - (k + 1))
            case measure => omega
            case rel => exact ⟨k + 1, rfl, by omega, by simp, HW3, HB2⟩
    · obtain rfl : k = ts.length := by omega
      have hr := HW.out
      rw [List.drop_length] at hr
      subst hr
      clear HW HT
      go_wp2
      go_ret
      exact ⟨rfl, HB⟩
end Go.Proofs.YtadmpgegolmkgaaDoor
