import Derived.Test.YtadmpgegolmkgaaDoorCWjC
import Derived.Test.YtadmpgegolmkgaaDoorCWmF
namespace Go.Proofs.YtadmpgegolmkgaaDoor
open Go.RowKit
set_option linter.unusedVariables false
set_option linter.unusedSimpArgs false

/-! ### all instructions, each on its own -/
def aloneGo (u : CUn) (dfs : List Bool) (pg : CPg) : List CIn → Nat → Nat × Int
  | [], _ => (0, 0)
  | x :: r, i => if wrongI u dfs pg i x = 0 then aloneGo u dfs pg r (i + 1) else (i, wrongI u dfs pg i x)
def aloneR (u : CUn) (dfs : List Bool) : List CPg → Nat → Nat × Nat × Int
  | [], _ => (0, 0, 0)
  | p :: r, n => if (aloneGo u dfs p p.code 0).2 = 0 then aloneR u dfs r (n + 1) else (n, aloneGo u dfs p p.code 0)
theorem aloneGo_at {u : CUn} {dfs : List Bool} {pg : CPg} {l : List CIn} {k : Nat} (h : k < l.length) : aloneGo u dfs pg (l.drop k) k = if wrongI u dfs pg k l[k] = 0 then aloneGo u dfs pg (l.drop (k + 1)) (k + 1) else (k, wrongI u dfs pg k l[k]) := by
  rw [List.drop_eq_getElem_cons h, aloneGo]
theorem aloneR_at {u : CUn} {dfs : List Bool} {l : List CPg} {k : Nat} (h : k < l.length) : aloneR u dfs (l.drop k) k = if (aloneGo u dfs l[k] l[k].code 0).2 = 0 then aloneR u dfs (l.drop (k + 1)) (k + 1) else (k, aloneGo u dfs l[k] l[k].code 0) := by
  rw [List.drop_eq_getElem_cons h, aloneR]
def jP (w : World) (jb : Nat) (pg : CPg) (ca : Option Addr) (cc : Nat) : World := ((((w.setCell ⟨jb, 2, none⟩ (.int .i64 pg.params)).setCell ⟨jb, 3, none⟩ (.int .i64 pg.slots)).setCell ⟨jb, 4, none⟩ (.int .i64 pg.caps)).setCell ⟨jb, 5, none⟩ (.bool pg.res)).setCell ⟨jb, 6, none⟩ (.slice ca pg.code.length cc)
theorem jP_blk {w : World} {jb : Nat} {v0 v1 a0 a1 a2 a3 a4 : Value} (h : w.heap[jb]? = some (.cells #[v0, v1, a0, a1, a2, a3, a4] 87 (0, 0))) (pg : CPg) (ca : Option Addr) (cc : Nat) : (jP w jb pg ca cc).heap[jb]? = some (.cells #[v0, v1, .int .i64 pg.params, .int .i64 pg.slots, .int .i64 pg.caps, .bool pg.res, .slice ca pg.code.length cc] 87 (0, 0)) := by
  have e0 := heap_setCell_same w jb 2 _ 87 (.int .i64 pg.params) h
  simp only [List.setIfInBounds_toArray, List.set_cons_succ, List.set_cons_zero] at e0
  have e1 := heap_setCell_same _ jb 3 _ 87 (.int .i64 pg.slots) e0
  simp only [List.setIfInBounds_toArray, List.set_cons_succ, List.set_cons_zero] at e1
  have e2 := heap_setCell_same _ jb 4 _ 87 (.int .i64 pg.caps) e1
  simp only [List.setIfInBounds_toArray, List.set_cons_succ, List.set_cons_zero] at e2
  have e3 := heap_setCell_same _ jb 5 _ 87 (.bool pg.res) e2
  simp only [List.setIfInBounds_toArray, List.set_cons_succ, List.set_cons_zero] at e3
  have e4 := heap_setCell_same _ jb 6 _ 87 (.slice ca pg.code.length cc) e3
  simp only [List.setIfInBounds_toArray, List.set_cons_succ, List.set_cons_zero] at e4
  exact e4
theorem jP_fx (w : World) (jb : Nat) (pg : CPg) (ca : Option Addr) (cc : Nat) : Fx (· = jb) w (jP w jb pg ca cc) := by
  unfold jP
  exact Fx.set (P := (· = jb)) (p := ⟨jb, 6, none⟩) (Fx.set (P := (· = jb)) (p := ⟨jb, 5, none⟩) (Fx.set (P := (· = jb)) (p := ⟨jb, 4, none⟩) (Fx.set (P := (· = jb)) (p := ⟨jb, 3, none⟩) (Fx.set (P := (· = jb)) (p := ⟨jb, 2, none⟩) (Fx.refl _ w) (.inl rfl) _) (.inl rfl) _) (.inl rfl) _) (.inl rfl) _) (.inl rfl) _
theorem JgM.put {w : World} {jb B pc dc cc : Nat} {u : CUn} {pa da ca : Option Addr} {dfs : List Bool} {pg : CPg} (h : JgM w jb B u pa pc da dc dfs pg ca cc) (hB : B ≤ jb) (pg' : CPg) (ca' : Option Addr) (cc' : Nat) (hcl : pg'.code.length ≤ 268435456) (hdj : ∀ b o, da = some ⟨b, o, none⟩ → 0 < dfs.length → b ≠ jb) : JgM (jP w jb pg' ca' cc') jb B u pa pc da dc dfs pg' ca' cc' ∧ Fx (· = jb) w (jP w jb pg' ca' cc') := by
  have x := jP_fx w jb pg' ca' cc'
  have hq := jP_blk h.h pg' ca' cc'
  generalize jP w jb pg' ca' cc' = W at *
  have hbl : Below B w W := x.bel h.bw fun k hk e => by omega
  refine ⟨⟨hq, ⟨h.df.cap, h.df.max, fun i hi => ?_⟩, h.pr.mono fun b o y hb he => he.below hbl (Nat.le_refl _) hb, Nat.le_trans h.bw x.size, hcl⟩, x⟩
  obtain ⟨b, o, e, hb, hc⟩ := h.df.at_ i hi
  have hz : 0 < dfs.length := Nat.lt_of_le_of_lt (Nat.zero_le _) hi
  have hn := hdj b o e hz
  refine ⟨b, o, e, Nat.lt_of_lt_of_le hb x.size, ?_⟩
  rw [← hc]
  exact World.cell?_of_block (x.block b hb hn)
/-- an instruction's cells -/
theorem ins_cells {w : World} {B cc : Nat} {ca : Option Addr} {l : List CIn} (h : Row (InAt w B) B 4 ca cc l) {k : Nat} (hk : k < l.length) : ∃ b o ka kc, ca = some ⟨b, o, none⟩ ∧ b < B ∧ IntsV w B ka kc l[k].list ∧ Bx (∀ X, Below B w X → X.cell? ⟨b, o + k * 4, none⟩ = some (.int .i64 l[k].op) ∧ X.cell? ⟨b, o + k * 4 + 1, none⟩ = some (.int .i64 l[k].a) ∧ X.cell? ⟨b, o + k * 4 + 2, none⟩ = some (.int .i64 l[k].b) ∧ X.cell? ⟨b, o + k * 4 + 3, none⟩ = some (.slice ka l[k].list.length kc)) := by
  obtain ⟨b, o, e, hb, hj⟩ := h.at_ (by omega)
  obtain ⟨ka, kc, h0, h1, h2, h3, h4⟩ := (hj k hk).ex
  have hc : ∀ X, Below B w X → ∀ i, X.cell? ⟨b, i, none⟩ = w.cell? ⟨b, i, none⟩ := fun X hX i => hX.cell (p := ⟨b, i, none⟩) hb
  exact ⟨b, o, ka, kc, e, hb, h4, ⟨fun X hX => ⟨by rw [hc X hX]; exact h0, by rw [hc X hX]; exact h1, by rw [hc X hX]; exact h2, by rw [hc X hX]; exact h3⟩⟩⟩
/-- bounds of a prog, as fitsBounds asks them -/
structure PgB (p : CPg) : Prop where
  pr : 0 ≤ p.params ∧ p.params ≤ p.slots
  sl : 0 ≤ p.slots ∧ p.slots ≤ 65536
  cp : 0 ≤ p.caps ∧ p.caps ≤ 65536
  cl : 0 < p.code.length ∧ p.code.length ≤ 268435456
/-- lists that the reach bounds -/
def UnB (u : CUn) : Prop := ∀ p ∈ u.progs, ∀ x ∈ p.code, x.list.length ≤ 281474976710656
set_option maxRecDepth 100000 in
set_option maxHeartbeats 8000000 in
theorem wrongAlone_any (w : World) (hV : VW w) (u : CUn) (pa ta : Option Addr) (pc tc : Nat) (hu : UnIn w w.heap.size pa pc ta tc u) (hp : ∀ p ∈ u.progs, PgB p) (hl : UnB u) (dfs : List Bool)
    (hdf : ∀ X, Below w.heap.size w X → Calls Tryd.prog 35 #[.slice ta u.types.length tc] X fun e w' => ∃ da dc, e = .returned (.slice da dfs.length dc) ∧ Bx (BoolsV w' da dc dfs ∧ Below X.heap.size X w')) :
    Calls Tryd.prog 20 #[unV u pa pc ta tc] w fun e w' => e = .returned (.tuple #[.int .i64 ((aloneR u dfs u.progs 0).1 : Int), .int .i64 ((aloneR u dfs u.progs 0).2.1 : Int), .int .i64 (aloneR u dfs u.progs 0).2.2]) ∧ Bx (Below w.heap.size w w') := by
  obtain ⟨H, hH⟩ : ∃ H, w.heap.size = H := ⟨_, rfl⟩
  have hrow := hu.progs
  have hcap := hrow.cap
  have hmx := hrow.max
  unfold maxLen at hmx
  obtain ⟨w1, hw1⟩ : ∃ w1, w.alloc (.cells #[.slice pa u.progs.length pc, .slice ta u.types.length tc] 25) = w1 := ⟨_, rfl⟩
  have b1 : Below w.heap.size w w1 := by rw [← hw1]; exact below1 w _
  have q1 : w1.heap[H]? = some (.cells #[.slice pa u.progs.length pc, .slice ta u.types.length tc] 25 (0, 0)) := by rw [← hw1]; exact heap_newH _ _ _ hH
  have s1 : w1.heap.size = H + 1 := by rw [← hw1]; simp [hH]
  have HU : Bx (∀ X, Below (H + 1) w1 X → X.cell? ⟨H, 0, none⟩ = some (.slice pa u.progs.length pc) ∧ X.cell? ⟨H, 1, none⟩ = some (.slice ta u.types.length tc)) := ⟨fun X hX => ⟨cell_blk ((hX.block H (by omega)).trans q1) rfl, cell_blk ((hX.block H (by omega)).trans q1) rfl⟩⟩
  have HB1 : Bx (Below w.heap.size w w1) := ⟨b1⟩
  have HPC : Bx (∀ k (hk : k < u.progs.length), _) := ⟨fun k hk => prog_cells hrow hk⟩
  have HROW : Bx _ := ⟨hrow⟩
  have HV : Bx (VW w) := ⟨hV⟩
  have HP : Bx (∀ p ∈ u.progs, PgB p) := ⟨hp⟩
  have HL : Bx (UnB u) := ⟨hl⟩
  have HDF : Bx (Calls Tryd.prog 35 #[.slice ta u.types.length tc] w1.drew fun e w' => ∃ da dc, e = .returned (.slice da dfs.length dc) ∧ (w'.cell? ⟨H, 0, none⟩ = some (.slice pa u.progs.length pc) ∧ w'.cell? ⟨H, 1, none⟩ = some (.slice ta u.types.length tc)) ∧ Bx (BoolsV w' da dc dfs ∧ Below (H + 1) w1 w')) := ⟨(hdf w1.drew ⟨b1.os, b1.tape, b1.output, b1.size, b1.block⟩).mono fun e w' ⟨da, dc, he, hh⟩ => by
    obtain ⟨h1, h2⟩ := hh.out
    have h3 : Below (H + 1) w1 w' := ⟨h2.os, h2.tape, h2.output, h2.size, fun k hk => h2.block k (by show k < w1.heap.size; omega)⟩
    exact ⟨da, dc, he, HU.out _ h3, ⟨h1, h3⟩⟩⟩
  generalize hRR : aloneR u dfs u.progs 0 = R
  have HR : Bx (aloneR u dfs (u.progs.drop 0) 0 = R) := ⟨by rw [List.drop_zero]; exact hRR⟩
  obtain ⟨hu0, hu1⟩ := HU.out w1 (Below.refl _ _)
  clear hV hp hu hrow q1 b1 hRR hdf hl
  unfold unV
  go_enter Tryd.func20, Tryd.ntmps20
  go_wp2
  go_region_held3 (fun w' => w'.cell? ⟨H, 0, none⟩ = some (.slice pa u.progs.length pc) ∧ w'.cell? ⟨H, 1, none⟩ = some (.slice ta u.types.length tc))
    (first | exact ⟨hv0, hv1⟩ | exact ⟨hu0, hu1⟩ | exact hva _)
    (first | (go_at_call 35; refine HDF.out.mono ?_; rintro e w2 ⟨da, dc, rfl, ⟨hv0, hv1⟩, HD⟩; have hva : ∀ o, _ := fun o => HU.out _ (HD.out.2.alloc (by have := HD.out.2.size; omega) o)))
  have hD := HD.out
  have hDs := hD.2.size
  obtain ⟨jb, hjb⟩ : ∃ jb, jb = w2.heap.size := ⟨_, rfl⟩
  rw [← hjb]
  obtain ⟨w3, hw3⟩ : ∃ w3, w2.alloc (.cells #[.slice pa u.progs.length pc, .slice da dfs.length dc, .int .i64 0, .int .i64 0, .int .i64 0, .bool false, .slice none 0 0] 87) = w3 := ⟨_, rfl⟩
  have b3 : Below w2.heap.size w2 w3 := by rw [← hw3]; exact below1 w2 _
  have q3 : w3.heap[jb]? = some (.cells #[.slice pa u.progs.length pc, .slice da dfs.length dc, .int .i64 0, .int .i64 0, .int .i64 0, .bool false, .slice none 0 0] 87 (0, 0)) := by rw [← hw3]; exact heap_newH _ _ _ hjb.symm
  have b13 : Below (H + 1) w1 w3 := hD.2.trans (b3.mono (by omega))
  have bw3 : Below w.heap.size w w3 := HB1.out.trans (b13.mono (by omega))
  obtain ⟨hz0, hz1⟩ := HU.out w3 b13
  have HDA : Bx (∀ b o, da = some ⟨b, o, none⟩ → 0 < dfs.length → b < jb) := ⟨fun b o e h0 => by
    obtain ⟨b', o', e', hb', _⟩ := hD.1.at_ 0 h0
    rw [e] at e'
    cases e'
    rw [hjb]
    exact hb'⟩
  have HJ : Bx (∃ pg ca cc, JgM w3 jb w.heap.size u pa pc da dc dfs pg ca cc) := ⟨⟨pgD, none, 0, q3, hD.1.below b3, HROW.out.mono fun b o y hb he => he.below bw3 (Nat.le_refl _) hb, bw3.size, by simp [pgD]⟩⟩
  have HB3 : Bx (Below w.heap.size w w3) := ⟨bw3⟩
  have hjbl : w.heap.size ≤ jb := by omega
  have HJL : Bx (w.heap.size ≤ jb) := ⟨hjbl⟩
  rw [hw3]
  clear hva hv0 hv1 hD hDs hw3 b3 q3 b13 bw3 HDF hjb hu0 hu1 HD hjbl
  go_wp2
  clear hz0 hz1
  go_loopg [21] (u.progs.length + 1) (fun f v21 wr => ∃ k : Nat, f = u.progs.length + 1 - k ∧ k ≤ u.progs.length ∧ v21 = .int .i64 k ∧ Bx (aloneR u dfs (u.progs.drop k) k = R) ∧ Bx (Below w.heap.size w wr) ∧ Bx (∃ pg ca cc, JgM wr jb w.heap.size u pa pc da dc dfs pg ca cc))
  case atStart => exact ⟨0, by simp, Nat.zero_le _, rfl, HR, HB3, HJ⟩
  case round =>
    obtain ⟨k, hf, hk, rfl, HW, HB, HK⟩ := hrel
    by_cases hlt : k < u.progs.length
    · obtain ⟨b, o, ca, cc, hpa, hb, hci, HC⟩ := HPC.out k hlt
      have hwr : Below w.heap.size w wr := HB.out
      have hs := hwr.size
      obtain ⟨c0, c1, c2, c3, c4⟩ := HC.out wr hwr
      have hbl : b < wr.heap.size := by omega
      have hpg := HP.out _ (List.getElem_mem hlt)
      have HUB : Bx (∀ x ∈ u.progs[k].code, x.list.length ≤ 281474976710656) := ⟨HL.out _ (List.getElem_mem hlt)⟩
      have HW2 : Bx _ := ⟨(aloneR_at hlt).symm.trans HW.out⟩
      obtain ⟨pg0, ca0, cc0, hJ0⟩ := HK.out
      have hjw := heap_lt' hJ0.h
      have jfz : ∀ j, wr.frozen? ⟨jb, j, none⟩ = false := fun j => by simp [World.frozen?, hJ0.h]
      have j2 : wr.cell? ⟨jb, 2, none⟩ = some (.int .i64 pg0.params) := cell_blk hJ0.h rfl
      have j3 : wr.cell? ⟨jb, 3, none⟩ = some (.int .i64 pg0.slots) := cell_blk hJ0.h rfl
      have j4 : wr.cell? ⟨jb, 4, none⟩ = some (.int .i64 pg0.caps) := cell_blk hJ0.h rfl
      have j5 : wr.cell? ⟨jb, 5, none⟩ = some (.bool pg0.res) := cell_blk hJ0.h rfl
      have j6 : wr.cell? ⟨jb, 6, none⟩ = some (.slice ca0 pg0.code.length cc0) := cell_blk hJ0.h rfl
      obtain ⟨hJ1, x1⟩ := hJ0.put (by have := HJL.out; omega) u.progs[k] ca cc hpg.cl.2 (fun b o e h0 => by have := HDA.out b o e h0; omega)
      obtain ⟨X2, hX2⟩ : ∃ X2, (jP wr jb u.progs[k] ca cc).alloc (.cells (pgC u.progs[k] ca cc) 40) = X2 := ⟨_, rfl⟩
      have bx2 : Below (jP wr jb u.progs[k] ca cc).heap.size (jP wr jb u.progs[k] ca cc) X2 := by rw [← hX2]; exact below1 _ _
      have HJ2 : Bx _ := ⟨hJ1.below bx2⟩
      have hjs : (jP wr jb u.progs[k] ca cc).heap.size = wr.heap.size := by unfold jP; simp
      have HB2 : Bx (Below w.heap.size w X2) := ⟨hwr.trans ((x1.bel hs fun k hk e => by have := HJL.out; omega).trans (bx2.mono (by omega)))⟩
      have p4 : X2.cell? ⟨wr.heap.size, 4, none⟩ = some (.slice ca u.progs[k].code.length cc) := cell_blk (by rw [← hX2]; exact heap_newH _ _ _ hjs) rfl
      have HAG : Bx (aloneGo u dfs u.progs[k] (u.progs[k].code.drop 0) 0 = aloneGo u dfs u.progs[k] u.progs[k].code 0) := ⟨by rw [List.drop_zero]⟩
      have hccap := hci.cap
      have hcl := hpg.cl.2
      have HIC : Bx (∀ i (hi : i < u.progs[k].code.length), _) := ⟨fun i hi => ins_cells hci hi⟩
      have HPGB : Bx _ := ⟨hpg⟩
      have hkI : (k : Int) < (u.progs.length : Int) := by omega
      unfold jP at hX2
      generalize hRG : aloneGo u dfs u.progs[k] u.progs[k].code 0 = RG at *
      subst hpa
      clear HC hwr hs HB HK hJ0 hpg HW HPC hci hJ1 x1 bx2 hjs hRG
      generalize u.progs[k] = pg at *
      unfold pgC at hX2
      go_wp2
      clear hX2 jfz j2 j3 j4 j5 j6 c0 c1 c2 c3 c4 p4 hjw
      obtain ⟨wA, rfl⟩ : ∃ X, X = wr := ⟨_, rfl⟩
      go_loopg [33] (pg.code.length + 1) (fun f v33 wr => ∃ i : Nat, f = pg.code.length + 1 - i ∧ i ≤ pg.code.length ∧ v33 = .int .i64 i ∧ Bx (aloneGo u dfs pg (pg.code.drop i) i = RG) ∧ Bx (Below w.heap.size w wr) ∧ Bx (JgM wr jb w.heap.size u (some ⟨b, o, none⟩) pc da dc dfs pg ca cc))
      case atStart => exact ⟨0, by simp, Nat.zero_le _, rfl, HAG, HB2, HJ2⟩
      case round =>
        obtain ⟨i, hf2, hi, rfl, HA, HB, HJ3⟩ := hrel
        clear HAG HB2 HJ2
        by_cases hlt2 : i < pg.code.length
        · obtain ⟨b', o', ka, kc, hca, hb', hks, HC⟩ := HIC.out i hlt2
          have hwr : Below w.heap.size w wr := HB.out
          have hs := hwr.size
          obtain ⟨c0, c1, c2, c3⟩ := HC.out wr hwr
          have hbl' : b' < wr.heap.size := by omega
          have hiI : (i : Int) < (pg.code.length : Int) := by omega
          have HA2 : Bx _ := ⟨(aloneGo_at hlt2).symm.trans HA.out⟩
          have hlx := HUB.out _ (List.getElem_mem hlt2)
          have HWR : Bx (∀ oo, Calls Tryd.prog 36 #[.pointer (some ⟨jb, 0, none⟩), .int .i64 (i : Int), insV pg.code[i] ka kc] (wr.alloc oo) fun e w' => e = .returned (.int .i64 (wrongI u dfs pg i pg.code[i])) ∧ Bx (Below w.heap.size w w' ∧ JgM w' jb w.heap.size u (some ⟨b, o, none⟩) pc da dc dfs pg ca cc)) := ⟨fun oo => by
            have ba := below1 wr oo
            have hJ4 := HJ3.out.below ba
            have hb4 : Below w.heap.size w (wr.alloc oo) := hwr.trans (ba.mono (by omega))
            refine (wrong_any _ (HV.out.below hb4) hJ4 HPGB.out.sl HPGB.out.cp i pg.code[i] ka kc (hks.below hb4) hlx).mono ?_
            rintro e w' ⟨rfl, hq⟩
            exact ⟨rfl, ⟨hb4.trans (hq.out.mono hb4.size), hJ4.below hq.out⟩⟩⟩
          unfold insV at HWR
          subst hca
          clear HC hwr hs HB HJ3 HA hlx HIC hks
          generalize wrongI u dfs pg i pg.code[i] = y at *
          generalize pg.code[i] = x at *
          by_cases hy : y = 0
          · have hy0 : ((y : Int) != 0) = false := by simp [hy]
            have HA3 := HA2.out
            rw [if_pos hy] at HA3
            have HAB : Bx _ := ⟨HA3⟩
            clear hy HA3 HA2
            go_wp2_with (first
              | (go_at_call 36; refine (HWR.out _).mono ?_; rintro e wC ⟨rfl, HZ⟩))
            go_roundg (pg.code.length + 1 - (i + 1))
            case measure => omega
            case rel => exact ⟨i + 1, rfl, by omega, by simp, HAB, ⟨HZ.out.1⟩, ⟨HZ.out.2⟩⟩
          · have hy0 : ((y : Int) != 0) = true := by simp [hy]
            have HA3 := HA2.out
            rw [if_neg hy] at HA3
            have HW3 := HW2.out
            rw [← HA3] at HW3
            simp only [if_neg hy] at HW3
            subst HW3
            clear hy HA3 HA2 HW2
            go_wp2_with (first
              | (go_at_call 36; refine (HWR.out _).mono ?_; rintro e wC ⟨rfl, HZ⟩))
            go_returns
            exact ⟨rfl, ⟨by first | exact HZ.out.1 | (rw [← hH]; exact HZ.out.1)⟩⟩
        · obtain rfl : i = pg.code.length := by omega
          have hRe := HA.out
          rw [List.drop_length] at hRe
          have HW3 := HW2.out
          rw [← hRe] at HW3
          simp only [aloneGo, if_true] at HW3
          have HWB : Bx _ := ⟨HW3⟩
          clear HA hRe HW3 HW2
          go_wp2
          go_roundg (u.progs.length + 1 - (k + 1))
          case measure => omega
          case rel => exact ⟨k + 1, rfl, by omega, by simp, HWB, HB, ⟨_, _, _, HJ3.out⟩⟩
    · obtain rfl : k = u.progs.length := by omega
      have hRe := HW.out
      rw [List.drop_length] at hRe
      subst hRe
      clear HW HPC
      go_wp2
      go_returns
      exact ⟨rfl, ⟨by first | exact HB.out | (rw [← hH]; exact HB.out)⟩⟩
end Go.Proofs.YtadmpgegolmkgaaDoor
