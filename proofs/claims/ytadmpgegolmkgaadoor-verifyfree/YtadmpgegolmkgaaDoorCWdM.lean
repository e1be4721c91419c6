import Derived.Test.YtadmpgegolmkgaaDoorCDP
import Derived.WalkSpells
import Derived.WalkLawsBesides
import Derived.Deep.QuietTactic
import Derived.Deep.LoopGhost
import Derived.Deep.RegionLaw
import Derived.BigQuiet
import Derived.Laws.AppendOwn
import Derived.Laws.AppendOwnNone
import Derived.Deep.AppendLies
import Derived.OneCell
import Derived.Laws.Rows
import Derived.Lib.BufferMore
import Derived.RangeFuncRecord
import Derived.Maps.Range
import Derived.Maps.RangeWalk
namespace Go.Proofs.YtadmpgegolmkgaaDoor
open Go.RowKit
set_option linter.unusedVariables false
set_option linter.unusedSimpArgs false

/-! ### what is due, in memory: a row of rows of words; E: what each level tells of -/
structure DuE (w : World) (db dc : Nat) (eb : Nat → Nat) (L many : Nat) (E : Nat → Nat → Bool) : Prop where
  row : ∀ l, l < L → w.cell? ⟨db, l, none⟩ = some (.slice (some ⟨eb l, 0, none⟩) (szW many l) (szW many l))
  wrd : ∀ l, l < L → w.heap[eb l]? = some (.cells (wrC (E l) l (szW many l)) 63 (0, 0))
  inj : ∀ l m, l < L → m < L → eb l = eb m → l = m
  ne : ∀ l, l < L → eb l ≠ db
  cap : L ≤ dc
  dlt : db < w.heap.size
  hL : L ≤ 64
  hm : many ≤ 2147483648
theorem DuE.elt {w : World} {db dc : Nat} {eb : Nat → Nat} {L many : Nat} {E : Nat → Nat → Bool} (h : DuE w db dc eb L many E) {l : Nat} (hl : l < L) : eb l < w.heap.size := (Array.getElem?_eq_some_iff.1 (h.wrd l hl)).1
theorem DuE.congr {w : World} {db dc : Nat} {eb : Nat → Nat} {L many : Nat} {E E' : Nat → Nat → Bool} (h : DuE w db dc eb L many E) (he : ∀ l, l < L → wrC (E l) l (szW many l) = wrC (E' l) l (szW many l)) : DuE w db dc eb L many E' := ⟨h.row, fun l hl => by rw [← he l hl]; exact h.wrd l hl, h.inj, h.ne, h.cap, h.dlt, h.hL, h.hm⟩
theorem DuE.fx {P : Nat → Prop} {w w' : World} {db dc : Nat} {eb : Nat → Nat} {L many : Nat} {E : Nat → Nat → Bool} (h : DuE w db dc eb L many E) (hb : Fx P w w') (h1 : ¬ P db) (h2 : ∀ l, l < L → ¬ P (eb l)) : DuE w' db dc eb L many E :=
  ⟨fun l hl => by rw [World.cell?_of_block (w := w) (hb.block db h.dlt h1)]; exact h.row l hl, fun l hl => (hb.block _ (h.elt hl) (h2 l hl)).trans (h.wrd l hl), h.inj, h.ne, h.cap, Nat.lt_of_lt_of_le h.dlt hb.size, h.hL, h.hm⟩
def dOwn (eb : Nat → Nat) (L : Nat) : Nat → Prop := fun k => ∃ l, l < L ∧ k = eb l
theorem DuE.put {w : World} {db dc : Nat} {eb : Nat → Nat} {L many : Nat} {E : Nat → Nat → Bool} (h : DuE w db dc eb L many E) {l k : Nat} (hl : l < L) (hk : k < szW many l) (D' : Nat → Bool) (x : Nat) (h1 : wd D' l k = x) (h2 : ∀ j, j < szW many l → j ≠ k → wd D' l j = wd (E l) l j) (E' : Nat → Nat → Bool) (h3 : ∀ m, m < L → E' m = if m = l then D' else E m) :
    DuE (w.setCell ⟨eb l, k, none⟩ (.int .u64 (x : Int))).drew db dc eb L many E' ∧ Fx (dOwn eb L) w (w.setCell ⟨eb l, k, none⟩ (.int .u64 (x : Int))).drew := by
  have hset : (w.setCell ⟨eb l, k, none⟩ (.int .u64 (x : Int))).heap[eb l]? = some (.cells (wrC D' l (szW many l)) 63 (0, 0)) := by
    have := heap_setCell_same w (eb l) k (wrC (E l) l (szW many l)) 63 (.int .u64 (x : Int)) (h.wrd l hl)
    rw [this, wrC_ext hk h1 h2]
  have hoth : ∀ y, y ≠ eb l → (w.setCell ⟨eb l, k, none⟩ (.int .u64 (x : Int))).heap[y]? = w.heap[y]? := fun y hy => Below.heap_setCell w ⟨eb l, k, none⟩ _ y hy
  refine ⟨⟨fun m hm => ?_, fun m hm => ?_, h.inj, h.ne, h.cap, by simpa using h.dlt, h.hL, h.hm⟩, (Fx.set (p := ⟨eb l, k, none⟩) (Fx.refl _ w) (.inl ⟨l, hl, rfl⟩) _).drew⟩
  · rw [World.cell?_of_block (w := w) (show (w.setCell ⟨eb l, k, none⟩ (.int .u64 (x : Int))).drew.heap[db]? = _ from hoth db (fun e => h.ne l hl e.symm))]
    exact h.row m hm
  · rw [h3 m hm]
    by_cases e : m = l
    · subst e
      rw [if_pos rfl]
      exact hset
    · rw [if_neg e]
      exact (hoth _ (fun q => e (h.inj m l hm hl q))).trans (h.wrd m hm)
theorem pow_u64 (b : Nat) (hb : b < 64) : IntKind.u64.wrap ((2 : Int) ^ b) = ((2 ^ b : Nat) : Int) := by
  have h : 2 ^ b < 2 ^ 64 := Nat.pow_lt_pow_right (by decide) hb
  have e : ((2 : Int) ^ b) = ((2 ^ b : Nat) : Int) := by norm_cast
  rw [IntKind.wrap_u64, e]
  exact Int.emod_eq_of_lt (Int.natCast_nonneg _) (Int.ofNat_lt.2 h)
theorem or_pow (x b : Nat) (hx : x < 18446744073709551616) (hb : b < 64) : bits BinOp.or IntKind.u64 (x : Int) (IntKind.u64.wrap ((2 : Int) ^ b)) = ((x ||| 2 ^ b : Nat) : Int) := by
  rw [pow_u64 b hb]
  exact bits_or_u64_nat x _ hx (Nat.pow_lt_pow_right (by decide) hb)
theorem bits_andNot_u64_nat (a b : Nat) (ha : a < 18446744073709551616) (hb : b < 18446744073709551616) : bits .andNot .u64 (a : Int) (b : Int) = ((a &&& (18446744073709551615 - b) : Nat) : Int) := by
  have hx : a &&& (18446744073709551615 - b) < 2 ^ 64 := Nat.lt_of_le_of_lt Nat.and_le_left (by omega)
  have h1 : (BitVec.ofInt 64 (a : Int)).toNat = a := by
    rw [BitVec.ofInt_natCast, BitVec.toNat_ofNat]; exact Nat.mod_eq_of_lt (by omega)
  have h2 : (BitVec.ofInt 64 (b : Int)).toNat = b := by
    rw [BitVec.ofInt_natCast, BitVec.toNat_ofNat]; exact Nat.mod_eq_of_lt (by omega)
  show IntKind.u64.wrap ((BitVec.ofInt 64 (a : Int) &&& ~~~BitVec.ofInt 64 (b : Int)).toNat : Int) = _
  rw [BitVec.toNat_and, BitVec.toNat_not, h1, h2, IntKind.wrap_u64]
  have e : (2 : Nat) ^ 64 - 1 - b = 18446744073709551615 - b := rfl
  rw [e]
  omega
theorem andNot_pow (x b : Nat) (hx : x < 18446744073709551616) (hb : b < 64) : bits BinOp.andNot IntKind.u64 (x : Int) (IntKind.u64.wrap ((2 : Int) ^ b)) = ((x &&& (18446744073709551615 - 2 ^ b) : Nat) : Int) := by
  rw [pow_u64 b hb]
  exact bits_andNot_u64_nat x _ hx (Nat.pow_lt_pow_right (by decide) hb)
set_option maxRecDepth 100000 in
set_option maxHeartbeats 1000000 in
theorem due_add (w : World) (db dc : Nat) (eb : Nat → Nat) (L many : Nat) (D : Nat → Bool) (h : DuE w db dc eb L many fun _ => D) (n : Nat) (hn : n < many) :
    Calls Tryd.prog 60 #[.slice (some ⟨db, 0, none⟩) L dc, .int .i64 n] w fun e w' => e = .returned (.tuple #[]) ∧ Bx (DuE w' db dc eb L many (fun _ => ins n D) ∧ Fx (dOwn eb L) w w') := by
  have hcap := h.cap
  have hL := h.hL
  have hmn := h.hm
  have H0 : Bx (DuE w db dc eb L many (fun m => if m < 0 then ins n D else D) ∧ Fx (dOwn eb L) w w) := ⟨h, Fx.refl _ _⟩
  clear h
  go_enter Tryd.func60, Tryd.ntmps60
  go_wp2
  go_loopg [1, 8] (L + 1) (fun g v1 v8 wr => ∃ l : Nat, g = L + 1 - l ∧ l ≤ L ∧ v8 = .int .i64 l ∧ v1 = .int .i64 ((n / 64 ^ l : Nat) : Int) ∧ Bx (DuE wr db dc eb L many (fun m => if m < l then ins n D else D) ∧ Fx (dOwn eb L) w wr))
  case atStart => exact ⟨0, by simp, by omega, rfl, by simp, H0⟩
  case round =>
    obtain ⟨l, hg, hl, rfl, rfl, HI⟩ := hrel
    clear H0
    by_cases hlt : l < L
    · obtain ⟨m, hm⟩ : ∃ m, n / 64 ^ l = m := ⟨_, rfl⟩
      have hmm : m / 64 < szW many l := by rw [← hm]; exact szW_at hn
      have hml : m ≤ 2147483648 := by rw [← hm]; exact Nat.le_trans (Nat.div_le_self _ _) (by omega)
      have hsl := szW_le (many := many) l
      rw [hm]
      have c0 := HI.out.1.row l hlt
      have he := HI.out.1.wrd l hlt
      rw [if_neg (Nat.lt_irrefl l)] at he
      have c1 : wr.cell? ⟨eb l, m / 64, none⟩ = some (.int .u64 (wd D l (m / 64))) := (cell_of_row wr _ _ _ _ _ he).trans (wrC_at hmm)
      have f1 : wr.frozen? ⟨eb l, m / 64, none⟩ = false := by simp [World.frozen?, he]
      have hlI : (l : Int) < (L : Int) := by omega
      have hl0 : (0 : Int) ≤ (l : Int) := by omega
      clear he
      have hx : wd D l (m / 64) < 18446744073709551616 := word_lt _
      obtain ⟨sz, hsz⟩ : ∃ sz, sz = szW many l := ⟨_, rfl⟩
      obtain ⟨x, hxe⟩ : ∃ x, wd D l (m / 64) = x := ⟨_, rfl⟩
      rw [hxe] at c1 hx
      rw [← hsz] at c0 hmm hsl
      have HSZ : Bx (sz = szW many l) := ⟨hsz⟩
      have HXE : Bx (wd D l (m / 64) = x) := ⟨hxe⟩
      have HM : Bx (n / 64 ^ l = m) := ⟨hm⟩
      clear hsz hxe hm
      go_wp2
      have hor := or_pow x (m % 64) hx (Nat.mod_lt _ (by decide))
      obtain ⟨y, hy⟩ : ∃ y, x ||| 2 ^ (m % 64) = y := ⟨_, rfl⟩
      have hdv : n / 64 ^ (l + 1) = m / 64 := by rw [Nat.pow_succ, ← Nat.div_div_eq_div_mul, HM.out]
      have HN : Bx _ := ⟨HI.out.1.put (k := m / 64) hlt (by rw [← HSZ.out]; exact hmm) (ins n D) y (by rw [wd_ins HM.out.symm, if_pos rfl, HXE.out]; exact hy) (fun j _ hj => by rw [wd_ins HM.out.symm, if_neg hj, if_neg (Nat.lt_irrefl l)]) (fun k => if k < l + 1 then ins n D else D) (fun k hk => by
        by_cases e : k = l
        · subst e; rw [if_pos rfl, if_pos (Nat.lt_succ_self _)]
        · rw [if_neg e]
          by_cases e2 : k < l
          · rw [if_pos e2, if_pos (by omega)]
          · rw [if_neg e2, if_neg (by omega)])⟩
      have HF : Bx _ := ⟨HI.out.2⟩
      rw [hy] at hor
      clear hx HI hy
      go_region
      go_wp2
      go_roundg (L + 1 - (l + 1))
      case measure => omega
      case rel => exact ⟨l + 1, rfl, by omega, by simp, by rw [hdv]; simp, ⟨HN.out.1, HF.out.trans HN.out.2⟩⟩
    · go_wp2
      go_returns
      exact ⟨rfl, ⟨HI.out.1.congr fun k hk => by rw [if_pos (by omega)], HI.out.2⟩⟩
set_option maxRecDepth 100000 in
set_option maxHeartbeats 1000000 in
theorem due_drop (w : World) (db dc : Nat) (eb : Nat → Nat) (L many : Nat) (D : Nat → Bool) (h : DuE w db dc eb L many fun _ => D) (n : Nat) (hn : n < many) :
    Calls Tryd.prog 64 #[.slice (some ⟨db, 0, none⟩) L dc, .int .i64 n] w fun e w' => e = .returned (.tuple #[]) ∧ Bx (DuE w' db dc eb L many (fun _ => del n D) ∧ Fx (dOwn eb L) w w') := by
  have hcap := h.cap
  have hL := h.hL
  have hmn := h.hm
  have H0 : Bx (DuE w db dc eb L many (fun m => if m < 0 then del n D else D) ∧ Fx (dOwn eb L) w w ∧ ∀ j, up (del n D) 0 j = (up D 0 j && j != n / 64 ^ 0)) := ⟨h, Fx.refl _ _, fun j => by rw [up_zero, up_zero, Nat.pow_zero, Nat.div_one]; rfl⟩
  clear h
  go_enter Tryd.func64, Tryd.ntmps64
  go_wp2
  go_loopg [1, 8] (L + 1) (fun g v1 v8 wr => ∃ l : Nat, g = L + 1 - l ∧ l ≤ L ∧ v8 = .int .i64 l ∧ v1 = .int .i64 ((n / 64 ^ l : Nat) : Int) ∧ Bx (DuE wr db dc eb L many (fun m => if m < l then del n D else D) ∧ Fx (dOwn eb L) w wr ∧ ∀ j, up (del n D) l j = (up D l j && j != n / 64 ^ l)))
  case atStart => exact ⟨0, by simp, by omega, rfl, by simp, H0⟩
  case round =>
    obtain ⟨l, hg, hl, rfl, rfl, HI⟩ := hrel
    clear H0
    by_cases hlt : l < L
    · obtain ⟨m, hm⟩ : ∃ m, n / 64 ^ l = m := ⟨_, rfl⟩
      have hmm : m / 64 < szW many l := by rw [← hm]; exact szW_at hn
      have hml : m ≤ 2147483648 := by rw [← hm]; exact Nat.le_trans (Nat.div_le_self _ _) (by omega)
      have hsl := szW_le (many := many) l
      rw [hm]
      have c0 := HI.out.1.row l hlt
      have he := HI.out.1.wrd l hlt
      rw [if_neg (Nat.lt_irrefl l)] at he
      have c1 : wr.cell? ⟨eb l, m / 64, none⟩ = some (.int .u64 (wd D l (m / 64))) := (cell_of_row wr _ _ _ _ _ he).trans (wrC_at hmm)
      have f1 : wr.frozen? ⟨eb l, m / 64, none⟩ = false := by simp [World.frozen?, he]
      have hlI : (l : Int) < (L : Int) := by omega
      have hl0 : (0 : Int) ≤ (l : Int) := by omega
      clear he
      have hx : wd D l (m / 64) < 18446744073709551616 := word_lt _
      obtain ⟨sz, hsz⟩ : ∃ sz, sz = szW many l := ⟨_, rfl⟩
      obtain ⟨x, hxe⟩ : ∃ x, wd D l (m / 64) = x := ⟨_, rfl⟩
      rw [hxe] at c1 hx
      rw [← hsz] at c0 hmm hsl
      have HSZ : Bx (sz = szW many l) := ⟨hsz⟩
      have HXE : Bx (wd D l (m / 64) = x) := ⟨hxe⟩
      have HM : Bx (n / 64 ^ l = m) := ⟨hm⟩
      have hup := HI.out.2.2
      rw [hm] at hup
      clear hsz hxe hm
      have hor := andNot_pow x (m % 64) hx (Nat.mod_lt _ (by decide))
      obtain ⟨y, hy⟩ : ∃ y, x &&& (18446744073709551615 - 2 ^ (m % 64)) = y := ⟨_, rfl⟩
      have hdv : n / 64 ^ (l + 1) = m / 64 := by rw [Nat.pow_succ, ← Nat.div_div_eq_div_mul, HM.out]
      have hyd : wd (del n D) l (m / 64) = y := by rw [wd_del hup, if_pos rfl, HXE.out]; exact hy
      have HP := HI.out.1.put (k := m / 64) hlt (by rw [← HSZ.out]; exact hmm) (del n D) y hyd (fun j _ hj => by rw [wd_del hup, if_neg hj, if_neg (Nat.lt_irrefl l)]) (fun k => if k < l + 1 then del n D else D) (fun k hk => by
        by_cases e : k = l
        · subst e; rw [if_pos rfl, if_pos (Nat.lt_succ_self _)]
        · rw [if_neg e]
          by_cases e2 : k < l
          · rw [if_pos e2, if_pos (by omega)]
          · rw [if_neg e2, if_neg (by omega)])
      have c2 : ((wr.setCell ⟨eb l, m / 64, none⟩ (.int .u64 (y : Int))).drew).cell? ⟨eb l, m / 64, none⟩ = some (.int .u64 (y : Int)) := by
        have he := HP.1.wrd l hlt
        rw [if_pos (Nat.lt_succ_self _)] at he
        rw [cell_of_row _ _ _ _ _ _ he, wrC_at (by rw [← HSZ.out]; exact hmm), hyd]
      have HN : Bx _ := ⟨HP⟩
      have HF : Bx _ := ⟨HI.out.2.1⟩
      rw [hy] at hor
      have hnx := del_next hup
      rw [hyd] at hnx
      have HNX : Bx _ := ⟨hnx⟩
      clear hx HI hy hyd HP hup hnx
      go_wp2
      by_cases hy0 : y = 0
      · subst hy0
        go_region
        go_wp2
        go_roundg (L + 1 - (l + 1))
        case measure => omega
        case rel => exact ⟨l + 1, rfl, by omega, by simp, by rw [hdv]; simp, ⟨HN.out.1, HF.out.trans HN.out.2, by rw [hdv]; exact HNX.out.2 (by first | rfl | trivial)⟩⟩
      · have hyI : ((y : Int) != 0) = true := by simp; omega
        have hyI2 : ((y : Int) == 0) = false := by simp; omega
        go_region
        go_wp2
        go_returns
        refine ⟨rfl, ⟨HN.out.1.congr fun k hk => ?_, HF.out.trans HN.out.2⟩⟩
        by_cases e : k < l + 1
        · rw [if_pos e]
        · rw [if_neg e]
          have hu : up (del n D) k = up D k := by
            obtain ⟨j, rfl⟩ : ∃ j, k = (l + 1) + j := ⟨k - (l + 1), by omega⟩
            rw [up_add (del n D), up_add D, HNX.out.1 hy0]
          unfold wrC wd
          rw [hu]
    · go_wp2
      go_returns
      exact ⟨rfl, ⟨HI.out.1.congr fun k hk => by rw [if_pos (by omega)], HI.out.2.1⟩⟩
theorem tz_key (x a : Nat) (hx : x < 18446744073709551616) (hx0 : x ≠ 0) (hlow : x &&& (18446744073709551616 - x) = a) :
    IntKind.u64.wrap (bits BinOp.and IntKind.u64 (x : Int) (IntKind.u64.wrap (-(x : Int))) * 285870213051353865) / 288230376151711744 = ((a * 285870213051353865 % 18446744073709551616 / 288230376151711744 : Nat) : Int) := by
  have e1 : IntKind.u64.wrap (-(x : Int)) = ((18446744073709551616 - x : Nat) : Int) := by rw [IntKind.wrap_u64]; omega
  rw [e1, bits_and_u64_nat x _ hx (by omega), hlow, IntKind.wrap_u64]
  omega
theorem db_eq : dbT = Lib.deBruijn64tab.map fun n : Nat => (n : Int) := rfl
theorem db_at (i : Nat) (hi : i < 64) : dbT.getD i 0 = ((Lib.deBruijn64tab.getD i 0 : Nat) : Int) := by
  have hl : Lib.deBruijn64tab.length = 64 := rfl
  rw [db_eq, List.getD_eq_getElem?_getD, List.getD_eq_getElem?_getD, List.getElem?_map, List.getElem?_eq_getElem (by omega)]
  rfl
set_option maxRecDepth 100000 in
set_option maxHeartbeats 1000000 in
theorem tz_core (x k idx : Nat) (w : World) (hx0 : ((x : Int) == 0) = false)
    (key : IntKind.u64.wrap (bits BinOp.and IntKind.u64 (x : Int) (IntKind.u64.wrap (-(x : Int))) * 285870213051353865) / 288230376151711744 = (idx : Int))
    (hi : idx < 64) (hk : k < 64) (hcell : w.cell? ⟨2, idx, none⟩ = some (.int .u8 k)) :
    Calls Tryd.prog 63 #[.int .u64 x] w fun e w' => e = .returned (.int .i64 k) ∧ w = w' := by
  go_enter Tryd.func63, Tryd.ntmps63
  go_wp2_with (simp only [key])
  go_ret
  exact ⟨rfl, rfl⟩
theorem tz_all (x : Nat) (hx : x < 18446744073709551616) (hx0 : x ≠ 0) (w : World) (hV : VW w) : Calls Tryd.prog 63 #[.int .u64 (x : Int)] w fun e w' => e = .returned (.int .i64 (Lib.ctz 64 x)) ∧ w = w' := by
  obtain ⟨hlow, hk⟩ := Lib.lowest_bit 64 x hx0 hx
  obtain ⟨hi, htab⟩ := Lib.deBruijn64_at _ hk
  have hc := hV.db _ hi
  rw [db_at _ hi, htab] at hc
  exact tz_core x _ _ w (by simp; omega) (tz_key x _ hx hx0 hlow) hi hk hc
theorem up_out {D : Nat → Bool} {L many : Nat} (hin : ∀ i, D i = true → i < many) (htop : szW many (L - 1) = 1) (hL : 0 < L) {j : Nat} (h : up D L j = true) : j = 0 := by
  obtain ⟨i, rfl, h2⟩ := up_iff.1 h
  have := szW_at (l := L - 1) (hin i h2)
  rw [htop] at this
  obtain ⟨k, rfl⟩ : ∃ k, L = k + 1 := ⟨L - 1, by omega⟩
  rw [Nat.add_sub_cancel] at this
  rw [Nat.pow_succ, ← Nat.div_div_eq_div_mul]
  generalize i / 64 ^ k = z at *
  omega
set_option maxRecDepth 100000 in
set_option maxHeartbeats 1000000 in
theorem take_none (w : World) (db dc : Nat) (eb : Nat → Nat) (L many : Nat) (D : Nat → Bool) (h : DuE w db dc eb L many fun _ => D) (hz : ∀ i, D i = false) (htop : szW many (L - 1) = 1) (hL0 : 0 < L) :
    Calls Tryd.prog 43 #[.slice (some ⟨db, 0, none⟩) L dc] w fun e w' => e = .returned (.tuple #[.int .i64 0, .bool false]) ∧ w = w' := by
  have hcap := h.cap
  have hL := h.hL
  obtain ⟨k, rfl⟩ : ∃ k, L = k + 1 := ⟨L - 1, by omega⟩
  rw [Nat.add_sub_cancel] at htop
  have c0 := h.row k (Nat.lt_succ_self _)
  have he := h.wrd k (Nat.lt_succ_self _)
  rw [htop] at c0 he
  have hw : wd D k 0 = 0 := by
    rw [wd_zero]
    cases hu : up D (k + 1) 0 with
    | false => rfl
    | true => obtain ⟨i, _, q⟩ := up_iff.1 hu; rw [hz i] at q; cases q
  have c1 : w.cell? ⟨eb k, 0, none⟩ = some (.int .u64 0) := by
    rw [cell_of_row w _ _ _ _ _ he, wrC_at (by omega), hw]; rfl
  have e1 : ((k + 1 : Nat) : Int) - 1 = (k : Int) := by omega
  clear h he hz hw
  go_enter Tryd.func43, Tryd.ntmps43
  go_wp2_with (simp only [e1])
  refine wp_loop_rounds 1 ?_
  rw [rounds_succ]
  go_wp2
  go_returns
  exact ⟨rfl, rfl⟩
end Go.Proofs.YtadmpgegolmkgaaDoor
namespace Go.Proofs.YtadmpgegolmkgaaDoor
open Go.RowKit
set_option linter.unusedVariables false
set_option linter.unusedSimpArgs false

/-! ### rows of one's own -/
theorem run_append_zero {P : Program} {w : World} (base : Nat) (t ty e : TypeId) (i : TypeInfo) (size : Nat) (ht : P.underlying t = some (.slice e)) (hi : P.info? e = some i)
    (v : Value) (n : Nat) (xs : List Value) (hown : w.ownsRow base e size v n xs) (p : Option Addr) (c : Nat) :
    (Builtin.append_ #[t, t] ty #[v, .slice p 0 c]).run P w = .ok v w := by
  have hl : ∀ a : Addr, (Go.loadCells a 0).run P w = .ok #[] w := fun a => by
    have := run_loadCells_list (P := P) w a [] (by simp)
    simpa using this
  rcases hown.2 with ⟨rfl, rfl⟩ | ⟨g, cap, cur, rfl, _, _, hnc, _⟩
  · cases p <;> simp [Builtin.append_, run_underlying ht, sizeOf, typeInfo, hi, Builtin.lenOf, Builtin.firstCells, storeCells, hl]
  · cases p <;> simp [Builtin.append_, run_underlying ht, sizeOf, typeInfo, hi, Builtin.lenOf, Builtin.firstCells, storeCells, hl, hnc]
theorem own_same {W W' : World} {base : Nat} {e : TypeId} {s : Nat} {v : Value} {n : Nat} {cs : List Value} (h : W.ownsRow base e s v n cs) (hb : ∀ g o, v.ownBlock = some g → W.heap[g]? = some o → W'.heap[g]? = some o) : W'.ownsRow base e s v n cs := by
  refine ⟨h.1, ?_⟩
  rcases h.2 with h1 | ⟨g, cap, cur, rfl, h2, h3, h4⟩
  · exact .inl h1
  · exact .inr ⟨g, cap, cur, rfl, h2, hb g _ rfl h3, h4⟩
theorem own_base {W : World} {base : Nat} {e : TypeId} {s : Nat} {v : Value} {n : Nat} {cs : List Value} (h : W.ownsRow base e s v n cs) : ∀ g, v.ownBlock = some g → base ≤ g := by
  intro g hg
  rcases h.2 with ⟨rfl, _⟩ | ⟨g', cap, cur, rfl, h2, _⟩
  · cases hg
  · cases hg; exact h2
theorem own_new {wr X : World} {base : Nat} {e : TypeId} {s : Nat} {v : Value} {n : Nat} {cs : List Value} (h : wr.ownsRow base e s v n cs) (hX : Below wr.heap.size wr X) : X.ownsRow base e s v n cs :=
  own_same h (fun g o _ hg => (hX.block g (Array.getElem?_eq_some_iff.1 hg).1).trans hg)
theorem own_low {W : World} {base base' : Nat} {e : TypeId} {s : Nat} {v : Value} {n : Nat} {cs : List Value} (h : W.ownsRow base e s v n cs) (hb : base' ≤ base) : W.ownsRow base' e s v n cs :=
  ⟨h.1, by
    rcases h.2 with h | ⟨g, cap, cur, e, h1, h2⟩
    · exact .inl h
    · exact .inr ⟨g, cap, cur, e, by omega, h2⟩⟩
theorem block_cells (W : World) (g : Nat) (us : Array Value) (t : TypeId) (hg : W.heap[g]? = some (.cells us t (0, 0))) : ∀ (j : Nat) (x : Value), us.toList[j]? = some x → W.cell? ((⟨g, 0, none⟩ : Addr).add j) = some x := by
  intro j x hx
  have e : (⟨g, 0, none⟩ : Addr).add j = ⟨g, j, none⟩ := by
    cases j with
    | zero => simp [Addr.add]
    | succ j => simp [Addr.add]
  rw [e]
  simp only [World.cell?, hg]
  simpa using hx
theorem owns_same {W W' : World} {B : Nat} {e : TypeId} {s : Nat} {v : Value} {n : Nat} {cs : List Value} (h : W.ownsRow B e s v n cs) (hb : ∀ g, B ≤ g → g < W.heap.size → W'.heap[g]? = W.heap[g]?) : W'.ownsRow B e s v n cs := by
  refine ⟨h.1, ?_⟩
  rcases h.2 with hn | ⟨g, cap, cur, rfl, hB, hgg, rest⟩
  · exact .inl hn
  · exact .inr ⟨g, cap, cur, rfl, hB, by rw [hb g hB (Array.getElem?_eq_some_iff.1 hgg).1]; exact hgg, rest⟩
theorem owns_block {W : World} {B : Nat} {e : TypeId} {s : Nat} {v : Value} {n : Nat} {cs : List Value} (h : W.ownsRow B e s v n cs) {g : Nat} (hg : v.ownBlock = some g) : B ≤ g ∧ g < W.heap.size := by
  rcases h.2 with ⟨rfl, _⟩ | ⟨g', cap, cur, rfl, hB, hgg, rest⟩
  · cases hg
  · simp only [Value.ownBlock, Option.some.injEq] at hg
    subst hg
    exact ⟨hB, (Array.getElem?_eq_some_iff.1 hgg).1⟩
theorem owns_kind {W : World} {B : Nat} {e : TypeId} {s : Nat} {v : Value} {n : Nat} {cs : List Value} (h : W.ownsRow B e s v n cs) : ∀ g, v.ownBlock = some g → ∃ c fz, W.heap[g]? = some (.cells c e fz) := by
  intro g hg
  rcases h.2 with ⟨rfl, _⟩ | ⟨g', cap, cur, rfl, hB, hgg, rest⟩
  · cases hg
  · simp only [Value.ownBlock, Option.some.injEq] at hg
    subst hg
    exact ⟨_, _, hgg⟩
theorem cell_blk {w : World} {b i : Nat} {cs : Array Value} {t : TypeId} {fz : Nat × Nat} {v : Value} (h : w.heap[b]? = some (.cells cs t fz)) (hv : cs[i]? = some v) : w.cell? ⟨b, i, none⟩ = some v := by
  rw [World.cell?]
  simp only [h]
  exact hv
theorem frz_blk {w : World} {b i : Nat} {cs : Array Value} {t : TypeId} (h : w.heap[b]? = some (.cells cs t (0, 0))) : w.frozen? ⟨b, i, none⟩ = false := by simp [World.frozen?, h]
theorem heap_lt {w : World} {b : Nat} {o : Obj} (h : w.heap[b]? = some o) : b < w.heap.size := (Array.getElem?_eq_some_iff.1 h).1
theorem heap_newH (w : World) (o : Obj) (H : Nat) (h : w.heap.size = H) : (w.alloc o).heap[H]? = some o := by subst h; exact World.alloc_heap_new w o
theorem wpList_appI {P : Program} {w w' : World} {ops : Array Oper} {rest : List Oper} {o : Oper} {a : Act} {Q : Exit → Act → World → Prop} (hgd : o.guard = none) (s x : Operand) (t : TypeId)
    (ho : o.op = .call { callee := .builtin .append, args := #[s, x], argTypes := #[t, t] }) {v u r : Value} (hs : a.eval s = v) (hx : a.eval x = u) (hr : ∀ ty, (Builtin.append_ #[t, t] ty #[v, u]).run P w = .ok r w')
    (h : wpList P ops Q rest (a.put o.dst r) w') : wpList P ops Q (o :: rest) a w := by
  refine wpList_plain hgd fun K hK => ?_
  unfold Oper.wp
  simp [execOp, ho, resolve, invoke, builtin, hs, hx, hr, Result.andThen]
  exact hK _ _ h
theorem owns_slice {W : World} {B s n : Nat} {t : TypeId} {v : Value} {cs : List Value} (h : W.ownsRow B t s v n cs) : ∃ a c, v = .slice a n c := by
  rcases h.2 with ⟨rfl, rfl⟩ | ⟨g, cap, cur, rfl, _⟩
  · exact ⟨_, _, rfl⟩
  · exact ⟨_, _, rfl⟩
/-- one element behind a row of one's own -/
theorem app1 {e t : TypeId} {i0 : TypeInfo} {z : Value} {s bt : Nat} (ht : Tryd.prog.underlying t = some (.slice e)) (hi : Tryd.prog.info? e = some i0) (hz : i0.zero = some z) (hs : i0.size = s) (hb : i0.bytes = bt) (hzs : z.cells.size = s) (hs0 : 0 < s)
    (W : World) (B : Nat) (v : Value) (n : Nat) (xs : List Value) (ho : W.ownsRow B e s v n xs) (cs : Array Value) (hcs : cs.toList.length = s) (h1 : ∀ u ∈ cs.toList, u.oneCell' = true) (hn : n + 1 ≤ maxLen) (hby : (n + 1) * bt ≤ 140737488355328) (hB : B ≤ W.heap.size) :
    ∃ g c W3, (∀ ty, (Builtin.append_ #[t, t] ty #[v, .slice (some ⟨W.heap.size, 0, none⟩) 1 1]).run Tryd.prog (W.alloc (.cells cs e)) = .ok (.slice (some ⟨g, 0, none⟩) (n + 1) c) W3) ∧ W3.ownsRow B e s (.slice (some ⟨g, 0, none⟩) (n + 1) c) (n + 1) (xs ++ cs.toList) ∧ W.grownBy W3 v.ownBlock ∧ n + 1 ≤ c ∧ (v.ownBlock = some g ∨ W.heap.size ≤ g) := by
  have ho' : (W.alloc (.cells cs e)).ownsRow B e s v n xs := own_new ho (below1 _ _)
  obtain ⟨g, c, W3, r1, r2, r3, r4, r5⟩ := run_append_lies (P := Tryd.prog) (W.alloc (.cells cs e)) t e B e i0 z s bt ht hi hz hs hb hzs hs0 v n xs ho' ⟨W.heap.size, 0, none⟩ 1 1 cs.toList (by omega) (block_cells _ _ _ _ (World.alloc_heap_new W _)) h1 (by omega) hn hby (by simp; omega) _ rfl
  have hc : n + 1 ≤ c := by
    rcases r2.2 with ⟨e1, _⟩ | ⟨g', cap', cur, e1, _, _, q1, _⟩
    · cases e1
    · simp only [Value.slice.injEq] at e1
      obtain ⟨_, _, rfl⟩ := e1
      exact q1
  refine ⟨g, c, W3, fun ty => r1, r2, ⟨r3.os, r3.tape, r3.output, Nat.le_trans (by simp) r3.size, fun k hk hne => ?_⟩, hc, ?_⟩
  · rw [r3.block k (by simp; omega) hne, Below.heap_alloc W _ k hk]
  · rcases r4 with r4 | r4
    · exact .inl r4
    · exact .inr (by rw [r4]; simp)
/-- a list that lies somewhere, behind a row of one's own -/
theorem appL {e t : TypeId} {i0 : TypeInfo} {z : Value} {s bt : Nat} (ht : Tryd.prog.underlying t = some (.slice e)) (hi : Tryd.prog.info? e = some i0) (hz : i0.zero = some z) (hs : i0.size = s) (hb : i0.bytes = bt) (hzs : z.cells.size = s) (hs0 : 0 < s)
    (W : World) (B : Nat) (v : Value) (n : Nat) (xs : List Value) (ho : W.ownsRow B e s v n xs) (p : Option Addr) (m c : Nat) (news : List Value) (hl : news.length = m * s) (hc : 0 < m → ∃ ad, p = some ad ∧ ∀ j u, news[j]? = some u → W.cell? (ad.add j) = some u) (h1 : ∀ u ∈ news, u.oneCell' = true) (hn : n + m ≤ maxLen) (hby : (n + m) * bt ≤ 140737488355328) (hB : B ≤ W.heap.size) :
    ∃ v' W3, (∀ ty, (Builtin.append_ #[t, t] ty #[v, .slice p m c]).run Tryd.prog W = .ok v' W3) ∧ W3.ownsRow B e s v' (n + m) (xs ++ news) ∧ W.grownBy W3 v.ownBlock := by
  by_cases h0 : 0 < m
  · obtain ⟨ad, rfl, hcc⟩ := hc h0
    obtain ⟨g, c, W3, r1, r2, r3, r4, r5⟩ := run_append_lies (P := Tryd.prog) W t e B e i0 z s bt ht hi hz hs hb hzs hs0 v n xs ho ad m c news hl hcc h1 h0 hn hby hB _ rfl
    exact ⟨_, W3, fun ty => r1, r2, r3⟩
  · obtain rfl : m = 0 := by omega
    have : news = [] := List.eq_nil_of_length_eq_zero (by omega)
    subst this
    exact ⟨v, W, fun ty => run_append_zero (P := Tryd.prog) (w := W) B t ty e i0 s ht hi v n xs ho p c, by simpa using ho, World.grownBy.refl _ _⟩
/-- a row stays where one of another kind grows -/
theorem owns_grown {W W' : World} {B s n : Nat} {t t' : TypeId} {v vv : Value} {cs : List Value} (h : W.ownsRow B t s v n cs) (hg : W.grownBy W' vv.ownBlock) (ht : t' ≠ t) (hne : ∀ g, vv.ownBlock = some g → ∃ c fz, W.heap[g]? = some (.cells c t' fz)) : W'.ownsRow B t s v n cs := by
  refine ⟨h.1, ?_⟩
  rcases h.2 with hn | ⟨g, cap, cur, rfl, hB, hgg, rest⟩
  · exact .inl hn
  · refine .inr ⟨g, cap, cur, rfl, hB, ?_, rest⟩
    rw [hg.block g (heap_lt hgg) (fun e => by
      obtain ⟨c, fz, h2⟩ := hne g e.symm
      rw [h2] at hgg
      injection hgg with hgg
      injection hgg with _ hgg
      exact absurd hgg ht)]
    exact hgg
theorem grown_at {W W' : World} {r : Option Nat} (hg : W.grownBy W' r) {b : Nat} {o : Obj} (h : W.heap[b]? = some o) (hr : r ≠ some b) : W'.heap[b]? = some o := by
  rw [hg.block b (heap_lt h) (fun e => hr (by rw [e]))]; exact h
/-- the beginning of a row -/
theorem owns_cut {w : World} {B g n m c s : Nat} {t : TypeId} {xs ys : List Value} (h : w.ownsRow B t s (.slice (some ⟨g, 0, none⟩) n c) n (xs ++ ys)) (hm : xs.length = m * s) (hmn : m ≤ n) : w.ownsRow B t s (.slice (some ⟨g, 0, none⟩) m c) m xs := by
  rcases h.2 with ⟨e, _⟩ | ⟨g', cap', cur, e, hB, hg, q1, q2, q3, q4⟩
  · cases e
  · simp only [Value.slice.injEq, Option.some.injEq, Addr.mk.injEq] at e
    obtain ⟨⟨rfl, _⟩, _, rfl⟩ := e
    refine ⟨hm, .inr ⟨g, c, cur, rfl, hB, hg, by omega, q2, q3, ?_⟩⟩
    have e2 := congrArg (List.take (m * s)) q4
    have hle : m * s ≤ n * s := Nat.mul_le_mul_right _ hmn
    rw [List.take_take, Nat.min_eq_left hle, List.take_append_of_le_length (by omega)] at e2
    rw [e2]
    exact List.take_of_length_le (by omega)
theorem owns_cellj {w : World} {B s n c g : Nat} {e : TypeId} {xs : List Value} (h : w.ownsRow B e s (.slice (some ⟨g, 0, none⟩) n c) n xs) {j : Nat} {u : Value} (hj : xs[j]? = some u) : w.cell? ⟨g, j, none⟩ = some u := by
  have hl : j < n * s := by
    have := (List.getElem?_eq_some_iff.1 hj).1
    have := h.1
    omega
  rw [h.cellAt j hl]; exact hj
end Go.Proofs.YtadmpgegolmkgaaDoor
namespace Go.Proofs.YtadmpgegolmkgaaDoor
open Go.RowKit
set_option linter.unusedVariables false
set_option linter.unusedSimpArgs false

theorem szW_small {many : Nat} : ∀ l, szW many l ≤ many / 2 ^ l + 1
  | 0 => by unfold szW; omega
  | l + 1 => by
    have h := szW_small (many := many) l
    unfold szW
    rw [Nat.pow_succ, ← Nat.div_div_eq_div_mul]
    generalize many / 2 ^ l = z at *
    omega
set_option maxRecDepth 100000 in
set_option maxHeartbeats 1000000 in
theorem take_some (w : World) (hV : VW w) (db dc : Nat) (eb : Nat → Nat) (L many : Nat) (D : Nat → Bool) (h : DuE w db dc eb L many fun _ => D) (hin : ∀ i, D i = true → i < many) (hz : ∃ i, D i = true) (htop : szW many (L - 1) = 1) (hL0 : 0 < L) :
    Calls Tryd.prog 43 #[.slice (some ⟨db, 0, none⟩) L dc] w fun e w' => ∃ n, leastB D n ∧ n < many ∧ e = .returned (.tuple #[.int .i64 (n : Int), .bool true]) ∧ Bx (DuE w' db dc eb L many (fun _ => del n D) ∧ Fx (dOwn eb L) w w') := by
  have hcap := h.cap
  have hL := h.hL
  have hmn := h.hm
  have H : Bx (DuE w db dc eb L many fun _ => D) := ⟨h⟩
  have HT : Bx (VW w) := ⟨hV⟩
  have H0 : Bx (leastB (up D L) 0) := ⟨by
    obtain ⟨i, hi⟩ := hz
    have h1 : up D L (i / 64 ^ L) = true := up_iff.2 ⟨i, rfl, hi⟩
    have h2 := up_out hin htop hL0 h1
    rw [h2] at h1
    exact ⟨h1, fun m hm => by omega⟩⟩
  have HI : Bx (∀ i, D i = true → i < many) := ⟨hin⟩
  clear h hV hin hz htop
  go_enter Tryd.func43, Tryd.ntmps43
  go_wp2
  go_loopg [4, 5] (L + 1) (fun g v4 v5 wr => ∃ l n : Nat, g = l + 1 ∧ l ≤ L ∧ v5 = .int .i64 ((l : Int) - 1) ∧ v4 = .int .i64 (n : Int) ∧ Bx (leastB (up D l) n ∧ w = wr))
  case atStart => exact ⟨L, 0, rfl, Nat.le_refl _, rfl, rfl, ⟨H0.out, rfl⟩⟩
  case round =>
    obtain ⟨l, n, hg, hl, rfl, rfl, HR⟩ := hrel
    clear H0
    obtain ⟨hle, hw⟩ := HR.out
    subst hw
    cases l with
    | succ k =>
      have e1 : ((k + 1 : Nat) : Int) - 1 = (k : Int) := by omega
      rw [e1]
      obtain ⟨q1, q2, q3⟩ := least_down hle
      have c0 := H.out.row k (by omega)
      have he := H.out.wrd k (by omega)
      have hn : n < szW many k := by
        obtain ⟨i, hi1, hi2⟩ := up_iff.1 hle.1
        have := szW_at (l := k) (HI.out i hi2)
        rw [Nat.pow_succ, ← Nat.div_div_eq_div_mul] at hi1
        rw [hi1] at this
        exact this
      have hsm := szW_le (many := many) k
      have c1 : w.cell? ⟨eb k, n, none⟩ = some (.int .u64 (wd D k n)) := (cell_of_row w _ _ _ _ _ he).trans (wrC_at hn)
      have HTZ : Bx (Calls Tryd.prog 63 #[.int .u64 ((wd D k n : Nat) : Int)] w fun e w' => e = .returned (.int .i64 ((Lib.ctz 64 (wd D k n) : Nat) : Int)) ∧ w = w') := ⟨tz_all _ (word_lt _) q1 w HT.out⟩
      have HN : Bx (leastB (up D k) (n * 64 + Lib.ctz 64 (wd D k n))) := ⟨q3⟩
      have hx0 : (((wd D k n : Nat) : Int) == 0) = false := by simp; omega
      clear he hle q1 q3 HR H
      obtain ⟨c, hc⟩ : ∃ c, Lib.ctz 64 (wd D k n) = c := ⟨_, rfl⟩
      rw [hc] at HTZ HN q2
      clear hc
      generalize wd D k n = x at *
      have hkI : (0 : Int) ≤ (k : Int) := by omega
      have hkL : (k : Int) < (L : Int) := by omega
      obtain ⟨sz, hsz⟩ : ∃ sz, szW many k = sz := ⟨_, rfl⟩
      rw [hsz] at c0 hn hsm
      clear hsz
      go_wp2_with (first
        | (go_at_call 63; refine HTZ.out.mono ?_; rintro e w1 ⟨rfl, rfl⟩))
      go_roundg (k + 1)
      case measure => omega
      case rel => exact ⟨k, n * 64 + c, rfl, by omega, by simp, by simp, ⟨HN.out, rfl⟩⟩
    | zero =>
      have e1 : ((0 : Nat) : Int) - 1 = -1 := by omega
      rw [e1]
      rw [up_zero] at hle
      have hnm := HI.out n hle.1
      have HLE : Bx (leastB D n) := ⟨hle⟩
      have HD := due_drop w db dc eb L many D H.out n hnm
      clear hle HR HI
      go_wp2_with (first
        | (go_at_call 64; refine HD.mono ?_; rintro e w1 ⟨rfl, HX⟩))
      go_returns
      exact ⟨n, HLE.out, hnm, rfl, HX⟩
end Go.Proofs.YtadmpgegolmkgaaDoor
