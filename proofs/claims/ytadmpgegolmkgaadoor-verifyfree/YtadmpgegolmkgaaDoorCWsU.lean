import Derived.Test.YtadmpgegolmkgaaDoorCWsT
import Derived.Shelf.Small.Bits
import Derived.Shelf.Strconv.Itoa0
import Derived.Test.YtadmpgegolmkgaaDoorProg
namespace Go.Proofs.YtadmpgegolmkgaaDoor
open Go.RowKit Go.MapKept Go.ChangeMaps Go.WideShapes
set_option linter.unusedVariables false
set_option linter.unusedSimpArgs false

theorem pow_less (b : Nat) (hb : b < 64) : IntKind.u64.wrap (IntKind.u64.wrap ((2 : Int) ^ b) - 1) = ((2 ^ b - 1 : Nat) : Int) := by
  rw [pow_u64 b hb]
  have h1 : 2 ^ b < 18446744073709551616 := Nat.pow_lt_pow_right (by decide) hb
  have h2 := Nat.two_pow_pos b
  rw [IntKind.wrap_u64]
  omega
set_option maxRecDepth 100000 in
set_option maxHeartbeats 1000000 in
/-- the set of the first so many -/
theorem first_any (w : World) (wb : Nat) (h : WH) (L gb gc mb : Nat) (P : Prs) (s : SeM w wb h L gb gc mb P) (hL : L < 60) (many : Nat) (hm : many ≤ 2147483648) (hP : P.length + 2 * L < 1099511627776) :
    Calls Tryd.prog 42 #[.pointer (some ⟨wb, 7, none⟩), .int .i64 (many : Int)] w fun e w' => e = .returned (.int .u64 ((firP many L P).2.2 : Int)) ∧ Bx (SePost w wb h L gb mb (firP many L P).1 w') := by
  have H0 : Bx (∀ k, SePost w wb h L gb mb (firP many 0 P).1 (w.drewN k)) := ⟨fun k => SePost.refl s (below_drewN (Below.refl _ w) k)⟩
  have HS : Bx (∀ l, l ≤ L → _) := ⟨fun l hl => fir_spec many l s.ok⟩
  have hpl := pow_less (many % 64) (Nat.mod_lt _ (by decide))
  obtain ⟨q, hq⟩ : ∃ q, 2 ^ (many % 64) - 1 = q := ⟨_, rfl⟩
  rw [hq] at hpl
  have HQ : Bx ((firP many 0 P).2.2 = q) := ⟨hq⟩
  clear hq s
  go_enter Tryd.func42, Tryd.ntmps42
  go_wp2
  go_quiet (fail)
  go_wp2
  go_loopg [5, 6, 7] (L + 1) (fun g v5 v6 v7 wr => ∃ l f y : Nat, g = L + 1 - l ∧ l ≤ L ∧ v7 = .int .i64 ((l : Int) + 1) ∧ v5 = .int .u64 f ∧ v6 = .int .u64 y ∧ Bx (f = (firP many l P).2.1 ∧ y = (firP many l P).2.2 ∧ SePost w wb h L gb mb (firP many l P).1 wr))
  case atStart => exact ⟨0, 18446744073709551615, q, by simp, by omega, rfl, rfl, rfl, ⟨rfl, HQ.out.symm, H0.out _⟩⟩
  case round =>
    obtain ⟨l, f, y, hg, hl, rfl, rfl, rfl, HI⟩ := hrel
    clear H0 HQ
    obtain ⟨gb1, gc1, s1, x1, hg1⟩ := HI.out.2.2
    have hf := HI.out.1
    have hy := HI.out.2.1
    obtain ⟨a1, a2, a3, a4, _, _, a7⟩ := HS.out l hl
    have hwk := s1.wk
    unfold wkA at hwk
    have c7 : wr.cell? ⟨wb, 7, none⟩ = some (.int .i64 L) := cell_blk hwk rfl
    clear hwk
    by_cases hlt : l < L
    · have hlI : (l : Int) + 1 ≤ (L : Int) := by omega
      have hr : ∀ a b, firP many l P = (a, b) → firP many (l + 1) P = _ := fun a b e => by rw [firP, e]
      have f64 : f < 18446744073709551616 := by rw [hf]; exact vs_64 (by omega) a3
      have y64 : y < 18446744073709551616 := by rw [hy]; exact vs_64 (by omega) a4
      generalize firP many l P = R at *
      obtain ⟨P1, f1, y1⟩ := R
      simp only at s1 x1 a1 a2 a3 a4 a7 hf hy hr
      subst hf
      subst hy
      have hr := hr _ _ rfl
      have HH := fun W => isHigh_any many l hm (by omega) W
      obtain ⟨p, hp⟩ : ∃ p, p = (if (many / 64).testBit l then (f, y) else (y, 0)) := ⟨_, rfl⟩
      have hp64 : Pr64 p := by
        rw [hp]
        split
        · exact ⟨f64, y64⟩
        · exact ⟨y64, (by decide : (0 : Nat) < 18446744073709551616)⟩
      have hn1 := number_any wr wb h L gb1 gc1 mb P1 s1 (by omega) p hp64
      have hlim := @numP_lim P1 p
      rw [← hp] at hr
      have HF : Bx (∀ w2, SePost wr wb h L gb1 mb (numP P1 p).1 w2 → Calls Tryd.prog 62 #[.pointer (some ⟨wb, 7, none⟩), .agg #[.int .u64 (f : Int), .int .u64 (f : Int)]] w2 fun e w' => e = .returned (.int .u64 ((firP many (l + 1) P).2.1 : Int)) ∧ Bx (SePost w wb h L gb mb (firP many (l + 1) P).1 w')) := ⟨fun w2 q2 => by
        obtain ⟨gb2, gc2, s2, x2, hg2⟩ := SePost.trans x1 hg1 q2
        refine (number_any w2 wb h L gb2 gc2 mb _ s2 (by omega) (f, f) ⟨f64, f64⟩).mono ?_
        rintro e w3 ⟨rfl, q3⟩
        rw [hr]
        exact ⟨rfl, ⟨SePost.trans x2 hg2 q3.out⟩⟩⟩
      have HY : Bx (((numP P1 p).2 : Nat) = (firP many (l + 1) P).2.2) := ⟨by rw [hr]⟩
      have HN : Bx _ := ⟨hn1⟩
      clear hn1 hr s1 x1 hg1 a1 a2 a3 a4 a7 HI f64 y64 hp64 hlim
      generalize numP P1 p = N at *
      obtain ⟨P2, y2⟩ := N
      simp only at HF HY HN
      cases hb : (many / 64).testBit l with
      | true =>
        rw [hb, if_pos rfl] at hp
        subst hp
        rw [hb] at HH
        go_wp2_with (first
          | (go_at_call 61; refine (HH _).mono ?_; rintro e w1 ⟨rfl, rfl⟩; clear HH)
          | (go_at_call 62; refine HN.out.mono ?_; rintro e w2 ⟨rfl, q2⟩; have HG := HF.out w2 q2.out; clear HN HF)
          | (go_at_call 62; refine HG.mono ?_; rintro e w3 ⟨rfl, q3⟩))
        go_roundg (L + 1 - (l + 1))
        case measure => omega
        case rel => exact ⟨l + 1, _, y2, rfl, by omega, by simp, rfl, rfl, ⟨rfl, HY.out, q3.out⟩⟩
      | false =>
        rw [hb] at hp
        simp only [Bool.false_eq_true, if_false] at hp
        subst hp
        rw [hb] at HH
        go_wp2_with (first
          | (go_at_call 61; refine (HH _).mono ?_; rintro e w1 ⟨rfl, rfl⟩; clear HH)
          | (go_at_call 62; refine HN.out.mono ?_; rintro e w2 ⟨rfl, q2⟩; have HG := HF.out w2 q2.out; clear HN HF)
          | (go_at_call 62; refine HG.mono ?_; rintro e w3 ⟨rfl, q3⟩))
        go_roundg (L + 1 - (l + 1))
        case measure => omega
        case rel => exact ⟨l + 1, _, y2, rfl, by omega, by simp, rfl, rfl, ⟨rfl, HY.out, q3.out⟩⟩
    · have hlL : l = L := by omega
      subst hlL
      have hlI : ¬ (l : Int) + 1 ≤ (l : Int) := by omega
      have HF : Bx (SePost w wb h l gb mb (firP many l P).1 wr) := ⟨HI.out.2.2⟩
      clear HI s1 x1 hg1 a1 a2 a3 a4 a7 hf
      go_wp2
      go_ret
      exact ⟨rfl, HF⟩
end Go.Proofs.YtadmpgegolmkgaaDoor
/-
  DERIVED: THE SHELF's CONTRACTS AT THIS DUMP, IN PLAIN WORDS (tools/lay-plain.mjs out of 'TrydShelfS.lean', which tools/lay-shelf.mjs wrote): THE SAME DECLARATIONS UNDER THE SAME NAMES: 'import', 'namespace', 'open', 'def', 'theorem' AND NOTHING ELSE: no command of the shelf's: FOR A HAND-IN. Each laying: the table of numbers ('.._ren') and one theorem, a field a fact of the dump's own or the kernel's comparison; each contract: ONE APPLICATION.
-/
namespace Go.Proofs
open Go.Shelf
def Tryd.lays125_ren : Go.Shelf.Ren := ⟨fun | 125 => 59 | 128 => 79 | 129 => 80 | n => n, fun | 46 => 118 | 3 => 3 | 51 => 133 | 53 => 63 | 4 => 4 | 5 => 5 | 9 => 9 | n => n, fun | n => n⟩
theorem Tryd.lays125 : Go.Proofs.Lays.n125 Tryd.prog Tryd.lays125_ren := {
  mixed := by kernel_rfl
  f125 := Tryd.func59.trans (congrArg some (by kernel_rfl))
  f128 := Tryd.func79.trans (congrArg some (by kernel_rfl))
  f129 := Tryd.func80.trans (congrArg some (by kernel_rfl))
  t3 := Tryd.underlying3
  a3 := Tryd.isAgg3
  z3 := Tryd.sizeOf3
  v3 := Tryd.zeroValue3
  t4 := Tryd.underlying4
  a4 := Tryd.isAgg4
  z4 := Tryd.sizeOf4
  v4 := Tryd.zeroValue4
  t5 := Tryd.underlying5
  a5 := Tryd.isAgg5
  z5 := Tryd.sizeOf5
  v5 := Tryd.zeroValue5
  t9 := Tryd.underlying9
  a9 := Tryd.isAgg9
  z9 := Tryd.sizeOf9
  v9 := Tryd.zeroValue9
  t46 := Tryd.underlying118
  a46 := Tryd.isAgg118
  z46 := Tryd.sizeOf118
  v46 := Tryd.zeroValue118
  t51 := Tryd.underlying133
  a51 := Tryd.isAgg133
  z51 := Tryd.sizeOf133
  v51 := Tryd.zeroValue133
  t53 := Tryd.underlying63
  a53 := Tryd.isAgg63
  z53 := Tryd.sizeOf63
  v53 := Tryd.zeroValue63 }
/-- bits.Len: "Len returns the minimum number of bits required to represent x; the result is 0 for x == 0.": IT RETURNS 'Lib.bitLen x'; the world is as it was. (A uint has 64 bits in the model.) ITS CALLEE bits.Len64 IS MET BY ITS OWN CONTRACT OFF THE SHELF (lay that first). (LAID: no walk: one application.) -/
theorem Tryd.bits_Len (x : Int) (w : World) (h0 : 0 ≤ x) (h1 : x ≤ 18446744073709551615) :
    Calls Tryd.prog 59 #[.int .u64 x] w fun e w' => e = .returned (.int .i64 (Lib.bitLen x.toNat)) ∧ w' = w := Any.bits_Len Tryd.lays125 x w h0 h1
def Tryd.lays129_ren : Go.Shelf.Ren := ⟨fun | 129 => 80 | n => n, fun | 53 => 63 | 3 => 3 | 4 => 4 | 46 => 118 | 5 => 5 | 9 => 9 | n => n, fun | n => n⟩
theorem Tryd.lays129 : Go.Proofs.Lays.n129 Tryd.prog Tryd.lays129_ren := {
  mixed := by kernel_rfl
  f129 := Tryd.func80.trans (congrArg some (by kernel_rfl))
  t3 := Tryd.underlying3
  a3 := Tryd.isAgg3
  z3 := Tryd.sizeOf3
  v3 := Tryd.zeroValue3
  t4 := Tryd.underlying4
  a4 := Tryd.isAgg4
  z4 := Tryd.sizeOf4
  v4 := Tryd.zeroValue4
  t5 := Tryd.underlying5
  a5 := Tryd.isAgg5
  z5 := Tryd.sizeOf5
  v5 := Tryd.zeroValue5
  t9 := Tryd.underlying9
  a9 := Tryd.isAgg9
  z9 := Tryd.sizeOf9
  v9 := Tryd.zeroValue9
  t46 := Tryd.underlying118
  a46 := Tryd.isAgg118
  z46 := Tryd.sizeOf118
  v46 := Tryd.zeroValue118
  t53 := Tryd.underlying63
  a53 := Tryd.isAgg63
  z53 := Tryd.sizeOf63
  v53 := Tryd.zeroValue63 }
end Go.Proofs
namespace Go.Proofs.YtadmpgegolmkgaaDoor
open Go.RowKit Go.MapKept Go.ChangeMaps Go.WideShapes
set_option linter.unusedVariables false
set_option linter.unusedSimpArgs false

theorem wpList_clrS {P : Program} {w w' : World} {ops : Array Oper} {rest : List Oper} {o : Oper} {a : Act} {Q : Exit → Act → World → Prop} (hgd : o.guard = none) (x : Operand) (t : TypeId)
    (ho : o.op = .call { callee := .builtin .clear, args := #[x], argTypes := #[t] }) {u : Value} (hx : a.eval x = u) (hr : ∀ ty, (Builtin.clear_ #[t] ty #[u]).run P w = .ok (.tuple #[]) w')
    (h : wpList P ops Q rest (a.put o.dst (.tuple #[])) w') : wpList P ops Q (o :: rest) a w := by
  refine wpList_plain hgd fun K hK => ?_
  unfold Oper.wp
  simp [execOp, ho, resolve, invoke, builtin, hx, hr, Result.andThen]
  exact hK _ _ h
theorem map_is (W : World) (o : Option Nat) : (binOp .eql 71 (.map o) (.map none)).run Tryd.prog W = .ok (.bool o.isNone) W := by
  have hu : Tryd.prog.underlying 71 = some (.map 120 64) := Tryd.underlying71
  have e : ∀ d, (Op.equalIn (d + 1) 71 (.map o) (.map none)).run Tryd.prog W = .ok o.isNone W := fun d => by cases o <;> simp [Op.equalIn, run_underlying hu]
  simp only [binOp]
  simp [Op.equal, Op.maxDepth, e 9999]
/-! ### how many levels -/
theorem bitLen_lt : ∀ (f x : Nat), x < 2 ^ f → x < 2 ^ Lib.bitLenAux f x
  | 0, x, h => h
  | f + 1, x, h => by
    simp only [Lib.bitLenAux]
    split
    · rename_i e; subst e; exact Nat.two_pow_pos _
    · have ih := bitLen_lt f (x / 2) (by rw [Nat.pow_succ] at h; omega)
      rw [Nat.pow_add, Nat.pow_one]
      omega
def lvS (many : Nat) : Nat := Lib.bitLen (many / 64)
theorem lvS_le {many : Nat} (h : many ≤ 2147483648) : lvS many ≤ 26 := by
  have e : (2 : Nat) ^ 26 = 67108864 := by decide
  exact Lib.bitLenAux_le 64 _ 26 (by omega)
theorem lvS_lt {many : Nat} (h : many ≤ 2147483648) : many < 2 ^ (6 + lvS many) := by
  have e : (2 : Nat) ^ 64 = 18446744073709551616 := by decide
  have := bitLen_lt 64 (many / 64) (by omega)
  rw [Nat.pow_add]
  show many < 2 ^ 6 * 2 ^ Lib.bitLenAux 64 (many / 64)
  omega
theorem MpP.more {W : World} {mb n m : Nat} {N : Nat × Nat → Option Nat} (h : MpP W mb n N) (hm : n ≤ m) : MpP W mb m N := by
  obtain ⟨D, ⟨es, clock, h0, h3, h4, h5⟩, h2⟩ := h.ex
  exact ⟨D, ⟨es, clock, h0, h3, Nat.le_trans h4 hm, h5⟩, h2⟩
theorem lkP_one : lkP [pz] = fun _ => none := by
  funext p
  unfold lkP
  exact if_neg fun h => h.2 (List.mem_singleton.1 h.1)
theorem prOk_one : PrOk [pz] := ⟨by simp, rfl⟩
theorem wkA_set7 {w : World} {wb : Nat} {h : WH} {lv l2 : Int} {pv mv : Value} (q : w.heap[wb]? = some (wkA h lv pv mv)) : (w.setCell ⟨wb, 7, none⟩ (.int .i64 l2)).heap[wb]? = some (wkA h l2 pv mv) := by
  unfold wkA at q ⊢
  have := Lib.heap_setCell_same (i := 7) q (.int .i64 l2)
  simpa using this
theorem wkA_set8 {w : World} {wb : Nat} {h : WH} {lv : Int} {pv p2 mv : Value} (q : w.heap[wb]? = some (wkA h lv pv mv)) : (w.setCell ⟨wb, 8, none⟩ p2).heap[wb]? = some (wkA h lv p2 mv) := by
  unfold wkA at q ⊢
  have := Lib.heap_setCell_same (i := 8) q p2
  simpa using this
theorem wkA_set9 {w : World} {wb : Nat} {h : WH} {lv : Int} {pv mv m2 : Value} (q : w.heap[wb]? = some (wkA h lv pv mv)) : (w.setCell ⟨wb, 9, none⟩ m2).heap[wb]? = some (wkA h lv pv m2) := by
  unfold wkA at q ⊢
  have := Lib.heap_setCell_same (i := 9) q m2
  simpa using this
theorem Fx.low {P Q : Nat → Prop} {a w : World} (h : Fx P a w) (hq : ∀ k, k < a.heap.size → P k → Q k) : Fx Q a w := ⟨h.os, h.tape, h.output, h.size, fun k hk hn => h.block k hk fun e => hn (hq k hk e)⟩
theorem grown_none_fx {Q : Nat → Prop} {a b : World} (h : a.grownBy b none) : Fx Q a b := ⟨h.os, h.tape, h.output, h.size, fun k hk _ => h.block k hk fun e => by cases e⟩
set_option maxRecDepth 100000 in
set_option maxHeartbeats 2000000 in
/-- a walk's sets begin, in a walker that was used before -/
theorem begin_used (w : World) (wb : Nat) (h : WH) (L gb gc mb : Nat) (P : Prs) (s : SeM w wb h L gb gc mb P) (many : Nat) (hm : many ≤ 2147483648) :
    Calls Tryd.prog 40 #[.pointer (some ⟨wb, 7, none⟩), .int .i64 (many : Int)] w fun e w' => e = .returned (.tuple #[]) ∧ Bx (SePost w wb h (lvS many) gb mb [pz] w') := by
  obtain ⟨n1, n2, n3⟩ := s.ne
  obtain ⟨l1, l2, l3⟩ := s.lt
  have HL : Bx (∀ W, Calls Tryd.prog 59 #[.int .u64 ((many : Int) / 64)] W fun e w' => e = .returned (.int .i64 (lvS many : Nat)) ∧ w' = W) := ⟨fun W => by
    have := Tryd.bits_Len ((many : Int) / 64) W (by omega) (by omega)
    rw [show ((many : Int) / 64).toNat = many / 64 by omega] at this
    exact this⟩
  obtain ⟨W1, hW1⟩ : ∃ W1, w.setCell ⟨wb, 7, none⟩ (.int .i64 (lvS many : Nat)) = W1 := ⟨_, rfl⟩
  have k1 : W1.heap[wb]? = some (wkA h (lvS many : Nat) (.slice (some ⟨gb, 0, none⟩) P.length gc) (.map (some mb))) := by rw [← hW1]; exact wkA_set7 s.wk
  have z1 : W1.heap.size = w.heap.size := by rw [← hW1]; simp
  have x1 : Fx (sOwn wb gb mb) w W1 := by rw [← hW1]; exact Fx.set (p := ⟨wb, 7, none⟩) (Fx.refl _ w) (.inl (.inl rfl)) _
  have y1 : Fx (· = wb) w W1 := by rw [← hW1]; exact Fx.set (P := (· = wb)) (p := ⟨wb, 7, none⟩) (Fx.refl _ w) (.inl rfl) _
  have o1 : W1.ownsRow 0 120 2 (.slice (some ⟨gb, 0, none⟩) P.length gc) P.length ([] ++ prC P) := own_same s.row fun g o hg ho => by
    simp only [Value.ownBlock, Option.some.injEq] at hg
    subst hg
    exact (y1.block gb l2 (fun e => n1 e.symm)).trans ho
  have o2 := owns_cut (m := 0) (xs := []) o1 rfl (Nat.zero_le _)
  have m1 : MpP W1 mb P.length (lkP P) := s.mp.same (y1.block mb l3 (fun e => n2 e.symm))
  have hcap : P.length ≤ gc := by
    rcases s.row.2 with ⟨q, _⟩ | ⟨g', cap, cur, q, _, _, q3, _⟩
    · cases q
    · simp only [Value.slice.injEq] at q
      obtain ⟨_, -, rfl⟩ := q
      exact q3
  obtain ⟨i0, hi0, hz0, hz1, hz2⟩ := info_parts infoPr
  obtain ⟨g, cc, W3, r1, r2, r3, r4, r5⟩ := app1 (t := 70) Tryd.underlying70 hi0 hz0 hz1 hz2 rfl (by decide) W1 0 _ 0 [] o2 #[.int .u64 0, .int .u64 0] rfl (by intro u hu; simp at hu; subst hu; rfl) (by unfold maxLen; omega) (by omega) (Nat.zero_le _)
  simp only [Nat.zero_add] at r1 r2
  simp only [Value.ownBlock, Option.some.injEq] at r3 r5
  have hgw : wb ≠ g := by rcases r5 with e | e <;> omega
  have hgm : mb ≠ g := by rcases r5 with e | e <;> omega
  have s3 := r3.size
  have hk3 : ∀ k, k < W1.heap.size → k ≠ gb → W3.heap[k]? = W1.heap[k]? := fun k hk hn => r3.block k hk fun e => hn (by cases e; rfl)
  have k3 := (hk3 wb (by omega) n1).trans k1
  have m3 : MpP W3 mb P.length (lkP P) := m1.same (hk3 mb (by omega) (fun e => n3 e.symm))
  obtain ⟨W4, hW4⟩ : ∃ W4, W3.setCell ⟨wb, 8, none⟩ (.slice (some ⟨g, 0, none⟩) 1 cc) = W4 := ⟨_, rfl⟩
  have k4 : W4.heap[wb]? = some (wkA h (lvS many : Nat) (.slice (some ⟨g, 0, none⟩) 1 cc) (.map (some mb))) := by rw [← hW4]; exact wkA_set8 k3
  have hk4 : ∀ k, k ≠ wb → W4.heap[k]? = W3.heap[k]? := fun k hk => by rw [← hW4]; exact Below.heap_setCell W3 ⟨wb, 8, none⟩ _ k hk
  have m4 : MpP W4 mb P.length (lkP P) := m3.same (hk4 mb (fun e => n2 e.symm))
  obtain ⟨W5, run5, m5, g5⟩ := m4.clear
  have s43 : W4.heap.size = W3.heap.size := by rw [← hW4]; simp
  have h54 : ∀ k, k < W4.heap.size → k ≠ mb → W5.heap[k]? = W4.heap[k]? := fun k hk hn => g5.block k hk fun e => hn (by cases e; rfl)
  have hg3 := (owns_block r2 (g := g) rfl).2
  have k5 := (h54 wb (by omega) n2).trans k4
  have HF : Bx (SePost w wb h (lvS many) gb mb [pz] W5) := ⟨g, cc, ⟨k5, own_same r2 fun y ob hy ho => by
      simp only [Value.ownBlock, Option.some.injEq] at hy
      subst hy
      exact (h54 g (by omega) (fun e => hgm e.symm)).trans ((hk4 g (fun e => hgw e.symm)).trans ho), by rw [lkP_one]; exact m5.more (Nat.zero_le _), prOk_one, fun p hp => by rw [List.mem_singleton.1 hp]; exact ⟨(by decide : (0 : Nat) < 18446744073709551616), (by decide : (0 : Nat) < 18446744073709551616)⟩, by simp⟩,
    x1.trans ((grown_fx r3 (.inr (.inl rfl))).trans ((by rw [← hW4]; exact Fx.set (p := ⟨wb, 8, none⟩) (Fx.refl _ W3) (.inl (.inl rfl)) _ : Fx (sOwn wb gb mb) W3 W4).trans (grown_fx g5 (.inr (.inr rfl))))), r5.elim (fun e => .inl e.symm) fun e => .inr (by omega)⟩
  have k0 := s.wk
  unfold wkA at k0 k1 k3 k4
  have a7 : w.cell? ⟨wb, 7, none⟩ = some (.int .i64 L) := cell_blk k0 rfl
  have f7 : w.frozen? ⟨wb, 7, none⟩ = false := frz_blk k0
  have b8 : W1.cell? ⟨wb, 8, none⟩ = some (.slice (some ⟨gb, 0, none⟩) P.length gc) := cell_blk k1 rfl
  have c8 : W3.cell? ⟨wb, 8, none⟩ = some (.slice (some ⟨gb, 0, none⟩) P.length gc) := cell_blk k3 rfl
  have g8 : W3.frozen? ⟨wb, 8, none⟩ = false := frz_blk k3
  have d9 : W4.cell? ⟨wb, 9, none⟩ = some (.map (some mb)) := cell_blk k4 rfl
  have hmi := fun W => map_is W (some mb)
  generalize lvS many = LV at *
  clear s n1 n2 n3 l1 l2 l3 k0 k1 k3 k4 k5 x1 y1 o1 o2 m1 m3 m4 m5 g5 r2 r3 r4 r5 hi0 hz0 hz1 hz2 hgw hgm hk3 hk4 h54 hg3 s43 s3 z1
  go_enter Tryd.func40, Tryd.ntmps40
  go_wp2_with (first
    | (go_at_call 59; refine (HL.out _).mono ?_; rintro e w1 ⟨rfl, rfl⟩)
    | (at_builtin; refine wpList_appI rfl (.tmp 16) (.tmp 18) 70 rfl rfl rfl r1 ?_; clear r1)
    | (at_builtin; refine wpList_clrS rfl (.tmp 34) 71 rfl rfl run5 ?_; clear run5))
  go_returns
  exact ⟨rfl, HF⟩
set_option maxRecDepth 100000 in
set_option maxHeartbeats 2000000 in
/-- a walk's sets begin, in a new walker -/
theorem begin_fresh (w : World) (wb : Nat) (h : WH) (lv : Int) (hwk : w.heap[wb]? = some (wkA h lv (.slice none 0 0) (.map none))) (many : Nat) (hm : many ≤ 2147483648) :
    Calls Tryd.prog 40 #[.pointer (some ⟨wb, 7, none⟩), .int .i64 (many : Int)] w fun e w' => e = .returned (.tuple #[]) ∧ Bx (∃ gb gc mb, SeM w' wb h (lvS many) gb gc mb [pz] ∧ Fx (· = wb) w w' ∧ w.heap.size ≤ gb ∧ w.heap.size ≤ mb) := by
  have l1 := heap_lt hwk
  have HL : Bx (∀ W, Calls Tryd.prog 59 #[.int .u64 ((many : Int) / 64)] W fun e w' => e = .returned (.int .i64 (lvS many : Nat)) ∧ w' = W) := ⟨fun W => by
    have := Tryd.bits_Len ((many : Int) / 64) W (by omega) (by omega)
    rw [show ((many : Int) / 64).toNat = many / 64 by omega] at this
    exact this⟩
  obtain ⟨W1, hW1⟩ : ∃ W1, w.setCell ⟨wb, 7, none⟩ (.int .i64 (lvS many : Nat)) = W1 := ⟨_, rfl⟩
  have k1 : W1.heap[wb]? = some (wkA h (lvS many : Nat) (.slice none 0 0) (.map none)) := by rw [← hW1]; exact wkA_set7 hwk
  have z1 : W1.heap.size = w.heap.size := by rw [← hW1]; simp
  have y1 : Fx (· = wb) w W1 := by rw [← hW1]; exact Fx.set (P := (· = wb)) (p := ⟨wb, 7, none⟩) (Fx.refl _ w) (.inl rfl) _
  obtain ⟨i0, hi0, hz0, hz1, hz2⟩ := info_parts infoPr
  obtain ⟨g, cc, W3, r1, r2, r3, r4, r5⟩ := app1 (t := 70) Tryd.underlying70 hi0 hz0 hz1 hz2 rfl (by decide) W1 0 (.slice none 0 0) 0 [] ⟨rfl, .inl ⟨rfl, rfl⟩⟩ #[.int .u64 0, .int .u64 0] rfl (by intro u hu; simp at hu; subst hu; rfl) (by unfold maxLen; omega) (by omega) (Nat.zero_le _)
  simp only [Nat.zero_add] at r1 r2
  have hgg : W1.heap.size ≤ g := by
    rcases r5 with e | e
    · cases e
    · exact e
  have hgw : wb ≠ g := by omega
  have s3 := r3.size
  have hk3 : ∀ k, k < W1.heap.size → W3.heap[k]? = W1.heap[k]? := fun k hk => r3.block k hk fun e => by cases e
  have k3 := (hk3 wb (by omega)).trans k1
  obtain ⟨W4, hW4⟩ : ∃ W4, W3.setCell ⟨wb, 8, none⟩ (.slice (some ⟨g, 0, none⟩) 1 cc) = W4 := ⟨_, rfl⟩
  have k4 : W4.heap[wb]? = some (wkA h (lvS many : Nat) (.slice (some ⟨g, 0, none⟩) 1 cc) (.map none)) := by rw [← hW4]; exact wkA_set8 k3
  have hk4 : ∀ k, k ≠ wb → W4.heap[k]? = W3.heap[k]? := fun k hk => by rw [← hW4]; exact Below.heap_setCell W3 ⟨wb, 8, none⟩ _ k hk
  have s43 : W4.heap.size = W3.heap.size := by rw [← hW4]; simp
  obtain ⟨M, hM⟩ : ∃ M, W4.heap.size = M := ⟨_, rfl⟩
  obtain ⟨W5, hW5⟩ : ∃ W5, W4.alloc (.map #[] 0) = W5 := ⟨_, rfl⟩
  have b5 : Below M W4 W5 := by rw [← hW5, ← hM]; exact below1 _ _
  have k5 := (b5.block wb (by omega)).trans k4
  have m5 : MpP W5 M 0 (fun _ => none) := by rw [← hW5, ← hM]; exact mp_new W4
  obtain ⟨W6, hW6⟩ : ∃ W6, W5.setCell ⟨wb, 9, none⟩ (.map (some M)) = W6 := ⟨_, rfl⟩
  have k6 : W6.heap[wb]? = some (wkA h (lvS many : Nat) (.slice (some ⟨g, 0, none⟩) 1 cc) (.map (some M))) := by rw [← hW6]; exact wkA_set9 k5
  have hk6 : ∀ k, k ≠ wb → W6.heap[k]? = W5.heap[k]? := fun k hk => by rw [← hW6]; exact Below.heap_setCell W5 ⟨wb, 9, none⟩ _ k hk
  have m6 : MpP W6 M 0 (fun _ => none) := m5.same (hk6 M (by omega))
  obtain ⟨W7, run7, m7, g7⟩ := m6.clear
  have s6 : W6.heap.size = M + 1 := by rw [← hW6, ← hW5]; simp [hM]
  have h7 : ∀ k, k < W6.heap.size → k ≠ M → W7.heap[k]? = W6.heap[k]? := fun k hk hn => g7.block k hk fun e => hn (by cases e; rfl)
  have hg3 := (owns_block r2 (g := g) rfl).2
  have k7 := (h7 wb (by omega) (by omega)).trans k6
  have x7 : Fx (fun k => k = wb ∨ k = M) w W7 := (Fx.low y1 fun k hk e => .inl e).trans ((grown_none_fx r3).trans ((by rw [← hW4]; exact Fx.set (p := ⟨wb, 8, none⟩) (Fx.refl _ W3) (.inl (.inl rfl)) _ : Fx (fun k => k = wb ∨ k = M) W3 W4).trans ((Fx.of (hM.symm ▸ b5)).trans ((by rw [← hW6]; exact Fx.set (p := ⟨wb, 9, none⟩) (Fx.refl _ W5) (.inl (.inl rfl)) _ : Fx (fun k => k = wb ∨ k = M) W5 W6).trans (grown_fx g7 (.inr rfl))))))
  have HF : Bx (∃ gb gc mb, SeM W7 wb h (lvS many) gb gc mb [pz] ∧ Fx (· = wb) w W7 ∧ w.heap.size ≤ gb ∧ w.heap.size ≤ mb) := ⟨g, cc, M, ⟨k7, own_same r2 fun y ob hy ho => by
      simp only [Value.ownBlock, Option.some.injEq] at hy
      subst hy
      exact (h7 g (by omega) (by omega)).trans ((hk6 g (fun e => hgw e.symm)).trans ((b5.block g (by omega)).trans ((hk4 g (fun e => hgw e.symm)).trans ho))), by rw [lkP_one]; exact m7.more (Nat.zero_le _), prOk_one, fun p hp => by rw [List.mem_singleton.1 hp]; exact ⟨(by decide : (0 : Nat) < 18446744073709551616), (by decide : (0 : Nat) < 18446744073709551616)⟩, by simp⟩,
    x7.low fun k hk e => e.elim id fun e => by omega, by omega, by omega⟩
  have k0 := hwk
  unfold wkA at k0 k1 k3 k4 k5 k6
  have a7 : w.cell? ⟨wb, 7, none⟩ = some (.int .i64 lv) := cell_blk k0 rfl
  have f7 : w.frozen? ⟨wb, 7, none⟩ = false := frz_blk k0
  have b8 : W1.cell? ⟨wb, 8, none⟩ = some (.slice none 0 0) := cell_blk k1 rfl
  have c8 : W3.cell? ⟨wb, 8, none⟩ = some (.slice none 0 0) := cell_blk k3 rfl
  have g8 : W3.frozen? ⟨wb, 8, none⟩ = false := frz_blk k3
  have d9 : W4.cell? ⟨wb, 9, none⟩ = some (.map none) := cell_blk k4 rfl
  have e9 : W5.cell? ⟨wb, 9, none⟩ = some (.map none) := cell_blk k5 rfl
  have i9 : W5.frozen? ⟨wb, 9, none⟩ = false := frz_blk k5
  have l9 : W6.cell? ⟨wb, 9, none⟩ = some (.map (some M)) := cell_blk k6 rfl
  have hmi := fun W => map_is W none
  have hmm := @run_makeMap Tryd.prog
  generalize lvS many = LV at *
  clear l1 hwk k0 k1 k3 k4 k5 k6 k7 x7 y1 b5 m5 m6 m7 g7 r2 r3 r4 r5 hi0 hz0 hz1 hz2 hgw hgg hk3 hk4 hk6 h7 hg3 s43 s3 s6 z1
  go_enter Tryd.func40, Tryd.ntmps40
  go_wp2_with (first
    | (go_at_call 59; refine (HL.out _).mono ?_; rintro e w1 ⟨rfl, rfl⟩)
    | (at_builtin; refine wpList_appI rfl (.tmp 16) (.tmp 18) 70 rfl rfl rfl r1 ?_; clear r1)
    | (at_builtin; refine wpList_clrS rfl (.tmp 34) 71 rfl rfl run7 ?_; clear run7))
  go_returns
  exact ⟨rfl, HF⟩
end Go.Proofs.YtadmpgegolmkgaaDoor
