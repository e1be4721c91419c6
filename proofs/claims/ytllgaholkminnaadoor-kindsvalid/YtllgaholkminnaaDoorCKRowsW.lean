import Derived.Test.YtllgaholkminnaaDoorCKRow
namespace Go.Proofs.YtllgaholkminnaaDoor
open Go.RowKit
set_option linter.unusedVariables false
set_option linter.unusedSimpArgs false

theorem rowsGo_skip {l : List Nd} {of : Nat → Int} {k : Nat} (h : rowKindI (kdN l k) = 0) : rowsGo l of (k + 1) = rowsGo l of k := by rw [rowsGo, if_pos h, List.append_nil]
theorem rowsGo_put {l : List Nd} {of : Nat → Int} {k : Nat} (h : rowKindI (kdN l k) ≠ 0) : rowsGo l of (k + 1) = rowsGo l of k ++ [⟨rowKindI (kdN l k), (ndN l k).kids.map fun k => of k.toNat, (ndN l k).num == 1⟩] := by rw [rowsGo, if_neg h]

set_option maxRecDepth 100000 in
set_option maxHeartbeats 4000000 in
theorem rows_any (w : World) (B nb no nc ob : Nat) (l : List Nd) (of : Nat → Int) (hn : Nodes w B nb no nc l) (hof : IRow w ob (tabL l.length of)) (hki : KidsIn l) (hl31 : l.length ≤ 2147483647) (hkl : ∀ i, i < l.length → (ndN l i).kids.length ≤ 2147483647) :
    Calls Tryd.prog 30 #[.slice (some ⟨nb, no, none⟩) l.length nc, .slice (some ⟨ob, 0, none⟩) l.length l.length] w fun e w' => ∃ v, e = .returned v ∧ Bx (TysO w' w.heap.size v (rowsGo l of l.length) ∧ Below w.heap.size w w') := by
  have hob := hof.lt
  have HN : Bx _ := ⟨hn⟩
  have HOF : Bx _ := ⟨hof⟩
  have HKI : Bx _ := ⟨hki⟩
  have HKL : Bx _ := ⟨hkl⟩
  have hnb := hn.lo
  have hB := hn.hi
  have HRK : Bx _ := ⟨rowKind_any⟩
  obtain ⟨i0, hi, hz0, hz1, hz2⟩ := info_parts infoTy
  clear hn hof hki hkl
  go_enter Tryd.func30, Tryd.ntmps30
  go_wp2
  go_loopw [14, 5] (fun x v wr => ∃ (k : Nat) (vv : Value), k ≤ l.length ∧ x = .int .i64 k ∧ vv = v ∧ Bx (TysO wr w.heap.size vv (rowsGo l of k) ∧ Below w.heap.size w wr)) (fun x _ _ => l.length - (intOf x).toNat)
  case atStart => exact ⟨0, _, Nat.zero_le _, rfl, rfl, ⟨tysO_nil _ _, Below.refl _ _⟩⟩
  case round =>
    obtain ⟨k, vv, hk, rfl, rfl, HS⟩ := hrel
    by_cases hlt : k < l.length
    · have hsz := HS.out.2.size
      obtain ⟨ka, kc, hnd⟩ := (HN.out.below (HS.out.2.mono hB)).at_ k hlt
      obtain ⟨c0, c1, c2, c3, c4⟩ := hnd.five
      by_cases hrk : rowKindI (kdN l k) = 0
      · have HX : Bx (∀ o, TysO (wr.alloc o) w.heap.size vv (rowsGo l of (k + 1)) ∧ Below w.heap.size w (wr.alloc o)) := ⟨fun o => ⟨by rw [rowsGo_skip hrk]; exact HS.out.1.ext (below1 _ _), HS.out.2.trans ((below1 _ _).mono hsz)⟩⟩
        unfold kdN at hrk
        have HRK2 : Bx (∀ W, Calls Tryd.prog 33 #[.int .i64 (ndN l k).kind] W fun e w' => e = .returned (.int .i64 0) ∧ W = w') := ⟨fun W => by have := HRK.out W (ndN l k).kind; rw [hrk] at this; exact this⟩
        clear hnd HS hrk
        generalize (ndN l k).kids.length = nk at *
        generalize (ndN l k).kind = kd at *
        generalize (ndN l k).pos = ps at *
        generalize (ndN l k).name = nm at *
        generalize (ndN l k).num = num at *
        go_wp2_with (first | (go_at_call 33; refine Calls.mono (HRK2.out _) ?_; rintro e w2 ⟨rfl, rfl⟩))
        go_roundw
        case rel => exact ⟨k + 1, _, by omega, by go_num, rfl, ⟨HX.out _⟩⟩
        case measure => simp [intOf]; omega
      · have hkk := HKL.out k hlt
        have HP := rowsGo_put (of := of) hrk
        have hle := rowsGo_le l of k
        have HKN : Bx (∀ p (h : p < (ndN l k).kids.length), 0 ≤ (ndN l k).kids[p] ∧ (ndN l k).kids[p] < (l.length : Int)) := ⟨fun p h => HKI.out k hlt hrk _ (List.getElem_mem h)⟩
        obtain ⟨z, hz⟩ : ∃ z, z = rowKindI (ndN l k).kind := ⟨_, rfl⟩
        have HRK2 : Bx (∀ W, Calls Tryd.prog 33 #[.int .i64 (ndN l k).kind] W fun e w' => e = .returned (.int .i64 (z : Nat)) ∧ W = w') := ⟨fun W => by rw [hz]; exact HRK.out W (ndN l k).kind⟩
        unfold kdN at hrk HP
        rw [← hz] at hrk HP
        have hz2' : ((z : Int) == 0) = false := by rw [beq_eq_false_iff_ne]; omega
        have HK : Bx _ := ⟨hnd.kids⟩
        clear hrk hz hnd
        generalize (ndN l k).kind = kd at *
        generalize (ndN l k).pos = ps at *
        generalize (ndN l k).name = nm at *
        generalize hnum : (ndN l k).num = num at *
        generalize (ndN l k).kids = ks at *
        obtain ⟨W1, hW1⟩ : ∃ W1, W1 = wr.alloc (.cells #[.int .i64 kd, .int .i64 ps, .slice ka ks.length kc, .string nm, .int .i64 num] 37) := ⟨_, rfl⟩
        have hs1 : W1.heap.size = wr.heap.size + 1 := by rw [hW1]; simp
        have hmk := make_ints W1 ks.length hkk
        rw [hs1] at hmk
        have HW1 : Bx (TysO W1 w.heap.size vv (rowsGo l of k) ∧ Below w.heap.size w W1) := ⟨by rw [hW1]; exact HS.out.1.ext (below1 _ _), by rw [hW1]; exact HS.out.2.trans ((below1 _ _).mono hsz)⟩
        have HW2 : Bx (Below W1.heap.size W1 (W1.alloc (.cells (zeros ks.length) 3)) ∧ IRow (W1.alloc (.cells (zeros ks.length) 3)) (wr.heap.size + 1) (tabL ks.length (kidF of ks 0))) := ⟨below1 _ _, by
          have := irow_zeros W1 ks.length
          rw [hs1] at this
          have e : tabL ks.length (fun _ => (0 : Int)) = tabL ks.length (kidF of ks 0) := List.map_congr_left fun i _ => by simp [kidF]
          rw [← e]
          exact this⟩
        have n2 : W1.cell? ⟨wr.heap.size, 2, none⟩ = some (.slice ka ks.length kc) := by rw [hW1]; exact (cell_of_row _ _ 2 _ _ _ (heap_alloc_new wr _)).trans rfl
        have n4 : W1.cell? ⟨wr.heap.size, 4, none⟩ = some (.int .i64 num) := by rw [hW1]; exact (cell_of_row _ _ 4 _ _ _ (heap_alloc_new wr _)).trans rfl
        have HN4 : Bx (∀ W, Below W1.heap.size W1 W → W.cell? ⟨wr.heap.size, 4, none⟩ = some (.int .i64 num)) := ⟨fun W hb => by rw [hb.cell (p := ⟨wr.heap.size, 4, none⟩) (by show wr.heap.size < _; omega)]; exact n4⟩
        have HKC : Bx (∀ W, Below W1.heap.size W1 W → ∀ p (h : p < ks.length), ∃ b o, ka = some ⟨b, o, none⟩ ∧ W.cell? ⟨b, o + p, none⟩ = some (.int .i64 ks[p])) := ⟨fun W hb p hp => by
          obtain ⟨a, cap, he, h1, h2, h3⟩ := HK.out.ex
          simp only [Value.slice.injEq, true_and] at he
          obtain ⟨rfl, rfl⟩ := he
          obtain ⟨b, o, rfl, hbB, hcell⟩ := h3 (by omega)
          refine ⟨b, o, rfl, ?_⟩
          rw [hb.cell (p := ⟨b, o + p, none⟩) (by show b < _; omega), hW1, (below1 wr _).cell (p := ⟨b, o + p, none⟩) (by show b < _; omega)]
          exact hcell p hp⟩
        have hcap : ks.length ≤ kc := by
          obtain ⟨a, cap, he, h1, h2, h3⟩ := HK.out.ex
          simp only [Value.slice.injEq, true_and] at he
          omega
        have HOC : Bx (∀ W, Below W1.heap.size W1 W → ∀ i, i < l.length → W.cell? ⟨ob, i, none⟩ = some (.int .i64 (of i))) := ⟨fun W hb i hi => by
          have := (HOF.out.same (W' := W) (by rw [hb.block ob (by omega), hW1, (below1 wr _).block ob (by omega), HS.out.2.block ob hob])).cell i (by rw [tabL_len]; exact hi)
          rw [tabL_at _ _ _ hi] at this
          exact this⟩
        clear HS HK
        have HPB : Bx _ := ⟨HP⟩
        clear HP hnum
        subst hW1
        go_wp2_with (first | (go_at_call 33; refine Calls.mono (HRK2.out _) ?_; rintro e w2 ⟨rfl, rfl⟩))
        generalize wr.alloc (.cells #[.int .i64 kd, .int .i64 ps, .slice ka ks.length kc, .string nm, .int .i64 num] 37) = W1 at *
        generalize wr.heap.size = S1 at *
        clear c0 c1 c2 c3 c4 n2 n4 hmk HRK2
        go_loopw [30] (fun q wr2 => ∃ p : Nat, p ≤ ks.length ∧ q = .int .i64 p ∧ Bx (Below W1.heap.size W1 wr2 ∧ IRow wr2 (S1 + 1) (tabL ks.length (kidF of ks p)))) (fun q _ => ks.length - (intOf q).toNat)
        case atStart => exact ⟨0, Nat.zero_le _, rfl, HW2⟩
        case round =>
          obtain ⟨p, hp, rfl, HQ⟩ := hrel
          clear HW2
          by_cases hplt : p < ks.length
          · obtain ⟨b, o, rfl, g1⟩ := HKC.out wr HQ.out.1 p hplt
            obtain ⟨e1, e2⟩ := HKN.out p hplt
            obtain ⟨m, hm⟩ : ∃ m : Nat, ks[p] = (m : Int) := ⟨ks[p].toNat, by omega⟩
            have hml : m < l.length := by omega
            rw [hm] at g1
            have g2 := HOC.out wr HQ.out.1 m hml
            have g3 := HQ.out.2.cell p (by rw [tabL_len]; exact hplt)
            have g4 := HQ.out.2.frozen p
            have g5 := HQ.out.2.lt
            have HX : Bx (Below W1.heap.size W1 (wr.setCell ⟨S1 + 1, p, none⟩ (.int .i64 (of m))) ∧ IRow (wr.setCell ⟨S1 + 1, p, none⟩ (.int .i64 (of m))) (S1 + 1) (tabL ks.length (kidF of ks (p + 1)))) := ⟨Below.setCell (p := ⟨S1 + 1, p, none⟩) HQ.out.1 (by show W1.heap.size ≤ S1 + 1; omega) _, by
              have := HQ.out.2.set p (of m) (by rw [tabL_len]; exact hplt)
              rw [tabL_set ks.length (kidF of ks p) (kidF of ks (p + 1)) p (of m) (by unfold kidF; rw [if_pos (by omega), List.getD_eq_getElem?_getD, List.getElem?_eq_getElem hplt]; simp [hm]) (fun i _ hi => kidF_other hi)] at this
              exact this⟩
            generalize of m = z2 at *
            generalize (tabL ks.length (kidF of ks p)).getD p 0 = old at *
            clear HQ hm e1 e2
            go_wp2
            go_roundw
            case rel => exact ⟨p + 1, by omega, by go_num, HX⟩
            case measure => simp [intOf]; omega
          · have hpe : p = ks.length := by omega
            subst hpe
            have g1 := HN4.out wr HQ.out.1
            have hlk : (ks.map fun k => of k.toNat).length = ks.length := by simp
            have HIR : Bx (IRow wr (S1 + 1) (ks.map fun k => of k.toNat)) := ⟨by have := HQ.out.2; rw [kidF_end] at this; exact this⟩
            have HT1 : Bx (TysO wr w.heap.size vv (rowsGo l of k) ∧ Below w.heap.size w wr) := ⟨HW1.out.1.ext HQ.out.1, HW1.out.2.trans (HQ.out.1.mono HW1.out.2.size)⟩
            have hsz1 := HW1.out.2.size
            have hsz2 := HQ.out.1.size
            have HPU : Bx (∀ g2 cp2 w8, (wr.alloc (.cells #[.int .i64 (z : Nat), .slice (some ⟨S1 + 1, 0, none⟩) ks.length ks.length, .bool (num == 1)] 32)).grownBy w8 vv.ownBlock → (∀ cs, wr.ownsRow w.heap.size 32 3 vv (rowsGo l of k).length cs → w8.ownsRow w.heap.size 32 3 (.slice (some ⟨g2, 0, none⟩) ((rowsGo l of k).length + 1) cp2) ((rowsGo l of k).length + 1) (cs ++ [.int .i64 (z : Nat), .slice (some ⟨S1 + 1, 0, none⟩) ks.length ks.length, .bool (num == 1)])) → TysO w8 w.heap.size (.slice (some ⟨g2, 0, none⟩) ((rowsGo l of k).length + 1) cp2) (rowsGo l of (k + 1)) ∧ Below w.heap.size w w8) := ⟨fun g2 cp2 w8 hg ho => by
              obtain ⟨ks2, q1, q2, q3⟩ := HT1.out.1.ex
              refine ⟨?_, ?_⟩
              · rw [HPB.out]
                refine HT1.out.1.push (r := ⟨z, ks.map fun k => of k.toNat, num == 1⟩) (g0 := S1 + 1) HIR.out (by omega) hg (fun cs hcs => ?_)
                have := ho cs hcs
                unfold tyC
                simp only [hlk]
                exact this
              · exact (HT1.out.2.trans ((below1 _ _).mono (by omega))).grown hg (by simp; omega) (fun x hx => (owns_block q2 hx).1)⟩
            obtain ⟨ks2, q1, q2, q3⟩ := HT1.out.1.ex
            have HOW : Bx ((wr.alloc (.cells #[.int .i64 (z : Nat), .slice (some ⟨S1 + 1, 0, none⟩) ks.length ks.length, .bool (num == 1)] 32)).ownsRow w.heap.size 32 3 vv (rowsGo l of k).length (tysC (rowsGo l of k) ks2)) := ⟨owns_same q2 fun g _ hg => (below1 wr _).block g hg⟩
            have HUN : Bx (∀ cs, wr.ownsRow w.heap.size 32 3 vv (rowsGo l of k).length cs → cs = tysC (rowsGo l of k) ks2) := ⟨fun cs hcs => by
              rcases hcs with ⟨a1, ⟨_, a3⟩ | ⟨g, cp, cur, a2, _, a4, _, _, _, a5⟩⟩
              · have b1 := q2.1
                rw [a3] at a1 b1
                rw [List.eq_nil_of_length_eq_zero (by omega : cs.length = 0), List.eq_nil_of_length_eq_zero (by omega : (tysC (rowsGo l of k) ks2).length = 0)]
              · rcases q2.2 with ⟨b2, b3⟩ | ⟨g', cp', cur', b2, _, b4, _, _, _, b5⟩
                · rw [a2] at b2
                  simp at b2
                · rw [a2] at b2
                  simp only [Value.slice.injEq, Option.some.injEq, Addr.mk.injEq, and_true, true_and] at b2
                  obtain ⟨rfl, rfl⟩ := b2
                  rw [a4] at b4
                  simp only [Option.some.injEq, Obj.cells.injEq, and_true] at b4
                  obtain ⟨rfl, _⟩ := b4
                  rw [← a5, ← b5]⟩
            clear HQ HIR HT1 q1 q2 q3 HW1 HPB
            generalize hlr : (rowsGo l of k).length = lr at *
            generalize tysC (rowsGo l of k) ks2 = tc at *
            go_wp2_with (first
              | (at_builtin; refine wpList_append_lies _ rfl (.tmp 43) (.tmp 50) 22 rfl w.heap.size 32 i0 zeroTy 3 40 Tryd.underlying22 hi hz0 hz1 hz2 rfl (by decide) vv lr tc rfl HOW.out ⟨wr.heap.size, 0, none⟩ 1 1 [.int .i64 (z : Nat), .slice (some ⟨S1 + 1, 0, none⟩) ks.length ks.length, .bool (num == 1)] rfl rfl (ty_news _ _ rfl _ _ _) (ty_one _ _ _ _ _) (by decide) (by unfold maxLen; omega) (by omega) (by simp; omega) (wr.heap.size + 1) (by simp) ?_; intro gg cg w8 hown hgrow hat hlt8; have LN := HPU.out gg cg w8 hgrow (fun cs hcs => by rw [HUN.out cs hcs]; exact hown); have LNB : Bx _ := ⟨LN⟩; clear hgrow hat hown LN))
            go_roundw
            case rel => exact ⟨k + 1, _, by omega, by go_num, rfl, LNB⟩
            case measure => simp [intOf]; omega
    · have hke : k = l.length := by omega
      subst hke
      go_wp2
      go_ret
      exact ⟨vv, rfl, HS⟩
end Go.Proofs.YtllgaholkminnaaDoor
