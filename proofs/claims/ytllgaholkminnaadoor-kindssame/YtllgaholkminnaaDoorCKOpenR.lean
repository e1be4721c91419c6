import Derived.Test.YtllgaholkminnaaDoorCKSr
import Derived.Test.YtllgaholkminnaaDoorCKLeaf
import Derived.Test.YtllgaholkminnaaDoorCKEx
namespace Go.Proofs.YtllgaholkminnaaDoor
open Go.RowKit
set_option linter.unusedVariables false
set_option linter.unusedSimpArgs false

theorem leaf_at {w : World} {B nb no nc : Nat} {l : List Nd} (hn : Nodes w B nb no nc l) {m : Nat} (hm : m < l.length) (h3 : kdN l m ≠ 3) (h5 : kdN l m ≠ 5) (sb : Nat) : LeafAt w w.heap.size sb (.slice (some ⟨nb, no, none⟩) l.length nc) m := by
  intro W hb hc k
  obtain ⟨ka, kc, hnd⟩ := hn.at_ m hm
  exact leads_leaf W sb nb no nc l.length m _ kc _ _ _ k ka _ hc ((hnd.below (hb.mono hn.hi) hn.lo).five) hm h3 h5
theorem sr_of {w W : World} {sb wb bb rb n : Nat} {lV mV : Value} (hb : Below w.heap.size w W) (hsz : W.heap.size = w.heap.size + 4) (q0 : W.heap[sb]? = some (srO lV mV wb bb rb n 0 (.slice none 0 0) (.slice none 0 0))) (q1 : W.heap[wb]? = some (.cells (zeros n) 3 (0, 0))) (q2 : W.heap[bb]? = some (.cells (zeros n) 3 (0, 0))) (q3 : W.heap[rb]? = some (.cells (falses n) 4 (0, 0)))
    (hr : w.heap.size ≤ sb ∧ w.heap.size ≤ wb ∧ w.heap.size ≤ bb ∧ w.heap.size ≤ rb) (hne : sb ≠ wb ∧ sb ≠ bb ∧ sb ≠ rb ∧ wb ≠ bb ∧ wb ≠ rb ∧ bb ≠ rb) : SrS w W w.heap.size (w.heap.size + 4) sb wb bb rb lV mV n 0 (tabL n fun _ => 0) (tabL n fun _ => 0) (.slice none 0 0) (.slice none 0 0) [] [] := by
  have z : ∀ x, W.heap[x]? = some (.cells (zeros n) 3 (0, 0)) → IRow W x (tabL n fun _ => 0) := fun x hx => by
    refine ⟨zeros n, hx, by simp [zeros, madeCells, tabL], fun j hj => ?_⟩
    rw [tabL_len] at hj
    rw [tabL_at _ _ _ hj]
    simp [zeros, madeCells, hj, Nat.mod_one]
  have lt : ∀ {x o}, W.heap[x]? = some o → x < w.heap.size + 4 := fun h => by rw [← hsz]; exact (Array.getElem?_eq_some_iff.1 h).1
  refine ⟨hb, q0, z _ q1, tabL_len _ _, z _ q2, tabL_len _ _, ⟨falses n, q3, by simp [falses, madeCells], fun j hj => by simp [falses, madeCells, hj, Nat.mod_one]⟩, World.ownsRow_nil _ _ _ _, World.ownsRow_nil _ _ _ _, hne.1, hne.2.1, hne.2.2.1, hne.2.2.2.1, hne.2.2.2.2.1, hne.2.2.2.2.2, lt q0, lt q1, lt q2, lt q3, hr.1, hr.2.1, hr.2.2.1, hr.2.2.2, by omega⟩
theorem four (w : World) (o0 o1 o2 o3 : Obj) : Below w.heap.size w ((((w.alloc o0).alloc o1).alloc o2).alloc o3).drew ∧ ((((w.alloc o0).alloc o1).alloc o2).alloc o3).drew.heap.size = w.heap.size + 4 ∧ ((((w.alloc o0).alloc o1).alloc o2).alloc o3).drew.heap[w.heap.size]? = some o0 ∧ ((((w.alloc o0).alloc o1).alloc o2).alloc o3).drew.heap[w.heap.size + 1]? = some o1 ∧ ((((w.alloc o0).alloc o1).alloc o2).alloc o3).drew.heap[w.heap.size + 1 + 1]? = some o2 ∧ ((((w.alloc o0).alloc o1).alloc o2).alloc o3).drew.heap[w.heap.size + 1 + 1 + 1]? = some o3 := by
  have s1 : (w.alloc o0).heap.size = w.heap.size + 1 := by simp
  have s2 : ((w.alloc o0).alloc o1).heap.size = w.heap.size + 1 + 1 := by simp
  have s3 : (((w.alloc o0).alloc o1).alloc o2).heap.size = w.heap.size + 1 + 1 + 1 := by simp
  have b3 := below1 (((w.alloc o0).alloc o1).alloc o2) o3
  have b2 := below1 ((w.alloc o0).alloc o1) o2
  have b1 := below1 (w.alloc o0) o1
  refine ⟨(((below1 w o0).trans (b1.mono (by omega))).trans ((b2.mono (by omega)).trans (b3.mono (by omega)))).drew, by show ((((w.alloc o0).alloc o1).alloc o2).alloc o3).heap.size = _; simp, ?_, ?_, ?_, ?_⟩
  · show ((((w.alloc o0).alloc o1).alloc o2).alloc o3).heap[w.heap.size]? = _
    rw [b3.block _ (by omega), b2.block _ (by omega), b1.block _ (by omega)]
    exact heap_alloc_new w o0
  · show ((((w.alloc o0).alloc o1).alloc o2).alloc o3).heap[w.heap.size + 1]? = _
    rw [b3.block _ (by omega), b2.block _ (by omega), ← s1]
    exact heap_alloc_new _ o1
  · show ((((w.alloc o0).alloc o1).alloc o2).alloc o3).heap[w.heap.size + 1 + 1]? = _
    rw [b3.block _ (by omega), ← s2]
    exact heap_alloc_new _ o2
  · show ((((w.alloc o0).alloc o1).alloc o2).alloc o3).heap[w.heap.size + 1 + 1 + 1]? = _
    rw [← s3]
    exact heap_alloc_new _ o3

theorem four0 (w : World) (o0 o1 o2 o3 : Obj) : ((((w.alloc o0).alloc o1).alloc o2).alloc o3).drew.heap[w.heap.size]? = some o0 := (four w o0 o1 o2 o3).2.2.1
theorem four1 (w : World) (o0 o1 o2 o3 : Obj) : ((((w.alloc o0).alloc o1).alloc o2).alloc o3).drew.heap[w.heap.size + 1]? = some o1 := (four w o0 o1 o2 o3).2.2.2.1
theorem four2 (w : World) (o0 o1 o2 o3 : Obj) : ((((w.alloc o0).alloc o1).alloc o2).alloc o3).drew.heap[w.heap.size + 1 + 1]? = some o2 := (four w o0 o1 o2 o3).2.2.2.2.1
theorem four3 (w : World) (o0 o1 o2 o3 : Obj) : ((((w.alloc o0).alloc o1).alloc o2).alloc o3).drew.heap[w.heap.size + 1 + 1 + 1]? = some o3 := (four w o0 o1 o2 o3).2.2.2.2.2

set_option maxRecDepth 100000 in
set_option maxHeartbeats 8000000 in
theorem fo_rest (w : World) (B nb no nc : Nat) (l : List Nd) (mb mn mc : Nat) (hn : Nodes w B nb no nc l) (h0 : 0 < l.length) (hl31 : l.length ≤ 2147483640) (hleaf : LeafD l) (r0 r1 c : Code) (hbody : Tryd.f28.body = some (.seq r0 (.seq r1 c))) (sb wb bb rb : Nat) (u21 : Value) (W : World) (HS : SrS w W w.heap.size (w.heap.size + 4) sb wb bb rb (.slice (some ⟨nb, no, none⟩) l.length nc) (.slice (some ⟨mb, 0, none⟩) mn mc) l.length 0 (tabL l.length fun _ => 0) (tabL l.length fun _ => 0) (.slice none 0 0) (.slice none 0 0) [] []) :
    Code.wp Tryd.prog c (bodyPost Tryd.prog Tryd.f28 fun e w' => e = .returned (.int .i64 (-1)) ∧ Below w.heap.size w w') { tmps := #[.slice (some ⟨nb, no, none⟩) l.length nc, .slice (some ⟨mb, 0, none⟩) mn mc, undef, undef, .int .i64 0, .pointer (some ⟨sb, 0, none⟩), undef, undef, undef, undef, .slice (some ⟨nb, no, none⟩) l.length nc, .slice (some ⟨mb, 0, none⟩) mn mc, .slice (some ⟨nb, no, none⟩) l.length nc, .int .i64 l.length, .slice (some ⟨wb, 0, none⟩) l.length l.length, .slice (some ⟨nb, no, none⟩) l.length nc, .int .i64 l.length, .slice (some ⟨bb, 0, none⟩) l.length l.length, .slice (some ⟨nb, no, none⟩) l.length nc, .int .i64 l.length, .slice (some ⟨rb, 0, none⟩) l.length l.length, u21, undef, undef, undef, undef, undef, undef, undef, undef, undef, undef, undef, undef, undef, undef, undef, undef, undef, undef, undef, undef, undef, undef, undef, undef, undef, undef, undef, undef, undef, undef, undef, undef, undef, undef, undef, undef, undef, undef, undef, undef, undef, undef, undef, undef, undef, undef, undef, undef], defers := [] } W := by
  have HN : Bx _ := ⟨hn⟩
  have HLF : Bx _ := ⟨hleaf⟩
  have hB := hn.hi
  have hnb := hn.lo
  clear hn hleaf
  unfold Tryd.f28 at hbody
  simp only [Option.some.injEq, Code.seq.injEq] at hbody
  obtain ⟨_, _, rfl⟩ := hbody
  have HSB : Bx _ := ⟨HS⟩
  clear HS
  go_wp2
  go_loopw [24] (fun x wr => ∃ k : Nat, k ≤ l.length ∧ x = .int .i64 k ∧ Bx (∃ (c : Nat) (ws bs : List Int) (wy gr : Value), c ≤ k ∧ SrS w wr w.heap.size (w.heap.size + 4) sb wb bb rb (.slice (some ⟨nb, no, none⟩) l.length nc) (.slice (some ⟨mb, 0, none⟩) mn mc) l.length (c : Nat) ws bs wy gr [] [])) (fun x _ => l.length - (intOf x).toNat)
  case atStart => exact ⟨0, Nat.zero_le _, rfl, ⟨0, _, _, _, _, Nat.le_refl _, HSB.out⟩⟩
  case round =>
    obtain ⟨k, hk, rfl, HS⟩ := hrel
    clear HSB
    obtain ⟨c, ws, bs, wy, gr, hck, HS'⟩ := HS.out
    have HS : Bx _ := ⟨HS'⟩
    clear HS'
    by_cases hlt : k < l.length
    · obtain ⟨ka, kc, hnd⟩ := (HN.out.below (HS.out.bel.mono HN.out.hi)).at_ k hlt
      obtain ⟨c0, c1, c2, c3, c4⟩ := hnd.five
      by_cases hkd : kdN l k = 45
      · obtain ⟨m, r, hks, hm, hk3, hk5⟩ := HLF.out k hlt hkd
        obtain ⟨a, cp, he, h1, h2, h3⟩ := hnd.kids.ex
        simp only [Value.slice.injEq, true_and] at he
        obtain ⟨rfl, rfl⟩ := he
        rw [hks] at h3
        obtain ⟨b, o, rfl, hbB, hcell⟩ := h3 (by simp)
        have hc0 := hcell 0 (by simp)
        simp only [List.getElem_cons_zero, Nat.add_zero] at hc0
        have hlen : 0 < (ndN l k).kids.length := by rw [hks]; simp
        obtain ⟨e0, e1, e2, e3, e4, e5, e6, e7, ef, el⟩ := HS.out.eight
        unfold slV at e2
        have hbw : b < wr.heap.size := by have := HS.out.bel.size; omega
        have w1 := HS.out.wrow.cell m (by rw [HS.out.wlen]; exact hm)
        have w3 := HS.out.wrow.lt
        have HX : Bx (∀ o, SrS w (wr.alloc o).drew w.heap.size (w.heap.size + 4) sb wb bb rb (.slice (some ⟨nb, no, none⟩) l.length nc) (.slice (some ⟨mb, 0, none⟩) mn mc) l.length (c : Nat) ws bs wy gr [] []) := ⟨fun o => (HS.out.ext (below1 _ _)).ext ((Below.refl _ _).drew)⟩
        have HF : Bx (∀ o, Calls Tryd.prog 32 #[.pointer (some ⟨sb, 0, none⟩), .int .i64 m] (wr.alloc o).drew fun e w' => e = .returned (.tuple #[]) ∧ Bx (∃ wy' gr', SrS w w' w.heap.size (w.heap.size + 4) sb wb bb rb (.slice (some ⟨nb, no, none⟩) l.length nc) (.slice (some ⟨mb, 0, none⟩) mn mc) l.length ((c : Int) + 1) (ws.set m (l.length + 1)) (bs.set m ((c : Int) + 1)) wy' gr' [] [])) := ⟨fun o => from_leaf m l.length nc (some ⟨nb, no, none⟩) (HX.out o) hm (by omega) rfl (leaf_at HN.out hm hk3 hk5 sb) (by omega) (by omega)⟩
        unfold kdN at hkd
        unfold maxLen at h2
        clear hnd HS h3 hcell hks e0 e1 e3 e4 e5 e6 e7 ef hk3 hk5
        generalize (ndN l k).kids.length = nk at *
        generalize (ndN l k).kind = kd at *
        subst hkd
        generalize (ndN l k).pos = ps at *
        generalize (ndN l k).name = nm at *
        generalize (ndN l k).num = num at *
        generalize ws.getD m 0 = z at *
        by_cases hz : z = 0
        · subst hz
          go_wp2_with fail
          go_region
          all_goals
            go_wp2_with (first | (go_at_call 32; refine Calls.mono (HF.out _) ?_; rintro e w5 ⟨rfl, HB5⟩))
            obtain ⟨wy', gr', HB6⟩ := HB5.out
            have HB7 : Bx _ := ⟨HB6⟩
            clear HB5 HB6 HX HF
            go_wp2
            go_roundw
            case rel => exact ⟨k + 1, by omega, by go_num, ⟨c + 1, _, _, _, _, by omega, HB7.out⟩⟩
            case measure => simp [intOf]; omega
        · have hz2 : (z == 0) = false := by rw [beq_eq_false_iff_ne]; exact hz
          go_wp2_with fail
          go_region
          all_goals
            go_wp2
            go_roundw
            case rel => exact ⟨k + 1, by omega, by go_num, ⟨c, _, _, _, _, by omega, HX.out _⟩⟩
            case measure => simp [intOf]; omega
      · have HX : Bx (∀ o, SrS w (wr.alloc o).drew w.heap.size (w.heap.size + 4) sb wb bb rb (.slice (some ⟨nb, no, none⟩) l.length nc) (.slice (some ⟨mb, 0, none⟩) mn mc) l.length (c : Nat) ws bs wy gr [] []) := ⟨fun o => (HS.out.ext (below1 _ _)).ext ((Below.refl _ _).drew)⟩
        unfold kdN at hkd
        have hkd2 : ((ndN l k).kind == 45) = false := by rw [beq_eq_false_iff_ne]; exact hkd
        clear hnd HS
        generalize (ndN l k).kids.length = nk at *
        generalize (ndN l k).kind = kd at *
        generalize (ndN l k).pos = ps at *
        generalize (ndN l k).name = nm at *
        generalize (ndN l k).num = num at *
        have q0 : (wr.alloc (.cells #[.int .i64 kd, .int .i64 ps, .slice ka nk kc, .string nm, .int .i64 num] 37)).drew.cell? ⟨wr.heap.size, 0, none⟩ = some (.int .i64 kd) := (cell_of_row _ _ 0 _ _ _ (heap_alloc_new wr _)).trans rfl
        go_wp2_with fail
        go_region
        go_wp2
        go_roundw
        case rel => exact ⟨k + 1, by omega, by go_num, ⟨c, _, _, _, _, by omega, HX.out _⟩⟩
        case measure => simp [intOf]; omega
    · clear hck
      go_wp2
      go_loopw [50] (fun x wr => ∃ k : Nat, k ≤ l.length ∧ x = .int .i64 k ∧ Bx (SrS w wr w.heap.size (w.heap.size + 4) sb wb bb rb (.slice (some ⟨nb, no, none⟩) l.length nc) (.slice (some ⟨mb, 0, none⟩) mn mc) l.length (c : Nat) ws bs wy gr [] [])) (fun x _ => l.length - (intOf x).toNat)
      case atStart => exact ⟨0, Nat.zero_le _, rfl, HS⟩
      case round =>
        obtain ⟨k2, hk2, rfl, HS2⟩ := hrel
        clear HS
        by_cases hlt2 : k2 < l.length
        · obtain ⟨ka, kc, hnd⟩ := (HN.out.below (HS2.out.bel.mono HN.out.hi)).at_ k2 hlt2
          obtain ⟨c0, c1, c2, c3, c4⟩ := hnd.five
          have HX : Bx (∀ o, SrS w (wr.alloc o).drew w.heap.size (w.heap.size + 4) sb wb bb rb (.slice (some ⟨nb, no, none⟩) l.length nc) (.slice (some ⟨mb, 0, none⟩) mn mc) l.length (c : Nat) ws bs wy gr [] []) := ⟨fun o => (HS2.out.ext (below1 _ _)).ext ((Below.refl _ _).drew)⟩
          by_cases hkd : kdN l k2 = 45
          · obtain ⟨m, r, hks, hm, hk3, hk5⟩ := HLF.out k2 hlt2 hkd
            obtain ⟨a, cp, he, h1, h2, h3⟩ := hnd.kids.ex
            simp only [Value.slice.injEq, true_and] at he
            obtain ⟨rfl, rfl⟩ := he
            rw [hks] at h3
            obtain ⟨b, o, rfl, hbB, hcell⟩ := h3 (by simp)
            have hc0 := hcell 0 (by simp)
            simp only [List.getElem_cons_zero, Nat.add_zero] at hc0
            have hlen : 0 < (ndN l k2).kids.length := by rw [hks]; simp
            obtain ⟨e0, e1, e2, e3, e4, e5, e6, e7, ef, el⟩ := HS2.out.eight
            unfold slV at e4
            have hbw : b < wr.heap.size := by have := HS2.out.bel.size; omega
            have w1 := HS2.out.rrow.cell m hm
            have w3 := HS2.out.rrow.lt
            unfold kdN at hkd
            unfold maxLen at h2
            clear hnd HS2 h3 hcell hks e0 e1 e2 e3 e5 e6 e7 ef hk3 hk5
            generalize (ndN l k2).kids.length = nk at *
            generalize (ndN l k2).kind = kd at *
            subst hkd
            generalize (ndN l k2).pos = ps at *
            generalize (ndN l k2).name = nm at *
            generalize (ndN l k2).num = num at *
            go_wp2_with fail
            go_region
            all_goals
              go_wp2
              go_roundw
              case rel => exact ⟨k2 + 1, by omega, by go_num, ⟨HX.out _⟩⟩
              case measure => simp [intOf]; omega
          · unfold kdN at hkd
            have hkd2 : ((ndN l k2).kind == 45) = false := by rw [beq_eq_false_iff_ne]; exact hkd
            clear hnd HS2
            generalize (ndN l k2).kids.length = nk at *
            generalize (ndN l k2).kind = kd at *
            generalize (ndN l k2).pos = ps at *
            generalize (ndN l k2).name = nm at *
            generalize (ndN l k2).num = num at *
            go_wp2_with fail
            go_region
            go_wp2
            go_roundw
            case rel => exact ⟨k2 + 1, by omega, by go_num, ⟨HX.out _⟩⟩
            case measure => simp [intOf]; omega
        · have HB := HS2.out.bel
          go_wp2
          go_ret
          exact ⟨rfl, HB⟩
end Go.Proofs.YtllgaholkminnaaDoor
namespace Go.Proofs.YtllgaholkminnaaDoor
open Go.RowKit
set_option linter.unusedVariables false
set_option linter.unusedSimpArgs false

set_option maxRecDepth 100000 in
set_option maxHeartbeats 8000000 in
theorem firstOpen_leaf (w : World) (B nb no nc : Nat) (l : List Nd) (mb mn mc : Nat) (hn : Nodes w B nb no nc l) (h0 : 0 < l.length) (hl31 : l.length ≤ 2147483640) (hleaf : LeafD l) :
    Calls Tryd.prog 28 #[.slice (some ⟨nb, no, none⟩) l.length nc, .slice (some ⟨mb, 0, none⟩) mn mc] w fun e w' => e = .returned (.int .i64 (-1)) ∧ Below w.heap.size w w' := by
  have hmk := fun W => make_ints W l.length (by omega)
  have hmb := fun W => make_bools W l.length (by omega)
  have HR : Bx _ := ⟨fo_rest w B nb no nc l mb mn mc hn h0 hl31 hleaf⟩
  clear hn hleaf
  go_enter Tryd.func28, Tryd.ntmps28
  go_wp2_with fail
  rename_i K hK
  go_region_held (fun _ => True) (trivial) (fail)
  all_goals
    simp only [Exit.then]
    refine hK _ _ (HR.out _ _ _ rfl _ _ _ _ _ _ (sr_of (four _ _ _ _ _).1 (four _ _ _ _ _).2.1 ?_ ?_ ?_ ?_ ⟨?_, ?_, ?_, ?_⟩ ⟨?_, ?_, ?_, ?_, ?_, ?_⟩))
    · simp only [four0, four1, four2, four3]; rfl
    · simp only [four0, four1, four2, four3]
    · simp only [four0, four1, four2, four3]
    · simp only [four0, four1, four2, four3]
    all_goals omega
end Go.Proofs.YtllgaholkminnaaDoor
namespace Go.Proofs.YtllgaholkminnaaDoor
open Go.RowKit
theorem shown_any (w : World) (hL : Laid w) : Calls Tryd.prog 10 #[] w fun e w' => e = .returned (.bool true) ∧ Below w.heap.size w w' :=
  shown_of (fun w B nb no nc l mb mn mc hn h0 hl hf => firstOpen_leaf w B nb no nc l mb mn mc hn h0 hl hf) w hL
end Go.Proofs.YtllgaholkminnaaDoor
namespace Go.Proofs.YtllgaholkminnaaDoor
open Go.RowKit
set_option linter.unusedVariables false
/-- shown, in whatever world that has grown -/
theorem shown_in (w : World) (hL : Laid w) : ∀ W, Below w.heap.size w W → Calls Tryd.prog 10 #[] W fun e w' => e = .returned (.bool true) ∧ Below W.heap.size W w' := fun W hb => shown_any W (hL.below hb)
end Go.Proofs.YtllgaholkminnaaDoor
