import Derived.Test.YtikijkpklneihaaCVS
import Derived.WalkMore
namespace Go.Proofs.Ytikijkpklneihaa
open Go.RowKit
set_option linter.unusedVariables false
set_option linter.unusedSimpArgs false

theorem infoSl : (Try.prog.info? 22).map (fun i => (i.zero, i.size, i.bytes)) = some (some (.slice none 0 0), 1, 24) := by kernel_rfl
def sizeI (s : Nat) (m : Int) : Int := if m < 1 then max (m + 1) 0 else min (s : Int) (m + 1)

set_option maxRecDepth 100000 in
set_option maxHeartbeats 2000000 in
theorem Size_few (w : World) (B : Nat) (v : Value) (x : V) (m : Int) (hv : IsV w B v x) (hB : B ≤ w.heap.size) (hx : x.sz ≤ 200000) (hm : m < 1) (hm6 : I64 m) :
    Calls Try.prog 19 #[v, .int .i64 m] w fun e w' => e = .returned (.int .i64 (sizeI x.sz m)) ∧ Below w.heap.size w w' := by
  obtain ⟨⟨p, cap, rfl, h1⟩, h2, h3⟩ := hv
  have hs : sizeI x.sz m = max (m + 1) 0 := by simp [sizeI, hm]
  rw [hs]
  have hw : wrap64 (m + 1) = m + 1 := by unfold wrap64; have := hm6.1; omega
  generalize x.l.length = L at *
  generalize x.k = K at *
  generalize x.n = N at *
  clear h1 h2 h3
  go_enter Try.func19, Try.ntmps19
  go_wp2
  go_step3
  go_wp2
  · go_ret
    exact ⟨by rw [show max (m + 1) 0 = 0 from by omega]; rfl, below1 _ _⟩
  · go_ret
    exact ⟨by rw [show max (m + 1) 0 = m + 1 from by omega]; rfl, below1 _ _⟩

set_option maxRecDepth 100000 in
set_option maxHeartbeats 2000000 in
theorem Size_many (w : World) (B : Nat) (v : Value) (x : V) (m : Int) (hv : IsV w B v x) (hB : B ≤ w.heap.size) (hx : x.sz ≤ 200000) (hm : ¬ m < 1) (hm6 : I64 m) :
    Calls Try.prog 19 #[v, .int .i64 m] w fun e w' => e = .returned (.int .i64 (sizeI x.sz m)) ∧ Below w.heap.size w w' := by
  obtain ⟨⟨p, cap, rfl, h1⟩, h2, h3⟩ := hv
  have hs : sizeI x.sz m = min (x.sz : Int) (m + 1) := by simp [sizeI, hm]
  rw [hs]
  obtain ⟨i0, hi, hz0', hz1, hz2⟩ := info_parts infoSl
  have HX : Bx _ := ⟨V.sz_eq x⟩
  have HL : Bx _ := ⟨h1⟩
  have hcap : x.l.length ≤ cap ∧ cap ≤ maxLen := ⟨h1.1, h1.2.1⟩
  clear h1 h2 h3
  generalize hl : x.l = xl at *
  generalize x.k = K at *
  generalize x.n = N at *
  generalize x.sz = S at *
  clear hl
  go_enter Try.func19, Try.ntmps19
  go_wp2
  go_step3
  go_wp2
  go_step3
  go_wp2
  obtain ⟨W0, hW0⟩ : ∃ W0, (w.alloc (Obj.cells #[Value.int IntKind.i64 K, Value.int IntKind.i64 N, Value.slice p xl.length cap] 24)).alloc (Obj.cells #[Value.slice p xl.length cap] 22) = W0 := ⟨_, rfl⟩
  have hb0 : Below w.heap.size w W0 := by rw [← hW0]; exact (below1 _ _).trans ((below1 _ _).mono (by simp))
  have hW0h : W0.heap[w.heap.size + 1]? = some (.cells #[Value.slice p xl.length cap] 22 (0, 0)) := by
    rw [← hW0]; have := World.alloc_heap_new (w.alloc (Obj.cells #[Value.int IntKind.i64 K, Value.int IntKind.i64 N, Value.slice p xl.length cap] 24)) (Obj.cells #[Value.slice p xl.length cap] 22); rwa [World.size_alloc] at this
  have HS0 : Bx (Stk W0 (w.heap.size + 1) B (.slice (some ⟨w.heap.size + 1, 0, none⟩) 1 1) [xl]) :=
    ⟨⟨[.slice p xl.length cap], ⟨rfl, .inr ⟨_, 1, _, rfl, Nat.le_refl _, hW0h, by simp, by simp [maxLen], by simp, by simp⟩⟩, ⟨⟨p, cap, rfl, HL.out.lo (Lo.of (hb0.mono hB))⟩, trivial⟩⟩⟩
  have HB0 : Bx _ := ⟨hb0⟩
  have hz0 : w.heap.size + 2 ≤ W0.heap.size := by rw [← hW0]; simp
  rw [hW0]
  clear hb0 hW0h HL
  have hm1 : 1 ≤ m := by omega
  go_loopg [5, 6] S (fun k c v wr => ∃ (cn : Nat) (st : List (List V)), k = stz st + st.length ∧ k ≤ S ∧ c = .int .i64 cn ∧ cn + stz st = S ∧ (cn : Int) ≤ m ∧ Bx (Stk wr (w.heap.size + 1) B v st ∧ Below w.heap.size w wr ∧ w.heap.size + 2 ≤ wr.heap.size))
  case atStart => exact ⟨1, [xl], by simp [stz, HX.out]; omega, Nat.le_refl _, rfl, by simp [stz, HX.out], hm1, ⟨HS0.out, HB0.out, hz0⟩⟩
  case round =>
    obtain ⟨cn, st, hk, hkS, rfl, hc, hcm, HS⟩ := hrel
    clear HS0 HB0
    rcases List.eq_nil_or_concat st with rfl | ⟨qs, l, rfl⟩
    · have hcS : cn = S := by simpa [stz] using hc
      have he : (min (S : Int) (m + 1)) = (cn : Int) := by subst hcS; omega
      have HE : Bx _ := ⟨he⟩
      clear hcS hc he
      rcases HS.out.1.val with ⟨rfl, _⟩ | ⟨g, gc, rfl, _⟩
      · go_wp2
        go_ret
        exact ⟨congrArg (fun z => Ending.returned (.int .i64 z)) HE.out.symm, HS.out.2.1⟩
      · rw [show ([] : List (List V)).length = 0 from rfl]
        go_wp2
        rw [Exit.noGoto_ret]
        go_ret
        exact ⟨congrArg (fun z => Ending.returned (.int .i64 z)) HE.out.symm, HS.out.2.1⟩
    · rw [List.concat_eq_append] at HS hk hc
      obtain ⟨g, gc, q, qc, rfl, hg, hgl, hgc, hgm, c0, HQ, hst⟩ := HS.out.1.pop
      have hw0 := HS.out.2
      have hlq : l.length ≤ qc := HQ.1
      have hqm : qc ≤ maxLen := HQ.2.1
      have HQB : Bx _ := ⟨HQ⟩
      simp only [stz_append, stz, List.length_append, List.length_singleton, Nat.add_zero] at hk hc
      unfold maxLen at hgm hqm
      have hll := szs_len l
      clear HQ HS
      have HST : Bx _ := ⟨hst⟩
      have HW : Bx _ := ⟨hw0⟩
      clear hst hw0
      go_wp2
      go_loopg [5, 6, 34] l.length (fun k c v iv wr' => ∃ (i cn' : Nat) (st : List (List V)), k = l.length - i ∧ i ≤ l.length ∧ iv = .int .i64 i ∧ c = .int .i64 cn' ∧ cn' + szs (l.drop i) + stz st = S ∧ (cn' : Int) ≤ m ∧ stz st + st.length + szs (l.drop i) ≤ stz qs + qs.length + szs l ∧ Bx (Stk wr' (w.heap.size + 1) B v st ∧ SlV wr' B q qc l ∧ Below w.heap.size w wr' ∧ w.heap.size + 2 ≤ wr'.heap.size))
      case atStart => exact ⟨0, cn, qs, by simp, by omega, rfl, rfl, by simp <;> omega, hcm, by simp <;> omega, ⟨HST.out, HQB.out, HW.out.1, HW.out.2⟩⟩
      case round =>
        obtain ⟨i, cn', st, hk', hil, rfl, rfl, hc', hcm', hms, HR⟩ := hrel
        by_cases hlt : i < l.length
        · obtain ⟨b, o, r, rc, rfl, hbB, d0, d1, d2, hR, _, _⟩ := HR.out.2.1.at3 i hlt
          have hdr := szs_drop hlt
          have hw3 : Below wr.heap.size wr (wr.alloc (.cells #[.int .i64 l[i].k, .int .i64 l[i].n, .slice r l[i].l.length rc] 24)) := below1 _ _
          have HW3 : Bx (∀ o, Below wr.heap.size wr (wr.alloc o)) := ⟨fun o => below1 _ _⟩
          have hz := HR.out.2.2.2
          have hcn : (cn' : Int) + 1 ≤ 200000 := by omega
          by_cases hover : m < (cn' : Int) + 1
          · have he : (min (S : Int) (m + 1)) = ((cn' : Int) + 1) := by omega
            have HE : Bx _ := ⟨HR.out.2.2.1.trans (hw3.mono (by omega))⟩
            clear hw3 hdr
            go_wp2
            rw [Exit.noGoto_ret]
            go_ret
            exact ⟨by rw [he]; rfl, HE.out⟩
          · have hnv : ¬ m < (cn' : Int) + 1 := hover
            by_cases hkid : 0 < l[i].l.length
            · obtain ⟨xs, ho, hsl⟩ := HR.out.1.own
              have HO : Bx _ := ⟨ho⟩
              have HSL : Bx _ := ⟨hsl⟩
              have HRR : Bx _ := ⟨hR⟩
              have HOW : Bx (((wr.alloc (.cells #[.int .i64 l[i].k, .int .i64 l[i].n, .slice r l[i].l.length rc] 24)).alloc (.cells #[.slice r l[i].l.length rc] 22)).ownsRow (w.heap.size + 1) 22 1 u6 st.length xs) := ⟨own_new ho (two_new _ _ _)⟩
              clear ho hsl hR hw3 hover
              go_wp2_with (first | (at_builtin; refine wpList_append_own _ rfl (.tmp 47) (.tmp 50) 45 rfl (w.heap.size + 1) 22 i0 (.slice none 0 0) 1 24 Try.underlying45 hi hz0' hz1 hz2 rfl (by decide) u6 st.length xs rfl HOW.out ⟨wr.heap.size + 1, 0, none⟩ 1 1 [.slice r l[i].l.length rc] rfl rfl (slice_one _ _ _ 22 (alloc_at _ _ _)) (slice_cell _ _ _) (by unfold maxLen; omega) (by omega) (by simp; omega) ?_; intro v' w' hown' hgrow _; obtain ⟨p1, p2, p3, p4⟩ := push_all HO.out HSL.out HRR.out (two_new _ _ _) hown' hgrow (by omega) (by omega)))
              go_roundg (l.length - (i + 1))
              case measure => omega
              case rel => exact ⟨i + 1, cn' + 1, st ++ [l[i].l], rfl, by omega, by simp, by simp, by simp only [stz_append, stz]; omega, by omega, by simp only [stz_append, stz, List.length_append, List.length_singleton]; omega, ⟨p1, HR.out.2.1.lo p2, HR.out.2.2.1.trans (p3.mono (by omega)), by omega⟩⟩
            · have hk0 : l[i].l.length = 0 := by omega
              have hs0 : szs l[i].l = 0 := by rw [List.eq_nil_of_length_eq_zero hk0]; simp [szs]
              clear hR hover
              go_wp2
              go_roundg (l.length - (i + 1))
              case measure => omega
              case rel => exact ⟨i + 1, cn' + 1, st, rfl, by omega, by simp, by simp, by omega, by omega, by omega, ⟨HR.out.1.ext (by omega) (HW3.out _), HR.out.2.1.lo (Lo.of ((HW3.out _).mono (by omega))), HR.out.2.2.1.trans ((HW3.out _).mono (by omega)), by simp; omega⟩⟩
        · have hie : i = l.length := by omega
          subst hie
          simp only [List.drop_length, szs, Nat.add_zero] at hc' hms
          go_wp2
          go_roundg (stz st + st.length)
          case measure => omega
          case rel => exact ⟨cn', st, rfl, by omega, rfl, hc', hcm', ⟨HR.out.1, HR.out.2.2.1, HR.out.2.2.2⟩⟩
theorem Size_big (w : World) (B : Nat) (v : Value) (x : V) (m : Int) (hv : IsV w B v x) (hB : B ≤ w.heap.size) (hx : x.sz ≤ 200000) (hm6 : I64 m) :
    Calls Try.prog 19 #[v, .int .i64 m] w fun e w' => e = .returned (.int .i64 (sizeI x.sz m)) ∧ Below w.heap.size w w' := by
  by_cases hm : m < 1
  · exact Size_few w B v x m hv hB hx hm hm6
  · exact Size_many w B v x m hv hB hx hm hm6
theorem Size_any (w : World) (B : Nat) (v : Value) (x : V) (m : Int) (hv : IsV w B v x) (hB : B ≤ w.heap.size) (hx : x.sz ≤ 65536) (hm6 : I64 m) :
    Calls Try.prog 19 #[v, .int .i64 m] w fun e w' => e = .returned (.int .i64 (sizeI x.sz m)) ∧ Below w.heap.size w w' := Size_big w B v x m hv hB (by omega) hm6
end Go.Proofs.Ytikijkpklneihaa
