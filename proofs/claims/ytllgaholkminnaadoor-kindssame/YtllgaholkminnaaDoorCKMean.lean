import Derived.Test.YtllgaholkminnaaDoorCKTP
import Derived.Test.YtllgaholkminnaaDoorCKMem
import Derived.Deep.RegionHeld
namespace Go.Proofs.YtllgaholkminnaaDoor
open Go.RowKit Go.Maps
set_option linter.unusedVariables false
set_option linter.unusedSimpArgs false

theorem keyed9 : Keyed Tryd.prog 9 := string_keyed Tryd.underlying9
theorem zero3 (w : World) : (zeroValue 3).run Tryd.prog w = .ok (.int .i64 0) w := by kernel_rfl
def faultV (p c : Int) : Value := .agg #[.int .i64 p, .int .i64 c]
/-- declarations have a kid -/
def DeclK (l : List Nd) : Prop := ∀ i, i < l.length → kdN l i = 45 → ∃ (k : Nat) (r : List Int), (ndN l i).kids = (k : Int) :: r ∧ k < l.length
theorem declOf_kid {l : List Nd} (h : DeclK l) {nm : ByteArray} {k : Int} (e : declOf l nm = some k) : ∃ m : Nat, k = (m : Int) ∧ m < l.length := by
  unfold declOf at e
  rw [Option.map_eq_some_iff] at e
  obtain ⟨n, h1, rfl⟩ := e
  have hm := List.mem_of_find?_eq_some h1
  have hk := List.find?_some h1
  obtain ⟨i, hi, rfl⟩ := List.getElem_of_mem hm
  have hn : ndN l i = l[i] := by unfold ndN; rw [List.getD_eq_getElem?_getD, List.getElem?_eq_getElem hi]; rfl
  unfold isDecl at hk
  simp only [Bool.and_eq_true, beq_iff_eq] at hk
  obtain ⟨m, r, q1, q2⟩ := h i hi (by unfold kdN; rw [hn]; exact hk.1)
  rw [hn] at q1
  exact ⟨m, by rw [q1]; rfl, q2⟩

theorem at_inj {c m : Int} (h : (DataW.lit (.int .i64 c) : DataW Unit) = .lit (.int .i64 m)) : c = m := by cases h; rfl
/-- in the midst of the first loop -/
structure MnS (w wr : World) (l : List Nd) (k : Nat) (D : DataW Unit) : Prop where
  bel : Below w.heap.size w wr
  is_ : MapIs (l.take k) D
  own : wr.ownsMap Tryd.prog 9 (plainElem Tryd.prog 3) (w.heap.size + 1) k D
  flt : wr.heap[w.heap.size]? = some (.cells #[.int .i64 0, .int .i64 0] 41 (0, 0))
theorem MnS.ext {w wr wr' : World} {l : List Nd} {k : Nat} {D : DataW Unit} (h : MnS w wr l k D) (hb : Below wr.heap.size wr wr') : MnS w wr' l k D := by
  have hlt : w.heap.size < wr.heap.size := (Array.getElem?_eq_some_iff.1 h.flt).1
  refine ⟨h.bel.trans (hb.mono (by omega)), h.is_, ?_, by rw [hb.block _ hlt]; exact h.flt⟩
  obtain ⟨es, clock, q1, q2⟩ := h.own
  exact ⟨es, clock, by rw [hb.block _ (Array.getElem?_eq_some_iff.1 q1).1]; exact q1, q2⟩
theorem MnS.skip {w wr : World} {l : List Nd} {k : Nat} {D : DataW Unit} (h : MnS w wr l k D) (hk : k < l.length) (hn : kdN l k ≠ 45) : MnS w wr l (k + 1) D :=
  ⟨h.bel, by rw [take_nd l k hk]; exact h.is_.skip hn, h.own.mono (Nat.le_succ _), h.flt⟩
theorem MnS.put {w wr w9 : World} {l : List Nd} {k : Nat} {D : DataW Unit} (h : MnS w wr l k D) (hk : k < l.length) (hn : kdN l k = 45) (hd : declOf (l.take k) (ndN l k).name = none)
    (hown : w9.ownsMap Tryd.prog 9 (plainElem Tryd.prog 3) (w.heap.size + 1) (k + 1) (D.put (keyL (ndN l k).name) (.lit (.int .i64 ((ndN l k).kids.getD 0 0))))) (hg : wr.grownBy w9 (some (w.heap.size + 1))) : MnS w w9 l (k + 1) (D.put (keyL (ndN l k).name) (.lit (.int .i64 ((ndN l k).kids.getD 0 0)))) := by
  have hlt : w.heap.size < wr.heap.size := (Array.getElem?_eq_some_iff.1 h.flt).1
  refine ⟨h.bel.grown hg (by omega) (fun j hj => by simp at hj; omega), by rw [take_nd l k hk]; exact h.is_.put hn hd, hown, ?_⟩
  rw [hg.block _ hlt (by simp)]
  exact h.flt
theorem mk_map (w : World) (o : Obj) : MnS w ((w.alloc o).alloc (.map #[] 0)) [] 0 (.map []) ↔ MnS w ((w.alloc o).alloc (.map #[] 0)) [] 0 (.map []) := Iff.rfl
theorem mn_start (w : World) (l : List Nd) : MnS w ((w.alloc (.cells #[.int .i64 0, .int .i64 0] 41)).alloc (.map #[] 0)) l 0 (.map []) := by
  refine ⟨(below1 w _).trans ((below1 _ _).mono (by simp)), mapIs_nil, ?_, ?_⟩
  · have := World.ownsMap_made (H := Unit) (w.alloc (.cells #[.int .i64 0, .int .i64 0] 41)) Tryd.prog 9 (plainElem Tryd.prog 3)
    simpa using this
  · rw [(below1 (w.alloc (.cells #[.int .i64 0, .int .i64 0] 41)) _).block w.heap.size (by simp)]
    exact heap_alloc_new w _
def mixL (l : List Nd) (k : Nat) : List Nat := (List.range l.length).map fun i => if i < k then meantAt l i else i
theorem mixL_len (l : List Nd) (k : Nat) : (mixL l k).length = l.length := by simp [mixL]
theorem mixL_zero (l : List Nd) : mixL l 0 = List.range l.length := by simp [mixL]
theorem mixL_end (l : List Nd) : mixL l l.length = (List.range l.length).map (meantAt l) := by
  unfold mixL
  apply List.map_congr_left
  intro i hi
  rw [List.mem_range] at hi
  rw [if_pos hi]
theorem mixL_set (l : List Nd) (k : Nat) (hk : k < l.length) : (mixL l k).set k (meantAt l k) = mixL l (k + 1) := by
  apply List.ext_getElem
  · simp [mixL]
  · intro i h1 h2
    simp only [mixL, List.getElem_set, List.getElem_map, List.getElem_range]
    by_cases e : k = i
    · subst e; simp
    · rw [if_neg e]
      by_cases q : i < k
      · rw [if_pos q, if_pos (by omega)]
      · rw [if_neg q, if_neg (by omega)]
theorem mixL_same (l : List Nd) (k : Nat) (h : meantAt l k = k) : mixL l k = mixL l (k + 1) := by
  unfold mixL
  apply List.map_congr_left
  intro i hi
  by_cases q : i < k
  · rw [if_pos q, if_pos (by omega)]
  · by_cases e : i = k
    · subst e; rw [if_neg (by omega), if_pos (by omega), h]
    · rw [if_neg q, if_neg (by omega)]
/-- in the midst of the second loop -/
structure MnT (w wr : World) (l : List Nd) (fb k : Nat) (D : DataW Unit) : Prop where
  mn : MnS w wr l l.length D
  row : NRow wr fb (mixL l k)
  lo : w.heap.size + 1 < fb
  ok : ∀ j, j < k → unknownAt l j = false
theorem MnT.ext {w wr wr' : World} {l : List Nd} {fb k : Nat} {D : DataW Unit} (h : MnT w wr l fb k D) (hb : Below wr.heap.size wr wr') : MnT w wr' l fb k D := ⟨h.mn.ext hb, h.row.below hb, h.lo, h.ok⟩
theorem MnT.skip {w wr : World} {l : List Nd} {fb k : Nat} {D : DataW Unit} (h : MnT w wr l fb k D) (hk : kdN l k ≠ 3) : MnT w wr l fb (k + 1) D := by
  refine ⟨h.mn, by rw [← mixL_same l k (by unfold meantAt; rw [if_neg (by simpa using hk)])]; exact h.row, h.lo, fun j hj => ?_⟩
  by_cases e : j < k
  · exact h.ok j e
  · have : j = k := by omega
    subst this
    unfold unknownAt
    simp [hk]
theorem MnS.only {w wr wr' : World} {l : List Nd} {k fb : Nat} {D : DataW Unit} (h : MnS w wr l k D) (ho : Only fb wr wr') (hf : w.heap.size + 1 < fb) : MnS w wr' l k D := by
  refine ⟨ho.bel _ w (by omega) h.bel, h.is_, ?_, by rw [ho.block _ (by omega)]; exact h.flt⟩
  obtain ⟨es, clock, q1, q2⟩ := h.own
  exact ⟨es, clock, by rw [ho.block _ (by omega)]; exact q1, q2⟩
theorem MnT.put {w wr : World} {l : List Nd} {fb k m : Nat} {D : DataW Unit} (h : MnT w wr l fb k D) (hk : k < l.length) (h3 : kdN l k = 3) (hd : declOf l (ndN l k).name = some (m : Int)) : MnT w (wr.setCell ⟨fb, k, none⟩ (.int .i64 (m : Nat))) l fb (k + 1) D := by
  have hm : meantAt l k = m := by unfold meantAt; rw [h3, hd]; rfl
  refine ⟨h.mn.only (Only.set _ _ _ _) h.lo, ?_, h.lo, fun j hj => ?_⟩
  · rw [← mixL_set l k hk, hm]
    exact h.row.set k m (by rw [mixL_len]; exact hk)
  · by_cases e : j < k
    · exact h.ok j e
    · have : j = k := by omega
      subst this
      unfold unknownAt
      rw [hd]
      simp

set_option maxRecDepth 100000 in
set_option maxHeartbeats 4000000 in
theorem meanings_ok (w : World) (B nb no nc : Nat) (l : List Nd) (hn : Nodes w B nb no nc l) (h0 : 0 < l.length) (hl31 : l.length ≤ 2147483647) (hdk : DeclK l) (hT : ∀ j, j < l.length → twiceAt l j = false) :
    Calls Tryd.prog 27 #[.slice (some ⟨nb, no, none⟩) l.length nc] w fun e w' => Bx (Below w.heap.size w w' ∧
      ((∃ i, i < l.length ∧ unknownAt l i = true ∧ (∀ j, j < i → unknownAt l j = false) ∧ e = .returned (.tuple #[.slice none 0 0, faultV (ndN l i).pos 41])) ∨
       ((∀ j, j < l.length → unknownAt l j = false) ∧ ∃ fb, w.heap.size ≤ fb ∧ e = .returned (.tuple #[.slice (some ⟨fb, 0, none⟩) l.length l.length, faultV 0 0]) ∧ NRow w' fb ((List.range l.length).map (meantAt l))))) := by
  have HN : Bx (Nodes w B nb no nc l) := ⟨hn⟩
  have HD : Bx (DeclK l ∧ ∀ j, j < l.length → twiceAt l j = false) := ⟨hdk, hT⟩
  have hnb : nb < w.heap.size := Nat.lt_of_lt_of_le hn.lo hn.hi
  have hB := hn.hi
  have hmm := @run_makeMap Tryd.prog
  clear hn hdk hT
  go_enter Tryd.func27, Tryd.ntmps27
  go_wp2
  go_loopw [17] (fun x wr => ∃ k : Nat, k ≤ l.length ∧ x = .int .i64 k ∧ Bx (∃ D, MnS w wr l k D)) (fun x _ => l.length - (intOf x).toNat)
  case atStart => exact ⟨0, Nat.zero_le _, rfl, ⟨_, mn_start w l⟩⟩
  case round =>
    obtain ⟨k, hk, rfl, HS⟩ := hrel
    obtain ⟨D, HS'⟩ := HS.out
    have HS : Bx _ := ⟨HS'⟩
    clear HS'
    by_cases hlt : k < l.length
    · obtain ⟨ka, kc, hnd⟩ := (HN.out.below (HS.out.bel.mono HN.out.hi)).at_ k hlt
      have hwf := (HN.out.wf k hlt)
      obtain ⟨c0, c1, c2, c3, c4⟩ := hnd.five
      have hnm := hwf.name
      have hfl : w.heap.size < wr.heap.size := (Array.getElem?_eq_some_iff.1 HS.out.flt).1
      have HE : Bx (∀ o, MnS w (wr.alloc o) l k D) := ⟨fun o => HS.out.ext (below1 _ _)⟩
      by_cases hkd : kdN l k = 45
      · have hdn : declOf (l.take k) (ndN l k).name = none := by
          have := HD.out.2 k hlt
          unfold twiceAt at this
          rw [hkd] at this
          simpa using this
        obtain ⟨m, r, hks, hm⟩ := HD.out.1 k hlt hkd
        obtain ⟨a, cp, he, h1, h2, h3⟩ := hnd.kids.ex
        simp only [Value.slice.injEq, true_and] at he
        obtain ⟨rfl, rfl⟩ := he
        rw [hks] at h3
        obtain ⟨b, o, rfl, hbB, hcell⟩ := h3 (by simp)
        have hc0 := hcell 0 (by simp)
        simp only [List.getElem_cons_zero, Nat.add_zero] at hc0
        have hlen : 0 < (ndN l k).kids.length := by rw [hks]; simp
        have hg0 : (ndN l k).kids.getD 0 0 = (m : Int) := by rw [hks]; rfl
        have hkey : keyOf Tryd.prog 9 (.string (ndN l k).name) = some (keyL (ndN l k).name) := WideMaps.keyOf_string_mk Tryd.underlying9 hnm
        have hhas : Maps.has D (keyL (ndN l k).name) = false := by rw [HS.out.is_.has, hdn]; rfl
        have hmapb : w.heap.size + 1 < wr.heap.size := HS.out.own.lt
        obtain ⟨W1, hW1⟩ : ∃ W1, W1 = wr.alloc (.cells #[.int .i64 (ndN l k).kind, .int .i64 (ndN l k).pos, .slice (some ⟨b, o, none⟩) (ndN l k).kids.length kc, .string (ndN l k).name, .int .i64 (ndN l k).num] 37) := ⟨_, rfl⟩
        have HM := HE.out (.cells #[.int .i64 (ndN l k).kind, .int .i64 (ndN l k).pos, .slice (some ⟨b, o, none⟩) (ndN l k).kids.length kc, .string (ndN l k).name, .int .i64 (ndN l k).num] 37)
        rw [← hW1] at HM
        obtain ⟨w9, hrun9, hown9, hgrow9⟩ := HM.own.drew.update keyed9 Tryd.underlying67 (by unfold maxLen; omega) hkey (plainElem_int (a := (m : Int)) Tryd.underlying3 (WalkArith.wf_i64 (by omega)))
        have HX : Bx (∃ D, MnS w w9 l (k + 1) D) := ⟨_, by
          have := MnS.put (HM.ext ((Below.refl _ _).drew)) hlt hkd hdn (by rw [hg0]; exact hown9) hgrow9
          exact this⟩
        have hx2 : W1.drew.cell? ⟨wr.heap.size, 2, none⟩ = some (.slice (some ⟨b, o, none⟩) (ndN l k).kids.length kc) := by subst hW1; exact (cell_of_row _ _ 2 _ _ _ (heap_alloc_new wr _)).trans rfl
        have hx3 : W1.drew.cell? ⟨wr.heap.size, 3, none⟩ = some (.string (ndN l k).name) := by subst hW1; exact (cell_of_row _ _ 3 _ _ _ (heap_alloc_new wr _)).trans rfl
        have hx4 : W1.drew.cell? ⟨b, o, none⟩ = some (.int .i64 (m : Int)) := by subst hW1; rw [← hc0]; exact (below1 wr _).cell (p := ⟨b, o, none⟩) (by show b < wr.heap.size; omega)
        have HK9 : Bx (W1.drew.cell? ⟨wr.heap.size, 2, none⟩ = some (.slice (some ⟨b, o, none⟩) (ndN l k).kids.length kc) ∧ W1.drew.cell? ⟨wr.heap.size, 3, none⟩ = some (.string (ndN l k).name) ∧ W1.drew.cell? ⟨b, o, none⟩ = some (.int .i64 (m : Int))) := ⟨hx2, hx3, hx4⟩
        have HK10 : Bx (w9.cell? ⟨wr.heap.size, 2, none⟩ = some (.slice (some ⟨b, o, none⟩) (ndN l k).kids.length kc) ∧ w9.cell? ⟨wr.heap.size, 3, none⟩ = some (.string (ndN l k).name) ∧ w9.cell? ⟨b, o, none⟩ = some (.int .i64 (m : Int))) := ⟨hgrow9.cell hx2 (by simp; omega), hgrow9.cell hx3 (by simp; omega), hgrow9.cell hx4 (by simp; omega)⟩
        have HO1 : Bx _ := ⟨HM.own⟩
        subst hW1
        unfold kdN at hkd
        clear hnd hwf HE HM HS hown9 hgrow9 hx2 hx3 hx4 h3 hcell hdn hks hg0
        generalize (ndN l k).kind = kd at *
        subst hkd
        unfold maxLen at h2
        generalize (ndN l k).kids.length = nk at *
        generalize (ndN l k).pos = ps at *
        generalize (ndN l k).name = nm at *
        generalize (ndN l k).num = num at *
        go_wp2_with (first | (at_lookup; refine wpList_lookup_own_ok_int _ rfl _ _ 67 rfl 9 3 .i64 keyed9 Tryd.underlying67 Tryd.underlying3 (zero3 _) (w.heap.size + 1) k _ rfl HO1.out _ _ rfl hkey ?_; intro c hat hwc; clear hat hwc))
        go_region_held (fun w' => w'.cell? ⟨wr.heap.size, 2, none⟩ = some (.slice (some ⟨b, o, none⟩) nk kc) ∧ w'.cell? ⟨wr.heap.size, 3, none⟩ = some (.string nm) ∧ w'.cell? ⟨b, o, none⟩ = some (.int .i64 (m : Int))) (first | exact HK9.out | exact HK10.out) (fail)
        go_wp2
        go_roundw
        case rel => exact ⟨k + 1, by omega, by go_num, HX⟩
        case measure => simp [intOf]; omega
      · have HX : Bx (∀ o, ∃ D, MnS w (wr.alloc o) l (k + 1) D) := ⟨fun o => ⟨D, (HE.out o).skip hlt hkd⟩⟩
        unfold kdN at hkd
        have hkd2 : ((ndN l k).kind != 45) = true := by rw [bne_iff_ne]; exact hkd
        clear hnd hwf HE HS
        generalize (ndN l k).kids.length = nk at *
        generalize (ndN l k).kind = kd at *
        generalize (ndN l k).pos = ps at *
        generalize (ndN l k).name = nm at *
        generalize (ndN l k).num = num at *
        go_wp2
        go_roundw
        case rel => exact ⟨k + 1, by omega, by go_num, ⟨HX.out _⟩⟩
        case measure => simp [intOf]; omega
    · have hke : k = l.length := by omega
      subst hke
      have HEI : Bx _ := ⟨fun W => eachItself_any W l.length hl31⟩
      have hmapb : w.heap.size + 1 < wr.heap.size := HS.out.own.lt
      go_wp2_with (first | (go_at_call 23; refine Calls.mono (HEI.out _) ?_; rintro e w2 ⟨rfl, hr2, hb2⟩))
      have HT0 : Bx (MnT w w2 l wr.heap.size 0 D) := ⟨HS.out.ext hb2, by rw [mixL_zero]; exact hr2, hmapb, fun j hj => absurd hj (by omega)⟩
      clear hr2 hb2 HS
      generalize wr.heap.size = fb at *
      go_loopw [48] (fun x wr => ∃ k : Nat, k ≤ l.length ∧ x = .int .i64 k ∧ Bx (MnT w wr l fb k D)) (fun x _ => l.length - (intOf x).toNat)
      case atStart => exact ⟨0, Nat.zero_le _, rfl, HT0⟩
      case round =>
        obtain ⟨k, hk, rfl, HS⟩ := hrel
        clear HT0
        by_cases hlt : k < l.length
        · obtain ⟨ka, kc, hnd⟩ := (HN.out.below (HS.out.mn.bel.mono HN.out.hi)).at_ k hlt
          have hwf := (HN.out.wf k hlt)
          obtain ⟨c0, c1, c2, c3, c4⟩ := hnd.five
          have hnm := hwf.name
          have hfl : w.heap.size < wr.heap.size := (Array.getElem?_eq_some_iff.1 HS.out.mn.flt).1
          have HE : Bx (∀ o, MnT w (wr.alloc o) l fb k D) := ⟨fun o => HS.out.ext (below1 _ _)⟩
          by_cases hkd : kdN l k = 3
          · have hkey : keyOf Tryd.prog 9 (.string (ndN l k).name) = some (keyL (ndN l k).name) := WideMaps.keyOf_string_mk Tryd.underlying9 hnm
            have htl : l.take l.length = l := List.take_of_length_le (Nat.le_refl _)
            have hhas : Maps.has D (keyL (ndN l k).name) = (declOf l (ndN l k).name).isSome := by have := HS.out.mn.is_.has (ndN l k).name; rw [htl] at this; exact this
            have hat : D.atKey (keyL (ndN l k).name) (.lit (.int .i64 0)) = .lit (.int .i64 ((declOf l (ndN l k).name).getD 0)) := by have := HS.out.mn.is_.at_ (ndN l k).name; rw [htl] at this; exact this
            have hlo := HS.out.lo
            have hfr := HS.out.row.lt
            have HO : Bx (∀ o, (wr.alloc o).ownsMap Tryd.prog 9 (plainElem Tryd.prog 3) (w.heap.size + 1) l.length D) := ⟨fun o => (HE.out o).mn.own⟩
            unfold kdN at hkd
            cases hdc : declOf l (ndN l k).name with
            | some z =>
              obtain ⟨m, rfl, hm⟩ := declOf_kid HD.out.1 hdc
              have HX : Bx (∀ o, MnT w ((wr.setCell ⟨fb, k, none⟩ (.int .i64 (m : Nat))).alloc o) l fb (k + 1) D) := ⟨fun o => (HS.out.put hlt hkd hdc).ext (below1 _ _)⟩
              have g1 := HS.out.row.cell k (by rw [mixL_len]; exact hlt)
              have g2 := HS.out.row.frozen k
              rw [hdc] at hhas hat
              simp only [Option.isSome_some, Option.getD_some] at hhas hat
              have HAT : Bx _ := ⟨hat⟩
              generalize (mixL l k).getD k 0 = old at *
              clear hnd hwf HE HS htl hdc hat
              generalize (ndN l k).kids.length = nk at *
              generalize (ndN l k).kind = kd at *
              subst hkd
              generalize (ndN l k).pos = ps at *
              generalize (ndN l k).name = nm at *
              generalize (ndN l k).num = num at *
              go_wp2_with (first | (at_lookup; refine wpList_lookup_own_ok_int _ rfl _ _ 67 rfl 9 3 .i64 keyed9 Tryd.underlying67 Tryd.underlying3 (zero3 _) (w.heap.size + 1) l.length _ rfl (HO.out _) _ _ rfl hkey ?_; intro c hat hwc; have hcm : c = (m : Int) := at_inj (hat.symm.trans HAT.out); subst hcm; clear hat hwc))
              go_roundw
              case rel => exact ⟨k + 1, by omega, by go_num, ⟨HX.out _⟩⟩
              case measure => simp [intOf]; omega
            | none =>
              have HU : Bx (unknownAt l k = true ∧ ∀ j, j < k → unknownAt l j = false) := ⟨by unfold unknownAt kdN; rw [hkd, hdc]; rfl, HS.out.ok⟩
              rw [hdc] at hhas
              simp only [Option.isSome_none] at hhas
              have f0 : wr.cell? ⟨w.heap.size, 0, none⟩ = some (.int .i64 0) := (cell_of_row _ _ 0 _ _ _ HS.out.mn.flt).trans rfl
              have f1 : wr.cell? ⟨w.heap.size, 1, none⟩ = some (.int .i64 0) := (cell_of_row _ _ 1 _ _ _ HS.out.mn.flt).trans rfl
              have f2 : ∀ i, wr.frozen? ⟨w.heap.size, i, none⟩ = false := fun i => by simp [World.frozen?, HS.out.mn.flt]
              have HF : Bx (∀ o v, Below w.heap.size w (((wr.setCell ⟨w.heap.size, 0, none⟩ v).setCell ⟨w.heap.size, 1, none⟩ (.int .i64 41)).alloc o).drew) := ⟨fun o v => ((((Only.set _ _ _ _).trans (Only.set _ _ _ _)).bel _ _ (Nat.le_refl _) HS.out.mn.bel).trans ((below1 _ _).mono (by simp; omega))).drew⟩
              have HP : Bx ((ndN l k).pos = (ndN l k).pos) := ⟨rfl⟩
              obtain ⟨ps, hps⟩ : ∃ p, p = (ndN l k).pos := ⟨_, rfl⟩
              rw [← hps] at c1
              have HPS : Bx _ := ⟨hps⟩
              clear hnd hwf HE HS htl hdc hat HP hps
              generalize (ndN l k).kids.length = nk at *
              generalize (ndN l k).kind = kd at *
              subst hkd
              generalize (ndN l k).name = nm at *
              generalize (ndN l k).num = num at *
              go_wp2_with (first | (at_lookup; refine wpList_lookup_own_ok_int _ rfl _ _ 67 rfl 9 3 .i64 keyed9 Tryd.underlying67 Tryd.underlying3 (zero3 _) (w.heap.size + 1) l.length _ rfl (HO.out _) _ _ rfl hkey ?_; intro c hat hwc; clear hat hwc))
              have q1 : (wr.alloc (.cells #[.int .i64 3, .int .i64 ps, .slice ka nk kc, .string nm, .int .i64 num] 37)).drew.cell? ⟨wr.heap.size, 1, none⟩ = some (.int .i64 ps) := (cell_of_row _ _ 1 _ _ _ (heap_alloc_new wr _)).trans rfl
              have q2 : (((wr.setCell ⟨w.heap.size, 0, none⟩ (.int .i64 ps)).setCell ⟨w.heap.size, 1, none⟩ (.int .i64 41)).alloc (.cells #[.int .i64 3, .int .i64 ps, .slice ka nk kc, .string nm, .int .i64 num] 37)).drew.cell? ⟨wr.heap.size, 1, none⟩ = some (.int .i64 ps) := by
                have h := heap_alloc_new ((wr.setCell ⟨w.heap.size, 0, none⟩ (.int .i64 ps)).setCell ⟨w.heap.size, 1, none⟩ (.int .i64 41)) (.cells #[.int .i64 3, .int .i64 ps, .slice ka nk kc, .string nm, .int .i64 num] 37)
                rw [World.size_setCell, World.size_setCell] at h
                exact (cell_of_row _ _ 1 _ _ _ h).trans rfl
              go_region_held (fun w' => w'.cell? ⟨wr.heap.size, 1, none⟩ = some (.int .i64 ps)) (first | exact q1 | exact q2) (fail)
              all_goals
                go_wp2
                refine bodyPost_ret (v := .tuple #[.slice none 0 0, faultV ps 41]) (by simp [results, Tryd.results27, go_sem, faultV, f0, f1, hfl]) rfl ?_
                exact ⟨HF.out _ _, .inl ⟨k, hlt, HU.out.1, HU.out.2, by rw [HPS.out]⟩⟩
          · have HX : Bx (∀ o, MnT w (wr.alloc o) l fb (k + 1) D) := ⟨fun o => (HE.out o).skip hkd⟩
            unfold kdN at hkd
            have hkd2 : ((ndN l k).kind != 3) = true := by rw [bne_iff_ne]; exact hkd
            clear hnd hwf HE HS
            generalize (ndN l k).kids.length = nk at *
            generalize (ndN l k).kind = kd at *
            generalize (ndN l k).pos = ps at *
            generalize (ndN l k).name = nm at *
            generalize (ndN l k).num = num at *
            go_wp2
            go_roundw
            case rel => exact ⟨k + 1, by omega, by go_num, ⟨HX.out _⟩⟩
            case measure => simp [intOf]; omega
        · have hke : k = l.length := by omega
          subst hke
          have f0 : wr.cell? ⟨w.heap.size, 0, none⟩ = some (.int .i64 0) := (cell_of_row _ _ 0 _ _ _ HS.out.mn.flt).trans rfl
          have f1 : wr.cell? ⟨w.heap.size, 1, none⟩ = some (.int .i64 0) := (cell_of_row _ _ 1 _ _ _ HS.out.mn.flt).trans rfl
          have f2 : ∀ i, wr.frozen? ⟨w.heap.size, i, none⟩ = false := fun i => by simp [World.frozen?, HS.out.mn.flt]
          have hfl : w.heap.size < wr.heap.size := (Array.getElem?_eq_some_iff.1 HS.out.mn.flt).1
          have HF : Bx (Only w.heap.size wr ((wr.setCell ⟨w.heap.size, 0, none⟩ (.int .i64 0)).setCell ⟨w.heap.size, 1, none⟩ (.int .i64 0))) := ⟨(Only.set _ _ _ _).trans (Only.set _ _ _ _)⟩
          have hfb : ¬ fb = w.heap.size := by have := HS.out.lo; omega
          go_wp2
          refine bodyPost_ret (v := .tuple #[.slice (some ⟨fb, 0, none⟩) l.length l.length, faultV 0 0]) (by simp [results, Tryd.results27, go_sem, faultV, f0, f1, hfl]) rfl ?_
          refine ⟨HF.out.bel _ _ (Nat.le_refl _) HS.out.mn.bel, .inr ⟨HS.out.ok, fb, by have := HS.out.lo; omega, rfl, ?_⟩⟩
          have := HS.out.row
          rw [mixL_end] at this
          exact this.same (HF.out.block fb hfb)
end Go.Proofs.YtllgaholkminnaaDoor
