import Derived.Test.YtecodpdfckjalaaGreatDoorCTOrd
import Derived.Deep.DeepFit
import Derived.Deep.DrawnRows
namespace Go.Proofs.YtecodpdfckjalaaGreatDoor
open Go.RowKit
set_option linter.unusedVariables false
set_option linter.unusedSimpArgs false

theorem levelsGo_drop (l : List Nd) (n : Nd) (ks : List Int) (p : Nat) (h : p < ks.length) : levelsGo l n p (ks.drop p) = if levelI (ndAt l ks[p]).kind (ndAt l ks[p]).num < wantedI n.kind n.num p then false else levelsGo l n (p + 1) (ks.drop (p + 1)) := by
  rw [List.drop_eq_getElem_cons h]
  rfl
theorem levelsGo_end (l : List Nd) (n : Nd) (ks : List Int) (p : Nat) (h : ks.length ≤ p) : levelsGo l n p (ks.drop p) = true := by
  rw [List.drop_eq_nil_of_le h]
  rfl

/-- five cells -/
def Five (w : World) (b o : Nat) (k p : Int) (ka : Option Addr) (n kc : Nat) (nm : ByteArray) (num : Int) : Prop :=
  w.cell? ⟨b, o, none⟩ = some (.int .i64 k) ∧ w.cell? ⟨b, o + 1, none⟩ = some (.int .i64 p) ∧ w.cell? ⟨b, o + 2, none⟩ = some (.slice ka n kc) ∧ w.cell? ⟨b, o + 3, none⟩ = some (.string nm) ∧ w.cell? ⟨b, o + 4, none⟩ = some (.int .i64 num)
theorem Five.below {w w' : World} {B b o : Nat} {k p : Int} {ka : Option Addr} {n kc : Nat} {nm : ByteArray} {num : Int} (h : Five w b o k p ka n kc nm num) (hb : Below B w w') (hlt : b < B) : Five w' b o k p ka n kc nm num := by
  have hc : ∀ i, w'.cell? ⟨b, i, none⟩ = w.cell? ⟨b, i, none⟩ := fun i => hb.cell (p := ⟨b, i, none⟩) hlt
  obtain ⟨a1, a2, a3, a4, a5⟩ := h
  exact ⟨by rw [hc]; exact a1, by rw [hc]; exact a2, by rw [hc]; exact a3, by rw [hc]; exact a4, by rw [hc]; exact a5⟩
theorem NdAt.five {w : World} {B b o : Nat} {n : Nd} {ka : Option Addr} {kc : Nat} (h : NdAt w B b o n ka kc) : Five w b o n.kind n.pos ka n.kids.length kc n.name n.num := ⟨h.c0, h.c1, h.c2, h.c3, h.c4⟩
theorem five_new (w : World) (k p : Int) (ka : Option Addr) (n kc : Nat) (nm : ByteArray) (num : Int) : Five (w.alloc (.cells #[.int .i64 k, .int .i64 p, .slice ka n kc, .string nm, .int .i64 num] 44)) w.heap.size 0 k p ka n kc nm num := by
  unfold Five
  simp

/-- in the midst of levelsFit -/
def LfMem (w : World) (o : Obj) (wr : World) : Prop := Below (w.heap.size + 1) (w.alloc o) wr
theorem LfMem.below {w wr : World} {o : Obj} (h : LfMem w o wr) : Below w.heap.size w wr := (below1 w o).trans (Below.mono h (by omega))

theorem lf_keep {wr W w1 : World} {nb o bx nk2 c2 nk kc : Nat} {kd2 ps2 num2 kd ps num : Int} {a2 ka : Option Addr} {nm2 nm : ByteArray} (hb1 : Below W.heap.size W w1) (h1 : nb < wr.heap.size) (h2 : bx < wr.heap.size)
    (hS : W.cell? ⟨nb, o, none⟩ = some (.int .i64 kd2) ∧ W.cell? ⟨nb, o + 1, none⟩ = some (.int .i64 ps2) ∧ W.cell? ⟨nb, o + 2, none⟩ = some (.slice a2 nk2 c2) ∧ W.cell? ⟨nb, o + 3, none⟩ = some (.string nm2) ∧ W.cell? ⟨nb, o + 4, none⟩ = some (.int .i64 num2)
          ∧ W.cell? ⟨bx, 0, none⟩ = some (.int .i64 kd) ∧ W.cell? ⟨bx, 1, none⟩ = some (.int .i64 ps) ∧ W.cell? ⟨bx, 2, none⟩ = some (.slice ka nk kc) ∧ W.cell? ⟨bx, 3, none⟩ = some (.string nm) ∧ W.cell? ⟨bx, 4, none⟩ = some (.int .i64 num) ∧ Below wr.heap.size wr W) :
    w1.cell? ⟨nb, o, none⟩ = some (.int .i64 kd2) ∧ w1.cell? ⟨nb, o + 1, none⟩ = some (.int .i64 ps2) ∧ w1.cell? ⟨nb, o + 2, none⟩ = some (.slice a2 nk2 c2) ∧ w1.cell? ⟨nb, o + 3, none⟩ = some (.string nm2) ∧ w1.cell? ⟨nb, o + 4, none⟩ = some (.int .i64 num2)
          ∧ w1.cell? ⟨bx, 0, none⟩ = some (.int .i64 kd) ∧ w1.cell? ⟨bx, 1, none⟩ = some (.int .i64 ps) ∧ w1.cell? ⟨bx, 2, none⟩ = some (.slice ka nk kc) ∧ w1.cell? ⟨bx, 3, none⟩ = some (.string nm) ∧ w1.cell? ⟨bx, 4, none⟩ = some (.int .i64 num) ∧ Below wr.heap.size wr w1 := by
  obtain ⟨x0, x1, x2, x3, x4, y0, y1, y2, y3, y4, hb⟩ := hS
  have hz := hb.size
  have c1 : ∀ i, w1.cell? ⟨nb, i, none⟩ = W.cell? ⟨nb, i, none⟩ := fun i => hb1.cell (p := ⟨nb, i, none⟩) (by simp; omega)
  have d1 : ∀ i, w1.cell? ⟨bx, i, none⟩ = W.cell? ⟨bx, i, none⟩ := fun i => hb1.cell (p := ⟨bx, i, none⟩) (by simp; omega)
  rw [c1, c1, c1, c1, c1, d1, d1, d1, d1, d1]
  exact ⟨x0, x1, x2, x3, x4, y0, y1, y2, y3, y4, hb.trans (hb1.mono hz)⟩

theorem lf_last {wr W : World} {nb o bx nk2 c2 nk kc : Nat} {kd2 ps2 num2 kd ps num : Int} {a2 ka : Option Addr} {nm2 nm : ByteArray}
    (hS : W.cell? ⟨nb, o, none⟩ = some (.int .i64 kd2) ∧ W.cell? ⟨nb, o + 1, none⟩ = some (.int .i64 ps2) ∧ W.cell? ⟨nb, o + 2, none⟩ = some (.slice a2 nk2 c2) ∧ W.cell? ⟨nb, o + 3, none⟩ = some (.string nm2) ∧ W.cell? ⟨nb, o + 4, none⟩ = some (.int .i64 num2)
          ∧ W.cell? ⟨bx, 0, none⟩ = some (.int .i64 kd) ∧ W.cell? ⟨bx, 1, none⟩ = some (.int .i64 ps) ∧ W.cell? ⟨bx, 2, none⟩ = some (.slice ka nk kc) ∧ W.cell? ⟨bx, 3, none⟩ = some (.string nm) ∧ W.cell? ⟨bx, 4, none⟩ = some (.int .i64 num) ∧ Below wr.heap.size wr W) : Below wr.heap.size wr W := hS.2.2.2.2.2.2.2.2.2.2

set_option maxHeartbeats 2000000 in
theorem levelsFit_any (w : World) (B nb no nc : Nat) (l : List Nd) (i : Nat) (ka : Option Addr) (kc : Nat) (n : Nd) (hn : Nodes w B nb no nc l) (hl : Led l i) (hi : i ≤ l.length) (hk : IntsV w B (.slice ka n.kids.length kc) n.kids)
    (hkid : ∀ j (h : j < n.kids.length), ∃ k : Nat, n.kids[j] = (k : Int) ∧ k < i) (h44 : n.kind = 44 → 0 < n.kids.length) :
    Calls Tryz.prog 27 #[.slice (some ⟨nb, no, none⟩) l.length nc, ndV ka kc n] w fun e w' => e = .returned (.bool (levelsFitI l n)) ∧ Below w.heap.size w w' := by
  obtain ⟨kd, ps, ks, nm, num⟩ := n
  unfold ndV
  simp only at *
  obtain ⟨a, cap, he, h1, h2, h3⟩ := hk.ex
  simp only [Value.slice.injEq, true_and] at he
  obtain ⟨rfl, rfl⟩ := he
  have hB := hn.hi
  have hmax := hn.max
  unfold maxLen at hmax h2
  have HW : Bx (∀ pl w', (pl : Nat) ≤ maxLen → Calls Tryz.prog 47 #[.agg #[.int .i64 kd, .int .i64 ps, .slice ka ks.length kc, .string nm, .int .i64 num], .int .i64 pl] w' fun e w'' => e = .returned (.int .i64 (wantedI kd num pl)) ∧ Below w'.heap.size w' w'') := ⟨fun pl w' hp => wanted_any ka kc ⟨kd, ps, ks, nm, num⟩ pl hp w'⟩
  have HX : Bx (Nodes w B nb no nc l ∧ IntsV w B (.slice ka ks.length kc) ks ∧ Led l i) := ⟨hn, hk, hl⟩
  have HK : Bx _ := ⟨h3⟩
  have HF : Bx (levelsFitI l ⟨kd, ps, ks, nm, num⟩ = (levelsGo l ⟨kd, ps, ks, nm, num⟩ 0 (ks.drop 0) && (kd != 44 || !beginsI l (l.length + 1) (ks.getD 0 0)))) := ⟨rfl⟩
  generalize hFF : levelsFitI l ⟨kd, ps, ks, nm, num⟩ = F at *
  clear hFF hn hk hl h3
  go_enter Tryz.func27, Tryz.ntmps27
  go_wp2
  go_loopw [10] (fun x wr => ∃ p : Nat, p ≤ ks.length ∧ x = .int .i64 p ∧ Bx (LfMem w (.cells #[.int .i64 kd, .int .i64 ps, .slice ka ks.length kc, .string nm, .int .i64 num] 44) wr ∧ F = (levelsGo l ⟨kd, ps, ks, nm, num⟩ p (ks.drop p) && (kd != 44 || !beginsI l (l.length + 1) (ks.getD 0 0))))) (fun x _ => ks.length - (intOf x).toNat)
  case atStart => exact ⟨0, Nat.zero_le _, rfl, ⟨Below.refl _ _, HF.out⟩⟩
  case round =>
    obtain ⟨p, hp, rfl, HR⟩ := hrel
    have hsz : w.heap.size + 1 ≤ wr.heap.size := by
      have := HR.out.1.size
      simpa using this
    have hbx := (five_new w kd ps ka ks.length kc nm num).below (B := w.heap.size + 1) HR.out.1 (by omega)
    have hbw := HR.out.1.below
    by_cases hlt : p < ks.length
    · obtain ⟨b, o, rfl, hbB, hcell⟩ := HK.out (by omega)
      obtain ⟨k, hkp, hki⟩ := hkid p hlt
      have hc : wr.cell? ⟨b, o + p, none⟩ = some (.int .i64 (k : Int)) := by rw [hbw.cell (p := ⟨b, o + p, none⟩) (by simp; omega), ← hkp]; exact hcell p hlt
      obtain ⟨a2, c2, hnd⟩ := (HX.out.1.below (hbw.mono hB)).at_ k (by omega)
      have hnb := HX.out.1.lo
      have h5 := hnd.five
      have HV : Bx (∀ w', Calls Tryz.prog 39 #[.agg #[.int .i64 (ndN l k).kind, .int .i64 (ndN l k).pos, .slice a2 (ndN l k).kids.length c2, .string (ndN l k).name, .int .i64 (ndN l k).num]] w' fun e w'' => e = .returned (.int .i64 (levelI (ndN l k).kind (ndN l k).num)) ∧ Below w'.heap.size w' w'') := ⟨fun w' => Level_any a2 c2 (ndN l k) w'⟩
      have HG := levelsGo_drop l ⟨kd, ps, ks, nm, num⟩ ks p hlt
      rw [hkp, ndAt_nat] at HG
      have HG' : Bx _ := ⟨HG⟩
      have hle1 := levelI_le (ndN l k).kind (ndN l k).num
      generalize (ndN l k).kids.length = nk2 at *
      generalize (ndN l k).pos = ps2 at *
      generalize (ndN l k).name = nm2 at *
      generalize hLV : levelI (ndN l k).kind (ndN l k).num = LV at *
      generalize (ndN l k).kind = kd2 at *
      generalize (ndN l k).num = num2 at *
      have hWP := HW.out p
      have HW' : Bx (∀ w', Calls Tryz.prog 47 #[.agg #[.int .i64 kd, .int .i64 ps, .slice (some ⟨b, o, none⟩) ks.length kc, .string nm, .int .i64 num], .int .i64 p] w' fun e w'' => e = .returned (.int .i64 (wantedI kd num p)) ∧ Below w'.heap.size w' w'') := ⟨fun w' => hWP w' (by unfold maxLen; omega)⟩
      generalize wantedI kd num p = WV at *
      have hkl : k < l.length := by omega
      have HB0 : Below wr.heap.size wr wr := Below.refl _ _
      clear HG hWP hnd hcell HF HK hLV
      unfold Five at h5 hbx
      obtain ⟨x0, x1, x2, x3, x4⟩ := h5
      obtain ⟨y0, y1, y2, y3, y4⟩ := hbx
      go_wp2
      go_region_held (fun w' => w'.cell? ⟨nb, no + k * 5, none⟩ = some (.int .i64 kd2) ∧ w'.cell? ⟨nb, no + k * 5 + 1, none⟩ = some (.int .i64 ps2) ∧ w'.cell? ⟨nb, no + k * 5 + 2, none⟩ = some (.slice a2 nk2 c2) ∧ w'.cell? ⟨nb, no + k * 5 + 3, none⟩ = some (.string nm2) ∧ w'.cell? ⟨nb, no + k * 5 + 4, none⟩ = some (.int .i64 num2)
          ∧ w'.cell? ⟨w.heap.size, 0, none⟩ = some (.int .i64 kd) ∧ w'.cell? ⟨w.heap.size, 1, none⟩ = some (.int .i64 ps) ∧ w'.cell? ⟨w.heap.size, 2, none⟩ = some (.slice (some ⟨b, o, none⟩) ks.length kc) ∧ w'.cell? ⟨w.heap.size, 3, none⟩ = some (.string nm) ∧ w'.cell? ⟨w.heap.size, 4, none⟩ = some (.int .i64 num) ∧ Below wr.heap.size wr w')
        (first | exact ⟨x0, x1, x2, x3, x4, y0, y1, y2, y3, y4, HB0.drew⟩ | exact lf_keep hb1 (by omega) (by omega) ‹_›)
        (first | (go_at_call 39; refine Calls.mono (HV.out _) ?_; rintro e w1 ⟨rfl, hb1⟩) | (go_at_call 47; refine Calls.mono (HW'.out _) ?_; rintro e w1 ⟨rfl, hb1⟩))
      all_goals
        have hw1 := lf_last (wr := wr) (W := w1) ‹_›
        by_cases hcmp : LV < WV
        · have HE : Bx (F = false) := ⟨by rw [HR.out.2, HG'.out, if_pos hcmp]; rfl⟩
          go_wp2
          go_ret
          exact ⟨ret_bool HE.out.symm, hbw.trans (hw1.mono (by omega))⟩
        · have HE : Bx (F = (levelsGo l ⟨kd, ps, ks, nm, num⟩ (p + 1) (ks.drop (p + 1)) && (kd != 44 || !beginsI l (l.length + 1) (ks.getD 0 0)))) := ⟨by rw [HR.out.2, HG'.out, if_neg hcmp]⟩
          have HM := HR.out.1
          go_wp2
          go_roundw
          case rel => exact ⟨p + 1, by omega, by go_num, ⟨Below.trans HM (hw1.mono (by omega)), HE.out⟩⟩
          case measure => simp [intOf]; omega
    · have HE : Bx (F = (kd != 44 || !beginsI l (l.length + 1) (ks.getD 0 0))) := ⟨by rw [HR.out.2, levelsGo_end _ _ _ _ (by omega)]; rfl⟩
      unfold Five at hbx
      obtain ⟨y0, y1, y2, y3, y4⟩ := hbx
      have hpe : p = ks.length := by omega
      by_cases hkd : kd = 44
      · obtain ⟨b, o, rfl, hbB, hcell⟩ := HK.out (h44 hkd)
        obtain ⟨k, hkp, hki⟩ := hkid 0 (h44 hkd)
        have hpos := h44 hkd
        have hc : wr.cell? ⟨b, o, none⟩ = some (.int .i64 (k : Int)) := by
          rw [hbw.cell (p := ⟨b, o, none⟩) (by simp; omega), ← hkp]
          have := hcell 0 hpos
          rw [Nat.add_zero] at this
          exact this
        have hgd : ks.getD 0 0 = (k : Int) := by
          rw [List.getD_eq_getElem?_getD, List.getElem?_eq_getElem hpos, hkp]; rfl
        have HC : Bx _ := ⟨begins_any wr B nb no nc l i k (l.length + 1) (HX.out.1.below (hbw.mono hB)) HX.out.2.2 hi hki (by omega)⟩
        rw [hgd] at HE
        have HE' : Bx (F = !beginsI l (l.length + 1) k) := ⟨by rw [HE.out, hkd]; rfl⟩
        generalize beginsI l (l.length + 1) k = bg at *
        subst hkd
        clear HE HR HF HX HW HK hcell hkp hgd
        go_wp2_with (first | (go_at_call 48; refine Calls.mono HC.out ?_; rintro e w1 ⟨rfl, rfl⟩))
        go_ret
        exact ⟨ret_bool HE'.out.symm, hbw⟩
      · have e44 : (kd != 44) = true := by rw [bne_iff_ne]; exact hkd
        have HE' : Bx (F = true) := ⟨by rw [HE.out, e44]; rfl⟩
        clear HE HR HF HX HW HK
        go_wp2
        go_ret
        exact ⟨ret_bool HE'.out.symm, hbw⟩
end Go.Proofs.YtecodpdfckjalaaGreatDoor
namespace Go.Proofs.YtecodpdfckjalaaGreatDoor
set_option linter.unusedVariables false
set_option linter.unusedSimpArgs false

/-- what is wrong with the node i, all ahead of it being right; fs: of each of these the first one below it -/
def checkNodeI (l : List Nd) (fs : List Nat) (i : Nat) : Nat :=
  if kindI (ndN l i).kind = false ∨ (ndN l i).pos < 0 then 20
  else if numFitsI (ndN l i).kind (ndN l i).num (ndN l i).kids.length = false then 23
  else if nameFitsI (ndN l i).kind (ndN l i).name = false then 22
  else if orderI fs i (ndN l i).kids = false ∨ kidsFitI (kdN l) (ndN l i).kind (ndN l i).num ((ndN l i).kids.map Int.toNat) = false then 21
  else if levelsFitI l (ndN l i) = false then 24
  else 0

theorem order_in {fs : List Nat} (hle : ∀ j, j < fs.length → fs.getD j 0 ≤ j) : ∀ (ks : List Int) (nx : Nat), nx ≤ fs.length → orderGo fs nx ks = true → ∀ k ∈ ks, ∃ m : Nat, k = (m : Int) ∧ m < fs.length
  | [], _, _, _, k, hk => by cases hk
  | x :: r, nx, hnx, h, k, hk => by
    rw [orderGo] at h
    split at h
    · rename_i hx
      obtain ⟨y, rfl⟩ : ∃ y : Nat, x = (y : Int) := ⟨x.toNat, by omega⟩
      have hy : y < fs.length := by omega
      rcases List.mem_cons.1 hk with rfl | hk
      · exact ⟨y, rfl, hy⟩
      · rw [Int.toNat_natCast] at h
        have := hle y hy
        exact order_in hle r (fs.getD y 0) (by omega) h k hk
    · cases h
theorem kids_nat {fs : List Nat} (hle : ∀ j, j < fs.length → fs.getD j 0 ≤ j) {kids : List Int} (h : orderI fs fs.length kids = true) :
    (kids.map Int.toNat).map (fun k : Nat => (k : Int)) = kids ∧ ∀ k ∈ kids.map Int.toNat, k < fs.length := by
  have hin := order_in hle kids.reverse fs.length (Nat.le_refl _) h
  constructor
  · rw [List.map_map]
    conv => rhs; rw [← List.map_id kids]
    apply List.map_congr_left
    intro k hk
    obtain ⟨m, rfl, _⟩ := hin k (by simpa using hk)
    simp
  · intro k hk
    obtain ⟨x, hx, rfl⟩ := List.mem_map.1 hk
    obtain ⟨m, rfl, hm⟩ := hin x (by simpa using hx)
    simpa using hm
theorem kids_at {fs : List Nat} (hle : ∀ j, j < fs.length → fs.getD j 0 ≤ j) {kids : List Int} (h : orderI fs fs.length kids = true) (j : Nat) (hj : j < kids.length) : ∃ k : Nat, kids[j] = (k : Int) ∧ k < fs.length :=
  order_in hle kids.reverse fs.length (Nat.le_refl _) h _ (by simp)
end Go.Proofs.YtecodpdfckjalaaGreatDoor
