import Derived.Test.YtijdcplffmdijaaDoorCDKu
namespace Go.Proofs.YtijdcplffmdijaaDoor
open Go.RowKit
set_option linter.unusedVariables false
set_option linter.unusedSimpArgs false

/-- the reference's unit -/
def RU (w : World) (B : Nat) (pv tv : Value) (u : CUn) : Prop := OwnL (TyG (IL B)) w B 54 3 tv u.types ∧ OwnL (PgG (IL B) (fun _ _ => True) B w.heap.size) w B 57 5 pv u.progs
theorem RU.nil (w : World) (B : Nat) : RU w B (.slice none 0 0) (.slice none 0 0) ⟨[], []⟩ := ⟨OwnL.nil _ _ _ _ _, OwnL.nil _ _ _ _ _⟩
theorem RU.slices {w : World} {B : Nat} {pv tv : Value} {u : CUn} (h : RU w B pv tv u) : ∃ pa pc ta tc, pv = .slice pa u.progs.length pc ∧ tv = .slice ta u.types.length tc ∧ UnIn w w.heap.size pa pc ta tc u := by
  obtain ⟨h1, h2⟩ := h
  obtain ⟨ta, tc, rfl, ht⟩ := h1.row tyG_len (tyG_at (ok_IL B) (w := w))
  obtain ⟨pa, pc, rfl, hp⟩ := h2.row pgG_len (pgG_at (ok_IL B) (w := w))
  exact ⟨pa, pc, ta, tc, rfl, rfl, hp, ht⟩
theorem RU.unit {w : World} {B pc tc : Nat} {pa ta : Option Addr} {u : CUn} (h : RU w B (.slice pa u.progs.length pc) (.slice ta u.types.length tc) u) : UnIn w w.heap.size pa pc ta tc u := by
  obtain ⟨pa', pc', ta', tc', e1, e2, h⟩ := h.slices
  injection e1 with e1 _ e3
  injection e2 with e2 _ e4
  subst e1 e2 e3 e4
  exact h
/-- blocks from B on stay -/
theorem il_up {B : Nat} {w w' : World} (hs : w.heap.size ≤ w'.heap.size) (hu : ∀ x, B ≤ x → x < w.heap.size → w'.heap[x]? = w.heap[x]?) (a : Option Addr) (c : Nat) (ks : List Int) (h : IL B w a c ks) : IL B w' a c ks := by
  refine ⟨⟨h.1.cap, h.1.max, fun h0 => ?_⟩, h.2⟩
  obtain ⟨b, o, cu, fz, e, hb, hc⟩ := h.1.at_ h0
  obtain ⟨b', o', e', hB⟩ := h.2 h0
  rw [e] at e'
  injection e' with e'
  injection e' with e' _
  subst e'
  have hk := hu b hB (Array.getElem?_eq_some_iff.1 hb).1
  exact ⟨b, o, cu, fz, e, hk.trans hb, fun i hi => by rw [World.cell?_of_block (w := w) hk]; exact hc i hi⟩
theorem kp_up {B : Nat} {w w' : World} (hs : w.heap.size ≤ w'.heap.size) (hu : ∀ x, B ≤ x → x < w.heap.size → w'.heap[x]? = w.heap[x]?) : Kp (fun b _ => B ≤ b) w w' := ⟨hs, fun b c t fz hb hp => hu b hp (Array.getElem?_eq_some_iff.1 hb).1⟩
theorem OwnL.from {α : Type} {R : World → α → List Value → Prop} {w : World} {B s : Nat} {e : TypeId} {v : Value} {l : List α} (h : OwnL R w B e s v l) : ∀ g, v.ownBlock = some g → B ≤ g := fun g hg => by
  obtain ⟨cs, _, h2⟩ := h.ex
  exact (owns_block h2 hg).1
theorem RU.up {B : Nat} {w w' : World} {pv tv : Value} {u : CUn} (h : RU w B pv tv u) (hs : w.heap.size ≤ w'.heap.size) (hu : ∀ x, B ≤ x → x < w.heap.size → w'.heap[x]? = w.heap[x]?) : RU w' B pv tv u := by
  have hk := kp_up hs hu
  refine ⟨h.1.to (TyG.to (il_up hs hu)) hk h.1.from, h.2.to ?_ hk h.2.from⟩
  rintro p c ⟨v, e, q1, q2⟩
  exact ⟨v, e, q1.to (InG.to (il_up hs hu)) hk q1.from, fun g hg => ⟨Nat.lt_of_lt_of_le (q2 g hg).1 hs, trivial⟩⟩
theorem UO.up {B : Nat} {w w' : World} {pv tv : Value} {u : CUn} (h : UO w B pv tv u) (hs : w.heap.size ≤ w'.heap.size) (hu : ∀ x, B ≤ x → x < w.heap.size → w'.heap[x]? = w.heap[x]?) : UO w' B pv tv u := by
  have hk := kp_up hs hu
  obtain ⟨L, K, h1, h2⟩ := h
  have hi : ∀ a c ks, IOw L B w a c ks → IOw L B w' a c ks := fun a c ks hx => ⟨owns_on hx.1 hk fun g hg => (owns_block hx.1 hg).1, hx.2⟩
  refine ⟨L, K, h1.to (TyG.to hi) hk h1.from, h2.to ?_ hk h2.from⟩
  rintro p c ⟨v, e, q1, q2⟩
  exact ⟨v, e, q1.to (InG.to hi) hk q1.from, fun g hg => ⟨Nat.lt_of_lt_of_le (q2 g hg).1 hs, (q2 g hg).2⟩⟩
theorem UR.own {w : World} {B ub : Nat} {u : CUn} (h : UR w B ub u) : ∃ pa pc ta tc, w.heap[ub]? = some (.cells #[.slice pa u.progs.length pc, .slice ta u.types.length tc] 36 (0, 0)) ∧ RU w B (.slice pa u.progs.length pc) (.slice ta u.types.length tc) u := by
  obtain ⟨pv, tv, pcs, cut, h1, h2, h3, h4, h5, h6⟩ := h.ex
  have h : RU w B pv tv u := ⟨h2, pcs, h6.allJ h4 h5 (fun _ _ _ h => h) (fun _ _ _ _ _ => trivial), h3⟩
  obtain ⟨pa, pc, ta, tc, rfl, rfl, _⟩ := h.slices
  exact ⟨pa, pc, ta, tc, h1, h⟩
theorem UR.setR {w : World} {B ub rb i : Nat} {u : CUn} {C : Array Value} {v : Value} (h : UR w B ub u) (hr : w.heap[rb]? = some (.cells C 36 (0, 0))) (hne : ub ≠ rb) : UR (w.setCell ⟨rb, i, none⟩ v) B ub u := by
  obtain ⟨pv, tv, pcs, cut, h1, h2, h3, h4, h5, h6⟩ := h.ex
  have hk := Kp.set (i := i) (v := v) hr
  have hi : ∀ a c ks, IL B w a c ks → IL B (w.setCell ⟨rb, i, none⟩ v) a c ks := fun _ _ _ h => (ok_IL B).on h (hk.ki fun _ => by decide)
  exact ⟨pv, tv, pcs, cut, (Below.heap_setCell w ⟨rb, i, none⟩ v ub hne).trans h1, h2.to (TyG.to hi) hk fun _ _ => by decide, owns_on h3 hk fun _ _ => by decide, h4, Nat.le_trans h5 hk.size, h6.to hi hk fun _ => by decide⟩
/-- what the reference's Parse answers, and leaves -/
def ParR (w : World) (r : CUn × Nat × Int) (e : Ending) (w' : World) : Prop := ∃ pa pc ta tc, e = .returned (.tuple #[.agg #[.slice pa r.1.progs.length pc, .slice ta r.1.types.length tc], .int .i64 r.2.1, .int .i64 r.2.2]) ∧ Bx (RU w' (w.heap.size + 1) (.slice pa r.1.progs.length pc) (.slice ta r.1.types.length tc) r.1 ∧ Below w.heap.size w w')
/-- in its midst -/
structure PR (w : World) (text : List UInt8) (i f k : Nat) (u : CUn) (wr : World) : Prop where
  bel : Below w.heap.size w wr
  res : wr.heap[w.heap.size]? = some (.cells #[.slice none 0 0, .slice none 0 0] 36 (0, 0))
  ur : UR wr (w.heap.size + 1) (w.heap.size + 1) u
  rd : rd (text.drop f) u (k + 1) = readU text
  sz : szU u = k
  few : k ≤ f
  fi : f ≤ i
  no : (10 : UInt8) ∉ (text.drop f).take (i - f)
theorem take_one (text : List UInt8) (f i : Nat) (hf : f ≤ i) (hi : i < text.length) : (text.drop f).take (i + 1 - f) = (text.drop f).take (i - f) ++ [text[i]] := by
  rw [show i + 1 - f = (i - f) + 1 by omega, List.take_succ_eq_append_getElem (by rw [List.length_drop]; omega), List.getElem_drop]
  congr 2
  simp [show f + (i - f) = i by omega]
theorem PR.go {w wr : World} {text : List UInt8} {i f k : Nat} {u : CUn} (h : PR w text i f k u wr) (hi : i < text.length) (hc : text[i] ≠ 10) : PR w text (i + 1) f k u wr := by
  refine ⟨h.bel, h.res, h.ur, h.rd, h.sz, h.few, by have := h.fi; omega, ?_⟩
  rw [take_one text f i h.fi hi, List.mem_append, not_or]
  exact ⟨h.no, by simpa using fun e => hc e.symm⟩
theorem drop_cutR (text : List UInt8) (f i : Nat) (hf : f ≤ i) (hi : i < text.length) (hc : text[i] = 10) : text.drop f = (text.drop f).take (i - f) ++ 10 :: text.drop (i + 1) := by
  have e := (List.take_append_drop (i - f) (text.drop f)).symm
  rw [List.drop_drop, show f + (i - f) = i by omega, List.drop_eq_getElem_cons hi, hc] at e
  exact e
set_option maxRecDepth 100000 in
set_option maxHeartbeats 4000000 in
theorem rParse_any (w : World) (text : List UInt8) (hlen : text.length ≤ 549755813888) :
    Calls Tryd.prog 27 #[strV text] w (ParR w (readU text)) := by
  obtain ⟨w0, hw0⟩ : ∃ w0, w0 = (w.alloc (.cells #[.slice none 0 0, .slice none 0 0] 36)).alloc (.cells #[.slice none 0 0, .slice none 0 0] 36) := ⟨_, rfl⟩
  have hb0 : Below w.heap.size w w0 := by rw [hw0]; exact (below1 w _).trans ((below1 _ _).mono (by simp))
  have hr0 : w0.heap[w.heap.size]? = some (.cells #[.slice none 0 0, .slice none 0 0] 36 (0, 0)) := by rw [hw0]; exact below_heap (below1 _ _) (heap_new w _)
  have hu0 : w0.heap[w.heap.size + 1]? = some (.cells #[.slice none 0 0, .slice none 0 0] 36 (0, 0)) := by rw [hw0]; exact heap_newH _ _ _ (by simp)
  have HP0 : Bx (PR w text 0 0 0 ⟨[], []⟩ w0) := ⟨⟨hb0, hr0, UG.new _ _ hu0 (Nat.le_of_lt (Array.getElem?_eq_some_iff.1 hu0).1), (readU_rd text).symm, rfl, Nat.le_refl _, Nat.le_refl _, by simp⟩⟩
  obtain ⟨TL, hTL⟩ : ∃ TL, text.length = TL := ⟨_, rfl⟩
  have HTL : Bx _ := ⟨hTL⟩
  have hLN : TL ≤ 549755813888 := by omega
  clear hb0 hr0 hu0 hlen hTL
  show Calls Tryd.prog 27 #[.string ⟨text.toArray⟩] w _
  have hss : (⟨text.toArray⟩ : ByteArray).size = TL := by show text.toArray.size = TL; simpa using HTL.out
  go_enter Tryd.func27, Tryd.ntmps27
  go_wp2
  rw [← hw0]
  clear hw0
  go_loopw [8, 7, 6] (fun x y z wr => ∃ i f k u, i ≤ TL ∧ x = .int .i64 ((i : Nat) : Int) ∧ y = .int .i64 ((f : Nat) : Int) ∧ z = .int .i64 ((k : Nat) : Int) ∧ Bx (PR w text i f k u wr)) (fun x _ _ _ => TL + 1 - (intOf x).toNat)
  case atStart => exact ⟨0, 0, 0, ⟨[], []⟩, Nat.zero_le _, rfl, rfl, rfl, HP0⟩
  case round =>
    obtain ⟨i, f, k, u, hi, rfl, rfl, rfl, HP⟩ := hrel
    clear HP0
    have e1 := HP.out.res
    have hfi := HP.out.fi
    have hfew := HP.out.few
    by_cases hil : i < TL
    · have hil2 : (i : Int) < (TL : Int) := by omega
      have hi0 : (0 : Int) ≤ (i : Int) := by omega
      have hit : i < text.length := by rw [HTL.out]; exact hil
      have hsz : i < (⟨text.toArray⟩ : ByteArray).size := by rw [hss]; exact hil
      by_cases h3 : text[i]'hit = 10
      · have hc3 : ∀ hi, (⟨text.toArray⟩ : ByteArray)[i]'hi = 10 := fun hi => h3
        have hfi2 : (f : Int) ≤ (i : Int) := by omega
        have hf0 : (0 : Int) ≤ (f : Int) := by omega
        have hdc := drop_cutR text f i hfi hit h3
        have hno := HP.out.no
        have HA : Bx (Calls Tryd.prog 51 #[.pointer (some ⟨w.heap.size + 1, 0, none⟩), .string ((⟨text.toArray⟩ : ByteArray).extract f i)] wr (AR wr (w.heap.size + 1) (w.heap.size + 1) u (addL u ((text.drop f).take (i - f))))) := ⟨by
          rw [← ext_str]
          exact radds_any wr _ _ u HP.out.ur (Nat.le_refl _) _ (by rw [List.length_take, List.length_drop, HTL.out]; omega) (by have := HP.out.sz; omega)⟩
        have hkw : IntKind.i64.wrap ((k : Int) + 1) = (k : Int) + 1 := by
          have e : IntKind.i64.bits = 64 := rfl
          unfold IntKind.wrap
          simp [e, IntKind.signed]
          omega
        generalize (text.drop f).take (i - f) = line at *
        cases hadd : addL u line with
        | none =>
          have hrd : readU text = (⟨[], []⟩, k + 1, 80) := by rw [← HP.out.rd, hdc, rd_none hno hadd]
          rw [hadd] at HA
          clear hadd hdc hno h3 e1
          go_wp2_with (first
            | (go_at_call 51; refine HA.out.mono ?_; rintro e w2 ⟨b, rfl, HR⟩; have hbb : b = false := HR.out.1; subst hbb
               have e0 : w2.heap[w.heap.size]? = some (.cells #[.slice none 0 0, .slice none 0 0] 36 (0, 0)) := (by rw [HR.out.2.block _ (by omega)]; exact HP.out.res)
               have HB2 : Bx (Below w.heap.size w w2) := ⟨HP.out.bel.trans (HR.out.2.mono (by omega))⟩
               have c0 : w2.cell? ⟨w.heap.size, 0, none⟩ = some (.slice none 0 0) := cell_blk e0 rfl
               have c1 : w2.cell? ⟨w.heap.size, 1, none⟩ = some (.slice none 0 0) := cell_blk e0 rfl
               have f0 : w2.frozen? ⟨w.heap.size, 0, none⟩ = false := (by simp [World.frozen?, e0])
               have f1 : w2.frozen? ⟨w.heap.size, 1, none⟩ = false := (by simp [World.frozen?, e0])
               have hq : w.heap.size < w2.heap.size := (Array.getElem?_eq_some_iff.1 e0).1
               clear e0))
          refine bodyPost_ret (v := .tuple #[.agg #[.slice none 0 0, .slice none 0 0], .int .i64 ((k : Int) + 1), .int .i64 80]) (by simp [results, Tryd.results27, go_sem, c0, c1, hq]) rfl ?_
          try rw [hrd]
          refine ⟨none, 0, none, 0, by simp, ⟨RU.nil _ _, ?_⟩⟩
          exact (HB2.out.setCell (p := ⟨w.heap.size, 0, none⟩) (Nat.le_refl _) _).setCell (p := ⟨w.heap.size, 1, none⟩) (Nat.le_refl _) _
        | some u' =>
          have hrd : rd (text.drop (i + 1)) u' (k + 1 + 1) = readU text := by rw [← HP.out.rd, hdc, rd_some hno hadd]
          have hsz2 := addL_sz hadd
          have HNX : Bx (∀ w2, Below (w.heap.size + 1) wr w2 → UR w2 (w.heap.size + 1) (w.heap.size + 1) u' → PR w text (i + 1) (i + 1) (k + 1) u' w2) := ⟨fun w2 h2 h3 => ⟨HP.out.bel.trans (h2.mono (by omega)), by rw [h2.block _ (by omega)]; exact HP.out.res, h3, hrd, by have := HP.out.sz; omega, by omega, Nat.le_refl _, by simp⟩⟩
          rw [hadd] at HA
          clear hadd hdc hno h3 e1 hrd hsz2
          go_wp2_with (first
            | (go_at_call 51; refine HA.out.mono ?_; rintro e w2 ⟨b, rfl, HR⟩; have hbb : b = true := HR.out.1; subst hbb
               have H2 : Bx _ := ⟨HNX.out w2 HR.out.2.1 HR.out.2.2⟩))
          go_roundw
          case rel => exact ⟨i + 1, i + 1, k + 1, u', by omega, by first | rfl | simp, by first | rfl | simp, by first | rfl | simp, H2⟩
          case measure => simp only [intOf]; omega
      · have hc3 : ¬ (((⟨text.toArray⟩ : ByteArray)[i]'hsz).toNat : Int) = 10 := fun h => h3 (UInt8.toNat_inj.1 (by have h : ((text[i]).toNat : Int) = 10 := h; show text[i].toNat = 10; omega))
        have hc4 : ((((⟨text.toArray⟩ : ByteArray)[i]'hsz).toNat : Int) != 10) = true := by simpa using hc3
        have HNX : Bx (PR w text (i + 1) f k u wr) := ⟨HP.out.go hit h3⟩
        clear HP e1 h3
        go_wp2
        go_roundw
        case rel => exact ⟨i + 1, f, k, u, by omega, by first | rfl | simp, rfl, rfl, HNX⟩
        case measure => simp only [intOf]; omega
    · have hie : i = TL := by omega
      subst hie
      have q1 : ¬ (i : Int) < (i : Int) := by omega
      by_cases hfl : f < i
      · have hrd : readU text = (⟨[], []⟩, k + 1, 80) := by
          rw [← HP.out.rd]
          refine rd_open ?_ (fun e => ?_)
          · have := HP.out.no
            rwa [List.take_of_length_le (by rw [List.length_drop, HTL.out]; omega)] at this
          · have := congrArg List.length e
            rw [List.length_drop, HTL.out] at this
            simp at this
            omega
        have q2 : (f : Int) < (i : Int) := by omega
        have hkw : IntKind.i64.wrap ((k : Int) + 1) = (k : Int) + 1 := by
          have e : IntKind.i64.bits = 64 := rfl
          unfold IntKind.wrap
          simp [e, IntKind.signed]
          omega
        have c0 : wr.cell? ⟨w.heap.size, 0, none⟩ = some (.slice none 0 0) := cell_blk e1 rfl
        have c1 : wr.cell? ⟨w.heap.size, 1, none⟩ = some (.slice none 0 0) := cell_blk e1 rfl
        have f0 : wr.frozen? ⟨w.heap.size, 0, none⟩ = false := (by simp [World.frozen?, e1])
        have f1 : wr.frozen? ⟨w.heap.size, 1, none⟩ = false := (by simp [World.frozen?, e1])
        have hq : w.heap.size < wr.heap.size := (Array.getElem?_eq_some_iff.1 e1).1
        clear e1
        go_wp2
        refine bodyPost_ret (v := .tuple #[.agg #[.slice none 0 0, .slice none 0 0], .int .i64 ((k : Int) + 1), .int .i64 80]) (by simp [results, Tryd.results27, go_sem, c0, c1, hq]) rfl ?_
        try rw [hrd]
        refine ⟨none, 0, none, 0, by simp, ⟨RU.nil _ _, ?_⟩⟩
        exact (HP.out.bel.setCell (p := ⟨w.heap.size, 0, none⟩) (Nat.le_refl _) _).setCell (p := ⟨w.heap.size, 1, none⟩) (Nat.le_refl _) _
      · have q2 : ¬ (f : Int) < (i : Int) := by omega
        have hrd : readU text = (u, 0, 0) := by rw [← HP.out.rd, List.drop_eq_nil_of_le (by rw [HTL.out]; omega), rd_nil]
        obtain ⟨pa, pc, ta, tc, hub, _⟩ := UR.own HP.out.ur
        have d0 : wr.cell? ⟨w.heap.size + 1, 0, none⟩ = some (.slice pa u.progs.length pc) := cell_blk hub rfl
        have d1 : wr.cell? ⟨w.heap.size + 1, 1, none⟩ = some (.slice ta u.types.length tc) := cell_blk hub rfl
        have hq1 : w.heap.size + 1 < wr.heap.size := (Array.getElem?_eq_some_iff.1 hub).1
        have HFI : Bx (RU ((wr.setCell ⟨w.heap.size, 0, none⟩ (.slice pa u.progs.length pc)).setCell ⟨w.heap.size, 1, none⟩ (.slice ta u.types.length tc)) (w.heap.size + 1) (.slice pa u.progs.length pc) (.slice ta u.types.length tc) u) := ⟨by
          have r1 := heap_setCell_same wr w.heap.size 0 _ _ (.slice pa u.progs.length pc) HP.out.res
          have x1 := UR.setR (i := 0) (v := .slice pa u.progs.length pc) HP.out.ur HP.out.res (by omega)
          have x2 := UR.setR (i := 1) (v := .slice ta u.types.length tc) x1 r1 (by omega)
          obtain ⟨pa', pc', ta', tc', hub', hx⟩ := UR.own x2
          rw [Below.heap_setCell _ _ _ _ (by simp), Below.heap_setCell _ _ _ _ (by simp), hub] at hub'
          simp only [Option.some.injEq, Obj.cells.injEq, and_true, Array.mk.injEq, List.cons.injEq, Value.slice.injEq, true_and] at hub'
          obtain ⟨⟨rfl, rfl⟩, rfl, rfl⟩ := hub'
          exact hx⟩
        have c0 : wr.cell? ⟨w.heap.size, 0, none⟩ = some (.slice none 0 0) := cell_blk e1 rfl
        have c1 : wr.cell? ⟨w.heap.size, 1, none⟩ = some (.slice none 0 0) := cell_blk e1 rfl
        have f0 : wr.frozen? ⟨w.heap.size, 0, none⟩ = false := (by simp [World.frozen?, e1])
        have f1 : wr.frozen? ⟨w.heap.size, 1, none⟩ = false := (by simp [World.frozen?, e1])
        have hq : w.heap.size < wr.heap.size := (Array.getElem?_eq_some_iff.1 e1).1
        clear e1
        have HB : Bx _ := ⟨HP.out.bel⟩
        have HRD : Bx _ := ⟨hrd⟩
        clear hub hrd HP
        go_wp2
        refine bodyPost_ret (v := .tuple #[.agg #[.slice pa u.progs.length pc, .slice ta u.types.length tc], .int .i64 0, .int .i64 0]) (by simp [results, Tryd.results27, go_sem, c0, c1, hq]) rfl ?_
        rw [HRD.out]
        exact ⟨pa, pc, ta, tc, rfl, ⟨HFI.out, (HB.out.setCell (p := ⟨w.heap.size, 0, none⟩) (Nat.le_refl _) _).setCell (p := ⟨w.heap.size, 1, none⟩) (Nat.le_refl _) _⟩⟩
end Go.Proofs.YtijdcplffmdijaaDoor
