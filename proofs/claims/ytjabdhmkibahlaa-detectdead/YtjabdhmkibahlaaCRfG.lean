import Derived.Test.YtjabdhmkibahlaaCRfF
namespace Go.Proofs.Ytjabdhmkibahlaa
open Go.RowKit
set_option linter.unusedVariables false
set_option linter.unusedSimpArgs false

/-! ### the reference's link of a level -/
def lk1I (s : List Ag) (me : Nat) (id : Int) (lv : List Int) (k : Int) (x : Hd) : Option Lk := if k = 0 then fsI s me id lv x else (hlI s me lv k x.chan).map fun j => ⟨j, id, x.chan⟩
def lnI (s : List Ag) (me : Nat) (id : Int) (lv : List Int) (k : Int) (arms : List Hd) : Option Lk := arms.findSome? (lk1I s me id lv k)
theorem set3_facts {w V : World} {rb : Nat} {x0 x1 x2 : Int} {l : Lk} (hr : V.heap[rb]? = some (.cells #[.int .i64 x0, .int .i64 x1, .int .i64 x2] 24 (0, 0))) (h2 : w.heap.size ≤ rb) (hb : Below w.heap.size w V) :
    (V.cell? ⟨rb, 0, none⟩ = some (.int .i64 x0) ∧ V.cell? ⟨rb, 1, none⟩ = some (.int .i64 x1) ∧ V.cell? ⟨rb, 2, none⟩ = some (.int .i64 x2) ∧ ∀ k, V.frozen? ⟨rb, k, none⟩ = false) ∧
    ∀ Z, ((V.setCell ⟨rb, 0, none⟩ (.int .i64 l.waker)).setCell ⟨rb, 1, none⟩ (.int .i64 l.woken)).setCell ⟨rb, 2, none⟩ (.int .i64 l.chan) = Z → (Z.cell? ⟨rb, 0, none⟩ = some (.int .i64 l.waker) ∧ Z.cell? ⟨rb, 1, none⟩ = some (.int .i64 l.woken) ∧ Z.cell? ⟨rb, 2, none⟩ = some (.int .i64 l.chan)) ∧ Below w.heap.size w Z := by
  refine ⟨⟨cell_of hr rfl, cell_of hr rfl, cell_of hr rfl, fun k => by simp [World.frozen?, hr]⟩, fun Z hZ => ?_⟩
  have k3 : Z.heap[rb]? = some (.cells #[.int .i64 l.waker, .int .i64 l.woken, .int .i64 l.chan] 24 (0, 0)) := by
    rw [← hZ]
    exact blk_set (blk_set (blk_set hr 0 _) 1 _) 2 _
  refine ⟨⟨cell_of k3 rfl, cell_of k3 rfl, cell_of k3 rfl⟩, ?_⟩
  rw [← hZ]
  exact ((hb.setCell (p := ⟨rb, 0, none⟩) h2 _).setCell (p := ⟨rb, 1, none⟩) h2 _).setCell (p := ⟨rb, 2, none⟩) h2 _
set_option maxRecDepth 100000 in
set_option maxHeartbeats 1000000 in
theorem rlink0_any (w : World) (p : Option Addr) (c : Nat) (s : List Ag) (h : AgsR w p c s) (hl4 : s.length ≤ 4096) (me : Nat) (hme : me < s.length) (q : Option Addr) (d : Nat) (lv : List Int) (hq : IntsR w q d lv) (hlv : lv.length = s.length) :
    Calls Try.prog 69 #[.slice p s.length c, .int .i64 (me : Int), .slice q s.length d, .int .i64 0] w fun e w' => e = .returned (lT (lnI s me s[me].id lv 0 s[me].arms)) ∧ Below w.heap.size w w' := by
  have hlc := h.len
  have hcm := h.max
  unfold maxLen at hcm
  obtain ⟨b, o, ap, ac, hp, hc, rfl, hA, hcl⟩ := h.at_ me hme
  have HFI : Bx (∀ U, Below w.heap.size w U → ∀ xc xs, I64 xc → Calls Try.prog 83 #[.slice (some ⟨b, o, none⟩) s.length c, .int .i64 (me : Int), .slice q s.length d, .agg #[.int .i64 xc, .bool xs]] U fun e w' => e = .returned (lT (fsI s me s[me].id lv ⟨xc, xs⟩)) ∧ Below U.heap.size U w') := ⟨fun U hU xc xs hx => rfirst_any U _ c s (h.later hU) hl4 me hme q d lv (hq.later hU) hlv xc xs hx⟩
  have HAR : Bx (HdsR w ap ac s[me].arms) := ⟨hA.arms⟩
  have al := hA.arms.len
  have am := hA.arms.max
  unfold maxLen at am
  obtain ⟨W, hW⟩ : ∃ W, w.alloc (.cells #[.int .i64 0, .int .i64 0, .int .i64 0] 24) = W := ⟨_, rfl⟩
  have hbW : Below w.heap.size w W := by rw [← hW]; exact below1 _ _
  have hkW : W.heap[w.heap.size]? = some (.cells #[.int .i64 0, .int .i64 0, .int .i64 0] 24 (0, 0)) := by rw [← hW]; exact World.alloc_heap_new _ _
  have c2 := (hcl W hbW).2.2.1
  have HWE : Bx (_ = W) := ⟨hW⟩
  have BW : Bx (Below w.heap.size w W ∧ W.heap[w.heap.size]? = some (.cells #[.int .i64 0, .int .i64 0, .int .i64 0] 24 (0, 0))) := ⟨hbW, hkW⟩
  rw [← hW] at c2
  clear hW hbW hkW hcl hA h hq
  generalize s[me].id = sid at *
  generalize s[me].arms = arms at *
  go_enter Try.func69, Try.ntmps69
  go_wp2
  rw [HWE.out]
  clear c2
  go_loopg [22] (arms.length + 1) (fun g v22 wr => ∃ i : Nat, g = arms.length + 1 - i ∧ i ≤ arms.length ∧ v22 = .int .i64 (i : Nat) ∧ Bx (Below w.heap.size w wr ∧ wr.heap[w.heap.size]? = some (.cells #[.int .i64 0, .int .i64 0, .int .i64 0] 24 (0, 0)) ∧ lnI s me sid lv 0 (arms.drop i) = lnI s me sid lv 0 arms))
  case atStart => exact ⟨0, by simp, by omega, rfl, ⟨BW.out.1, BW.out.2, by simp⟩⟩
  case round =>
    obtain ⟨i, hg, hil, rfl, HR⟩ := hrel
    by_cases hlt : i < arms.length
    · obtain ⟨ab, ao, rfl, h64, hac⟩ := HAR.out.at_ i hlt
      obtain ⟨y0, y1⟩ := hac wr HR.out.1
      have HE : Bx (lnI s me sid lv 0 (arms.drop i) = match fsI s me sid lv arms[i] with
        | some l => some l
        | none => lnI s me sid lv 0 (arms.drop (i + 1))) := ⟨by
        unfold lnI
        rw [List.drop_eq_getElem_cons hlt, List.findSome?_cons]
        have : lk1I s me sid lv 0 arms[i] = fsI s me sid lv arms[i] := if_pos rfl
        rw [this]
        cases fsI s me sid lv arms[i] <;> rfl⟩
      clear hac
      generalize arms[i] = y at *
      obtain ⟨yc, ys⟩ := y
      simp only at y0 y1 h64
      obtain ⟨X, hX⟩ : ∃ X, wr.alloc (.cells #[.int .i64 yc, .bool ys] 58) = X := ⟨_, rfl⟩
      have hbX : Below wr.heap.size wr X := by rw [← hX]; exact below1 _ _
      have hkX : X.heap[wr.heap.size]? = some (.cells #[.int .i64 yc, .bool ys] 58 (0, 0)) := by rw [← hX]; exact World.alloc_heap_new _ _
      have m0 : X.cell? ⟨wr.heap.size, 0, none⟩ = some (.int .i64 yc) := cell_of hkX rfl
      have m1 : X.cell? ⟨wr.heap.size, 1, none⟩ = some (.bool ys) := cell_of hkX rfl
      have HXE : Bx (_ = X) := ⟨hX⟩
      have BX : Bx (Below w.heap.size w X ∧ Below wr.heap.size wr X) := ⟨blz HR.out.1 hbX, hbX⟩
      have HFC : Bx (Calls Try.prog 83 #[.slice (some ⟨b, o, none⟩) s.length c, .int .i64 (me : Int), .slice q s.length d, .agg #[.int .i64 yc, .bool ys]] X fun e w' => e = .returned (lT (fsI s me sid lv ⟨yc, ys⟩)) ∧ Below X.heap.size X w') := ⟨HFI.out X BX.out.1 yc ys h64⟩
      have HKP : Bx (∀ U, Below X.heap.size X U → U.heap[w.heap.size]? = some (.cells #[.int .i64 0, .int .i64 0, .int .i64 0] 24 (0, 0))) := ⟨fun U hU => ((blz hbX hU).block _ (Array.getElem?_eq_some_iff.1 HR.out.2.1).1).trans HR.out.2.1⟩
      rw [← hX] at m0 m1
      clear hX hbX hkX h64
      cases hf : fsI s me sid lv ⟨yc, ys⟩ with
      | some l =>
        have HF : Bx (lT (lnI s me sid lv 0 arms) = .tuple #[.agg #[.int .i64 l.waker, .int .i64 l.woken, .int .i64 l.chan], .bool true]) := ⟨by rw [← HR.out.2.2, HE.out, hf]; rfl⟩
        rw [hf] at HFC
        simp only [lT, lk0, lkV, Option.getD_some, Option.isSome_some] at HFC
        go_wp2_with (first | (go_at_call 83; rw [HXE.out]; refine Calls.mono HFC.out ?_; rintro e w5 ⟨rfl, hb5⟩; have B5 : Bx (Below X.heap.size X w5) := ⟨hb5⟩; have k5 := HKP.out (w5.alloc (.cells #[.int .i64 l.waker, .int .i64 l.woken, .int .i64 l.chan] 24)) (blz hb5 (below1 _ _)); obtain ⟨⟨r0, r1, r2, r3⟩, hZZ⟩ := set3_facts (w := w) (l := l) k5 (Nat.le_refl _) (blz BX.out.1 (blz hb5 (below1 _ _))); have HZZ : Bx _ := ⟨hZZ⟩; have n0 : (w5.alloc (.cells #[.int .i64 l.waker, .int .i64 l.woken, .int .i64 l.chan] 24)).cell? ⟨w5.heap.size, 0, none⟩ = some (.int .i64 l.waker) := cell_of (World.alloc_heap_new _ _) rfl; have n1 : (w5.alloc (.cells #[.int .i64 l.waker, .int .i64 l.woken, .int .i64 l.chan] 24)).cell? ⟨w5.heap.size, 1, none⟩ = some (.int .i64 l.woken) := cell_of (World.alloc_heap_new _ _) rfl; have n2 : (w5.alloc (.cells #[.int .i64 l.waker, .int .i64 l.woken, .int .i64 l.chan] 24)).cell? ⟨w5.heap.size, 2, none⟩ = some (.int .i64 l.chan) := cell_of (World.alloc_heap_new _ _) rfl; clear hb5 k5 hZZ))
        obtain ⟨Z, hZ⟩ : ∃ Z, (((w5.alloc (.cells #[.int .i64 l.waker, .int .i64 l.woken, .int .i64 l.chan] 24)).setCell ⟨w.heap.size, 0, none⟩ (.int .i64 l.waker)).setCell ⟨w.heap.size, 1, none⟩ (.int .i64 l.woken)).setCell ⟨w.heap.size, 2, none⟩ (.int .i64 l.chan) = Z := ⟨_, rfl⟩
        obtain ⟨⟨z0, z1, z2⟩, hZl⟩ := HZZ.out Z hZ
        rw [hZ]
        exact bodyPost_ret (v := .tuple #[.agg #[.int .i64 l.waker, .int .i64 l.woken, .int .i64 l.chan], .bool true]) (by simp [results, Try.results69, go_sem, z0, z1, z2]) rfl ⟨by rw [HF.out], hZl⟩
      | none =>
        have HN : Bx (lnI s me sid lv 0 (arms.drop (i + 1)) = lnI s me sid lv 0 arms) := ⟨by rw [← HR.out.2.2, HE.out, hf]⟩
        rw [hf] at HFC
        simp only [lT, lk0, lkV, Option.getD_none, Option.isSome_none] at HFC
        go_wp2_with (first | (go_at_call 83; rw [HXE.out]; refine Calls.mono HFC.out ?_; rintro e w5 ⟨rfl, hb5⟩; have B5 : Bx (Below X.heap.size X (w5.alloc (.cells #[.int .i64 0, .int .i64 0, .int .i64 0] 24))) := ⟨blz hb5 (below1 _ _)⟩; clear hb5))
        go_roundg (arms.length + 1 - (i + 1))
        case measure => omega
        case rel => exact ⟨i + 1, rfl, by omega, by simp, ⟨blz BX.out.1 B5.out, HKP.out _ B5.out, HN.out⟩⟩
    · have hie : i = arms.length := by omega
      subst hie
      have HF : Bx (lT (lnI s me sid lv 0 arms) = .tuple #[.agg #[.int .i64 0, .int .i64 0, .int .i64 0], .bool false]) := ⟨by rw [← HR.out.2.2, List.drop_length]; rfl⟩
      obtain ⟨⟨r0, r1, r2, r3⟩, hZZ⟩ := set3_facts (w := w) (l := ⟨0, 0, 0⟩) HR.out.2.1 (Nat.le_refl _) HR.out.1
      have HZZ : Bx _ := ⟨hZZ⟩
      clear hZZ
      go_wp2
      obtain ⟨Z, hZ⟩ : ∃ Z, ((wr.setCell ⟨w.heap.size, 0, none⟩ (.int .i64 0)).setCell ⟨w.heap.size, 1, none⟩ (.int .i64 0)).setCell ⟨w.heap.size, 2, none⟩ (.int .i64 0) = Z := ⟨_, rfl⟩
      obtain ⟨⟨z0, z1, z2⟩, hZl⟩ := HZZ.out Z hZ
      rw [hZ]
      exact bodyPost_ret (v := .tuple #[.agg #[.int .i64 0, .int .i64 0, .int .i64 0], .bool false]) (by simp [results, Try.results69, go_sem, z0, z1, z2]) rfl ⟨by rw [HF.out], hZl⟩
end Go.Proofs.Ytjabdhmkibahlaa
namespace Go.Proofs.Ytjabdhmkibahlaa
open Go.RowKit
set_option linter.unusedVariables false
set_option linter.unusedSimpArgs false

set_option maxRecDepth 100000 in
set_option maxHeartbeats 1000000 in
theorem rlink1_any (w : World) (p : Option Addr) (c : Nat) (s : List Ag) (h : AgsR w p c s) (hl4 : s.length ≤ 4096) (me : Nat) (hme : me < s.length) (q : Option Addr) (d : Nat) (lv : List Int) (hq : IntsR w q d lv) (hlv : lv.length = s.length) (k : Int) (hk64 : I64 k) (hk0 : k ≠ 0) :
    Calls Try.prog 69 #[.slice p s.length c, .int .i64 (me : Int), .slice q s.length d, .int .i64 k] w fun e w' => e = .returned (lT (lnI s me s[me].id lv k s[me].arms)) ∧ Below w.heap.size w w' := by
  have hlc := h.len
  have hcm := h.max
  unfold maxLen at hcm
  obtain ⟨b, o, ap, ac, hp, hc, rfl, hA, hcl⟩ := h.at_ me hme
  have HFI : Bx (∀ U, Below w.heap.size w U → ∀ xc, I64 xc → Calls Try.prog 84 #[.slice (some ⟨b, o, none⟩) s.length c, .int .i64 (me : Int), .slice q s.length d, .int .i64 k, .int .i64 xc] U fun e w' => e = .returned (.tuple #[.int .i64 ((hlI s me lv k xc).getD 0), .bool (hlI s me lv k xc).isSome]) ∧ Below U.heap.size U w') := ⟨fun U hU xc hx => rholder_any U _ c s (h.later hU) me (by omega) q d lv (hq.later hU) hlv k xc hx hk64⟩
  have HID : Bx (∀ V, Below w.heap.size w V → V.cell? ⟨b, o + me * 4, none⟩ = some (.int .i64 s[me].id)) := ⟨fun V hV => (hcl V hV).1⟩
  have gk0 : (k == 0) = false := beq_eq_false_iff_ne.2 hk0
  have HAR : Bx (HdsR w ap ac s[me].arms) := ⟨hA.arms⟩
  have al := hA.arms.len
  have am := hA.arms.max
  unfold maxLen at am
  obtain ⟨W, hW⟩ : ∃ W, w.alloc (.cells #[.int .i64 0, .int .i64 0, .int .i64 0] 24) = W := ⟨_, rfl⟩
  have hbW : Below w.heap.size w W := by rw [← hW]; exact below1 _ _
  have hkW : W.heap[w.heap.size]? = some (.cells #[.int .i64 0, .int .i64 0, .int .i64 0] 24 (0, 0)) := by rw [← hW]; exact World.alloc_heap_new _ _
  have c2 := (hcl W hbW).2.2.1
  have HWE : Bx (_ = W) := ⟨hW⟩
  have BW : Bx (Below w.heap.size w W ∧ W.heap[w.heap.size]? = some (.cells #[.int .i64 0, .int .i64 0, .int .i64 0] 24 (0, 0))) := ⟨hbW, hkW⟩
  rw [← hW] at c2
  clear hW hbW hkW hcl hA h hq
  generalize s[me].id = sid at *
  generalize s[me].arms = arms at *
  go_enter Try.func69, Try.ntmps69
  go_wp2
  rw [HWE.out]
  clear c2
  go_loopg [22] (arms.length + 1) (fun g v22 wr => ∃ i : Nat, g = arms.length + 1 - i ∧ i ≤ arms.length ∧ v22 = .int .i64 (i : Nat) ∧ Bx (Below w.heap.size w wr ∧ wr.heap[w.heap.size]? = some (.cells #[.int .i64 0, .int .i64 0, .int .i64 0] 24 (0, 0)) ∧ lnI s me sid lv k (arms.drop i) = lnI s me sid lv k arms))
  case atStart => exact ⟨0, by simp, by omega, rfl, ⟨BW.out.1, BW.out.2, by simp⟩⟩
  case round =>
    obtain ⟨i, hg, hil, rfl, HR⟩ := hrel
    by_cases hlt : i < arms.length
    · obtain ⟨ab, ao, rfl, h64, hac⟩ := HAR.out.at_ i hlt
      obtain ⟨y0, y1⟩ := hac wr HR.out.1
      have HE : Bx (lnI s me sid lv k (arms.drop i) = match hlI s me lv k arms[i].chan with
        | some j => some ⟨j, sid, arms[i].chan⟩
        | none => lnI s me sid lv k (arms.drop (i + 1))) := ⟨by
        unfold lnI
        rw [List.drop_eq_getElem_cons hlt, List.findSome?_cons]
        have : lk1I s me sid lv k arms[i] = (hlI s me lv k arms[i].chan).map fun j => ⟨j, sid, arms[i].chan⟩ := if_neg hk0
        rw [this]
        cases hlI s me lv k arms[i].chan <;> rfl⟩
      clear hac
      generalize arms[i] = y at *
      obtain ⟨yc, ys⟩ := y
      simp only at y0 y1 h64 HE
      obtain ⟨X, hX⟩ : ∃ X, wr.alloc (.cells #[.int .i64 yc, .bool ys] 58) = X := ⟨_, rfl⟩
      have hbX : Below wr.heap.size wr X := by rw [← hX]; exact below1 _ _
      have hkX : X.heap[wr.heap.size]? = some (.cells #[.int .i64 yc, .bool ys] 58 (0, 0)) := by rw [← hX]; exact World.alloc_heap_new _ _
      have m0 : X.cell? ⟨wr.heap.size, 0, none⟩ = some (.int .i64 yc) := cell_of hkX rfl
      have m1 : X.cell? ⟨wr.heap.size, 1, none⟩ = some (.bool ys) := cell_of hkX rfl
      have HXE : Bx (_ = X) := ⟨hX⟩
      have BX : Bx (Below w.heap.size w X ∧ Below wr.heap.size wr X) := ⟨blz HR.out.1 hbX, hbX⟩
      have HFC : Bx (Calls Try.prog 84 #[.slice (some ⟨b, o, none⟩) s.length c, .int .i64 (me : Int), .slice q s.length d, .int .i64 k, .int .i64 yc] X fun e w' => e = .returned (.tuple #[.int .i64 ((hlI s me lv k yc).getD 0), .bool (hlI s me lv k yc).isSome]) ∧ Below X.heap.size X w') := ⟨HFI.out X BX.out.1 yc h64⟩
      have HMX : Bx (∀ U, Below X.heap.size X U → U.cell? ⟨wr.heap.size, 0, none⟩ = some (.int .i64 yc)) := ⟨fun U hU => cell_of ((hU.block _ (Array.getElem?_eq_some_iff.1 hkX).1).trans hkX) rfl⟩
      have HKP : Bx (∀ U, Below X.heap.size X U → U.heap[w.heap.size]? = some (.cells #[.int .i64 0, .int .i64 0, .int .i64 0] 24 (0, 0))) := ⟨fun U hU => ((blz hbX hU).block _ (Array.getElem?_eq_some_iff.1 HR.out.2.1).1).trans HR.out.2.1⟩
      rw [← hX] at m0 m1
      clear hX hbX hkX h64
      cases hf : hlI s me lv k yc with
      | some jj =>
        have HF : Bx (lT (lnI s me sid lv k arms) = .tuple #[.agg #[.int .i64 jj, .int .i64 sid, .int .i64 yc], .bool true]) := ⟨by rw [← HR.out.2.2, HE.out, hf]; rfl⟩
        rw [hf] at HFC
        simp only [Option.getD_some, Option.isSome_some] at HFC
        go_wp2_with (first | (go_at_call 84; rw [HXE.out]; refine Calls.mono HFC.out ?_; rintro e w5 ⟨rfl, hb5⟩; have k5 := HKP.out w5 hb5; obtain ⟨⟨r0, r1, r2, r3⟩, hZZ⟩ := set3_facts (w := w) (l := ⟨jj, sid, yc⟩) k5 (Nat.le_refl _) (blz BX.out.1 hb5); have HZZ : Bx _ := ⟨hZZ⟩; have n0 := HMX.out w5 hb5; have n1 := HID.out w5 (blz BX.out.1 hb5); clear hb5 k5 hZZ))
        go_region
        obtain ⟨Z, hZ⟩ : ∃ Z, ((w5.setCell ⟨w.heap.size, 0, none⟩ (.int .i64 jj)).setCell ⟨w.heap.size, 1, none⟩ (.int .i64 sid)).setCell ⟨w.heap.size, 2, none⟩ (.int .i64 yc) = Z := ⟨_, rfl⟩
        obtain ⟨⟨z0, z1, z2⟩, hZl⟩ := HZZ.out Z hZ
        have HZL : Bx (Below w.heap.size w Z.drew) := ⟨hZl.drew⟩
        have t0 : Z.drew.cell? ⟨w.heap.size, 0, none⟩ = some (.int .i64 jj) := z0
        have t1 : Z.drew.cell? ⟨w.heap.size, 1, none⟩ = some (.int .i64 sid) := z1
        have t2 : Z.drew.cell? ⟨w.heap.size, 2, none⟩ = some (.int .i64 yc) := z2
        rw [hZ]
        clear hZ hZl
        go_wp2
        exact bodyPost_ret (v := .tuple #[.agg #[.int .i64 jj, .int .i64 sid, .int .i64 yc], .bool true]) (by simp [results, Try.results69, go_sem, z0, z1, z2, t0, t1, t2]) rfl ⟨by rw [HF.out], HZL.out⟩
      | none =>
        have HN : Bx (lnI s me sid lv k (arms.drop (i + 1)) = lnI s me sid lv k arms) := ⟨by rw [← HR.out.2.2, HE.out, hf]⟩
        rw [hf] at HFC
        simp only [Option.getD_none, Option.isSome_none] at HFC
        go_wp2_with (first | (go_at_call 84; rw [HXE.out]; refine Calls.mono HFC.out ?_; rintro e w5 ⟨rfl, hb5⟩; have B5 : Bx (Below X.heap.size X w5) := ⟨hb5⟩; clear hb5))
        go_roundg (arms.length + 1 - (i + 1))
        case measure => omega
        case rel => exact ⟨i + 1, rfl, by omega, by simp, ⟨blz BX.out.1 B5.out, HKP.out _ B5.out, HN.out⟩⟩
    · have hie : i = arms.length := by omega
      subst hie
      have HF : Bx (lT (lnI s me sid lv k arms) = .tuple #[.agg #[.int .i64 0, .int .i64 0, .int .i64 0], .bool false]) := ⟨by rw [← HR.out.2.2, List.drop_length]; rfl⟩
      obtain ⟨⟨r0, r1, r2, r3⟩, hZZ⟩ := set3_facts (w := w) (l := ⟨0, 0, 0⟩) HR.out.2.1 (Nat.le_refl _) HR.out.1
      have HZZ : Bx _ := ⟨hZZ⟩
      clear hZZ
      go_wp2
      obtain ⟨Z, hZ⟩ : ∃ Z, ((wr.setCell ⟨w.heap.size, 0, none⟩ (.int .i64 0)).setCell ⟨w.heap.size, 1, none⟩ (.int .i64 0)).setCell ⟨w.heap.size, 2, none⟩ (.int .i64 0) = Z := ⟨_, rfl⟩
      obtain ⟨⟨z0, z1, z2⟩, hZl⟩ := HZZ.out Z hZ
      rw [hZ]
      exact bodyPost_ret (v := .tuple #[.agg #[.int .i64 0, .int .i64 0, .int .i64 0], .bool false]) (by simp [results, Try.results69, go_sem, z0, z1, z2]) rfl ⟨by rw [HF.out], hZl⟩
end Go.Proofs.Ytjabdhmkibahlaa
