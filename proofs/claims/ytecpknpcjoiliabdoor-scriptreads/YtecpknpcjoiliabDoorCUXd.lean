import Derived.Test.YtecpknpcjoiliabDoorCUXb
import Derived.Test.YtecpknpcjoiliabDoorCUWb
import Derived.Deep.AppendLies
namespace Go.Proofs.YtecpknpcjoiliabDoor
open Go.RowKit Go.Shelf
set_option linter.unusedVariables false
set_option linter.unusedSimpArgs false

/-- one element behind a row of one's own -/
theorem app1 {e t : TypeId} {i0 : TypeInfo} {z : Value} {s bt : Nat} (ht : Tryd.prog.underlying t = some (.slice e)) (hi : Tryd.prog.info? e = some i0) (hz : i0.zero = some z) (hs : i0.size = s) (hb : i0.bytes = bt) (hzs : z.cells.size = s) (hs0 : 0 < s)
    (W : World) (B : Nat) (v : Value) (n : Nat) (xs : List Value) (ho : W.ownsRow B e s v n xs) (cs : Array Value) (hcs : cs.toList.length = s) (h1 : ∀ u ∈ cs.toList, u.oneCell' = true) (hn : n + 1 ≤ maxLen) (hby : (n + 1) * bt ≤ 140737488355328) (hB : B ≤ W.heap.size) :
    ∃ g c W3, (∀ ty, (Builtin.append_ #[t, t] ty #[v, .slice (some ⟨W.heap.size, 0, none⟩) 1 1]).run Tryd.prog (W.alloc (.cells cs e)) = .ok (.slice (some ⟨g, 0, none⟩) (n + 1) c) W3) ∧ W3.ownsRow B e s (.slice (some ⟨g, 0, none⟩) (n + 1) c) (n + 1) (xs ++ cs.toList) ∧ W.grownBy W3 v.ownBlock := by
  have ho' : (W.alloc (.cells cs e)).ownsRow B e s v n xs := ho.alloc _
  obtain ⟨g, c, W3, r1, r2, r3, r4, r5⟩ := run_append_lies (P := Tryd.prog) (W.alloc (.cells cs e)) t e B e i0 z s bt ht hi hz hs hb hzs hs0 v n xs ho' ⟨W.heap.size, 0, none⟩ 1 1 cs.toList (by omega) (World.news_of_block (heap_alloc_new W _)) h1 (by omega) hn hby (by simp; omega) _ rfl
  refine ⟨g, c, W3, fun ty => r1, r2, ⟨r3.os, r3.tape, r3.output, Nat.le_trans (by simp) r3.size, fun k hk hne => ?_⟩⟩
  rw [r3.block k (by simp; omega) hne, Below.heap_alloc W _ k hk]
theorem pieces_len (c : UInt8) : ∀ l : List UInt8, (pieces c l).2.length ≤ l.length
  | [] => by simp [pieces]
  | x :: r => by
    have := pieces_len c r
    rw [pieces]
    split
    · simp; omega
    · simp; omega
/-- the words of a line -/
def wordsL (sp : UInt8) (s : List UInt8) : List (List UInt8) := (pieces sp s).1 :: (pieces sp s).2
theorem words_none {sp : UInt8} {s : List UInt8} (h : sp ∉ s) : wordsL sp s = [s] := by
  unfold wordsL
  rw [pieces_none h]
theorem words_app {sp : UInt8} {l r : List UInt8} (h : sp ∉ l) : wordsL sp (l ++ sp :: r) = l :: wordsL sp r := by
  unfold wordsL
  rw [pieces_app h]
/-- what is cut off so far -/
def Spl (sp : UInt8) (s : List UInt8) (i f : Nat) (ws : List (List UInt8)) : Prop := (i ≤ s.length ∧ f ≤ i ∧ ws ++ wordsL sp (s.drop f) = wordsL sp s ∧ sp ∉ (s.drop f).take (i - f)) ∨ (i = s.length + 1 ∧ ws = wordsL sp s)
theorem Spl.start (sp : UInt8) (s : List UInt8) : Spl sp s 0 0 [] := .inl ⟨Nat.zero_le _, Nat.le_refl _, rfl, by simp⟩
theorem Spl.stop {sp : UInt8} {s : List UInt8} {i f : Nat} {ws : List (List UInt8)} (h : Spl sp s i f ws) (hi : s.length < i) : ws = wordsL sp s := by
  rcases h with h | h
  · omega
  · exact h.2
theorem Spl.last {sp : UInt8} {s : List UInt8} {f : Nat} {ws : List (List UInt8)} (h : Spl sp s s.length f ws) : f ≤ s.length ∧ Spl sp s (s.length + 1) (s.length + 1) (ws ++ [s.drop f]) := by
  rcases h with ⟨h1, h2, h3, h4⟩ | h
  · rw [List.take_of_length_le (by rw [List.length_drop]; omega)] at h4
    rw [words_none h4] at h3
    exact ⟨h2, .inr ⟨rfl, h3⟩⟩
  · omega
theorem drop_cut {s : List UInt8} {i f : Nat} (hf : f ≤ i) (hi : i < s.length) : s.drop f = (s.drop f).take (i - f) ++ s[i] :: s.drop (i + 1) := by
  have e : s[i] :: s.drop (i + 1) = s.drop i := (List.drop_eq_getElem_cons hi).symm
  have e2 : s.drop i = (s.drop f).drop (i - f) := by rw [List.drop_drop]; congr 1; omega
  rw [e, e2, List.take_append_drop]
theorem Spl.cut {sp : UInt8} {s : List UInt8} {i f : Nat} {ws : List (List UInt8)} (h : Spl sp s i f ws) (hi : i < s.length) (hc : s[i] = sp) : f ≤ i ∧ Spl sp s (i + 1) (i + 1) (ws ++ [(s.drop f).take (i - f)]) := by
  rcases h with ⟨h1, h2, h3, h4⟩ | h
  · refine ⟨h2, .inl ⟨hi, Nat.le_refl _, ?_, by simp⟩⟩
    rw [drop_cut h2 hi, hc, words_app h4] at h3
    rw [← h3]
    simp
  · omega
theorem Spl.go {sp : UInt8} {s : List UInt8} {i f : Nat} {ws : List (List UInt8)} (h : Spl sp s i f ws) (hi : i < s.length) (hc : s[i] ≠ sp) : Spl sp s (i + 1) f ws := by
  rcases h with ⟨h1, h2, h3, h4⟩ | h
  · refine .inl ⟨hi, by omega, h3, ?_⟩
    have hl : i - f < (s.drop f).length := by rw [List.length_drop]; omega
    have e : i + 1 - f = (i - f) + 1 := by omega
    rw [e, List.take_succ_eq_append_getElem hl, List.mem_append, not_or]
    refine ⟨h4, ?_⟩
    have e2 : (s.drop f)[i - f] = s[i] := by
      rw [List.getElem_drop]
      congr 1
      omega
    rw [e2, List.mem_singleton]
    exact fun h => hc h.symm
  · omega
theorem Spl.few {sp : UInt8} {s : List UInt8} {i f : Nat} {ws : List (List UInt8)} (h : Spl sp s i f ws) : ws.length ≤ s.length + 1 := by
  have hp := pieces_len sp s
  rcases h with ⟨h1, h2, h3, h4⟩ | h
  · have := congrArg List.length h3
    unfold wordsL at this
    simp at this
    omega
  · rw [h.2]
    unfold wordsL
    simp
    omega
/-- strings in a row of one's own -/
def SRo (w : World) (B : Nat) (v : Value) (ws : List (List UInt8)) : Prop := w.ownsRow B 9 1 v ws.length (ws.map strV)
theorem SRo.below {w w' : World} {B : Nat} {v : Value} {ws : List (List UInt8)} (h : SRo w B v ws) (hb : Below w.heap.size w w') : SRo w' B v ws := owns_same h fun g _ hg => hb.block g hg
theorem infoStr : (Tryd.prog.info? 9).map (fun i => (i.zero, i.size, i.bytes)) = some (some (.string ⟨#[]⟩), 1, 16) := by kernel_rfl
theorem app_sro (W : World) (B : Nat) (v : Value) (ws : List (List UInt8)) (ho : SRo W B v ws) (x : List UInt8) (hB : B ≤ W.heap.size) (hl : ws.length ≤ 8796093022200) :
    ∃ v' W3, (∀ ty, (Builtin.append_ #[50, 50] ty #[v, .slice (some ⟨W.heap.size, 0, none⟩) 1 1]).run Tryd.prog (W.alloc (.cells #[strV x] 9)) = .ok v' W3) ∧ SRo W3 B v' (ws ++ [x]) ∧ W.grownBy W3 v.ownBlock := by
  obtain ⟨i0, hi0, hz0, hz1, hz2⟩ := info_parts infoStr
  obtain ⟨g, c, W3, h1, h2, h3⟩ := app1 Tryd.underlying50 hi0 hz0 hz1 hz2 rfl (by decide) W B v ws.length _ ho #[strV x] rfl (by simp [strV, Value.oneCell']) (by unfold maxLen; omega) (by omega) hB
  refine ⟨_, W3, h1, ?_, h3⟩
  unfold SRo
  rw [List.map_append, List.length_append]
  exact h2
theorem SRo.at_ {w : World} {B : Nat} {v : Value} {ws : List (List UInt8)} (h : SRo w B v ws) (h0 : 0 < ws.length) : ∃ g cap, v = .slice (some ⟨g, 0, none⟩) ws.length cap ∧ B ≤ g ∧ g < w.heap.size ∧ ∀ j (hj : j < ws.length), w.cell? ⟨g, j, none⟩ = some (strV ws[j]) := by
  have h' : w.ownsRow B 9 1 v ws.length (ws.map strV) := h
  rcases h'.2 with ⟨rfl, hn⟩ | ⟨g, cap, cur, rfl, hB, hg, q1, q2, q3, q4⟩
  · omega
  · refine ⟨g, cap, rfl, hB, (Array.getElem?_eq_some_iff.1 hg).1, fun i hi => ?_⟩
    rw [World.cell?]
    simp only [hg]
    have e := congrArg (·[i]?) q4
    simp only [List.getElem?_map] at e
    rw [List.getElem?_take_of_lt (by omega), Array.getElem?_toList, List.getElem?_eq_getElem hi] at e
    simpa using e
theorem SRo.mk0 (W : World) (H : Nat) (hH : W.heap.size = H) : SRo (W.alloc (.cells #[] 9)) H (.slice (some ⟨H, 0, none⟩) 0 0) [] := by
  subst hH
  exact ⟨rfl, .inr ⟨W.heap.size, 0, #[], rfl, Nat.le_refl _, heap_alloc_new W _, Nat.le_refl _, by simp [maxLen], rfl, rfl⟩⟩
theorem SRo.lt {w : World} {B : Nat} {v : Value} {ws : List (List UInt8)} (h : SRo w B v ws) {g : Nat} (hg : v.ownBlock = some g) : B ≤ g ∧ g < w.heap.size := owns_block h hg
theorem ext_str (s : List UInt8) (f i : Nat) : strV ((s.drop f).take (i - f)) = .string ((⟨s.toArray⟩ : ByteArray).extract f i) := by
  unfold strV
  congr 1
  apply Go.WideShapes.bytes_inj
  rw [Lib.extract_data]
theorem ext_last (s : List UInt8) (f : Nat) : strV (s.drop f) = .string ((⟨s.toArray⟩ : ByteArray).extract f s.length) := by
  rw [← ext_str, List.take_of_length_le (by rw [List.length_drop]; omega)]
theorem piece_le (c : UInt8) : ∀ l : List UInt8, (pieces c l).1.length ≤ l.length ∧ ∀ p ∈ (pieces c l).2, p.length ≤ l.length
  | [] => by simp [pieces]
  | x :: r => by
    obtain ⟨h1, h2⟩ := piece_le c r
    rw [pieces]
    split
    · refine ⟨by simp, fun p hp => ?_⟩
      simp only [List.mem_cons] at hp
      rcases hp with rfl | hp
      · simp; omega
      · have := h2 p hp; simp; omega
    · refine ⟨by simp; omega, fun p hp => ?_⟩
      have := h2 p hp
      simp
      omega
end Go.Proofs.YtecpknpcjoiliabDoor
namespace Go.Proofs.YtecpknpcjoiliabDoor
open Go.RowKit Go.Shelf
set_option linter.unusedVariables false
set_option linter.unusedSimpArgs false

set_option maxRecDepth 100000 in
set_option maxHeartbeats 4000000 in
/-- the pieces that the reference cuts a text into -/
theorem rcut_any (s : List UInt8) (sp : UInt8) (w : World) (hl : s.length ≤ 1099511627776) :
    Calls Tryd.prog 13 #[strV s, .int .u8 sp.toNat] w fun e w' => ∃ v, e = .returned v ∧ Bx (SRo w' w.heap.size v (wordsL sp s) ∧ Below w.heap.size w w') := by
  obtain ⟨Q, hQ⟩ : ∃ Q : Ending → World → Prop, Q = fun e w' => ∃ v, e = .returned v ∧ Bx (SRo w' w.heap.size v (wordsL sp s) ∧ Below w.heap.size w w') := ⟨_, rfl⟩
  obtain ⟨H, hH⟩ : ∃ H, w.heap.size = H := ⟨_, rfl⟩
  have HQ1 : Bx (∀ v w', SRo w' H v (wordsL sp s) → Below H w w' → Q (.returned v) w') := ⟨fun v w' h1 h2 => by rw [hQ, hH]; exact ⟨v, rfl, ⟨h1, h2⟩⟩⟩
  rw [← hQ]
  clear hQ
  obtain ⟨W1, hW1⟩ : ∃ X, w.alloc (.cells #[] 9) = X := ⟨_, rfl⟩
  have HS1 : Bx (SRo W1 H (.slice (some ⟨H, 0, none⟩) 0 0) []) := ⟨by rw [← hW1]; exact SRo.mk0 w H hH⟩
  have HB1 : Bx (Below H w W1) := ⟨by rw [← hW1, ← hH]; exact below1 w _⟩
  have hHw : H ≤ W1.heap.size := by have := HB1.out.size; omega
  go_enter Tryd.func13, Tryd.ntmps13
  go_wp2
  clear hW1
  go_loopw [7, 6, 5] (fun x y v wr => ∃ (i f : Nat) (ws : List (List UInt8)) (vv : Value), i ≤ s.length + 1 ∧ f ≤ s.length + 1 ∧ x = .int .i64 (i : Int) ∧ y = .int .i64 (f : Int) ∧ vv = v ∧ Bx (Spl sp s i f ws ∧ SRo wr H vv ws ∧ Below H w wr)) (fun x _ _ _ => s.length + 2 - (intOf x).toNat)
  case atStart => exact ⟨0, 0, [], _, by omega, by omega, rfl, rfl, rfl, ⟨Spl.start sp s, HS1.out, HB1.out⟩⟩
  case round =>
    obtain ⟨i, f, ws, vv, hi, hf, rfl, rfl, rfl, HI⟩ := hrel
    clear HS1 HB1
    by_cases h1 : i = s.length + 1
    · have HW : Bx (SRo wr H vv (wordsL sp s) ∧ Below H w wr) := ⟨by have := HI.out.1.stop (by omega); rw [← this]; exact HI.out.2⟩
      clear HI
      subst h1
      have hlt0 : ¬ ((s.length + 1 : Nat) : Int) ≤ (s.length : Int) := by omega
      go_wp2
      skip
      exact HQ1.out _ _ HW.out.1 HW.out.2
    · have hlt0 : (i : Int) ≤ (s.length : Int) := by omega
      by_cases h2 : i = s.length
      · subst h2
        obtain ⟨hfi, HSp⟩ : f ≤ s.length ∧ Bx _ := ⟨HI.out.1.last.1, ⟨HI.out.1.last.2⟩⟩
        have hfi2 : (f : Int) ≤ (s.length : Int) := by omega
        have hwr : H ≤ wr.heap.size := by have := HI.out.2.2.size; omega
        obtain ⟨v4, W4, r4, o4, g4⟩ := app_sro wr H vv ws HI.out.2.1 (s.drop f) hwr (by have := HI.out.1.few; omega)
        have e1 : strV (s.drop f) = .string ((⟨s.toArray⟩ : ByteArray).extract f s.length) := (ext_last s f)
        rw [e1] at r4
        have HO4 : Bx (SRo W4 H v4 (ws ++ [s.drop f]) ∧ Below H w W4) := ⟨o4, HI.out.2.2.grown g4 hwr fun k hk => (HI.out.2.1.lt hk).1⟩
        clear HI o4 g4 e1
        go_wp2_with (at_builtin; refine wpList_appI rfl (.tmp 26) (.tmp 31) 50 rfl rfl rfl r4 ?_)
        go_roundw
        case rel => exact ⟨s.length + 1, s.length + 1, _, v4, by omega, by omega, by simp, by simp, rfl, ⟨HSp.out, HO4.out⟩⟩
        case measure => first | (simp [intOf]; omega) | simp [intOf]
      · have hil : i < s.length := by omega
        have hil2 : (i : Int) < (s.length : Int) := by omega
        have hine : ¬ (i : Int) = (s.length : Int) := by omega
        by_cases h3 : s[i]'hil = sp
        · have hc3 : ∀ hi, (⟨s.toArray⟩ : ByteArray)[i]'hi = sp := fun hi => h3
          obtain ⟨hfi, HSp⟩ : f ≤ i ∧ Bx _ := ⟨(HI.out.1.cut hil h3).1, ⟨(HI.out.1.cut hil h3).2⟩⟩
          have hfi2 : (f : Int) ≤ (i : Int) := by omega
          have hwr : H ≤ wr.heap.size := by have := HI.out.2.2.size; omega
          obtain ⟨v4, W4, r4, o4, g4⟩ := app_sro wr H vv ws HI.out.2.1 ((s.drop f).take (i - f)) hwr (by have := HI.out.1.few; omega)
          have e1 : strV ((s.drop f).take (i - f)) = .string ((⟨s.toArray⟩ : ByteArray).extract f i) := (ext_str s f i)
          rw [e1] at r4
          have HO4 : Bx (SRo W4 H v4 (ws ++ [(s.drop f).take (i - f)]) ∧ Below H w W4) := ⟨o4, HI.out.2.2.grown g4 hwr fun k hk => (HI.out.2.1.lt hk).1⟩
          clear HI o4 g4 e1
          go_wp2_with (at_builtin; refine wpList_appI rfl (.tmp 26) (.tmp 31) 50 rfl rfl rfl r4 ?_)
          go_roundw
          case rel => exact ⟨i + 1, i + 1, _, v4, by omega, by omega, by simp, by simp, rfl, ⟨HSp.out, HO4.out⟩⟩
          case measure => first | (simp [intOf]; omega) | simp [intOf]
        · have hsz : i < (⟨s.toArray⟩ : ByteArray).size := by show i < s.toArray.size; simpa using hil
          have hc3 : ¬ (((⟨s.toArray⟩ : ByteArray)[i]'hsz).toNat : Int) = sp.toNat := fun h => h3 (UInt8.toNat_inj.1 (by have h : ((s[i]).toNat : Int) = sp.toNat := h; show s[i].toNat = sp.toNat; omega))
          have hc4 : ((((⟨s.toArray⟩ : ByteArray)[i]'hsz).toNat : Int) == sp.toNat) = false := by simpa using hc3
          have hin4 : ((i : Int) == (s.length : Int)) = false := by simpa using hine
          have HSp : Bx (Spl sp s (i + 1) f ws ∧ SRo wr H vv ws ∧ Below H w wr) := ⟨HI.out.1.go hil h3, HI.out.2⟩
          clear HI h3 hc3
          go_wp2
          go_roundw
          case rel => exact ⟨i + 1, f, ws, vv, by omega, hf, by simp, rfl, rfl, HSp⟩
          case measure => simp [intOf]; omega
end Go.Proofs.YtecpknpcjoiliabDoor
namespace Go.Proofs.YtecpknpcjoiliabDoor
open Go.RowKit Go.Shelf
set_option linter.unusedVariables false
set_option linter.unusedSimpArgs false

theorem numsOf_snoc (l : List (List UInt8)) (t : List UInt8) (ks : List Int) (n : Int) (h : numsOf l = some ks) (hn : numOf t = some n) : numsOf (l ++ [t]) = some (ks ++ [n]) := by
  induction l generalizing ks with
  | nil =>
    simp only [numsOf, Option.some.injEq] at h
    subst h
    simp [numsOf, hn]
  | cons a r ih =>
    rw [numsOf] at h
    rw [List.cons_append, numsOf]
    cases ha : numOf a with
    | none => rw [ha] at h; cases h
    | some m =>
      rw [ha] at h
      simp only [Option.map_eq_some_iff] at h
      obtain ⟨k', hk', rfl⟩ := h
      simp only [ih k' hk']
      rfl
theorem numsOf_bad (l r : List (List UInt8)) (t : List UInt8) (hn : numOf t = none) : numsOf (l ++ t :: r) = none := by
  induction l with
  | nil => simp [numsOf, hn]
  | cons a l ih =>
    rw [List.cons_append, numsOf]
    cases ha : numOf a with
    | none => rfl
    | some m => simp only [ih]; rfl

/-- numbers in a row of one's own -/
def NRo (w : World) (B : Nat) (v : Value) (ks : List Int) : Prop := w.ownsRow B 3 1 v ks.length (ks.map (Value.int .i64))
theorem NRo.below {w w' : World} {B : Nat} {v : Value} {ks : List Int} (h : NRo w B v ks) (hb : Below w.heap.size w w') : NRo w' B v ks := owns_same h fun g _ hg => hb.block g hg
theorem infoIn : (Tryd.prog.info? 3).map (fun i => (i.zero, i.size, i.bytes)) = some (some (.int .i64 0), 1, 8) := by kernel_rfl
theorem app_nro (W : World) (B : Nat) (v : Value) (ks : List Int) (ho : NRo W B v ks) (x : Int) (hB : B ≤ W.heap.size) (hl : ks.length ≤ 8796093022200) :
    ∃ v' W3, (∀ ty, (Builtin.append_ #[79, 79] ty #[v, .slice (some ⟨W.heap.size, 0, none⟩) 1 1]).run Tryd.prog (W.alloc (.cells #[.int .i64 x] 3)) = .ok v' W3) ∧ NRo W3 B v' (ks ++ [x]) ∧ W.grownBy W3 v.ownBlock := by
  obtain ⟨i0, hi0, hz0, hz1, hz2⟩ := info_parts infoIn
  obtain ⟨g, c, W3, h1, h2, h3⟩ := app1 Tryd.underlying79 hi0 hz0 hz1 hz2 rfl (by decide) W B v ks.length _ ho #[.int .i64 x] rfl (by simp [Value.oneCell']) (by unfold maxLen; omega) (by omega) hB
  refine ⟨_, W3, h1, ?_, h3⟩
  unfold NRo
  rw [List.map_append, List.length_append]
  exact h2
theorem NRo.at_ {w : World} {B : Nat} {v : Value} {ks : List Int} (h : NRo w B v ks) (h0 : 0 < ks.length) : ∃ g cap, v = .slice (some ⟨g, 0, none⟩) ks.length cap ∧ B ≤ g ∧ g < w.heap.size ∧ ∀ j (hj : j < ks.length), w.cell? ⟨g, j, none⟩ = some (.int .i64 ks[j]) := by
  have h' : w.ownsRow B 3 1 v ks.length (ks.map (Value.int .i64)) := h
  rcases h'.2 with ⟨rfl, hn⟩ | ⟨g, cap, cur, rfl, hB, hg, q1, q2, q3, q4⟩
  · omega
  · refine ⟨g, cap, rfl, hB, (Array.getElem?_eq_some_iff.1 hg).1, fun i hi => ?_⟩
    rw [World.cell?]
    simp only [hg]
    have e := congrArg (·[i]?) q4
    simp only [List.getElem?_map] at e
    rw [List.getElem?_take_of_lt (by omega), Array.getElem?_toList, List.getElem?_eq_getElem hi] at e
    simpa using e
theorem NRo.mk0 (W : World) (H : Nat) (hH : W.heap.size = H) : NRo (W.alloc (.cells #[] 3)) H (.slice (some ⟨H, 0, none⟩) 0 0) [] := by
  subst hH
  exact ⟨rfl, .inr ⟨W.heap.size, 0, #[], rfl, Nat.le_refl _, heap_alloc_new W _, Nat.le_refl _, by simp [maxLen], rfl, rfl⟩⟩
theorem NRo.lt {w : World} {B : Nat} {v : Value} {ks : List Int} (h : NRo w B v ks) {g : Nat} (hg : v.ownBlock = some g) : B ≤ g ∧ g < w.heap.size := owns_block h hg
theorem rnum_no (w : World) (t : List UInt8) (hl : t.length ≤ 281474976710656) (h : numOf t = none) : Calls Tryd.prog 37 #[strV t] w fun e w' => ∃ n : Int, e = .returned (.tuple #[.int .i64 n, .bool false]) ∧ Bx (Below w.heap.size w w') :=
  (rNumber_any t hl w).mono fun e w' ⟨n, b, h1, h2⟩ => by
    obtain ⟨h3, h4, h5⟩ := h2.out
    rw [h] at h4
    simp at h4
    subst h4
    exact ⟨n, h1, ⟨h3⟩⟩
theorem rnum_yes (w : World) (t : List UInt8) (hl : t.length ≤ 281474976710656) (m : Int) (h : numOf t = some m) : Calls Tryd.prog 37 #[strV t] w fun e w' => e = .returned (.tuple #[.int .i64 m, .bool true]) ∧ Bx (Below w.heap.size w w') :=
  (rNumber_any t hl w).mono fun e w' ⟨n, b, h1, h2⟩ => by
    obtain ⟨h3, h4, h5⟩ := h2.out
    have := h5 m h
    rw [h] at h4
    simp at h4
    subst h4 this
    exact ⟨h1, ⟨h3⟩⟩
/-- words in memory -/
def StV (w : World) (ka : Option Addr) (ws : List (List UInt8)) : Prop := ws = [] ∨ ∃ g o, ka = some ⟨g, o, none⟩ ∧ g < w.heap.size ∧ ∀ j (hj : j < ws.length), w.cell? ⟨g, o + j, none⟩ = some (strV ws[j])
/-- what the reference's numbers answers -/
def RNsA (w : World) (k : Nat) (ws : List (List UInt8)) (e : Ending) (w' : World) : Prop :=
  match numsP k ws with
  | none => e = .returned (.tuple #[.slice none 0 0, .bool false]) ∧ Bx (Below w.heap.size w w')
  | some l => ∃ v, e = .returned (.tuple #[v, .bool true]) ∧ Bx (NRo w' w.heap.size v l ∧ Below w.heap.size w w')
set_option maxRecDepth 100000 in
set_option maxHeartbeats 4000000 in
theorem rnumbers_any (w : World) (ka : Option Addr) (kc k : Nat) (ws : List (List UInt8)) (hs : StV w ka ws) (hk : k ≤ 1099511627776) (hwl : ws.length ≤ 1099511627776) (hl : ∀ p ∈ ws, p.length ≤ 1099511627776) :
    Calls Tryd.prog 25 #[.slice ka ws.length kc, .int .i64 (k : Int)] w (RNsA w k ws) := by
  obtain ⟨Q, hQ⟩ : ∃ Q, Q = RNsA w k ws := ⟨_, rfl⟩
  have HQ0 : Bx (∀ w', numsP k ws = none → Below w.heap.size w w' → Q (.returned (.tuple #[.slice none 0 0, .bool false])) w') := ⟨fun w' h h2 => by rw [hQ]; unfold RNsA; rw [h]; exact ⟨rfl, ⟨h2⟩⟩⟩
  have HQ1 : Bx (∀ w' v l, numsP k ws = some l → NRo w' w.heap.size v l → Below w.heap.size w w' → Q (.returned (.tuple #[v, .bool true])) w') := ⟨fun w' v l h h2 h3 => by rw [hQ]; unfold RNsA; rw [h]; exact ⟨v, rfl, ⟨h2, h3⟩⟩⟩
  rw [← hQ]
  clear hQ
  obtain ⟨H, hH⟩ : ∃ H, w.heap.size = H := ⟨_, rfl⟩
  rw [hH] at HQ0 HQ1
  obtain ⟨W1, hW1⟩ : ∃ X, w.alloc (.cells #[] 3) = X := ⟨_, rfl⟩
  have HN1 : Bx (NRo W1 H (.slice (some ⟨H, 0, none⟩) 0 0) []) := ⟨by rw [← hW1]; exact NRo.mk0 w H hH⟩
  have HB1 : Bx (Below H w W1) := ⟨by rw [← hW1, ← hH]; exact below1 w _⟩
  by_cases hne : ws.length = k
  · have HP : Bx (numsP k ws = numsOf ws) := ⟨by unfold numsP; rw [if_pos hne]⟩
    rw [HP.out] at HQ0 HQ1
    clear HP
    subst hne
    have HSt : Bx _ := ⟨hs⟩
    have HL : Bx _ := ⟨hl⟩
    clear hs hl
    go_enter Tryd.func25, Tryd.ntmps25
    go_wp2
    clear hW1
    go_loopw [7, 6] (fun x v wx => ∃ (j : Nat) (ks : List Int) (vv : Value), j ≤ ws.length ∧ x = .int .i64 (j : Int) ∧ vv = v ∧ Bx (numsOf (ws.take j) = some ks ∧ NRo wx H vv ks ∧ Below H w wx ∧ ks.length ≤ j)) (fun x _ _ => ws.length + 1 - (intOf x).toNat)
    case atStart => exact ⟨0, [], _, Nat.zero_le _, rfl, rfl, ⟨rfl, HN1.out, HB1.out, Nat.le_refl _⟩⟩
    case round =>
      obtain ⟨j, ks, vk, hj, rfl, rfl, HK⟩ := hrel
      clear HN1 HB1
      by_cases hjl : j < ws.length
      · obtain ⟨g, o, rfl, hg, hcell⟩ : ∃ g o, ka = some ⟨g, o, none⟩ ∧ g < w.heap.size ∧ ∀ j (hj : j < ws.length), w.cell? ⟨g, o + j, none⟩ = some (strV ws[j]) := by
          rcases HSt.out with h | h
          · rw [h] at hjl; simp at hjl
          · exact h
        have hck : wr.cell? ⟨g, o + j, none⟩ = some (strV ws[j]) := by
          rw [HK.out.2.2.1.cell (p := ⟨g, o + j, none⟩) (by simp; omega)]
          exact hcell j hjl
        have hpl := HL.out ws[j] (List.getElem_mem hjl)
        have hdt : ws = ws.take j ++ ws[j] :: ws.drop (j + 1) := by rw [← List.drop_eq_getElem_cons hjl, List.take_append_drop]
        have hdt2 : ws.take (j + 1) = ws.take j ++ [ws[j]] := List.take_succ_eq_append_getElem hjl
        have hjI : (j : Int) < (ws.length : Int) := by omega
        have hwk : H ≤ wr.heap.size := by have := HK.out.2.2.1.size; omega
        have hks : ks.length ≤ j := HK.out.2.2.2
        clear hcell
        cases hn : numOf ws[j] with
        | none =>
          have HBADN : Bx (numsOf ws = none) := ⟨by rw [hdt]; exact numsOf_bad _ _ _ hn⟩
          have HCN := rnum_no wr ws[j] (by omega) hn
          clear hdt hdt2 hn
          generalize ws[j] = t at *
          go_wp2_with (go_at_call 37; refine HCN.mono ?_; rintro e w5 ⟨n5, rfl, HB5⟩)
          exact HQ0.out _ HBADN.out (HK.out.2.2.1.trans (HB5.out.mono hwk))
        | some m =>
          have HNX : Bx (numsOf (ws.take (j + 1)) = some (ks ++ [m])) := ⟨by rw [hdt2]; exact numsOf_snoc _ _ _ _ HK.out.1 hn⟩
          have HCN := rnum_yes wr ws[j] (by omega) m hn
          clear hdt hdt2 hn
          generalize ws[j] = t at *
          go_wp2_with (first
            | (go_at_call 37; refine HCN.mono ?_; rintro e w5 ⟨rfl, HB5⟩
               have HN5 : Bx (NRo w5 H vk ks) := ⟨HK.out.2.1.below HB5.out⟩
               have HB6 : Bx (Below H w w5) := ⟨HK.out.2.2.1.trans (HB5.out.mono hwk)⟩
               have hw5 : H ≤ w5.heap.size := by have := HB6.out.size; omega
               obtain ⟨v6, W6, r6, o6, b6⟩ := app_nro w5 H vk ks HN5.out m hw5 (by omega)
               have HO6 : Bx (NRo W6 H v6 (ks ++ [m]) ∧ Below H w W6) := ⟨o6, HB6.out.grown b6 hw5 fun k hk => (HN5.out.lt hk).1⟩
               clear o6 b6)
            | (at_builtin; refine wpList_appI rfl (.tmp 30) (.tmp 32) 79 rfl rfl rfl r6 ?_))
          go_roundw
          case rel => exact ⟨j + 1, ks ++ [m], v6, hjl, by first | (simp; omega) | simp, rfl, ⟨HNX.out, HO6.out.1, HO6.out.2, by simp; omega⟩⟩
          case measure => first | (simp [intOf]; omega) | simp [intOf]
      · have hje : j = ws.length := by omega
        subst hje
        have HE : Bx (numsOf ws = some ks) := ⟨by have := HK.out.1; rwa [List.take_length] at this⟩
        go_wp2
        exact HQ1.out _ _ ks HE.out HK.out.2.1 HK.out.2.2.1
  · have HP : Bx (numsP k ws = none) := ⟨by unfold numsP; rw [if_neg hne]⟩
    have hne2 : ((ws.length : Int) == (k : Int)) = false := by simp; omega
    have hne3 : ¬ (ws.length : Int) = (k : Int) := by omega
    clear HQ1 HN1 hs hl
    go_enter Tryd.func25, Tryd.ntmps25
    go_wp2
    exact HQ0.out _ HP.out HB1.out
end Go.Proofs.YtecpknpcjoiliabDoor
