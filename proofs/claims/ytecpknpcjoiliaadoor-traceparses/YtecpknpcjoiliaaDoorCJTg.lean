import Derived.Test.YtecpknpcjoiliaaDoorCJTf
import Derived.Test.YtecpknpcjoiliaaDoorCJPb
namespace Go.Proofs.YtecpknpcjoiliaaDoor
open Go.RowKit Go.Shelf
set_option linter.unusedVariables false
set_option linter.unusedSimpArgs false

/-- the reference's Parse in the midst of a text -/
structure RPs (w W : World) (H : Nat) (tx : List UInt8) (pos bg : Nat) (vv : Value) (es : List Ev) (ls : List (Option Addr × Nat)) : Prop where
  bel : Below H w W
  evo : EvO W H vv es ls
  bp : bg ≤ pos
  pl : pos ≤ tx.length
  no : (10 : UInt8) ∉ (tx.drop bg).take (pos - bg)
  res : readE tx = rdE2 (tx.drop bg) es
  few : es.length ≤ bg
  vs : ∃ a n c, vv = .slice a n c
theorem RPs.step {w W : World} {H : Nat} {tx : List UInt8} {pos bg : Nat} {vv : Value} {es : List Ev} {ls : List (Option Addr × Nat)} (h : RPs w W H tx pos bg vv es ls) (hp : pos < tx.length) (h10 : tx[pos] ≠ 10) : RPs w W H tx (pos + 1) bg vv es ls := by
  have hbp := h.bp
  refine ⟨h.bel, h.evo, by omega, hp, ?_, h.res, h.few, h.vs⟩
  have hl : pos - bg < (tx.drop bg).length := by rw [List.length_drop]; omega
  have e : pos + 1 - bg = (pos - bg) + 1 := by omega
  rw [e, List.take_succ_eq_append_getElem hl, List.mem_append, not_or]
  refine ⟨h.no, ?_⟩
  have e2 : (tx.drop bg)[pos - bg] = tx[pos] := by
    rw [List.getElem_drop]
    congr 1
    omega
  rw [e2, List.mem_singleton]
  exact fun h => h10 h.symm
theorem evO_new (w : World) (H : Nat) (hH : w.heap.size = H) : EvO (w.alloc (.cells #[] 24)) H (.slice (some ⟨H, 0, none⟩) 0 0) [] [] :=
  ⟨rfl, ⟨rfl, .inr ⟨H, 0, #[], rfl, Nat.le_refl _, heap_newH w _ H hH, Nat.le_refl _, by simp [maxLen], rfl, rfl⟩⟩, fun i h => by simp at h, fun i j h => by simp at h⟩
set_option maxRecDepth 100000 in
set_option maxHeartbeats 4000000 in
theorem rParse_any (tx : List UInt8) (w : World) (hl : tx.length ≤ 1099511627776) :
    Calls Tryd.prog 19 #[strV tx] w (ParP w (readE tx)) := by
  obtain ⟨Q, hQ⟩ : ∃ Q, Q = ParP w (readE tx) := ⟨_, rfl⟩
  rw [← hQ]
  obtain ⟨H, hH⟩ : ∃ H, w.heap.size = H := ⟨_, rfl⟩
  have HQN : Bx (∀ (n : Nat) W, readE tx = .no n → Below H w W → Q (.returned (.tuple #[.slice none 0 0, .int .i64 n, .int .i64 180])) W) := ⟨fun n W h hb => by rw [hQ, h]; exact ⟨⟨by rw [hH]; exact hb⟩, rfl⟩⟩
  have HQY : Bx (∀ es W a n c ls, readE tx = .yes es → Below H w W → EvO W H (.slice a n c) es ls → Q (.returned (.tuple #[.slice a n c, .int .i64 0, .int .i64 0])) W) := ⟨fun es W a n c ls h hb ho => by rw [hQ, h]; exact ⟨⟨by rw [hH]; exact hb⟩, a, n, c, ls, rfl, ⟨by rw [hH]; exact ho⟩⟩⟩
  have hsz : (⟨tx.toArray⟩ : ByteArray).size = tx.length := by simp [ByteArray.size]
  obtain ⟨W1, hW1⟩ : ∃ W1, w.alloc (.cells #[] 24) = W1 := ⟨_, rfl⟩
  have HS : Bx (RPs w W1 H tx 0 0 (.slice (some ⟨H, 0, none⟩) 0 0) [] []) := ⟨by
    rw [← hW1]
    exact ⟨by rw [← hH]; exact below1 w _, evO_new w H hH, Nat.le_refl _, Nat.zero_le _, by simp, rfl, Nat.le_refl _, ⟨_, _, _, rfl⟩⟩⟩
  clear hQ
  go_enter Tryd.func19, Tryd.ntmps19
  go_wp2
  clear hW1
  go_loopw [8, 7, 6, 5] (fun x y m v wr => ∃ (pos bg : Nat) (vv : Value) (es : List Ev) (ls : List (Option Addr × Nat)), pos ≤ tx.length ∧ x = .int .i64 (pos : Int) ∧ y = .int .i64 (bg : Int) ∧ m = .int .i64 (es.length : Int) ∧ vv = v ∧ Bx (RPs w wr H tx pos bg vv es ls)) (fun x _ _ _ _ => tx.length - (intOf x).toNat)
  case atStart => exact ⟨0, 0, _, [], [], by omega, rfl, rfl, rfl, rfl, HS⟩
  case round =>
    obtain ⟨pos, bg, vv, es, ls, hpl, rfl, rfl, rfl, rfl, HI⟩ := hrel
    clear HS
    have hbp := HI.out.bp
    have hfew := HI.out.few
    obtain ⟨a, n, c, hvv⟩ := HI.out.vs
    subst hvv
    obtain ⟨hn, hvw⟩ := HI.out.evo.view
    subst hn
    clear hvw
    by_cases hp : pos < tx.length
    · have hpI : (pos : Int) < (tx.length : Int) := by omega
      by_cases h10 : tx[pos] = 10
      · have hc3 : ∀ hi, (⟨tx.toArray⟩ : ByteArray)[pos]'hi = 10 := fun hi => h10
        obtain ⟨line, hline⟩ : ∃ line, line = (tx.drop bg).take (pos - bg) := ⟨_, rfl⟩
        have hxl : strV line = .string ((⟨tx.toArray⟩ : ByteArray).extract bg pos) := by rw [hline]; exact ext_str tx bg pos
        have hll : line.length ≤ 1099511627776 := by rw [hline, List.length_take, List.length_drop]; omega
        have hres : readE tx = match evOf line with | none => .no (es.length + 1) | some e => rdE2 (tx.drop (pos + 1)) (es ++ [e]) := by
          rw [HI.out.res, drop_cut hbp hp, h10, hline]
          exact rdE2_cut HI.out.no
        have HCE : Bx (Calls Tryd.prog 37 #[.string ((⟨tx.toArray⟩ : ByteArray).extract bg pos)] wr (EvP wr (evOf line))) := ⟨by rw [← hxl]; exact revent_any line wr hll⟩
        have hev2 := HI.out.evo
        have hbe2 := HI.out.bel
        have hz2 : H ≤ wr.heap.size := by have := hbe2.size; omega
        have c1 : (0 : Int) ≤ (bg : Int) := by omega
        have c2 : (bg : Int) ≤ (pos : Int) := by omega
        have c3 : (pos : Int) ≤ (tx.length : Int) := by omega
        have c4 : (tx.length : Int) ≤ 1099511627776 := by omega
        have c5 : (es.length : Int) ≤ 1099511627776 := by omega
        cases hE : evOf line with
        | none =>
          rw [hE] at hres HCE
          have HE : Bx (∀ W, Below wr.heap.size wr W → ∀ o, Q (.returned (.tuple #[.slice none 0 0, .int .i64 ((es.length : Int) + 1), .int .i64 180])) (W.alloc o)) := ⟨fun W hb o => by
            have := HQN.out (es.length + 1) (W.alloc o) hres (hbe2.trans ((hb.trans ((below1 W o).mono hb.size)).mono (by omega)))
            simpa using this⟩
          have HC2 : Bx (Calls Tryd.prog 37 #[.string ((⟨tx.toArray⟩ : ByteArray).extract bg pos)] wr fun e w' => ∃ (ev : Ev) (a : Option Addr) (n c : Nat), e = .returned (.tuple #[evW8 ev (.slice a n c), .bool false]) ∧ Below wr.heap.size wr w') := ⟨HCE.out.mono fun e w' h => by
            obtain ⟨h1, ev, a, n, c, h2⟩ := h
            exact ⟨ev, a, n, c, h2, h1.out⟩⟩
          clear HI hev2 hbe2 HCE hxl hline hres hE h10
          go_wp2_with (go_at_call 37; refine HC2.out.mono ?_; rintro e1 w3 ⟨ev3, a3, n3, c3', rfl, hb3⟩; have HB3 : Bx _ := ⟨HE.out _ hb3⟩; clear hb3)
          go_ret3
          exact HB3.out _
        | some e =>
          rw [hE] at hres HCE
          have HC2 : Bx (Calls Tryd.prog 37 #[.string ((⟨tx.toArray⟩ : ByteArray).extract bg pos)] wr fun e' w' => ∃ (a3 : Option Addr) (c3 : Nat), e' = .returned (.tuple #[evW8 e (.slice a3 e.list.length c3), .bool true]) ∧ (NRo w' wr.heap.size (.slice a3 e.list.length c3) e.list ∧ Below wr.heap.size wr w')) := ⟨HCE.out.mono fun e' w' h => by
            obtain ⟨h1, a, c, h2, h3⟩ := h
            exact ⟨a, c, h2, h3.out, h1.out⟩⟩
          have HAP : Bx (∀ w3 a3 c3, NRo w3 wr.heap.size (.slice a3 e.list.length c3) e.list → Below wr.heap.size wr w3 → ∃ v' W5, (∀ ty, (Builtin.append_ #[29, 29] ty #[.slice a es.length c, .slice (some ⟨w3.heap.size + 1, 0, none⟩) 1 1]).run Tryd.prog ((w3.alloc (evB e (.slice a3 e.list.length c3))).alloc (evB e (.slice a3 e.list.length c3))) = .ok v' W5) ∧ RPs w W5 H tx (pos + 1) (pos + 1) v' (es ++ [e]) (ls ++ [(a3, c3)])) := ⟨fun w3 a3 c3 hr hb => by
            have hs3 := hb.size
            obtain ⟨W4, hW4⟩ : ∃ W4, W4 = w3.alloc (evB e (.slice a3 e.list.length c3)) := ⟨_, rfl⟩
            have hb4 : Below wr.heap.size wr W4 := by rw [hW4]; exact hb.trans ((below1 w3 _).mono hs3)
            have hs4 := hb4.size
            have hr4 : NRo W4 H (.slice a3 e.list.length c3) e.list := by
              have h1 : NRo W4 wr.heap.size (.slice a3 e.list.length c3) e.list := by rw [hW4]; exact hr.below (below1 w3 _)
              refine ⟨h1.1, ?_⟩
              rcases h1.2 with e1 | ⟨g, cap, cur, e1, hg1, rest⟩
              · exact .inl e1
              · exact .inr ⟨g, cap, cur, e1, by omega, rest⟩
            have hev4 : EvO W4 H (.slice a es.length c) es ls := hev2.on (fun g hg1 hg2 hg3 => hb4.block g hg2)
            have hsz4 : w3.heap.size + 1 = W4.heap.size := by rw [hW4]; simp
            rw [← hW4, hsz4]
            have hold : ∀ i (hi : i < ls.length) n g, (Value.slice ls[i].1 n ls[i].2).ownBlock = some g → g < wr.heap.size := fun i hi n g hg => by
              have hie : i < es.length := by rw [← hev2.len]; exact hi
              have h1 := hev2.lst i hie hi
              have h2 : (Value.slice ls[i].1 es[i].list.length ls[i].2).ownBlock = some g := by
                cases hla : ls[i].1 with
                | none => rw [hla] at hg; simp [Value.ownBlock] at hg
                | some ad => rw [hla] at hg; exact hg
              exact (h1.lt h2).2
            obtain ⟨v', W5, r1, r2, r3⟩ := hev4.app (by omega) e a3 c3 hr4 wr.heap.size (fun g hg => (hr.lt hg).1) hold (by omega)
            refine ⟨v', W5, r1, ?_, r2, Nat.le_refl _, hp, by simp, hres, by simp; omega, ?_⟩
            · exact hbe2.trans ((hb4.mono (by omega)).trans ((Below.refl H W4).grown r3 (by omega) (fun k hk => (owns_block hev4.row hk).1)))
            · rcases r2.row.2 with ⟨e1, _⟩ | ⟨g, cap, cur, e1, _⟩
              · exact ⟨_, _, _, e1⟩
              · exact ⟨_, _, _, e1⟩⟩
          clear HI hev2 hbe2 HCE hxl hline hres hE h10
          go_wp2_with (first
            | (go_at_call 37; refine HC2.out.mono ?_; rintro e1 w3 ⟨a3, c3', rfl, hr3, hb3⟩; obtain ⟨v6, W6, r6, h6⟩ := HAP.out w3 a3 c3' hr3 hb3; have HB6 : Bx _ := ⟨h6⟩; clear h6 hr3 hb3)
            | (at_builtin; refine wpList_appI rfl (.tmp 35) (.tmp 37) 29 rfl rfl rfl r6 ?_))
          go_roundw
          case rel => exact ⟨pos + 1, pos + 1, v6, _, _, hp, by go_num, by go_num, by rw [List.length_append]; simp, rfl, HB6⟩
          case measure => simp [intOf]; omega
      · have hsi : pos < (⟨tx.toArray⟩ : ByteArray).size := by rw [hsz]; exact hp
        have hc3 : ¬ (((⟨tx.toArray⟩ : ByteArray)[pos]'hsi).toNat : Int) = 10 := fun h => h10 (UInt8.toNat_inj.1 (by have h : ((tx[pos]).toNat : Int) = 10 := h; have e : (10 : UInt8).toNat = 10 := rfl; rw [e]; omega))
        have hc4 : ((((⟨tx.toArray⟩ : ByteArray)[pos]'hsi).toNat : Int) != 10) = true := by simpa using hc3
        have HN : Bx _ := ⟨HI.out.step hp h10⟩
        clear HI h10
        go_wp2
        go_roundw
        case rel => exact ⟨pos + 1, bg, _, es, ls, hp, by go_num, rfl, rfl, rfl, HN⟩
        case measure => simp [intOf]; omega
    · have hpe : pos = tx.length := by omega
      subst hpe
      have hno : (10 : UInt8) ∉ tx.drop bg := by
        have := HI.out.no
        rwa [List.take_of_length_le (by rw [List.length_drop]; omega)] at this
      have hres := HI.out.res
      rw [rdE2_end hno] at hres
      have c4 : (tx.length : Int) ≤ 1099511627776 := by omega
      have c5 : (es.length : Int) ≤ 1099511627776 := by omega
      have hpI : ¬ (tx.length : Int) < (tx.length : Int) := by omega
      by_cases hbl : bg < tx.length
      · rw [if_neg (fun e => by have := congrArg List.length e; rw [List.length_drop, List.length_nil] at this; omega)] at hres
        have HE : Bx _ := ⟨HQN.out _ _ hres HI.out.bel⟩
        have hbI : (bg : Int) < (tx.length : Int) := by omega
        clear HI hres hno
        go_wp2
        go_ret3
        exact (by simpa using HE.out)
      · have hbe : bg = tx.length := by omega
        rw [if_pos (by rw [hbe, List.drop_length])] at hres
        have HE : Bx _ := ⟨HQY.out _ _ _ _ _ _ hres HI.out.bel HI.out.evo⟩
        have hbI : ¬ (bg : Int) < (tx.length : Int) := by omega
        clear HI hres hno
        go_wp2
        go_ret3
        exact HE.out
end Go.Proofs.YtecpknpcjoiliaaDoor
