import Derived.Test.YtecpknpcjoiliaaDoorCJPa
namespace Go.Proofs.YtecpknpcjoiliaaDoor
open Go.RowKit Go.Shelf
set_option linter.unusedVariables false
set_option linter.unusedSimpArgs false

/-- what Parse answers -/
def ParP (w : World) (r : Got (List Ev) Nat) (e : Ending) (w' : World) : Prop :=
  Bx (Below w.heap.size w w') ∧ match r with
  | .no n => e = .returned (.tuple #[.slice none 0 0, .int .i64 n, .int .i64 180])
  | .yes es => ∃ a n c ls, e = .returned (.tuple #[.slice a n c, .int .i64 0, .int .i64 0]) ∧ Bx (EvO w' w.heap.size (.slice a n c) es ls)
/-- Parse in the midst of a text -/
structure Prs (w W : World) (H : Nat) (tx : List UInt8) (pos bg : Nat) (vv : Value) (es : List Ev) (ls : List (Option Addr × Nat)) : Prop where
  it : W.heap[H]? = some (.stringIter ⟨tx.toArray⟩ pos)
  bel : Below H w W
  evo : EvO W H vv es ls
  bp : bg ≤ pos
  pl : pos ≤ tx.length
  no : (10 : UInt8) ∉ (tx.drop bg).take (pos - bg)
  res : readE tx = rdE2 (tx.drop bg) es
  few : es.length ≤ bg
  vs : ∃ a n c, vv = .slice a n c
theorem Prs.step {w W : World} {H : Nat} {tx : List UInt8} {pos bg : Nat} {vv : Value} {es : List Ev} {ls : List (Option Addr × Nat)} (h : Prs w W H tx pos bg vv es ls) (p2 : Nat) (h1 : pos ≤ p2) (h2 : p2 ≤ tx.length) (h3 : ∀ k, pos ≤ k → k < p2 → tx[k]? ≠ some 10) : Prs w (setIt W H (.stringIter ⟨tx.toArray⟩ p2)) H tx p2 bg vv es ls := by
  have hz := heap_lt h.it
  refine ⟨setIt_same _ _ _ hz, h.bel.trans (setIt_below W H H _ (Nat.le_refl _)), h.evo.on (fun g hg1 hg2 hg3 => setIt_other _ _ _ _ (fun e => by subst e; exact hg3 _ _ h.it)), by have := h.bp; omega, h2, fun hm => ?_, h.res, h.few, h.vs⟩
  have hbp := h.bp
  obtain ⟨k, hk, he⟩ := List.getElem_of_mem hm
  rw [List.length_take, List.length_drop] at hk
  rw [List.getElem_take, List.getElem_drop] at he
  rcases Nat.lt_or_ge (bg + k) pos with hlt | hge
  · refine h.no ?_
    have hk2 : k < ((tx.drop bg).take (pos - bg)).length := by rw [List.length_take, List.length_drop]; omega
    have := List.getElem_mem hk2
    rw [List.getElem_take, List.getElem_drop, he] at this
    exact this
  · exact h3 (bg + k) hge (by omega) (by rw [List.getElem?_eq_getElem (by omega), he])
set_option maxRecDepth 100000 in
set_option maxHeartbeats 4000000 in
theorem Parse_any (tx : List UInt8) (w : World) (hL : LW w) (hl : tx.length ≤ 1099511627776) :
    Calls Tryd.prog 18 #[strV tx] w (ParP w (readE tx)) := by
  obtain ⟨Q, hQ⟩ : ∃ Q, Q = ParP w (readE tx) := ⟨_, rfl⟩
  rw [← hQ]
  obtain ⟨H, hH⟩ : ∃ H, w.heap.size = H := ⟨_, rfl⟩
  have HQN : Bx (∀ (n : Nat) W, readE tx = .no n → Below H w W → Q (.returned (.tuple #[.slice none 0 0, .int .i64 n, .int .i64 180])) W) := ⟨fun n W h hb => by rw [hQ, h]; exact ⟨⟨by rw [hH]; exact hb⟩, rfl⟩⟩
  have HQY : Bx (∀ es W a n c ls, readE tx = .yes es → Below H w W → EvO W H (.slice a n c) es ls → Q (.returned (.tuple #[.slice a n c, .int .i64 0, .int .i64 0])) W) := ⟨fun es W a n c ls h hb ho => by rw [hQ, h]; exact ⟨⟨by rw [hH]; exact hb⟩, a, n, c, ls, rfl, ⟨by rw [hH]; exact ho⟩⟩⟩
  have HLL : Bx (∀ W, Below H w W → LW W) := ⟨fun W hb => hL.below (by rw [hH]; exact hb)⟩
  have hsz : (⟨tx.toArray⟩ : ByteArray).size = tx.length := by simp [ByteArray.size]
  obtain ⟨W1, hW1⟩ : ∃ W1, w.iter ⟨tx.toArray⟩ 0 = W1 := ⟨_, rfl⟩
  have HS : Bx (Prs w W1 H tx 0 0 (.slice none 0 0) [] []) := ⟨by
    rw [← hW1, ← hH]
    exact ⟨World.iter_heap w _ _, below1 w _, EvO.nil _ _, Nat.le_refl _, Nat.zero_le _, by simp, rfl, Nat.le_refl _, ⟨_, _, _, rfl⟩⟩⟩
  clear hQ hL
  go_enter Tryd.func18, Tryd.ntmps18
  go_wp2
  clear hW1
  go_loopg [5, 6] (tx.length + 1) (fun g v5 v6 wr => ∃ (pos bg : Nat) (vv : Value) (es : List Ev) (ls : List (Option Addr × Nat)), g = tx.length + 1 - pos ∧ vv = v5 ∧ v6 = .int .i64 (bg : Int) ∧ pos ≤ tx.length ∧ Bx (Prs w wr H tx pos bg vv es ls))
  case atStart => exact ⟨0, 0, _, [], [], by simp, rfl, rfl, by omega, HS⟩
  case round =>
    obtain ⟨pos, bg, vv, es, ls, hg, rfl, rfl, hpl, HI⟩ := hrel
    clear HS
    have hbp := HI.out.bp
    have hfew := HI.out.few
    have hz := heap_lt HI.out.it
    obtain ⟨a, n, c, rfl⟩ := HI.out.vs
    obtain ⟨hn, hvw⟩ := HI.out.evo.view
    subst hn
    clear hvw
    by_cases hp : pos < tx.length
    · by_cases h10 : tx[pos]? = some 10
      · obtain ⟨W2, hW2⟩ : ∃ W2, W2 = setIt wr H (.stringIter ⟨tx.toArray⟩ (pos + 1)) := ⟨_, rfl⟩
        have hnx : ∀ ty, (Instr.next (.pointer (some ⟨H, 0, none⟩)) true ty).run Tryd.prog wr = .ok (.tuple #[.bool true, .int .i64 pos, .int .i32 10]) W2 := fun ty => by
          rw [next_more wr H _ pos ty HI.out.it (by rw [hsz]; exact hp), dec_ten h10, hW2]
          rfl
        have hit2 : W2.heap[H]? = some (.stringIter ⟨tx.toArray⟩ (pos + 1)) := by rw [hW2]; exact setIt_same _ _ _ hz
        have hbe2 : Below H w W2 := by rw [hW2]; exact HI.out.bel.trans (setIt_below wr H H _ (Nat.le_refl _))
        have hev2 : EvO W2 H (.slice a es.length c) es ls := by rw [hW2]; exact HI.out.evo.on (fun g hg1 hg2 hg3 => setIt_other _ _ _ _ (fun e => by subst e; exact hg3 _ _ HI.out.it))
        have hz2 : H < W2.heap.size := heap_lt hit2
        obtain ⟨line, hline⟩ : ∃ line, line = (tx.drop bg).take (pos - bg) := ⟨_, rfl⟩
        have hxl : strV line = .string ((⟨tx.toArray⟩ : ByteArray).extract bg pos) := by rw [hline]; exact ext_str tx bg pos
        have hll : line.length ≤ 8796093022000 := by rw [hline, List.length_take, List.length_drop]; omega
        have hpx : tx[pos] = 10 := by
          rw [List.getElem?_eq_getElem hp] at h10
          exact Option.some.inj h10
        have hres : readE tx = match evOf line with | none => .no (es.length + 1) | some e => rdE2 (tx.drop (pos + 1)) (es ++ [e]) := by
          rw [HI.out.res, drop_cut hbp hp, hpx, hline]
          exact rdE2_cut HI.out.no
        have HCE : Bx (Calls Tryd.prog 36 #[.string ((⟨tx.toArray⟩ : ByteArray).extract bg pos)] W2 (EvP W2 (evOf line))) := ⟨by rw [← hxl]; exact eventOf_any line W2 (HLL.out W2 hbe2) hll⟩
        have c1 : (0 : Int) ≤ (bg : Int) := by omega
        have c2 : (bg : Int) ≤ (pos : Int) := by omega
        have c3 : (pos : Int) ≤ (tx.length : Int) := by omega
        have c4 : (tx.length : Int) ≤ 1099511627776 := by omega
        have c5 : (es.length : Int) ≤ 1099511627776 := by omega
        cases hE : evOf line with
        | none =>
          rw [hE] at hres HCE
          have HE : Bx (∀ W, Below W2.heap.size W2 W → ∀ o, Q (.returned (.tuple #[.slice none 0 0, .int .i64 ((es.length : Int) + 1), .int .i64 180])) (W.alloc o)) := ⟨fun W hb o => by
            have := HQN.out (es.length + 1) (W.alloc o) hres (hbe2.trans ((hb.trans ((below1 W o).mono hb.size)).mono (by omega)))
            simpa using this⟩
          have HC2 : Bx (Calls Tryd.prog 36 #[.string ((⟨tx.toArray⟩ : ByteArray).extract bg pos)] W2 fun e w' => ∃ (ev : Ev) (a : Option Addr) (n c : Nat), e = .returned (.tuple #[evW8 ev (.slice a n c), .bool false]) ∧ Below W2.heap.size W2 w') := ⟨HCE.out.mono fun e w' h => by
            obtain ⟨h1, ev, a, n, c, h2⟩ := h
            exact ⟨ev, a, n, c, h2, h1.out⟩⟩
          clear HI hev2 hit2 hbe2 HCE hxl hline hres hE h10 hpx hW2
          go_wp2_with (go_at_call 36; refine HC2.out.mono ?_; rintro e1 w3 ⟨ev3, a3, n3, c3', rfl, hb3⟩; have HB3 : Bx _ := ⟨HE.out _ hb3⟩; clear hb3)
          go_ret3
          exact HB3.out _
        | some e =>
          rw [hE] at hres HCE
          have HC2 : Bx (Calls Tryd.prog 36 #[.string ((⟨tx.toArray⟩ : ByteArray).extract bg pos)] W2 fun e' w' => ∃ (a3 : Option Addr) (c3 : Nat), e' = .returned (.tuple #[evW8 e (.slice a3 e.list.length c3), .bool true]) ∧ (NRo w' W2.heap.size (.slice a3 e.list.length c3) e.list ∧ Below W2.heap.size W2 w')) := ⟨HCE.out.mono fun e' w' h => by
            obtain ⟨h1, a, c, h2, h3⟩ := h
            exact ⟨a, c, h2, h3.out, h1.out⟩⟩
          have HAP : Bx (∀ w3 a3 c3, NRo w3 W2.heap.size (.slice a3 e.list.length c3) e.list → Below W2.heap.size W2 w3 → ∃ v' W5, (∀ ty, (Builtin.append_ #[29, 29] ty #[.slice a es.length c, .slice (some ⟨w3.heap.size + 1, 0, none⟩) 1 1]).run Tryd.prog ((w3.alloc (evB e (.slice a3 e.list.length c3))).alloc (evB e (.slice a3 e.list.length c3))) = .ok v' W5) ∧ Prs w W5 H tx (pos + 1) (pos + 1) v' (es ++ [e]) (ls ++ [(a3, c3)])) := ⟨fun w3 a3 c3 hr hb => by
            have hs3 := hb.size
            obtain ⟨W4, hW4⟩ : ∃ W4, W4 = w3.alloc (evB e (.slice a3 e.list.length c3)) := ⟨_, rfl⟩
            have hb4 : Below W2.heap.size W2 W4 := by rw [hW4]; exact hb.trans ((below1 w3 _).mono hs3)
            have hs4 := hb4.size
            have hr4 : NRo W4 H (.slice a3 e.list.length c3) e.list := by
              have h1 : NRo W4 W2.heap.size (.slice a3 e.list.length c3) e.list := by rw [hW4]; exact hr.below (below1 w3 _)
              refine ⟨h1.1, ?_⟩
              rcases h1.2 with e1 | ⟨g, cap, cur, e1, hg1, rest⟩
              · exact .inl e1
              · exact .inr ⟨g, cap, cur, e1, by omega, rest⟩
            have hev4 : EvO W4 H (.slice a es.length c) es ls := hev2.on (fun g hg1 hg2 hg3 => hb4.block g hg2)
            have hsz4 : w3.heap.size + 1 = W4.heap.size := by rw [hW4]; simp
            rw [← hW4, hsz4]
            have hold : ∀ i (hi : i < ls.length) n g, (Value.slice ls[i].1 n ls[i].2).ownBlock = some g → g < W2.heap.size := fun i hi n g hg => by
              have hie : i < es.length := by rw [← hev2.len]; exact hi
              have h1 := hev2.lst i hie hi
              have h2 : (Value.slice ls[i].1 es[i].list.length ls[i].2).ownBlock = some g := by
                cases hla : ls[i].1 with
                | none => rw [hla] at hg; simp [Value.ownBlock] at hg
                | some ad => rw [hla] at hg; exact hg
              exact (h1.lt h2).2
            obtain ⟨v', W5, r1, r2, r3⟩ := hev4.app (by omega) e a3 c3 hr4 W2.heap.size (fun g hg => (hr.lt hg).1) hold (by omega)
            refine ⟨v', W5, r1, ?_, ?_, r2, Nat.le_refl _, hp, by simp, hres, by simp; omega, ?_⟩
            · have hi4 : W4.heap[H]? = some (.stringIter ⟨tx.toArray⟩ (pos + 1)) := by rw [hb4.block H hz2]; exact hit2
              rw [r3.block H (heap_lt hi4) (fun e1 => by
                obtain ⟨cs, fz, h2⟩ := owns_kind hev4.row H e1.symm
                rw [hi4] at h2
                cases h2)]
              exact hi4
            · exact hbe2.trans ((hb4.mono (by omega)).trans ((Below.refl H W4).grown r3 (by omega) (fun k hk => (owns_block hev4.row hk).1)))
            · rcases r2.row.2 with ⟨e1, _⟩ | ⟨g, cap, cur, e1, _⟩
              · exact ⟨_, _, _, e1⟩
              · exact ⟨_, _, _, e1⟩⟩
          clear HI hev2 hit2 hbe2 HCE hxl hline hres hE h10 hpx hW2
          go_wp2_with (first
            | (go_at_call 36; refine HC2.out.mono ?_; rintro e1 w3 ⟨a3, c3', rfl, hr3, hb3⟩; obtain ⟨v6, W6, r6, h6⟩ := HAP.out w3 a3 c3' hr3 hb3; have HB6 : Bx _ := ⟨h6⟩; clear h6 hr3 hb3)
            | (at_builtin; refine wpList_appI rfl (.tmp 32) (.tmp 34) 29 rfl rfl rfl r6 ?_))
          go_roundg (tx.length + 1 - (pos + 1))
          case measure => omega
          case rel => exact ⟨pos + 1, pos + 1, v6, _, _, rfl, rfl, by go_num, hp, HB6⟩
      · obtain ⟨d1, d2, d3, d4, d5⟩ := dec_other hp h10
        have hnm := fun ty => next_more (P := Tryd.prog) wr H ⟨tx.toArray⟩ pos ty HI.out.it (by rw [hsz]; exact hp)
        have HN := HI.out.step (pos + (Utf8.decode ⟨tx.toArray⟩ pos).2) (by omega) d4 d5
        generalize (Utf8.decode ⟨tx.toArray⟩ pos).1 = r at *
        generalize (Utf8.decode ⟨tx.toArray⟩ pos).2 = k at *
        obtain ⟨W2, hW2⟩ : ∃ W2, W2 = setIt wr H (.stringIter ⟨tx.toArray⟩ (pos + k)) := ⟨_, rfl⟩
        rw [← hW2] at hnm HN
        have HNB : Bx _ := ⟨HN⟩
        have hr1 : ¬ (r : Int) = 10 := by omega
        have hr2 : ((r : Int) == 10) = false := by simpa using hr1
        have hr3 : ((r : Int) != 10) = true := by simpa using hr1
        clear HI HN hW2 d5 h10
        go_wp2
        go_roundg (tx.length + 1 - (pos + k))
        case measure => omega
        case rel => exact ⟨pos + k, bg, _, _, _, rfl, rfl, rfl, d4, HNB⟩
    · have hpe : pos = tx.length := by omega
      subst hpe
      have hnx := fun ty => next_end (P := Tryd.prog) wr H ⟨tx.toArray⟩ tx.length ty HI.out.it (by rw [hsz]; omega)
      have hno : (10 : UInt8) ∉ tx.drop bg := by
        have := HI.out.no
        rwa [List.take_of_length_le (by rw [List.length_drop]; omega)] at this
      have hres := HI.out.res
      rw [rdE2_end hno] at hres
      have c4 : (tx.length : Int) ≤ 1099511627776 := by omega
      have c5 : (es.length : Int) ≤ 1099511627776 := by omega
      by_cases hbl : bg < tx.length
      · rw [if_neg (fun e => by have := congrArg List.length e; rw [List.length_drop, List.length_nil] at this; omega)] at hres
        have HE : Bx _ := ⟨HQN.out _ _ hres HI.out.bel⟩
        have hbI : (bg : Int) < (tx.length : Int) := by omega
        clear HI hres hno
        go_wp2
        go_ret3
        exact (by simpa using HE.out)
      · have hbe : bg = tx.length := by omega
        rw [if_pos (by rw [hbe, List.drop_length])] at hres
        have HE : Bx _ := ⟨HQY.out _ _ _ _ _ _ hres HI.out.bel HI.out.evo⟩
        have hbI : ¬ (bg : Int) < (tx.length : Int) := by omega
        clear HI hres hno
        go_wp2
        go_ret3
        exact HE.out
end Go.Proofs.YtecpknpcjoiliaaDoor
