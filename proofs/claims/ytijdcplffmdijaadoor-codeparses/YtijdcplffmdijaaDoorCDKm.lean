import Derived.Test.YtijdcplffmdijaaDoorCDKg
import Derived.Test.YtijdcplffmdijaaDoorCDHa
import Derived.Deep.DeepAppendRoom
namespace Go.Proofs.YtijdcplffmdijaaDoor
open Go.RowKit
set_option linter.unusedVariables false
set_option linter.unusedSimpArgs false

/-- one element behind a row of one's own: in its spare room, or in a new block, and then the old one stays -/
theorem app2 {e t : TypeId} {i0 : TypeInfo} {z : Value} {s bt : Nat} (ht : Tryd.prog.underlying t = some (.slice e)) (hi : Tryd.prog.info? e = some i0) (hz : i0.zero = some z) (hs : i0.size = s) (hb : i0.bytes = bt) (hzs : z.cells.size = s) (hs0 : 0 < s)
    (W : World) (B : Nat) (v : Value) (n : Nat) (xs : List Value) (ho : W.ownsRow B e s v n xs) (cs : Array Value) (hcs : cs.toList.length = s) (h1 : ∀ u ∈ cs.toList, u.oneCell' = true) (hn : n + 1 ≤ maxLen) (hby : (n + 1) * bt ≤ 140737488355328) (hB : B ≤ W.heap.size) :
    ∃ g c W3, (∀ ty, (Builtin.append_ #[t, t] ty #[v, .slice (some ⟨W.heap.size, 0, none⟩) 1 1]).run Tryd.prog (W.alloc (.cells cs e)) = .ok (.slice (some ⟨g, 0, none⟩) (n + 1) c) W3) ∧ W3.ownsRow B e s (.slice (some ⟨g, 0, none⟩) (n + 1) c) (n + 1) (xs ++ cs.toList) ∧ ((v = .slice (some ⟨g, 0, none⟩) n c ∧ W.grownBy W3 (some g)) ∨ (W.heap.size ≤ g ∧ W.grownBy W3 none)) := by
  have ho' : (W.alloc (.cells cs e)).ownsRow B e s v n xs := ho.alloc _
  have hw : ∀ (W3 : World) (r : Option Nat), (W.alloc (.cells cs e)).grownBy W3 r → W.grownBy W3 r := fun W3 r r3 => ⟨r3.os, r3.tape, r3.output, Nat.le_trans (by simp) r3.size, fun k hk hne => by
    rw [r3.block k (by simp; omega) hne, Below.heap_alloc W _ k hk]⟩
  obtain ⟨g', c', W3, r1, r2, r3, r4, r5⟩ := run_append_lies (P := Tryd.prog) (W.alloc (.cells cs e)) t e B e i0 z s bt ht hi hz hs hb hzs hs0 v n xs ho' ⟨W.heap.size, 0, none⟩ 1 1 cs.toList (by omega) (World.news_of_block (heap_alloc_new W _)) h1 (by omega) hn hby (by simp; omega) _ rfl
  rcases ho.2 with ⟨rfl, rfl⟩ | ⟨g, cap, cur, rfl, hBg, hg, q1, q2, q3, q4⟩
  · refine ⟨g', c', W3, fun ty => r1, r2, .inr ⟨?_, hw _ _ r3⟩⟩
    rcases r4 with h | h
    · cases h
    · rw [h]; simp
  · by_cases hroom : n + 1 ≤ cap
    · obtain ⟨w', hr, h2, h3⟩ := run_append_own_spare (P := Tryd.prog) (W.alloc (.cells cs e)) B t e e i0 s ht hi hs g n cap xs ho' ⟨W.heap.size, 0, none⟩ 1 1 cs.toList (by omega) (World.news_of_block (heap_alloc_new W _)) h1 hroom
      exact ⟨g, cap, w', fun ty => hr, h2, .inl ⟨rfl, hw _ _ h3⟩⟩
    · subst hs hb
      have holds : ∀ j u, xs[j]? = some u → (W.alloc (.cells cs e)).cell? ((⟨g, 0, none⟩ : Addr).add j) = some u := ho'.cells (g := g) rfl
      have hr := run_append_grow (P := Tryd.prog) (W.alloc (.cells cs e)) t e e i0 z ht hi hz ⟨g, 0, none⟩ n cap xs ho.1 holds ⟨W.heap.size, 0, none⟩ 1 1 cs.toList (by omega) (World.news_of_block (heap_alloc_new W _)) (by omega) (by simp only [maxLen] at hn; omega) (growslice_fits (by omega) hby)
      rw [hr] at r1
      injection r1 with r1 rw3
      injection r1 with r1 _ rc
      injection r1 with r1
      injection r1 with r1
      refine ⟨g', c', W3, fun ty => ?_, r2, .inr ⟨?_, hw _ _ ?_⟩⟩
      · rw [← r1, ← rc, ← rw3]; exact hr
      · rw [← r1]; simp
      · rw [← rw3]
        exact ⟨rfl, rfl, rfl, by simp, fun k hk _ => Below.heap_alloc (W.alloc (.cells cs e)).drew _ k hk⟩
theorem owns_gr {w w' : World} {row : Option Nat} {B s n : Nat} {e : TypeId} {v : Value} {xs : List Value} (h : w.ownsRow B e s v n xs) (hg : w.grownBy w' row) (hr : ∀ b, v.ownBlock = some b → row ≠ some b) : w'.ownsRow B e s v n xs := by
  refine ⟨h.1, ?_⟩
  rcases h.2 with hn | ⟨g, cap, cur, rfl, hB, hgg, rest⟩
  · exact .inl hn
  · exact .inr ⟨g, cap, cur, rfl, hB, (hg.block g (Array.getElem?_eq_some_iff.1 hgg).1 fun e => hr g rfl e.symm).trans hgg, rest⟩
theorem gr_trans {a b c : World} {r q : Option Nat} (h : a.grownBy b r) (g : b.grownBy c q) (hq : ∀ x, q = some x → r = some x ∨ a.heap.size ≤ x) : a.grownBy c r :=
  ⟨g.os.trans h.os, g.tape.trans h.tape, g.output.trans h.output, Nat.le_trans h.size g.size, fun k hk hne => by
    rw [g.block k (Nat.lt_of_lt_of_le hk h.size) (fun e => by
      rcases hq k e.symm with h | h
      · exact hne h.symm
      · omega)]
    exact h.block k hk hne⟩
theorem gr_refl (w : World) (r : Option Nat) : w.grownBy w r := ⟨rfl, rfl, rfl, Nat.le_refl _, fun _ _ _ => rfl⟩
/-- a list that grows, and the one that it grew out of -/
structure Grw (e : TypeId) (s B : Nat) (v : Value) (n : Nat) (xs : List Value) (w0 : World) (k : Nat) (vk : Value) (wk : World) : Prop where
  own : ∃ zs, wk.ownsRow B e s vk (n + k) (xs ++ zs)
  old : wk.ownsRow B e s v n xs
  gr : w0.grownBy wk v.ownBlock
  lt : ∀ b, v.ownBlock = some b → b < w0.heap.size
  at_ : ∀ g, vk.ownBlock = some g → (∃ c, v = .slice (some ⟨g, 0, none⟩) n c ∧ vk = .slice (some ⟨g, 0, none⟩) (n + k) c) ∨ w0.heap.size ≤ g
theorem Grw.start {e : TypeId} {s B : Nat} {v : Value} {n : Nat} {xs : List Value} {w0 w : World} (h : w.ownsRow B e s v n xs) (hg : w0.grownBy w v.ownBlock) (hl : ∀ b, v.ownBlock = some b → b < w0.heap.size) : Grw e s B v n xs w0 0 v w := by
  refine ⟨⟨[], by simpa using h⟩, h, hg, hl, fun g hgg => .inl ?_⟩
  rcases h.2 with ⟨rfl, _⟩ | ⟨g', cap, cur, rfl, rest⟩
  · cases hgg
  · simp only [Value.ownBlock, Option.some.injEq] at hgg
    subst hgg
    exact ⟨cap, rfl, rfl⟩
theorem Grw.step {e t : TypeId} {i0 : TypeInfo} {z : Value} {s bt : Nat} (ht : Tryd.prog.underlying t = some (.slice e)) (hi : Tryd.prog.info? e = some i0) (hz : i0.zero = some z) (hs : i0.size = s) (hb : i0.bytes = bt) (hzs : z.cells.size = s) (hs0 : 0 < s)
    {B : Nat} {v : Value} {n : Nat} {xs : List Value} {w0 : World} {k : Nat} {vk : Value} {wk : World} (h : Grw e s B v n xs w0 k vk wk) (cs : Array Value) (hcs : cs.toList.length = s) (h1 : ∀ u ∈ cs.toList, u.oneCell' = true) (hn : n + k + 1 ≤ maxLen) (hby : (n + k + 1) * bt ≤ 140737488355328) (hB : B ≤ w0.heap.size) :
    ∃ g c W3, (∀ ty, (Builtin.append_ #[t, t] ty #[vk, .slice (some ⟨wk.heap.size, 0, none⟩) 1 1]).run Tryd.prog (wk.alloc (.cells cs e)) = .ok (.slice (some ⟨g, 0, none⟩) (n + k + 1) c) W3) ∧ Grw e s B v n xs w0 (k + 1) (.slice (some ⟨g, 0, none⟩) (n + k + 1) c) W3 := by
  obtain ⟨zs, ho⟩ := h.own
  have hsz := h.gr.size
  obtain ⟨g, c, W3, r1, r2, r3⟩ := app2 ht hi hz hs hb hzs hs0 wk B vk (n + k) (xs ++ zs) ho cs hcs h1 hn hby (by omega)
  refine ⟨g, c, W3, r1, ?_⟩
  have hxl : xs.length = n * s := h.old.1
  rcases r3 with ⟨rfl, hg⟩ | ⟨hge, hg⟩
  · rcases h.at_ g rfl with ⟨c', e1, e2⟩ | hge
    · have hc : c' = c := by
        have := congrArg (fun v : Value => match v with | .slice _ _ c => c | _ => 0) e2
        exact this.symm
      subst hc
      subst e1
      refine ⟨⟨zs ++ cs.toList, by rw [← List.append_assoc]; exact r2⟩, ?_, gr_trans h.gr hg (fun x hx => .inl hx), h.lt, fun g' hg' => ?_⟩
      · rcases r2.2 with ⟨hh, _⟩ | ⟨g2, cap2, cur, e3, q1, q2, q3, q4, q5, q6⟩
        · cases hh
        · injection e3 with e3 _ e4
          injection e3 with e3
          injection e3 with e3
          subst e3 e4
          refine ⟨hxl, .inr ⟨g, c', cur, rfl, q1, q2, ?_, q4, q5, ?_⟩⟩
          · omega
          · have e5 := congrArg (List.take (n * s)) q6
            rw [List.take_take, Nat.min_eq_left (Nat.mul_le_mul_right _ (by omega)), List.append_assoc, ← hxl, List.take_left] at e5
            rw [← hxl]
            exact e5
      · simp only [Value.ownBlock, Option.some.injEq] at hg'
        subst hg'
        exact .inl ⟨c', rfl, rfl⟩
    · refine ⟨⟨zs ++ cs.toList, by rw [← List.append_assoc]; exact r2⟩, owns_gr h.old hg (fun b hb e => ?_), gr_trans h.gr hg (fun x hx => .inr ?_), h.lt, fun g' hg' => .inr ?_⟩
      · injection e with e
        have := h.lt b hb
        omega
      · injection hx with hx
        omega
      · simp only [Value.ownBlock, Option.some.injEq] at hg'
        omega
  · refine ⟨⟨zs ++ cs.toList, by rw [← List.append_assoc]; exact r2⟩, owns_gr h.old hg (fun b hb e => by cases e), gr_trans h.gr hg (fun x hx => by cases hx), h.lt, fun g' hg' => .inr ?_⟩
    simp only [Value.ownBlock, Option.some.injEq] at hg'
    omega
/-- a mark more -/
theorem mark_step {W : World} {B g n cap k : Nat} {e : TypeId} {m : Value} {xs : List Value} (h : W.ownsRow B e 1 (.slice (some ⟨g, 0, none⟩) n cap) n (List.replicate k m ++ xs.drop k)) (hk : k < n) (hx : xs.length = n) : (W.setCell ⟨g, k, none⟩ m).ownsRow B e 1 (.slice (some ⟨g, 0, none⟩) n cap) n (List.replicate (k + 1) m ++ xs.drop (k + 1)) := by
  rcases h.2 with ⟨hh, _⟩ | ⟨g2, cap2, cur, e3, q1, q2, q3, q4, q5, q6⟩
  · cases hh
  · injection e3 with e3 _ e4
    injection e3 with e3
    injection e3 with e3
    subst e3 e4
    refine ⟨by simp; omega, .inr ⟨g, cap, cur.setIfInBounds k m, rfl, q1, heap_setCell_same W g k _ _ m q2, q3, q4, by simpa using q5, ?_⟩⟩
    rw [Array.toList_setIfInBounds, List.take_set, q6, List.set_append_right _ _ (by simp), List.length_replicate, Nat.sub_self, List.drop_eq_getElem_cons (by omega), List.set_cons_zero, List.replicate_succ', List.append_assoc]
    rfl
theorem mark_cell {W : World} {B g n cap k : Nat} {e : TypeId} {m : Value} {xs : List Value} (h : W.ownsRow B e 1 (.slice (some ⟨g, 0, none⟩) n cap) n xs) (hk : k < n) : (∃ v, W.cell? ⟨g, k, none⟩ = some v) ∧ W.frozen? ⟨g, k, none⟩ = false ∧ g < W.heap.size ∧ n ≤ cap := by
  rcases h.2 with ⟨hh, _⟩ | ⟨g2, cap2, cur, e3, q1, q2, q3, q4, q5, q6⟩
  · cases hh
  · injection e3 with e3 _ e4
    injection e3 with e3
    injection e3 with e3
    subst e3 e4
    exact ⟨⟨_, cell_blk q2 (Array.getElem?_eq_getElem (by omega))⟩, by simp [World.frozen?, q2], (Array.getElem?_eq_some_iff.1 q2).1, q3⟩
theorem int_oneM (x : Int) : ∀ u ∈ (#[Value.int .i64 x] : Array Value).toList, u.oneCell' = true := by
  intro u hu
  simp only [List.mem_cons, List.not_mem_nil, or_false] at hu
  subst hu
  rfl
end Go.Proofs.YtijdcplffmdijaaDoor
namespace Go.Proofs.YtijdcplffmdijaaDoor
open Go.RowKit
set_option linter.unusedVariables false
set_option linter.unusedSimpArgs false

theorem owns_slice {w : World} {B s n : Nat} {e : TypeId} {v : Value} {xs : List Value} (h : w.ownsRow B e s v n xs) : ∃ a cap, v = .slice a n cap := by
  rcases h.2 with ⟨rfl, rfl⟩ | ⟨g, cap, cur, rfl, _⟩
  · exact ⟨_, _, rfl⟩
  · exact ⟨_, _, rfl⟩
set_option maxRecDepth 100000 in
set_option maxHeartbeats 4000000 in
/-- marks in all places of a list; its growing changes no place of it -/
theorem markAll_any (w : World) (B : Nat) (a : Option Addr) (n cap : Nat) (xs : List Value) (mark : Int) (hm : -1000 ≤ mark ∧ mark ≤ 1000) (ho : w.ownsRow B 3 1 (.slice a n cap) n xs) (hB : B ≤ w.heap.size) (hn : n ≤ 1099511627776) :
    Calls Tryd.prog 52 #[.slice a n cap, .int .i64 mark] w fun e w' => e = .returned (.tuple #[]) ∧ Bx (w'.ownsRow B 3 1 (.slice a n cap) n (List.replicate n (.int .i64 mark)) ∧ w.grownBy w' (Value.slice a n cap).ownBlock) := by
  obtain ⟨i0, hi0, hz0, hz1, hz2⟩ := info_parts infoInt
  have hxl : xs.length = n := by simpa using ho.1
  have hlt : ∀ b, (Value.slice a n cap).ownBlock = some b → b < w.heap.size := fun b hb => (owns_block ho hb).2
  have hm1 : IntKind.i64.wrap (mark - 1) = mark - 1 := by
    have e : IntKind.i64.bits = 64 := rfl
    unfold IntKind.wrap
    simp [e, IntKind.signed]
    omega
  have HA : Bx (∀ k wr, k < n → wr.ownsRow B 3 1 (.slice a n cap) n (List.replicate k (.int .i64 mark) ++ xs.drop k) ∧ w.grownBy wr (Value.slice a n cap).ownBlock →
      ∃ g, a = some ⟨g, 0, none⟩ ∧ ((∃ v, wr.cell? ⟨g, k, none⟩ = some v) ∧ wr.frozen? ⟨g, k, none⟩ = false ∧ g < wr.heap.size ∧ n ≤ cap) ∧ (wr.setCell ⟨g, k, none⟩ (.int .i64 mark)).ownsRow B 3 1 (.slice a n cap) n (List.replicate (k + 1) (.int .i64 mark) ++ xs.drop (k + 1)) ∧ w.grownBy (wr.setCell ⟨g, k, none⟩ (.int .i64 mark)) (Value.slice a n cap).ownBlock) := ⟨fun k wr hk h => by
    rcases h.1.2 with ⟨_, h0⟩ | ⟨g, c, cur, e1, _⟩
    · omega
    · injection e1 with e1 _ e2
      subst e1 e2
      exact ⟨g, rfl, mark_cell (m := .int .i64 mark) h.1 hk, mark_step h.1 hk hxl, gr_trans h.2 (gr_set _ _ _ _) fun x hx => .inl hx⟩⟩
  have HG : Bx (∀ k vk wr, k < 20 → Grw 3 1 B (.slice a n cap) n (List.replicate n (.int .i64 mark)) w k vk wr → ∃ g c W3, (∀ ty, (Builtin.append_ #[26, 26] ty #[vk, .slice (some ⟨wr.heap.size, 0, none⟩) 1 1]).run Tryd.prog (wr.alloc (.cells #[.int .i64 (mark - 1)] 3)) = .ok (.slice (some ⟨g, 0, none⟩) (n + k + 1) c) W3) ∧ Grw 3 1 B (.slice a n cap) n (List.replicate n (.int .i64 mark)) w (k + 1) (.slice (some ⟨g, 0, none⟩) (n + k + 1) c) W3) := ⟨fun k vk wr hk h => h.step Tryd.underlying26 hi0 hz0 hz1 hz2 rfl (by decide) _ rfl (int_oneM _) (by unfold maxLen; omega) (by omega) hB⟩
  have H0 : Bx (w.ownsRow B 3 1 (.slice a n cap) n (List.replicate 0 (.int .i64 mark) ++ xs.drop 0) ∧ w.grownBy w (Value.slice a n cap).ownBlock) := ⟨⟨by simpa using ho, gr_refl _ _⟩⟩
  have HL : Bx _ := ⟨hlt⟩
  clear ho hlt
  go_enter Tryd.func52, Tryd.ntmps52
  go_wp2
  go_loopw [4] (fun x wr => ∃ k : Nat, k ≤ n ∧ x = .int .i64 k ∧ Bx (wr.ownsRow B 3 1 (.slice a n cap) n (List.replicate k (.int .i64 mark) ++ xs.drop k) ∧ w.grownBy wr (Value.slice a n cap).ownBlock)) (fun x _ => n - (intOf x).toNat)
  case atStart => exact ⟨0, Nat.zero_le _, rfl, H0⟩
  case round =>
    obtain ⟨k, hk, rfl, HR⟩ := hrel
    clear H0
    by_cases hlk : k < n
    · obtain ⟨g, rfl, ⟨⟨v, x1⟩, x2, x3, x4⟩, x5⟩ := HA.out k wr hlk HR.out
      have HNX : Bx _ := ⟨x5⟩
      have q1 : (k : Int) < (n : Int) := by omega
      have q2 : (0 : Int) ≤ (k : Int) := by omega
      clear x5 HR HA HG
      go_wp2
      go_roundw
      case rel => exact ⟨k + 1, by omega, by go_num, HNX⟩
      case measure => simp [intOf]; omega
    · have q1 : ¬ (k : Int) < (n : Int) := by omega
      have hkn : k = n := by omega
      have HS : Bx (Grw 3 1 B (.slice a n cap) n (List.replicate n (.int .i64 mark)) w 0 (.slice a n cap) wr) := ⟨Grw.start (by have := HR.out.1; rw [hkn, List.drop_eq_nil_of_le (by omega), List.append_nil] at this; exact this) HR.out.2 HL.out⟩
      clear HR HA hkn
      go_wp2
      go_loopw [5, 6] (fun y x wr => ∃ k : Nat, k ≤ 20 ∧ x = .int .i64 k ∧ Bx (Grw 3 1 B (.slice a n cap) n (List.replicate n (.int .i64 mark)) w k y wr)) (fun _ x _ => 20 - (intOf x).toNat)
      case atStart => exact ⟨0, Nat.zero_le _, rfl, HS⟩
      case round =>
        obtain ⟨k2, hk2, rfl, HR⟩ := hrel
        clear HS
        by_cases hl2 : k2 < 20
        · obtain ⟨g, c, W3, r1, r2⟩ := HG.out k2 _ wr hl2 HR.out
          have HNX : Bx _ := ⟨r2⟩
          have q3 : (k2 : Int) < 20 := by omega
          clear r2 HR HG
          go_wp2_with (first
            | (refine wpList_appI rfl _ _ _ rfl rfl rfl r1 ?_))
          go_roundw
          case rel => exact ⟨k2 + 1, by omega, by go_num, HNX⟩
          case measure => simp [intOf]; omega
        · have q3 : ¬ (k2 : Int) < 20 := by omega
          have HE : Bx _ := ⟨HR.out⟩
          clear HR HG
          go_wp2
          refine bodyPost_end (v := .tuple #[]) (by simp [results, Tryd.results52, go_sem]) rfl ?_
          exact ⟨rfl, ⟨HE.out.old, HE.out.gr⟩⟩
end Go.Proofs.YtijdcplffmdijaaDoor
