import Derived.Test.YtjabdhmkibahlaaCGUa
import Derived.Test.YtjabdhmkibahlaaCGIp
import Derived.Deep.RegionHeld
import Derived.Test.YtjabdhmkibahlaaCGIs
import Derived.Laws.Rows
import Derived.Lib.BufferMore
namespace Go.Proofs.Ytjabdhmkibahlaa
open Go.RowKit Go.MapKept Go.ChangeMaps Go.WideShapes
set_option linter.unusedVariables false
set_option linter.unusedSimpArgs false

/-- the agents of the document's examples -/
def exS : List Ag := [⟨0, true, [], [1, 2, 3]⟩, ⟨1, false, [⟨3, false⟩], [3]⟩, ⟨2, false, [⟨4, false⟩], [4]⟩, ⟨3, false, [⟨4, true⟩], [4, 5]⟩, ⟨4, false, [⟨0, false⟩], []⟩]
theorem exS_ok : stOk exS = true := by decide
theorem exS_few : Few exS := by
  intro a ha
  simp [exS] at ha
  rcases ha with rfl | rfl | rfl | rfl | rfl <;> simp
theorem exS_links : linksI exS = [⟨0, 1, 3⟩, ⟨3, 2, 4⟩, ⟨2, 3, 4⟩] := by rfl
theorem exS_fit : fitsF (whoI exS) ⟨3, 2, 4⟩ = true := by decide
theorem exS_not : fitsF (whoI exS) ⟨0, 2, 4⟩ = false := by decide
theorem own_blk {W : World} {g : Nat} {e : TypeId} {z n : Nat} {us : Array Value} (h : W.heap[g]? = some (.cells us e (0, 0))) (hs : us.size = n * z) (hn : n ≤ maxLen) : W.ownsRow 0 e z (.slice (some ⟨g, 0, none⟩) n n) n us.toList :=
  ⟨by simpa using hs, .inr ⟨g, n, us, rfl, Nat.zero_le _, h, Nat.le_refl _, hn, hs, List.take_of_length_le (by simp [hs])⟩⟩
theorem alloc_at {W : World} {us : Array Value} {t : TypeId} {g : Nat} (h : W.heap.size = g) : (W.alloc (.cells us t)).heap[g]? = some (.cells us t (0, 0)) := by subst h; exact World.alloc_heap_new _ _
theorem up {W : World} {o o' : Obj} {g : Nat} (h : W.heap[g]? = some o) : (W.alloc o').heap[g]? = some o := ((below1 W o').block g (Array.getElem?_eq_some_iff.1 h).1).trans h
def iV (k : Int) : Value := .int .i64 k
def pS (g n : Nat) : Value := .slice (some ⟨g, 0, none⟩) n n
theorem st_read {X : World} {g0 g1 g2 g3 g4 g5 g6 g7 g8 : Nat} (h0 : X.heap[g0]? = some (.cells #[iV 1, iV 2, iV 3] 3 (0, 0))) (h1 : X.heap[g1]? = some (.cells #[iV 3, .bool false] 58 (0, 0))) (h2 : X.heap[g2]? = some (.cells #[iV 3] 3 (0, 0)))
    (h3 : X.heap[g3]? = some (.cells #[iV 4, .bool false] 58 (0, 0))) (h4 : X.heap[g4]? = some (.cells #[iV 4] 3 (0, 0))) (h5 : X.heap[g5]? = some (.cells #[iV 4, .bool true] 58 (0, 0))) (h6 : X.heap[g6]? = some (.cells #[iV 4, iV 5] 3 (0, 0))) (h7 : X.heap[g7]? = some (.cells #[iV 0, .bool false] 58 (0, 0)))
    (h8 : X.heap[g8]? = some (.cells #[iV 0, .bool true, .slice none 0 0, pS g0 3, iV 1, .bool false, pS g1 1, pS g2 1, iV 2, .bool false, pS g3 1, pS g4 1, iV 3, .bool false, pS g5 1, pS g6 2, iV 4, .bool false, pS g7 1, .slice none 0 0] 53 (0, 0))) : AgsR X (some ⟨g8, 0, none⟩) 5 exS := by
  have e0 := own_blk (n := 3) (z := 1) h0 rfl (by decide)
  have e1 := own_blk (n := 1) (z := 2) h1 rfl (by decide)
  have e2 := own_blk (n := 1) (z := 1) h2 rfl (by decide)
  have e3 := own_blk (n := 1) (z := 2) h3 rfl (by decide)
  have e4 := own_blk (n := 1) (z := 1) h4 rfl (by decide)
  have e5 := own_blk (n := 1) (z := 2) h5 rfl (by decide)
  have e6 := own_blk (n := 2) (z := 1) h6 rfl (by decide)
  have e7 := own_blk (n := 1) (z := 2) h7 rfl (by decide)
  have e8 := own_blk (n := 5) (z := 4) h8 rfl (by decide)
  have n1 : X.ownsRow 0 58 2 (.slice none 0 0) 0 [] := ⟨rfl, .inl ⟨rfl, rfl⟩⟩
  have n2 : X.ownsRow 0 3 1 (.slice none 0 0) 0 [] := ⟨rfl, .inl ⟨rfl, rfl⟩⟩
  have hC : AgC X 0 exS #[iV 0, .bool true, .slice none 0 0, pS g0 3, iV 1, .bool false, pS g1 1, pS g2 1, iV 2, .bool false, pS g3 1, pS g4 1, iV 3, .bool false, pS g5 1, pS g6 2, iV 4, .bool false, pS g7 1, .slice none 0 0].toList := by
    refine ⟨_, _, rfl, ⟨none, 0, some ⟨g0, 0, none⟩, 3, rfl, by unfold I64; simp, by simp, by simp [I64], n1, e0⟩, ?_⟩
    refine ⟨_, _, rfl, ⟨some ⟨g1, 0, none⟩, 1, some ⟨g2, 0, none⟩, 1, rfl, by unfold I64; simp, by simp [I64], by simp [I64], e1, e2⟩, ?_⟩
    refine ⟨_, _, rfl, ⟨some ⟨g3, 0, none⟩, 1, some ⟨g4, 0, none⟩, 1, rfl, by unfold I64; simp, by simp [I64], by simp [I64], e3, e4⟩, ?_⟩
    refine ⟨_, _, rfl, ⟨some ⟨g5, 0, none⟩, 1, some ⟨g6, 0, none⟩, 2, rfl, by unfold I64; simp, by simp [I64], by simp [I64], e5, e6⟩, ?_⟩
    refine ⟨_, _, rfl, ⟨some ⟨g7, 0, none⟩, 1, none, 0, rfl, by unfold I64; simp, by simp [I64], by simp, e7, n2⟩, ?_⟩
    rfl
  obtain ⟨p, c, e, h⟩ := AgC.read e8 hC
  injection e with x1 x2 x3
  subst x1 x3
  exact h
/-- the links of the examples, where they lie -/
theorem links_at {W : World} {B : Nat} {v : Value} (h : W.ownsRow B 24 3 v 3 (lksC [⟨0, 1, 3⟩, ⟨3, 2, 4⟩, ⟨2, 3, 4⟩])) : ∃ g cap, v = .slice (some ⟨g, 0, none⟩) 3 cap ∧ 3 ≤ cap ∧ cap ≤ maxLen ∧ ∀ X, Below W.heap.size W X →
    (X.cell? ⟨g, 0, none⟩ = some (.int .i64 0) ∧ X.cell? ⟨g, 1, none⟩ = some (.int .i64 1) ∧ X.cell? ⟨g, 2, none⟩ = some (.int .i64 3)) ∧ (X.cell? ⟨g, 3, none⟩ = some (.int .i64 3) ∧ X.cell? ⟨g, 4, none⟩ = some (.int .i64 2) ∧ X.cell? ⟨g, 5, none⟩ = some (.int .i64 4)) ∧ (X.cell? ⟨g, 6, none⟩ = some (.int .i64 2) ∧ X.cell? ⟨g, 7, none⟩ = some (.int .i64 3) ∧ X.cell? ⟨g, 8, none⟩ = some (.int .i64 4)) := by
  have h' := h
  rcases h.2 with ⟨x1, x2⟩ | ⟨g, cap, cur, x1, x2, x3, x4, x5, x6, x7⟩
  · omega
  · refine ⟨g, cap, x1, x4, x5, fun X hX => ?_⟩
    rw [x1] at h'
    have hl := (Array.getElem?_eq_some_iff.1 x3).1
    have key : ∀ j u, j < 9 → (lksC [⟨0, 1, 3⟩, ⟨3, 2, 4⟩, ⟨2, 3, 4⟩])[j]? = some u → X.cell? ⟨g, j, none⟩ = some u := fun j u hj hu => by
      rw [hX.cell (p := ⟨g, j, none⟩) hl, h'.cellAt j (by omega)]
      exact hu
    exact ⟨⟨key 0 _ (by omega) rfl, key 1 _ (by omega) rfl, key 2 _ (by omega) rfl⟩, ⟨key 3 _ (by omega) rfl, key 4 _ (by omega) rfl, key 5 _ (by omega) rfl⟩, ⟨key 6 _ (by omega) rfl, key 7 _ (by omega) rfl, key 8 _ (by omega) rfl⟩⟩
/-- what Take makes of the examples, where it lies -/
theorem took_at {W : World} {B : Nat} {v : Value} {cs : List Value} (ho : W.ownsRow B 53 4 v 5 cs) (hC : AgC W B (exS.map (tkA ⟨3, 2, 4⟩)) cs) : ∃ g cap, v = .slice (some ⟨g, 0, none⟩) 5 cap ∧ 5 ≤ cap ∧ cap ≤ maxLen ∧ ∀ X, Below W.heap.size W X →
    X.cell? ⟨g, 9, none⟩ = some (.bool true) ∧ X.cell? ⟨g, 13, none⟩ = some (.bool true) ∧ X.cell? ⟨g, 5, none⟩ = some (.bool false) := by
  rcases ho.2 with ⟨x1, x2⟩ | ⟨g, cap, cur, x1, x2, x3, x4, x5, x6, x7⟩
  · omega
  · obtain ⟨p, c, e, h⟩ := AgC.read (gs := exS.map (tkA ⟨3, 2, 4⟩)) ho hC
    rw [x1] at e
    injection e with y1 y2 y3
    subst y1 y3
    refine ⟨g, cap, x1, x4, x5, fun X hX => ?_⟩
    obtain ⟨b1, o1, _, _, _, _, q1, _, h1⟩ := h.at_ 1 (by decide)
    obtain ⟨b2, o2, _, _, _, _, q2, _, h2⟩ := h.at_ 2 (by decide)
    obtain ⟨b3, o3, _, _, _, _, q3, _, h3⟩ := h.at_ 3 (by decide)
    cases q1
    cases q2
    cases q3
    exact ⟨(h2 X hX).2.1, (h3 X hX).2.1, (h1 X hX).2.1⟩
theorem l64a : Lk64 ⟨3, 2, 4⟩ := ⟨by unfold I64; simp, by unfold I64; simp, by unfold I64; simp⟩
theorem l64b : Lk64 ⟨0, 2, 4⟩ := ⟨by unfold I64; simp, by unfold I64; simp, by unfold I64; simp⟩
end Go.Proofs.Ytjabdhmkibahlaa
namespace Go.Proofs.Ytjabdhmkibahlaa
open Go.RowKit
set_option linter.unusedVariables false
set_option linter.unusedSimpArgs false

/-! ### links in memory, to be read in every later world -/
structure LksR (w : World) (p : Option Addr) (c : Nat) (l : List Lk) : Prop where
  len : l.length ≤ c
  max : c ≤ maxLen
  at_ : ∀ i (h : i < l.length), ∃ b o, p = some ⟨b, o, none⟩ ∧ Lk64 l[i] ∧ ∀ X, Below w.heap.size w X → X.cell? ⟨b, o + i * 3, none⟩ = some (.int .i64 l[i].waker) ∧ X.cell? ⟨b, o + i * 3 + 1, none⟩ = some (.int .i64 l[i].woken) ∧ X.cell? ⟨b, o + i * 3 + 2, none⟩ = some (.int .i64 l[i].chan)
theorem LksR.later {w w' : World} {p : Option Addr} {c : Nat} {l : List Lk} (h : LksR w p c l) (hb : Below w.heap.size w w') : LksR w' p c l :=
  ⟨h.len, h.max, fun i hi => by obtain ⟨b, o, e, h6, h1⟩ := h.at_ i hi; exact ⟨b, o, e, h6, fun X hX => h1 X (hb.trans (hX.mono hb.size))⟩⟩
theorem lksC_at : ∀ (l : List Lk) (i : Nat) (h : i < l.length), (lksC l)[i * 3]? = some (.int .i64 l[i].waker) ∧ (lksC l)[i * 3 + 1]? = some (.int .i64 l[i].woken) ∧ (lksC l)[i * 3 + 2]? = some (.int .i64 l[i].chan)
  | x :: r, 0, h => ⟨rfl, rfl, rfl⟩
  | x :: r, i + 1, h => by
    have ih := lksC_at r i (by simpa using h)
    have e : ∀ j, (lksC (x :: r))[j + 3]? = (lksC r)[j]? := fun j => rfl
    rw [show (i + 1) * 3 = i * 3 + 3 by omega, show i * 3 + 3 + 1 = i * 3 + 1 + 3 by omega, show i * 3 + 3 + 2 = i * 3 + 2 + 3 by omega, e, e, e]
    exact ih
theorem lks_read {W : World} {B : Nat} {v : Value} {l : List Lk} (h : W.ownsRow B 24 3 v l.length (lksC l)) (h64 : ∀ x ∈ l, Lk64 x) : ∃ p c, v = .slice p l.length c ∧ LksR W p c l := by
  have h' := h
  rcases h.2 with ⟨x1, x2⟩ | ⟨g, cap, cur, x1, x2, x3, x4, x5, x6, x7⟩
  · exact ⟨none, 0, by rw [x1, x2], by omega, by simp [maxLen], fun i hi => by omega⟩
  · refine ⟨some ⟨g, 0, none⟩, cap, x1, x4, x5, fun i hi => ⟨g, 0, rfl, h64 _ (List.getElem_mem hi), fun X hX => ?_⟩⟩
    rw [x1] at h'
    obtain ⟨e1, e2, e3⟩ := lksC_at l i hi
    have hl := (Array.getElem?_eq_some_iff.1 x3).1
    rw [Nat.zero_add]
    exact ⟨by rw [hX.cell (p := ⟨g, i * 3, none⟩) hl, h'.cellAt (i * 3) (by omega)]; exact e1, by rw [hX.cell (p := ⟨g, i * 3 + 1, none⟩) hl, h'.cellAt (i * 3 + 1) (by omega)]; exact e2, by rw [hX.cell (p := ⟨g, i * 3 + 2, none⟩) hl, h'.cellAt (i * 3 + 2) (by omega)]; exact e3⟩
theorem links_64 {w : World} {p : Option Addr} {c : Nat} {s : List Ag} (h : AgsR w p c s) (hok : stOk s = true) : ∀ l ∈ linksI s, Lk64 l := fun l hl => by
  obtain ⟨i, hi, h1, h2, h3, h4, h5, h6⟩ := link_parts hok hl
  obtain ⟨_, _, _, _, _, _, _, hA, _⟩ := h.at_ i hi
  exact ⟨keys_64 h _ h5, by rw [h1]; exact hA.id, on_64 hA.arms h3⟩
/-- Links, of a state that may be -/
theorem Links_r (w : World) (p : Option Addr) (c : Nat) (s : List Ag) (h : AgsR w p c s) (ht : totA s ≤ 2147483647) (hok : stOk s = true) :
    Calls Try.prog 11 #[.slice p s.length c] w fun e w' => ∃ lp lc, e = .returned (.slice lp (linksI s).length lc) ∧ LksR w' lp lc (linksI s) ∧ Below w.heap.size w w' := by
  refine (Links_yes w p c s h (few_of ht) hok (links_len hok ht)).mono ?_
  rintro e w' ⟨v, rfl, ho, hb⟩
  obtain ⟨lp, lc, rfl, hl⟩ := lks_read ho (links_64 h hok)
  exact ⟨lp, lc, rfl, hl, hb⟩
/-- Take, of a state that may be, with a link that fits -/
theorem Take_r (w : World) (p : Option Addr) (c : Nat) (s : List Ag) (l : Lk) (h : AgsR w p c s) (ht : totA s ≤ 2147483647) (hok : stOk s = true) (h64 : Lk64 l) (hf : fitsF (whoI s) l = true) :
    Calls Try.prog 18 #[.slice p s.length c, lkV l] w fun e w' => ∃ tp tc, e = .returned (.tuple #[.slice tp s.length tc, .int .i64 0]) ∧ AgsR w' tp tc (s.map (tkA l)) ∧ Below w.heap.size w w' := by
  refine (Take_yes w p c s l h (few_of ht) h64 hok).mono ?_
  rintro e w' ⟨hb, ⟨h0, _⟩ | ⟨_, v, cs, rfl, ho, hc⟩⟩
  · rw [hf] at h0; cases h0
  · obtain ⟨tp, tc, e, hr⟩ := AgC.read (gs := s.map (tkA l)) (by rw [List.length_map]; exact ho) hc
    rw [List.length_map] at e
    exact ⟨tp, tc, by rw [e], hr, hb⟩
set_option maxRecDepth 100000 in
theorem Links_no (w : World) (p : Option Addr) (c : Nat) (s : List Ag) (h : AgsR w p c s) (ht : totA s ≤ 2147483647) (hok : stOk s = false) :
    Calls Try.prog 11 #[.slice p s.length c] w fun e w' => e = .returned (.slice none 0 0) ∧ Below w.heap.size w w' := by
  have HC : Bx (Calls Try.prog 9 #[.slice p s.length c] w fun e w' => e = .returned (.int .i64 140) ∧ Below w.heap.size w w') := ⟨by
    have := Check_any w p c s h (few_of ht)
    rw [show chkI s = 140 by simp [chkI, hok]] at this
    exact this⟩
  clear h hok
  go_enter Try.func11, Try.ntmps11
  go_wp2_with (first | (go_at_call 9; refine Calls.mono HC.out ?_; rintro e w1 ⟨rfl, hb1⟩))
  go_ret
  exact ⟨rfl, hb1⟩
end Go.Proofs.Ytjabdhmkibahlaa
namespace Go.Proofs.Ytjabdhmkibahlaa
open Go.RowKit
set_option linter.unusedVariables false
set_option linter.unusedSimpArgs false

set_option maxRecDepth 100000 in
set_option maxHeartbeats 2000000 in
theorem sameLinks_yes (w : World) (p1 p2 : Option Addr) (c1 c2 : Nat) (l : List Lk) (h1 : LksR w p1 c1 l) (h2 : LksR w p2 c2 l) :
    Calls Try.prog 15 #[.slice p1 l.length c1, .slice p2 l.length c2] w fun e w' => e = .returned (.bool true) ∧ ∃ k, w' = w.drewN k := by
  have a1 := h1.len
  have a2 := h1.max
  have a3 := h2.len
  have a4 := h2.max
  unfold maxLen at a2 a4
  have H1 : Bx _ := ⟨h1⟩
  have H2 : Bx _ := ⟨h2⟩
  clear h1 h2
  go_enter Try.func15, Try.ntmps15
  go_wp2
  go_loopg [5] (l.length + 1) (fun g v5 wr => ∃ i k : Nat, g = l.length + 1 - i ∧ i ≤ l.length ∧ v5 = .int .i64 i ∧ Bx (wr = w.drewN k))
  case atStart => exact ⟨0, 0, by simp, by omega, rfl, ⟨rfl⟩⟩
  case round =>
    obtain ⟨i, k, hg, hil, rfl, HR⟩ := hrel
    by_cases hlt : i < l.length
    · obtain ⟨b1, o1, rfl, _, k1⟩ := H1.out.at_ i hlt
      obtain ⟨b2, o2, rfl, _, k2⟩ := H2.out.at_ i hlt
      have hbl : Below w.heap.size w wr := by rw [HR.out]; exact below_drewN (Below.refl _ _) k
      obtain ⟨q1, q3, q5⟩ := k1 wr hbl
      obtain ⟨q2, q4, q6⟩ := k2 wr hbl
      clear k1 k2 hbl
      generalize l[i] = z at *
      go_wp2
      go_quiet (fail)
      go_wp2
      go_roundg (l.length + 1 - (i + 1))
      case measure => omega
      case rel => exact ⟨i + 1, k + nq, rfl, by omega, by simp, ⟨by rw [HR.out]; first | rfl | rw [World.drewN_drewN]⟩⟩
    · have hie : i = l.length := by omega
      subst hie
      go_wp2
      go_ret
      exact ⟨rfl, k, HR.out⟩
end Go.Proofs.Ytjabdhmkibahlaa
namespace Go.Proofs.Ytjabdhmkibahlaa
open Go.RowKit
set_option linter.unusedVariables false
set_option linter.unusedSimpArgs false

/-! ### rows of one's own: what is needed of them besides -/
theorem owns_same {W W' : World} {B : Nat} {e : TypeId} {s : Nat} {v : Value} {n : Nat} {cs : List Value} (h : W.ownsRow B e s v n cs) (hb : ∀ g, B ≤ g → g < W.heap.size → W'.heap[g]? = W.heap[g]?) : W'.ownsRow B e s v n cs := by
  refine ⟨h.1, ?_⟩
  rcases h.2 with hn | ⟨g, cap, cur, rfl, hB, hgg, rest⟩
  · exact .inl hn
  · exact .inr ⟨g, cap, cur, rfl, hB, by rw [hb g hB (Array.getElem?_eq_some_iff.1 hgg).1]; exact hgg, rest⟩
theorem owns_block {W : World} {B : Nat} {e : TypeId} {s : Nat} {v : Value} {n : Nat} {cs : List Value} (h : W.ownsRow B e s v n cs) {g : Nat} (hg : v.ownBlock = some g) : B ≤ g ∧ g < W.heap.size := by
  rcases h.2 with ⟨rfl, _⟩ | ⟨g', cap, cur, rfl, hB, hgg, rest⟩
  · cases hg
  · simp only [Value.ownBlock, Option.some.injEq] at hg
    subst hg
    exact ⟨hB, (Array.getElem?_eq_some_iff.1 hgg).1⟩
theorem owns_kind {W : World} {B : Nat} {e : TypeId} {s : Nat} {v : Value} {n : Nat} {cs : List Value} (h : W.ownsRow B e s v n cs) : ∀ g, v.ownBlock = some g → ∃ c fz, W.heap[g]? = some (.cells c e fz) := by
  intro g hg
  rcases h.2 with ⟨rfl, _⟩ | ⟨g', cap, cur, rfl, hB, hgg, rest⟩
  · cases hg
  · simp only [Value.ownBlock, Option.some.injEq] at hg
    subst hg
    exact ⟨_, _, hgg⟩
theorem cell_blk {w : World} {b i : Nat} {cs : Array Value} {t : TypeId} {fz : Nat × Nat} {v : Value} (h : w.heap[b]? = some (.cells cs t fz)) (hv : cs[i]? = some v) : w.cell? ⟨b, i, none⟩ = some v := by
  rw [World.cell?]
  simp only [h]
  exact hv
theorem frz_blk {w : World} {b i : Nat} {cs : Array Value} {t : TypeId} (h : w.heap[b]? = some (.cells cs t (0, 0))) : w.frozen? ⟨b, i, none⟩ = false := by simp [World.frozen?, h]
theorem heap_lt {w : World} {b : Nat} {o : Obj} (h : w.heap[b]? = some o) : b < w.heap.size := (Array.getElem?_eq_some_iff.1 h).1
theorem heap_newH (w : World) (o : Obj) (H : Nat) (h : w.heap.size = H) : (w.alloc o).heap[H]? = some o := by subst h; exact World.alloc_heap_new w o
theorem wpList_appI {P : Program} {w w' : World} {ops : Array Oper} {rest : List Oper} {o : Oper} {a : Act} {Q : Exit → Act → World → Prop} (hgd : o.guard = none) (s x : Operand) (t : TypeId)
    (ho : o.op = .call { callee := .builtin .append, args := #[s, x], argTypes := #[t, t] }) {v u r : Value} (hs : a.eval s = v) (hx : a.eval x = u) (hr : ∀ ty, (Builtin.append_ #[t, t] ty #[v, u]).run P w = .ok r w')
    (h : wpList P ops Q rest (a.put o.dst r) w') : wpList P ops Q (o :: rest) a w := by
  refine wpList_plain hgd fun K hK => ?_
  unfold Oper.wp
  simp [execOp, ho, resolve, invoke, builtin, hs, hx, hr, Result.andThen]
  exact hK _ _ h
theorem owns_slice {W : World} {B s n : Nat} {t : TypeId} {v : Value} {cs : List Value} (h : W.ownsRow B t s v n cs) : ∃ a c, v = .slice a n c := by
  rcases h.2 with ⟨rfl, rfl⟩ | ⟨g, cap, cur, rfl, _⟩
  · exact ⟨_, _, rfl⟩
  · exact ⟨_, _, rfl⟩
theorem owns_sl {W : World} {B s n : Nat} {t : TypeId} {v : Value} {cs : List Value} (h : W.ownsRow B t s v n cs) : ∃ a k c, v = .slice a k c := by
  obtain ⟨a, c, e⟩ := owns_slice h
  exact ⟨a, n, c, e⟩
/-- one element behind a row of one's own -/
theorem app1 {e t : TypeId} {i0 : TypeInfo} {z : Value} {s bt : Nat} (ht : Try.prog.underlying t = some (.slice e)) (hi : Try.prog.info? e = some i0) (hz : i0.zero = some z) (hs : i0.size = s) (hb : i0.bytes = bt) (hzs : z.cells.size = s) (hs0 : 0 < s)
    (W : World) (B : Nat) (v : Value) (n : Nat) (xs : List Value) (ho : W.ownsRow B e s v n xs) (cs : Array Value) (hcs : cs.toList.length = s) (h1 : ∀ u ∈ cs.toList, u.oneCell' = true) (hn : n + 1 ≤ maxLen) (hby : (n + 1) * bt ≤ 140737488355328) (hB : B ≤ W.heap.size) :
    ∃ g c W3, (∀ ty, (Builtin.append_ #[t, t] ty #[v, .slice (some ⟨W.heap.size, 0, none⟩) 1 1]).run Try.prog (W.alloc (.cells cs e)) = .ok (.slice (some ⟨g, 0, none⟩) (n + 1) c) W3) ∧ W3.ownsRow B e s (.slice (some ⟨g, 0, none⟩) (n + 1) c) (n + 1) (xs ++ cs.toList) ∧ W.grownBy W3 v.ownBlock ∧ n + 1 ≤ c ∧ (v.ownBlock = some g ∨ W.heap.size ≤ g) := by
  have ho' : (W.alloc (.cells cs e)).ownsRow B e s v n xs := own_new ho (below1 _ _)
  obtain ⟨g, c, W3, r1, r2, r3, r4, r5⟩ := run_append_lies (P := Try.prog) (W.alloc (.cells cs e)) t e B e i0 z s bt ht hi hz hs hb hzs hs0 v n xs ho' ⟨W.heap.size, 0, none⟩ 1 1 cs.toList (by omega) (block_cells _ _ _ _ (World.alloc_heap_new W _)) h1 (by omega) hn hby (by simp; omega) _ rfl
  have hc : n + 1 ≤ c := by
    rcases r2.2 with ⟨e1, _⟩ | ⟨g', cap', cur, e1, _, _, q1, _⟩
    · cases e1
    · simp only [Value.slice.injEq] at e1
      obtain ⟨_, _, rfl⟩ := e1
      exact q1
  refine ⟨g, c, W3, fun ty => r1, r2, ⟨r3.os, r3.tape, r3.output, Nat.le_trans (by simp) r3.size, fun k hk hne => ?_⟩, hc, ?_⟩
  · rw [r3.block k (by simp; omega) hne, Below.heap_alloc W _ k hk]
  · rcases r4 with r4 | r4
    · exact .inl r4
    · exact .inr (by rw [r4]; simp)
/-- a list that lies somewhere, behind a row of one's own -/
theorem appL {e t : TypeId} {i0 : TypeInfo} {z : Value} {s bt : Nat} (ht : Try.prog.underlying t = some (.slice e)) (hi : Try.prog.info? e = some i0) (hz : i0.zero = some z) (hs : i0.size = s) (hb : i0.bytes = bt) (hzs : z.cells.size = s) (hs0 : 0 < s)
    (W : World) (B : Nat) (v : Value) (n : Nat) (xs : List Value) (ho : W.ownsRow B e s v n xs) (p : Option Addr) (m c : Nat) (news : List Value) (hl : news.length = m * s) (hc : 0 < m → ∃ ad, p = some ad ∧ ∀ j u, news[j]? = some u → W.cell? (ad.add j) = some u) (h1 : ∀ u ∈ news, u.oneCell' = true) (hn : n + m ≤ maxLen) (hby : (n + m) * bt ≤ 140737488355328) (hB : B ≤ W.heap.size) :
    ∃ v' W3, (∀ ty, (Builtin.append_ #[t, t] ty #[v, .slice p m c]).run Try.prog W = .ok v' W3) ∧ W3.ownsRow B e s v' (n + m) (xs ++ news) ∧ W.grownBy W3 v.ownBlock := by
  by_cases h0 : 0 < m
  · obtain ⟨ad, rfl, hcc⟩ := hc h0
    obtain ⟨g, c, W3, r1, r2, r3, r4, r5⟩ := run_append_lies (P := Try.prog) W t e B e i0 z s bt ht hi hz hs hb hzs hs0 v n xs ho ad m c news hl hcc h1 h0 hn hby hB _ rfl
    exact ⟨_, W3, fun ty => r1, r2, r3⟩
  · obtain rfl : m = 0 := by omega
    have : news = [] := List.eq_nil_of_length_eq_zero (by omega)
    subst this
    exact ⟨v, W, fun ty => run_append_zero (P := Try.prog) (w := W) B t ty e i0 s ht hi v n xs ho p c, by simpa using ho, World.grownBy.refl _ _⟩
/-- a row stays where one of another kind grows -/
theorem owns_grown {W W' : World} {B s n : Nat} {t t' : TypeId} {v vv : Value} {cs : List Value} (h : W.ownsRow B t s v n cs) (hg : W.grownBy W' vv.ownBlock) (ht : t' ≠ t) (hne : ∀ g, vv.ownBlock = some g → ∃ c fz, W.heap[g]? = some (.cells c t' fz)) : W'.ownsRow B t s v n cs := by
  refine ⟨h.1, ?_⟩
  rcases h.2 with hn | ⟨g, cap, cur, rfl, hB, hgg, rest⟩
  · exact .inl hn
  · refine .inr ⟨g, cap, cur, rfl, hB, ?_, rest⟩
    rw [hg.block g (heap_lt hgg) (fun e => by
      obtain ⟨c, fz, h2⟩ := hne g e.symm
      rw [h2] at hgg
      injection hgg with hgg
      injection hgg with _ hgg
      exact absurd hgg ht)]
    exact hgg
theorem grown_at {W W' : World} {r : Option Nat} (hg : W.grownBy W' r) {b : Nat} {o : Obj} (h : W.heap[b]? = some o) (hr : r ≠ some b) : W'.heap[b]? = some o := by
  rw [hg.block b (heap_lt h) (fun e => hr (by rw [e]))]; exact h
/-- the beginning of a row -/
theorem owns_cut {w : World} {B g n m c s : Nat} {t : TypeId} {xs ys : List Value} (h : w.ownsRow B t s (.slice (some ⟨g, 0, none⟩) n c) n (xs ++ ys)) (hm : xs.length = m * s) (hmn : m ≤ n) : w.ownsRow B t s (.slice (some ⟨g, 0, none⟩) m c) m xs := by
  rcases h.2 with ⟨e, _⟩ | ⟨g', cap', cur, e, hB, hg, q1, q2, q3, q4⟩
  · cases e
  · simp only [Value.slice.injEq, Option.some.injEq, Addr.mk.injEq] at e
    obtain ⟨⟨rfl, _⟩, _, rfl⟩ := e
    refine ⟨hm, .inr ⟨g, c, cur, rfl, hB, hg, by omega, q2, q3, ?_⟩⟩
    have e2 := congrArg (List.take (m * s)) q4
    have hle : m * s ≤ n * s := Nat.mul_le_mul_right _ hmn
    rw [List.take_take, Nat.min_eq_left hle, List.take_append_of_le_length (by omega)] at e2
    rw [e2]
    exact List.take_of_length_le (by omega)
/-! ### a block of a kind, of a size at the least -/
def Czb (w : World) (t : TypeId) (g n : Nat) : Prop := ∃ cur, w.heap[g]? = some (.cells cur t (0, 0)) ∧ n ≤ cur.size
theorem Czb.set {w : World} {t : TypeId} {g n : Nat} (h : Czb w t g n) (b i : Nat) (v : Value) : Czb (w.setCell ⟨b, i, none⟩ v) t g n := by
  obtain ⟨cur, h1, h2⟩ := h
  by_cases hb : g = b
  · subst hb
    exact ⟨_, Lib.heap_setCell_same (i := i) h1 v, by simpa using h2⟩
  · exact ⟨cur, by rw [Below.heap_setCell w ⟨b, i, none⟩ v g hb]; exact h1, h2⟩
theorem Czb.at_ {w : World} {t : TypeId} {g n : Nat} (h : Czb w t g n) {i : Nat} (hi : i < n) : (∃ x, w.cell? ⟨g, i, none⟩ = some x) ∧ w.frozen? ⟨g, i, none⟩ = false := by
  obtain ⟨cur, h1, h2⟩ := h
  exact ⟨⟨cur[i], cell_blk h1 (Array.getElem?_eq_getElem (by omega))⟩, frz_blk h1⟩
theorem Czb.of {W : World} {B s n g k c : Nat} {t : TypeId} {cs : List Value} (h : W.ownsRow B t s (.slice (some ⟨g, 0, none⟩) k c) n cs) : Czb W t g (n * s) ∧ B ≤ g := by
  rcases h.2 with ⟨e, _⟩ | ⟨g', cap, cur, e, hB, hg, q1, q2, q3, q4⟩
  · cases e
  · simp only [Value.slice.injEq, Option.some.injEq, Addr.mk.injEq] at e
    obtain ⟨⟨rfl, _⟩, _, rfl⟩ := e
    exact ⟨⟨cur, hg, by rw [q3]; exact Nat.mul_le_mul_right _ q1⟩, hB⟩
theorem owns_cellj {w : World} {B s n c g : Nat} {e : TypeId} {xs : List Value} (h : w.ownsRow B e s (.slice (some ⟨g, 0, none⟩) n c) n xs) {j : Nat} {u : Value} (hj : xs[j]? = some u) : w.cell? ⟨g, j, none⟩ = some u := by
  have hl : j < n * s := by
    have := (List.getElem?_eq_some_iff.1 hj).1
    have := h.1
    omega
  rw [h.cellAt j hl]; exact hj
/-- hands and numbers that lie somewhere, as cells -/
theorem HdsR.news {w : World} {p : Option Addr} {c : Nat} {l : List Hd} (h : HdsR w p c l) : 0 < l.length → ∃ ad, p = some ad ∧ ∀ j u, (hdsC l)[j]? = some u → w.cell? (ad.add j) = some u := by
  intro h0
  obtain ⟨b, o, e, _, _⟩ := h.at_ 0 h0
  refine ⟨⟨b, o, none⟩, e, fun j u hj => ?_⟩
  have hl : j < l.length * 2 := by
    have := (List.getElem?_eq_some_iff.1 hj).1
    rw [hdsC_len] at this
    exact this
  obtain ⟨b', o', e', _, hc⟩ := h.at_ (j / 2) (by omega)
  rw [e] at e'
  cases e'
  obtain ⟨q1, q2⟩ := hc w (Below.refl _ _)
  obtain ⟨z1, z2⟩ := hdsC_at l (j / 2) (by omega)
  rw [add_off]
  rcases Nat.mod_two_eq_zero_or_one j with hm | hm
  · have ej : j / 2 * 2 = j := by omega
    rw [ej] at q1 z1
    rw [q1, ← z1, hj]
  · have ej : j / 2 * 2 + 1 = j := by omega
    rw [show o + j / 2 * 2 + 1 = o + j by omega] at q2
    rw [ej] at z2
    rw [q2, ← z2, hj]
theorem IntsR.news {w : World} {p : Option Addr} {c : Nat} {l : List Int} (h : IntsR w p c l) : 0 < l.length → ∃ ad, p = some ad ∧ ∀ j u, (rowC l)[j]? = some u → w.cell? (ad.add j) = some u := by
  intro h0
  obtain ⟨b, o, e, _, _⟩ := h.at_ 0 h0
  refine ⟨⟨b, o, none⟩, e, fun j u hj => ?_⟩
  have hl : j < l.length := by
    have := (List.getElem?_eq_some_iff.1 hj).1
    simpa [rowC] using this
  obtain ⟨b', o', e', _, hc⟩ := h.at_ j hl
  rw [e] at e'
  cases e'
  rw [add_off, hc w (Below.refl _ _)]
  simp [rowC, hl] at hj
  rw [hj]
theorem rowC_on (l : List Int) : ∀ u ∈ rowC l, u.oneCell' = true := fun u hu => by
  unfold rowC at hu
  obtain ⟨x, _, rfl⟩ := List.mem_map.1 hu
  rfl
theorem rowC_ln (l : List Int) : (rowC l).length = l.length := by simp [rowC]
theorem HdsR.i64 {w : World} {p : Option Addr} {c : Nat} {l : List Hd} (h : HdsR w p c l) : ∀ x ∈ l, I64 x.chan := fun x hx => by
  obtain ⟨j, hj, rfl⟩ := List.getElem_of_mem hx
  obtain ⟨_, _, _, h6, _⟩ := h.at_ j hj
  exact h6
theorem IntsR.i64 {w : World} {p : Option Addr} {c : Nat} {l : List Int} (h : IntsR w p c l) : ∀ x ∈ l, I64 x := fun x hx => by
  obtain ⟨j, hj, rfl⟩ := List.getElem_of_mem hx
  obtain ⟨_, _, _, h6, _⟩ := h.at_ j hj
  exact h6
end Go.Proofs.Ytjabdhmkibahlaa
