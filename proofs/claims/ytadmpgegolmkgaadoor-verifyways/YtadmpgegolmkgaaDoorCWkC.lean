import Derived.Test.YtadmpgegolmkgaaDoorCShelf
import Derived.Test.YtadmpgegolmkgaaDoorCDP
namespace Go.Proofs.YtadmpgegolmkgaaDoor
open Go.RowKit Go.MapKept Go.ChangeMaps Go.WideShapes
set_option linter.unusedVariables false
set_option linter.unusedSimpArgs false

theorem WkPost.of_se {w w' : World} {wb : Nat} {g : WG} {A : WA} {L gb : Nat} {P P' : Prs} {K : List Wy} {D : Nat → Bool} (h : WkM w wb g A L gb P K D) (s : SePost w wb (g.h A) L gb g.mb P' w') : WkPost w wb g A L gb P' K D w' := by
  obtain ⟨gb', gc', s', x, hg⟩ := s
  obtain ⟨n1, n2, n3, n4⟩ := h.ne
  obtain ⟨l1, l2, l3, l4, l5, l6⟩ := h.lt
  have nd := h.nd
  refine ⟨gb', ⟨⟨gc', s'⟩, (x.block g.kb l4 fun e => ?_).trans h.kn, h.kl, h.du.fx x (fun e => ?_) (fun l hl e => ?_), ⟨nd.1, nd.2.1, ?_, nd.2.2.2⟩⟩, x.mono fun k _ e => .inl e, hg⟩
  · rcases e with e | e | e
    · exact n1 e
    · exact n2 e
    · exact n3 e
  · rcases e with e | e | e
    · exact nd.1 e
    · exact nd.2.2.1 e
    · exact nd.2.2.2 e
  · have := n4 l hl
    rcases e with e | e | e
    · exact this.1 e
    · exact this.2.1 e
    · exact this.2.2.1 e
  · rcases hg with e | e
    · rw [e]; exact nd.2.2.1
    · omega
/-- behind an instruction -/
def past (L : Nat) (P : Prs) (s : Nat) (op a : Int) : Prs × Nat := if op = 5 then chgP L P s a.toNat (2 ^ (a.toNat % 64)) else if op = 6 then chgP L P s a.toNat 0 else (P, s)
set_option maxRecDepth 100000 in
set_option maxHeartbeats 1000000 in
theorem results_any (w : World) (wb : Nat) (r : Bool) (h : w.cell? ⟨wb, 3, none⟩ = some (.bool r)) : Calls Tryd.prog 65 #[.pointer (some ⟨wb, 0, none⟩)] w fun e w' => e = .returned (.int .i64 (if r then 1 else 0)) ∧ w = w' := by
  go_enter Tryd.func65, Tryd.ntmps65
  cases r with
  | true =>
    go_wp2
    go_ret
    exact ⟨rfl, rfl⟩
  | false =>
    go_wp2
    go_ret
    exact ⟨rfl, rfl⟩
set_option maxRecDepth 100000 in
set_option maxHeartbeats 1000000 in
theorem needsValue_any (op : Int) (w : World) : Calls Tryd.prog 66 #[.int .i64 op] w fun e w' => e = .returned (.bool (op == 4 || op == 6 || op == 16)) ∧ w = w' := by
  go_enter Tryd.func66, Tryd.ntmps66
  cases h4 : (op == 4) with
  | true =>
    go_wp2
    go_ret
    exact ⟨rfl, rfl⟩
  | false =>
    cases h6 : (op == 6) with
    | true =>
      go_wp2
      go_ret
      exact ⟨rfl, rfl⟩
    | false =>
      cases h16 : (op == 16) with
      | true =>
        go_wp2
        go_ret
        exact ⟨rfl, rfl⟩
      | false =>
        go_wp2
        go_ret
        exact ⟨rfl, rfl⟩
set_option maxRecDepth 100000 in
set_option maxHeartbeats 1000000 in
theorem goesBehind_any (op : Int) (w : World) : Calls Tryd.prog 68 #[.int .i64 op] w fun e w' => e = .returned (.bool (!(op == 19 || op == 21 || op == 25 || op == 27))) ∧ w = w' := by
  go_enter Tryd.func68, Tryd.ntmps68
  cases h1 : (op == 19) with
  | true => go_wp2; go_ret; exact ⟨rfl, rfl⟩
  | false =>
    cases h2 : (op == 21) with
    | true => go_wp2; go_ret; exact ⟨rfl, rfl⟩
    | false =>
      cases h3 : (op == 25) with
      | true => go_wp2; go_ret; exact ⟨rfl, rfl⟩
      | false =>
        cases h4 : (op == 27) with
        | true => go_wp2; go_ret; exact ⟨rfl, rfl⟩
        | false => go_wp2; go_ret; exact ⟨rfl, rfl⟩
set_option maxRecDepth 100000 in
set_option maxHeartbeats 2000000 in
theorem slotsPast_any (w : World) (wb : Nat) (g : WG) (A : WA) (L gb : Nat) (P : Prs) (K : List Wy) (D : Nat → Bool) (h : WkM w wb g A L gb P K D) (hL : L < 60) (hP : P.length + L < 1099511627776) (op a b : Int) (lv : Value) (ha : op = 5 ∨ op = 6 → 0 ≤ a ∧ a ≤ 2147483648) (s : Nat) (hs : vsP L P s) :
    Calls Tryd.prog 69 #[.pointer (some ⟨wb, 0, none⟩), .agg #[.int .i64 op, .int .i64 a, .int .i64 b, lv], .int .u64 (s : Int)] w fun e w' => e = .returned (.int .u64 ((past L P s op a).2 : Int)) ∧ Bx (WkPost w wb g A L gb (past L P s op a).1 K D w') := by
  obtain ⟨H, hH⟩ : ∃ H, w.heap.size = H := ⟨_, rfl⟩
  obtain ⟨w0, hw0⟩ : ∃ w0, w.alloc (.cells #[.int .i64 op, .int .i64 a, .int .i64 b, lv] 43) = w0 := ⟨_, rfl⟩
  have b0 : Below w.heap.size w w0 := by rw [← hw0]; exact below1 w _
  have q0 : w0.heap[H]? = some (.cells #[.int .i64 op, .int .i64 a, .int .i64 b, lv] 43 (0, 0)) := by rw [← hw0]; exact heap_newH _ _ _ hH
  have p0 : w0.cell? ⟨H, 0, none⟩ = some (.int .i64 op) := cell_blk q0 rfl
  have p1 : w0.cell? ⟨H, 1, none⟩ = some (.int .i64 a) := cell_blk q0 rfl
  have h0 := h.below b0
  have h1 := h0.below (below_drewN (Below.refl _ w0) 1)
  obtain ⟨gc, s1⟩ := h1.se
  have HT : Bx (∀ P' w', SePost (w0.drewN 1) wb (g.h A) L gb g.mb P' w' → WkPost w wb g A L gb P' K D w') := ⟨fun P' w' q => WkPost.trans (Fx.of (below_drewN b0 1)) (.inl rfl) (WkPost.of_se h1 q)⟩
  have HR : Bx (WkPost w wb g A L gb P K D w0) := ⟨WkPost.refl h b0⟩
  by_cases h5 : op = 5
  · subst h5
    obtain ⟨ha0, ha1⟩ := ha (.inl rfl)
    obtain ⟨n, rfl⟩ : ∃ n : Nat, a = n := ⟨a.toNat, by omega⟩
    have e : past L P s 5 (n : Int) = chgP L P s n (2 ^ (n % 64)) := rfl
    rw [e]
    have HC : Bx _ := ⟨with_any (w0.drewN 1) wb (g.h A) L gb gc g.mb P s1 hL hP s n (by omega) hs⟩
    clear e h h0 h1 s1 b0 q0 HR hs ha
    generalize chgP L P s n (2 ^ (n % 64)) = R at *
    go_enter Tryd.func69, Tryd.ntmps69
    go_wp2
    go_region_with (first
      | (go_at_call 82; refine HC.out.mono ?_; rintro e w1 ⟨rfl, hw⟩; replace hw : Bx _ := ⟨HT.out _ _ hw.out⟩))
    all_goals
      go_wp2
      go_ret
      exact ⟨rfl, hw⟩
  · by_cases h6 : op = 6
    · subst h6
      obtain ⟨ha0, ha1⟩ := ha (.inr rfl)
      obtain ⟨n, rfl⟩ : ∃ n : Nat, a = n := ⟨a.toNat, by omega⟩
      have e : past L P s 6 (n : Int) = chgP L P s n 0 := rfl
      rw [e]
      have HC : Bx _ := ⟨without_any (w0.drewN 1) wb (g.h A) L gb gc g.mb P s1 hL hP s n (by omega) hs⟩
      clear e h h0 h1 s1 b0 q0 HR hs ha h5
      generalize chgP L P s n 0 = R at *
      go_enter Tryd.func69, Tryd.ntmps69
      go_wp2
      go_region_with (first
        | (go_at_call 83; refine HC.out.mono ?_; rintro e w1 ⟨rfl, hw⟩; replace hw : Bx _ := ⟨HT.out _ _ hw.out⟩))
      all_goals
        go_wp2
        go_ret
        exact ⟨rfl, hw⟩
    · have e : past L P s op a = (P, s) := by unfold past; rw [if_neg h5, if_neg h6]
      rw [e]
      have b5 : (op == 5) = false := by simp [h5]
      have b6 : (op == 6) = false := by simp [h6]
      clear e h h0 h1 s1 b0 q0 hs HT ha h5 h6
      go_enter Tryd.func69, Tryd.ntmps69
      go_wp2
      go_ret
      exact ⟨rfl, HR⟩
end Go.Proofs.YtadmpgegolmkgaaDoor
namespace Go.Proofs.YtadmpgegolmkgaaDoor
open Go.RowKit
set_option linter.unusedVariables false
set_option linter.unusedSimpArgs false

/-- a row of things in memory, each of s cells, below a block's number -/
structure Row {α : Type} (E : Nat → Nat → α → Prop) (B s : Nat) (a : Option Addr) (cap : Nat) (l : List α) : Prop where
  cap : l.length ≤ cap
  max : l.length ≤ maxLen
  at_ : 0 < l.length → ∃ b o, a = some ⟨b, o, none⟩ ∧ b < B ∧ ∀ j (h : j < l.length), E b (o + j * s) l[j]
theorem Row.mono {α : Type} {E E' : Nat → Nat → α → Prop} {B s cap : Nat} {a : Option Addr} {l : List α} (h : Row E B s a cap l) (he : ∀ b o x, b < B → E b o x → E' b o x) : Row E' B s a cap l := by
  refine ⟨h.cap, h.max, fun h0 => ?_⟩
  obtain ⟨b, o, e, hb, hj⟩ := h.at_ h0
  exact ⟨b, o, e, hb, fun j h => he b _ _ hb (hj j h)⟩
theorem Row.nil {α : Type} (E : Nat → Nat → α → Prop) (B s : Nat) (a : Option Addr) (cap : Nat) : Row E B s a cap [] := ⟨Nat.zero_le _, Nat.zero_le _, fun h => absurd h (by simp)⟩
structure TyAt (w : World) (B b o : Nat) (t : CTy) : Prop where
  ex : ∃ ka kc, w.cell? ⟨b, o, none⟩ = some (.int .i64 t.kind) ∧ w.cell? ⟨b, o + 1, none⟩ = some (.slice ka t.kids.length kc) ∧ w.cell? ⟨b, o + 2, none⟩ = some (.bool t.res) ∧ IntsV w B ka kc t.kids
structure InAt (w : World) (B b o : Nat) (i : CIn) : Prop where
  ex : ∃ ka kc, w.cell? ⟨b, o, none⟩ = some (.int .i64 i.op) ∧ w.cell? ⟨b, o + 1, none⟩ = some (.int .i64 i.a) ∧ w.cell? ⟨b, o + 2, none⟩ = some (.int .i64 i.b) ∧ w.cell? ⟨b, o + 3, none⟩ = some (.slice ka i.list.length kc) ∧ IntsV w B ka kc i.list
structure PgAt (w : World) (B b o : Nat) (p : CPg) : Prop where
  ex : ∃ ca cc, w.cell? ⟨b, o, none⟩ = some (.int .i64 p.params) ∧ w.cell? ⟨b, o + 1, none⟩ = some (.int .i64 p.slots) ∧ w.cell? ⟨b, o + 2, none⟩ = some (.int .i64 p.caps) ∧ w.cell? ⟨b, o + 3, none⟩ = some (.bool p.res) ∧ w.cell? ⟨b, o + 4, none⟩ = some (.slice ca p.code.length cc) ∧ Row (InAt w B) B 4 ca cc p.code
theorem IntsV.up2 {w : World} {B B' cap : Nat} {a : Option Addr} {ks : List Int} (h : IntsV w B a cap ks) (hb : B ≤ B') : IntsV w B' a cap ks := h.up hb
theorem TyAt.below {w w' : World} {B B' b o : Nat} {t : CTy} (h : TyAt w B b o t) (hb : Below B w w') (hB : B ≤ B') (hlt : b < B) : TyAt w' B' b o t := by
  obtain ⟨ka, kc, h0, h1, h2, h3⟩ := h.ex
  have hc : ∀ i, w'.cell? ⟨b, i, none⟩ = w.cell? ⟨b, i, none⟩ := fun i => hb.cell (p := ⟨b, i, none⟩) hlt
  exact ⟨ka, kc, by rw [hc]; exact h0, by rw [hc]; exact h1, by rw [hc]; exact h2, (h3.below hb).up hB⟩
theorem InAt.below {w w' : World} {B B' b o : Nat} {i : CIn} (h : InAt w B b o i) (hb : Below B w w') (hB : B ≤ B') (hlt : b < B) : InAt w' B' b o i := by
  obtain ⟨ka, kc, h0, h1, h2, h3, h4⟩ := h.ex
  have hc : ∀ i, w'.cell? ⟨b, i, none⟩ = w.cell? ⟨b, i, none⟩ := fun i => hb.cell (p := ⟨b, i, none⟩) hlt
  exact ⟨ka, kc, by rw [hc]; exact h0, by rw [hc]; exact h1, by rw [hc]; exact h2, by rw [hc]; exact h3, (h4.below hb).up hB⟩
theorem Row.up {α : Type} {E : Nat → Nat → α → Prop} {B B' s cap : Nat} {a : Option Addr} {l : List α} (h : Row E B s a cap l) (hB : B ≤ B') : Row E B' s a cap l := by
  refine ⟨h.cap, h.max, fun h0 => ?_⟩
  obtain ⟨b, o, e, hb, hj⟩ := h.at_ h0
  exact ⟨b, o, e, by omega, hj⟩
theorem PgAt.below {w w' : World} {B B' b o : Nat} {p : CPg} (h : PgAt w B b o p) (hb : Below B w w') (hB : B ≤ B') (hlt : b < B) : PgAt w' B' b o p := by
  obtain ⟨ka, kc, h0, h1, h2, h3, h4, h5⟩ := h.ex
  have hc : ∀ i, w'.cell? ⟨b, i, none⟩ = w.cell? ⟨b, i, none⟩ := fun i => hb.cell (p := ⟨b, i, none⟩) hlt
  exact ⟨ka, kc, by rw [hc]; exact h0, by rw [hc]; exact h1, by rw [hc]; exact h2, by rw [hc]; exact h3, by rw [hc]; exact h4, (h5.mono fun b o x hx he => he.below hb hB hx).up hB⟩
/-- a unit in memory -/
structure UnIn (w : World) (B : Nat) (pa : Option Addr) (pc : Nat) (ta : Option Addr) (tc : Nat) (u : CUn) : Prop where
  progs : Row (PgAt w B) B 5 pa pc u.progs
  types : Row (TyAt w B) B 3 ta tc u.types
theorem UnIn.below {w w' : World} {B B' pc tc : Nat} {pa ta : Option Addr} {u : CUn} (h : UnIn w B pa pc ta tc u) (hb : Below B w w') (hB : B ≤ B') : UnIn w' B' pa pc ta tc u :=
  ⟨(h.progs.mono fun b o x hx he => he.below hb hB hx).up hB, (h.types.mono fun b o x hx he => he.below hb hB hx).up hB⟩
abbrev unV (u : CUn) (pa : Option Addr) (pc : Nat) (ta : Option Addr) (tc : Nat) : Value := .agg #[.slice pa u.progs.length pc, .slice ta u.types.length tc]

end Go.Proofs.YtadmpgegolmkgaaDoor
namespace Go.Proofs.YtadmpgegolmkgaaDoor
open Go.RowKit Go.MapKept Go.ChangeMaps Go.WideShapes
set_option linter.unusedVariables false
set_option linter.unusedSimpArgs false

/-- to come to some, one after another, until one was come to in another way -/
def comeL : List (Nat × Wy) → List Wy → (Nat → Bool) → Bool × List Wy × (Nat → Bool)
  | [], K, D => (true, K, D)
  | (i, p) :: r, K, D => if comeB K i p then comeL r (comeK K i p) (comeD K i D) else (false, comeK K i p, comeD K i D)
def armW : List Int → Wy → List (Nat × Wy)
  | k :: t :: r, p => (t.toNat, if k = 0 then (p.1 + 1, p.2) else p) :: armW r p
  | _, _ => []
theorem armW_drop {ks : List Int} {p : Wy} {j : Nat} (h : 2 * j + 1 < ks.length) : armW (ks.drop (2 * j)) p = ((ks[2 * j + 1]).toNat, if ks[2 * j] = 0 then (p.1 + 1, p.2) else p) :: armW (ks.drop (2 * (j + 1))) p := by
  rw [List.drop_eq_getElem_cons (show 2 * j < ks.length by omega), List.drop_eq_getElem_cons h, armW, show 2 * (j + 1) = 2 * j + 1 + 1 by omega]
/-- what a walker owns lies from a block's number on -/
def WkH (B wb : Nat) (g : WG) (gb : Nat) : Prop := ∀ k, wOwn wb g gb k → B ≤ k
theorem WkPost.hi {w w' : World} {wb : Nat} {g : WG} {A : WA} {L gb : Nat} {P : Prs} {K : List Wy} {D : Nat → Bool} {B : Nat} (h : WkPost w wb g A L gb P K D w') (hB : WkH B wb g gb) (hw : B ≤ w.heap.size) : Below B w w' ∧ ∃ gb', WkM w' wb g A L gb' P K D ∧ WkH B wb g gb' := by
  obtain ⟨gb', s, x, hg⟩ := h
  refine ⟨x.bel hw fun k hk q => by have := hB k q; omega, gb', s, fun k q => ?_⟩
  rcases q with (q | q | q) | q | q
  · exact hB k (.inl (.inl q))
  · rcases hg with e | e
    · exact hB k (.inl (.inr (.inl (q.trans e))))
    · omega
  · exact hB k (.inl (.inr (.inr q)))
  · exact hB k (.inr (.inl q))
  · exact hB k (.inr (.inr q))
abbrev wyC (p : Wy) : Obj := .cells #[.int .i64 (p.1 : Int), .int .u64 (p.2 : Int)] 66 (0, 0)
set_option maxRecDepth 100000 in
set_option maxHeartbeats 2000000 in
theorem fork_any (w : World) (wb : Nat) (g : WG) (A : WA) (L gb : Nat) (P : Prs) (K : List Wy) (D : Nat → Bool) (h : WkM w wb g A L gb P K D) (B : Nat) (ks : List Int) (la : Option Addr) (lc : Nat) (hi : IntsV w B la lc ks) (hB : WkH B wb g gb) (hBw : B ≤ w.heap.size) (hev : ks.length % 2 = 0) (ht : ∀ j (q : 2 * j + 1 < ks.length), 0 ≤ ks[2 * j + 1] ∧ ks[2 * j + 1] < g.n) (p : Wy) (hp : p.1 < 4611686018427387904) :
    Calls Tryd.prog 84 #[.pointer (some ⟨wb, 0, none⟩), .slice la ks.length lc, .agg #[.int .i64 (p.1 : Int), .int .u64 (p.2 : Int)]] w fun e w' => e = .returned (.bool (comeL (armW ks p) K D).1) ∧ Bx (WkPost w wb g A L gb P (comeL (armW ks p) K D).2.1 (comeL (armW ks p) K D).2.2 w') := by
  obtain ⟨H, hH⟩ : ∃ H, w.heap.size = H := ⟨_, rfl⟩
  have nH := h.own (k := H) (by omega)
  have nH1 := h.own (k := H + 1) (by omega)
  obtain ⟨w0, hw0⟩ : ∃ w0, w.alloc (.cells #[.int .i64 (p.1 : Int), .int .u64 (p.2 : Int)] 66) = w0 := ⟨_, rfl⟩
  have b0 : Below w.heap.size w w0 := by rw [← hw0]; exact below1 w _
  have s0 : w0.heap.size = H + 1 := by rw [← hw0]; simp [hH]
  have q0 : w0.heap[H]? = some (wyC p) := by rw [← hw0]; exact heap_newH _ _ _ hH
  have p0 : w0.cell? ⟨H, 0, none⟩ = some (.int .i64 (p.1 : Int)) := cell_blk q0 rfl
  have p1 : w0.cell? ⟨H, 1, none⟩ = some (.int .u64 (p.2 : Int)) := cell_blk q0 rfl
  obtain ⟨w1, hw1⟩ : ∃ w1, w0.alloc (.cells #[.int .i64 (p.1 : Int), .int .u64 (p.2 : Int)] 66) = w1 := ⟨_, rfl⟩
  have b1 : Below w0.heap.size w0 w1 := by rw [← hw1]; exact below1 w0 _
  have q1 : w1.heap[H]? = some (wyC p) := (b1.block H (by omega)).trans q0
  have r1 : w1.heap[H + 1]? = some (wyC p) := by rw [← hw1]; exact heap_newH _ _ _ s0
  have t0 : w1.cell? ⟨H + 1, 0, none⟩ = some (.int .i64 (p.1 : Int)) := cell_blk r1 rfl
  have t1 : w1.frozen? ⟨H + 1, 0, none⟩ = false := frz_blk r1
  obtain ⟨w2, hw2⟩ : ∃ w2, w1.setCell ⟨H + 1, 0, none⟩ (.int .i64 ((p.1 : Int) + 1)) = w2 := ⟨_, rfl⟩
  have q2 : w2.heap[H]? = some (wyC p) := by rw [← hw2, Below.heap_setCell w1 ⟨H + 1, 0, none⟩ _ H (by simp)]; exact q1
  have r2 : w2.heap[H + 1]? = some (wyC (p.1 + 1, p.2)) := by
    have := heap_setCell_same w1 (H + 1) 0 _ 66 (.int .i64 ((p.1 : Int) + 1)) r1
    rw [← hw2, this]
    simp
  have b2 : Below w.heap.size w w2 := by
    have x : Fx (fun _ => False) w w2 := by
      rw [← hw2]
      refine Fx.set (P := fun _ => False) (p := ⟨H + 1, 0, none⟩) ((Fx.of b0).trans (Fx.of b1)) (.inr ?_) _
      show w.heap.size ≤ H + 1
      omega
    exact ⟨x.os, x.tape, x.output, x.size, fun k hk => x.block k hk id⟩
  have H0 : Bx (∃ Kj Dj, comeL (armW ks p) K D = comeL (armW (ks.drop (2 * 0)) p) Kj Dj ∧ WkPost w wb g A L gb P Kj Dj w2 ∧ w2.heap[H]? = some (wyC p) ∧ w2.heap[H + 1]? = some (wyC (p.1 + 1, p.2))) := ⟨K, D, by simp, WkPost.refl h b2, q2, r2⟩
  obtain ⟨R, hR⟩ : ∃ R, comeL (armW ks p) K D = R := ⟨_, rfl⟩
  rw [hR] at H0 ⊢
  have HI : Bx (IntsV w B la lc ks) := ⟨hi⟩
  have HH : Bx (WkH B wb g gb) := ⟨hB⟩
  have HT : Bx (∀ j (q : 2 * j + 1 < ks.length), 0 ≤ ks[2 * j + 1] ∧ ks[2 * j + 1] < g.n) := ⟨ht⟩
  have HE : Bx (ks.length % 2 = 0) := ⟨hev⟩
  have HN : Bx ((¬ wOwn wb g gb H ∧ ¬ wOwn wb g gb (H + 1)) ∧ w.heap.size = H ∧ B ≤ H) := ⟨⟨nH, nH1⟩, hH, by omega⟩
  have hcl := hi.cap
  have hml := hi.max
  unfold maxLen at hml
  clear h hi hB ht nH nH1 b0 b1 b2 q0 q1 r1 q2 r2 hR hev
  go_enter Tryd.func84, Tryd.ntmps84
  go_wp2
  clear s0
  go_loopg [8, 9] (ks.length + 1) (fun g1 v8 v9 wr => ∃ j : Nat, g1 = ks.length + 1 - 2 * j ∧ 2 * j ≤ ks.length ∧ v8 = .int .i64 (2 * (j : Int)) ∧ Bx (∃ Kj Dj, R = comeL (armW (ks.drop (2 * j)) p) Kj Dj ∧ WkPost w wb g A L gb P Kj Dj wr ∧ wr.heap[H]? = some (wyC p) ∧ wr.heap[H + 1]? = some (wyC (p.1 + 1, p.2))))
  case atStart => exact ⟨0, by simp, by omega, rfl, H0⟩
  case round =>
    obtain ⟨j, hg, hj, rfl, HJ⟩ := hrel
    clear H0 p0 p1 t0 t1
    obtain ⟨Kj, Dj, hRj, hPj, q, r⟩ := HJ.out
    by_cases hlt : 2 * j < ks.length
    · have hlt2 : 2 * j + 1 < ks.length := by have := HE.out; omega
      obtain ⟨gbj, sj, xj, hgj⟩ := hPj
      have p0 : wr.cell? ⟨H, 0, none⟩ = some (.int .i64 (p.1 : Int)) := cell_blk q rfl
      have p1 : wr.cell? ⟨H, 1, none⟩ = some (.int .u64 (p.2 : Int)) := cell_blk q rfl
      obtain ⟨E, hE⟩ : ∃ E, wr.heap.size = E := ⟨_, rfl⟩
      obtain ⟨W1, hW1⟩ : ∃ W1, wr.alloc (.cells #[.int .i64 (p.1 : Int), .int .u64 (p.2 : Int)] 66) = W1 := ⟨_, rfl⟩
      have bW : Below wr.heap.size wr W1 := by rw [← hW1]; exact below1 wr _
      have e1 : W1.heap[E]? = some (wyC p) := by rw [← hW1]; exact heap_newH _ _ _ hE
      have hwE : w.heap.size ≤ E := by have := xj.size; omega
      have hBE : B ≤ E := by have := HN.out; omega
      have hlb : Below B w W1 := (xj.bel (by have := HN.out; omega) fun k hk q' => by have := HH.out k q'; omega).trans (bW.mono (by omega))
      have hiW := HI.out.below hlb
      obtain ⟨b, o, hla, hbB, hcs⟩ := hiW.at_ (by omega)
      have c0 := hcs (2 * j) hlt
      have c1 := hcs (2 * j + 1) hlt2
      obtain ⟨ht0, ht1⟩ := HT.out j hlt2
      rw [armW_drop hlt2] at hRj
      have qE : E ≠ H := by have := heap_lt q; omega
      have q1E : H < wr.heap.size := heap_lt q
      have r1E : H + 1 < wr.heap.size := heap_lt r
      generalize ks[2 * j + 1] = t at *
      obtain ⟨tn, rfl⟩ : ∃ tn : Nat, t = tn := ⟨t.toNat, by omega⟩
      have hCOME : ∀ (X : World) (pp : Wy), Below wr.heap.size wr X → Calls Tryd.prog 41 #[.pointer (some ⟨wb, 0, none⟩), .int .i64 (tn : Int), .agg #[.int .i64 (pp.1 : Int), .int .u64 (pp.2 : Int)]] X fun e w' => e = .returned (.bool (comeB Kj tn pp)) ∧ Bx (WkPost w wb g A L gb P (comeK Kj tn pp) (comeD Kj tn Dj) w' ∧ w'.heap[H]? = some (wyC p) ∧ w'.heap[H + 1]? = some (wyC (p.1 + 1, p.2))) := fun X pp hX => by
        refine (come_any X wb g A L gbj P Kj Dj (sj.below hX) tn (by omega) pp).mono ?_
        rintro e w' ⟨rfl, hb⟩
        have hn : ∀ k c, wr.heap[k]? = some (.cells c 66 (0, 0)) → ¬ wOwn wb g gb k → ¬ wOwn wb g gbj k := fun k c hk hn q' => by
          rcases q' with (q' | q' | q') | q' | q'
          · exact hn (.inl (.inl q'))
          · obtain ⟨gc, ss⟩ := sj.se
            obtain ⟨c2, f2, hgg⟩ := owns_kind ss.row gbj rfl
            exact cells_ne hk hgg (by decide) q'
          · exact hn (.inl (.inr (.inr q')))
          · exact hn (.inr (.inl q'))
          · exact hn (.inr (.inr q'))
        refine ⟨rfl, ⟨WkPost.trans (xj.trans (Fx.of hX)) hgj hb.out, ?_, ?_⟩⟩
        · exact hb.out.own ((hX.block H q1E).trans q) (hn H _ q HN.out.1.1)
        · exact hb.out.own ((hX.block (H + 1) r1E).trans r) (hn (H + 1) _ r HN.out.1.2)
      have htn : (tn : Int).toNat = tn := by omega
      have hltI : 2 * (j : Int) < (ks.length : Int) := by omega
      have hlt2I : 2 * (j : Int) + 1 < (ks.length : Int) := by omega
      have hwr : IntKind.i64.wrap (2 * (j : Int) + 1) = 2 * (j : Int) + 1 := by rw [IntKind.wrap_i64]; omega
      have hnn : (2 * (j : Int) + 1).toNat = 2 * j + 1 := by omega
      have hw2 : IntKind.i64.wrap (2 * (j : Int) + 2) = 2 * (j : Int) + 2 := by rw [IntKind.wrap_i64]; omega
      have hn0 : (0 : Int) ≤ 2 * (j : Int) + 1 := by omega
      have e0 : W1.cell? ⟨E, 0, none⟩ = some (.int .i64 (p.1 : Int)) := cell_blk e1 rfl
      have e2 : W1.cell? ⟨E, 1, none⟩ = some (.int .u64 (p.2 : Int)) := cell_blk e1 rfl
      have f0 : ∀ i, W1.frozen? ⟨E, i, none⟩ = false := fun i => frz_blk e1
      rw [htn] at hRj
      cases hz : decide (ks[2 * j] = 0) with
      | false =>
        have hz0 := of_decide_eq_false hz
        rw [if_neg hz0] at hRj
        have hzb : (ks[2 * j] == 0) = false := by simp [hz0]
        have HC : Bx _ := ⟨hCOME (W1.drewN 1) p (below_drewN bW 1)⟩
        have HRj : Bx (R = if comeB Kj tn p then comeL (armW (ks.drop (2 * (j + 1))) p) (comeK Kj tn p) (comeD Kj tn Dj) else (false, comeK Kj tn p, comeD Kj tn Dj)) := ⟨hRj⟩
        generalize ks[2 * j] = kk at *
        clear hCOME hRj hz hz0 sj xj hgj bW hlb hiW hcs q r e1 htn hwE hBE qE q1E r1E HJ hml
        subst hla
        cases hcb : comeB Kj tn p with
        | true =>
          rw [hcb] at HC HRj
          go_wp2
          go_region_with (first
            | (go_at_call 41; refine HC.out.mono ?_; rintro e w3 ⟨rfl, hw⟩))
          all_goals
            go_wp2
            go_roundg (ks.length + 1 - 2 * (j + 1))
            case measure => omega
            case rel => exact ⟨j + 1, rfl, by omega, congrArg (Value.int .i64) (by omega), ⟨_, _, HRj.out, hw.out⟩⟩
        | false =>
          rw [hcb] at HC HRj
          go_wp2
          go_region_with (first
            | (go_at_call 41; refine HC.out.mono ?_; rintro e w3 ⟨rfl, hw⟩))
          all_goals
            go_wp2
            go_ret
            have hr : R = (false, comeK Kj tn p, comeD Kj tn Dj) := HRj.out
            rw [hr]
            exact ⟨rfl, ⟨hw.out.1⟩⟩
      | true =>
        have hz0 := of_decide_eq_true hz
        rw [if_pos hz0] at hRj
        have hzb : (ks[2 * j] == 0) = true := by simp [hz0]
        rw [hz0] at c0
        obtain ⟨pp, hpp⟩ : ∃ pp : Wy, (p.1 + 1, p.2) = pp := ⟨_, rfl⟩
        rw [hpp] at hRj r hCOME
        have r1 := (bW.block (H + 1) r1E).trans r
        have u0 : W1.cell? ⟨H + 1, 0, none⟩ = some (.int .i64 (pp.1 : Int)) := cell_blk r1 rfl
        have u1 : W1.cell? ⟨H + 1, 1, none⟩ = some (.int .u64 (pp.2 : Int)) := cell_blk r1 rfl
        obtain ⟨W2, hW2⟩ : ∃ W2, (W1.setCell ⟨E, 0, none⟩ (.int .i64 (pp.1 : Int))).setCell ⟨E, 1, none⟩ (.int .u64 (pp.2 : Int)) = W2 := ⟨_, rfl⟩
        have x2 : W2.heap[E]? = some (wyC pp) := by
          have y1 := heap_setCell_same W1 E 0 _ 66 (.int .i64 (pp.1 : Int)) e1
          have y2 := heap_setCell_same _ E 1 _ 66 (.int .u64 (pp.2 : Int)) y1
          rw [← hW2, y2]
          simp
        have b2 : Below wr.heap.size wr W2 := by
          have x : Fx (fun _ => False) wr W2 := by
            rw [← hW2]
            exact Fx.set (P := fun _ => False) (p := ⟨E, 1, none⟩) (Fx.set (P := fun _ => False) (p := ⟨E, 0, none⟩) (Fx.of bW) (.inr (by show wr.heap.size ≤ E; omega)) _) (.inr (by show wr.heap.size ≤ E; omega)) _
          exact ⟨x.os, x.tape, x.output, x.size, fun k hk => x.block k hk id⟩
        have v0 : W2.cell? ⟨E, 0, none⟩ = some (.int .i64 (pp.1 : Int)) := cell_blk x2 rfl
        have v1 : W2.cell? ⟨E, 1, none⟩ = some (.int .u64 (pp.2 : Int)) := cell_blk x2 rfl
        have hkE : ∀ k, k ≠ E → W2.heap[k]? = W1.heap[k]? := fun k hk => by
          rw [← hW2]
          exact (Below.heap_setCell _ ⟨E, 1, none⟩ _ k hk).trans (Below.heap_setCell W1 ⟨E, 0, none⟩ _ k hk)
        have c1' : W2.cell? ⟨b, o + (2 * j + 1), none⟩ = some (.int .i64 (tn : Int)) := by
          rw [World.cell?_of_block (w := W1) (hkE b (by omega))]
          exact c1
        have HC : Bx _ := ⟨hCOME (W2.drewN 1) pp (below_drewN b2 1)⟩
        have HRj : Bx (R = if comeB Kj tn pp then comeL (armW (ks.drop (2 * (j + 1))) p) (comeK Kj tn pp) (comeD Kj tn Dj) else (false, comeK Kj tn pp, comeD Kj tn Dj)) := ⟨hRj⟩
        have HPP : Bx ((p.1 + 1, p.2) = pp) := ⟨hpp⟩
        generalize ks[2 * j] = kk at *
        clear hCOME hRj hz hz0 sj xj hgj bW hlb hiW hcs q r r1 e1 htn hwE hBE qE q1E r1E HJ hml x2 b2 hkE c1 hpp
        subst hla
        cases hcb : comeB Kj tn pp with
        | true =>
          rw [hcb] at HC HRj
          go_wp2
          go_region_with (first
            | (go_at_call 41; refine HC.out.mono ?_; rintro e w3 ⟨rfl, hw⟩))
          all_goals
            go_wp2
            go_roundg (ks.length + 1 - 2 * (j + 1))
            case measure => omega
            case rel => exact ⟨j + 1, rfl, by omega, congrArg (Value.int .i64) (by omega), ⟨_, _, HRj.out, hw.out.1, hw.out.2.1, by rw [HPP.out]; exact hw.out.2.2⟩⟩
        | false =>
          rw [hcb] at HC HRj
          go_wp2
          go_region_with (first
            | (go_at_call 41; refine HC.out.mono ?_; rintro e w3 ⟨rfl, hw⟩))
          all_goals
            go_wp2
            go_ret
            have hr : R = (false, comeK Kj tn pp, comeD Kj tn Dj) := HRj.out
            rw [hr]
            exact ⟨rfl, ⟨hw.out.1⟩⟩
    · have hje : 2 * j = ks.length := by omega
      have hltI : ¬ 2 * (j : Int) < (ks.length : Int) := by omega
      rw [hje, List.drop_length] at hRj
      have HR : Bx (R = (true, Kj, Dj)) := ⟨hRj⟩
      have HF : Bx (WkPost w wb g A L gb P Kj Dj wr) := ⟨hPj⟩
      clear hRj hPj q r HJ
      go_wp2
      go_ret
      rw [HR.out]
      exact ⟨rfl, HF⟩
end Go.Proofs.YtadmpgegolmkgaaDoor
namespace Go.Proofs.YtadmpgegolmkgaaDoor
open Go.RowKit Go.MapKept Go.ChangeMaps Go.WideShapes
set_option linter.unusedVariables false
set_option linter.unusedSimpArgs false

/-- with what an instruction goes on -/
def nextsI (i : Nat) (x : CIn) (p : Wy) : List (Nat × Wy) := if x.op = 25 then [] else if x.op = 19 ∨ x.op = 21 then [(x.a.toNat, p)] else if x.op = 20 then [(i + 1, p), (x.a.toNat, p)] else if x.op = 27 then armW x.list p else [(i + 1, p)]
structure TgOk (n i : Nat) (x : CIn) : Prop where
  a : x.op = 19 ∨ x.op = 20 ∨ x.op = 21 → 0 ≤ x.a ∧ x.a < n
  arms : x.op = 27 → x.list.length % 2 = 0 ∧ ∀ j (q : 2 * j + 1 < x.list.length), 0 ≤ x.list[2 * j + 1] ∧ x.list[2 * j + 1] < n
  on : x.op ≠ 19 → x.op ≠ 21 → x.op ≠ 25 → x.op ≠ 27 → i + 1 < n
theorem comeL_one (i : Nat) (p : Wy) (K : List Wy) (D : Nat → Bool) : comeL [(i, p)] K D = (comeB K i p, comeK K i p, comeD K i D) := by
  rw [comeL]
  cases comeB K i p <;> rfl
theorem comeL_two (i j : Nat) (p : Wy) (K : List Wy) (D : Nat → Bool) : comeL [(i, p), (j, p)] K D = if comeB K i p then (comeB (comeK K i p) j p, comeK (comeK K i p) j p, comeD (comeK K i p) j (comeD K i D)) else (false, comeK K i p, comeD K i D) := by
  rw [comeL, comeL_one]
set_option maxRecDepth 100000 in
set_option maxHeartbeats 2000000 in
theorem goOn_any (w : World) (wb : Nat) (g : WG) (A : WA) (L gb : Nat) (P : Prs) (K : List Wy) (D : Nat → Bool) (h : WkM w wb g A L gb P K D) (B : Nat) (code : List CIn) (ca : Option Addr) (cc : Nat) (hA : A.a4 = .slice ca code.length cc) (hc : Row (InAt w B) B 4 ca cc code) (hB : WkH B wb g gb) (hBw : B ≤ w.heap.size) (hn : code.length ≤ 2147483648) (i : Nat) (x : CIn) (hx : code[i]? = some x) (ht : TgOk g.n i x) (p : Wy) (hp : p.1 < 4611686018427387904) :
    Calls Tryd.prog 70 #[.pointer (some ⟨wb, 0, none⟩), .int .i64 (i : Int), .agg #[.int .i64 (p.1 : Int), .int .u64 (p.2 : Int)]] w fun e w' => e = .returned (.bool (comeL (nextsI i x p) K D).1) ∧ Bx (WkPost w wb g A L gb P (comeL (nextsI i x p) K D).2.1 (comeL (nextsI i x p) K D).2.2 w') := by
  obtain ⟨H, hH⟩ : ∃ H, w.heap.size = H := ⟨_, rfl⟩
  obtain ⟨hil, hxe⟩ := List.getElem?_eq_some_iff.1 hx
  obtain ⟨b, o, hca, hbB, hat⟩ := hc.at_ (by omega)
  obtain ⟨ka, kc, i0, i1, i2, i3, hks⟩ := (hat i hil).ex
  rw [hxe] at i0 i1 i2 i3 hks
  have hcc := hc.cap
  subst hca
  obtain ⟨w0, hw0⟩ : ∃ w0, w.alloc (.cells #[.int .i64 (p.1 : Int), .int .u64 (p.2 : Int)] 66) = w0 := ⟨_, rfl⟩
  have b0 : Below w.heap.size w w0 := by rw [← hw0]; exact below1 w _
  have s0 : w0.heap.size = H + 1 := by rw [← hw0]; simp [hH]
  have q0 : w0.heap[H]? = some (wyC p) := by rw [← hw0]; exact heap_newH _ _ _ hH
  have hcell : ∀ k, w0.cell? ⟨b, k, none⟩ = w.cell? ⟨b, k, none⟩ := fun k => World.cell?_of_block (b0.block b (by omega))
  have j0 := (hcell _).trans i0
  have j1 := (hcell _).trans i1
  have j2 := (hcell _).trans i2
  have j3 := (hcell _).trans i3
  have c4 : w0.cell? ⟨wb, 4, none⟩ = some (.slice (some ⟨b, o, none⟩) code.length cc) := by
    rw [← hA]
    exact (h.below b0).cells.2.2.2.2.1
  obtain ⟨w1, hw1⟩ : ∃ w1, w0.alloc (.cells #[.int .i64 x.op, .int .i64 x.a, .int .i64 x.b, .slice ka x.list.length kc] 43) = w1 := ⟨_, rfl⟩
  have b1 : Below w0.heap.size w0 w1 := by rw [← hw1]; exact below1 w0 _
  have bw : Below w.heap.size w w1 := b0.trans (b1.mono (by omega))
  have q1 : w1.heap[H]? = some (wyC p) := (b1.block H (by omega)).trans q0
  have r1 : w1.heap[H + 1]? = some (.cells #[.int .i64 x.op, .int .i64 x.a, .int .i64 x.b, .slice ka x.list.length kc] 43 (0, 0)) := by rw [← hw1]; exact heap_newH _ _ _ s0
  have p0 : w1.cell? ⟨H, 0, none⟩ = some (.int .i64 (p.1 : Int)) := cell_blk q1 rfl
  have p1 : w1.cell? ⟨H, 1, none⟩ = some (.int .u64 (p.2 : Int)) := cell_blk q1 rfl
  have n0 : w1.cell? ⟨H + 1, 0, none⟩ = some (.int .i64 x.op) := cell_blk r1 rfl
  have n1 : w1.cell? ⟨H + 1, 1, none⟩ = some (.int .i64 x.a) := cell_blk r1 rfl
  have n3 : w1.cell? ⟨H + 1, 3, none⟩ = some (.slice ka x.list.length kc) := cell_blk r1 rfl
  have h1 := h.below bw
  have hxI : (i : Int) < (code.length : Int) := by omega
  have HT : Bx (∀ K' D' w', WkPost w1 wb g A L gb P K' D' w' → WkPost w wb g A L gb P K' D' w') := ⟨fun K' D' w' q => WkPost.trans (Fx.of bw) (.inl rfl) q⟩
  have HF0 : Bx (WkPost w wb g A L gb P K D w1) := ⟨WkPost.refl h bw⟩
  have hBl : Below B w w1 := bw.mono hBw
  unfold nextsI
  by_cases h25 : x.op = 25
  · rw [if_pos h25]
    have b25 : (x.op == 25) = true := by simp [h25]
    clear h hc hB ht hat i0 i1 i2 i3 hks hcell b0 b1 bw q0 q1 r1 h1 hx hxe h25 hA HT hBl p0 p1
    generalize x.op = op at *
    generalize x.a = xa at *
    generalize x.b = xb at *
    go_enter Tryd.func70, Tryd.ntmps70
    go_wp2
    go_ret
    exact ⟨rfl, HF0⟩
  · rw [if_neg h25]
    have b25 : (x.op == 25) = false := by simp [h25]
    have HCOME : ∀ t : Nat, t < g.n → Bx _ := fun t hl => ⟨come_any w1 wb g A L gb P K D h1 t hl p⟩
    by_cases h19 : x.op = 19 ∨ x.op = 21
    · rw [if_pos h19, comeL_one]
      obtain ⟨a0, a1⟩ := ht.a (by omega)
      obtain ⟨t, hte⟩ : ∃ t : Nat, x.a = t := ⟨x.a.toNat, by omega⟩
      have HC := HCOME t (by omega)
      rw [hte] at j1 n1 hw1 ⊢
      rw [show ((t : Int)).toNat = t by omega]
      clear HCOME h hc hB ht hat i0 i1 i2 i3 hks hcell b0 b1 bw q0 q1 r1 hx hxe hA hBl h1 HF0 h25 hte a0 a1
      rcases h19 with e | e
      · rw [e] at n0 b25
        have b19 : (x.op == 19) = true := by simp [e]
        generalize x.op = op at *
        subst e
        generalize x.b = xb at *
        go_enter Tryd.func70, Tryd.ntmps70
        go_wp2_with (first
          | (go_at_call 41; refine HC.out.mono ?_; rintro e w3 ⟨rfl, hw⟩))
        go_ret
        exact ⟨rfl, ⟨HT.out _ _ _ hw.out⟩⟩
      · rw [e] at n0 b25
        have b19 : (x.op == 19) = false := by simp [e]
        have b21 : (x.op == 21) = true := by simp [e]
        generalize x.op = op at *
        subst e
        generalize x.b = xb at *
        go_enter Tryd.func70, Tryd.ntmps70
        go_wp2_with (first
          | (go_at_call 41; refine HC.out.mono ?_; rintro e w3 ⟨rfl, hw⟩))
        go_ret
        exact ⟨rfl, ⟨HT.out _ _ _ hw.out⟩⟩
    · rw [if_neg h19]
      have b19 : (x.op == 19) = false := by simp; omega
      have b21 : (x.op == 21) = false := by simp; omega
      by_cases h20 : x.op = 20
      · rw [if_pos h20, comeL_two]
        obtain ⟨a0, a1⟩ := ht.a (by omega)
        have hon := ht.on (by omega) (by omega) (by omega) (by omega)
        obtain ⟨t, hte⟩ : ∃ t : Nat, x.a = t := ⟨x.a.toNat, by omega⟩
        have HC := HCOME (i + 1) hon
        rw [hte] at j1 n1 hw1 ⊢
        rw [show ((t : Int)).toNat = t by omega]
        rw [show ((i + 1 : Nat) : Int) = (i : Int) + 1 by omega] at HC
        have HD : Bx (∀ w3, WkPost w1 wb g A L gb P (comeK K (i + 1) p) (comeD K (i + 1) D) w3 → w3.cell? ⟨H, 0, none⟩ = some (.int .i64 (p.1 : Int)) ∧ w3.cell? ⟨H, 1, none⟩ = some (.int .u64 (p.2 : Int)) ∧ w3.cell? ⟨H + 1, 1, none⟩ = some (.int .i64 (t : Int)) ∧ Calls Tryd.prog 41 #[.pointer (some ⟨wb, 0, none⟩), .int .i64 (t : Int), .agg #[.int .i64 (p.1 : Int), .int .u64 (p.2 : Int)]] w3 fun e w' => e = .returned (.bool (comeB (comeK K (i + 1) p) t p)) ∧ Bx (WkPost w wb g A L gb P (comeK (comeK K (i + 1) p) t p) (comeD (comeK K (i + 1) p) t (comeD K (i + 1) D)) w')) := ⟨fun w3 hq => by
          have nH := h.own (k := H) (by omega)
          have nH1 := h.own (k := H + 1) (by omega)
          have y1 := hq.own q1 nH
          have y2 := hq.own r1 nH1
          obtain ⟨gb3, s3, x3, hg3⟩ := hq
          refine ⟨cell_blk y1 rfl, cell_blk y1 rfl, by rw [← hte]; exact cell_blk y2 rfl, (come_any w3 wb g A L gb3 P _ _ s3 t (by omega) p).mono ?_⟩
          rintro e w' ⟨rfl, hb⟩
          exact ⟨rfl, ⟨HT.out _ _ _ (WkPost.trans x3 hg3 hb.out)⟩⟩⟩
        clear HCOME h hc hB ht hat i0 i1 i2 i3 hks hcell b0 b1 bw q0 q1 r1 hx hxe hA hBl h1 HF0 h25 hte a0 a1 h19
        rw [h20] at n0 b25 b19 b21
        have b20 : (x.op == 20) = true := by simp [h20]
        generalize x.op = op at *
        subst h20
        generalize x.b = xb at *
        cases hcb : comeB K (i + 1) p with
        | false =>
          rw [hcb] at HC
          go_enter Tryd.func70, Tryd.ntmps70
          go_wp2_with (first
            | (go_at_call 41; refine HC.out.mono ?_; rintro e w3 ⟨rfl, hw⟩; clear HD))
          go_ret
          exact ⟨rfl, ⟨HT.out _ _ _ hw.out⟩⟩
        | true =>
          rw [hcb] at HC
          go_enter Tryd.func70, Tryd.ntmps70
          go_wp2_with (first
            | (go_at_call 41; refine HC.out.mono ?_; rintro e w3 ⟨rfl, hw⟩; obtain ⟨y0, y1, y2, HG⟩ := HD.out w3 hw.out; clear HD HC p0 p1 n1)
            | (go_at_call 41; refine HG.mono ?_; rintro e w4 ⟨rfl, hw4⟩))
          go_ret
          exact ⟨rfl, hw4⟩
      · rw [if_neg h20]
        have b20 : (x.op == 20) = false := by simp [h20]
        by_cases h27 : x.op = 27
        · rw [if_pos h27]
          obtain ⟨a0, a1⟩ := ht.arms h27
          have HC : Bx _ := ⟨fork_any w1 wb g A L gb P K D h1 B x.list ka kc (hks.below hBl) hB (by have := bw.size; omega) a0 a1 p hp⟩
          clear HCOME h hc hB ht hat i0 i1 i2 i3 hks hcell b0 b1 bw q0 q1 r1 hx hxe hA hBl h1 HF0 h25 a0 a1 h19 h20
          have b27 : (x.op == 27) = true := by simp [h27]
          generalize x.op = op at *
          generalize x.a = xa at *
          generalize x.b = xb at *
          generalize comeL (armW x.list p) K D = R at *
          subst h27
          go_enter Tryd.func70, Tryd.ntmps70
          go_wp2_with (first
            | (go_at_call 84; refine HC.out.mono ?_; rintro e w3 ⟨rfl, hw⟩))
          go_ret
          exact ⟨rfl, ⟨HT.out _ _ _ hw.out⟩⟩
        · rw [if_neg h27, comeL_one]
          have b27 : (x.op == 27) = false := by simp [h27]
          have hon := ht.on (by omega) (by omega) (by omega) (by omega)
          have HC := HCOME (i + 1) hon
          rw [show ((i + 1 : Nat) : Int) = (i : Int) + 1 by omega] at HC
          clear HCOME h hc hB ht hat i0 i1 i2 i3 hks hcell b0 b1 bw q0 q1 r1 hx hxe hA hBl h1 HF0 h25 h19 h20 h27
          generalize x.op = op at *
          generalize x.a = xa at *
          generalize x.b = xb at *
          go_enter Tryd.func70, Tryd.ntmps70
          go_wp2_with (first
            | (go_at_call 41; refine HC.out.mono ?_; rintro e w3 ⟨rfl, hw⟩))
          go_ret
          exact ⟨rfl, ⟨HT.out _ _ _ hw.out⟩⟩
end Go.Proofs.YtadmpgegolmkgaaDoor
