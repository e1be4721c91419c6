import Derived.Test.YtadmpgegolmkgaaDoorCWkA
import Derived.Test.YtadmpgegolmkgaaDoorCDP
namespace Go.Proofs.YtadmpgegolmkgaaDoor
open Go.RowKit Go.MapKept Go.ChangeMaps Go.WideShapes
set_option linter.unusedVariables false
set_option linter.unusedSimpArgs false

theorem WkPost.of_se {w w' : World} {wb : Nat} {g : WG} {A : WA} {L gb : Nat} {P P' : Prs} {K : List Wy} {D : Nat → Bool} (h : WkM w wb g A L gb P K D) (s : SePost w wb (g.h A) L gb g.mb P' w') : WkPost w wb g A L gb P' K D w' := by
  obtain ⟨gb', gc', s', x, hg⟩ := s
  obtain ⟨n1, n2, n3, n4⟩ := h.ne
  obtain ⟨l1, l2, l3, l4, l5, l6⟩ := h.lt
  have nd := h.nd
  refine ⟨gb', ⟨⟨gc', s'⟩, (x.block g.kb l4 fun e => ?_).trans h.kn, h.kl, h.du.fx x (fun e => ?_) (fun l hl e => ?_), ⟨nd.1, nd.2.1, ?_, nd.2.2.2⟩⟩, x.mono fun k _ e => .inl e, hg⟩
  · rcases e with e | e | e
    · exact n1 e
    · exact n2 e
    · exact n3 e
  · rcases e with e | e | e
    · exact nd.1 e
    · exact nd.2.2.1 e
    · exact nd.2.2.2 e
  · have := n4 l hl
    rcases e with e | e | e
    · exact this.1 e
    · exact this.2.1 e
    · exact this.2.2.1 e
  · rcases hg with e | e
    · rw [e]; exact nd.2.2.1
    · omega
/-- behind an instruction -/
def past (L : Nat) (P : Prs) (s : Nat) (op a : Int) : Prs × Nat := if op = 5 then chgP L P s a.toNat (2 ^ (a.toNat % 64)) else if op = 6 then chgP L P s a.toNat 0 else (P, s)
set_option maxRecDepth 100000 in
set_option maxHeartbeats 1000000 in
theorem results_any (w : World) (wb : Nat) (r : Bool) (h : w.cell? ⟨wb, 3, none⟩ = some (.bool r)) : Calls Tryd.prog 65 #[.pointer (some ⟨wb, 0, none⟩)] w fun e w' => e = .returned (.int .i64 (if r then 1 else 0)) ∧ w = w' := by
  go_enter Tryd.func65, Tryd.ntmps65
  cases r with
  | true =>
    go_wp2
    go_ret
    exact ⟨rfl, rfl⟩
  | false =>
    go_wp2
    go_ret
    exact ⟨rfl, rfl⟩
set_option maxRecDepth 100000 in
set_option maxHeartbeats 1000000 in
theorem needsValue_any (op : Int) (w : World) : Calls Tryd.prog 66 #[.int .i64 op] w fun e w' => e = .returned (.bool (op == 4 || op == 6 || op == 16)) ∧ w = w' := by
  go_enter Tryd.func66, Tryd.ntmps66
  cases h4 : (op == 4) with
  | true =>
    go_wp2
    go_ret
    exact ⟨rfl, rfl⟩
  | false =>
    cases h6 : (op == 6) with
    | true =>
      go_wp2
      go_ret
      exact ⟨rfl, rfl⟩
    | false =>
      cases h16 : (op == 16) with
      | true =>
        go_wp2
        go_ret
        exact ⟨rfl, rfl⟩
      | false =>
        go_wp2
        go_ret
        exact ⟨rfl, rfl⟩
set_option maxRecDepth 100000 in
set_option maxHeartbeats 1000000 in
theorem goesBehind_any (op : Int) (w : World) : Calls Tryd.prog 68 #[.int .i64 op] w fun e w' => e = .returned (.bool (!(op == 19 || op == 21 || op == 25 || op == 27))) ∧ w = w' := by
  go_enter Tryd.func68, Tryd.ntmps68
  cases h1 : (op == 19) with
  | true => go_wp2; go_ret; exact ⟨rfl, rfl⟩
  | false =>
    cases h2 : (op == 21) with
    | true => go_wp2; go_ret; exact ⟨rfl, rfl⟩
    | false =>
      cases h3 : (op == 25) with
      | true => go_wp2; go_ret; exact ⟨rfl, rfl⟩
      | false =>
        cases h4 : (op == 27) with
        | true => go_wp2; go_ret; exact ⟨rfl, rfl⟩
        | false => go_wp2; go_ret; exact ⟨rfl, rfl⟩
set_option maxRecDepth 100000 in
set_option maxHeartbeats 2000000 in
theorem slotsPast_any (w : World) (wb : Nat) (g : WG) (A : WA) (L gb : Nat) (P : Prs) (K : List Wy) (D : Nat → Bool) (h : WkM w wb g A L gb P K D) (hL : L < 60) (hP : P.length + L < 1099511627776) (op a b : Int) (lv : Value) (ha : op = 5 ∨ op = 6 → 0 ≤ a ∧ a ≤ 2147483648) (s : Nat) (hs : vsP L P s) :
    Calls Tryd.prog 69 #[.pointer (some ⟨wb, 0, none⟩), .agg #[.int .i64 op, .int .i64 a, .int .i64 b, lv], .int .u64 (s : Int)] w fun e w' => e = .returned (.int .u64 ((past L P s op a).2 : Int)) ∧ Bx (WkPost w wb g A L gb (past L P s op a).1 K D w') := by
  obtain ⟨H, hH⟩ : ∃ H, w.heap.size = H := ⟨_, rfl⟩
  obtain ⟨w0, hw0⟩ : ∃ w0, w.alloc (.cells #[.int .i64 op, .int .i64 a, .int .i64 b, lv] 43) = w0 := ⟨_, rfl⟩
  have b0 : Below w.heap.size w w0 := by rw [← hw0]; exact below1 w _
  have q0 : w0.heap[H]? = some (.cells #[.int .i64 op, .int .i64 a, .int .i64 b, lv] 43 (0, 0)) := by rw [← hw0]; exact heap_newH _ _ _ hH
  have p0 : w0.cell? ⟨H, 0, none⟩ = some (.int .i64 op) := cell_blk q0 rfl
  have p1 : w0.cell? ⟨H, 1, none⟩ = some (.int .i64 a) := cell_blk q0 rfl
  have h0 := h.below b0
  have h1 := h0.below (below_drewN (Below.refl _ w0) 1)
  obtain ⟨gc, s1⟩ := h1.se
  have HT : Bx (∀ P' w', SePost (w0.drewN 1) wb (g.h A) L gb g.mb P' w' → WkPost w wb g A L gb P' K D w') := ⟨fun P' w' q => WkPost.trans (Fx.of (below_drewN b0 1)) (.inl rfl) (WkPost.of_se h1 q)⟩
  have HR : Bx (WkPost w wb g A L gb P K D w0) := ⟨WkPost.refl h b0⟩
  by_cases h5 : op = 5
  · subst h5
    obtain ⟨ha0, ha1⟩ := ha (.inl rfl)
    obtain ⟨n, rfl⟩ : ∃ n : Nat, a = n := ⟨a.toNat, by omega⟩
    have e : past L P s 5 (n : Int) = chgP L P s n (2 ^ (n % 64)) := rfl
    rw [e]
    have HC : Bx _ := ⟨with_any (w0.drewN 1) wb (g.h A) L gb gc g.mb P s1 hL hP s n (by omega) hs⟩
    clear e h h0 h1 s1 b0 q0 HR hs ha
    generalize chgP L P s n (2 ^ (n % 64)) = R at *
    go_enter Tryd.func69, Tryd.ntmps69
    go_wp2
    go_region_with (first
      | (go_at_call 82; refine HC.out.mono ?_; rintro e w1 ⟨rfl, hw⟩; replace hw : Bx _ := ⟨HT.out _ _ hw.out⟩))
    all_goals
      go_wp2
      go_ret
      exact ⟨rfl, hw⟩
  · by_cases h6 : op = 6
    · subst h6
      obtain ⟨ha0, ha1⟩ := ha (.inr rfl)
      obtain ⟨n, rfl⟩ : ∃ n : Nat, a = n := ⟨a.toNat, by omega⟩
      have e : past L P s 6 (n : Int) = chgP L P s n 0 := rfl
      rw [e]
      have HC : Bx _ := ⟨without_any (w0.drewN 1) wb (g.h A) L gb gc g.mb P s1 hL hP s n (by omega) hs⟩
      clear e h h0 h1 s1 b0 q0 HR hs ha h5
      generalize chgP L P s n 0 = R at *
      go_enter Tryd.func69, Tryd.ntmps69
      go_wp2
      go_region_with (first
        | (go_at_call 83; refine HC.out.mono ?_; rintro e w1 ⟨rfl, hw⟩; replace hw : Bx _ := ⟨HT.out _ _ hw.out⟩))
      all_goals
        go_wp2
        go_ret
        exact ⟨rfl, hw⟩
    · have e : past L P s op a = (P, s) := by unfold past; rw [if_neg h5, if_neg h6]
      rw [e]
      have b5 : (op == 5) = false := by simp [h5]
      have b6 : (op == 6) = false := by simp [h6]
      clear e h h0 h1 s1 b0 q0 hs HT ha h5 h6
      go_enter Tryd.func69, Tryd.ntmps69
      go_wp2
      go_ret
      exact ⟨rfl, HR⟩
end Go.Proofs.YtadmpgegolmkgaaDoor
namespace Go.Proofs.YtadmpgegolmkgaaDoor
open Go.RowKit
set_option linter.unusedVariables false
set_option linter.unusedSimpArgs false

/-- a row of things in memory, each of s cells, below a block's number -/
structure Row {α : Type} (E : Nat → Nat → α → Prop) (B s : Nat) (a : Option Addr) (cap : Nat) (l : List α) : Prop where
  cap : l.length ≤ cap
  max : l.length ≤ maxLen
  at_ : 0 < l.length → ∃ b o, a = some ⟨b, o, none⟩ ∧ b < B ∧ ∀ j (h : j < l.length), E b (o + j * s) l[j]
theorem Row.mono {α : Type} {E E' : Nat → Nat → α → Prop} {B s cap : Nat} {a : Option Addr} {l : List α} (h : Row E B s a cap l) (he : ∀ b o x, b < B → E b o x → E' b o x) : Row E' B s a cap l := by
  refine ⟨h.cap, h.max, fun h0 => ?_⟩
  obtain ⟨b, o, e, hb, hj⟩ := h.at_ h0
  exact ⟨b, o, e, hb, fun j h => he b _ _ hb (hj j h)⟩
theorem Row.nil {α : Type} (E : Nat → Nat → α → Prop) (B s : Nat) (a : Option Addr) (cap : Nat) : Row E B s a cap [] := ⟨Nat.zero_le _, Nat.zero_le _, fun h => absurd h (by simp)⟩
structure TyAt (w : World) (B b o : Nat) (t : CTy) : Prop where
  ex : ∃ ka kc, w.cell? ⟨b, o, none⟩ = some (.int .i64 t.kind) ∧ w.cell? ⟨b, o + 1, none⟩ = some (.slice ka t.kids.length kc) ∧ w.cell? ⟨b, o + 2, none⟩ = some (.bool t.res) ∧ IntsV w B ka kc t.kids
structure InAt (w : World) (B b o : Nat) (i : CIn) : Prop where
  ex : ∃ ka kc, w.cell? ⟨b, o, none⟩ = some (.int .i64 i.op) ∧ w.cell? ⟨b, o + 1, none⟩ = some (.int .i64 i.a) ∧ w.cell? ⟨b, o + 2, none⟩ = some (.int .i64 i.b) ∧ w.cell? ⟨b, o + 3, none⟩ = some (.slice ka i.list.length kc) ∧ IntsV w B ka kc i.list
structure PgAt (w : World) (B b o : Nat) (p : CPg) : Prop where
  ex : ∃ ca cc, w.cell? ⟨b, o, none⟩ = some (.int .i64 p.params) ∧ w.cell? ⟨b, o + 1, none⟩ = some (.int .i64 p.slots) ∧ w.cell? ⟨b, o + 2, none⟩ = some (.int .i64 p.caps) ∧ w.cell? ⟨b, o + 3, none⟩ = some (.bool p.res) ∧ w.cell? ⟨b, o + 4, none⟩ = some (.slice ca p.code.length cc) ∧ Row (InAt w B) B 4 ca cc p.code
theorem IntsV.up2 {w : World} {B B' cap : Nat} {a : Option Addr} {ks : List Int} (h : IntsV w B a cap ks) (hb : B ≤ B') : IntsV w B' a cap ks := h.up hb
theorem TyAt.below {w w' : World} {B B' b o : Nat} {t : CTy} (h : TyAt w B b o t) (hb : Below B w w') (hB : B ≤ B') (hlt : b < B) : TyAt w' B' b o t := by
  obtain ⟨ka, kc, h0, h1, h2, h3⟩ := h.ex
  have hc : ∀ i, w'.cell? ⟨b, i, none⟩ = w.cell? ⟨b, i, none⟩ := fun i => hb.cell (p := ⟨b, i, none⟩) hlt
  exact ⟨ka, kc, by rw [hc]; exact h0, by rw [hc]; exact h1, by rw [hc]; exact h2, (h3.below hb).up hB⟩
theorem InAt.below {w w' : World} {B B' b o : Nat} {i : CIn} (h : InAt w B b o i) (hb : Below B w w') (hB : B ≤ B') (hlt : b < B) : InAt w' B' b o i := by
  obtain ⟨ka, kc, h0, h1, h2, h3, h4⟩ := h.ex
  have hc : ∀ i, w'.cell? ⟨b, i, none⟩ = w.cell? ⟨b, i, none⟩ := fun i => hb.cell (p := ⟨b, i, none⟩) hlt
  exact ⟨ka, kc, by rw [hc]; exact h0, by rw [hc]; exact h1, by rw [hc]; exact h2, by rw [hc]; exact h3, (h4.below hb).up hB⟩
theorem Row.up {α : Type} {E : Nat → Nat → α → Prop} {B B' s cap : Nat} {a : Option Addr} {l : List α} (h : Row E B s a cap l) (hB : B ≤ B') : Row E B' s a cap l := by
  refine ⟨h.cap, h.max, fun h0 => ?_⟩
  obtain ⟨b, o, e, hb, hj⟩ := h.at_ h0
  exact ⟨b, o, e, by omega, hj⟩
theorem PgAt.below {w w' : World} {B B' b o : Nat} {p : CPg} (h : PgAt w B b o p) (hb : Below B w w') (hB : B ≤ B') (hlt : b < B) : PgAt w' B' b o p := by
  obtain ⟨ka, kc, h0, h1, h2, h3, h4, h5⟩ := h.ex
  have hc : ∀ i, w'.cell? ⟨b, i, none⟩ = w.cell? ⟨b, i, none⟩ := fun i => hb.cell (p := ⟨b, i, none⟩) hlt
  exact ⟨ka, kc, by rw [hc]; exact h0, by rw [hc]; exact h1, by rw [hc]; exact h2, by rw [hc]; exact h3, by rw [hc]; exact h4, (h5.mono fun b o x hx he => he.below hb hB hx).up hB⟩
/-- a unit in memory -/
structure UnIn (w : World) (B : Nat) (pa : Option Addr) (pc : Nat) (ta : Option Addr) (tc : Nat) (u : CUn) : Prop where
  progs : Row (PgAt w B) B 5 pa pc u.progs
  types : Row (TyAt w B) B 3 ta tc u.types
theorem UnIn.below {w w' : World} {B B' pc tc : Nat} {pa ta : Option Addr} {u : CUn} (h : UnIn w B pa pc ta tc u) (hb : Below B w w') (hB : B ≤ B') : UnIn w' B' pa pc ta tc u :=
  ⟨(h.progs.mono fun b o x hx he => he.below hb hB hx).up hB, (h.types.mono fun b o x hx he => he.below hb hB hx).up hB⟩
abbrev unV (u : CUn) (pa : Option Addr) (pc : Nat) (ta : Option Addr) (tc : Nat) : Value := .agg #[.slice pa u.progs.length pc, .slice ta u.types.length tc]

end Go.Proofs.YtadmpgegolmkgaaDoor
