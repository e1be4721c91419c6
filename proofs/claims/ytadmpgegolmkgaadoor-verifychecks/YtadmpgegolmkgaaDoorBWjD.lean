import Derived.Test.YtadmpgegolmkgaaDoorBWsI
import Derived.Laws.Bits64b
import Derived.Shelf.Small.Bits
import Derived.Shelf.Strconv.Itoa0
import Derived.Test.YtadmpgegolmkgaaDoorProg
set_option linter.unusedVariables false
set_option linter.unusedSimpArgs false
set_option maxHeartbeats 4000000
set_option maxRecDepth 100000
namespace Go.Proofs.YtadmpgegolmkgaaDoor
open Go.RowKit
def vsI (op : Int) : Int × Int × Int := vsT.getD op.toNat (0, 0, 0)
def dI (u : CUn) (dfs : List Bool) (pg : CPg) (i : Nat) (x : CIn) : Int :=
 if x.op < 1 ∨ 27 < x.op then 91
 else if aO u dfs (vsI x.op) x = false then 91
 else if eF pg (vsI x.op).1 x.a = false then 93
 else if bq pg.code.length (vsI x.op) i x = false then 92
 else 0
theorem zo : ∀ k, k < 28 -> (vsT.getD k (0, 0, 0)).2.1 = 9 -> (vsT.getD k (0, 0, 0)).1 = 8 := by decide
structure J3 (w : World) (H : Nat) (s : Int × Int × Int) (x : CIn) (ka : Option Addr) (kc : Nat) (X : World) : Prop where
 bel : Below w.heap.size w X
 ih : X.heap[H]? = some (.cells #[.int .i64 x.op, .int .i64 x.a, .int .i64 x.b, .slice ka x.list.length kc] 43 (0, 0))
 sh : X.heap[H + 1]? = some (.cells #[.int .i64 s.1, .int .i64 s.2.1, .int .i64 s.2.2] 106 (0, 0))
theorem J3.later {w : World} {H : Nat} {s : Int × Int × Int} {x : CIn} {ka : Option Addr} {kc : Nat} {X X' : World} (h : J3 w H s x ka kc X) (hb : Below X.heap.size X X') : J3 w H s x ka kc X' :=
 ⟨h.bel.trans (hb.mono h.bel.size), (hb.block _ (fI h.ih)).trans h.ih, (hb.block _ (fI h.sh)).trans h.sh⟩
theorem J3.cells {w : World} {H : Nat} {s : Int × Int × Int} {x : CIn} {ka : Option Addr} {kc : Nat} {X : World} (h : J3 w H s x ka kc X) : X.cell? ⟨H, 0, none⟩ = some (.int .i64 x.op) /\ X.cell? ⟨H, 1, none⟩ = some (.int .i64 x.a) /\ X.cell? ⟨H, 2, none⟩ = some (.int .i64 x.b) /\ X.cell? ⟨H, 3, none⟩ = some (.slice ka x.list.length kc) /\ X.cell? ⟨H + 1, 0, none⟩ = some (.int .i64 s.1) /\ X.cell? ⟨H + 1, 1, none⟩ = some (.int .i64 s.2.1) /\ X.cell? ⟨H + 1, 2, none⟩ = some (.int .i64 s.2.2) :=
 ⟨aa h.ih rfl, aa h.ih rfl, aa h.ih rfl, aa h.ih rfl, aa h.sh rfl, aa h.sh rfl, aa h.sh rfl⟩
theorem tJ (w : World) (hV : VW w) {jb B pc dc cc : Nat} {u : CUn} {pa da ca : Option Addr} {dfs : List Bool} {pg : CPg} (h : JgM w jb B u pa pc da dc dfs pg ca cc) (h1 : 0 <= pg.slots /\ pg.slots <= 65536) (h2 : 0 <= pg.caps /\ pg.caps <= 65536) (i : Nat) (x : CIn) (ka : Option Addr) (kc : Nat) (hk : aF w B ka kc x.list) (hlen : x.list.length <= 281474976710656) : Calls Tryd.prog 36 #[.pointer (some ⟨jb, 0, none⟩), .int .i64 (i : Int), aR x ka kc] w fun e w' => e = .returned (.int .i64 (dI u dfs pg i x)) /\ Bx (Below w.heap.size w w') := by
 obtain ⟨H, hH⟩ : ∃ H, w.heap.size = H := ⟨_, rfl⟩
 obtain ⟨w0, hw0⟩ : ∃ w0, w.alloc (.cells #[.int .i64 x.op, .int .i64 x.a, .int .i64 x.b, .slice ka x.list.length kc] 43) = w0 := ⟨_, rfl⟩
 have b0 : Below w.heap.size w w0 := by rw [← hw0]; exact ak w _
 have z0 : w0.heap.size = H + 1 := by rw [← hw0]; simp [hH]
 have q0 : w0.heap[H]? = some (.cells #[.int .i64 x.op, .int .i64 x.a, .int .i64 x.b, .slice ka x.list.length kc] 43 (0, 0)) := by rw [← hw0]; exact aj w _ _ hH
 have i0 : w0.cell? ⟨H, 0, none⟩ = some (.int .i64 x.op) := aa q0 rfl
 have HF0 : Bx (Below w.heap.size w w0) := ⟨b0⟩
 unfold dI
 by_cases hop : x.op < 1 ∨ 27 < x.op
 ·rw [if_pos hop]
  clear h hk hV
  unfold aR
  by_cases ho1 : x.op < 1
  ·have e1 : decide (x.op < 1) = true := decide_eq_true ho1
   clear ho1 hop
   go_enter Tryd.func36, Tryd.ntmps36
   go_wp2
   go_ret
   exact ⟨rfl, HF0⟩
  ·have e1 : decide (x.op < 1) = false := decide_eq_false ho1
   have e2 : decide (27 < x.op) = true := decide_eq_true (by omega)
   clear ho1 hop
   go_enter Tryd.func36, Tryd.ntmps36
   go_wp2
   go_ret
   exact ⟨rfl, HF0⟩
 rw [if_neg hop]
 obtain ⟨k, hk1⟩ : ∃ k : Nat, x.op = k := ⟨x.op.toNat, by omega⟩
 have hk28 : k < 28 := by omega
 have hvs : vsI x.op = vsT.getD k (0, 0, 0) := by unfold vsI; rw [hk1]; rfl
 have hs9 : (vsI x.op).2.1 = 9 -> (vsI x.op).1 = 8 := by rw [hvs]; exact zo k hk28
 have hgl := hV.ltv
 have hc0 : ∀ j, w0.cell? ⟨1, j, none⟩ = w.cell? ⟨1, j, none⟩ := fun j => b0.cell (p := ⟨1, j, none⟩) hgl
 have g0 := (hc0 _).trans (hV.v0 k hk28)
 have g1 := (hc0 _).trans (hV.v1 k hk28)
 have g2 := (hc0 _).trans (hV.v2 k hk28)
 rw [← hvs] at g0 g1 g2
 have HI : Bx (∀ X, J3 w H (vsI x.op) x ka kc X -> Calls Tryd.prog 50 #[.pointer (some ⟨jb, 0, none⟩), shV (vsI x.op), aR x ka kc] X fun e w' => e = .returned (.bool (aO u dfs (vsI x.op) x)) /\ Bx (J3 w H (vsI x.op) x ka kc w')) := ⟨fun X hX => (mU X (h.below hX.bel) _ hs9 x ka kc (hk.below (hX.bel.mono h.bw)) hlen).mono fun e w' q => ⟨q.1, ⟨hX.later q.2.out⟩⟩⟩
 have HS : Bx (∀ X, J3 w H (vsI x.op) x ka kc X -> Calls Tryd.prog 51 #[.pointer (some ⟨jb, 0, none⟩), .int .i64 (vsI x.op).1, .int .i64 x.a] X fun e w' => e = .returned (.bool (eF pg (vsI x.op).1 x.a)) /\ X = w') := ⟨fun X hX => ow X (h.below hX.bel) h1 h2 _ _⟩
 have HT : Bx (∀ X, J3 w H (vsI x.op) x ka kc X -> Calls Tryd.prog 52 #[.pointer (some ⟨jb, 0, none⟩), shV (vsI x.op), .int .i64 (i : Int), aR x ka kc] X fun e w' => e = .returned (.bool (bq pg.code.length (vsI x.op) i x)) /\ Bx (J3 w H (vsI x.op) x ka kc w')) := ⟨fun X hX => (kJ X (h.below hX.bel) _ i x ka kc (hk.below (hX.bel.mono h.bw)) hlen).mono fun e w' q => ⟨q.1, ⟨hX.later q.2.out⟩⟩⟩
 have HJ : Bx (J3 w H (vsI x.op) x ka kc (w0.alloc (.cells #[.int .i64 (vsI x.op).1, .int .i64 (vsI x.op).2.1, .int .i64 (vsI x.op).2.2] 106))) := ⟨by
  have b1 := ak w0 (.cells #[.int .i64 (vsI x.op).1, .int .i64 (vsI x.op).2.1, .int .i64 (vsI x.op).2.2] 106)
  exact ⟨b0.trans (b1.mono b0.size), (b1.block H (by omega)).trans q0, aj w0 _ _ z0⟩⟩
 have e1 : decide ((k : Int) < 1) = false := decide_eq_false (by omega)
 have e2 : decide (27 < (k : Int)) = false := decide_eq_false (by omega)
 have e3 : (k : Int) < 28 := by omega
 clear h hk hV hvs hs9 hop hc0 q0 b0
 generalize vsI x.op = s at *
 unfold shV aR at HI HT
 unfold aR
 rw [hk1] at i0 HI HT ⊢
 have hglt : 1 < w0.heap.size := by omega
 rw [hk1] at hw0
 have HK : Bx (x.op = k) := ⟨hk1⟩
 clear hk1
 go_enter Tryd.func36, Tryd.ntmps36
 obtain ⟨y0, y1, y2, y3, y4, y5, y6⟩ := HJ.out.cells
 rw [HK.out] at y0
 cases hfo : aO u dfs s x with
 | false =>
  rw [hfo] at HI
  rw [if_pos rfl]
  clear hfo HS HT
  go_wp2_with (first
   | (go_at_call 50; refine (HI.out _ HJ.out).mono ?_; rintro e w2 ⟨rfl, HJ2⟩; clear HJ HI y0 y1 y2 y3 y4 y5 y6; obtain ⟨y0, y1, y2, y3, y4, y5, y6⟩ := HJ2.out.cells; rw [HK.out] at y0))
  go_ret
  exact ⟨rfl, ⟨HJ2.out.bel⟩⟩
 | true =>
  rw [hfo] at HI
  rw [if_neg (by decide)]
  clear hfo
  cases hsl : eF pg s.1 x.a with
  | false =>
   rw [hsl] at HS
   rw [if_pos rfl]
   clear hsl HT
   go_wp2_with (first
    | (go_at_call 50; refine (HI.out _ HJ.out).mono ?_; rintro e w2 ⟨rfl, HJ2⟩; clear HJ HI y0 y1 y2 y3 y4 y5 y6; obtain ⟨y0, y1, y2, y3, y4, y5, y6⟩ := HJ2.out.cells; rw [HK.out] at y0)
    | (go_at_call 51; refine (HS.out _ HJ2.out).mono ?_; rintro e w3 ⟨rfl, rfl⟩))
   go_ret
   exact ⟨rfl, ⟨HJ2.out.bel⟩⟩
  | true =>
   rw [hsl] at HS
   rw [if_neg (by decide)]
   clear hsl
   cases htg : bq pg.code.length s i x with
   | false =>
    rw [htg] at HT
    rw [if_pos rfl]
    clear htg
    go_wp2_with (first
     | (go_at_call 50; refine (HI.out _ HJ.out).mono ?_; rintro e w2 ⟨rfl, HJ2⟩; clear HJ HI y0 y1 y2 y3 y4 y5 y6; obtain ⟨y0, y1, y2, y3, y4, y5, y6⟩ := HJ2.out.cells; rw [HK.out] at y0)
     | (go_at_call 51; refine (HS.out _ HJ2.out).mono ?_; rintro e w3 ⟨rfl, rfl⟩)
     | (go_at_call 52; refine (HT.out _ HJ2.out).mono ?_; rintro e w4 ⟨rfl, HJ4⟩; clear HT))
    go_ret
    exact ⟨rfl, ⟨HJ4.out.bel⟩⟩
   | true =>
    rw [htg] at HT
    rw [if_neg (by decide)]
    clear htg
    go_wp2_with (first
     | (go_at_call 50; refine (HI.out _ HJ.out).mono ?_; rintro e w2 ⟨rfl, HJ2⟩; clear HJ HI y0 y1 y2 y3 y4 y5 y6; obtain ⟨y0, y1, y2, y3, y4, y5, y6⟩ := HJ2.out.cells; rw [HK.out] at y0)
     | (go_at_call 51; refine (HS.out _ HJ2.out).mono ?_; rintro e w3 ⟨rfl, rfl⟩)
     | (go_at_call 52; refine (HT.out _ HJ2.out).mono ?_; rintro e w4 ⟨rfl, HJ4⟩; clear HT))
    go_ret
    exact ⟨rfl, ⟨HJ4.out.bel⟩⟩
end Go.Proofs.YtadmpgegolmkgaaDoor
namespace Go.Proofs.YtadmpgegolmkgaaDoor
open Go.RowKit Go.MapKept Go.ChangeMaps Go.WideShapes
theorem vP {P : Prs} (h : eP P) : pz ∈ P /\ P.idxOf pz = 0 := by
 have hz := h.z
 cases P with
 | nil => cases hz
 | cons q r =>
  simp at hz
  subst hz
  exact ⟨List.mem_cons_self, by simp⟩
def aY (w : World) (wb : Nat) (h : WH) (L gb mb : Nat) (P' : Prs) (w' : World) : Prop := ∃ gb' gc', SeM w' wb h L gb' gc' mb P' /\ Fx (jD wb gb mb) w w' /\ (gb' = gb ∨ w.heap.size <= gb')
theorem aY.refl {w w' : World} {wb : Nat} {h : WH} {L gb gc mb : Nat} {P : Prs} (s : SeM w wb h L gb gc mb P) (hb : Below w.heap.size w w') : aY w wb h L gb mb P w' := ⟨gb, gc, s.fx (Q := fun _ => False) (Fx.of hb) id id id, Fx.of hb, .inl rfl⟩
theorem aY.trans {w w1 w2 : World} {wb : Nat} {h : WH} {L gb gb1 mb : Nat} {P2 : Prs} (hx : Fx (jD wb gb mb) w w1) (hg : gb1 = gb ∨ w.heap.size <= gb1) (s2 : aY w1 wb h L gb1 mb P2 w2) : aY w wb h L gb mb P2 w2 := by
 obtain ⟨gb', gc', s, x, hg'⟩ := s2
 refine ⟨gb', gc', s, ⟨x.os.trans hx.os, x.tape.trans hx.tape, x.output.trans hx.output, Nat.le_trans hx.size x.size, fun k hk hn => ?_⟩, ?_⟩
 ·refine (x.block k (Nat.lt_of_lt_of_le hk hx.size) fun q => hn ?_).trans (hx.block k hk hn)
  rcases q with q | q | q
  ·exact .inl q
  ·rcases hg with e | e
   ·exact .inr (.inl (q.trans e))
   ·omega
  ·exact .inr (.inr q)
 ·have := hx.size
  rcases hg' with e | e
  ·rcases hg with e2 | e2
   ·exact .inl (e.trans e2)
   ·exact .inr (by omega)
  ·exact .inr (by omega)
theorem gM (w : World) (wb : Nat) (h : WH) (L gb gc mb : Nat) (P : Prs) (s : SeM w wb h L gb gc mb P) (hl : P.length < 1099511627776) (p : Nat × Nat) (hp : mO p) :
  Calls Tryd.prog 62 #[.pointer (some ⟨wb, 7, none⟩), .agg #[.int .u64 (p.1 : Int), .int .u64 (p.2 : Int)]] w fun e w' => e = .returned (.int .u64 ((ed P p).2 : Int)) /\ Bx (aY w wb h L gb mb (ed P p).1 w') := by
 by_cases hm : p ∈ P
 ·have en : ed P p = (P, P.idxOf p) := if_pos hm
  rw [en]
  simp only
  obtain ⟨W1, hW1⟩ : ∃ W1, w.alloc (.cells #[.int .u64 (p.1 : Int), .int .u64 (p.2 : Int)] 120) = W1 := ⟨_, rfl⟩
  have b1 : Below w.heap.size w W1 := by rw [← hW1]; exact ak _ _
  have he : W1.heap[w.heap.size]? = some (.cells #[.int .u64 (p.1 : Int), .int .u64 (p.2 : Int)] 120 (0, 0)) := by rw [← hW1]; exact aj _ _ _ rfl
  have e0 : W1.cell? ⟨w.heap.size, 0, none⟩ = some (.int .u64 (p.1 : Int)) := aa he rfl
  have e1 : W1.cell? ⟨w.heap.size, 1, none⟩ = some (.int .u64 (p.2 : Int)) := aa he rfl
  have HF : Bx (∀ k, aY w wb h L gb mb P (W1.drewN k)) := ⟨fun k => aY.refl s (below_drewN b1 k)⟩
  have hpe := rH p
  by_cases hz : p = pz
  ·rw [decide_eq_true hz] at hpe
   unfold prV at hpe
   have hi : P.idxOf p = 0 := by rw [hz]; exact (vP s.ok).2
   rw [hi]
   have HF0 : Bx (aY w wb h L gb mb P W1) := ⟨aY.refl s b1⟩
   clear s hi he b1 hz en
   go_enter Tryd.func62, Tryd.ntmps62
   go_wp2
   go_ret
   exact ⟨rfl, HF0⟩
  ·rw [decide_eq_false hz] at hpe
   have s1 := s.fx (Fx.of (P := fun _ => False) b1) id id id
   have hwk := s1.wk
   unfold wkA at hwk
   have c9 : W1.cell? ⟨wb, 9, none⟩ = some (.map (some mb)) := aa hwk rfl
   have hlk : ∀ k, (Instr.lookup 71 (.map (some mb)) (prV p) true).run Tryd.prog (W1.drewN k) = .ok (.tuple #[.int .u64 (P.idxOf p : Int), .bool true]) (W1.drewN k) := fun k => by
    have := (s1.mp.same (W' := W1.drewN k) rfl).look p hp
    have e : lkP P p = some (P.idxOf p) := if_pos ⟨hm, hz⟩
    rw [e] at this
    exact this
   unfold prV at hpe hlk
   clear hwk s1 s he b1 en
   generalize P.idxOf p = ix at *
   go_enter Tryd.func62, Tryd.ntmps62
   go_wp2
   go_quiet (fail)
   go_wp2
   go_ret
   exact ⟨rfl, ⟨HF.out _⟩⟩
 ·have hz : p ≠ pz := fun e => hm (by rw [e]; exact (vP s.ok).1)
  have en : ed P p = (P ++ [p], P.length) := if_neg hm
  rw [en]
  refine (qx w wb h L gb gc mb P s hl p hp hz hm).mono ?_
  rintro e w' ⟨rfl, hb⟩
  obtain ⟨gb', gc', h1, h2, h3⟩ := hb.out
  exact ⟨rfl, ⟨gb', gc', h1, h2, h3⟩⟩
theorem vQ {P : Prs} {p : Nat × Nat} : (ed P p).1.length <= P.length + 1 := by
 unfold ed
 split
 ·exact Nat.le_succ _
 ·simp
theorem rJ {P : Prs} (hP : P.length <= 1099511627776) : ∀ {l s : Nat}, vsP l P s -> s < 18446744073709551616
 | 0, s, h => h
 | l + 1, s, ⟨⟨p, hp⟩, _⟩ => by
  have := (List.getElem?_eq_some_iff.1 hp).1
  omega
theorem oC {w w2 : World} {wb : Nat} {h : WH} {L gb gb2 gc2 mb E : Nat} {P2 : Prs} {a b : Value} (hE : E = w.heap.size) (hw : wb < E /\ gb < E /\ mb < E) (W1 : World) (hW1 : w.alloc (.cells #[a, b] 120) = W1) (s2 : SeM w2 wb h L gb2 gc2 mb P2) (x : Fx (jD wb gb mb) W1 w2) (hg : gb2 = gb ∨ W1.heap.size <= gb2) :
  w2.heap[E]? = some (.cells #[a, b] 120 (0, 0)) /\ ∀ (i : Nat) (v : Value), i < 2 -> SeM (w2.setCell ⟨E, i, none⟩ v) wb h L gb2 gc2 mb P2 /\ Fx (jD wb gb mb) w (w2.setCell ⟨E, i, none⟩ v) /\ (gb2 = gb ∨ w.heap.size <= gb2) := by
 obtain ⟨h1, h2, h3⟩ := hw
 have he : W1.heap[E]? = some (.cells #[a, b] 120 (0, 0)) := by rw [← hW1, hE]; exact aj _ _ _ rfl
 have hs1 : W1.heap.size = E + 1 := by rw [← hW1, hE]; simp
 have hEg : E ≠ gb2 := by rcases hg with e | e <;> omega
 have he2 : w2.heap[E]? = some (.cells #[a, b] 120 (0, 0)) := (x.block E (by omega) (fun q => by rcases q with q | q | q <;> omega)).trans he
 refine ⟨he2, fun i v hi => ⟨s2.fx (Q := fun k => k = E) (Fx.set (P := fun k => k = E) (p := ⟨E, i, none⟩) (Fx.refl _ w2) (.inl rfl) v) (by omega) (fun e => hEg e.symm) (by omega), ?_, ?_⟩⟩
 ·have x1 : Fx (jD wb gb mb) w W1 := by rw [← hW1]; exact Fx.of (ak w _)
  exact Fx.set (p := ⟨E, i, none⟩) (x1.trans x) (.inr (by show w.heap.size <= E; omega)) v
 ·rcases hg with e | e
  ·exact .inl e
  ·exact .inr (by omega)
theorem fV (slot to : Nat) (hs : slot <= 2147483648) (ht : to = 0 ∨ to = 2 ^ (slot % 64)) : ∀ (l : Nat) (hl : l < 60) (w : World) (wb : Nat) (h : WH) (L gb gc mb : Nat) (P : Prs) (s : SeM w wb h L gb gc mb P) (hP : P.length + l < 1099511627776) (x : Nat) (hx : vsP l P x),
  Calls Tryd.prog 89 #[.pointer (some ⟨wb, 7, none⟩), .int .u64 (x : Int), .int .i64 (l : Int), .int .i64 (slot : Int), .int .u64 (to : Int)] w fun e w' => e = .returned (.int .u64 ((dM l P x slot to).2 : Int)) /\ Bx (aY w wb h L gb mb (dM l P x slot to).1 w')
 | 0, hl, w, wb, h, L, gb, gc, mb, P, s, hP, x, hx => by
  have HB := fun W => jB slot hs W
  have hx64 : x < 18446744073709551616 := hx
  have hb : slot % 64 < 64 := Nat.mod_lt _ (by decide)
  have ht64 : to < 18446744073709551616 := by
   rcases ht with rfl | rfl
   ·decide
   ·exact Nat.pow_lt_pow_right (by decide) hb
  have o1 := fC x (2 ^ (slot % 64)) hx64 (Nat.pow_lt_pow_right (by decide) hb)
  have o2 := bits_or_u64_nat (x &&& (18446744073709551615 - 2 ^ (slot % 64))) to (Nat.lt_of_le_of_lt Nat.and_le_left hx64) ht64
  obtain ⟨q, hq⟩ : ∃ q, 2 ^ (slot % 64) = q := ⟨_, rfl⟩
  have HF : Bx (aY w wb h L gb mb P w) := ⟨aY.refl s (Below.refl _ _)⟩
  rw [dM]
  rw [hq] at o1 o2 HB ⊢
  obtain ⟨y, hy⟩ : ∃ y, x &&& (18446744073709551615 - q) = y := ⟨_, rfl⟩
  rw [hy] at o1 o2 ⊢
  obtain ⟨z, hzz⟩ : ∃ z, y ||| to = z := ⟨_, rfl⟩
  rw [hzz] at o2 ⊢
  clear hy hzz hq s hx hx64 ht64 ht hb
  go_enter Tryd.func89, Tryd.ntmps89
  go_wp2_with (first
   | (go_at_call 81; refine (HB _).mono ?_; rintro e w1 ⟨rfl, rfl⟩))
  go_ret
  exact ⟨rfl, HF⟩
 | l + 1, hl, w, wb, h, L, gb, gc, mb, P, s, hP, x, hx => by
  obtain ⟨⟨p, hpx⟩, h1, h2⟩ := hx
  have hat := il hpx
  rw [hat] at h1 h2
  have hxl := (List.getElem?_eq_some_iff.1 hpx).1
  have hp64 := s.p64 p (List.mem_of_getElem? hpx)
  obtain ⟨W1, hW1⟩ : ∃ W1, w.alloc (.cells #[.int .u64 (p.1 : Int), .int .u64 (p.2 : Int)] 120) = W1 := ⟨_, rfl⟩
  have b1 : Below w.heap.size w W1 := by rw [← hW1]; exact ak _ _
  have he : W1.heap[w.heap.size]? = some (.cells #[.int .u64 (p.1 : Int), .int .u64 (p.2 : Int)] 120 (0, 0)) := by rw [← hW1]; exact aj _ _ _ rfl
  have s1 := s.fx (Fx.of (P := fun _ => False) b1) id id id
  have hwk := s.wk
  unfold wkA at hwk
  have c8 : w.cell? ⟨wb, 8, none⟩ = some (.slice (some ⟨gb, 0, none⟩) P.length gc) := aa hwk rfl
  obtain ⟨z0, z1⟩ := ql P x p hpx
  have d0 : w.cell? ⟨gb, x * 2, none⟩ = some (.int .u64 (p.1 : Int)) := dA s.row z0
  have d1 : w.cell? ⟨gb, x * 2 + 1, none⟩ = some (.int .u64 (p.2 : Int)) := dA s.row z1
  have e0 : W1.cell? ⟨w.heap.size, 0, none⟩ = some (.int .u64 (p.1 : Int)) := aa he rfl
  have e1 : W1.cell? ⟨w.heap.size, 1, none⟩ = some (.int .u64 (p.2 : Int)) := aa he rfl
  have hlv : ((l + 1 : Nat) : Int) = (l : Int) + 1 := by omega
  have hlm : (l : Int) + 1 - 1 = (l : Int) := by omega
  have hl0 : ((l : Int) + 1 == 0) = false := by simp; omega
  have HH := fun W => iR slot l hs (by omega) W
  have hxI : (x : Int) < (P.length : Int) := by omega
  have hcu : P.length <= gc := by
   rcases s.row.2 with ⟨q, _⟩ | ⟨g', cap, cur, q, _, _, q3, _⟩
   ·cases q
   ·simp only [Value.slice.injEq] at q
    obtain ⟨_, _, rfl⟩ := q
    exact q3
  have hlw := s.lt
  rw [dM, hat, hlv]
  cases hb : (slot / 64).testBit l with
  | true =>
   rw [if_pos rfl]
   rw [hb] at HH
   have HC := fV slot to hs ht l (by omega) W1 wb h L gb gc mb P s1 (by omega) p.2 h2
   obtain ⟨g1, g2, g3, _, g5⟩ := fe ht l s.ok h2
   generalize dM l P p.2 slot to = R at *
   obtain ⟨P2, y⟩ := R
   simp only at HC g1 g2 g3 g5 ⊢
   have hy64 := rJ (by omega) g3
   have HNUM : Bx (∀ w2, aY W1 wb h L gb mb P2 w2 -> w2.cell? ⟨w.heap.size, 0, none⟩ = some (.int .u64 (p.1 : Int)) /\ w2.cell? ⟨w.heap.size, 1, none⟩ = some (.int .u64 (p.2 : Int)) /\ w2.frozen? ⟨w.heap.size, 1, none⟩ = false /\ Calls Tryd.prog 62 #[.pointer (some ⟨wb, 7, none⟩), .agg #[.int .u64 (p.1 : Int), .int .u64 (y : Int)]] (w2.setCell ⟨w.heap.size, 1, none⟩ (.int .u64 (y : Int))) fun e w' => e = .returned (.int .u64 ((ed P2 (p.1, y)).2 : Int)) /\ Bx (aY w wb h L gb mb (ed P2 (p.1, y)).1 w')) := ⟨fun w2 hp2 => by
    obtain ⟨gb2, gc2, s2, x2, hg2⟩ := hp2
    obtain ⟨he2, hput⟩ := oC rfl hlw W1 hW1 s2 x2 hg2
    obtain ⟨s3, x3, hg3⟩ := hput 1 (.int .u64 (y : Int)) (by omega)
    refine ⟨aa he2 rfl, aa he2 rfl, aL he2, (gM _ wb h L gb2 gc2 mb P2 s3 (by omega) (p.1, y) ⟨hp64.1, hy64⟩).mono ?_⟩
    rintro e w' ⟨rfl, hb⟩
    exact ⟨rfl, ⟨aY.trans x3 hg3 hb.out⟩⟩⟩
   clear he s1 s hwk b1 hp64 hy64 g1 g2 g3 g5 h1 h2 hb hlw hpx hat z0 z1 hP
   go_enter Tryd.func89, Tryd.ntmps89
   go_wp2_with (first
    | (simp only [hlm])
    | (go_at_call 61; refine (HH _).mono ?_; rintro e w1 ⟨rfl, rfl⟩)
    | (go_at_call 89; refine HC.mono ?_; rintro e w2 ⟨rfl, hb2⟩; obtain ⟨y0, y1, yf, HN⟩ := HNUM.out w2 hb2.out; clear HNUM HC)
    | (go_at_call 62; refine HN.mono ?_; rintro e w3 ⟨rfl, hb3⟩))
   go_ret
   exact ⟨rfl, hb3⟩
  | false =>
   simp only [Bool.false_eq_true, if_false]
   rw [hb] at HH
   have HC := fV slot to hs ht l (by omega) W1 wb h L gb gc mb P s1 (by omega) p.1 h1
   obtain ⟨g1, g2, g3, _, g5⟩ := fe ht l s.ok h1
   generalize dM l P p.1 slot to = R at *
   obtain ⟨P2, y⟩ := R
   simp only at HC g1 g2 g3 g5 ⊢
   have hy64 := rJ (by omega) g3
   have HNUM : Bx (∀ w2, aY W1 wb h L gb mb P2 w2 -> w2.cell? ⟨w.heap.size, 0, none⟩ = some (.int .u64 (p.1 : Int)) /\ w2.cell? ⟨w.heap.size, 1, none⟩ = some (.int .u64 (p.2 : Int)) /\ w2.frozen? ⟨w.heap.size, 0, none⟩ = false /\ Calls Tryd.prog 62 #[.pointer (some ⟨wb, 7, none⟩), .agg #[.int .u64 (y : Int), .int .u64 (p.2 : Int)]] (w2.setCell ⟨w.heap.size, 0, none⟩ (.int .u64 (y : Int))) fun e w' => e = .returned (.int .u64 ((ed P2 (y, p.2)).2 : Int)) /\ Bx (aY w wb h L gb mb (ed P2 (y, p.2)).1 w')) := ⟨fun w2 hp2 => by
    obtain ⟨gb2, gc2, s2, x2, hg2⟩ := hp2
    obtain ⟨he2, hput⟩ := oC rfl hlw W1 hW1 s2 x2 hg2
    obtain ⟨s3, x3, hg3⟩ := hput 0 (.int .u64 (y : Int)) (by omega)
    refine ⟨aa he2 rfl, aa he2 rfl, aL he2, (gM _ wb h L gb2 gc2 mb P2 s3 (by omega) (y, p.2) ⟨hy64, hp64.2⟩).mono ?_⟩
    rintro e w' ⟨rfl, hb⟩
    exact ⟨rfl, ⟨aY.trans x3 hg3 hb.out⟩⟩⟩
   clear he s1 s hwk b1 hp64 hy64 g1 g2 g3 g5 h1 h2 hb hlw hpx hat z0 z1 hP
   go_enter Tryd.func89, Tryd.ntmps89
   go_wp2_with (first
    | (simp only [hlm])
    | (go_at_call 61; refine (HH _).mono ?_; rintro e w1 ⟨rfl, rfl⟩)
    | (go_at_call 89; refine HC.mono ?_; rintro e w2 ⟨rfl, hb2⟩; obtain ⟨y0, y1, yf, HN⟩ := HNUM.out w2 hb2.out; clear HNUM HC)
    | (go_at_call 62; refine HN.mono ?_; rintro e w3 ⟨rfl, hb3⟩))
   go_ret
   exact ⟨rfl, hb3⟩
theorem aY.drew {w w' : World} {wb : Nat} {h : WH} {L gb mb : Nat} {P' : Prs} (k : Nat) (s : aY (w.drewN k) wb h L gb mb P' w') : aY w wb h L gb mb P' w' := aY.trans (Fx.of (below_drewN (Below.refl _ w) k)) (.inl rfl) s
theorem vR (w : World) (wb : Nat) (h : WH) (L gb gc mb : Nat) (P : Prs) (s : SeM w wb h L gb gc mb P) (hL : L < 60) (hP : P.length + L < 1099511627776) (x slot : Nat) (hs : slot <= 2147483648) (hx : vsP L P x) :
  Calls Tryd.prog 82 #[.pointer (some ⟨wb, 7, none⟩), .int .u64 (x : Int), .int .i64 (slot : Int)] w fun e w' => e = .returned (.int .u64 ((dM L P x slot (2 ^ (slot % 64))).2 : Int)) /\ Bx (aY w wb h L gb mb (dM L P x slot (2 ^ (slot % 64))).1 w') := by
 have HB : Bx (∀ W, _) := ⟨fun W => jB slot hs W⟩
 have HC : Bx _ := ⟨fV slot (2 ^ (slot % 64)) hs (.inr rfl) L hL w.drew wb h L gb gc mb P (s.fx (Fx.of (P := fun _ => False) (below_drewN (Below.refl _ w) 1)) id id id) hP x hx⟩
 have hwk := s.wk
 unfold wkA at hwk
 have c7 : w.cell? ⟨wb, 7, none⟩ = some (.int .i64 L) := aa hwk rfl
 have HD : Bx (∀ w', aY w.drew wb h L gb mb (dM L P x slot (2 ^ (slot % 64))).1 w' -> aY w wb h L gb mb (dM L P x slot (2 ^ (slot % 64))).1 w') := ⟨fun w' q => aY.drew 1 q⟩
 generalize 2 ^ (slot % 64) = b at *
 generalize dM L P x slot b = R at *
 obtain ⟨P2, y⟩ := R
 simp only at HC HD ⊢
 clear s hwk
 go_enter Tryd.func82, Tryd.ntmps82
 go_wp2
 go_region_with (first
  | (go_at_call 81; refine (HB.out _).mono ?_; rintro e w1 ⟨rfl, rfl⟩)
  | (go_at_call 89; refine HC.out.mono ?_; rintro e w1 ⟨rfl, hw⟩; replace hw : Bx _ := ⟨HD.out _ hw.out⟩))
 all_goals
  go_wp2
  go_ret
  exact ⟨rfl, hw⟩
theorem oD (w : World) (wb : Nat) (h : WH) (L gb gc mb : Nat) (P : Prs) (s : SeM w wb h L gb gc mb P) (hL : L < 60) (hP : P.length + L < 1099511627776) (x slot : Nat) (hs : slot <= 2147483648) (hx : vsP L P x) :
  Calls Tryd.prog 83 #[.pointer (some ⟨wb, 7, none⟩), .int .u64 (x : Int), .int .i64 (slot : Int)] w fun e w' => e = .returned (.int .u64 ((dM L P x slot 0).2 : Int)) /\ Bx (aY w wb h L gb mb (dM L P x slot 0).1 w') := by
 have HC : Bx _ := ⟨fV slot 0 hs (.inl rfl) L hL w wb h L gb gc mb P s hP x hx⟩
 have hwk := s.wk
 unfold wkA at hwk
 have c7 : w.cell? ⟨wb, 7, none⟩ = some (.int .i64 L) := aa hwk rfl
 generalize dM L P x slot 0 = R at *
 obtain ⟨P2, y⟩ := R
 simp only at HC ⊢
 clear s hwk
 go_enter Tryd.func83, Tryd.ntmps83
 go_wp2_with (first
  | (go_at_call 89; refine HC.out.mono ?_; rintro e w1 ⟨rfl, hw⟩))
 go_ret
 exact ⟨rfl, hw⟩
theorem jV (x b : Nat) : decide (x &&& 2 ^ b ≠ 0) = x.testBit b := by
 have hp : 2 ^ b ≠ 0 := Nat.ne_of_gt (Nat.two_pow_pos b)
 have e : x &&& 2 ^ b = if x.testBit b = true then 2 ^ b else 0 := Nat.eq_of_testBit_eq fun k => by
  rw [Nat.testBit_and, Nat.testBit_two_pow]
  by_cases q : b = k
  ·subst q
   cases h : x.testBit b <;> simp [Nat.testBit_two_pow]
  ·rw [decide_eq_false q, Bool.and_false]
   split
   ·rw [Nat.testBit_two_pow, decide_eq_false q]
   ·exact (Nat.zero_testBit _).symm
 rw [e]
 cases x.testBit b <;> simp [hp]
theorem zq (x b : Nat) (hx : x < 18446744073709551616) (hb : b < 64) : (bits BinOp.and IntKind.u64 (x : Int) ((2 ^ b : Nat) : Int) != 0) = x.testBit b := by
 rw [bits_and_u64_nat x (2 ^ b) hx (Nat.pow_lt_pow_right (by decide) hb), ← jV]
 generalize x &&& 2 ^ b = z
 cases z with
 | zero => rfl
 | succ n => simp; omega
theorem mV (w : World) (wb : Nat) (h : WH) (L gb gc mb : Nat) (P : Prs) (s : SeM w wb h L gb gc mb P) (hL : L < 60) (x slot : Nat) (hs : slot <= 2147483648) (hx : vsP L P x) :
  Calls Tryd.prog 67 #[.pointer (some ⟨wb, 7, none⟩), .int .u64 (x : Int), .int .i64 (slot : Int)] w fun e w' => e = .returned (.bool (den L P x slot)) /\ Bx (Below w.heap.size w w') := by
 obtain ⟨H, hH⟩ : ∃ H, w.heap.size = H := ⟨_, rfl⟩
 have HB : Bx (∀ W, _) := ⟨fun W => jB slot hs W⟩
 have HS : Bx (SeM w wb h L gb gc mb P) := ⟨s⟩
 have hwk := s.wk
 unfold wkA at hwk
 have c7 : w.cell? ⟨wb, 7, none⟩ = some (.int .i64 L) := aa hwk rfl
 obtain ⟨rr, hrr⟩ : ∃ rr, den L P x slot = rr := ⟨_, rfl⟩
 have H0 : Bx (vsP L P x /\ den L P x slot = rr /\ Below H w w) := ⟨hx, hrr, Below.refl _ _⟩
 rw [hrr]
 have hPl := s.lim
 rw [hH]
 clear s hwk hx hrr
 go_enter Tryd.func67, Tryd.ntmps67
 go_wp2
 go_loopg [1, 7, 8] (L + 1) (fun g v1 v7 v8 wr => ∃ l y : Nat, g = l + 1 /\ l <= L /\ v7 = .int .i64 l /\ v1 = .int .u64 y /\ Bx (vsP l P y /\ den l P y slot = rr /\ Below H w wr))
 case atStart => exact ⟨L, x, rfl, Nat.le_refl _, rfl, rfl, H0⟩
 case round =>
  obtain ⟨l, y, hg, hl, rfl, rfl, HI⟩ := hrel
  clear H0
  cases l with
  | zero =>
   have hy := HI.out.1
   have hd := HI.out.2.1
   have hbe := HI.out.2.2
   have hbu := zq y (slot % 64) hy (Nat.mod_lt _ (by decide))
   have hd2 : y.testBit (slot % 64) = rr := hd
   rw [hd2] at hbu
   have HF : Bx (Below H w wr) := ⟨hbe⟩
   generalize 2 ^ (slot % 64) = b at *
   clear hy hd hd2 hbe HI HS c7
   go_wp2_with (first
    | (go_at_call 81; refine (HB.out _).mono ?_; rintro e w1 ⟨rfl, rfl⟩))
   go_ret
   exact ⟨rfl, HF⟩
  | succ l =>
   obtain ⟨⟨⟨p, hpy⟩, h1, h2⟩, hd, hbe⟩ := HI.out
   have hat := il hpy
   rw [den, hat] at hd
   rw [hat] at h1 h2
   have s1 := HS.out.fx (Fx.of (P := fun _ => False) (hH.symm ▸ hbe)) id id id
   have hwk := s1.wk
   unfold wkA at hwk
   have c8 : wr.cell? ⟨wb, 8, none⟩ = some (.slice (some ⟨gb, 0, none⟩) P.length gc) := aa hwk rfl
   obtain ⟨z0, z1⟩ := ql P y p hpy
   have d0 : wr.cell? ⟨gb, y * 2, none⟩ = some (.int .u64 (p.1 : Int)) := dA s1.row z0
   have d1 : wr.cell? ⟨gb, y * 2 + 1, none⟩ = some (.int .u64 (p.2 : Int)) := dA s1.row z1
   obtain ⟨W1, hW1⟩ : ∃ W1, wr.alloc (.cells #[.int .u64 (p.1 : Int), .int .u64 (p.2 : Int)] 120) = W1 := ⟨_, rfl⟩
   have he : W1.heap[wr.heap.size]? = some (.cells #[.int .u64 (p.1 : Int), .int .u64 (p.2 : Int)] 120 (0, 0)) := by rw [← hW1]; exact aj _ _ _ rfl
   have e0 : W1.cell? ⟨wr.heap.size, 0, none⟩ = some (.int .u64 (p.1 : Int)) := aa he rfl
   have e1 : W1.cell? ⟨wr.heap.size, 1, none⟩ = some (.int .u64 (p.2 : Int)) := aa he rfl
   have b1 : Below H w W1 := by rw [← hW1]; exact hbe.alloc (by have := hbe.size; omega) _
   have hxl := (List.getElem?_eq_some_iff.1 hpy).1
   have hxI : (y : Int) < (P.length : Int) := by omega
   have hlm : (l : Int) + 1 - 1 = (l : Int) := by omega
   have hlv : ((l + 1 : Nat) : Int) = (l : Int) + 1 := by omega
   have hl0 : (0 : Int) < (l : Int) + 1 := by omega
   have HH := fun W => iR slot l hs (by omega) W
   have HQ : Bx (∀ z, z = (if (slot / 64).testBit l = true then p.2 else p.1) -> vsP l P z /\ den l P z slot = rr /\ Below H w W1) := ⟨fun z hz => by
    subst hz
    refine ⟨?_, hd, b1⟩
    split
    ·exact h2
    ·exact h1⟩
   rw [hlv]
   clear he s1 hwk b1 hpy hat z0 z1 h1 h2 hd hbe HI c7
   cases hb : (slot / 64).testBit l with
   | true =>
    rw [hb] at HH HQ
    go_wp2_with (first
     | (go_at_call 61; refine (HH _).mono ?_; rintro e w1 ⟨rfl, rfl⟩))
    go_roundg (l + 1)
    case measure => omega
    case rel => exact ⟨l, p.2, rfl, by omega, by simp, rfl, ⟨HQ.out _ rfl⟩⟩
   | false =>
    rw [hb] at HH HQ
    go_wp2_with (first
     | (go_at_call 61; refine (HH _).mono ?_; rintro e w1 ⟨rfl, rfl⟩))
    go_roundg (l + 1)
    case measure => omega
    case rel => exact ⟨l, p.1, rfl, by omega, by simp, rfl, ⟨HQ.out _ rfl⟩⟩
theorem vS (b : Nat) (hb : b < 64) : IntKind.u64.wrap (IntKind.u64.wrap ((2 : Int) ^ b) - 1) = ((2 ^ b - 1 : Nat) : Int) := by
 rw [kg b hb]
 have h1 : 2 ^ b < 18446744073709551616 := Nat.pow_lt_pow_right (by decide) hb
 have h2 := Nat.two_pow_pos b
 rw [IntKind.wrap_u64]
 omega
theorem tL (w : World) (wb : Nat) (h : WH) (L gb gc mb : Nat) (P : Prs) (s : SeM w wb h L gb gc mb P) (hL : L < 60) (many : Nat) (hm : many <= 2147483648) (hP : P.length + 2 * L < 1099511627776) :
  Calls Tryd.prog 42 #[.pointer (some ⟨wb, 7, none⟩), .int .i64 (many : Int)] w fun e w' => e = .returned (.int .u64 ((bK many L P).2.2 : Int)) /\ Bx (aY w wb h L gb mb (bK many L P).1 w') := by
 have H0 : Bx (∀ k, aY w wb h L gb mb (bK many 0 P).1 (w.drewN k)) := ⟨fun k => aY.refl s (below_drewN (Below.refl _ w) k)⟩
 have HS : Bx (∀ l, l <= L -> _) := ⟨fun l hl => iw many l s.ok⟩
 have hpl := vS (many % 64) (Nat.mod_lt _ (by decide))
 obtain ⟨q, hq⟩ : ∃ q, 2 ^ (many % 64) - 1 = q := ⟨_, rfl⟩
 rw [hq] at hpl
 have HQ : Bx ((bK many 0 P).2.2 = q) := ⟨hq⟩
 clear hq s
 go_enter Tryd.func42, Tryd.ntmps42
 go_wp2
 go_quiet (fail)
 go_wp2
 go_loopg [5, 6, 7] (L + 1) (fun g v5 v6 v7 wr => ∃ l f y : Nat, g = L + 1 - l /\ l <= L /\ v7 = .int .i64 ((l : Int) + 1) /\ v5 = .int .u64 f /\ v6 = .int .u64 y /\ Bx (f = (bK many l P).2.1 /\ y = (bK many l P).2.2 /\ aY w wb h L gb mb (bK many l P).1 wr))
 case atStart => exact ⟨0, 18446744073709551615, q, by simp, by omega, rfl, rfl, rfl, ⟨rfl, HQ.out.symm, H0.out _⟩⟩
 case round =>
  obtain ⟨l, f, y, hg, hl, rfl, rfl, rfl, HI⟩ := hrel
  clear H0 HQ
  obtain ⟨gb1, gc1, s1, x1, hg1⟩ := HI.out.2.2
  have hf := HI.out.1
  have hy := HI.out.2.1
  obtain ⟨a1, a2, a3, a4, _, _, a7⟩ := HS.out l hl
  have hwk := s1.wk
  unfold wkA at hwk
  have c7 : wr.cell? ⟨wb, 7, none⟩ = some (.int .i64 L) := aa hwk rfl
  clear hwk
  by_cases hlt : l < L
  ·have hlI : (l : Int) + 1 <= (L : Int) := by omega
   have hr : ∀ a b, bK many l P = (a, b) -> bK many (l + 1) P = _ := fun a b e => by rw [bK, e]
   have f64 : f < 18446744073709551616 := by rw [hf]; exact rJ (by omega) a3
   have y64 : y < 18446744073709551616 := by rw [hy]; exact rJ (by omega) a4
   generalize bK many l P = R at *
   obtain ⟨P1, f1, y1⟩ := R
   simp only at s1 x1 a1 a2 a3 a4 a7 hf hy hr
   subst hf
   subst hy
   have hr := hr _ _ rfl
   have HH := fun W => iR many l hm (by omega) W
   obtain ⟨p, hp⟩ : ∃ p, p = (if (many / 64).testBit l then (f, y) else (y, 0)) := ⟨_, rfl⟩
   have hp64 : mO p := by
    rw [hp]
    split
    ·exact ⟨f64, y64⟩
    ·exact ⟨y64, (by decide : (0 : Nat) < 18446744073709551616)⟩
   have hn1 := gM wr wb h L gb1 gc1 mb P1 s1 (by omega) p hp64
   have hlim := @vQ P1 p
   rw [← hp] at hr
   have HF : Bx (∀ w2, aY wr wb h L gb1 mb (ed P1 p).1 w2 -> Calls Tryd.prog 62 #[.pointer (some ⟨wb, 7, none⟩), .agg #[.int .u64 (f : Int), .int .u64 (f : Int)]] w2 fun e w' => e = .returned (.int .u64 ((bK many (l + 1) P).2.1 : Int)) /\ Bx (aY w wb h L gb mb (bK many (l + 1) P).1 w')) := ⟨fun w2 q2 => by
    obtain ⟨gb2, gc2, s2, x2, hg2⟩ := aY.trans x1 hg1 q2
    refine (gM w2 wb h L gb2 gc2 mb _ s2 (by omega) (f, f) ⟨f64, f64⟩).mono ?_
    rintro e w3 ⟨rfl, q3⟩
    rw [hr]
    exact ⟨rfl, ⟨aY.trans x2 hg2 q3.out⟩⟩⟩
   have HY : Bx (((ed P1 p).2 : Nat) = (bK many (l + 1) P).2.2) := ⟨by rw [hr]⟩
   have HN : Bx _ := ⟨hn1⟩
   clear hn1 hr s1 x1 hg1 a1 a2 a3 a4 a7 HI f64 y64 hp64 hlim
   generalize ed P1 p = N at *
   obtain ⟨P2, y2⟩ := N
   simp only at HF HY HN
   cases hb : (many / 64).testBit l with
   | true =>
    rw [hb, if_pos rfl] at hp
    subst hp
    rw [hb] at HH
    go_wp2_with (first
     | (go_at_call 61; refine (HH _).mono ?_; rintro e w1 ⟨rfl, rfl⟩; clear HH)
     | (go_at_call 62; refine HN.out.mono ?_; rintro e w2 ⟨rfl, q2⟩; have HG := HF.out w2 q2.out; clear HN HF)
     | (go_at_call 62; refine HG.mono ?_; rintro e w3 ⟨rfl, q3⟩))
    go_roundg (L + 1 - (l + 1))
    case measure => omega
    case rel => exact ⟨l + 1, _, y2, rfl, by omega, by simp, rfl, rfl, ⟨rfl, HY.out, q3.out⟩⟩
   | false =>
    rw [hb] at hp
    simp only [Bool.false_eq_true, if_false] at hp
    subst hp
    rw [hb] at HH
    go_wp2_with (first
     | (go_at_call 61; refine (HH _).mono ?_; rintro e w1 ⟨rfl, rfl⟩; clear HH)
     | (go_at_call 62; refine HN.out.mono ?_; rintro e w2 ⟨rfl, q2⟩; have HG := HF.out w2 q2.out; clear HN HF)
     | (go_at_call 62; refine HG.mono ?_; rintro e w3 ⟨rfl, q3⟩))
    go_roundg (L + 1 - (l + 1))
    case measure => omega
    case rel => exact ⟨l + 1, _, y2, rfl, by omega, by simp, rfl, rfl, ⟨rfl, HY.out, q3.out⟩⟩
  ·have hlL : l = L := by omega
   subst hlL
   have hlI : ¬ (l : Int) + 1 <= (l : Int) := by omega
   have HF : Bx (aY w wb h l gb mb (bK many l P).1 wr) := ⟨HI.out.2.2⟩
   clear HI s1 x1 hg1 a1 a2 a3 a4 a7 hf
   go_wp2
   go_ret
   exact ⟨rfl, HF⟩
end Go.Proofs.YtadmpgegolmkgaaDoor
namespace Go.Proofs.YtadmpgegolmkgaaDoor
open Go.Shelf
/-
 DERIVED: THE SHELF's CONTRACTS AT THIS DUMP, IN PLAIN WORDS (tools/lay-plain.mjs out of 'TrydShelfS.lean', which tools/lay-shelf.mjs wrote): THE SAME DECLARATIONS UNDER THE SAME NAMES: 'import', 'namespace', 'open', 'def', 'theorem' AND NOTHING ELSE: no command of the shelf's: FOR A HAND-IN. Each laying: the table of numbers ('.._ren') and one theorem, a field a fact of the dump's own or the kernel's comparison; each contract: ONE APPLICATION.
-/
def Tryd.lays125_ren : Go.Shelf.Ren := ⟨fun | 125 => 59 | 128 => 79 | 129 => 80 | n => n, fun | 46 => 118 | 3 => 3 | 51 => 133 | 53 => 63 | 4 => 4 | 5 => 5 | 9 => 9 | n => n, fun | n => n⟩
theorem Tryd.lays125 : Go.Proofs.Lays.n125 Tryd.prog Tryd.lays125_ren := {
 mixed := by kernel_rfl
 f125 := Tryd.func59.trans (congrArg some (by kernel_rfl))
 f128 := Tryd.func79.trans (congrArg some (by kernel_rfl))
 f129 := Tryd.func80.trans (congrArg some (by kernel_rfl))
 t3 := Tryd.underlying3
 a3 := Tryd.isAgg3
 z3 := Tryd.sizeOf3
 v3 := Tryd.zeroValue3
 t4 := Tryd.underlying4
 a4 := Tryd.isAgg4
 z4 := Tryd.sizeOf4
 v4 := Tryd.zeroValue4
 t5 := Tryd.underlying5
 a5 := Tryd.isAgg5
 z5 := Tryd.sizeOf5
 v5 := Tryd.zeroValue5
 t9 := Tryd.underlying9
 a9 := Tryd.isAgg9
 z9 := Tryd.sizeOf9
 v9 := Tryd.zeroValue9
 t46 := Tryd.underlying118
 a46 := Tryd.isAgg118
 z46 := Tryd.sizeOf118
 v46 := Tryd.zeroValue118
 t51 := Tryd.underlying133
 a51 := Tryd.isAgg133
 z51 := Tryd.sizeOf133
 v51 := Tryd.zeroValue133
 t53 := Tryd.underlying63
 a53 := Tryd.isAgg63
 z53 := Tryd.sizeOf63
 v53 := Tryd.zeroValue63 }
theorem Tryd.bits_Len (x : Int) (w : World) (h0 : 0 <= x) (h1 : x <= 18446744073709551615) :
  Calls Tryd.prog 59 #[.int .u64 x] w fun e w' => e = .returned (.int .i64 (Lib.bitLen x.toNat)) /\ w' = w := Any.bits_Len Tryd.lays125 x w h0 h1
end Go.Proofs.YtadmpgegolmkgaaDoor
