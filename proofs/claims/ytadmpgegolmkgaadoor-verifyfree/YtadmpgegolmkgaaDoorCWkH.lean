import Derived.Test.YtadmpgegolmkgaaDoorCWkF
namespace Go.Proofs.YtadmpgegolmkgaaDoor
open Go.RowKit Go.MapKept Go.ChangeMaps Go.WideShapes
set_option linter.unusedVariables false
set_option linter.unusedSimpArgs false

set_option maxRecDepth 100000 in
set_option maxHeartbeats 8000000 in
/-- a return, and not as much on the stack as it is to leave -/
theorem look_ret {w : World} {wb : Nat} {g : WG} {A : WA} {L gb : Nat} {P : Prs} {K : List Wy} {D : Nat → Bool} {B : Nat} {code : List CIn} {ca : Option Addr} {cc i : Nat} {x : CIn} {p : Wy} {res : Bool} (h : LkE w wb g A L gb P K D B code ca cc i x p res) (hl : ¬ (p.1 : Int) - 1 < popsI x) (ho : x.op = 25) (hr : (p.1 : Int) - 1 ≠ if res then 1 else 0) :
    Calls Tryd.prog 44 #[.pointer (some ⟨wb, 0, none⟩), .int .i64 (i : Int)] w fun e w' => e = .returned (.int .i64 94) ∧ Bx (Below w.heap.size w w') := by
  obtain ⟨b, o, ka, kc, rfl, hb, u0, u1, u2, u3, hks, hil, hcc, hig⟩ := h.ins
  obtain ⟨v0, v1⟩ := h.wk.known h.hp
  obtain ⟨_, _, _, c3, c4, c5, _, _⟩ := h.wk.cells
  rw [h.a3] at c3
  rw [h.a4] at c4
  have hcl := h.len
  have hp1 := h.p1
  have hp2 := h.p2
  have HP : Bx (∀ X ib yb, LD w X ib yb x ka kc p → _) := ⟨fun X ib yb hX => h.pops hks hX⟩
  have H1 : Bx _ := ⟨LD.one w x ka kc p⟩
  have H2 : Bx _ := ⟨LD.two w x ka kc p⟩
  have hiI : (i : Int) < (code.length : Int) := by omega
  have hgI : (i : Int) < (g.n : Int) := by omega
  have hkl := h.wk.lt.2.2.2.1
  have hwl := h.wk.lt.1
  have HR : Bx (∀ X, Below w.heap.size w X → Calls Tryd.prog 65 #[.pointer (some ⟨wb, 0, none⟩)] X fun e w' => e = .returned (.int .i64 (if res then 1 else 0)) ∧ X = w') := ⟨fun X hX => results_any X wb res (by have := (h.wk.below hX).cells.2.2.2.1; rw [h.a3] at this; exact this)⟩
  have H4 : Bx (∀ X, Below w.heap.size w X → X.cell? ⟨wb, 4, none⟩ = some (.slice (some ⟨b, o, none⟩) code.length cc)) := ⟨fun X hX => by have := (h.wk.below hX).cells.2.2.2.2.1; rw [h.a4] at this; exact this⟩
  have hwr : IntKind.i64.wrap ((p.1 : Int) - 1) = (p.1 : Int) - 1 := by rw [IntKind.wrap_i64]; omega
  have HN : Bx (∀ X, _) := ⟨fun X => needsValue_any x.op X⟩
  have HB : Bx (∀ X, _) := ⟨fun X => goesBehind_any x.op X⟩
  have b25 : (x.op == 25) = true := by simp [ho]
  generalize hrs : (if res then (1 : Int) else 0) = rs at *
  have hne : ((p.1 : Int) - 1 != rs) = true := by simp [hr]
  have HO : Bx (x.op = 25) := ⟨ho⟩
  clear h hks ho hr hrs
  unfold insV at HP
  generalize popsI x = tk at *
  go_enter Tryd.func44, Tryd.ntmps44
  go_wp2
  go_region
  · clear c3 c4 c5 u0 u1 u2 u3 v0 v1
    go_wp2_with (first
      | (go_at_call 16; refine (HP.out _ _ _ H1.out).mono ?_; rintro e w2 ⟨rfl, hc2⟩; have HC2 : Bx _ := ⟨hc2⟩; clear hc2))
    obtain ⟨z0, _, _, _, z4, _, _, _⟩ := HC2.out.cells
    rw [HO.out] at z0
    go_quiet (first | (go_at_call 65; exact Calls.quiet_of_same ((HR.out _ (HC2.out.drewN _).bel).mono fun e w' h => ⟨h.1, h.2.symm⟩)))
    clear z0 z4
    go_wp2
    go_ret
    exact ⟨rfl, ⟨(HC2.out.drewN _).bel⟩⟩
  · clear c3 c4 c5 u0 u1 u2 u3 v0 v1
    go_wp2_with (first
      | (go_at_call 16; refine (HP.out _ _ _ H2.out).mono ?_; rintro e w2 ⟨rfl, hc2⟩; have HC2 : Bx _ := ⟨hc2⟩; clear hc2))
    obtain ⟨z0, _, _, _, z4, _, _, _⟩ := HC2.out.cells
    rw [HO.out] at z0
    go_quiet (first | (go_at_call 65; exact Calls.quiet_of_same ((HR.out _ (HC2.out.drewN _).bel).mono fun e w' h => ⟨h.1, h.2.symm⟩)))
    clear z0 z4
    go_wp2
    go_ret
    exact ⟨rfl, ⟨(HC2.out.drewN _).bel⟩⟩
end Go.Proofs.YtadmpgegolmkgaaDoor
