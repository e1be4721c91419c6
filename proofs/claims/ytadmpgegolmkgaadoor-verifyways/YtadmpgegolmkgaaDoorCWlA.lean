import Derived.Test.YtadmpgegolmkgaaDoorCWkF
namespace Go.Proofs.YtadmpgegolmkgaaDoor
open Go.RowKit Go.MapKept Go.ChangeMaps Go.WideShapes
set_option linter.unusedVariables false
set_option linter.unusedSimpArgs false

set_option maxRecDepth 100000 in
set_option maxHeartbeats 8000000 in
/-- the beginning of look: the two copies, in whatever order -/
theorem look_start {w : World} {wb : Nat} {g : WG} {A : WA} {L gb : Nat} {P : Prs} {K : List Wy} {D : Nat → Bool} {B : Nat} {code : List CIn} {ca : Option Addr} {cc i : Nat} {x : CIn} {p : Wy} {res : Bool} (h : LkE w wb g A L gb P K D B code ca cc i x p res) (Q : Ending → World → Prop) (H : ∀ ka kc, IntsV w B ka kc x.list → ∀ r0 r1 c, Tryd.f44.body = some (.seq r0 (.seq r1 c)) → ∀ (X : World) (ib yb : Nat) (u8 u9 u10 u11 u12 u13 u14 u15 u16 u17 u18 u19 u20 u21 u22 : Value), LD w X ib yb x ka kc p → Code.wp Tryd.prog c (bodyPost Tryd.prog Tryd.f44 Q) { tmps := #[.pointer (some ⟨wb, 0, none⟩), .int .i64 (i : Int), undef, undef, .int .i64 0, .pointer (some ⟨ib, 0, none⟩), .pointer (some ⟨yb, 0, none⟩), undef, u8, u9, u10, u11, u12, u13, u14, u15, u16, u17, u18, u19, u20, u21, u22, undef, undef, undef, undef, undef, undef, undef, undef, undef, undef, undef, undef, undef, undef, undef, undef, undef, undef, undef, undef, undef, undef, undef, undef, undef, undef, undef, undef, undef, undef, undef, undef, undef, undef, undef, undef, undef, undef, undef, undef, undef, undef, undef, undef, undef, undef, undef, undef, undef, undef, undef, undef, undef, undef, undef, undef, undef, undef, undef, undef, undef, undef, undef, undef, undef, undef, undef, undef, undef, undef], defers := [] } X) :
    Calls Tryd.prog 44 #[.pointer (some ⟨wb, 0, none⟩), .int .i64 (i : Int)] w Q := by
  obtain ⟨b, o, ka, kc, rfl, hb, u0, u1, u2, u3, hks, hil, hcc, hig⟩ := h.ins
  obtain ⟨v0, v1⟩ := h.wk.known h.hp
  obtain ⟨_, _, _, c3, c4, c5, _, _⟩ := h.wk.cells
  rw [h.a3] at c3
  rw [h.a4] at c4
  have hcl := h.len
  have H1 : Bx _ := ⟨LD.one w x ka kc p⟩
  have H2 : Bx _ := ⟨LD.two w x ka kc p⟩
  have hiI : (i : Int) < (code.length : Int) := by omega
  have hgI : (i : Int) < (g.n : Int) := by omega
  have hkl := h.wk.lt.2.2.2.1
  have hwl := h.wk.lt.1
  have HH : Bx _ := ⟨H ka kc hks⟩
  clear h hks H
  go_enter Tryd.func44, Tryd.ntmps44
  go_wp2_with fail
  rename_i K2 hK
  go_region
  · simp only [Exit.then]
    exact hK _ _ (HH.out _ _ _ rfl _ _ _ _ _ _ _ _ _ _ _ _ _ _ _ _ _ _ H1.out)
  · simp only [Exit.then]
    exact hK _ _ (HH.out _ _ _ rfl _ _ _ _ _ _ _ _ _ _ _ _ _ _ _ _ _ _ H2.out)
end Go.Proofs.YtadmpgegolmkgaaDoor
