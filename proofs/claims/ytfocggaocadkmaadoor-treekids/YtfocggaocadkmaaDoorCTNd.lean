import Derived.Test.YtfocggaocadkmaaDoorCTBox
import Derived.Test.YtfocggaocadkmaaDoorCTLf
namespace Go.Proofs.YtfocggaocadkmaaDoor
open Go.RowKit
set_option linter.unusedVariables false
set_option linter.unusedSimpArgs false



set_option maxRecDepth 100000 in
set_option maxHeartbeats 2000000 in
theorem node_typ (w0 : World) (B b nb no nc N L : Nat) (k : Nat) (kd ps num : Int) (ka : Option Addr) (nk kc : Nat) (nm : ByteArray) (G : Nat → List (List UInt8)) (hnb : nb < B) (hL : L ≤ maxLen) (hk : k < L)
    (hc : w0.cell? ⟨nb, no + k * 5, none⟩ = some (.int .i64 kd) ∧ w0.cell? ⟨nb, no + k * 5 + 1, none⟩ = some (.int .i64 ps) ∧ w0.cell? ⟨nb, no + k * 5 + 2, none⟩ = some (.slice ka nk kc) ∧ w0.cell? ⟨nb, no + k * 5 + 3, none⟩ = some (.string nm) ∧ w0.cell? ⟨nb, no + k * 5 + 4, none⟩ = some (.int .i64 num))
    (h1 : typI kd = true) (HP : PrC w0 B b (.slice (some ⟨nb, no, none⟩) L nc) N 29 (ndA b ka kc nk kd ps num nm) (G k)) : NdC w0 B b (.slice (some ⟨nb, no, none⟩) L nc) N G k := by
  intro W bs hst hb
  unfold ndA at HP
  obtain ⟨pp, v, hp, hbk, hown, hnil⟩ := hst.pb.ex
  obtain ⟨c0, _, _, _, _, hbl⟩ := pr_cells hbk
  have hf : Five W nb (no + k * 5) kd ps ka nk kc nm num := Five.below hc hst.bel hnb
  obtain ⟨x0, x1, x2, x3, x4⟩ := hf
  have hS := BxS.start hst kd ps num (.slice ka nk kc) (.string nm)
  obtain ⟨_, _, z0, z2, z3, z4, hxl, hbl2⟩ := hS.post
  obtain ⟨_, _, _, _, z1, _⟩ := box_cells hS.box
  have HC : Bx _ := ⟨s_call HP hS (by simpa using hb)⟩
  unfold maxLen at hL
  clear hst hbk hown hnil hp HP hc hb hS
  go_enter Tryd.func22, Tryd.ntmps22
  go_wp2_with (first
    | (go_at_call 28; refine (isType_any _ _).mono ?_; rintro e w' ⟨rfl, rfl⟩)
    | (go_at_call 19; refine (isExpr_any _ _).mono ?_; rintro e w' ⟨rfl, rfl⟩)
    | (go_at_call 31; refine (isStatement_any _ _).mono ?_; rintro e w' ⟨rfl, rfl⟩)
    | (go_at_call 29; refine Calls.mono HC.out ?_; rintro e W' ⟨rfl, hE, _⟩))
  go_end0
  exact s_end hE (by simp)

set_option maxRecDepth 100000 in
set_option maxHeartbeats 2000000 in
theorem node_expr (w0 : World) (B b nb no nc N L : Nat) (k : Nat) (kd ps num : Int) (ka : Option Addr) (nk kc : Nat) (nm : ByteArray) (G : Nat → List (List UInt8)) (hnb : nb < B) (hL : L ≤ maxLen) (hk : k < L)
    (hc : w0.cell? ⟨nb, no + k * 5, none⟩ = some (.int .i64 kd) ∧ w0.cell? ⟨nb, no + k * 5 + 1, none⟩ = some (.int .i64 ps) ∧ w0.cell? ⟨nb, no + k * 5 + 2, none⟩ = some (.slice ka nk kc) ∧ w0.cell? ⟨nb, no + k * 5 + 3, none⟩ = some (.string nm) ∧ w0.cell? ⟨nb, no + k * 5 + 4, none⟩ = some (.int .i64 num))
    (h1 : typI kd = false) (h2 : exprI kd = true) (HP : PrC w0 B b (.slice (some ⟨nb, no, none⟩) L nc) N 30 (ndA b ka kc nk kd ps num nm) (G k)) : NdC w0 B b (.slice (some ⟨nb, no, none⟩) L nc) N G k := by
  intro W bs hst hb
  unfold ndA at HP
  obtain ⟨pp, v, hp, hbk, hown, hnil⟩ := hst.pb.ex
  obtain ⟨c0, _, _, _, _, hbl⟩ := pr_cells hbk
  have hf : Five W nb (no + k * 5) kd ps ka nk kc nm num := Five.below hc hst.bel hnb
  obtain ⟨x0, x1, x2, x3, x4⟩ := hf
  have hS := BxS.start hst kd ps num (.slice ka nk kc) (.string nm)
  obtain ⟨_, _, z0, z2, z3, z4, hxl, hbl2⟩ := hS.post
  obtain ⟨_, _, _, _, z1, _⟩ := box_cells hS.box
  have HC : Bx _ := ⟨s_call HP hS (by simpa using hb)⟩
  unfold maxLen at hL
  clear hst hbk hown hnil hp HP hc hb hS
  go_enter Tryd.func22, Tryd.ntmps22
  go_wp2_with (first
    | (go_at_call 28; refine (isType_any _ _).mono ?_; rintro e w' ⟨rfl, rfl⟩)
    | (go_at_call 19; refine (isExpr_any _ _).mono ?_; rintro e w' ⟨rfl, rfl⟩)
    | (go_at_call 31; refine (isStatement_any _ _).mono ?_; rintro e w' ⟨rfl, rfl⟩)
    | (go_at_call 30; refine Calls.mono HC.out ?_; rintro e W' ⟨rfl, hE, _⟩))
  go_end0
  exact s_end hE (by simp)

set_option maxRecDepth 100000 in
set_option maxHeartbeats 2000000 in
theorem node_stat (w0 : World) (B b nb no nc N L : Nat) (k : Nat) (kd ps num : Int) (ka : Option Addr) (nk kc : Nat) (nm : ByteArray) (G : Nat → List (List UInt8)) (hnb : nb < B) (hL : L ≤ maxLen) (hk : k < L)
    (hc : w0.cell? ⟨nb, no + k * 5, none⟩ = some (.int .i64 kd) ∧ w0.cell? ⟨nb, no + k * 5 + 1, none⟩ = some (.int .i64 ps) ∧ w0.cell? ⟨nb, no + k * 5 + 2, none⟩ = some (.slice ka nk kc) ∧ w0.cell? ⟨nb, no + k * 5 + 3, none⟩ = some (.string nm) ∧ w0.cell? ⟨nb, no + k * 5 + 4, none⟩ = some (.int .i64 num))
    (h1 : typI kd = false) (h2 : exprI kd = false) (h3 : statI kd = true) (HP : PrC w0 B b (.slice (some ⟨nb, no, none⟩) L nc) N 32 (ndA b ka kc nk kd ps num nm) (G k)) : NdC w0 B b (.slice (some ⟨nb, no, none⟩) L nc) N G k := by
  intro W bs hst hb
  unfold ndA at HP
  obtain ⟨pp, v, hp, hbk, hown, hnil⟩ := hst.pb.ex
  obtain ⟨c0, _, _, _, _, hbl⟩ := pr_cells hbk
  have hf : Five W nb (no + k * 5) kd ps ka nk kc nm num := Five.below hc hst.bel hnb
  obtain ⟨x0, x1, x2, x3, x4⟩ := hf
  have hS := BxS.start hst kd ps num (.slice ka nk kc) (.string nm)
  obtain ⟨_, _, z0, z2, z3, z4, hxl, hbl2⟩ := hS.post
  obtain ⟨_, _, _, _, z1, _⟩ := box_cells hS.box
  have HC : Bx _ := ⟨s_call HP hS (by simpa using hb)⟩
  unfold maxLen at hL
  clear hst hbk hown hnil hp HP hc hb hS
  go_enter Tryd.func22, Tryd.ntmps22
  go_wp2_with (first
    | (go_at_call 28; refine (isType_any _ _).mono ?_; rintro e w' ⟨rfl, rfl⟩)
    | (go_at_call 19; refine (isExpr_any _ _).mono ?_; rintro e w' ⟨rfl, rfl⟩)
    | (go_at_call 31; refine (isStatement_any _ _).mono ?_; rintro e w' ⟨rfl, rfl⟩)
    | (go_at_call 32; refine Calls.mono HC.out ?_; rintro e W' ⟨rfl, hE, _⟩))
  go_end0
  exact s_end hE (by simp)

set_option maxRecDepth 100000 in
set_option maxHeartbeats 2000000 in
theorem node_other (w0 : World) (B b nb no nc N L : Nat) (k : Nat) (kd ps num : Int) (ka : Option Addr) (nk kc : Nat) (nm : ByteArray) (G : Nat → List (List UInt8)) (hnb : nb < B) (hL : L ≤ maxLen) (hk : k < L)
    (hc : w0.cell? ⟨nb, no + k * 5, none⟩ = some (.int .i64 kd) ∧ w0.cell? ⟨nb, no + k * 5 + 1, none⟩ = some (.int .i64 ps) ∧ w0.cell? ⟨nb, no + k * 5 + 2, none⟩ = some (.slice ka nk kc) ∧ w0.cell? ⟨nb, no + k * 5 + 3, none⟩ = some (.string nm) ∧ w0.cell? ⟨nb, no + k * 5 + 4, none⟩ = some (.int .i64 num))
    (h1 : typI kd = false) (h2 : exprI kd = false) (h3 : statI kd = false) (HP : PrC w0 B b (.slice (some ⟨nb, no, none⟩) L nc) N 33 (ndA b ka kc nk kd ps num nm) (G k)) : NdC w0 B b (.slice (some ⟨nb, no, none⟩) L nc) N G k := by
  intro W bs hst hb
  unfold ndA at HP
  obtain ⟨pp, v, hp, hbk, hown, hnil⟩ := hst.pb.ex
  obtain ⟨c0, _, _, _, _, hbl⟩ := pr_cells hbk
  have hf : Five W nb (no + k * 5) kd ps ka nk kc nm num := Five.below hc hst.bel hnb
  obtain ⟨x0, x1, x2, x3, x4⟩ := hf
  have hS := BxS.start hst kd ps num (.slice ka nk kc) (.string nm)
  obtain ⟨_, _, z0, z2, z3, z4, hxl, hbl2⟩ := hS.post
  obtain ⟨_, _, _, _, z1, _⟩ := box_cells hS.box
  have HC : Bx _ := ⟨s_call HP hS (by simpa using hb)⟩
  unfold maxLen at hL
  clear hst hbk hown hnil hp HP hc hb hS
  go_enter Tryd.func22, Tryd.ntmps22
  go_wp2_with (first
    | (go_at_call 28; refine (isType_any _ _).mono ?_; rintro e w' ⟨rfl, rfl⟩)
    | (go_at_call 19; refine (isExpr_any _ _).mono ?_; rintro e w' ⟨rfl, rfl⟩)
    | (go_at_call 31; refine (isStatement_any _ _).mono ?_; rintro e w' ⟨rfl, rfl⟩)
    | (go_at_call 33; refine Calls.mono HC.out ?_; rintro e W' ⟨rfl, hE, _⟩))
  go_end0
  exact s_end hE (by simp)

end Go.Proofs.YtfocggaocadkmaaDoor
