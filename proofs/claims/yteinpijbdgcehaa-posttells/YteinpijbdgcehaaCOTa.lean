import Derived.Test.YteinpijbdgcehaaCOM
namespace Go.Proofs.Yteinpijbdgcehaa
open Go.RowKit Go.Shelf
set_option linter.unusedVariables false
set_option linter.unusedSimpArgs false
attribute [local go_sem] Oper.semAt_some

set_option maxRecDepth 100000 in
set_option maxHeartbeats 4000000 in
/-- those that have a property, handed out one by one -/
theorem thoseA_in (n : Nat) (hn : 1 ≤ n) (w : World) (Pr : Nat → Prop) (hPr : ∀ b, Pr b → ∃ o : Obj, w.heap[b]? = some o ∧ o.isCells = true) (bL bH : Nat) (p : Option Addr) (c : Nat) (l : List OArm) (hf : Nat) (hlb : Array Value) (pr : OArm → Bool)
    (hL : w.heap[bL]? = some (.cells #[.slice p l.length c] 36)) (hH : w.heap[bH]? = some (.cells #[.func (.func hf) #[] hlb] 56)) (pL : Pr bL) (pH : Pr bH) (hl : ArmsIn w Pr p c l)
    (heg : ∀ args w, (callFunc hf args).run Try.prog w = .ok (.enter hf args) w)
    (hhas : ∀ i (h : i < l.length) W, Kpt Pr w W → Calls Try.prog hf (#[armV l[i]] ++ hlb) W fun e W' => e = .returned (.bool (pr l[i])) ∧ Below W.heap.size W W') :
    SeqT Fence.wide n Try.prog 36 #[.pointer (some ⟨bL, 0, none⟩), .pointer (some ⟨bH, 0, none⟩)] (thX armV pr l) Pr w := by
  intro L J G W hW hJ hG hY h0
  have hk0 : Kpt Pr w W := Kpt.of_below hPr hW
  have d0 : W.cell? ⟨bL, 0, none⟩ = some (.slice p l.length c) := by rw [hk0.cell pL]; simp [World.cell?, hL]
  have e0 : w.cell? ⟨bH, 0, none⟩ = some (.func (.func hf) #[] hlb) := by simp [World.cell?, hH]
  have hlc := hl.len
  have hcm := hl.max
  unfold maxLen at hcm
  refine callsIn_of_wp Try.func36 rfl trivial ?_ rfl
  simp only [Try.ntmps36, List.size_toArray, List.length_cons, List.length_nil, Nat.reduceAdd, Nat.reduceSub, Array.replicate_succ, Array.replicate_zero, List.push_toArray, List.append_toArray, List.nil_append, List.cons_append]
  gi_wp2
  gi_loopg [8] l.length (fun k v wr => ∃ (i : Nat) (G : Nat → Prop), k = l.length - i ∧ i ≤ l.length ∧ v = .int .i64 i ∧ Bx (J (thX armV pr (l.take i)).length G wr ∧ Kpt Pr w wr ∧ (∀ b, G b → ¬ Pr b) ∧ W.heap.size ≤ wr.heap.size))
  case atStart => exact ⟨0, G, by simp, by omega, rfl, ⟨by simpa [thX, ofm] using h0, hk0, hG, Nat.le_refl _⟩⟩
  case round =>
    obtain ⟨i, G1, hk, hil, rfl, HR⟩ := hrel
    clear h0 hk0 d0 hG
    by_cases hlt : i < l.length
    · obtain ⟨b, o, rfl, hb, ha⟩ := (hl.keep HR.out.2.1).at_ i hlt
      have a0 := ha.c0
      have a1 := ha.c1
      have a2 := ha.c2
      have a3 := ha.c3
      have a4 := ha.c4
      have e1 : wr.cell? ⟨bH, 0, none⟩ = some (.func (.func hf) #[] hlb) := (HR.out.2.1.cell pH).trans e0
      have hbX : Below wr.heap.size wr (wr.alloc (.cells #[.int .i64 l[i].chan, .bool l[i].send, .int .i64 l[i].x, .int .i64 l[i].y, .slice l[i].zp l[i].zn l[i].zc] 43)) := below1 _ _
      have hkX : Kpt Pr w (wr.alloc (.cells #[.int .i64 l[i].chan, .bool l[i].send, .int .i64 l[i].x, .int .i64 l[i].y, .slice l[i].zp l[i].zn l[i].zc] 43)) := HR.out.2.1.below hPr hbX
      have hbx : (wr.alloc (.cells #[.int .i64 l[i].chan, .bool l[i].send, .int .i64 l[i].x, .int .i64 l[i].y, .slice l[i].zp l[i].zn l[i].zc] 43)).heap[wr.heap.size]? = some (.cells #[.int .i64 l[i].chan, .bool l[i].send, .int .i64 l[i].x, .int .i64 l[i].y, .slice l[i].zp l[i].zn l[i].zc] 43) := World.alloc_heap_new _ _
      have e2 : (wr.alloc (.cells #[.int .i64 l[i].chan, .bool l[i].send, .int .i64 l[i].x, .int .i64 l[i].y, .slice l[i].zp l[i].zn l[i].zc] 43)).cell? ⟨bH, 0, none⟩ = some (.func (.func hf) #[] hlb) := (hkX.cell pH).trans e0
      have x0 : (wr.alloc (.cells #[.int .i64 l[i].chan, .bool l[i].send, .int .i64 l[i].x, .int .i64 l[i].y, .slice l[i].zp l[i].zn l[i].zc] 43)).cell? ⟨wr.heap.size, 0, none⟩ = some (.int .i64 l[i].chan) := cell_of hbx rfl
      have x1 : (wr.alloc (.cells #[.int .i64 l[i].chan, .bool l[i].send, .int .i64 l[i].x, .int .i64 l[i].y, .slice l[i].zp l[i].zn l[i].zc] 43)).cell? ⟨wr.heap.size, 1, none⟩ = some (.bool l[i].send) := cell_of hbx rfl
      have x2 : (wr.alloc (.cells #[.int .i64 l[i].chan, .bool l[i].send, .int .i64 l[i].x, .int .i64 l[i].y, .slice l[i].zp l[i].zn l[i].zc] 43)).cell? ⟨wr.heap.size, 2, none⟩ = some (.int .i64 l[i].x) := cell_of hbx rfl
      have x3 : (wr.alloc (.cells #[.int .i64 l[i].chan, .bool l[i].send, .int .i64 l[i].x, .int .i64 l[i].y, .slice l[i].zp l[i].zn l[i].zc] 43)).cell? ⟨wr.heap.size, 3, none⟩ = some (.int .i64 l[i].y) := cell_of hbx rfl
      have x4 : (wr.alloc (.cells #[.int .i64 l[i].chan, .bool l[i].send, .int .i64 l[i].x, .int .i64 l[i].y, .slice l[i].zp l[i].zn l[i].zc] 43)).cell? ⟨wr.heap.size, 4, none⟩ = some (.slice l[i].zp l[i].zn l[i].zc) := cell_of hbx rfl
      have hc := hhas i hlt (wr.alloc (.cells #[.int .i64 l[i].chan, .bool l[i].send, .int .i64 l[i].x, .int .i64 l[i].y, .slice l[i].zp l[i].zn l[i].zc] 43)) hkX
      have HJX : Bx (J (thX armV pr (l.take i)).length G1 (wr.alloc (.cells #[.int .i64 l[i].chan, .bool l[i].send, .int .i64 l[i].x, .int .i64 l[i].y, .slice l[i].zp l[i].zn l[i].zc] 43))) := ⟨hJ.below HR.out.1 hbX (grown_below hbX)⟩
      have HGX : Bx (∀ b, G1 b → ¬ Pr b) := ⟨HR.out.2.2.1⟩
      have HZX : Bx (W.heap.size ≤ (wr.alloc (.cells #[.int .i64 l[i].chan, .bool l[i].send, .int .i64 l[i].x, .int .i64 l[i].y, .slice l[i].zp l[i].zn l[i].zc] 43)).heap.size) := ⟨Nat.le_trans HR.out.2.2.2 hbX.size⟩
      have HKX : Bx (Kpt Pr w (wr.alloc (.cells #[.int .i64 l[i].chan, .bool l[i].send, .int .i64 l[i].x, .int .i64 l[i].y, .slice l[i].zp l[i].zn l[i].zc] 43))) := ⟨hkX⟩
      clear HR ha hkX
      gi_wp2
      refine ⟨trivial, ?_⟩
      refine (callsIn_wide.2 hc).mono ?_
      rintro e X2 ⟨he, hb2⟩
      clear hc
      have hx2 := (hb2.block _ (Array.getElem?_eq_some_iff.1 hbx).1).trans hbx
      have y0 : X2.cell? ⟨wr.heap.size, 0, none⟩ = some (.int .i64 l[i].chan) := cell_of hx2 rfl
      have y1 : X2.cell? ⟨wr.heap.size, 1, none⟩ = some (.bool l[i].send) := cell_of hx2 rfl
      have y2 : X2.cell? ⟨wr.heap.size, 2, none⟩ = some (.int .i64 l[i].x) := cell_of hx2 rfl
      have y3 : X2.cell? ⟨wr.heap.size, 3, none⟩ = some (.int .i64 l[i].y) := cell_of hx2 rfl
      have y4 : X2.cell? ⟨wr.heap.size, 4, none⟩ = some (.slice l[i].zp l[i].zn l[i].zc) := cell_of hx2 rfl
      have HJ2 : Bx (J (thX armV pr (l.take i)).length G1 X2) := ⟨hJ.below HJX.out hb2 (grown_below hb2)⟩
      have HK2 : Bx (Kpt Pr w X2) := ⟨HKX.out.below hPr hb2⟩
      have HZ2 : Bx (W.heap.size ≤ X2.heap.size) := ⟨Nat.le_trans HZX.out hb2.size⟩
      cases hp : pr l[i]
      · rw [hp] at he
        subst he
        have ht := th_no armV pr l i hlt hp
        have HT : Bx _ := ⟨ht⟩
        clear ht hx2 hbx hb2 hp HJX HKX HZX
        gi_wp2
        refine ⟨fun _ h => (by cases h), ?_⟩
        gi_wp2
        gi_roundg (l.length - (i + 1))
        case measure => omega
        case rel => exact ⟨i + 1, G1, rfl, by omega, by simp, ⟨by rw [HT.out]; exact HJ2.out, HK2.out, HGX.out, HZ2.out⟩⟩
      · rw [hp] at he
        subst he
        have HT : Bx _ := ⟨th_yes armV pr l i hlt hp⟩
        obtain ⟨fn, tmps, assign, body, hy, hRd⟩ := hY _ _ G1 X2 (th_next armV pr l i hlt hp) HJ2.out
        simp only [armV] at hy
        clear hx2 hbx hb2 hp HJX HKX HZX HJ2
        gi_wp2
        refine hRd.mono ?_
        clear hRd hy
        rintro e W3 ⟨rfl, G2, hJ3, hs3⟩
        obtain ⟨hk3, hg3⟩ := HK2.out.sep hPr HGX.out hs3
        have HF : Bx (J ((thX armV pr (l.take i)).length + 1) G2 W3 ∧ Kpt Pr w W3 ∧ (∀ b, G2 b → ¬ Pr b) ∧ W.heap.size ≤ W3.heap.size) := ⟨hJ3, hk3, hg3, Nat.le_trans HZ2.out hs3.size⟩
        clear hJ3 hk3 hg3 hs3
        gi_wp2
        gi_roundg (l.length - (i + 1))
        case measure => omega
        case rel => exact ⟨i + 1, G2, rfl, by omega, by simp, ⟨by rw [HT.out]; exact HF.out.1, HF.out.2⟩⟩
    · have hie : i = l.length := by omega
      subst hie
      rw [List.take_length] at HR
      gi_wp2
      go_end0
      exact ⟨⟨_, rfl⟩, G1, HR.out.1⟩
end Go.Proofs.Yteinpijbdgcehaa
