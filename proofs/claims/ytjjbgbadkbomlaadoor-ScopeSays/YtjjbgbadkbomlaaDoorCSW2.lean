import Derived.Test.YtjjbgbadkbomlaaDoorCSU
namespace Go.Proofs.YtjjbgbadkbomlaaDoor
open Go.RowKit Go.Maps
set_option linter.unusedVariables false
set_option linter.unusedSimpArgs false

set_option maxHeartbeats 1000000 in
set_option maxRecDepth 100000 in
theorem declare_twice {B nb no nc : Nat} {l : List Nd} {W0 W : World} {s : SSt} {G0 G : WG} (i m : Nat) (h : ST B nb no nc l W0 G0 W s G) (hi : i < l.length)
    (h0 : (ndN l i).name.toList.isEmpty = false) (hm : s.sc (ndN l i).name = some m) (hml : m < s.ms.length) (hb : (mnS s m).block = s.blocks) :
    Calls Tryd.prog 30 #[.pointer (some ⟨G.wb, 0, none⟩), .int .i64 i] W fun e W' => e = .returned (.tuple #[]) ∧ ST B nb no nc l W0 G0 W' (refuseP l i 50 s) G := by
  have hw0 := h.rel.cw 0
  have hw5 := h.rel.cw 5
  have hw6 := h.rel.cw 6
  simp only [wlkC] at hw0 hw5 hw6
  simp at hw0 hw5 hw6
  obtain ⟨ka, kc, ⟨_, _, _, c3, _, _⟩⟩ := h.nds.at_ i hi
  have hmax := h.nds.max
  unfold maxLen at hmax
  have hlook := h.rel.look (ndN l i).name (h.nds.wf i hi).name
  rw [hm] at hlook
  have hmc : W.cell? ⟨G.mB m, 1, none⟩ = some (.int .i64 s.blocks) := by rw [cell_of_row W _ 1 _ _ _ (h.rel.hmn m hml)]; simp [mnC, hb]
  unfold outV ptrV at hlook
  have HR := Bx.mk fun q => refuse_any i 50 (h.drew q) hi
  clear h
  go_enter Tryd.func30, Tryd.ntmps30
  go_wp2
  go_quiet (fail)
  go_wp2_with (first
    | (go_at_call 40; refine Calls.mono (HR.out _) ?_; rintro e W1 ⟨rfl, h1⟩))
  refine bodyPost_ret (results_none rfl _ _ _) rfl ?_
  exact ⟨rfl, h1⟩
theorem info9 : (Tryd.prog.info? 9).map (fun i => (i.zero, i.size, i.bytes)) = some (some (.string ⟨#[]⟩), 1, 16) := by kernel_rfl
theorem put_two (nm : ByteArray) (i : Nat) (o : Option Nat) (s : SSt) : { put1 nm i o s with dcl := (put1 nm i o s).dcl ++ [nm] } = putP nm i o s := rfl
/-- behind the map's store: what is declared grows -/
theorem declare_tail {B nb no nc : Nat} {l : List Nd} {W0 W2 : World} {s : SSt} {G0 G : WG} (h : ST B nb no nc l W0 G0 W2 s G) (nm : ByteArray) :
    (W2.alloc (.cells #[.string nm] 9)).ownsRow B 9 1 G.dv s.dcl.length (s.dcl.map .string) ∧
    (∀ g cap W3, (W2.alloc (.cells #[.string nm] 9)).grownBy W3 G.dv.ownBlock → W3.ownsRow B 9 1 (.slice (some ⟨g, 0, none⟩) (s.dcl.length + 1) cap) (s.dcl.length + 1) (s.dcl.map .string ++ [.string nm]) →
      (G.dv.ownBlock = some g ∨ g = W2.heap.size + 1) → g < W3.heap.size →
      W3.cell? ⟨G.wb, 7, none⟩ = some G.dv ∧ W3.frozen? ⟨G.wb, 7, none⟩ = false ∧ ∃ G', ST B nb no nc l W0 G0 (W3.setCell ⟨G.wb, 7, none⟩ (.slice (some ⟨g, 0, none⟩) (s.dcl.length + 1) cap)) { s with dcl := s.dcl ++ [nm] } G') := by
  have hb : Below W2.heap.size W2 (W2.alloc (.cells #[.string nm] 9)) := (Below.refl _ _).alloc (Nat.le_refl _) _
  have hr := h.rel.below hb
  refine ⟨hr.hdv, fun g cap W3 hg ho hat hlt => ?_⟩
  have hS3 : Same (W2.alloc (.cells #[.string nm] 9)) W3 G (fun t => t ≠ .dcl) := fun b hb hp => hg.block b (hr.lo b hb).2 fun e => hp (hr.ldv b e.symm)
  have hw3 := hr.k_w hS3 (by simp)
  refine ⟨?_, ?_, ?_⟩
  · rw [cell_of_row W3 _ 7 _ _ _ hw3]; rfl
  · simp [World.frozen?, hw3]
  · obtain ⟨h1, h2⟩ := h.rel.grow nm hb ho hg (by simpa using hat) hlt
    exact ⟨_, h.step h1 h2⟩
theorem str_news (w : World) (s : ByteArray) : ∀ j u, ([.string s] : List Value)[j]? = some u → (w.alloc (.cells #[.string s] 9)).cell? ((⟨w.heap.size, 0, none⟩ : Addr).add j) = some u := World.news_of_block (heap_alloc_new w _)
theorem str_one (s : ByteArray) : ∀ u ∈ ([.string s] : List Value), u.oneCell' = true := by intro u hu; simp at hu; subst hu; rfl
set_option maxHeartbeats 2000000 in
set_option maxRecDepth 100000 in
theorem declare_put {B nb no nc : Nat} {l : List Nd} {W0 W : World} {s : SSt} {G0 G : WG} (i : Nat) (h : ST B nb no nc l W0 G0 W s G) (hwf : SWf l s) (hi : i < l.length)
    (h0 : (ndN l i).name.toList.isEmpty = false) (hm : s.sc (ndN l i).name = none ∨ ∃ m, s.sc (ndN l i).name = some m ∧ m < s.ms.length ∧ (mnS s m).block ≠ s.blocks) (hbd : s.ms.length < 4294967296) (hbl : s.dcl.length < 4294967296) :
    Calls Tryd.prog 30 #[.pointer (some ⟨G.wb, 0, none⟩), .int .i64 i] W fun e W' => e = .returned (.tuple #[]) ∧ ∃ G', ST B nb no nc l W0 G0 W' (putP (ndN l i).name i (s.sc (ndN l i).name) s) G' := by
  have hw0 := h.rel.cw 0
  have hw5 := h.rel.cw 5
  have hw6 := h.rel.cw 6
  have hw7 := h.rel.cw 7
  have hw8 := h.rel.cw 8
  simp only [wlkC] at hw0 hw5 hw6 hw7 hw8
  simp at hw0 hw5 hw6 hw7 hw8
  obtain ⟨ka, kc, ⟨_, _, _, c3, _, _⟩⟩ := h.nds.at_ i hi
  have hmax := h.nds.max
  unfold maxLen at hmax
  have hlook := h.rel.look (ndN l i).name (h.nds.wf i hi).name
  obtain ⟨i0, hi0, hz0, hz1, hz2⟩ := info_parts info9
  obtain ⟨ga, gcp, hgf⟩ := row_form h.rel.hgv
  rw [hgf] at hw8
  have n5 := World.new_ne W ⟨G.wb, 5, none⟩ hw5
  have n6 := World.new_ne W ⟨G.wb, 6, none⟩ hw6
  have n8 := World.new_ne W ⟨G.wb, 8, none⟩ hw8
  have HU := Bx.mk fun q => h.rel.put1 hwf (ndN l i).name i (s.sc (ndN l i).name) rfl (h.nds.wf i hi).name hbd q
  have Hh := Bx.mk h
  have HB := h.rel.Bs
  clear h
  rcases hm with hm | ⟨m, hm, hml, hmb⟩
  · rw [hm] at hlook HU ⊢
    unfold outV at hlook HU
    go_enter Tryd.func30, Tryd.ntmps30
    go_wp2
    go_quiet (fail)
    go_wp2
    obtain ⟨W2, hrun, HR2, HF2⟩ := HU.out (nq + 1)
    replace HR2 := Bx.mk HR2
    replace HF2 := Bx.mk HF2
    have HS2 : Bx (W2.cell? ⟨G.wb, 5, none⟩ = some (.map (some G.mb)) ∧ W2.cell? ⟨G.wb, 6, none⟩ = some (.int .i64 s.blocks) ∧ W2.cell? ⟨G.wb, 8, none⟩ = some (.slice ga s.gat.length gcp)) :=
      ⟨HR2.out.cw 5, HR2.out.cw 6, (HR2.out.cw 8).trans (by show some G.gv = _; rw [hgf])⟩
    go_region_held (fun w' => w'.cell? ⟨G.wb, 5, none⟩ = some (.map (some G.mb)) ∧ w'.cell? ⟨G.wb, 6, none⟩ = some (.int .i64 s.blocks) ∧ w'.cell? ⟨G.wb, 8, none⟩ = some (.slice ga s.gat.length gcp)) (first | exact HS2.out | go_keep) (fail)
    have HT := Bx.mk (declare_tail (Hh.out.step HR2.out HF2.out) (ndN l i).name)
    have HOW := Bx.mk HT.out.1
    have HPU := Bx.mk HT.out.2
    have hx7 : W2.cell? ⟨G.wb, 7, none⟩ = some G.dv := HR2.out.cw 7
    have hB2 := HR2.out.Bs
    clear HT HR2 HF2 HS2 Hh HU hwf
    go_wp2_with (first
      | (at_builtin; refine wpList_append_lies _ rfl (.tmp 60) (.tmp 62) 53 rfl B 9 i0 (.string ⟨#[]⟩) 1 16 Tryd.underlying53 hi0 hz0 hz1 hz2 rfl (by decide) G.dv s.dcl.length (s.dcl.map .string) rfl HOW.out ⟨W2.heap.size, 0, none⟩ 1 1 [.string (ndN l i).name] rfl rfl (str_news _ _) (str_one _) (by decide) (by unfold maxLen; omega) (by omega) (by simp; omega) (W2.heap.size + 1) (by simp) ?_; intro g cap W3 hown hgrow hat hlt; obtain ⟨hy7, fy7, HG⟩ : W3.cell? ⟨G.wb, 7, none⟩ = some G.dv ∧ W3.frozen? ⟨G.wb, 7, none⟩ = false ∧ ∃ G', ST B nb no nc l W0 G0 (W3.setCell ⟨G.wb, 7, none⟩ (.slice (some ⟨g, 0, none⟩) (s.dcl.length + 1) cap)) (putP (ndN l i).name i none s) G' := HPU.out g cap W3 hgrow hown hat hlt; replace HG := Bx.mk HG; clear hown hgrow hat))
    go_end0
    exact ⟨rfl, HG.out⟩
  · have hmc : W.cell? ⟨G.mB m, 1, none⟩ = some (.int .i64 (mnS s m).block) := by rw [cell_of_row W _ 1 _ _ _ (Hh.out.rel.hmn m hml)]; rfl
    have hne : (((mnS s m).block : Int) == (s.blocks : Int)) = false := by rw [beq_eq_false_iff_ne]; omega
    have hne2 : decide (((mnS s m).block : Int) = (s.blocks : Int)) = false := by rw [decide_eq_false_iff_not]; omega
    generalize (mnS s m).block = bm at *
    rw [hm] at hlook HU ⊢
    unfold outV ptrV at hlook HU
    go_enter Tryd.func30, Tryd.ntmps30
    go_wp2
    go_quiet (fail)
    go_wp2
    obtain ⟨W2, hrun, HR2, HF2⟩ := HU.out (nq + 1)
    replace HR2 := Bx.mk HR2
    replace HF2 := Bx.mk HF2
    have HS2 : Bx (W2.cell? ⟨G.wb, 5, none⟩ = some (.map (some G.mb)) ∧ W2.cell? ⟨G.wb, 6, none⟩ = some (.int .i64 s.blocks) ∧ W2.cell? ⟨G.wb, 8, none⟩ = some (.slice ga s.gat.length gcp)) :=
      ⟨HR2.out.cw 5, HR2.out.cw 6, (HR2.out.cw 8).trans (by show some G.gv = _; rw [hgf])⟩
    go_region_held (fun w' => w'.cell? ⟨G.wb, 5, none⟩ = some (.map (some G.mb)) ∧ w'.cell? ⟨G.wb, 6, none⟩ = some (.int .i64 s.blocks) ∧ w'.cell? ⟨G.wb, 8, none⟩ = some (.slice ga s.gat.length gcp)) (first | exact HS2.out | go_keep) (fail)
    have HT := Bx.mk (declare_tail (Hh.out.step HR2.out HF2.out) (ndN l i).name)
    have HOW := Bx.mk HT.out.1
    have HPU := Bx.mk HT.out.2
    have hx7 : W2.cell? ⟨G.wb, 7, none⟩ = some G.dv := HR2.out.cw 7
    have hB2 := HR2.out.Bs
    clear HT HR2 HF2 HS2 Hh HU hwf
    go_wp2_with (first
      | (at_builtin; refine wpList_append_lies _ rfl (.tmp 60) (.tmp 62) 53 rfl B 9 i0 (.string ⟨#[]⟩) 1 16 Tryd.underlying53 hi0 hz0 hz1 hz2 rfl (by decide) G.dv s.dcl.length (s.dcl.map .string) rfl HOW.out ⟨W2.heap.size, 0, none⟩ 1 1 [.string (ndN l i).name] rfl rfl (str_news _ _) (str_one _) (by decide) (by unfold maxLen; omega) (by omega) (by simp; omega) (W2.heap.size + 1) (by simp) ?_; intro g cap W3 hown hgrow hat hlt; obtain ⟨hy7, fy7, HG⟩ : W3.cell? ⟨G.wb, 7, none⟩ = some G.dv ∧ W3.frozen? ⟨G.wb, 7, none⟩ = false ∧ ∃ G', ST B nb no nc l W0 G0 (W3.setCell ⟨G.wb, 7, none⟩ (.slice (some ⟨g, 0, none⟩) (s.dcl.length + 1) cap)) (putP (ndN l i).name i (some m) s) G' := HPU.out g cap W3 hgrow hown hat hlt; replace HG := Bx.mk HG; clear hown hgrow hat))
    go_end0
    exact ⟨rfl, HG.out⟩
end Go.Proofs.YtjjbgbadkbomlaaDoor
namespace Go.Proofs.YtjjbgbadkbomlaaDoor
open Go.RowKit Go.Maps
set_option linter.unusedVariables false
set_option linter.unusedSimpArgs false

set_option maxHeartbeats 1000000 in
set_option maxRecDepth 100000 in
theorem declare_none {B nb no nc : Nat} {l : List Nd} {W0 W : World} {s : SSt} {G0 G : WG} (i : Nat) (h : ST B nb no nc l W0 G0 W s G) (hi : i < l.length)
    (h0 : (ndN l i).name.toList.isEmpty = true) :
    Calls Tryd.prog 30 #[.pointer (some ⟨G.wb, 0, none⟩), .int .i64 i] W fun e W' => e = .returned (.tuple #[]) ∧ ST B nb no nc l W0 G0 W' s G := by
  have hw0 := h.rel.cw 0
  simp only [wlkC] at hw0
  simp at hw0
  obtain ⟨ka, kc, ⟨_, _, _, c3, _, _⟩⟩ := h.nds.at_ i hi
  have hmax := h.nds.max
  unfold maxLen at hmax
  have Hh := Bx.mk h
  clear h
  go_enter Tryd.func30, Tryd.ntmps30
  go_wp2
  refine bodyPost_ret (results_none rfl _ _ _) rfl ?_
  exact ⟨rfl, Hh.out⟩
/-- **declare** -/
theorem declare_any {B nb no nc : Nat} {l : List Nd} {W0 W : World} {s : SSt} {G0 G : WG} (i : Nat) (h : ST B nb no nc l W0 G0 W s G) (hwf : SWf l s) (hi : i < l.length) (hbd : s.ms.length < 4294967296) (hbl : s.dcl.length < 4294967296) :
    Calls Tryd.prog 30 #[.pointer (some ⟨G.wb, 0, none⟩), .int .i64 i] W fun e W' => e = .returned (.tuple #[]) ∧ ∃ G', ST B nb no nc l W0 G0 W' (declP l i s) G' := by
  unfold declP
  cases h0 : (ndN l i).name.toList.isEmpty with
  | true => exact (declare_none i h hi h0).mono fun e W' ⟨a, b⟩ => ⟨a, G, by simpa using b⟩
  | false =>
    rw [if_neg (by simp)]
    cases hm : s.sc (ndN l i).name with
    | none =>
      have := declare_put i h hwf hi h0 (.inl hm) hbd hbl
      rw [hm] at this
      exact this
    | some m =>
      have hml := hwf.tops _ _ hm
      by_cases hb : (mnS s m).block = s.blocks
      · simp only [hb, if_true]
        exact (declare_twice i m h hi h0 hm hml hb).mono fun e W' ⟨a, b⟩ => ⟨a, G, b⟩
      · simp only [hb, if_false]
        have := declare_put i h hwf hi h0 (.inr ⟨m, hm, hml, hb⟩) hbd hbl
        rw [hm] at this
        exact this

/-! ### name -/
set_option maxHeartbeats 1000000 in
set_option maxRecDepth 100000 in
theorem name_none {B nb no nc : Nat} {l : List Nd} {W0 W : World} {s : SSt} {G0 G : WG} (i : Nat) (h : ST B nb no nc l W0 G0 W s G) (hi : i < l.length) (hm : s.sc (ndN l i).name = none) :
    Calls Tryd.prog 24 #[.pointer (some ⟨G.wb, 0, none⟩), .int .i64 i] W fun e W' => e = .returned (.tuple #[]) ∧ ST B nb no nc l W0 G0 W' (refuseP l i 51 s) G := by
  have hw0 := h.rel.cw 0
  have hw5 := h.rel.cw 5
  simp only [wlkC] at hw0 hw5
  simp at hw0 hw5
  obtain ⟨ka, kc, ⟨_, _, _, c3, _, _⟩⟩ := h.nds.at_ i hi
  have hmax := h.nds.max
  unfold maxLen at hmax
  have hlook := fun q => (h.drew q).rel.look (ndN l i).name (h.nds.wf i hi).name
  rw [hm] at hlook
  unfold outV at hlook
  have HR := Bx.mk fun q => refuse_any i 51 (h.drew q) hi
  clear h
  go_enter Tryd.func24, Tryd.ntmps24
  go_wp2
  go_quiet (fail)
  go_wp2_with (first
    | (go_at_call 40; refine Calls.mono (HR.out _) ?_; rintro e W1 ⟨rfl, h1⟩))
  refine bodyPost_ret (results_none rfl _ _ _) rfl ?_
  exact ⟨rfl, h1⟩
end Go.Proofs.YtjjbgbadkbomlaaDoor
