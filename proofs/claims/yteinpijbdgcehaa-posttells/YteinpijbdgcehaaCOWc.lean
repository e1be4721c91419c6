import Derived.Test.YteinpijbdgcehaaCOWb
namespace Go.Proofs.Yteinpijbdgcehaa
open Go.RowKit Go.Shelf
set_option linter.unusedVariables false
set_option linter.unusedSimpArgs false

theorem wpList_app {P : Program} (w : World) {ops : Array Oper} {rest : List Oper} {o : Oper} {a : Act} {Q : Exit → Act → World → Prop}
    (hg : o.guard = none) (s x : Operand) (t : TypeId) (hop : o.op = Op.call { callee := Callee.builtin Builtin.append, args := #[s, x], argTypes := #[t, t] })
    (base : Nat) (e : TypeId) (i : TypeInfo) (z : Value) (size bytes : Nat) (h1 : P.underlying t = some (.slice e)) (h2 : P.info? e = some i) (h3 : i.zero = some z) (h4 : i.size = size) (h5 : i.bytes = bytes) (h6 : z.cells.size = size) (h7 : 0 < size)
    (v : Value) (k : Nat) (xs : List Value) (hs : a.eval s = v) (hown : w.ownsRow base e size v k xs) (ad : Addr) (m c : Nat) (news : List Value) (hx : a.eval x = .slice (some ad) m c) (hn : news.length = m * size)
    (hc : ∀ j u, news[j]? = some u → w.cell? (ad.add j) = some u) (h1c : ∀ u ∈ news, u.oneCell' = true) (b0 : 0 < m) (b1 : k + m ≤ maxLen) (b2 : (k + m) * bytes ≤ 140737488355328) (b3 : base ≤ w.heap.size) (H : Nat) (hH : w.heap.size = H)
    (hK : ∀ g cap w', w'.ownsRow base e size (.slice (some ⟨g, 0, none⟩) (k + m) cap) (k + m) (xs ++ news) → w.grownBy w' v.ownBlock → (v.ownBlock = some g ∨ g = H) → g < w'.heap.size → wpList P ops Q rest (a.put o.dst (.slice (some ⟨g, 0, none⟩) (k + m) cap)) w') :
    wpList P ops Q (o :: rest) a w := by
  refine wpList_plain hg fun K hK' => ?_
  obtain ⟨g, cap, w', hrun, r1, r2, r3, r4⟩ := run_append_lies (P := P) w t o.type base e i z size bytes h1 h2 h3 h4 h5 h6 h7 v k xs hown ad m c news hn hc h1c b0 b1 b2 b3 H hH
  unfold Oper.wp
  simp [execOp, hop, resolve, invoke, builtin, hs, hx, hrun, Result.andThen]
  exact hK' _ _ (hK g cap w' r1 r2 r3 r4)

set_option maxRecDepth 100000 in
set_option maxHeartbeats 4000000 in
/-- the pairs in which a process is not -/
theorem without_any (w : World) (p : Option Addr) (c : Nat) (zs : List OPr) (k : Int) (h : PrsAt w p c zs) (hz : zs.length ≤ 20000000) :
    Calls Try.prog 21 #[.slice p zs.length c, .int .i64 k] w (PrPost w (zs.filter (onot k))) := by
  obtain ⟨i0, hi, iz0, iz1, iz2⟩ := info_parts infoP
  have hlc := h.len
  have hcm := h.max
  unfold maxLen at hcm
  go_enter Try.func21, Try.ntmps21
  go_wp2
  go_loopg [5, 6] (zs.length + 1) (fun g v5 v6 wr => ∃ i : Nat, g = zs.length + 1 - i ∧ i ≤ zs.length ∧ v6 = .int .i64 i ∧ Bx (wr.ownsRow w.heap.size 47 5 v5 ((zs.take i).filter (onot k)).length (prsC ((zs.take i).filter (onot k))) ∧ Below w.heap.size w wr))
  case atStart => exact ⟨0, by simp, by omega, rfl, ⟨⟨rfl, .inr ⟨_, 0, #[], rfl, Nat.le_refl _, World.alloc_heap_new _ _, by simp, by simp [maxLen], rfl, rfl⟩⟩, below1 _ _⟩⟩
  case round =>
    obtain ⟨i, hg, hil, rfl, HR⟩ := hrel
    by_cases hlt : i < zs.length
    · obtain ⟨b, o, rfl, hb, q⟩ := (h.below HR.out.2).at_ i hlt
      have a0 := q.c0
      have a1 := q.c1
      have a2 := q.c2
      have a3 := q.c3
      have a4 := q.c4
      have hne : (onot k zs[i] = true ∧ (zs[i].p != k) = true ∧ (zs[i].q != k) = true) ∨ (onot k zs[i] = false ∧ (zs[i].p != k) = true ∧ (zs[i].q != k) = false) ∨ (onot k zs[i] = false ∧ (zs[i].p != k) = false) := by
        unfold onot
        cases zs[i].p != k <;> cases zs[i].q != k <;> simp
      have HT : Bx ((zs.take (i + 1)).filter (onot k) = (zs.take i).filter (onot k) ++ if onot k zs[i] then [zs[i]] else []) := ⟨by rw [List.take_succ_eq_append_getElem hlt, List.filter_append, List.filter_cons]; rfl⟩
      have hzl : ((zs.take i).filter (onot k)).length ≤ 20000000 - 1 := by
        have := List.length_filter_le (onot k) (zs.take i)
        simp at this
        omega
      have hsz : w.heap.size ≤ wr.heap.size := HR.out.2.size
      clear q h
      rcases hne with ⟨t1, t2, t3⟩ | ⟨t1, t2, t3⟩ | ⟨t1, t2⟩
      · rw [t1] at HT
        have HOW := HR.out.1
        have HO : Bx _ := ⟨HOW⟩
        have HB : Bx _ := ⟨HR.out.2⟩
        clear HOW HR
        generalize (zs.take i).filter (onot k) = ys at *
        go_wp2_with (first | (at_builtin; refine wpList_app _ rfl (.tmp 30) (.tmp 35) 33 rfl w.heap.size 47 i0 (.agg #[.int .i64 0, .int .i64 0, .int .i64 0, .int .i64 0, .int .i64 0]) 5 40 Try.underlying33 hi iz0 iz1 iz2 rfl (by decide) u5 ys.length (prsC ys) rfl (own_new HO.out (below1 _ _)) ⟨wr.heap.size, 0, none⟩ 1 1 (prC zs[i]) rfl rfl (block_cells _ _ _ 47 (World.alloc_heap_new _ _)) (by simp [Value.oneCell', prC]) (by decide) (by unfold maxLen; omega) (by omega) (by simp; omega) (wr.heap.size + 1) (by simp) ?_; intro gg gcap w4 hown' hgrow hgi hgl'))
        go_roundg (zs.length + 1 - (i + 1))
        case measure => omega
        case rel => exact ⟨i + 1, rfl, by omega, by simp, ⟨by rw [HT.out]; simp only [if_true, prsC_snoc]; simpa using hown', (HB.out.trans ((below1 _ _).mono hsz)).grown hgrow (by simp; omega) (fun r e => own_base HO.out r e)⟩⟩
      · rw [t1] at HT
        go_wp2
        go_roundg (zs.length + 1 - (i + 1))
        case measure => omega
        case rel => exact ⟨i + 1, rfl, by omega, by simp, ⟨by rw [HT.out, if_neg (by simp), List.append_nil]; exact HR.out.1, HR.out.2⟩⟩
      · rw [t1] at HT
        go_wp2
        go_roundg (zs.length + 1 - (i + 1))
        case measure => omega
        case rel => exact ⟨i + 1, rfl, by omega, by simp, ⟨by rw [HT.out, if_neg (by simp), List.append_nil]; exact HR.out.1, HR.out.2⟩⟩
    · have hie : i = zs.length := by omega
      subst hie
      rw [List.take_length] at HR
      go_wp2
      go_ret
      exact ⟨_, rfl, HR.out.1, HR.out.2⟩
end Go.Proofs.Yteinpijbdgcehaa
