import Derived.Test.YtdhgmeklphcbhaaCVPu
namespace Go.Proofs.Ytdhgmeklphcbhaa
open Go.RowKit
set_option linter.unusedVariables false
set_option linter.unusedSimpArgs false

/-- a channel in a value -/
def chn (x : V) (n : Int) : Prop := ∃ y, Nod x y ∧ y.k = 5 ∧ 0 < y.n ∧ y.n = n
theorem chn_iff {y : V} {n : Int} : chn y n ↔ (y.k = 5 ∧ 0 < y.n ∧ y.n = n) ∨ ∃ z ∈ y.l, chn z n := by
  constructor
  · rintro ⟨t, h, h1⟩
    rcases nod_iff.1 h with rfl | ⟨z, hz, h2⟩
    · exact .inl h1
    · exact .inr ⟨z, hz, t, h2, h1⟩
  · rintro (h | ⟨z, hz, t, h2, h1⟩)
    · exact ⟨y, .me y, h⟩
    · exact ⟨t, .kid hz h2, h1⟩
/-- what is told and what is left -/
def Say (x : V) (zs : List Int) (st : List V) : Prop := ∀ n, chn x n ↔ n ∈ zs ∨ ∃ z ∈ st, chn z n
theorem Say.no {x y : V} {zs : List Int} {qs : List V} (h : Say x zs (qs ++ [y])) (hn : ¬ (y.k = 5 ∧ 0 < y.n)) : Say x zs (qs ++ y.l) := by
  intro n
  rw [h n]
  constructor
  · rintro (h1 | ⟨z, hz, h2⟩)
    · exact .inl h1
    · rcases List.mem_append.1 hz with hz | hz
      · exact .inr ⟨z, List.mem_append.2 (.inl hz), h2⟩
      · simp at hz; subst hz
        rcases chn_iff.1 h2 with h3 | ⟨t, ht, h3⟩
        · exact absurd ⟨h3.1, h3.2.1⟩ hn
        · exact .inr ⟨t, List.mem_append.2 (.inr ht), h3⟩
  · rintro (h1 | ⟨z, hz, h2⟩)
    · exact .inl h1
    · rcases List.mem_append.1 hz with hz | hz
      · exact .inr ⟨z, List.mem_append.2 (.inl hz), h2⟩
      · exact .inr ⟨y, by simp, chn_iff.2 (.inr ⟨z, hz, h2⟩)⟩
theorem Say.yes {x y : V} {zs cs : List Int} {qs : List V} (h : Say x zs (qs ++ [y])) (h5 : y.k = 5) (h0 : 0 < y.n) (hc : ∀ n, n ∈ cs ↔ n = y.n ∨ n ∈ zs) : Say x cs (qs ++ y.l) := by
  intro n
  rw [h n, hc]
  constructor
  · rintro (h1 | ⟨z, hz, h2⟩)
    · exact .inl (.inr h1)
    · rcases List.mem_append.1 hz with hz | hz
      · exact .inr ⟨z, List.mem_append.2 (.inl hz), h2⟩
      · simp at hz; subst hz
        rcases chn_iff.1 h2 with h3 | ⟨t, ht, h3⟩
        · exact .inl (.inl h3.2.2.symm)
        · exact .inr ⟨t, List.mem_append.2 (.inr ht), h3⟩
  · rintro ((h1 | h1) | ⟨z, hz, h2⟩)
    · exact .inr ⟨y, by simp, chn_iff.2 (.inl ⟨h5, h0, h1.symm⟩)⟩
    · exact .inl h1
    · rcases List.mem_append.1 hz with hz | hz
      · exact .inr ⟨z, List.mem_append.2 (.inl hz), h2⟩
      · exact .inr ⟨y, by simp, chn_iff.2 (.inr ⟨z, hz, h2⟩)⟩
/-- what is told, in memory -/
structure ChR (w wr : World) (u : Value) (zs : List Int) : Prop where
  own : wr.ownsRow (w.heap.size + 1) 3 1 u zs.length (zs.map (Value.int .i64))
  val : ∃ g c, u = .slice (some ⟨g, 0, none⟩) zs.length c
  ris : Ris zs
  i64 : ∀ z ∈ zs, I64 z
theorem ChR.ext {w wr W : World} {u : Value} {zs : List Int} (h : ChR w wr u zs) (hb : Below wr.heap.size wr W) : ChR w W u zs := ⟨own_new h.own hb, h.val, h.ris, h.i64⟩
theorem ChR.keep {w wr W : World} {u v : Value} {zs : List Int} {n : Nat} {xs : List Value} (h : ChR w wr u zs) (hv : wr.ownsRow (w.heap.size + 2) 24 3 v n xs) (hk : ∀ b o, wr.heap[b]? = some o → v.ownBlock ≠ some b → W.heap[b]? = some o) : ChR w W u zs :=
  ⟨own_same h.own (fun g o hg ho => hk g o ho (own_diff h.own hv (by decide) hg)), h.val, h.ris, h.i64⟩
theorem ChR.put {w W w' : World} {zs cs : List Int} {g c : Nat} {n : Int} (hW : w.heap.size + 1 ≤ W.heap.size) (hi : ∀ z ∈ zs, I64 z) (hn : I64 n) (h1 : Ris cs) (h2 : ∀ x, x ∈ cs ↔ x = n ∨ x ∈ zs) (h3 : w'.ownsRow W.heap.size 3 1 (.slice (some ⟨g, 0, none⟩) cs.length c) cs.length (cs.map (Value.int .i64))) : ChR w w' (.slice (some ⟨g, 0, none⟩) cs.length c) cs := by
  refine ⟨⟨h3.1, ?_⟩, ⟨g, c, rfl⟩, h1, fun z hz => ?_⟩
  · rcases h3.2 with h | ⟨g', c', cur, e, q1, q2⟩
    · exact .inl h
    · exact .inr ⟨g', c', cur, e, by omega, q2⟩
  · rcases (h2 z).1 hz with rfl | h
    · exact hn
    · exact hi z h

set_option maxRecDepth 100000 in
set_option maxHeartbeats 4000000 in
/-- the reference's Chans -/
theorem rchans_any (w : World) (B : Nat) (v : Value) (x : V) (hv : IsV w B v x) (hB : B ≤ w.heap.size) (hx : x.sz ≤ 65536) :
    Calls Try.prog 19 #[v] w (ChPost w x) := by
  obtain ⟨⟨p, cap, rfl, h1⟩, h2, h3⟩ := hv
  obtain ⟨i0, hi, iz0, iz1, iz2⟩ := info_parts infoVl
  obtain ⟨W0, hW0⟩ : ∃ W0, ((w.alloc (Obj.cells #[.int .i64 x.k, .int .i64 x.n, .slice p x.l.length cap] 24)).alloc (.cells #[] 3)).alloc (Obj.cells #[.int .i64 x.k, .int .i64 x.n, .slice p x.l.length cap] 24) = W0 := ⟨_, rfl⟩
  have hb0 : Below w.heap.size w W0 := by rw [← hW0]; exact (two_new _ _ _).trans ((below1 _ _).mono (by simp; omega))
  have hr1 : W0.heap[w.heap.size + 1]? = some (.cells #[] 3) := by rw [← hW0]; exact (Below.heap_alloc _ _ _ (by simp)).trans (alloc_at _ _ _)
  have hr2 : W0.heap[w.heap.size + 2]? = some (Obj.cells #[.int .i64 x.k, .int .i64 x.n, .slice p x.l.length cap] 24) := by
    rw [← hW0]; have := World.alloc_heap_new ((w.alloc (Obj.cells #[.int .i64 x.k, .int .i64 x.n, .slice p x.l.length cap] 24)).alloc (.cells #[] 3)) (Obj.cells #[.int .i64 x.k, .int .i64 x.n, .slice p x.l.length cap] 24); simpa using this
  have hz0 : W0.heap.size = w.heap.size + 3 := by rw [← hW0]; simp
  have HG0 : Bx (Sv w W0 2 B (.slice (some ⟨w.heap.size + 2, 0, none⟩) 1 1) [x] ∧ ChR w W0 (.slice (some ⟨w.heap.size + 1, 0, none⟩) 0 0) []) :=
    ⟨⟨⟨[.int .i64 x.k, .int .i64 x.n, .slice p x.l.length cap], ⟨rfl, .inr ⟨_, 1, _, rfl, Nat.le_refl _, hr2, by simp, by simp [maxLen], by simp, by simp⟩⟩, ⟨p, cap, [], rfl, h1.lo (Lo.of (hb0.mono hB)), h2, h3, rfl⟩⟩, hb0, by omega⟩,
      ⟨⟨rfl, .inr ⟨_, 0, #[], rfl, Nat.le_refl _, hr1, Nat.le_refl _, by simp [maxLen], rfl, rfl⟩⟩, ⟨_, _, rfl⟩, by simp [Ris], by simp⟩⟩
  clear h1 h2 h3 hb0 hr1 hr2 hz0
  go_enter Try.func19, Try.ntmps19
  go_wp2
  simp only [Nat.add_assoc, Nat.reduceAdd]
  clear hW0
  go_loopg [3, 4] x.sz (fun k ov v wr => ∃ (cn : Nat) (st : List V) (zs : List Int), k = x.sz - cn ∧ cn + szs st = x.sz ∧ zs.length ≤ cn ∧ Bx (Sv w wr 2 B v st ∧ ChR w wr ov zs ∧ Say x zs st))
  case atStart => exact ⟨0, [x], [], by simp, by simp [szs], by simp, ⟨HG0.out.1, HG0.out.2, fun n => by simp⟩⟩
  case round =>
    obtain ⟨cn, st, zs, hk, hcs, hzl, HG⟩ := hrel
    clear HG0
    rcases List.eq_nil_or_concat st with rfl | ⟨qs, y, rfl⟩
    · have HE : Bx (ChPost w x (.returned u3) wr) := ⟨zs, u3, rfl, ⟨HG.out.2.1.ris, fun n => by have := HG.out.2.2 n; simp at this; rw [← this]; rfl⟩, ⟨HG.out.2.1.own.1, by
        rcases HG.out.2.1.own.2 with h | ⟨g', c', cur, e, q1, q2⟩
        · exact .inl h
        · exact .inr ⟨g', c', cur, e, by omega, q2⟩⟩, HG.out.1.bel⟩
      clear hcs
      rcases HG.out.1.v.val with ⟨rfl, _⟩ | ⟨g, gc, rfl, _⟩
      · go_wp2
        go_ret
        exact HE.out
      · rw [show ([] : List V).length = 0 from rfl]
        go_wp2
        go_ret
        exact HE.out
    · rw [List.concat_eq_append] at HG hcs
      obtain ⟨g, gc, q, qc, rfl, hg, hgl, hgc, hgm, c0, c1, c2, HQ, hyk, hyn, hst⟩ := HG.out.1.v.pop
      have hlq : y.l.length ≤ qc := HQ.1
      have hqm : qc ≤ maxLen := HQ.2.1
      rw [szs_append, szs, szs, V.sz_eq] at hcs
      have hyl := szs_len y.l
      have hql := szs_len qs
      unfold maxLen at hgm hqm
      obtain ⟨W2, hW2⟩ : ∃ W2, wr.alloc (Obj.cells #[.int .i64 y.k, .int .i64 y.n, .slice q y.l.length qc] 24) = W2 := ⟨_, rfl⟩
      have hb2 : Below wr.heap.size wr W2 := by rw [← hW2]; exact below1 _ _
      have hR2 : W2.heap[wr.heap.size]? = some (Obj.cells #[.int .i64 y.k, .int .i64 y.n, .slice q y.l.length qc] 24) := by rw [← hW2]; exact World.alloc_heap_new _ _
      have HG2 : Bx (Sv w W2 2 B (.slice (some ⟨g, 0, none⟩) qs.length gc) qs ∧ ChR w W2 u3 zs) := ⟨(⟨hst, HG.out.1.bel, HG.out.1.sz⟩ : Sv w wr 2 B _ qs).ext hB hb2, HG.out.2.1.ext hb2⟩
      have HQ2 : Bx (SlV W2 B q qc y.l) := ⟨HQ.lo (Lo.of (hb2.mono (by have := HG.out.1.sz; omega)))⟩
      have HR2 : Bx _ := ⟨hR2⟩
      have hz2 : W2.heap.size = wr.heap.size + 1 := by rw [← hW2]; simp
      have hws := HG.out.1.sz
      have HSY : Bx _ := ⟨HG.out.2.2⟩
      have HYN : Bx _ := ⟨hyn⟩
      obtain ⟨g3, c3', hu3⟩ := HG.out.2.1.val
      subst hu3
      clear hb2 hR2 HQ hst HG
      go_wp2
      obtain ⟨R, hR⟩ : ∃ R, R = wr.heap.size := ⟨_, rfl⟩
      rw [← hR]
      have HRR : Bx (W2.heap[R]? = some (Obj.cells #[.int .i64 y.k, .int .i64 y.n, .slice q y.l.length qc] 24)) := ⟨by rw [hR]; exact HR2.out⟩
      have hRs : R + 1 = W2.heap.size := by omega
      have hRg : g < R ∧ w.heap.size + 3 ≤ R := by omega
      clear HR2 c0 c1 c2 hz2 hR hW2
      go_loopg [4, 6] y.l.length (fun k v iv wr' => ∃ (i : Nat), k = y.l.length - i ∧ i ≤ y.l.length ∧ iv = .int .i64 i ∧ Bx (Sv w wr' 2 B v (qs ++ y.l.take i) ∧ ChR w wr' (.slice (some ⟨g3, 0, none⟩) zs.length c3') zs ∧ SlV wr' B q qc y.l ∧ wr'.heap[R]? = W2.heap[R]? ∧ v.ownBlock ≠ some R ∧ R + 1 ≤ wr'.heap.size))
      case atStart => exact ⟨0, by simp, by omega, rfl, ⟨by simpa using HG2.out.1, HG2.out.2, HQ2.out, rfl, by rw [ownB]; intro e; cases e; omega, by omega⟩⟩
      case round =>
        obtain ⟨i, hk', hil, rfl, HR⟩ := hrel
        clear HG2 HQ2
        have hrow : wr.heap[R]? = some (Obj.cells #[.int .i64 y.k, .int .i64 y.n, .slice q y.l.length qc] 24) := HR.out.2.2.2.1.trans HRR.out
        obtain ⟨r0, r1, r2, s0, s1, s2, hRl⟩ := c3 hrow
        by_cases hlt : i < y.l.length
        · obtain ⟨b, o, r, rc, rfl, hbB, e0, e1, e2, hR, ek, en⟩ := HR.out.2.2.1.at3 i hlt
          have hlenq : (qs ++ y.l.take i).length = qs.length + i := by simp; omega
          obtain ⟨xs, ho, hrowv⟩ := HR.out.1.v.own
          rw [hlenq] at ho
          have HTK : Bx (qs ++ y.l.take (i + 1) = (qs ++ y.l.take i) ++ [y.l[i]]) := ⟨by rw [List.take_succ_eq_append_getElem hlt, List.append_assoc]⟩
          have HHR : Bx (SlV wr B r rc y.l[i].l ∧ I64 y.l[i].k ∧ I64 y.l[i].n) := ⟨hR, ek, en⟩
          have HO : Bx _ := ⟨ho⟩
          have HRV : Bx _ := ⟨hrowv⟩
          have HLQ : Bx _ := ⟨hlenq⟩
          have hqi : qs.length + i ≤ 65536 := by omega
          clear hR ek en ho hrowv hlenq
          go_wp2_with (first | (at_builtin; refine wpList_append_lies _ rfl (.tmp 31) (.tmp 37) 22 rfl (w.heap.size + 2) 24 i0 (.agg #[.int .i64 0, .int .i64 0, .slice none 0 0]) 3 40 Try.underlying22 hi iz0 iz1 iz2 rfl (by decide) u4 (qs.length + i) xs rfl (own_new HO.out (below1 _ _)) ⟨wr.heap.size, 0, none⟩ 1 1 [.int .i64 y.l[i].k, .int .i64 y.l[i].n, .slice r y.l[i].l.length rc] rfl rfl (triple_one _ _ _ _ _ 24 (World.alloc_heap_new _ _)) (triple_cell _ _ _ _ _) (by decide) (by unfold maxLen; omega) (by omega) (by have := HR.out.1.sz; simp; omega) (wr.heap.size + 1) (by simp) ?_; intro gg gcap w4 hown' hgrow hgi hgl'; obtain ⟨p1, p2, p3, p4⟩ := Sv.push HLQ.out HR.out.1 hB HO.out HRV.out HHR.out.1 HHR.out.2.1 HHR.out.2.2 (below1 _ _) hown' hgrow; have hR4 := p4 R _ hrow HR.out.2.2.2.2.1; have HC4 : Bx _ := ⟨HR.out.2.1.keep HO.out p4⟩; have hgR : gg ≠ R := (by intro e; subst e; rcases hgi with h | h; exact HR.out.2.2.2.2.1 h; omega)))
          go_roundg (y.l.length - (i + 1))
          case measure => omega
          case rel => exact ⟨i + 1, rfl, by omega, by simp, ⟨by rw [HTK.out]; exact p1, HC4.out, HR.out.2.2.1.lo p2, hR4.trans HRR.out.symm, by rw [ownB]; intro e; cases e; exact hgR rfl, by omega⟩⟩
        · have hie : i = y.l.length := by omega
          subst hie
          have HF : Bx (Sv w wr 2 B u4 (qs ++ y.l) ∧ ChR w wr (.slice (some ⟨g3, 0, none⟩) zs.length c3') zs) := ⟨by have := HR.out.1; rw [List.take_length] at this; exact this, HR.out.2.1⟩
          clear HR
          by_cases hyes : y.k = 5 ∧ 0 < y.n
          · obtain ⟨hy1, hy2⟩ := hyes
            have hb5 : (y.k == 5) = true := by simpa using hy1
            obtain ⟨p', c', he, hpt⟩ := pth_of HF.out.2.own (Nat.le_refl _) HF.out.2.i64
            cases he
            have HC : Bx _ := ⟨put_any wr wr.heap.size g3 c3' zs y.n hpt (Nat.le_refl _) HF.out.2.ris (by omega)⟩
            have HY1 : Bx _ := ⟨hy1⟩
            clear hpt hy1
            go_wp2_with (first | (go_at_call 37; refine Calls.mono HC.out ?_; rintro e w5 ⟨cs, g5, c5, rfl, o1, o2, o3, o4, hb5'⟩; have HN : Bx _ := ⟨HF.out.1.ext hB hb5'⟩; have HN2 : Bx _ := ⟨ChR.put (w := w) (by omega) HF.out.2.i64 HYN.out o1 o2 o4⟩; have HSN : Bx _ := ⟨HSY.out.yes HY1.out hy2 o2⟩; clear o1 o2 o4 hb5'))
            go_roundg (x.sz - (cn + 1))
            case measure => omega
            case rel => exact ⟨cn + 1, qs ++ y.l, cs, rfl, by rw [szs_append]; omega, by omega, ⟨HN.out, HN2.out, HSN.out⟩⟩
          · have HSN : Bx _ := ⟨HSY.out.no hyes⟩
            by_cases hy1 : y.k = 5
            · have hy2 : ¬ 0 < y.n := fun h => hyes ⟨hy1, h⟩
              have hb5 : (y.k == 5) = true := by simpa using hy1
              clear hy1 hyes
              go_wp2
              go_roundg (x.sz - (cn + 1))
              case measure => omega
              case rel => exact ⟨cn + 1, qs ++ y.l, zs, rfl, by rw [szs_append]; omega, by omega, ⟨HF.out.1, HF.out.2, HSN.out⟩⟩
            · have hb5 : (y.k == 5) = false := by simpa using hy1
              clear hy1 hyes
              go_wp2
              go_roundg (x.sz - (cn + 1))
              case measure => omega
              case rel => exact ⟨cn + 1, qs ++ y.l, zs, rfl, by rw [szs_append]; omega, by omega, ⟨HF.out.1, HF.out.2, HSN.out⟩⟩
end Go.Proofs.Ytdhgmeklphcbhaa
