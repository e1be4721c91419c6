import Derived.Test.YteinpijbdgcehaaCOBp
import Derived.Test.YteinpijbdgcehaaCOGb
namespace Go.Proofs.Yteinpijbdgcehaa
open Go.RowKit Go.Shelf
set_option linter.unusedVariables false
set_option linter.unusedSimpArgs false

theorem own_up {W : World} {B B' : Nat} {e : TypeId} {s : Nat} {v : Value} {n : Nat} {cs : List Value} (h : W.ownsRow B e s v n cs) (hb : ∀ g, v.ownBlock = some g → B' ≤ g) : W.ownsRow B' e s v n cs :=
  ⟨h.1, by
    rcases h.2 with h | ⟨g, cap, cur, rfl, h1, h2⟩
    · exact .inl h
    · exact .inr ⟨g, cap, cur, rfl, hb g rfl, h2⟩⟩
/-- blocks of other kinds stay where the book takes one more -/
theorem Kept.block {w w' : World} {B b : Nat} {us : Array Value} {t : TypeId} (h : Kept w w' B) (hb : w.heap[b]? = some (.cells us t (0, 0))) (hB : B ≤ b) (h1 : t ≠ 28) (h2 : t ≠ 33) (hz : us.size ≤ maxLen) : w'.heap[b]? = some (.cells us t (0, 0)) := by
  have hr : (⟨t, 1, .slice (some ⟨b, 0, none⟩) us.size us.size, us.size, us.toList⟩ : Row).ok w B := ⟨by simp, .inr ⟨b, us.size, us, rfl, hB, hb, Nat.le_refl _, hz, by simp, by rw [List.take_of_length_le (by simp)]⟩⟩
  have hr' := (h.rows _ hr h1 h2).own
  rcases hr'.2 with ⟨hv, _⟩ | ⟨g, cap, cur, hv, _, hg, _, _, hcs, htk⟩
  · cases hv
  · injection hv with e1 e2 e3
    injection e1 with e1
    injection e1 with e1
    subst e1
    have hg' : w'.heap[b]? = some (.cells cur t (0, 0)) := hg
    have hcs' : cur.size = us.size * 1 := by rw [e3]; exact hcs
    have htk' : cur.toList.take (us.size * 1) = us.toList := htk
    rw [hg']
    have : cur = us := by
      apply Array.toList_inj.1
      rw [← htk', List.take_of_length_le (by simp; omega)]
    rw [this]
/-- how it stands ahead of a call: the book with n lists, rows that were handed out, the list lent -/
structure St (w W : World) (B h ab : Nat) (Bf : Nat → Nat) (l : List OWt) (f : Nat → List OArm) (rv : Value) (n : Nat) (vs : List (Value × List OPr)) : Prop where
  bk : ∃ vo vw es, es.length = n ∧ Bk W B h vo vw 0 es ∧ Alone es ∧ (∀ e ∈ es, e.l.length ≤ 20000000) ∧ ∀ x ∈ vs, W.ownsRow B 47 5 x.1 x.2.length (prsC x.2) ∧ ∀ e ∈ es, Apart x.1 e.x ∧ Apart x.1 e.y
  ln : Ln W ab Bf l f l.length
  row : W.ownsRow (ab + 1) 36 1 rv l.length (rowC Bf (armsOf l) l.length)
  mark : W.cell? ⟨ab, l.length * 2, none⟩ = some (.int .i64 (-99))
  old : Below w.heap.size w W
  lo : B ≤ ab
  wB : w.heap.size ≤ B
theorem St.abl {w W : World} {B h ab : Nat} {Bf : Nat → Nat} {l : List OWt} {f : Nat → List OArm} {rv : Value} {n : Nat} {vs : List (Value × List OPr)} (S : St w W B h ab Bf l f rv n vs) : ab < W.heap.size := by
  obtain ⟨us, h1, _⟩ := S.ln.us
  exact (Array.getElem?_eq_some_iff.1 h1).1
theorem St.below {w W W' : World} {B h ab : Nat} {Bf : Nat → Nat} {l : List OWt} {f : Nat → List OArm} {rv : Value} {n : Nat} {vs : List (Value × List OPr)} (S : St w W B h ab Bf l f rv n vs) (hb : Below W.heap.size W W') : St w W' B h ab Bf l f rv n vs := by
  obtain ⟨vo, vw, es, h1, h2, h3, h4, h5⟩ := S.bk
  exact ⟨⟨vo, vw, es, h1, h2.below hb, h3, h4, fun x hx => ⟨own_new (h5 x hx).1 hb, (h5 x hx).2⟩⟩, S.ln.keep (fun b o _ ho => (hb.block b (Array.getElem?_eq_some_iff.1 ho).1).trans ho), own_new S.row hb, (hb.cell (p := ⟨ab, l.length * 2, none⟩) S.abl).trans S.mark, S.old.trans (hb.mono S.old.size), S.lo, S.wB⟩
theorem St.drop {w W : World} {B h ab : Nat} {Bf : Nat → Nat} {l : List OWt} {f : Nat → List OArm} {rv : Value} {n : Nat} {vs : List (Value × List OPr)} (S : St w W B h ab Bf l f rv n vs) : St w W B h ab Bf l f rv n [] := by
  obtain ⟨vo, vw, es, h1, h2, h3, h4, h5⟩ := S.bk
  exact ⟨⟨vo, vw, es, h1, h2, h3, h4, fun x hx => by cases hx⟩, S.ln, S.row, S.mark, S.old, S.lo, S.wB⟩
/-- a list is handed out -/
theorem St.one {w W W' : World} {B h ab : Nat} {Bf : Nat → Nat} {l : List OWt} {f : Nat → List OArm} {rv : Value} {n : Nat} {vs : List (Value × List OPr)} (S : St w W B h ab Bf l f rv n vs) {zs : List OPr} {e : Ending} (hp : PrPost W zs e W') : ∃ v, e = .returned v ∧ St w W' B h ab Bf l f rv n ((v, zs) :: vs) := by
  obtain ⟨v, rfl, ho, hb⟩ := hp
  have S' := S.below hb
  have hlt := S.abl
  have hlo := S.lo
  obtain ⟨vo, vw, es, h1, h2, h3, h4, h5⟩ := S.bk
  refine ⟨v, rfl, ⟨⟨vo, vw, es, h1, h2.below hb, h3, h4, fun x hx => ?_⟩, S'.ln, S'.row, S'.mark, S'.old, S'.lo, S'.wB⟩⟩
  rcases List.mem_cons.1 hx with rfl | hx
  · refine ⟨own_low ho (by omega), fun e he => ⟨fun g h6 h7 => ?_, fun g h6 h7 => ?_⟩⟩
    · have := own_base ho g h6
      have := ((h2.rows e he).1.own.lt g h7).2
      omega
    · have := own_base ho g h6
      have := ((h2.rows e he).2.own.lt g h7).2
      omega
  · exact ⟨own_new (h5 x hx).1 hb, (h5 x hx).2⟩
theorem Alone.snoc {es : List Ent} {e : Ent} (h : Alone es) (hx : ∀ d ∈ es, Apart e.x d.x ∧ Apart e.x d.y) (hy : ∀ d ∈ es, Apart e.y d.x ∧ Apart e.y d.y) (hxy : Apart e.x e.y) : Alone (es ++ [e]) := by
  intro k j hk hj
  simp only [List.length_append, List.length_cons, List.length_nil] at hk hj
  by_cases hk1 : k < es.length
  · rw [List.getElem_append_left hk1]
    by_cases hj1 : j < es.length
    · rw [List.getElem_append_left hj1]
      exact h k j hk1 hj1
    · have hje : j = es.length := by omega
      subst hje
      rw [List.getElem_append_right (Nat.le_refl _)]
      simp only [Nat.sub_self, List.getElem_cons_zero]
      have a := hx _ (List.getElem_mem hk1)
      have b := hy _ (List.getElem_mem hk1)
      exact ⟨fun _ => ⟨a.1.symm, b.2.symm⟩, b.1.symm⟩
  · have hke : k = es.length := by omega
    subst hke
    rw [List.getElem_append_right (Nat.le_refl _)]
    simp only [Nat.sub_self, List.getElem_cons_zero]
    by_cases hj1 : j < es.length
    · rw [List.getElem_append_left hj1]
      have a := hx _ (List.getElem_mem hj1)
      have b := hy _ (List.getElem_mem hj1)
      exact ⟨fun _ => ⟨a.1, b.2⟩, a.2⟩
    · have hje : j = es.length := by omega
      subst hje
      rw [List.getElem_append_right (Nat.le_refl _)]
      simp only [Nat.sub_self, List.getElem_cons_zero]
      exact ⟨fun hne => absurd rfl hne, hxy⟩
/-- the lent list stays where the book takes one more -/
theorem St.kept {w W W' : World} {B h ab : Nat} {Bf : Nat → Nat} {l : List OWt} {f : Nat → List OArm} {rv : Value} {n m : Nat} {vs ws : List (Value × List OPr)} (S : St w W B h ab Bf l f rv n vs) (hs : l.length + tot l ≤ 4000) (hK : Kept W W' B) (hb : ∃ vo vw es, es.length = m ∧ Bk W' B h vo vw 0 es ∧ Alone es ∧ (∀ e ∈ es, e.l.length ≤ 20000000) ∧ ∀ x ∈ ws, W'.ownsRow B 47 5 x.1 x.2.length (prsC x.2) ∧ ∀ e ∈ es, Apart x.1 e.x ∧ Apart x.1 e.y) : St w W' B h ab Bf l f rv m ws := by
  have hlo := S.lo
  have hwB := S.wB
  obtain ⟨us, u1, u2, u3⟩ := S.ln.us
  have hab : W'.heap[ab]? = some (.cells us 38 (0, 0)) := hK.block u1 hlo (by decide) (by decide) (by rw [u2]; unfold maxLen; omega)
  have hrow0 : (⟨36, 1, rv, l.length, rowC Bf (armsOf l) l.length⟩ : Row).ok W B := ⟨own_low S.row (by omega)⟩
  have hrow := (hK.rows _ hrow0 (show (36 : Nat) ≠ 28 by decide) (show (36 : Nat) ≠ 33 by decide)).own
  refine ⟨hb, ⟨⟨us, hab, u2, u3⟩, fun j hj => ?_, S.ln.lo, S.ln.ne, S.ln.ln⟩, own_up hrow (fun g hg => own_base S.row g hg), ?_, ?_, hlo, hwB⟩
  · have h1 := S.ln.lo j hj
    refine hK.block (S.ln.vs j hj) (by omega) (by decide) (by decide) ?_
    have h2 := S.ln.ln j hj
    have h3 := tot_le l j hj
    rw [List.size_toArray, List.length_append, armsC_len, h2]
    unfold maxLen
    simp [mkA]
    omega
  · rw [← S.mark]
    simp only [World.cell?, hab, u1]
  · exact S.old.trans (hK.old.mono hwB)
set_option maxHeartbeats 1000000 in
/-- a list that was handed out is laid by -/
theorem St.keep {w W : World} {B h ab : Nat} {Bf : Nat → Nat} {l : List OWt} {f : Nat → List OArm} {rv : Value} {n : Nat} {v u : Value} {zs : List OPr} (S : St w W B h ab Bf l f rv n [(u, zs), (v, zs)]) (hs : l.length + tot l ≤ 4000) (hz : zs.length ≤ 20000000) (hn : n < 40) :
    Calls Try.prog 9 #[.pointer (some ⟨h, 0, none⟩), v, u] W fun e W' => e = .returned (.bool true) ∧ St w W' B h ab Bf l f rv (n + 1) [] := by
  obtain ⟨vo, vw, es, h1, h2, h3, h4, h5⟩ := S.bk
  obtain ⟨ru, fu⟩ := h5 (u, zs) (by simp)
  obtain ⟨rw', fv⟩ := h5 (v, zs) (by simp)
  have ru' : W.ownsRow B 47 5 u (zs.map prQ).length (qsC (zs.map prQ)) := by rw [List.length_map, ← prsC_q]; exact ru
  have rv' : W.ownsRow B 47 5 v (zs.map prQ).length (qsC (zs.map prQ)) := by rw [List.length_map, ← prsC_q]; exact rw'
  refine (keep_any B h vo vw v u 0 es (zs.map prQ) W h2 rv' ru' (by rw [List.length_map]; omega) (by omega)).mono ?_
  rintro e W' ⟨rfl, vo', vw', m, hB, hK, hm⟩
  refine ⟨rfl, S.kept hs hK ⟨vo', vw', es ++ [⟨v, m, zs.map prQ⟩], by simp [h1], hB, h3.snoc fv (fun d hd => ⟨fun g h6 h7 => ?_, fun g h6 h7 => ?_⟩) (fun g h6 h7 => ?_), fun e he => ?_, fun x hx => by cases hx⟩⟩
  · have := hm g h6
    have := ((h2.rows d hd).1.own.lt g h7).2
    omega
  · have := hm g h6
    have := ((h2.rows d hd).2.own.lt g h7).2
    omega
  · have := hm g h7
    have := (rw'.lt g h6).2
    omega
  · rcases List.mem_append.1 he with he | he
    · exact h4 e he
    · have : e = ⟨v, m, zs.map prQ⟩ := by simpa using he
      subst this
      simpa using hz
/-- a list that may be asked for -/
structure Asks (w : World) (B h ab : Nat) (Bf : Nat → Nat) (l : List OWt) (f : Nat → List OArm) (rv : Value) (px : Option Addr) (cx k : Nat) (m : List OWt) : Prop where
  len : m.length = k
  rd : ∀ W n vs, St w W B h ab Bf l f rv n vs → ∃ Pr : Nat → Prop, (∀ b, Pr b → ∃ o : Obj, W.heap[b]? = some o ∧ o.isCells = true) ∧ WsIn W Pr px cx m
  sz : m.length + tot m ≤ 4000
theorem flat_tot (f : OWt → List OPr) (hf : ∀ Q, (f Q).length ≤ Q.arms.length) : ∀ l : List OWt, (l.flatMap f).length ≤ tot l
  | [] => by simp [tot]
  | Q :: r => by
    have := flat_tot f hf r
    have := hf Q
    rw [List.flatMap_cons, List.length_append, tot]
    omega
theorem oins_len (m : List OWt) (h : m.length + tot m ≤ 4000) : (oins m).length ≤ 20000000 := by
  unfold oins
  split
  · have := flat_tot (fun Q => ofm (gIn Q) 0 Q.arms) (fun Q => ofm_len (gIn Q) (fun j b => by unfold gIn; split <;> simp) _ _) m
    exact Nat.le_trans this (by omega)
  · simp
theorem oouts_len (m : List OWt) (h : m.length + tot m ≤ 4000) : (oouts m).length ≤ 20000000 := by
  unfold oouts
  split
  · have := flat_tot (fun Q => ofm (gOut Q) 0 Q.arms) (fun Q => ofm_len (gOut Q) (fun j b => by unfold gOut; split <;> simp) _ _) m
    exact Nat.le_trans this (by omega)
  · simp
section asks
variable {w W : World} {B h ab : Nat} {Bf : Nat → Nat} {l : List OWt} {f : Nat → List OArm} {rv : Value} {px : Option Addr} {cx k : Nat} {m : List OWt} {n : Nat} {vs : List (Value × List OPr)}
theorem Asks.pairs (A : Asks w B h ab Bf l f rv px cx k m) (S : St w W B h ab Bf l f rv n vs) : Calls Try.prog 10 #[.slice px k cx] W fun e W' => ∃ v, e = .returned v ∧ St w W' B h ab Bf l f rv n ((v, opairs m) :: vs) := by
  obtain ⟨Pr, hPr, hl⟩ := A.rd W n vs S
  rw [← A.len]
  have hsz := A.sz
  exact (Pairs_any W Pr hPr px cx m hl (opairs_len m (by omega)) (by have := spots_len prR m; omega)).mono (fun e W' hp => S.one hp)
theorem Asks.rpairs (A : Asks w B h ab Bf l f rv px cx k m) (S : St w W B h ab Bf l f rv n vs) : Calls Try.prog 11 #[.slice px k cx] W fun e W' => ∃ v, e = .returned v ∧ St w W' B h ab Bf l f rv n ((v, opairs m) :: vs) := by
  obtain ⟨Pr, hPr, hl⟩ := A.rd W n vs S
  rw [← A.len]
  have hsz := A.sz
  exact (rPairs_any W Pr hPr px cx m hl (opairs_len m (by omega))).mono (fun e W' hp => S.one hp)
theorem Asks.ins (A : Asks w B h ab Bf l f rv px cx k m) (S : St w W B h ab Bf l f rv n vs) : Calls Try.prog 12 #[.slice px k cx] W fun e W' => ∃ v, e = .returned v ∧ St w W' B h ab Bf l f rv n ((v, oins m) :: vs) := by
  obtain ⟨Pr, hPr, hl⟩ := A.rd W n vs S
  rw [← A.len]
  exact (Ins_any W Pr hPr px cx m hl (oins_len m A.sz)).mono (fun e W' hp => S.one hp)
theorem Asks.rins (A : Asks w B h ab Bf l f rv px cx k m) (S : St w W B h ab Bf l f rv n vs) : Calls Try.prog 13 #[.slice px k cx] W fun e W' => ∃ v, e = .returned v ∧ St w W' B h ab Bf l f rv n ((v, oins m) :: vs) := by
  obtain ⟨Pr, hPr, hl⟩ := A.rd W n vs S
  rw [← A.len]
  exact (rIns_any W Pr hPr px cx m hl (oins_len m A.sz)).mono (fun e W' hp => S.one hp)
theorem Asks.outs (A : Asks w B h ab Bf l f rv px cx k m) (S : St w W B h ab Bf l f rv n vs) : Calls Try.prog 14 #[.slice px k cx] W fun e W' => ∃ v, e = .returned v ∧ St w W' B h ab Bf l f rv n ((v, oouts m) :: vs) := by
  obtain ⟨Pr, hPr, hl⟩ := A.rd W n vs S
  rw [← A.len]
  exact (Outs_any W Pr hPr px cx m hl (oouts_len m A.sz)).mono (fun e W' hp => S.one hp)
theorem Asks.routs (A : Asks w B h ab Bf l f rv px cx k m) (S : St w W B h ab Bf l f rv n vs) : Calls Try.prog 15 #[.slice px k cx] W fun e W' => ∃ v, e = .returned v ∧ St w W' B h ab Bf l f rv n ((v, oouts m) :: vs) := by
  obtain ⟨Pr, hPr, hl⟩ := A.rd W n vs S
  rw [← A.len]
  exact (rOuts_any W Pr hPr px cx m hl (oouts_len m A.sz)).mono (fun e W' hp => S.one hp)
theorem St.spoil (S : St w W B h ab Bf l f rv n vs) (hn : n ≤ 40) : Calls Try.prog 17 #[.pointer (some ⟨h, 0, none⟩)] W fun e W' => e = .returned (.bool true) ∧ Below w.heap.size w W' := by
  obtain ⟨vo, vw, es, h1, h2, h3, h4, _⟩ := S.bk
  refine (spoil_any B h n vo vw es W h2 h3 h1 hn h4).mono ?_
  rintro e W' ⟨rfl, hS⟩
  exact ⟨rfl, S.old.trans (hS.old.mono S.wB)⟩
end asks
end Go.Proofs.Yteinpijbdgcehaa
