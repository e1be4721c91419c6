import Derived.Test.YtjabdhmkibahlaaCGV
import Derived.Test.YtjabdhmkibahlaaCGP
namespace Go.Proofs.Ytjabdhmkibahlaa
open Go.RowKit Go.MapKept Go.ChangeMaps Go.WideShapes
set_option linter.unusedVariables false
set_option linter.unusedSimpArgs false

theorem pre_right {α : Type} {a b b' c : List α} (h : a ++ b <+: c) (h' : b' <+: b) : a ++ b' <+: c := ((List.prefix_append_right_inj a).2 h').trans h
theorem pre_flat {α β : Type} (f : α → List β) (l : List α) (i : Nat) (h : i < l.length) : (l.take i).flatMap f ++ f l[i] <+: l.flatMap f := by
  refine ⟨(l.drop (i + 1)).flatMap f, ?_⟩
  have e : l = l.take i ++ l[i] :: l.drop (i + 1) := by rw [← List.drop_eq_getElem_cons h, List.take_append_drop]
  have e2 := congrArg (List.flatMap f) e
  rw [List.flatMap_append, List.flatMap_cons] at e2
  rw [List.append_assoc]
  exact e2.symm
theorem flat_take {α β : Type} (f : α → List β) (l : List α) (i : Nat) (h : i < l.length) : (l.take (i + 1)).flatMap f = (l.take i).flatMap f ++ f l[i] := by
  rw [List.take_succ_eq_append_getElem h, List.flatMap_append]
  simp
theorem map_pre {α β : Type} (f : α → β) (l : List α) (i : Nat) (h : i < l.length) : (l.take i).map f ++ [f l[i]] <+: l.map f := by
  have e : (l.take i).map f ++ [f l[i]] = (l.take (i + 1)).map f := by rw [List.take_succ_eq_append_getElem h, List.map_append]; rfl
  rw [e]
  exact ⟨(l.drop (i + 1)).map f, by rw [← List.map_append, List.take_append_drop]⟩
/-- the out row, in a later world -/
def LkRow (w2 W : World) (v : Value) (l : List Lk) : Prop := W.ownsRow w2.heap.size 24 3 v l.length (lksC l) ∧ Below w2.heap.size w2 W
/-- all stays but rows of links -/
structure KL (A X : World) : Prop where
  size : A.heap.size ≤ X.heap.size
  keep : ∀ (b : Nat) (o : Obj), A.heap[b]? = some o → (∀ us fr, o ≠ Obj.cells us 24 fr) → X.heap[b]? = some o
theorem KL.refl (A : World) : KL A A := ⟨Nat.le_refl _, fun _ _ h _ => h⟩
theorem KL.trans {A B C : World} (h : KL A B) (k : KL B C) : KL A C := ⟨Nat.le_trans h.size k.size, fun b o h1 h2 => k.keep b o (h.keep b o h1 h2) h2⟩
theorem KL.below {A B : World} (h : Below A.heap.size A B) : KL A B := ⟨h.size, fun b o h1 _ => (h.block b (Array.getElem?_eq_some_iff.1 h1).1).trans h1⟩
theorem KL.cells {A X : World} (h : KL A X) {b : Nat} {us : Array Value} {t : TypeId} {fr : Nat × Nat} (hb : A.heap[b]? = some (.cells us t fr)) (ht : t ≠ 24) : X.heap[b]? = some (.cells us t fr) := h.keep b _ hb (fun us' fr' e => by cases e; exact ht rfl)
theorem KL.map {A X : World} (h : KL A X) {mb n : Nat} {z : Value} {M : Int → Value} {hs : Int → Bool} (hm : MpI A mb n z M hs) : MpI X mb n z M hs := by
  obtain ⟨D, ⟨es, clock, h0, h3⟩, h2⟩ := hm.ex
  exact hm.same ((h.keep mb _ h0 (fun us fr e => by cases e)).trans h0.symm)
theorem KL.grown {A B : World} {B0 : Nat} {u : Value} {n : Nat} {cs : List Value} (ho : A.ownsRow B0 24 3 u n cs) (hg : A.grownBy B u.ownBlock) : KL A B := by
  refine ⟨hg.size, fun b o h1 h2 => (hg.block b (Array.getElem?_eq_some_iff.1 h1).1 (fun e => ?_)).trans h1⟩
  rcases ho.2 with ⟨x1, _⟩ | ⟨g, cap, cur, x1, _, x3, _⟩
  · rw [x1] at e; cases e
  · rw [x1] at e
    cases e
    rw [h1] at x3
    injection x3 with x3
    exact h2 _ _ x3
/-- numbers of one's own, to be read in every later world -/
theorem ints_of {W : World} {B : Nat} {v : Value} {L : List Int} (h : W.ownsRow B 3 1 v L.length (rowC L)) : ∃ sp sc, v = .slice sp L.length sc ∧ L.length ≤ sc ∧ ∀ j (hj : j < L.length), ∃ b, sp = some ⟨b, 0, none⟩ ∧ ∀ X, KL W X → X.cell? ⟨b, j, none⟩ = some (.int .i64 L[j]) := by
  have h' := h
  rcases h.2 with ⟨x1, x2⟩ | ⟨g, cap, cur, x1, x2, x3, x4, x5, x6, x7⟩
  · exact ⟨none, 0, by rw [x1, x2], by omega, fun j hj => by omega⟩
  · refine ⟨_, cap, x1, x4, fun j hj => ⟨g, rfl, fun X hX => ?_⟩⟩
    rw [x1] at h'
    have h5 := h'.cellAt j (by omega)
    have hk := hX.cells x3 (by decide)
    rw [show X.cell? ⟨g, j, none⟩ = W.cell? ⟨g, j, none⟩ by simp only [World.cell?, hk, x3]]
    refine h5.trans ?_
    simp [rowC, hj]

theorem who_at {s : List Ag} (hok : stOk s = true) (i : Nat) (h : i < s.length) : whoI s s[i].id = s[i] := by
  have h2 : (s.map (·.id)).Pairwise (· < ·) := by
    have := hok
    unfold stOk at this
    rw [Bool.and_eq_true] at this
    exact (ags_lt s _ this.2).2
  have key : ∀ (s : List Ag) (g : Int → Ag), (s.map (·.id)).Pairwise (· < ·) → ∀ a ∈ s, s.foldl (fun f a => upd f a.id a) g a.id = a := by
    intro s
    induction s with
    | nil => intro g _ a ha; cases ha
    | cons b r ih =>
      intro g hp a ha
      rw [List.map_cons, List.pairwise_cons] at hp
      rw [List.foldl_cons]
      rcases List.mem_cons.1 ha with rfl | ha
      · have hout : ∀ (r : List Ag) (g : Int → Ag) (k : Int), (∀ b ∈ r, b.id ≠ k) → r.foldl (fun f a => upd f a.id a) g k = g k := by
          intro r
          induction r with
          | nil => intro g k _; rfl
          | cons c r ih2 =>
            intro g k hk
            rw [List.foldl_cons, ih2 _ _ (fun b hb => hk b (List.mem_cons_of_mem _ hb)), upd_other _ _ (fun e => hk c List.mem_cons_self e.symm)]
        rw [hout r _ _ (fun b hb e => by
          have := hp.1 b.id (List.mem_map.2 ⟨b, hb, rfl⟩)
          omega), upd_same]
      · exact ih _ hp.2 a ha
  exact key s who0 h2 _ (List.getElem_mem h)
/-- what stands behind the channels of one that waits -/
theorem lk7 {w w3 w5 w6 w7 : World} {g m2 n2 : Nat} {a : Ag} {ap hp : Option Addr} {ac hc : Nat} {u v7 : Value} {ys : List Lk} {L : List Int} (hA : AgR w a ap ac hp hc) (hok : agOk a = true) (e6 : w6 = w5.alloc (.cells #[.map (some m2)] 65)) (hm : MpI w5 m2 n2 (stV st0) (fun c => stV (waitI a.arms c)) (onI a.arms)) (hr : LkRow w3 w5 u ys) (hk : w5.heap[g]? = some (.cells #[.int .i64 a.id, .bool a.awake, .slice ap a.arms.length ac, .slice hp a.held.length hc] 53 (0, 0)))
    (ho : w7.ownsRow w6.heap.size 3 1 v7 L.length (rowC L)) (hL1 : L.Pairwise (· < ·)) (hL2 : ∀ k, k ∈ L ↔ I64 k ∧ onI a.arms k = true) (hb7 : Below w6.heap.size w6 w7) :
    L = chI a ∧ ∃ sp sc, v7 = .slice sp L.length sc ∧ L.length ≤ sc ∧ Bx (∀ j (hj : j < L.length), ∃ b, sp = some ⟨b, 0, none⟩ ∧ ∀ X, KL w7 X → X.cell? ⟨b, j, none⟩ = some (.int .i64 L[j])) ∧ Bx (LkRow w3 w7 u ys) ∧ Bx (MpI w7 m2 n2 (stV st0) (fun c => stV (waitI a.arms c)) (onI a.arms)) ∧ Bx (w7.heap[g]? = some (.cells #[.int .i64 a.id, .bool a.awake, .slice ap a.arms.length ac, .slice hp a.held.length hc] 53 (0, 0))) := by
  have hb56 : Below w5.heap.size w5 w6 := by rw [e6]; exact below1 _ _
  have hb57 : Below w5.heap.size w5 w7 := hb56.trans (hb7.mono hb56.size)
  obtain ⟨sp, sc, e1, e2, e3⟩ := ints_of ho
  exact ⟨chI_eq hok (fun c hc => on_64 hA.arms hc) hL1 hL2, sp, sc, e1, e2, ⟨e3⟩, ⟨own_new hr.1 hb57, hr.2.trans (hb57.mono hr.2.size)⟩, ⟨hm.below hb57⟩, ⟨(hb57.block g (Array.getElem?_eq_some_iff.1 hk).1).trans hk⟩⟩
theorem who_none {s : List Ag} (hok : stOk s = true) (k : Int) : (whoI s k).awake = true → ∀ c, onI (whoI s k).arms c = false := by
  have := hok
  unfold stOk at this
  rw [Bool.and_eq_true] at this
  refine whoI_all (fun a => a.awake = true → ∀ c, onI a.arms c = false) (fun k => ?_) s (fun a ha haw c => awake_none (ags_all s _ this.2 a ha) haw c) k
  unfold who0
  split
  · intro h; cases h
  · intro h; cases h
theorem keys_64 {w : World} {p : Option Addr} {c : Nat} {s : List Ag} (h : AgsR w p c s) : ∀ k ∈ keyL s, I64 k := fun k hk => by
  rcases List.mem_cons.1 hk with rfl | hk
  · exact ⟨by omega, by omega⟩
  · obtain ⟨a, ha, rfl⟩ := List.mem_map.1 hk
    obtain ⟨i, hi, rfl⟩ := List.mem_iff_getElem.1 ha
    obtain ⟨_, _, _, _, _, _, _, h1, _⟩ := h.at_ i hi
    exact h1.id
/-- all that the call of wakers asks for -/
theorem lk_wk {w2 w3 w7 wr : World} {s : List Ag} {a : Ag} {cc : Int} {wb N m2 n2 g : Nat} {C : Int → Option Nat} {V : Int → Stc → Value} {ids : Int → Stc → List Int} {own : Nat → Option Lb} {ap hp : Option Addr} {ac hc : Nat} (hok : stOk s = true) (hf : ∀ k, (whoI s k).awake = true → ∀ c, onI (whoI s k).arms c = false) (hwi : whoI s a.id = a) (hki : hasI s a.id = true) (hid64 : I64 a.id) (hcr : CrI w3 w2.heap.size wb N C V ids own) (hcz : Cz (whoI s) (hasI s) C ids) (hb : Below w3.heap.size w3 wr) (hkl : KL w7 wr) (hm : MpI w7 m2 n2 (stV st0) (fun c => stV (waitI a.arms c)) (onI a.arms)) (hk : w7.heap[g]? = some (.cells #[.int .i64 a.id, .bool a.awake, .slice ap a.arms.length ac, .slice hp a.held.length hc] 53 (0, 0))) (h64 : I64 cc) (hon : onI a.arms cc = true) (hks : ∀ k ∈ keyL s, I64 k) :
    ∃ cb, (Instr.lookup 63 (.map (some wb)) (.int .i64 cc) false).run Try.prog wr = .ok (.map (some cb)) wr ∧ (Instr.lookup 65 (.map (some m2)) (.int .i64 cc) false).run Try.prog wr = .ok (stV (waitI a.arms cc)) wr ∧ wr.cell? ⟨g, 0, none⟩ = some (.int .i64 a.id) ∧
      Bx (Calls Try.prog 42 #[.map (some cb), stV (waitI a.arms cc), .int .i64 a.id] wr fun e w' => ∃ v L, e = .returned v ∧ w'.ownsRow wr.heap.size 3 1 v L.length (rowC L) ∧ L = wkI (whoI s) (keyL s) a cc ∧ Below wr.heap.size wr w') := by
  have hC : C cc ≠ none := (hcz.has cc).2 ⟨a.id, ⟨hki, hid64⟩, by rw [hwi]; exact hon⟩
  have hcW := hcr.below hb
  have hl1 := hcW.map.look Try.underlying63 Try.zeroValue75 h64
  cases hcc : C cc with
  | none => exact absurd hcc hC
  | some cb =>
    simp only [hcc] at hl1
    have hl2 := (hkl.map hm).look Try.underlying65 Try.zeroValue72 h64
    obtain ⟨hS, hmS, hnon⟩ := hcW.cr cc cb hcc
    have hlen : ∀ t, (ids cc t).length ≤ 100000 := fun t => by
      have h1 := nod_len (hcz.nod cc t) (ks := keyL s) (fun x hx => (hasI_mem s x).1 ((hcz.mem cc t x).1 hx).1.1)
      have h2 := st_len hok
      simp [keyL] at h1
      omega
    have hcw : CwR wr cb N (V cc) hS (ids cc) := ⟨hmS, hnon, fun t => ⟨_, hcW.row cc t hC⟩, fun t u k h1 h2 => ?_, hcz.nod cc, hlen⟩
    · refine ⟨cb, hl1, hl2, cell_of (hkl.cells hk (by decide)) rfl, ⟨(wakers_any wr cb N (V cc) hS (ids cc) (waitI a.arms cc) a.id hcw).mono ?_⟩⟩
      rintro e w' ⟨v, L, rfl, h1, h2, h3, h4, h5⟩
      exact ⟨v, L, rfl, h1, wkI_eq hok hf hks hcz hC h2 h3 h4, h5⟩
    · have e1 := ((hcz.mem cc t k).1 h1).2
      have e2 := ((hcz.mem cc u k).1 h2).2
      rcases e1 with ⟨x1, rfl⟩ | ⟨rfl, x1, _⟩
      · rcases e2 with ⟨y1, rfl⟩ | ⟨rfl, y1, _⟩
        · rfl
        · rw [hf k y1 cc] at x1; cases x1
      · rcases e2 with ⟨y1, rfl⟩ | ⟨rfl, y1, _⟩
        · rw [hf k x1 cc] at y1; cases y1
        · rfl
theorem lk_app {w3 w8 wz w9 : World} {u : Value} {yz : List Lk} {x : Lk} {g cap : Nat} (ho : wz.ownsRow w3.heap.size 24 3 u yz.length (lksC yz)) (hb : Below w3.heap.size w3 wz) (hk : KL w8 wz) (hown : w9.ownsRow w3.heap.size 24 3 (.slice (some ⟨g, 0, none⟩) (yz.length + 1) cap) (yz.length + 1) (lksC yz ++ lkC x)) (hgr : (wz.alloc (.cells (lkC x).toArray 24)).grownBy w9 u.ownBlock) :
    Bx (LkRow w3 w9 (.slice (some ⟨g, 0, none⟩) (yz.length + 1) cap) (yz ++ [x]) ∧ KL w8 w9) := by
  have hb1 := below1 wz (.cells (lkC x).toArray 24)
  have hbX := hb.trans (hb1.mono hb.size)
  refine ⟨⟨?_, hbX.grown hgr hbX.size (fun r e => own_base ho r e)⟩, hk.trans ((KL.below hb1).trans (KL.grown (own_new ho hb1) hgr))⟩
  rw [lksC_snoc, List.length_append]
  exact hown
set_option maxRecDepth 100000 in
set_option maxHeartbeats 16000000 in
theorem Links_yes (w : World) (p : Option Addr) (c : Nat) (s : List Ag) (h : AgsR w p c s) (hz : Few s) (hok : stOk s = true) (hB : (linksI s).length ≤ 5000000000000) :
    Calls Try.prog 11 #[.slice p s.length c] w fun e w' => ∃ v, e = .returned v ∧ w'.ownsRow w.heap.size 24 3 v (linksI s).length (lksC (linksI s)) ∧ Below w.heap.size w w' := by
  obtain ⟨i0, hi, iz0, iz1, iz2⟩ := info_parts infoL
  have hlc := h.len
  have hcm := h.max
  unfold maxLen at hcm
  have hck : chkI s = 0 := by simp [chkI, hok]
  have hs4 := st_len hok
  have HE : Bx (linksI s = s.flatMap (lkA (whoI s) (keyL s))) := ⟨by unfold linksI; rw [if_pos hok]⟩
  have HS : Bx (AgsR w p c s) := ⟨h⟩
  have HZ : Bx (Few s) := ⟨hz⟩
  have HK : Bx (Calls Try.prog 9 #[.slice p s.length c] w fun e w' => e = .returned (.int .i64 0) ∧ Below w.heap.size w w') := ⟨by have := Check_any w p c s h hz; rw [hck] at this; exact this⟩
  have HFI : Bx (∀ {w1 : World} {M : Int → Value}, WhoV w1 (whoI s) M → Fine (whoI s) (hasI s) (keyL s)) := ⟨fun {w1 M} hv => by
    have hwo := who_ok hok hz
    refine ⟨fun k hk => (hasI_mem s k).1 hk, by simp [keyL]; omega, fun k => ?_, hwo.len, fun k haw => ris_lt _ _ (hwo.ris k haw)⟩
    refine whoI_all (fun a => a.arms.length ≤ 2147483647) (fun k => ?_) s (fun a ha => (hz a ha).2) k
    unfold who0
    split <;> simp [wA, zA]⟩
  clear h hz hck
  go_enter Try.func11, Try.ntmps11
  go_wp2_with (first
    | (go_at_call 9; refine Calls.mono HK.out ?_; rintro e w1 ⟨rfl, hb1⟩; have B1 : Bx _ := ⟨hb1⟩; clear hb1)
    | (go_at_call 37; refine Calls.mono (byId_any w1 p c s (HS.out.later B1.out) hs4) ?_; rintro e w2 ⟨mb, nW, M, rfl, hm, hv, hn, _, hb2⟩; have I2 : Bx (MpI w2 mb nW zV M (hasI s) ∧ WhoV w2 (whoI s) M ∧ nW ≤ 4097 ∧ Below w.heap.size w w2) := ⟨hm, hv, (by omega), B1.out.trans (hb2.mono B1.out.size)⟩; clear hm hv hn hb2)
    | (go_at_call 38; refine Calls.mono (byChannel_any w2 mb nW M (hasI s) (whoI s) (keyL s) I2.out.1 I2.out.2.1 I2.out.2.2.1 (HFI.out I2.out.2.1)) ?_; rintro e w3 ⟨wb, N, C, V, ids, own, rfl, hcr, hb3, hcz⟩; have I3 : Bx (CrI w3 w2.heap.size wb N C V ids own ∧ Cz (whoI s) (hasI s) C ids ∧ Below w.heap.size w w3) := ⟨hcr, hcz, I2.out.2.2.2.trans (hb3.mono I2.out.2.2.2.size)⟩; clear hcr hb3 hcz))
  clear HK
  go_loopg [3, 20] (s.length + 1) (fun g v3 v20 wr => ∃ i : Nat, g = s.length + 1 - i ∧ i ≤ s.length ∧ v20 = .int .i64 i ∧ Bx (LkRow w3 wr v3 ((s.take i).flatMap (lkA (whoI s) (keyL s)))))
  case atStart => exact ⟨0, by simp, by omega, rfl, ⟨⟨rfl, .inl ⟨rfl, rfl⟩⟩, Below.refl _ _⟩⟩
  case round =>
    obtain ⟨i, hg, hil, rfl, HR⟩ := hrel
    by_cases hlt : i < s.length
    · obtain ⟨b, o, ap, ac, hp, hc, rfl, hA, hcl⟩ := HS.out.at_ i hlt
      have hbw : Below w.heap.size w wr := I3.out.2.2.trans (HR.out.2.mono I3.out.2.2.size)
      obtain ⟨c0, c1, c2, c3⟩ := hcl wr hbw
      have hao : agOk s[i] = true := by
        have := hok
        unfold stOk at this
        rw [Bool.and_eq_true] at this
        exact ags_all s _ this.2 _ (List.getElem_mem hlt)
      have hfi := (HZ.out s[i] (List.getElem_mem hlt))
      have hki : hasI s s[i].id = true := (hasI_mem s _).2 (List.mem_cons_of_mem _ (List.mem_map.2 ⟨_, List.getElem_mem hlt, rfl⟩))
      have hwi : whoI s s[i].id = s[i] := who_at hok i hlt
      have HAG : Bx (AgR w s[i] ap ac hp hc ∧ agOk s[i] = true ∧ hasI s s[i].id = true ∧ whoI s s[i].id = s[i]) := ⟨hA, hao, hki, hwi⟩
      have HPRE : Bx ((s.take i).flatMap (lkA (whoI s) (keyL s)) ++ lkA (whoI s) (keyL s) s[i] <+: s.flatMap (lkA (whoI s) (keyL s))) := ⟨pre_flat _ s i hlt⟩
      have HTK : Bx ((s.take (i + 1)).flatMap (lkA (whoI s) (keyL s)) = (s.take i).flatMap (lkA (whoI s) (keyL s)) ++ lkA (whoI s) (keyL s) s[i]) := ⟨flat_take _ s i hlt⟩
      clear hcl hA hao hki hwi
      generalize s[i] = a at *
      generalize (s.take i).flatMap (lkA (whoI s) (keyL s)) = ys at *
      obtain ⟨Y, hY⟩ : ∃ Y, wr.alloc (.cells #[.int .i64 a.id, .bool a.awake, .slice ap a.arms.length ac, .slice hp a.held.length hc] 53) = Y := ⟨_, rfl⟩
      have hbY : Below wr.heap.size wr Y := by rw [← hY]; exact below1 _ _
      have hkY : Y.heap[wr.heap.size]? = some (.cells #[.int .i64 a.id, .bool a.awake, .slice ap a.arms.length ac, .slice hp a.held.length hc] 53 (0, 0)) := by rw [← hY]; exact World.alloc_heap_new _ _
      have d0 : Y.cell? ⟨wr.heap.size, 0, none⟩ = some (.int .i64 a.id) := cell_of hkY rfl
      have d1 : Y.cell? ⟨wr.heap.size, 1, none⟩ = some (.bool a.awake) := cell_of hkY rfl
      have d2 : Y.cell? ⟨wr.heap.size, 2, none⟩ = some (.slice ap a.arms.length ac) := cell_of hkY rfl
      have d3 : Y.cell? ⟨wr.heap.size, 3, none⟩ = some (.slice hp a.held.length hc) := cell_of hkY rfl
      have HWT : Bx (Calls Try.prog 39 #[.agg #[.int .i64 a.id, .bool a.awake, .slice ap a.arms.length ac, .slice hp a.held.length hc]] Y (WtPost Y a.arms)) := ⟨waiting_any Y a ap hp ac hc (HAG.out.1.later (hbw.trans (hbY.mono hbw.size)))⟩
      have HYE : Bx (_ = Y) := ⟨hY⟩
      have HYB : Bx (LkRow w3 Y u3 ys ∧ Y.heap[wr.heap.size]? = some (.cells #[.int .i64 a.id, .bool a.awake, .slice ap a.arms.length ac, .slice hp a.held.length hc] 53 (0, 0))) := ⟨⟨own_new HR.out.1 hbY, HR.out.2.trans (hbY.mono HR.out.2.size)⟩, hkY⟩
      rw [← hY] at d0 d1 d2 d3
      clear hY hbY hkY hbw HR
      go_wp2_with (first
        | (go_at_call 39; rw [HYE.out]; refine Calls.mono HWT.out ?_; rintro e w5 ⟨m2, n2, rfl, hmp, hn2, _, hb5⟩; have I5 : Bx (MpI w5 m2 n2 (stV st0) (fun c => stV (waitI a.arms c)) (onI a.arms) ∧ n2 ≤ a.arms.length ∧ LkRow w3 w5 u3 ys ∧ w5.heap[wr.heap.size]? = some (.cells #[.int .i64 a.id, .bool a.awake, .slice ap a.arms.length ac, .slice hp a.held.length hc] 53 (0, 0))) := ⟨hmp, hn2, ⟨own_new HYB.out.1.1 hb5, HYB.out.1.2.trans (hb5.mono HYB.out.1.2.size)⟩, (hb5.block _ (Array.getElem?_eq_some_iff.1 HYB.out.2).1).trans HYB.out.2⟩; clear hmp hn2 hb5 d0 d1 d2 d3)
        | (go_at_call 41; refine Calls.mono (keys_any m2 w5) ?_; rintro e w6 ⟨rfl, hw6⟩; have E6 : Bx _ := ⟨hw6⟩; clear hw6)
        | (go_at_call 40; refine Calls.mono (sorted_any w5 m2 n2 _ _ _ I5.out.1 (by have := I5.out.2.1; omega) w6 E6.out) ?_; rintro e w7 ⟨v7, L, rfl, ho7, hL1, hL2, hL3, hb7⟩; have I7 := lk7 HAG.out.1 HAG.out.2.1 E6.out I5.out.1 I5.out.2.2.1 I5.out.2.2.2 ho7 hL1 hL2 hb7; obtain ⟨rfl, sp, sc, rfl, hsc, HL, R7, M7, K7⟩ := I7; have hLn : (chI a).length ≤ 2147483647 := (by have := I5.out.2.1; omega); clear ho7 hL1 hL2 hL3 hb7))
      have HCA : Bx (chI a = chI a) := ⟨rfl⟩
      obtain ⟨Lc, hLc⟩ : ∃ Lc, chI a = Lc := ⟨_, rfl⟩
      have HLA : Bx (lkA (whoI s) (keyL s) a = Lc.flatMap fun c => (wkI (whoI s) (keyL s) a c).map fun k => ⟨k, a.id, c⟩) := ⟨by unfold lkA; rw [hLc]⟩
      have HLM : Bx (∀ c ∈ Lc, I64 c ∧ onI a.arms c = true) := ⟨fun c hc => by
        rw [← hLc] at hc
        have := (List.mem_filter.1 hc).2
        exact ⟨on_64 HAG.out.1.arms this, this⟩⟩
      rw [hLc] at HL hsc hLn ⊢
      clear HWT HYB HYE I5 E6 hLc HCA
      go_wp2
      go_loopg [3, 30] (Lc.length + 1) (fun g v3 v30 wq => ∃ j : Nat, g = Lc.length + 1 - j ∧ j ≤ Lc.length ∧ v30 = .int .i64 j ∧ Bx (LkRow w3 wq v3 (ys ++ (Lc.take j).flatMap fun c => (wkI (whoI s) (keyL s) a c).map fun k => ⟨k, a.id, c⟩) ∧ KL w7 wq))
      case atStart => exact ⟨0, by simp, by omega, rfl, ⟨by simpa using R7.out, KL.refl _⟩⟩
      case round =>
        obtain ⟨j, hgj, hjl, rfl, HQ⟩ := hrel
        clear R7
        by_cases hjt : j < Lc.length
        · obtain ⟨lb, rfl, hlcell⟩ := HL.out j hjt
          obtain ⟨wq, rfl⟩ : ∃ X, X = wr := ⟨_, rfl⟩
          have x0 := hlcell _ HQ.out.2
          obtain ⟨h64c, honc⟩ := HLM.out Lc[j] (List.getElem_mem hjt)
          have HP2 : Bx (ys ++ (((Lc.take j).flatMap fun c => (wkI (whoI s) (keyL s) a c).map fun k => (⟨k, a.id, c⟩ : Lk)) ++ (wkI (whoI s) (keyL s) a Lc[j]).map fun k => ⟨k, a.id, Lc[j]⟩) <+: s.flatMap (lkA (whoI s) (keyL s))) := ⟨by
            have := HPRE.out
            rw [HLA.out] at this
            exact pre_right this (pre_flat _ Lc j hjt)⟩
          have HT2 : Bx (((Lc.take (j + 1)).flatMap fun c => (wkI (whoI s) (keyL s) a c).map fun k => (⟨k, a.id, c⟩ : Lk)) = ((Lc.take j).flatMap fun c => (wkI (whoI s) (keyL s) a c).map fun k => (⟨k, a.id, c⟩ : Lk)) ++ (wkI (whoI s) (keyL s) a Lc[j]).map fun k => ⟨k, a.id, Lc[j]⟩) := ⟨flat_take _ Lc j hjt⟩
          rw [← List.append_assoc] at HP2
          clear hlcell
          generalize Lc[j] = cc at *
          generalize ((Lc.take j).flatMap fun c => (wkI (whoI s) (keyL s) a c).map fun k => (⟨k, a.id, c⟩ : Lk)) = y2 at *
          obtain ⟨cb, hlk1, hlk2, hid, HWK⟩ := lk_wk (wr := wq) hok (fun k => who_none hok k) HAG.out.2.2.2 HAG.out.2.2.1 HAG.out.1.id I3.out.1 I3.out.2.1 HQ.out.1.2 HQ.out.2 M7.out K7.out h64c honc (keys_64 HS.out)
          have hid0 := hid
          go_wp2_with (first
            | (go_at_call 42; refine Calls.mono HWK.out ?_; rintro e w8 ⟨v8, L2, rfl, ho8, hL2, hb8⟩; obtain ⟨sp8, sc8, rfl, hsc8, hL8⟩ := ints_of ho8; have HL8 : Bx _ := ⟨hL8⟩; have HE8 : Bx (L2 = wkI (whoI s) (keyL s) a cc) := ⟨hL2⟩; have I8 : Bx (LkRow w3 w8 u3 (ys ++ y2) ∧ KL w7 w8) := ⟨⟨own_new HQ.out.1.1 hb8, HQ.out.1.2.trans (hb8.mono HQ.out.1.2.size)⟩, HQ.out.2.trans (KL.below hb8)⟩; clear ho8 hb8 hL8 hL2 hid hid0))
          have hL2n : L2.length ≤ 4097 := by
            rw [HE8.out]
            have h1 := List.length_filter_le (fun k => k != a.id && (standI (whoI s k) cc).wakes (waitI a.arms cc)) (keyL s)
            have h2 : (keyL s).length = s.length + 1 := by simp [keyL]
            unfold wkI
            omega
          rw [← HE8.out] at HP2 HT2
          obtain ⟨yy, hyy⟩ : ∃ yy, ys ++ y2 = yy := ⟨_, rfl⟩
          rw [hyy] at I8 HP2
          clear HQ HWK HE8 hlk1 hlk2
          go_loopg [3, 44] (L2.length + 1) (fun g v3 v44 wz => ∃ q : Nat, g = L2.length + 1 - q ∧ q ≤ L2.length ∧ v44 = .int .i64 q ∧ Bx (LkRow w3 wz v3 (yy ++ (L2.take q).map fun k => ⟨k, a.id, cc⟩) ∧ KL w8 wz))
          case atStart => exact ⟨0, by simp, by omega, rfl, ⟨by simpa using I8.out.1, KL.refl _⟩⟩
          case round =>
            obtain ⟨q, hgq, hql, rfl, HV⟩ := hrel
            have HKL := I8.out.2.trans HV.out.2
            by_cases hqt : q < L2.length
            · obtain ⟨lb8, rfl, hlc8⟩ := HL8.out q hqt
              obtain ⟨wz, rfl⟩ : ∃ X, X = wr := ⟨_, rfl⟩
              have x1 := hlc8 _ HV.out.2
              have x2 := cell_of (HKL.cells K7.out (by decide)) (j := 0) (v := .int .i64 a.id) rfl
              have HP3 : Bx (yy ++ (((L2.take q).map fun k => (⟨k, a.id, cc⟩ : Lk)) ++ [⟨L2[q], a.id, cc⟩]) <+: s.flatMap (lkA (whoI s) (keyL s))) := ⟨pre_right HP2.out (map_pre _ L2 q hqt)⟩
              have HT3 : Bx (((L2.take (q + 1)).map fun k => (⟨k, a.id, cc⟩ : Lk)) = ((L2.take q).map fun k => (⟨k, a.id, cc⟩ : Lk)) ++ [⟨L2[q], a.id, cc⟩]) := ⟨by rw [List.take_succ_eq_append_getElem hqt, List.map_append]; rfl⟩
              rw [← List.append_assoc] at HP3
              have HO : Bx _ := ⟨HV.out.1.1⟩
              have hBz : w3.heap.size ≤ wz.heap.size := HV.out.1.2.size
              obtain ⟨yz, hyz⟩ : ∃ yz, yy ++ ((L2.take q).map fun k => (⟨k, a.id, cc⟩ : Lk)) = yz := ⟨_, rfl⟩
              rw [hyz] at HO HP3
              have hyl : yz.length ≤ 5000000000000 := by
                have h1 := HP3.out.length_le
                rw [← HE.out] at h1
                rw [List.length_append] at h1
                omega
              clear hlc8 HP2
              generalize L2[q] = kk at *
              go_wp2_with (first | (at_builtin; refine wpList_app _ rfl (.tmp 48) (.tmp 54) 36 rfl w3.heap.size 24 i0 (.agg #[.int .i64 0, .int .i64 0, .int .i64 0]) 3 24 Try.underlying36 hi iz0 iz1 iz2 rfl (by decide) u3 yz.length (lksC yz) rfl (own_new HO.out (below1 _ _)) ⟨wz.heap.size, 0, none⟩ 1 1 (lkC ⟨kk, a.id, cc⟩) rfl rfl (block_cells _ _ _ 24 (World.alloc_heap_new _ _)) (by simp [Value.oneCell', lkC]) (by decide) (by unfold maxLen; omega) (by omega) (by simp; omega) (wz.heap.size + 1) (by simp) ?_; intro gg gcap w9 hown9 hgrow9 hgi9 hgl9; have HN : Bx (LkRow w3 w9 (.slice (some ⟨gg, 0, none⟩) (yz.length + 1) gcap) (yz ++ [⟨kk, a.id, cc⟩]) ∧ KL w8 w9) := lk_app HO.out HV.out.1.2 HV.out.2 hown9 hgrow9; clear hown9 hgrow9 hgi9))
              go_roundg (L2.length + 1 - (q + 1))
              case measure => omega
              case rel => exact ⟨q + 1, rfl, by omega, by simp, ⟨by rw [HT3.out, ← List.append_assoc, hyz]; exact HN.out.1, HN.out.2⟩⟩
            · have hqe : q = L2.length := by omega
              subst hqe
              rw [List.take_length] at HV
              have HF : Bx (LkRow w3 wr u3 (ys ++ (Lc.take (j + 1)).flatMap fun c => (wkI (whoI s) (keyL s) a c).map fun k => ⟨k, a.id, c⟩) ∧ KL w7 wr) := ⟨by rw [HT2.out, ← List.append_assoc, hyy]; exact HV.out.1, HKL⟩
              clear HV
              go_wp2
              go_roundg (Lc.length + 1 - (j + 1))
              case measure => omega
              case rel => exact ⟨j + 1, rfl, by omega, by simp, HF⟩
        · have hje : j = Lc.length := by omega
          subst hje
          rw [List.take_length] at HQ
          have HF : Bx (LkRow w3 wr u3 ((s.take (i + 1)).flatMap (lkA (whoI s) (keyL s)))) := ⟨by rw [HTK.out, HLA.out]; exact HQ.out.1⟩
          clear HQ
          go_wp2
          go_roundg (s.length + 1 - (i + 1))
          case measure => omega
          case rel => exact ⟨i + 1, rfl, by omega, by simp, HF⟩
    · have hie : i = s.length := by omega
      subst hie
      rw [List.take_length] at HR
      go_wp2
      go_ret
      exact ⟨_, rfl, by rw [HE.out]; exact own_low HR.out.1 I3.out.2.2.size, I3.out.2.2.trans (HR.out.2.mono I3.out.2.2.size)⟩
end Go.Proofs.Ytjabdhmkibahlaa
namespace Go.Proofs.Ytjabdhmkibahlaa
set_option linter.unusedVariables false
set_option linter.unusedSimpArgs false

def wldI (h : Hd) : Bool := h.chan == 1 && !h.send || h.chan == 2 && h.send
def Meets (s : List Ag) (i : Nat) (h : Hd) (k : Nat) : Prop := ∃ hk : k < s.length, k ≠ i ∧ ((s[k].awake = true ∧ h.chan ∈ s[k].held) ∨ ∃ b ∈ s[k].arms, b.chan = h.chan ∧ b.send = !h.send)
/-- one arm has somebody at its other end -/
def GoodA (s : List Ag) (i : Nat) (h : Hd) : Prop := h.chan ≠ 0 ∧ (wldI h = true ∨ ∃ k, Meets s i h k)
def Good (s : List Ag) (i : Nat) : Prop := ∃ hi : i < s.length, ∃ h ∈ s[i].arms, GoodA s i h
theorem wld_1 (b : Bool) : wldI ⟨1, b⟩ = !b := by cases b <;> rfl
theorem wld_2 (b : Bool) : wldI ⟨2, b⟩ = b := by cases b <;> rfl
theorem wld_no {c : Int} (h1 : (c == 1) = false) (h2 : (c == 2) = false) (b : Bool) : wldI ⟨c, b⟩ = false := by unfold wldI; simp only [h1, h2, Bool.false_and, Bool.or_false]
/-- what 'any' says: there is one, or what was looked at had none -/
structure AnyI (G P : Prop) (x : Bool) : Prop where
  yes : x = true → G
  no : x = false → P
theorem AnyI.to {G P Q : Prop} {x : Bool} (h : AnyI G P x) (f : P → Q) : AnyI G Q x := ⟨h.yes, fun e => f (h.no e)⟩
end Go.Proofs.Ytjabdhmkibahlaa
