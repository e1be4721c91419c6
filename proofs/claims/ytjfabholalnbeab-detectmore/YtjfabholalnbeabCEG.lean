import Derived.Test.YtjfabholalnbeabCEFa
namespace Go.Proofs.Ytjfabholalnbeab
open Go.RowKit Go.MapKept Go.ChangeMaps Go.WideShapes
set_option linter.unusedVariables false
set_option linter.unusedSimpArgs false

/-! ### maps by hands -/
theorem lawH : WideMaps.KeyLaw Try.prog 53 := deep_law_laid out_laid (m := 4) (by omega) (by decide +kernel) (by kernel_rfl) (by kernel_rfl)
theorem keyedH : Maps.Keyed Try.prog 53 := Maps.Keyed.of_law lawH
theorem sizeH : ∃ m, Try.prog.types.size = m + 1 := ⟨Try.prog.types.size - 1, by kernel_rfl⟩
theorem keyTH : Try.prog.keyType 53 = true := by kernel_rfl
theorem cellsH : Try.prog.cellsOf 53 = 2 := by kernel_rfl
theorem cellsI1 : Try.prog.cellsOf 3 = 1 := by kernel_rfl
theorem cellsB1 : Try.prog.cellsOf 4 = 1 := by kernel_rfl
theorem keyH (h : Hd) (hc : I64 h.chan) : ∃ kl, keyOf Try.prog 53 (hdV h) = some kl := by
  obtain ⟨ch, sd⟩ := h
  obtain ⟨m, hm⟩ := sizeH
  have hwf : (Lit.int .i64 ch).wf = true := WalkArith.wf_i64 (by unfold I64 at hc; simp only at hc; omega)
  unfold keyOf
  rw [Try.underlying53]
  simp only [keyTH, Bool.true_and, hdV]
  rw [hm]
  simp [Program.keyLits, Try.underlying53, Try.underlying3, Try.underlying4, cellsH, cellsI1, cellsB1, hwf, Value.cells, Value.formed]
theorem hdV_inj {h k : Hd} (e : hdV h = hdV k) : h = k := by
  obtain ⟨a, b⟩ := h
  obtain ⟨c, d⟩ := k
  simp [hdV] at e
  obtain ⟨rfl, rfl⟩ := e
  rfl
theorem keyH_ne {s t : Hd} {k l : Lit} (hk : keyOf Try.prog 53 (hdV s) = some k) (hl : keyOf Try.prog 53 (hdV t) = some l) (h : s ≠ t) : k ≠ l := fun e => h (hdV_inj (keyedH.inj hk (e ▸ hl)))
structure MpH (W : World) (mb n : Nat) (M : Hd → Value) : Prop where
  ex : ∃ D, W.ownsMap Try.prog 53 Rw mb n D ∧ ∀ c, I64 c.chan → ∀ kl, keyOf Try.prog 53 (hdV c) = some kl → D.atKey kl (.held nV) = .held (M c)
theorem mh_new (W : World) : MpH (W.alloc (.map #[] 0)) W.heap.size 0 (fun _ => nV) := ⟨_, World.ownsMap_made W Try.prog 53 Rw, fun c _ kl _ => rfl⟩
theorem MpH.same {W W' : World} {mb n : Nat} {M : Hd → Value} (h : MpH W mb n M) (hg : W'.heap[mb]? = W.heap[mb]?) : MpH W' mb n M := by
  obtain ⟨D, ⟨es, clock, h0, h3⟩, h2⟩ := h.ex
  exact ⟨D, ⟨es, clock, hg.trans h0, h3⟩, h2⟩
theorem MpH.lt {W : World} {mb n : Nat} {M : Hd → Value} (h : MpH W mb n M) : mb < W.heap.size := by
  obtain ⟨D, h1, _⟩ := h.ex
  exact h1.lt
theorem MpH.below {W W' : World} {mb n : Nat} {M : Hd → Value} (h : MpH W mb n M) (hb : Below W.heap.size W W') : MpH W' mb n M := h.same (hb.block mb h.lt)
theorem MpH.look {W : World} {mb n : Nat} {M : Hd → Value} (h : MpH W mb n M) (c : Hd) (hc : I64 c.chan) : (Instr.lookup 96 (.map (some mb)) (.agg #[.int .i64 c.chan, .bool c.send]) false).run Try.prog W = .ok (M c) W := by
  obtain ⟨D, h1, h2⟩ := h.ex
  obtain ⟨kl, hkl⟩ := keyH c hc
  obtain ⟨v, ps, hr, hv⟩ := h1.lookup keyedH Try.underlying96 (Try.zeroValue25 W) (zd := .held nV) (zp := []) rfl hkl
  rw [h2 c hc kl hkl] at hv
  have hv2 : v = M c := by
    have h3 := congrArg Prod.fst (Option.some.inj (show some ((DataW.held v : DataW Value), ([] : List MemPlace)) = some (DataW.held (M c), ps) from hv))
    exact DataW.held.inj h3
  exact hr.trans (by rw [hv2])
def updH {α : Type} (f : Hd → α) (c : Hd) (x : α) : Hd → α := fun d => if d.chan = c.chan ∧ d.send = c.send then x else f d
theorem updH_same {α : Type} (f : Hd → α) (c : Hd) (x : α) : updH f c x c = x := if_pos ⟨rfl, rfl⟩
theorem updH_other {α : Type} (f : Hd → α) {c d : Hd} (x : α) (h : d ≠ c) : updH f c x d = f d := if_neg (fun e => h (by
  obtain ⟨a, b⟩ := c
  obtain ⟨d1, d2⟩ := d
  simp only at e
  obtain ⟨rfl, rfl⟩ := e
  rfl))
theorem MpH.put {W : World} {mb n : Nat} {M : Hd → Value} (h : MpH W mb n M) (c : Hd) (hc : I64 c.chan) (hn : n < maxLen) (v : Value) :
    ∃ w', (Instr.mapUpdate 96 (.map (some mb)) (.agg #[.int .i64 c.chan, .bool c.send]) v).run Try.prog W = .ok () w' ∧ MpH w' mb (n + 1) (updH M c v) ∧ W.grownBy w' (some mb) := by
  obtain ⟨D, h1, h2⟩ := h.ex
  obtain ⟨kc, hkc⟩ := keyH c hc
  obtain ⟨w', hr, h4, h5⟩ := h1.update keyedH Try.underlying96 hn (val := v) (d := .held v) (ps := []) hkc rfl
  refine ⟨w', hr, ⟨_, h4, fun d hd kl hkl => ?_⟩, h5⟩
  by_cases e : d = c
  · subst e
    rw [hkc] at hkl
    cases hkl
    rw [updH_same, Maps.atKey_put_same h1.isMap (keyedH.key hkc)]
  · rw [updH_other _ _ e, Maps.atKey_put_other (keyH_ne hkl hkc e)]
    exact h2 d hd kl hkl
/-! ### who waits with which hand -/
def haStep (id : Int) (B : Hd → List Int) (h : Hd) : Hd → List Int := if h.chan ≠ 0 ∧ (B h).getLast? ≠ some id then updH B h (B h ++ [id]) else B
def haArms (B : Hd → List Int) (id : Int) (l : List Hd) : Hd → List Int := l.foldl (haStep id) B
def haF (B : Hd → List Int) (s : List Ag) : Hd → List Int := s.foldl (fun B a => haArms B a.id a.arms) B
def haD (s : List Ag) : Hd → List Int := haF (fun _ => []) s
theorem haArms_snoc (B : Hd → List Int) (id : Int) (l : List Hd) (h : Hd) : haArms B id (l ++ [h]) = haStep id (haArms B id l) h := by simp [haArms, List.foldl_append]
theorem haF_snoc (B : Hd → List Int) (s : List Ag) (a : Ag) : haF B (s ++ [a]) = haArms (haF B s) a.id a.arms := by simp [haF, List.foldl_append]
structure HaW (B : Nat) (W : World) (mb n : Nat) (V : Hd → Value) (A : Hd → List Int) (own : Nat → Option Hd) : Prop where
  map : MpH W mb n V
  row : ∀ c, W.ownsRow B 3 1 (V c) (A c).length (rowC (A c))
  lab : ∀ c g, (V c).ownBlock = some g → own g = some c
theorem HaW.new (W : World) (B : Nat) : HaW B (W.alloc (.map #[] 0)) W.heap.size 0 (fun _ => nV) (fun _ => []) (fun _ => none) :=
  ⟨mh_new W, fun c => ⟨rfl, .inl ⟨rfl, rfl⟩⟩, fun c g h => by cases h⟩
theorem HaW.below {B : Nat} {W X : World} {mb n : Nat} {V : Hd → Value} {A : Hd → List Int} {own : Nat → Option Hd} (h : HaW B W mb n V A own) (hb : Below W.heap.size W X) : HaW B X mb n V A own :=
  ⟨h.map.below hb, fun c => own_new (h.row c) hb, h.lab⟩
theorem HaW.grown_map {B : Nat} {W W2 : World} {mb n : Nat} {V : Hd → Value} {A : Hd → List Int} {own : Nat → Option Hd} (h : HaW B W mb n V A own) (c : Hd) (hg : W.grownBy W2 (V c).ownBlock) : MpH W2 mb n V ∧ ∃ es clock, W2.heap[mb]? = some (.map es clock) := by
  obtain ⟨D, ⟨es, clock, h0, _⟩, _⟩ := h.map.ex
  have e := hg.block mb h.map.lt (fun e => by
    obtain ⟨us, hu⟩ := own_blk_lt (h.row c) e.symm
    rw [hu] at h0
    cases h0)
  exact ⟨h.map.same e, es, clock, e.trans h0⟩
theorem HaW.add {B : Nat} {W W2 W3 : World} {mb n : Nat} {V : Hd → Value} {A : Hd → List Int} {own : Nat → Option Hd} (h : HaW B W mb n V A own) (c : Hd) (id : Int) {v' : Value}
    (ho : W2.ownsRow B 3 1 v' ((A c).length + 1) (rowC (A c) ++ [.int .i64 id])) (hg : W.grownBy W2 (V c).ownBlock) (hv : v'.ownBlock = (V c).ownBlock ∨ v'.ownBlock = some W.heap.size)
    (hm : MpH W3 mb (n + 1) (updH V c v')) (hg3 : W2.grownBy W3 (some mb)) :
    ∃ own', HaW B W3 mb (n + 1) (updH V c v') (updH A c (A c ++ [id])) own' := by
  obtain ⟨_, es, clock, hmap⟩ := h.grown_map c hg
  have keep3 : ∀ {v : Value} {k : Nat} {cs : List Value}, W2.ownsRow B 3 1 v k cs → W3.ownsRow B 3 1 v k cs := fun {v k cs} hr => own_same hr (fun g o hgo hgb => by
    refine (hg3.block g (Array.getElem?_eq_some_iff.1 hgb).1 (fun e => ?_)).trans hgb
    cases e
    obtain ⟨us, hu⟩ := own_blk_lt hr hgo
    rw [hmap] at hu
    cases hu)
  classical
  refine ⟨fun g => if v'.ownBlock = some g then some c else own g, ⟨hm, fun d => ?_, fun d g hd => ?_⟩⟩
  · by_cases e : d = c
    · subst e
      rw [updH_same, updH_same, List.length_append, rowC_snoc]
      exact keep3 ho
    · rw [updH_other _ _ e, updH_other _ _ e]
      refine keep3 (own_same (h.row d) (fun g o hgo hgb => (hg.block g (Array.getElem?_eq_some_iff.1 hgb).1 (fun e' => ?_)).trans hgb))
      have h1 := h.lab d g hgo
      have h2 := h.lab c g e'.symm
      rw [h1] at h2
      cases h2
      exact e rfl
  · show (if v'.ownBlock = some g then some c else own g) = some d
    by_cases e : d = c
    · subst e
      rw [updH_same] at hd
      rw [if_pos hd]
    · rw [updH_other _ _ e] at hd
      rw [if_neg (fun e' => ?_)]
      · exact h.lab d g hd
      · rcases hv with hv | hv
        · rw [hv] at e'
          have h1 := h.lab d g hd
          have h2 := h.lab c g e'
          rw [h1] at h2
          cases h2
          exact e rfl
        · rw [hv] at e'
          cases e'
          obtain ⟨us, hu⟩ := own_blk_lt (h.row d) hd
          have := (Array.getElem?_eq_some_iff.1 hu).1
          omega
def HaI (w W : World) (n : Nat) (A : Hd → List Int) : Prop := ∃ m V own, m ≤ n ∧ HaW w.heap.size W w.heap.size m V A own ∧ (∀ c, (A c).length ≤ n) ∧ (∀ c, ∀ x ∈ A c, I64 x) ∧ Below w.heap.size w W
theorem ha_put {w Z w9 : World} {m N ab : Nat} {V : Hd → Value} {A : Hd → List Int} {own : Nat → Option Hd} {o : Obj} (h : HaW w.heap.size Z w.heap.size m V A own) (hl : m ≤ N ∧ (∀ c, (A c).length ≤ N) ∧ ∀ c, ∀ x ∈ A c, I64 x) {c : Hd} (h64 : I64 c.chan) {id : Int} (hid : I64 id) (hN : N ≤ 8589934592) (hb : Below w.heap.size w Z) (hk : Z.heap[ab]? = some o) {us : Array Value} {fr : Nat × Nat} (ho : o = .cells us 32 fr) {kb : Nat} (hk2 : Z.heap[kb]? = some (.cells #[.int .i64 c.chan, .bool c.send] 53 (0, 0))) {v9 : Value} (hown : w9.ownsRow w.heap.size 3 1 v9 ((A c).length + 1) (rowC (A c) ++ [.int .i64 id])) (hg : Z.grownBy w9 (V c).ownBlock) (hv : v9.ownBlock = (V c).ownBlock ∨ v9.ownBlock = some Z.heap.size) :
    (w9.cell? ⟨kb, 0, none⟩ = some (.int .i64 c.chan) ∧ w9.cell? ⟨kb, 1, none⟩ = some (.bool c.send)) ∧ ∃ w10, (Instr.mapUpdate 96 (.map (some w.heap.size)) (.agg #[.int .i64 c.chan, .bool c.send]) v9).run Try.prog w9 = .ok () w10 ∧ Bx (HaI w w10 (N + 1) (updH A c (A c ++ [id])) ∧ w10.heap[ab]? = some o) := by
  obtain ⟨hm9, es, clock, hmb⟩ := h.grown_map c hg
  obtain ⟨w10, hput, hm, hg2⟩ := hm9.put c h64 (by unfold maxLen; omega) v9
  obtain ⟨own', hw⟩ := h.add c id hown hg hv hm hg2
  have hab := (Array.getElem?_eq_some_iff.1 hk).1
  have hne1 : some ab ≠ (V c).ownBlock := fun e => by
    obtain ⟨us', hu⟩ := own_blk_lt (h.row c) e.symm
    rw [hk, ho] at hu
    cases hu
  have h9 := (hg.block ab hab hne1).trans hk
  have hne2 : some ab ≠ some w.heap.size := fun e => by
    cases e
    rw [h9, ho] at hmb
    cases hmb
  have hb9 : Below w.heap.size w w9 := hb.grown hg hb.size (fun r e => own_base (h.row c) r e)
  have hk9 := (hg.block kb (Array.getElem?_eq_some_iff.1 hk2).1 (fun e => by
    obtain ⟨us', hu⟩ := own_blk_lt (h.row c) e.symm
    rw [hk2] at hu
    cases hu)).trans hk2
  refine ⟨⟨cell_of hk9 rfl, cell_of hk9 rfl⟩, w10, hput, ⟨⟨m + 1, _, own', by omega, hw, fun d => ?_, fun d x hx => ?_, hb9.grown hg2 hb9.size (fun r e => by cases e; exact Nat.le_refl _)⟩, (hg2.block ab (Nat.lt_of_lt_of_le hab hg.size) hne2).trans h9⟩⟩
  · have := hl.2.1 d
    by_cases e : d = c
    · subst e
      rw [updH_same, List.length_append]
      simp
      omega
    · rw [updH_other _ _ e]
      omega
  · by_cases e : d = c
    · subst e
      rw [updH_same] at hx
      rcases List.mem_append.1 hx with hx | hx
      · exact hl.2.2 d x hx
      · have : x = id := by simpa using hx
        rw [this]; exact hid
    · rw [updH_other _ _ e] at hx
      exact hl.2.2 d x hx
end Go.Proofs.Ytjfabholalnbeab
namespace Go.Proofs.Ytjfabholalnbeab
open Go.RowKit Go.MapKept Go.ChangeMaps Go.WideShapes
set_option linter.unusedVariables false
set_option linter.unusedSimpArgs false

theorem ha_prep {w Y YN Z : World} {m ab kb : Nat} {V : Hd → Value} {A : Hd → List Int} {own : Nat → Option Hd} {id ch : Int} {sd : Bool} {v1 v2 v3 : Value} (h : HaW w.heap.size Y w.heap.size m V A own ∧ Y.heap[kb]? = some (.cells #[.int .i64 ch, .bool sd] 53 (0, 0)) ∧ Y.heap[ab]? = some (.cells #[.int .i64 id, v1, v2, v3] 32 (0, 0)) ∧ Below w.heap.size w Y) (hb : Below Y.heap.size Y YN) (hZ : (YN.alloc (.cells #[.int .i64 id] 3)).drew = Z) :
    Bx (HaW w.heap.size Z w.heap.size m V A own ∧ Z.heap[YN.heap.size]? = some (.cells #[.int .i64 id] 3 (0, 0)) ∧ Below w.heap.size w Z ∧ Z.heap[ab]? = some (.cells #[.int .i64 id, v1, v2, v3] 32 (0, 0)) ∧ Z.heap[kb]? = some (.cells #[.int .i64 ch, .bool sd] 53 (0, 0))) ∧
    YN.cell? ⟨kb, 0, none⟩ = some (.int .i64 ch) ∧ YN.cell? ⟨kb, 1, none⟩ = some (.bool sd) ∧ YN.cell? ⟨ab, 0, none⟩ = some (.int .i64 id) ∧
    (YN.alloc (.cells #[.int .i64 id] 3)).cell? ⟨kb, 0, none⟩ = some (.int .i64 ch) ∧ (YN.alloc (.cells #[.int .i64 id] 3)).cell? ⟨kb, 1, none⟩ = some (.bool sd) ∧ (YN.alloc (.cells #[.int .i64 id] 3)).cell? ⟨ab, 0, none⟩ = some (.int .i64 id) := by
  obtain ⟨h1, h2, h3, h4⟩ := h
  have k2 := (hb.block kb (Array.getElem?_eq_some_iff.1 h2).1).trans h2
  have k3 := (hb.block ab (Array.getElem?_eq_some_iff.1 h3).1).trans h3
  have hbA : Below YN.heap.size YN (YN.alloc (.cells #[.int .i64 id] 3)) := below1 _ _
  have j2 := (hbA.block kb (Array.getElem?_eq_some_iff.1 k2).1).trans k2
  have j3 := (hbA.block ab (Array.getElem?_eq_some_iff.1 k3).1).trans k3
  have hbZ : Below YN.heap.size YN Z := by rw [← hZ]; exact hbA.drew
  have hbYZ := hb.trans (hbZ.mono hb.size)
  refine ⟨⟨h1.below hbYZ, by rw [← hZ]; exact World.alloc_heap_new _ _, h4.trans (hbYZ.mono h4.size), (hbZ.block ab (Array.getElem?_eq_some_iff.1 k3).1).trans k3, (hbZ.block kb (Array.getElem?_eq_some_iff.1 k2).1).trans k2⟩, cell_of k2 rfl, cell_of k2 rfl, cell_of k3 rfl, cell_of j2 rfl, cell_of j2 rfl, cell_of j3 rfl⟩
theorem HaI.more {w W : World} {n : Nat} {A : Hd → List Int} (h : HaI w W n A) : HaI w W (n + 1) A := by
  obtain ⟨m, V, own, h1, h2, h3, h4⟩ := h
  exact ⟨m, V, own, by omega, h2, fun c => Nat.le_succ_of_le (h3 c), h4⟩
set_option maxRecDepth 100000 in
set_option maxHeartbeats 4000000 in
theorem byHand_any (w : World) (p : Option Addr) (c : Nat) (s : List Ag) (h : AgsR w p c s) (ht : totA s ≤ 8589934592) : Calls Try.prog 50 #[.slice p s.length c] w fun e w' => ∃ n, n ≤ 8589934592 ∧ e = .returned (.map (some w.heap.size)) ∧ HaI w w' n (haD s) := by
  obtain ⟨i0, hi, iz0, iz1, iz2⟩ := info_parts infoI
  have hlc := h.len
  have hcm := h.max
  unfold maxLen at hcm
  have HS : Bx (AgsR w p c s) := ⟨h⟩
  have HT : Bx (totA s ≤ 8589934592) := ⟨ht⟩
  have hmm := @run_makeMap Try.prog
  obtain ⟨W, hW⟩ : ∃ W, w.alloc (.map #[] 0) = W := ⟨_, rfl⟩
  have HM : Bx (HaI w W 0 (haD [])) := ⟨0, fun _ => nV, fun _ => none, Nat.le_refl _, by rw [← hW]; exact HaW.new w _, fun c => Nat.le_refl _, (fun c x hx => by cases hx), by rw [← hW]; exact below1 _ _⟩
  have HWE : Bx (_ = W) := ⟨hW⟩
  clear h hW ht
  go_enter Try.func50, Try.ntmps50
  go_wp2
  rw [HWE.out]
  clear hmm
  go_loopg [13] (s.length + 1) (fun g v wr => ∃ i n, g = s.length + 1 - i ∧ i ≤ s.length ∧ v = .int .i64 (i : Nat) ∧ Bx (n ≤ totA (s.take i) ∧ HaI w wr n (haD (s.take i))))
  case atStart => exact ⟨0, 0, by simp, by omega, rfl, ⟨Nat.zero_le _, HM.out⟩⟩
  case round =>
    obtain ⟨i, n, hk, hil, rfl, HR⟩ := hrel
    clear HM HWE
    by_cases hlt : i < s.length
    · obtain ⟨b, o, ap, ac, hp, hc, rfl, hA, hcl⟩ := HS.out.at_ i hlt
      obtain ⟨hn0, m, V, own, hm0, hat, hlen, hel, hbr⟩ := HR.out
      obtain ⟨c0, c1, c2, c3⟩ := hcl wr hbr
      have HTK : Bx (s.take (i + 1) = s.take i ++ [s[i]]) := ⟨List.take_succ_eq_append_getElem hlt⟩
      have HAr : Bx (HdsR w ap ac s[i].arms ∧ I64 s[i].id) := ⟨hA.arms, hA.id⟩
      have a1 := hA.arms.len
      have a2 := hA.arms.max
      unfold maxLen at a2
      have hbd : n + s[i].arms.length ≤ 8589934591 := by
        have h1 := totA_take s i hlt
        have h2 : totA (s.take (i + 1)) ≤ totA s := by
          have := totA_app (s.take (i + 1)) (s.drop (i + 1))
          rw [List.take_append_drop] at this
          omega
        have := HT.out
        omega
      have htt : totA (s.take (i + 1)) = totA (s.take i) + (s[i].arms.length + s[i].held.length + 1) := totA_take s i hlt
      clear hcl hA HS HT
      generalize s[i] = a at *
      obtain ⟨id, aw, arms, held⟩ := a
      simp only at c0 c1 c2 c3 a1 hbd htt HAr
      obtain ⟨X, hX⟩ : ∃ X, wr.alloc (.cells #[.int .i64 id, .bool aw, .slice ap arms.length ac, .slice hp held.length hc] 32) = X := ⟨_, rfl⟩
      have hbX : Below wr.heap.size wr X := by rw [← hX]; exact below1 _ _
      have hkX : X.heap[wr.heap.size]? = some (.cells #[.int .i64 id, .bool aw, .slice ap arms.length ac, .slice hp held.length hc] 32 (0, 0)) := by rw [← hX]; exact World.alloc_heap_new _ _
      have d2 : X.cell? ⟨wr.heap.size, 2, none⟩ = some (.slice ap arms.length ac) := cell_of hkX rfl
      have HI : Bx (HaI w X n (haD (s.take i)) ∧ X.heap[wr.heap.size]? = some (.cells #[.int .i64 id, .bool aw, .slice ap arms.length ac, .slice hp held.length hc] 32 (0, 0))) := ⟨⟨m, V, own, hm0, hat.below hbX, hlen, hel, hbr.trans (hbX.mono hbr.size)⟩, hkX⟩
      have HXE : Bx (_ = X) := ⟨hX⟩
      have HN0 : Bx (n ≤ totA (s.take i)) := ⟨hn0⟩
      rw [← hX] at d2
      obtain ⟨ab, hab⟩ : ∃ ab, wr.heap.size = ab := ⟨_, rfl⟩
      have HAB : Bx (wr.heap.size = ab) := ⟨hab⟩
      rw [hab] at HI
      clear hX hbX hkX HR hbr hat hlen hel hm0 hn0 hab
      go_wp2
      rw [HXE.out, HAB.out]
      go_loopg [20] (arms.length + 1) (fun g v wr => ∃ j : Nat, g = arms.length + 1 - j ∧ j ≤ arms.length ∧ v = .int .i64 (j : Nat) ∧ Bx (HaI w wr (n + j) (haArms (haD (s.take i)) id (arms.take j)) ∧ wr.heap[ab]? = some (.cells #[.int .i64 id, .bool aw, .slice ap arms.length ac, .slice hp held.length hc] 32 (0, 0))))
      case atStart => exact ⟨0, by simp, by omega, rfl, HI⟩
      case round =>
        obtain ⟨j, hgj, hjl, rfl, HR⟩ := hrel
        clear HI
        by_cases hltj : j < arms.length
        · obtain ⟨hb, ho, rfl, h64, hcl⟩ := HAr.out.1.at_ j hltj
          obtain ⟨⟨m, V, own, hm0, hat, hlen, hel, hbr⟩, hkA⟩ := HR.out
          obtain ⟨q0, q1⟩ := hcl wr hbr
          have HTJ : Bx (haArms (haD (s.take i)) id (arms.take (j + 1)) = haStep id (haArms (haD (s.take i)) id (arms.take j)) arms[j]) := ⟨by rw [List.take_succ_eq_append_getElem hltj, haArms_snoc]⟩
          clear hcl
          generalize arms[j] = h at *
          obtain ⟨ch, sd⟩ := h
          simp only at q0 q1 h64
          generalize haArms (haD (s.take i)) id (arms.take j) = A at *
          obtain ⟨Y, hY⟩ : ∃ Y, wr.alloc (.cells #[.int .i64 ch, .bool sd] 53) = Y := ⟨_, rfl⟩
          have hbY : Below wr.heap.size wr Y := by rw [← hY]; exact below1 _ _
          have hkY : Y.heap[wr.heap.size]? = some (.cells #[.int .i64 ch, .bool sd] 53 (0, 0)) := by rw [← hY]; exact World.alloc_heap_new _ _
          have hkA2 := (hbY.block ab (Array.getElem?_eq_some_iff.1 hkA).1).trans hkA
          have r0 : Y.cell? ⟨wr.heap.size, 0, none⟩ = some (.int .i64 ch) := cell_of hkY rfl
          have r0' : Y.cell? ⟨wr.heap.size, 1, none⟩ = some (.bool sd) := cell_of hkY rfl
          have r1 : Y.cell? ⟨ab, 0, none⟩ = some (.int .i64 id) := cell_of hkA2 rfl
          have hatY := hat.below hbY
          have hlk := hatY.map.look ⟨ch, sd⟩ h64
          have HRow : Bx (Y.ownsRow w.heap.size 3 1 (V ⟨ch, sd⟩) (A ⟨ch, sd⟩).length (rowC (A ⟨ch, sd⟩))) := ⟨hatY.row ⟨ch, sd⟩⟩
          have hEl := hel ⟨ch, sd⟩
          have hbwY : Below w.heap.size w Y := hbr.trans (hbY.mono hbr.size)
          have HYI : Bx (HaI w Y (n + j) A ∧ Y.heap[ab]? = some (.cells #[.int .i64 id, .bool aw, .slice (some ⟨hb, ho, none⟩) arms.length ac, .slice hp held.length hc] 32 (0, 0))) := ⟨⟨m, V, own, hm0, hatY, hlen, hel, hbwY⟩, hkA2⟩
          have HYI2 : ∀ k, Bx (HaI w (Y.drewN k) (n + j) A ∧ (Y.drewN k).heap[ab]? = some (.cells #[.int .i64 id, .bool aw, .slice (some ⟨hb, ho, none⟩) arms.length ac, .slice hp held.length hc] 32 (0, 0))) := fun k => ⟨⟨m, V, own, hm0, hatY.below (below_drewN (Below.refl _ _) k), hlen, hel, below_drewN hbwY k⟩, hkA2⟩
          have HYE : Bx (_ = Y) := ⟨hY⟩
          have HLen : Bx (m ≤ n + j ∧ (∀ c, (A c).length ≤ n + j) ∧ ∀ c, ∀ x ∈ A c, I64 x) := ⟨hm0, hlen, hel⟩
          have HAT : Bx (HaW w.heap.size Y w.heap.size m V A own ∧ Y.heap[wr.heap.size]? = some (.cells #[.int .i64 ch, .bool sd] 53 (0, 0)) ∧ Y.heap[ab]? = some (.cells #[.int .i64 id, .bool aw, .slice (some ⟨hb, ho, none⟩) arms.length ac, .slice hp held.length hc] 32 (0, 0)) ∧ Below w.heap.size w Y) := ⟨hatY, hkY, hkA2, hbwY⟩
          have HVS : Bx (∃ vp vd, V ⟨ch, sd⟩ = .slice vp (A ⟨ch, sd⟩).length vd ∧ IntsR Y vp vd (A ⟨ch, sd⟩)) := ⟨by
            rcases HRow.out.2 with ⟨x1, x2⟩ | ⟨g, cap, cur, x1, _⟩
            · exact ⟨none, 0, by rw [x1, x2], by omega, by simp [maxLen], fun i hi => by omega⟩
            · have h1 := HRow.out
              rw [x1] at h1
              exact ⟨_, _, x1, ints_own h1 hEl⟩⟩
          obtain ⟨vp, vd, hVe, hVr⟩ := HVS.out
          have HVE : Bx (V ⟨ch, sd⟩ = .slice vp (A ⟨ch, sd⟩).length vd) := ⟨hVe⟩
          rw [hVe] at hlk
          simp only at hlk
          have v1 := hVr.len
          have v2 := hVr.max
          unfold maxLen at v2
          clear hkA hkA2 hatY hat hlen hel hbr hbY hkY HR hm0 hbwY HRow HVS hVe hEl
          by_cases hc0 : ch = 0
          · subst hc0
            have HE : Bx (haStep id A ⟨0, sd⟩ = A) := ⟨if_neg (fun h => h.1 rfl)⟩
            go_wp2
            go_quiet (fail)
            go_wp2
            go_roundg (arms.length + 1 - (j + 1))
            case measure => omega
            case rel => exact ⟨j + 1, rfl, by omega, by simp, ⟨by rw [HTJ.out, HE.out]; exact ((HYI2 nq).out.1).more, (HYI2 nq).out.2⟩⟩
          · have hc0' : (ch != 0) = true := by simpa using hc0
            have hA0 : A ⟨ch, sd⟩ = [] ∨ ∃ pre x, A ⟨ch, sd⟩ = pre ++ [x] := by
              rcases List.eq_nil_or_concat (A ⟨ch, sd⟩) with h | ⟨pre, x, h⟩
              · exact .inl h
              · exact .inr ⟨pre, x, by simpa using h⟩
            obtain ⟨L, hL⟩ : ∃ L, (A ⟨ch, sd⟩).length = L := ⟨_, rfl⟩
            have HLE : Bx ((A ⟨ch, sd⟩).length = L) := ⟨hL⟩
            rw [hL] at hlk v1
            rcases hA0 with hA0 | ⟨pre, x, hA0⟩
            · have HE : Bx (haStep id A ⟨ch, sd⟩ = updH A ⟨ch, sd⟩ (A ⟨ch, sd⟩ ++ [id])) := ⟨if_pos ⟨hc0, by rw [hA0]; simp⟩⟩
              obtain rfl : L = 0 := by rw [← hL, hA0]; rfl
              clear hL hA0 hc0 hVr
              go_wp2
              go_quiet (fail)
              go_wp2
              obtain ⟨YN, hYN⟩ : ∃ X, X = Y.drewN nq := ⟨_, rfl⟩
              rw [← hYN]
              have hbN : Below Y.heap.size Y YN := by rw [hYN]; exact below_drewN (Below.refl _ _) _
              obtain ⟨Z, hZ⟩ : ∃ Z, (YN.alloc (.cells #[.int .i64 id] 3)).drew = Z := ⟨_, rfl⟩
              obtain ⟨HZ, r0, r0', r1, r2, r2', r3⟩ := ha_prep HAT.out hbN hZ
              have HZE : Bx (_ = Z) := ⟨hZ⟩
              have hZs : w.heap.size ≤ Z.heap.size := HZ.out.2.2.1.size
              have hlA := HLen.out.2.1 ⟨ch, sd⟩
              rw [HLE.out] at hlA
              clear hZ hbN hYN hlk
              go_region_law (first
                | (rw [HZE.out]; refine step_app rfl (.tmp 48) (.tmp 51) 25 rfl w.heap.size 3 i0 (.int .i64 0) 1 8 Try.underlying25 hi iz0 iz1 iz2 rfl (by decide) (.slice vp (0) vd) (0) (rowC (A ⟨ch, sd⟩)) rfl (by have := HZ.out.1.row ⟨ch, sd⟩; rw [HVE.out, HLE.out] at this; exact this) (some ⟨YN.heap.size, 0, none⟩) 1 1 [.int .i64 id] rfl rfl (fun _ => ⟨_, rfl, block_cells _ _ _ 3 HZ.out.2.1⟩) (by simp [Value.oneCell']) (by unfold maxLen; omega) (by omega) hZs ?_; intro v9 w9 hown9 hgrow9 hv9; obtain ⟨⟨r4, r5⟩, w10, hput, HF⟩ := ha_put (c := ⟨ch, sd⟩) HZ.out.1 HLen.out h64 HAr.out.2 (by omega) HZ.out.2.2.1 HZ.out.2.2.2.1 rfl HZ.out.2.2.2.2 (by rw [HLE.out]; exact hown9) (by rw [HVE.out, HLE.out]; exact hgrow9) (by rw [HVE.out, HLE.out]; exact hv9); simp only at r4 r5 hput; clear hown9 hgrow9 hv9))
              all_goals
                go_wp2
                go_roundg (arms.length + 1 - (j + 1))
                case measure => omega
                case rel => exact ⟨j + 1, rfl, by omega, by simp, ⟨by rw [HTJ.out, HE.out]; exact HF.out.1, HF.out.2⟩⟩
            · obtain rfl : L = pre.length + 1 := by rw [← hL, hA0]; simp
              have hlast : ∃ lb lo, vp = some ⟨lb, lo, none⟩ ∧ Y.cell? ⟨lb, lo + pre.length, none⟩ = some (.int .i64 x) := by
                obtain ⟨lb, lo, e, _, h2⟩ := hVr.at_ pre.length (by rw [hA0]; simp)
                refine ⟨lb, lo, e, ?_⟩
                have := h2 Y (Below.refl _ _)
                rw [this]
                simp [hA0]
              obtain ⟨lb, lo, rfl, hlc⟩ := hlast
              have hp0 : ((pre.length : Int) + 1 == 0) = false := by rw [beq_eq_false_iff_ne]; omega
              have hp1 : (pre.length : Int) < ↑pre.length + 1 := by omega
              by_cases hx : x = id
              · have HE : Bx (haStep id A ⟨ch, sd⟩ = A) := ⟨if_neg (fun h => h.2 (by rw [hA0, ← hx]; simp))⟩
                subst hx
                clear hL hA0 hc0 hVr
                go_wp2
                go_quiet (fail)
                go_wp2
                go_roundg (arms.length + 1 - (j + 1))
                case measure => omega
                case rel => exact ⟨j + 1, rfl, by omega, by simp, ⟨by rw [HTJ.out, HE.out]; exact ((HYI2 nq).out.1).more, (HYI2 nq).out.2⟩⟩
              · have hx' : (x != id) = true := by simpa using hx
                have HE : Bx (haStep id A ⟨ch, sd⟩ = updH A ⟨ch, sd⟩ (A ⟨ch, sd⟩ ++ [id])) := ⟨if_pos ⟨hc0, by rw [hA0]; simpa using hx⟩⟩
                clear hL hA0 hc0 hVr hx
                go_wp2
                go_quiet (fail)
                go_wp2
                obtain ⟨YN, hYN⟩ : ∃ X, X = Y.drewN nq := ⟨_, rfl⟩
                rw [← hYN]
                have hbN : Below Y.heap.size Y YN := by rw [hYN]; exact below_drewN (Below.refl _ _) _
                obtain ⟨Z, hZ⟩ : ∃ Z, (YN.alloc (.cells #[.int .i64 id] 3)).drew = Z := ⟨_, rfl⟩
                obtain ⟨HZ, r0, r0', r1, r2, r2', r3⟩ := ha_prep HAT.out hbN hZ
                have HZE : Bx (_ = Z) := ⟨hZ⟩
                have hZs : w.heap.size ≤ Z.heap.size := HZ.out.2.2.1.size
                have hlA := HLen.out.2.1 ⟨ch, sd⟩
                rw [HLE.out] at hlA
                clear hZ hbN hYN hlk
                go_region_law (first
                  | (rw [HZE.out]; refine step_app rfl (.tmp 48) (.tmp 51) 25 rfl w.heap.size 3 i0 (.int .i64 0) 1 8 Try.underlying25 hi iz0 iz1 iz2 rfl (by decide) (.slice (some ⟨lb, lo, none⟩) (pre.length + 1) vd) (pre.length + 1) (rowC (A ⟨ch, sd⟩)) rfl (by have := HZ.out.1.row ⟨ch, sd⟩; rw [HVE.out, HLE.out] at this; exact this) (some ⟨YN.heap.size, 0, none⟩) 1 1 [.int .i64 id] rfl rfl (fun _ => ⟨_, rfl, block_cells _ _ _ 3 HZ.out.2.1⟩) (by simp [Value.oneCell']) (by unfold maxLen; omega) (by omega) hZs ?_; intro v9 w9 hown9 hgrow9 hv9; obtain ⟨⟨r4, r5⟩, w10, hput, HF⟩ := ha_put (c := ⟨ch, sd⟩) HZ.out.1 HLen.out h64 HAr.out.2 (by omega) HZ.out.2.2.1 HZ.out.2.2.2.1 rfl HZ.out.2.2.2.2 (by rw [HLE.out]; exact hown9) (by rw [HVE.out, HLE.out]; exact hgrow9) (by rw [HVE.out, HLE.out]; exact hv9); simp only at r4 r5 hput; clear hown9 hgrow9 hv9))
                all_goals
                  go_wp2
                  go_roundg (arms.length + 1 - (j + 1))
                  case measure => omega
                  case rel => exact ⟨j + 1, rfl, by omega, by simp, ⟨by rw [HTJ.out, HE.out]; exact HF.out.1, HF.out.2⟩⟩
        · have hje : j = arms.length := by omega
          subst hje
          rw [List.take_length] at HR
          have HF : Bx (n + arms.length ≤ totA (s.take (i + 1)) ∧ HaI w wr (n + arms.length) (haD (s.take (i + 1)))) := ⟨by have := HN0.out; omega, by rw [HTK.out, haD, haF_snoc]; exact HR.out.1⟩
          clear HR
          go_wp2
          go_roundg (s.length + 1 - (i + 1))
          case measure => omega
          case rel => exact ⟨i + 1, _, rfl, by omega, by simp, HF⟩
    · have hie : i = s.length := by omega
      subst hie
      rw [List.take_length] at HR
      have HT2 := HT.out
      have hn := HR.out.1
      go_wp2
      go_ret
      exact ⟨n, by omega, rfl, HR.out.2⟩
end Go.Proofs.Ytjfabholalnbeab
