import Derived.Test.YtjfabholalnbeabCEFa
namespace Go.Proofs.Ytjfabholalnbeab
open Go.RowKit Go.MapKept Go.ChangeMaps Go.WideShapes
set_option linter.unusedVariables false
set_option linter.unusedSimpArgs false

/-! ### maps by hands -/
theorem lawH : WideMaps.KeyLaw Try.prog 53 := deep_law_laid out_laid (m := 4) (by omega) (by decide +kernel) (by kernel_rfl) (by kernel_rfl)
theorem keyedH : Maps.Keyed Try.prog 53 := Maps.Keyed.of_law lawH
theorem sizeH : ∃ m, Try.prog.types.size = m + 1 := ⟨Try.prog.types.size - 1, by kernel_rfl⟩
theorem keyTH : Try.prog.keyType 53 = true := by kernel_rfl
theorem cellsH : Try.prog.cellsOf 53 = 2 := by kernel_rfl
theorem cellsI1 : Try.prog.cellsOf 3 = 1 := by kernel_rfl
theorem cellsB1 : Try.prog.cellsOf 4 = 1 := by kernel_rfl
theorem keyH (h : Hd) (hc : I64 h.chan) : ∃ kl, keyOf Try.prog 53 (hdV h) = some kl := by
  obtain ⟨ch, sd⟩ := h
  obtain ⟨m, hm⟩ := sizeH
  have hwf : (Lit.int .i64 ch).wf = true := WalkArith.wf_i64 (by unfold I64 at hc; simp only at hc; omega)
  unfold keyOf
  rw [Try.underlying53]
  simp only [keyTH, Bool.true_and, hdV]
  rw [hm]
  simp [Program.keyLits, Try.underlying53, Try.underlying3, Try.underlying4, cellsH, cellsI1, cellsB1, hwf, Value.cells, Value.formed]
theorem hdV_inj {h k : Hd} (e : hdV h = hdV k) : h = k := by
  obtain ⟨a, b⟩ := h
  obtain ⟨c, d⟩ := k
  simp [hdV] at e
  obtain ⟨rfl, rfl⟩ := e
  rfl
theorem keyH_ne {s t : Hd} {k l : Lit} (hk : keyOf Try.prog 53 (hdV s) = some k) (hl : keyOf Try.prog 53 (hdV t) = some l) (h : s ≠ t) : k ≠ l := fun e => h (hdV_inj (keyedH.inj hk (e ▸ hl)))
structure MpH (W : World) (mb n : Nat) (M : Hd → Value) : Prop where
  ex : ∃ D, W.ownsMap Try.prog 53 Rw mb n D ∧ ∀ c, I64 c.chan → ∀ kl, keyOf Try.prog 53 (hdV c) = some kl → D.atKey kl (.held nV) = .held (M c)
theorem mh_new (W : World) : MpH (W.alloc (.map #[] 0)) W.heap.size 0 (fun _ => nV) := ⟨_, World.ownsMap_made W Try.prog 53 Rw, fun c _ kl _ => rfl⟩
theorem MpH.same {W W' : World} {mb n : Nat} {M : Hd → Value} (h : MpH W mb n M) (hg : W'.heap[mb]? = W.heap[mb]?) : MpH W' mb n M := by
  obtain ⟨D, ⟨es, clock, h0, h3⟩, h2⟩ := h.ex
  exact ⟨D, ⟨es, clock, hg.trans h0, h3⟩, h2⟩
theorem MpH.lt {W : World} {mb n : Nat} {M : Hd → Value} (h : MpH W mb n M) : mb < W.heap.size := by
  obtain ⟨D, h1, _⟩ := h.ex
  exact h1.lt
theorem MpH.below {W W' : World} {mb n : Nat} {M : Hd → Value} (h : MpH W mb n M) (hb : Below W.heap.size W W') : MpH W' mb n M := h.same (hb.block mb h.lt)
theorem MpH.look {W : World} {mb n : Nat} {M : Hd → Value} (h : MpH W mb n M) (c : Hd) (hc : I64 c.chan) : (Instr.lookup 96 (.map (some mb)) (.agg #[.int .i64 c.chan, .bool c.send]) false).run Try.prog W = .ok (M c) W := by
  obtain ⟨D, h1, h2⟩ := h.ex
  obtain ⟨kl, hkl⟩ := keyH c hc
  obtain ⟨v, ps, hr, hv⟩ := h1.lookup keyedH Try.underlying96 (Try.zeroValue25 W) (zd := .held nV) (zp := []) rfl hkl
  rw [h2 c hc kl hkl] at hv
  have hv2 : v = M c := by
    have h3 := congrArg Prod.fst (Option.some.inj (show some ((DataW.held v : DataW Value), ([] : List MemPlace)) = some (DataW.held (M c), ps) from hv))
    exact DataW.held.inj h3
  exact hr.trans (by rw [hv2])
def updH {α : Type} (f : Hd → α) (c : Hd) (x : α) : Hd → α := fun d => if d.chan = c.chan ∧ d.send = c.send then x else f d
theorem updH_same {α : Type} (f : Hd → α) (c : Hd) (x : α) : updH f c x c = x := if_pos ⟨rfl, rfl⟩
theorem updH_other {α : Type} (f : Hd → α) {c d : Hd} (x : α) (h : d ≠ c) : updH f c x d = f d := if_neg (fun e => h (by
  obtain ⟨a, b⟩ := c
  obtain ⟨d1, d2⟩ := d
  simp only at e
  obtain ⟨rfl, rfl⟩ := e
  rfl))
theorem MpH.put {W : World} {mb n : Nat} {M : Hd → Value} (h : MpH W mb n M) (c : Hd) (hc : I64 c.chan) (hn : n < maxLen) (v : Value) :
    ∃ w', (Instr.mapUpdate 96 (.map (some mb)) (.agg #[.int .i64 c.chan, .bool c.send]) v).run Try.prog W = .ok () w' ∧ MpH w' mb (n + 1) (updH M c v) ∧ W.grownBy w' (some mb) := by
  obtain ⟨D, h1, h2⟩ := h.ex
  obtain ⟨kc, hkc⟩ := keyH c hc
  obtain ⟨w', hr, h4, h5⟩ := h1.update keyedH Try.underlying96 hn (val := v) (d := .held v) (ps := []) hkc rfl
  refine ⟨w', hr, ⟨_, h4, fun d hd kl hkl => ?_⟩, h5⟩
  by_cases e : d = c
  · subst e
    rw [hkc] at hkl
    cases hkl
    rw [updH_same, Maps.atKey_put_same h1.isMap (keyedH.key hkc)]
  · rw [updH_other _ _ e, Maps.atKey_put_other (keyH_ne hkl hkc e)]
    exact h2 d hd kl hkl
/-! ### who waits with which hand -/
def haStep (id : Int) (B : Hd → List Int) (h : Hd) : Hd → List Int := if h.chan ≠ 0 ∧ (B h).getLast? ≠ some id then updH B h (B h ++ [id]) else B
def haArms (B : Hd → List Int) (id : Int) (l : List Hd) : Hd → List Int := l.foldl (haStep id) B
def haF (B : Hd → List Int) (s : List Ag) : Hd → List Int := s.foldl (fun B a => haArms B a.id a.arms) B
def haD (s : List Ag) : Hd → List Int := haF (fun _ => []) s
theorem haArms_snoc (B : Hd → List Int) (id : Int) (l : List Hd) (h : Hd) : haArms B id (l ++ [h]) = haStep id (haArms B id l) h := by simp [haArms, List.foldl_append]
theorem haF_snoc (B : Hd → List Int) (s : List Ag) (a : Ag) : haF B (s ++ [a]) = haArms (haF B s) a.id a.arms := by simp [haF, List.foldl_append]
structure HaW (B : Nat) (W : World) (mb n : Nat) (V : Hd → Value) (A : Hd → List Int) (own : Nat → Option Hd) : Prop where
  map : MpH W mb n V
  row : ∀ c, W.ownsRow B 3 1 (V c) (A c).length (rowC (A c))
  lab : ∀ c g, (V c).ownBlock = some g → own g = some c
theorem HaW.new (W : World) (B : Nat) : HaW B (W.alloc (.map #[] 0)) W.heap.size 0 (fun _ => nV) (fun _ => []) (fun _ => none) :=
  ⟨mh_new W, fun c => ⟨rfl, .inl ⟨rfl, rfl⟩⟩, fun c g h => by cases h⟩
theorem HaW.below {B : Nat} {W X : World} {mb n : Nat} {V : Hd → Value} {A : Hd → List Int} {own : Nat → Option Hd} (h : HaW B W mb n V A own) (hb : Below W.heap.size W X) : HaW B X mb n V A own :=
  ⟨h.map.below hb, fun c => own_new (h.row c) hb, h.lab⟩
theorem HaW.grown_map {B : Nat} {W W2 : World} {mb n : Nat} {V : Hd → Value} {A : Hd → List Int} {own : Nat → Option Hd} (h : HaW B W mb n V A own) (c : Hd) (hg : W.grownBy W2 (V c).ownBlock) : MpH W2 mb n V ∧ ∃ es clock, W2.heap[mb]? = some (.map es clock) := by
  obtain ⟨D, ⟨es, clock, h0, _⟩, _⟩ := h.map.ex
  have e := hg.block mb h.map.lt (fun e => by
    obtain ⟨us, hu⟩ := own_blk_lt (h.row c) e.symm
    rw [hu] at h0
    cases h0)
  exact ⟨h.map.same e, es, clock, e.trans h0⟩
theorem HaW.add {B : Nat} {W W2 W3 : World} {mb n : Nat} {V : Hd → Value} {A : Hd → List Int} {own : Nat → Option Hd} (h : HaW B W mb n V A own) (c : Hd) (id : Int) {v' : Value}
    (ho : W2.ownsRow B 3 1 v' ((A c).length + 1) (rowC (A c) ++ [.int .i64 id])) (hg : W.grownBy W2 (V c).ownBlock) (hv : v'.ownBlock = (V c).ownBlock ∨ v'.ownBlock = some W.heap.size)
    (hm : MpH W3 mb (n + 1) (updH V c v')) (hg3 : W2.grownBy W3 (some mb)) :
    ∃ own', HaW B W3 mb (n + 1) (updH V c v') (updH A c (A c ++ [id])) own' := by
  obtain ⟨_, es, clock, hmap⟩ := h.grown_map c hg
  have keep3 : ∀ {v : Value} {k : Nat} {cs : List Value}, W2.ownsRow B 3 1 v k cs → W3.ownsRow B 3 1 v k cs := fun {v k cs} hr => own_same hr (fun g o hgo hgb => by
    refine (hg3.block g (Array.getElem?_eq_some_iff.1 hgb).1 (fun e => ?_)).trans hgb
    cases e
    obtain ⟨us, hu⟩ := own_blk_lt hr hgo
    rw [hmap] at hu
    cases hu)
  classical
  refine ⟨fun g => if v'.ownBlock = some g then some c else own g, ⟨hm, fun d => ?_, fun d g hd => ?_⟩⟩
  · by_cases e : d = c
    · subst e
      rw [updH_same, updH_same, List.length_append, rowC_snoc]
      exact keep3 ho
    · rw [updH_other _ _ e, updH_other _ _ e]
      refine keep3 (own_same (h.row d) (fun g o hgo hgb => (hg.block g (Array.getElem?_eq_some_iff.1 hgb).1 (fun e' => ?_)).trans hgb))
      have h1 := h.lab d g hgo
      have h2 := h.lab c g e'.symm
      rw [h1] at h2
      cases h2
      exact e rfl
  · show (if v'.ownBlock = some g then some c else own g) = some d
    by_cases e : d = c
    · subst e
      rw [updH_same] at hd
      rw [if_pos hd]
    · rw [updH_other _ _ e] at hd
      rw [if_neg (fun e' => ?_)]
      · exact h.lab d g hd
      · rcases hv with hv | hv
        · rw [hv] at e'
          have h1 := h.lab d g hd
          have h2 := h.lab c g e'
          rw [h1] at h2
          cases h2
          exact e rfl
        · rw [hv] at e'
          cases e'
          obtain ⟨us, hu⟩ := own_blk_lt (h.row d) hd
          have := (Array.getElem?_eq_some_iff.1 hu).1
          omega
def HaI (w W : World) (n : Nat) (A : Hd → List Int) : Prop := ∃ m V own, m ≤ n ∧ HaW w.heap.size W w.heap.size m V A own ∧ (∀ c, (A c).length ≤ n) ∧ (∀ c, ∀ x ∈ A c, I64 x) ∧ Below w.heap.size w W
theorem ha_put {w Z w9 : World} {m N ab : Nat} {V : Hd → Value} {A : Hd → List Int} {own : Nat → Option Hd} {o : Obj} (h : HaW w.heap.size Z w.heap.size m V A own) (hl : m ≤ N ∧ (∀ c, (A c).length ≤ N) ∧ ∀ c, ∀ x ∈ A c, I64 x) {c : Hd} (h64 : I64 c.chan) {id : Int} (hid : I64 id) (hN : N ≤ 2147483647) (hb : Below w.heap.size w Z) (hk : Z.heap[ab]? = some o) {us : Array Value} {fr : Nat × Nat} (ho : o = .cells us 32 fr) {kb : Nat} (hk2 : Z.heap[kb]? = some (.cells #[.int .i64 c.chan, .bool c.send] 53 (0, 0))) {v9 : Value} (hown : w9.ownsRow w.heap.size 3 1 v9 ((A c).length + 1) (rowC (A c) ++ [.int .i64 id])) (hg : Z.grownBy w9 (V c).ownBlock) (hv : v9.ownBlock = (V c).ownBlock ∨ v9.ownBlock = some Z.heap.size) :
    (w9.cell? ⟨kb, 0, none⟩ = some (.int .i64 c.chan) ∧ w9.cell? ⟨kb, 1, none⟩ = some (.bool c.send)) ∧ ∃ w10, (Instr.mapUpdate 96 (.map (some w.heap.size)) (.agg #[.int .i64 c.chan, .bool c.send]) v9).run Try.prog w9 = .ok () w10 ∧ Bx (HaI w w10 (N + 1) (updH A c (A c ++ [id])) ∧ w10.heap[ab]? = some o) := by
  obtain ⟨hm9, es, clock, hmb⟩ := h.grown_map c hg
  obtain ⟨w10, hput, hm, hg2⟩ := hm9.put c h64 (by unfold maxLen; omega) v9
  obtain ⟨own', hw⟩ := h.add c id hown hg hv hm hg2
  have hab := (Array.getElem?_eq_some_iff.1 hk).1
  have hne1 : some ab ≠ (V c).ownBlock := fun e => by
    obtain ⟨us', hu⟩ := own_blk_lt (h.row c) e.symm
    rw [hk, ho] at hu
    cases hu
  have h9 := (hg.block ab hab hne1).trans hk
  have hne2 : some ab ≠ some w.heap.size := fun e => by
    cases e
    rw [h9, ho] at hmb
    cases hmb
  have hb9 : Below w.heap.size w w9 := hb.grown hg hb.size (fun r e => own_base (h.row c) r e)
  have hk9 := (hg.block kb (Array.getElem?_eq_some_iff.1 hk2).1 (fun e => by
    obtain ⟨us', hu⟩ := own_blk_lt (h.row c) e.symm
    rw [hk2] at hu
    cases hu)).trans hk2
  refine ⟨⟨cell_of hk9 rfl, cell_of hk9 rfl⟩, w10, hput, ⟨⟨m + 1, _, own', by omega, hw, fun d => ?_, fun d x hx => ?_, hb9.grown hg2 hb9.size (fun r e => by cases e; exact Nat.le_refl _)⟩, (hg2.block ab (Nat.lt_of_lt_of_le hab hg.size) hne2).trans h9⟩⟩
  · have := hl.2.1 d
    by_cases e : d = c
    · subst e
      rw [updH_same, List.length_append]
      simp
      omega
    · rw [updH_other _ _ e]
      omega
  · by_cases e : d = c
    · subst e
      rw [updH_same] at hx
      rcases List.mem_append.1 hx with hx | hx
      · exact hl.2.2 d x hx
      · have : x = id := by simpa using hx
        rw [this]; exact hid
    · rw [updH_other _ _ e] at hx
      exact hl.2.2 d x hx
end Go.Proofs.Ytjfabholalnbeab
