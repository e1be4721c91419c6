import Derived.Test.YtjjbgbadkbomlaaDoorCTChk
import Derived.Test.YtjjbgbadkbomlaaDoorCSP
import Derived.Maps.OwnSet
import Derived.Maps.OwnOps
import Derived.Deep.RegionHeld
import Derived.Deep.AppendLies
namespace Go.Proofs.YtjjbgbadkbomlaaDoor
open Go.RowKit Go.Maps
set_option linter.unusedVariables false
set_option linter.unusedSimpArgs false

def keyL (nm : ByteArray) : Lit := .string nm.data.toList
theorem keyL_inj {a b : ByteArray} (h : keyL a = keyL b) : a = b := by
  unfold keyL at h
  simp only [Lit.string.injEq] at h
  cases a; cases b
  simp only [ByteArray.mk.injEq]
  exact Array.toList_inj.1 h
theorem keyL_key (nm : ByteArray) : WideAt.IsKeyLit (keyL nm) := by simp [keyL, WideAt.IsKeyLit]
/-- a pointer to the beginning of a block -/
def ptrV (b : Nat) : Value := .pointer (some ⟨b, 0, none⟩)
/-- how an element of the map reads -/
def mnElem : Value → Option (DataW Unit × List MemPlace)
  | .pointer none => some (.nil, [])
  | .pointer (some ⟨b, 0, none⟩) => some (.lit (.int .i64 b), [])
  | _ => none
theorem mnElem_ptr (b : Nat) : mnElem (ptrV b) = some (.lit (.int .i64 b), []) := rfl
theorem mnElem_nil {v : Value} {ps : List MemPlace} (h : mnElem v = some (.nil, ps)) : v = .pointer none := by
  unfold mnElem at h
  split at h
  · rfl
  · simp at h
  · cases h
theorem mnElem_some {v : Value} {b : Nat} {ps : List MemPlace} (h : mnElem v = some (.lit (.int .i64 b), ps)) : v = ptrV b := by
  unfold mnElem at h
  split at h
  · simp at h
  · simp only [Option.some.injEq, Prod.mk.injEq, DataW.lit.injEq, Lit.int.injEq, true_and] at h
    have : _ = b := Int.ofNat_inj.1 h.1
    subst this
    rfl
  · cases h
/-- the map tells what is in scope -/
structure ScIs (sc : ByteArray → Option Nat) (mB : Nat → Nat) (D : DataW Unit) : Prop where
  map : Maps.IsMap D
  at_ : ∀ nm, D.atKey (keyL nm) .nil = (match sc nm with | none => .nil | some m => .lit (.int .i64 (mB m)))
  has : ∀ nm, Maps.has D (keyL nm) = (sc nm).isSome
theorem ScIs.put {sc sc' : ByteArray → Option Nat} {mB : Nat → Nat} {D : DataW Unit} (h : ScIs sc mB D) (nm : ByteArray) (m : Nat) (hs : ∀ x, sc' x = if x = nm then some m else sc x) : ScIs sc' mB (D.put (keyL nm) (.lit (.int .i64 (mB m)))) := by
  refine ⟨h.map.put _ _, fun x => ?_, fun x => ?_⟩
  · rw [hs]
    by_cases e : x = nm
    · subst e
      rw [Maps.atKey_put_same h.map (keyL_key _), if_pos rfl]
    · rw [Maps.atKey_put_other (fun q => e (keyL_inj q)), h.at_, if_neg e]
  · rw [hs]
    by_cases e : x = nm
    · subst e
      rw [Maps.has_put_same h.map (keyL_key _), if_pos rfl]
      rfl
    · rw [Maps.has_put_other (fun q => e (keyL_inj q)), h.has, if_neg e]
theorem ScIs.del {sc sc' : ByteArray → Option Nat} {mB : Nat → Nat} {D : DataW Unit} (h : ScIs sc mB D) (nm : ByteArray) (hs : ∀ x, sc' x = if x = nm then none else sc x) : ScIs sc' mB (D.del (keyL nm)) := by
  refine ⟨h.map.del _, fun x => ?_, fun x => ?_⟩
  · rw [hs]
    by_cases e : x = nm
    · subst e
      rw [Maps.atKey_del_same, if_pos rfl]
    · rw [Maps.atKey_del_other (fun q => e (keyL_inj q)), h.at_, if_neg e]
  · rw [hs]
    by_cases e : x = nm
    · subst e
      rw [Maps.has_del_same, if_pos rfl]
      rfl
    · rw [Maps.has_del_other (fun q => e (keyL_inj q)), h.has, if_neg e]
theorem ScIs.more {sc : ByteArray → Option Nat} {mB mB' : Nat → Nat} {D : DataW Unit} (h : ScIs sc mB D) (hm : ∀ nm m, sc nm = some m → mB' m = mB m) : ScIs sc mB' D := by
  refine ⟨h.map, fun x => ?_, h.has⟩
  rw [h.at_]
  cases e : sc x with
  | none => rfl
  | some m => simp only [hm x m e]
theorem owns_size {P : Program} {k : TypeId} {R : Value → Option (DataW Unit × List MemPlace)} {w : World} {b n : Nat} {D : DataW Unit} (h : w.ownsMap P k R b n D) : w.ownsMap P k R b (Maps.size D) D := by
  obtain ⟨es, clock, hb, F, hs, rfl⟩ := h
  refine ⟨es, clock, hb, F, ?_, rfl⟩
  simp [Maps.size, length_sorted]
theorem owns_same {P : Program} {k : TypeId} {R : Value → Option (DataW Unit × List MemPlace)} {w w' : World} {b n : Nat} {D : DataW Unit} (h : w.ownsMap P k R b n D) (hs : w'.heap[b]? = w.heap[b]?) : w'.ownsMap P k R b n D := by
  obtain ⟨es, clock, hb, r⟩ := h
  exact ⟨es, clock, hs.trans hb, r⟩
theorem row_same {w w' : World} {base : Nat} {e : TypeId} {size : Nat} {v : Value} {n : Nat} {xs : List Value} (h : w.ownsRow base e size v n xs) (hs : ∀ b, v.ownBlock = some b → w'.heap[b]? = w.heap[b]?) : w'.ownsRow base e size v n xs := by
  refine ⟨h.1, ?_⟩
  rcases h.2 with h2 | ⟨g, cap, cur, hv, hb, hg, r⟩
  · exact .inl h2
  · exact .inr ⟨g, cap, cur, hv, hb, (hs g (by rw [hv]; rfl)).trans hg, r⟩

/-- what a block is to the walk -/
inductive Lab where
  | out | wlk | map | ref | free | row (i : Nat) | mn (m : Nat) | dcl | gat | wc (k : Nat) | pc (k : Nat) | tc (k : Nat) | tk (k : Nat)
structure WG where
  lab : Nat → Lab
  wb : Nat
  mb : Nat
  rb : Nat
  fb : Nat
  mB : Nat → Nat
  fv : Nat → Value
  dv : Value
  gv : Value
  wc : Nat → Nat
  pc : Nat → Nat
  tc : Nat → Nat
  tv : Nat → Value
  gn : Nat
def outV (mB : Nat → Nat) : Option Nat → Value
  | none => .pointer none
  | some m => ptrV (mB m)
def mnC (mB : Nat → Nat) (m : Mn) : Array Value := #[.int .i64 m.decl, .int .i64 m.block, .int .i64 m.done, outV mB m.outer]
def wlkC (lv : Value) (N : Nat) (s : SSt) (G : WG) : Array Value :=
  #[lv, .slice (some ⟨G.rb, 0, none⟩) N N, .slice (some ⟨G.fb, 0, none⟩) N N, .int .i64 s.flt.1, .int .i64 s.flt.2, .map (some G.mb), .int .i64 s.blocks, G.dv, G.gv, .int .i64 s.set]
def takeV (G : WG) (k : Nat) : Value := .func (.func 59) #[] #[ptrV (G.wc k), ptrV (G.pc k), ptrV (G.tc k)]
def intsC (xs : List Int) : List Value := xs.map (.int .i64 ·)
/-- the walker in memory -/
structure SRel (B : Nat) (lv : Value) (N : Nat) (W : World) (s : SSt) (G : WG) : Prop where
  lo : ∀ b, G.lab b ≠ .out → B ≤ b ∧ b < W.heap.size
  lwb : G.lab G.wb = .wlk
  lmb : G.lab G.mb = .map
  lrb : G.lab G.rb = .ref
  lfb : G.lab G.fb = .free
  lmn : ∀ m, m < s.ms.length → G.lab (G.mB m) = .mn m
  lrow : ∀ i b, i < N → (G.fv i).ownBlock = some b → G.lab b = .row i
  ldv : ∀ b, G.dv.ownBlock = some b → G.lab b = .dcl
  lgv : ∀ b, G.gv.ownBlock = some b → G.lab b = .gat
  lwc : ∀ k, k < s.gat.length → G.lab (G.wc k) = .wc k
  lpc : ∀ k, k < s.gat.length → G.lab (G.pc k) = .pc k
  ltc : ∀ k, k < s.gat.length → G.lab (G.tc k) = .tc k
  ltv : ∀ k b, k < s.gat.length → (G.tv k).ownBlock = some b → G.lab b = .tk k
  hw : W.heap[G.wb]? = some (.cells (wlkC lv N s G) 56 (0, 0))
  hmap : ∃ D, W.ownsMap Tryd.prog 9 mnElem G.mb (Maps.size D) D ∧ Maps.size D ≤ s.ms.length ∧ ScIs s.sc G.mB D
  href : W.heap[G.rb]? = some (.cells (intsC s.ref).toArray 3 (0, 0))
  hfree : W.heap[G.fb]? = some (.cells ((List.range N).map G.fv).toArray 25 (0, 0))
  hrow : ∀ i, i < N → W.ownsRow B 3 1 (G.fv i) (s.free.getD i []).length (intsC (s.free.getD i []))
  hmn : ∀ m, m < s.ms.length → W.heap[G.mB m]? = some (.cells (mnC G.mB (mnS s m)) 63 (0, 0))
  hdv : W.ownsRow B 9 1 G.dv s.dcl.length (s.dcl.map .string)
  hgv : W.ownsRow B 73 1 G.gv s.gat.length ((List.range s.gat.length).map (takeV G))
  hwc : ∀ k, k < s.gat.length → W.heap[G.wc k]? = some (.cells #[ptrV G.wb] 49 (0, 0))
  hpc : ∀ k, k < s.gat.length → W.heap[G.pc k]? = some (.cells #[.int .i64 (gatS s k).1] 3 (0, 0))
  htc : ∀ k, k < s.gat.length → W.heap[G.tc k]? = some (.cells #[G.tv k] 82 (0, 0))
  htk : ∀ k, k < s.gat.length → W.ownsRow B 61 1 (G.tv k) (gatS s k).2.length ((gatS s k).2.map fun m => ptrV (G.mB m))
  gnl : G.gn ≤ s.gat.length

/-- the blocks that the walk knows, of some kinds, are as they were -/
def Same (W W' : World) (G : WG) (P : Lab → Prop) : Prop := ∀ b, G.lab b ≠ .out → P (G.lab b) → W'.heap[b]? = W.heap[b]?
section
variable {B : Nat} {lv : Value} {N : Nat} {W W' : World} {s : SSt} {G : WG} {P : Lab → Prop}
theorem SRel.k_w (h : SRel B lv N W s G) (hs : Same W W' G P) (hp : P .wlk) : W'.heap[G.wb]? = some (.cells (wlkC lv N s G) 56 (0, 0)) :=
  (hs _ (by rw [h.lwb]; simp) (by rw [h.lwb]; exact hp)).trans h.hw
theorem SRel.k_map (h : SRel B lv N W s G) (hs : Same W W' G P) (hp : P .map) : ∃ D, W'.ownsMap Tryd.prog 9 mnElem G.mb (Maps.size D) D ∧ Maps.size D ≤ s.ms.length ∧ ScIs s.sc G.mB D := by
  obtain ⟨D, h1, h2⟩ := h.hmap
  exact ⟨D, owns_same h1 (hs _ (by rw [h.lmb]; simp) (by rw [h.lmb]; exact hp)), h2⟩
theorem SRel.k_ref (h : SRel B lv N W s G) (hs : Same W W' G P) (hp : P .ref) : W'.heap[G.rb]? = some (.cells (intsC s.ref).toArray 3 (0, 0)) :=
  (hs _ (by rw [h.lrb]; simp) (by rw [h.lrb]; exact hp)).trans h.href
theorem SRel.k_free (h : SRel B lv N W s G) (hs : Same W W' G P) (hp : P .free) : W'.heap[G.fb]? = some (.cells ((List.range N).map G.fv).toArray 25 (0, 0)) :=
  (hs _ (by rw [h.lfb]; simp) (by rw [h.lfb]; exact hp)).trans h.hfree
theorem SRel.k_row (h : SRel B lv N W s G) (hs : Same W W' G P) {i : Nat} (hi : i < N) (hp : P (.row i)) : W'.ownsRow B 3 1 (G.fv i) (s.free.getD i []).length (intsC (s.free.getD i [])) :=
  row_same (h.hrow i hi) fun b hb => hs b (by rw [h.lrow i b hi hb]; simp) (by rw [h.lrow i b hi hb]; exact hp)
theorem SRel.k_mn (h : SRel B lv N W s G) (hs : Same W W' G P) {m : Nat} (hm : m < s.ms.length) (hp : P (.mn m)) : W'.heap[G.mB m]? = some (.cells (mnC G.mB (mnS s m)) 63 (0, 0)) :=
  (hs _ (by rw [h.lmn m hm]; simp) (by rw [h.lmn m hm]; exact hp)).trans (h.hmn m hm)
theorem SRel.k_dv (h : SRel B lv N W s G) (hs : Same W W' G P) (hp : P .dcl) : W'.ownsRow B 9 1 G.dv s.dcl.length (s.dcl.map .string) :=
  row_same h.hdv fun b hb => hs b (by rw [h.ldv b hb]; simp) (by rw [h.ldv b hb]; exact hp)
theorem SRel.k_gv (h : SRel B lv N W s G) (hs : Same W W' G P) (hp : P .gat) : W'.ownsRow B 73 1 G.gv s.gat.length ((List.range s.gat.length).map (takeV G)) :=
  row_same h.hgv fun b hb => hs b (by rw [h.lgv b hb]; simp) (by rw [h.lgv b hb]; exact hp)
theorem SRel.k_wc (h : SRel B lv N W s G) (hs : Same W W' G P) {k : Nat} (hk : k < s.gat.length) (hp : P (.wc k)) : W'.heap[G.wc k]? = some (.cells #[ptrV G.wb] 49 (0, 0)) :=
  (hs _ (by rw [h.lwc k hk]; simp) (by rw [h.lwc k hk]; exact hp)).trans (h.hwc k hk)
theorem SRel.k_pc (h : SRel B lv N W s G) (hs : Same W W' G P) {k : Nat} (hk : k < s.gat.length) (hp : P (.pc k)) : W'.heap[G.pc k]? = some (.cells #[.int .i64 (gatS s k).1] 3 (0, 0)) :=
  (hs _ (by rw [h.lpc k hk]; simp) (by rw [h.lpc k hk]; exact hp)).trans (h.hpc k hk)
theorem SRel.k_tc (h : SRel B lv N W s G) (hs : Same W W' G P) {k : Nat} (hk : k < s.gat.length) (hp : P (.tc k)) : W'.heap[G.tc k]? = some (.cells #[G.tv k] 82 (0, 0)) :=
  (hs _ (by rw [h.ltc k hk]; simp) (by rw [h.ltc k hk]; exact hp)).trans (h.htc k hk)
theorem SRel.k_tk (h : SRel B lv N W s G) (hs : Same W W' G P) {k : Nat} (hk : k < s.gat.length) (hp : P (.tk k)) : W'.ownsRow B 61 1 (G.tv k) (gatS s k).2.length ((gatS s k).2.map fun m => ptrV (G.mB m)) :=
  row_same (h.htk k hk) fun b hb => hs b (by rw [h.ltv k b hk hb]; simp) (by rw [h.ltv k b hk hb]; exact hp)
/-- nothing of the walk's own is touched -/
theorem SRel.ext (h : SRel B lv N W s G) (hsz : W.heap.size ≤ W'.heap.size) (hs : ∀ b, G.lab b ≠ .out → W'.heap[b]? = W.heap[b]?) : SRel B lv N W' s G := by
  have hS : Same W W' G (fun _ => True) := fun b hb _ => hs b hb
  exact ⟨fun b hb => ⟨(h.lo b hb).1, Nat.lt_of_lt_of_le (h.lo b hb).2 hsz⟩, h.lwb, h.lmb, h.lrb, h.lfb, h.lmn, h.lrow, h.ldv, h.lgv, h.lwc, h.lpc, h.ltc, h.ltv, h.k_w hS trivial, h.k_map hS trivial, h.k_ref hS trivial, h.k_free hS trivial,
    fun i hi => h.k_row hS hi trivial, fun m hm => h.k_mn hS hm trivial, h.k_dv hS trivial, h.k_gv hS trivial, fun k hk => h.k_wc hS hk trivial, fun k hk => h.k_pc hS hk trivial, fun k hk => h.k_tc hS hk trivial, fun k hk => h.k_tk hS hk trivial, h.gnl⟩
theorem SRel.below (h : SRel B lv N W s G) (hb : Below W.heap.size W W') : SRel B lv N W' s G := h.ext hb.size fun b hl => hb.block b (h.lo b hl).2
end
/-- what a part of the walk leaves of all else -/
structure Fr (B : Nat) (W : World) (G : WG) (W' : World) (G' : WG) : Prop where
  bel : Below B W W'
  keep : ∀ b, b < W.heap.size → G.lab b = .out → W'.heap[b]? = W.heap[b]? ∧ G'.lab b = .out
  wb : G'.wb = G.wb
  gs : ∀ k, k < G.gn → G'.wc k = G.wc k ∧ G'.tc k = G.tc k
  ge : G'.gn = G.gn
theorem Fr.refl (B : Nat) (W : World) (G : WG) : Fr B W G W G := ⟨Below.refl _ _, fun _ _ h => ⟨rfl, h⟩, rfl, fun _ _ => ⟨rfl, rfl⟩, rfl⟩
theorem Fr.trans {B : Nat} {W W' W'' : World} {G G' G'' : WG} (h : Fr B W G W' G') (h' : Fr B W' G' W'' G'') : Fr B W G W'' G'' :=
  ⟨h.bel.trans h'.bel, fun b hb hl => by
    obtain ⟨a1, a2⟩ := h.keep b hb hl
    obtain ⟨b1, b2⟩ := h'.keep b (Nat.lt_of_lt_of_le hb h.bel.size) a2
    exact ⟨b1.trans a1, b2⟩, h'.wb.trans h.wb, fun k hk => by
    obtain ⟨a1, a2⟩ := h.gs k hk
    obtain ⟨b1, b2⟩ := h'.gs k (by rw [h.ge]; exact hk)
    exact ⟨b1.trans a1, b2.trans a2⟩, h'.ge.trans h.ge⟩
theorem Fr.below {B : Nat} {W W' : World} {G : WG} (h : Below W.heap.size W W') (hB : B ≤ W.heap.size) : Fr B W G W' G := ⟨h.mono hB, fun b hb hl => ⟨h.block b hb, hl⟩, rfl, fun _ _ => ⟨rfl, rfl⟩, rfl⟩
theorem Fr.size {B : Nat} {W W' : World} {G G' : WG} (h : Fr B W G W' G') : W.heap.size ≤ W'.heap.size := h.bel.size
end Go.Proofs.YtjjbgbadkbomlaaDoor
namespace Go.Proofs.YtjjbgbadkbomlaaDoor
open Go.RowKit Go.Maps
set_option linter.unusedVariables false
set_option linter.unusedSimpArgs false

/-- one block is written, nothing else -/
structure Onl (fb : Nat) (w w' : World) : Prop where
  size : w'.heap.size = w.heap.size
  block : ∀ x, x ≠ fb → w'.heap[x]? = w.heap[x]?
  bel : ∀ B w0, B ≤ fb → Below B w0 w → Below B w0 w'
theorem Onl.refl (fb : Nat) (w : World) : Onl fb w w := ⟨rfl, fun _ _ => rfl, fun _ _ _ h => h⟩
theorem Onl.trans {fb : Nat} {w w1 w2 : World} (h : Onl fb w w1) (g : Onl fb w1 w2) : Onl fb w w2 := ⟨g.size.trans h.size, fun x hx => (g.block x hx).trans (h.block x hx), fun B w0 hB hb => g.bel B w0 hB (h.bel B w0 hB hb)⟩
theorem Onl.set (fb : Nat) (w : World) (i : Nat) (v : Value) : Onl fb w (w.setCell ⟨fb, i, none⟩ v) := by
  refine ⟨?_, fun x hx => ?_, fun B w0 hB hb => Below.setCell (p := ⟨fb, i, none⟩) hb hB v⟩
  · simp
  · exact heap_setCell_other w _ x v hx
section
variable {B : Nat} {lv : Value} {N : Nat} {W W' : World} {s : SSt} {G : WG}
theorem SRel.cw (h : SRel B lv N W s G) (j : Nat) : W.cell? ⟨G.wb, j, none⟩ = (wlkC lv N s G)[j]? := cell_of_row W G.wb j _ _ _ h.hw
theorem SRel.fw (h : SRel B lv N W s G) (j : Nat) : W.frozen? ⟨G.wb, j, none⟩ = false := by simp [World.frozen?, h.hw]
theorem SRel.lb (h : SRel B lv N W s G) {b : Nat} (hl : G.lab b ≠ .out) : B ≤ b := (h.lo b hl).1
theorem SRel.Bw (h : SRel B lv N W s G) : B ≤ G.wb := h.lb (by rw [h.lwb]; simp)
theorem SRel.Bs (h : SRel B lv N W s G) : B < W.heap.size := by
  have := h.lo G.wb (by rw [h.lwb]; simp)
  omega
/-- the walker's own block is written -/
theorem SRel.wlk (h : SRel B lv N W s G) (f : Int × Int) (k : Nat) (z : Int) (ho : Onl G.wb W W') (hW : W'.heap[G.wb]? = some (.cells (wlkC lv N { s with flt := f, blocks := k, set := z } G) 56 (0, 0))) :
    SRel B lv N W' { s with flt := f, blocks := k, set := z } G := by
  have hS : Same W W' G (fun t => t ≠ .wlk) := fun b hb hp => ho.block b fun e => hp (by rw [e]; exact h.lwb)
  exact ⟨fun b hb => ⟨(h.lo b hb).1, by rw [ho.size]; exact (h.lo b hb).2⟩, h.lwb, h.lmb, h.lrb, h.lfb, h.lmn, h.lrow, h.ldv, h.lgv, h.lwc, h.lpc, h.ltc, h.ltv, hW, h.k_map hS (by simp), h.k_ref hS (by simp), h.k_free hS (by simp),
    fun i hi => h.k_row hS hi (by simp), fun m hm => h.k_mn hS hm (by simp), h.k_dv hS (by simp), h.k_gv hS (by simp), fun k hk => h.k_wc hS hk (by simp), fun k hk => h.k_pc hS hk (by simp), fun k hk => h.k_tc hS hk (by simp), fun k hk => h.k_tk hS hk (by simp), h.gnl⟩
theorem row_form {w : World} {base : Nat} {e : TypeId} {size : Nat} {v : Value} {n : Nat} {xs : List Value} (h : w.ownsRow base e size v n xs) : ∃ a c, v = .slice a n c := by
  rcases h.2 with ⟨h1, h2⟩ | ⟨g, cap, cur, hv, _⟩
  · exact ⟨none, 0, by rw [h1, h2]⟩
  · exact ⟨_, _, hv⟩
theorem keyedS : Keyed Tryd.prog 9 := string_keyed Tryd.underlying9
theorem zeroMn (w : World) : (zeroValue 61).run Tryd.prog w = .ok (.pointer none) w := by kernel_rfl
theorem SRel.look (h : SRel B lv N W s G) (nm : ByteArray) (hnm : nm.size ≤ maxLen) : (Instr.lookup 52 (.map (some G.mb)) (.string nm) false).run Tryd.prog W = .ok (outV G.mB (s.sc nm)) W := by
  obtain ⟨D, h1, h2, h3⟩ := h.hmap
  obtain ⟨v, ps, hrun, hv⟩ := h1.lookup keyedS Tryd.underlying52 (zeroMn W) (zd := .nil) (zp := []) rfl (WideMaps.keyOf_string_mk Tryd.underlying9 hnm)
  have ha := h3.at_ nm
  unfold keyL at ha
  rw [ha] at hv
  rw [hrun]
  cases e : s.sc nm with
  | none => rw [e] at hv; rw [mnElem_nil hv]; rfl
  | some m => rw [e] at hv; rw [mnElem_some hv]; rfl
theorem Fr.onl {b : Nat} (hB : B ≤ b) (hl : G.lab b ≠ .out) (ho : Onl b W W') : Fr B W G W' G :=
  ⟨ho.bel _ _ hB (Below.refl _ _), fun x _ hx => ⟨ho.block x fun e => hl (by rw [← e]; exact hx), hx⟩, rfl, fun _ _ => ⟨rfl, rfl⟩, rfl⟩
end
theorem refuse_go (l : List Nd) (i : Nat) (c : Int) (s : SSt) (h : s.flt.2 = 0) : refuseP l i c s = { s with flt := ((ndN l i).pos, c), blocks := s.blocks, set := s.set } := by unfold refuseP; rw [if_pos h]
set_option maxHeartbeats 1000000 in
theorem refuse_one {B nb no nc : Nat} {l : List Nd} {W : World} {s : SSt} {G : WG} (i : Nat) (c : Int) (h : SRel B (.slice (some ⟨nb, no, none⟩) l.length nc) l.length W s G) (hn : Nodes W B nb no nc l) (hi : i < l.length) :
    Calls Tryd.prog 40 #[.pointer (some ⟨G.wb, 0, none⟩), .int .i64 i, .int .i64 c] W fun e W' => e = .returned (.tuple #[]) ∧ SRel B (.slice (some ⟨nb, no, none⟩) l.length nc) l.length W' (refuseP l i c s) G ∧ Fr B W G W' G := by
  have hw0 := h.cw 0
  have hw3 := h.cw 3
  have hw4 := h.cw 4
  have fw3 := h.fw 3
  have fw4 := h.fw 4
  simp only [wlkC] at hw0 hw3 hw4
  simp at hw0 hw3 hw4
  obtain ⟨ka, kc, ⟨_, c1, _, _, _, _⟩⟩ := hn.at_ i hi
  have hmax := hn.max
  unfold maxLen at hmax
  by_cases hf : s.flt.2 = 0
  · have hP := refuse_go l i c s hf
    have Hh : Bx (SRel B (.slice (some ⟨nb, no, none⟩) l.length nc) l.length W s G) := ⟨h⟩
    rw [hf] at hw4
    clear h hn
    go_enter Tryd.func40, Tryd.ntmps40
    go_wp2
    go_end0
    have h := Hh.out
    refine ⟨rfl, ?_, ?_⟩
    · rw [hP]
      refine h.wlk _ _ _ ((Onl.set _ _ _ _).trans (Onl.set _ _ _ _)) ?_
      rw [heap_setCell_same _ _ _ _ _ _ (heap_setCell_same _ _ _ _ _ _ h.hw)]
      simp [wlkC]
    · exact Fr.onl h.Bw (by rw [h.lwb]; simp) ((Onl.set _ _ _ _).trans (Onl.set _ _ _ _))
  · have hP : refuseP l i c s = s := by unfold refuseP; rw [if_neg hf]
    have Hh : Bx (SRel B (.slice (some ⟨nb, no, none⟩) l.length nc) l.length W s G) := ⟨h⟩
    have e1 : (s.flt.2 == 0) = false := by rw [beq_eq_false_iff_ne]; exact hf
    generalize s.flt.2 = f2 at *
    clear h hn
    go_enter Tryd.func40, Tryd.ntmps40
    go_wp2
    go_end0
    refine ⟨rfl, ?_, Fr.refl _ _ _⟩
    rw [hP]
    exact Hh.out
/-- where the walk stands: the walker, the nodes, all else as it was at the beginning -/
structure ST (B nb no nc : Nat) (l : List Nd) (W0 : World) (G0 : WG) (W : World) (s : SSt) (G : WG) : Prop where
  rel : SRel B (.slice (some ⟨nb, no, none⟩) l.length nc) l.length W s G
  nds : Nodes W B nb no nc l
  fr : Fr B W0 G0 W G
section
variable {B nb no nc : Nat} {l : List Nd} {W0 W W' : World} {G0 G G' : WG} {s s' : SSt}
theorem ST.step (h : ST B nb no nc l W0 G0 W s G) (hr : SRel B (.slice (some ⟨nb, no, none⟩) l.length nc) l.length W' s' G') (hf : Fr B W G W' G') : ST B nb no nc l W0 G0 W' s' G' := ⟨hr, h.nds.below hf.bel, h.fr.trans hf⟩
theorem below_dr (W : World) (q : Nat) : Below W.heap.size W (W.drewN q) := ⟨rfl, rfl, rfl, Nat.le_refl _, fun _ _ => rfl⟩
theorem ST.ext (h : ST B nb no nc l W0 G0 W s G) (hb : Below W.heap.size W W') : ST B nb no nc l W0 G0 W' s G := h.step (h.rel.below hb) (Fr.below hb (Nat.le_of_lt h.rel.Bs))
theorem ST.drew (h : ST B nb no nc l W0 G0 W s G) (q : Nat) : ST B nb no nc l W0 G0 (W.drewN q) s G := h.ext (below_dr W q)
theorem ST.start (h : SRel B (.slice (some ⟨nb, no, none⟩) l.length nc) l.length W s G) (hn : Nodes W B nb no nc l) : ST B nb no nc l W G W s G := ⟨h, hn, Fr.refl _ _ _⟩
end
theorem refuse_any {B nb no nc : Nat} {l : List Nd} {W0 W : World} {s : SSt} {G0 G : WG} (i : Nat) (c : Int) (h : ST B nb no nc l W0 G0 W s G) (hi : i < l.length) :
    Calls Tryd.prog 40 #[.pointer (some ⟨G.wb, 0, none⟩), .int .i64 i, .int .i64 c] W fun e W' => e = .returned (.tuple #[]) ∧ ST B nb no nc l W0 G0 W' (refuseP l i c s) G :=
  (refuse_one i c h.rel h.nds hi).mono fun e W' ⟨h1, h2, h3⟩ => ⟨h1, h.step h2 h3⟩
end Go.Proofs.YtjjbgbadkbomlaaDoor
