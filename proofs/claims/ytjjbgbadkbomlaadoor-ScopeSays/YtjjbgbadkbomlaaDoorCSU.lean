import Derived.Test.YtjjbgbadkbomlaaDoorCSM
import Derived.Test.YtjjbgbadkbomlaaDoorCSP4
namespace Go.Proofs.YtjjbgbadkbomlaaDoor
open Go.RowKit Go.Maps
set_option linter.unusedVariables false
set_option linter.unusedSimpArgs false

def upd {α : Type} (f : Nat → α) (k : Nat) (v : α) : Nat → α := fun x => if x = k then v else f x
theorem upd_same {α : Type} (f : Nat → α) (k : Nat) (v : α) : upd f k v k = v := by simp [upd]
theorem upd_other {α : Type} {f : Nat → α} {k : Nat} {v : α} {x : Nat} (h : x ≠ k) : upd f k v x = f x := by simp [upd, h]
/-- a new meaning, and the map tells it -/
def putG (G : WG) (H n : Nat) : WG := { G with mB := upd G.mB n H, lab := upd G.lab H (.mn n) }
def put1 (nm : ByteArray) (i : Nat) (o : Option Nat) (s : SSt) : SSt :=
  { s with ms := s.ms ++ [⟨i, s.blocks, s.gat.length, o, s.gat.length⟩], sc := fun x => if x = nm then some s.ms.length else s.sc x }
section
variable {B : Nat} {lv : Value} {N : Nat} {W W' : World} {s : SSt} {G : WG}
theorem SRel.lt (h : SRel B lv N W s G) {b : Nat} {t : Lab} (hl : G.lab b = t) (ht : t ≠ .out) : b < W.heap.size := (h.lo b (by rw [hl]; exact ht)).2
/-- a block beyond all gets a label: the others keep theirs -/
theorem SRel.lab_new (h : SRel B lv N W s G) {b H : Nat} {t t' : Lab} (hl : G.lab b = t) (ht : t ≠ .out) (hH : W.heap.size ≤ H) : upd G.lab H t' b = t := by
  rw [upd_other (by have := h.lt hl ht; omega), hl]
theorem put1_mn {nm : ByteArray} {i : Nat} {o : Option Nat} {m : Nat} (hm : m < s.ms.length) : mnS (put1 nm i o s) m = mnS s m := put_old (nm := nm) (i := i) (o := o) hm
theorem put1_new (nm : ByteArray) (i : Nat) (o : Option Nat) : mnS (put1 nm i o s) s.ms.length = ⟨i, s.blocks, s.gat.length, o, s.gat.length⟩ := put_new nm i o s
theorem mnC_same {mB mB' : Nat → Nat} {x : Mn} (h : ∀ m, x.outer = some m → mB' m = mB m) : mnC mB' x = mnC mB x := by
  unfold mnC
  have : outV mB' x.outer = outV mB x.outer := by
    cases e : x.outer with
    | none => rfl
    | some m => show ptrV (mB' m) = ptrV (mB m); rw [h m e]
  rw [this]
theorem SRel.put1 {l : List Nd} (h : SRel B lv N W s G) (hwf : SWf l s) (nm : ByteArray) (i : Nat) (o : Option Nat) (ho : o = s.sc nm) (hnm : nm.size ≤ maxLen) (hbd : s.ms.length < 4294967296) (q : Nat) :
    ∃ W2, (Instr.mapUpdate 52 (.map (some G.mb)) (.string nm) (.pointer (some ⟨W.heap.size, 0, none⟩))).run Tryd.prog ((W.drewN q).alloc (.cells #[.int .i64 i, .int .i64 s.blocks, .int .i64 s.gat.length, outV G.mB o] 63)) = .ok () W2
      ∧ SRel B lv N W2 (put1 nm i o s) (putG G W.heap.size s.ms.length) ∧ Fr B W G W2 (putG G W.heap.size s.ms.length) := by
  obtain ⟨D, h1, h2, h3⟩ := h.hmap
  generalize hW1 : (W.drewN q).alloc (.cells #[.int .i64 i, .int .i64 s.blocks, .int .i64 s.gat.length, outV G.mB o] 63) = W1
  have hb1 : Below W.heap.size W W1 := by rw [← hW1]; exact (below_dr W q).alloc (Nat.le_refl _) _
  have hs1 : W1.heap.size = W.heap.size + 1 := by rw [← hW1]; simp
  have hnew : W1.heap[W.heap.size]? = some (.cells #[.int .i64 i, .int .i64 s.blocks, .int .i64 s.gat.length, outV G.mB o] 63 (0, 0)) := by rw [← hW1]; exact heap_alloc_new (W.drewN q) _
  have hmlt : G.mb < W.heap.size := h.lt h.lmb (by simp)
  have h1' := owns_same h1 (hb1.block G.mb hmlt)
  obtain ⟨W2, hrun, hown2, hturn⟩ := h1'.store keyedS Tryd.underlying52 (by unfold maxLen; omega) (key := .string nm) (val := .pointer (some ⟨W.heap.size, 0, none⟩)) (WideMaps.keyOf_string_mk Tryd.underlying9 hnm) (mnElem_ptr W.heap.size)
  have hg := hturn.grown
  have hblk : ∀ b, b < W1.heap.size → b ≠ G.mb → W2.heap[b]? = W1.heap[b]? := fun b hb hne => hg.block b hb (by simpa using hne)
  have hold : ∀ b, b < W.heap.size → b ≠ G.mb → W2.heap[b]? = W.heap[b]? := fun b hb hne => (hblk b (by omega) hne).trans (hb1.block b hb)
  have hsz : W.heap.size + 1 ≤ W2.heap.size := by have := hg.size; omega
  have hS : Same W W2 G (fun t => t ≠ .map) := fun b hb hp => hold b (h.lo b hb).2 fun e => hp (by rw [e]; exact h.lmb)
  have hml : ∀ m, m < s.ms.length → upd G.mB s.ms.length W.heap.size m = G.mB m := fun m hm => upd_other (by omega)
  have hln : (Go.Proofs.YtjjbgbadkbomlaaDoor.put1 nm i o s).ms.length = s.ms.length + 1 := by simp [Go.Proofs.YtjjbgbadkbomlaaDoor.put1]
  refine ⟨W2, hrun, ⟨?_, h.lab_new h.lwb (by simp) (Nat.le_refl _), h.lab_new h.lmb (by simp) (Nat.le_refl _), h.lab_new h.lrb (by simp) (Nat.le_refl _), h.lab_new h.lfb (by simp) (Nat.le_refl _), ?_, fun j b hj hb => h.lab_new (h.lrow j b hj hb) (by simp) (Nat.le_refl _),
    fun b hb => h.lab_new (h.ldv b hb) (by simp) (Nat.le_refl _), fun b hb => h.lab_new (h.lgv b hb) (by simp) (Nat.le_refl _), fun k hk => h.lab_new (h.lwc k hk) (by simp) (Nat.le_refl _), fun k hk => h.lab_new (h.lpc k hk) (by simp) (Nat.le_refl _), fun k hk => h.lab_new (h.ltc k hk) (by simp) (Nat.le_refl _), fun k b hk hb => h.lab_new (h.ltv k b hk hb) (by simp) (Nat.le_refl _),
    h.k_w hS (by simp), ?_, h.k_ref hS (by simp), h.k_free hS (by simp), fun j hj => h.k_row hS hj (by simp), ?_, h.k_dv hS (by simp), h.k_gv hS (by simp), fun k hk => h.k_wc hS hk (by simp), fun k hk => h.k_pc hS hk (by simp), fun k hk => h.k_tc hS hk (by simp), ?_, h.gnl⟩, ?_⟩
  · intro b hb
    by_cases e : b = W.heap.size
    · have := h.Bs
      exact ⟨by omega, by omega⟩
    · have hb' : G.lab b ≠ .out := by
        intro hc; apply hb; show upd G.lab W.heap.size _ b = _; rw [upd_other e]; exact hc
      have := h.lo b hb'
      exact ⟨this.1, by omega⟩
  · intro m hm
    rw [hln] at hm
    show upd G.lab W.heap.size (.mn s.ms.length) (upd G.mB s.ms.length W.heap.size m) = .mn m
    by_cases e : m = s.ms.length
    · rw [e, upd_same, upd_same]
    · have hm' : m < s.ms.length := by omega
      rw [hml m hm']
      exact h.lab_new (h.lmn m hm') (by simp) (Nat.le_refl _)
  · refine ⟨D.put (keyL nm) (.lit (.int .i64 W.heap.size)), owns_size hown2, ?_, ?_⟩
    · have := hown2.size_le
      rw [hln]
      have : Maps.size (D.put (keyL nm) (.lit (.int .i64 W.heap.size))) ≤ Maps.size D + 1 := this
      omega
    · have h3' : ScIs s.sc (upd G.mB s.ms.length W.heap.size) D := h3.more fun x m e => hml m (hwf.tops x m e)
      have := h3'.put (sc' := (Go.Proofs.YtjjbgbadkbomlaaDoor.put1 nm i o s).sc) nm s.ms.length (fun x => rfl)
      rw [upd_same] at this
      exact this
  · intro m hm
    rw [hln] at hm
    show W2.heap[upd G.mB s.ms.length W.heap.size m]? = _
    by_cases e : m = s.ms.length
    · have e2 : mnC (upd G.mB s.ms.length W.heap.size) (mnS (Go.Proofs.YtjjbgbadkbomlaaDoor.put1 nm i o s) s.ms.length) = #[.int .i64 i, .int .i64 s.blocks, .int .i64 s.gat.length, outV G.mB o] := by
        rw [put1_new]
        exact mnC_same (mB := G.mB) (x := ⟨i, s.blocks, s.gat.length, o, s.gat.length⟩) fun m' e' => hml m' (hwf.tops nm m' (by rw [← ho]; exact e'))
      rw [e, upd_same, hblk _ (by omega) (by omega), hnew]
      show _ = some (Obj.cells (mnC (upd G.mB s.ms.length W.heap.size) _) _ _)
      rw [e2]
    · have hm' : m < s.ms.length := by omega
      have e2 : mnC (upd G.mB s.ms.length W.heap.size) (mnS (Go.Proofs.YtjjbgbadkbomlaaDoor.put1 nm i o s) m) = mnC G.mB (mnS s m) := by
        rw [put1_mn hm']
        exact mnC_same fun m' e' => hml m' (Nat.lt_trans (hwf.outs m m' e') hm')
      rw [hml m hm', h.k_mn hS hm' (by simp)]
      show _ = some (Obj.cells (mnC (upd G.mB s.ms.length W.heap.size) _) _ _)
      rw [e2]
  · intro k hk
    have := h.k_tk hS hk (by simp)
    have e : ((gatS s k).2.map fun m => ptrV (upd G.mB s.ms.length W.heap.size m)) = (gatS s k).2.map fun m => ptrV (G.mB m) := by
      apply List.map_congr_left
      intro m hm
      rw [hml m (hwf.gids k m hm)]
    show W2.ownsRow B _ 1 (G.tv k) (gatS s k).2.length ((gatS s k).2.map fun m => ptrV (upd G.mB s.ms.length W.heap.size m))
    rw [e]
    exact this
  · have hBs := h.Bs
    have hBm : B ≤ G.mb := h.lb (by rw [h.lmb]; simp)
    refine ⟨(hb1.mono (by omega)).grown hg (by omega) (fun j hj => by simp at hj; omega), fun b hb hl => ⟨hold b hb fun e => (by rw [e, h.lmb] at hl; cases hl), ?_⟩, rfl, fun _ _ => ⟨rfl, rfl⟩, rfl⟩
    show upd G.lab W.heap.size _ b = _
    rw [upd_other (by omega)]
    exact hl
/-- the row of what is declared grows -/
def dclG (G : WG) (g : Nat) (v : Value) : WG := { G with dv := v, lab := upd G.lab g .dcl }
theorem SRel.grow (h : SRel B lv N W s G) (nm : ByteArray) {W2 W3 : World} {g cap : Nat} (hb2 : Below W.heap.size W W2) (hown : W3.ownsRow B 9 1 (.slice (some ⟨g, 0, none⟩) (s.dcl.length + 1) cap) (s.dcl.length + 1) (s.dcl.map .string ++ [.string nm])) (hg : W2.grownBy W3 G.dv.ownBlock)
    (hat : G.dv.ownBlock = some g ∨ g = W2.heap.size) (hlt : g < W3.heap.size) :
    SRel B lv N (W3.setCell ⟨G.wb, 7, none⟩ (.slice (some ⟨g, 0, none⟩) (s.dcl.length + 1) cap)) { s with dcl := s.dcl ++ [nm] } (dclG G g (.slice (some ⟨g, 0, none⟩) (s.dcl.length + 1) cap)) ∧ Fr B W G (W3.setCell ⟨G.wb, 7, none⟩ (.slice (some ⟨g, 0, none⟩) (s.dcl.length + 1) cap)) (dclG G g (.slice (some ⟨g, 0, none⟩) (s.dcl.length + 1) cap)) := by
  generalize hv : Value.slice (some ⟨g, 0, none⟩) (s.dcl.length + 1) cap = v at *
  have hBs := h.Bs
  have hsz2 := hb2.size
  have hsz3 := hg.size
  have ho := Onl.set G.wb W3 7 v
  generalize hW4 : W3.setCell ⟨G.wb, 7, none⟩ v = W4 at *
  -- the block g: that of what is declared, or new
  have hgl : ∀ b t, G.lab b = t → t ≠ .out → t ≠ .dcl → b ≠ g := by
    intro b t hl ht hd e
    rcases hat with ha | ha
    · have := h.ldv g ha
      rw [← e, hl] at this
      exact hd this
    · have := h.lt hl ht
      omega
  have hlab : ∀ b t, G.lab b = t → t ≠ .out → t ≠ .dcl → upd G.lab g .dcl b = t := fun b t hl ht hd => by rw [upd_other (hgl b t hl ht hd), hl]
  have hS3 : Same W W3 G (fun t => t ≠ .dcl) := fun b hb hp => by
    have hlt := (h.lo b hb).2
    refine (hg.block b (by omega) fun e => hp (h.ldv b e.symm)).trans (hb2.block b hlt)
  have hS : Same W W4 G (fun t => t ≠ .dcl ∧ t ≠ .wlk) := fun b hb hp => (ho.block b fun e => hp.2 (by rw [e]; exact h.lwb)).trans (hS3 b hb hp.1)
  have hw3 : W3.heap[G.wb]? = some (.cells (wlkC lv N s G) 56 (0, 0)) := h.k_w hS3 (by simp)
  have hrow : W4.ownsRow B 9 1 v (s.dcl.length + 1) (s.dcl.map .string ++ [.string nm]) := row_same hown fun b hb => ho.block b fun e => by
    rw [← hv] at hb
    simp only [Value.ownBlock, Option.some.injEq] at hb
    exact hgl G.wb _ h.lwb (by simp) (by simp) (by omega)
  have hBg : B ≤ g := by
    rcases hat with ha | ha
    · exact h.lb (by rw [h.ldv g ha]; simp)
    · omega
  refine ⟨⟨?_, hlab _ _ h.lwb (by simp) (by simp), hlab _ _ h.lmb (by simp) (by simp), hlab _ _ h.lrb (by simp) (by simp), hlab _ _ h.lfb (by simp) (by simp), fun m hm => hlab _ _ (h.lmn m hm) (by simp) (by simp), fun j b hj hb => hlab _ _ (h.lrow j b hj hb) (by simp) (by simp), ?_,
    fun b hb => hlab _ _ (h.lgv b hb) (by simp) (by simp), fun k hk => hlab _ _ (h.lwc k hk) (by simp) (by simp), fun k hk => hlab _ _ (h.lpc k hk) (by simp) (by simp), fun k hk => hlab _ _ (h.ltc k hk) (by simp) (by simp), fun k b hk hb => hlab _ _ (h.ltv k b hk hb) (by simp) (by simp),
    ?_, h.k_map hS (by simp), h.k_ref hS (by simp), h.k_free hS (by simp), fun j hj => h.k_row hS hj (by simp), fun m hm => h.k_mn hS hm (by simp), ?_, h.k_gv hS (by simp), fun k hk => h.k_wc hS hk (by simp), fun k hk => h.k_pc hS hk (by simp), fun k hk => h.k_tc hS hk (by simp), fun k hk => h.k_tk hS hk (by simp), h.gnl⟩, ?_⟩
  · intro b hb
    rw [ho.size]
    by_cases e : b = g
    · exact ⟨by omega, by omega⟩
    · have hb' : G.lab b ≠ .out := by
        intro hc; apply hb; show upd G.lab g _ b = _; rw [upd_other e]; exact hc
      have := h.lo b hb'
      exact ⟨this.1, by omega⟩
  · intro b hb
    change v.ownBlock = some b at hb
    rw [← hv] at hb
    simp only [Value.ownBlock, Option.some.injEq] at hb
    show upd G.lab g _ b = _
    rw [← hb, upd_same]
  · rw [← hW4]
    show (W3.setCell ⟨G.wb, 7, none⟩ v).heap[G.wb]? = _
    rw [heap_setCell_same _ _ _ _ _ _ hw3]
    simp [wlkC, dclG]
  · show W4.ownsRow B _ 1 v (s.dcl ++ [nm]).length ((s.dcl ++ [nm]).map .string)
    simp only [List.length_append, List.length_singleton, List.map_append, List.map_cons, List.map_nil]
    exact hrow
  · have hBw := h.Bw
    refine ⟨ho.bel _ _ hBw ((hb2.mono (by omega)).grown hg (by omega) (fun j hj => h.lb (by rw [h.ldv j hj]; simp))), fun b hb hl => ⟨?_, ?_⟩, rfl, fun _ _ => ⟨rfl, rfl⟩, rfl⟩
    · rw [ho.block b (fun e => by rw [e, h.lwb] at hl; cases hl), hg.block b (by omega) (fun e => by rw [h.ldv b e.symm] at hl; cases hl), hb2.block b hb]
    · show upd G.lab g _ b = _
      rw [upd_other, hl]
      intro e
      rcases hat with ha | ha
      · rw [e, h.ldv g ha] at hl; cases hl
      · omega
end
end Go.Proofs.YtjjbgbadkbomlaaDoor
namespace Go.Proofs.YtjjbgbadkbomlaaDoor
open Go.RowKit Go.Maps
set_option linter.unusedVariables false
set_option linter.unusedSimpArgs false
section
variable {B : Nat} {lv : Value} {N : Nat} {W W' : World} {s : SSt} {G : WG}
theorem SRel.c_ref (h : SRel B lv N W s G) {i : Nat} (hi : i < s.ref.length) : W.cell? ⟨G.rb, i, none⟩ = some (.int .i64 (s.ref.getD i 0)) ∧ W.frozen? ⟨G.rb, i, none⟩ = false := by
  refine ⟨?_, by simp [World.frozen?, h.href]⟩
  rw [cell_of_row W _ i _ _ _ h.href]
  simp [intsC, List.getD_eq_getElem?_getD, List.getElem?_eq_getElem hi]
theorem SRel.setRef (h : SRel B lv N W s G) (i : Nat) (d : Int) (hi : i < s.ref.length) :
    SRel B lv N (W.setCell ⟨G.rb, i, none⟩ (.int .i64 d)) { s with ref := s.ref.set i d } G ∧ Fr B W G (W.setCell ⟨G.rb, i, none⟩ (.int .i64 d)) G := by
  have ho := Onl.set G.rb W i (.int .i64 d)
  have hS : Same W (W.setCell ⟨G.rb, i, none⟩ (.int .i64 d)) G (fun t => t ≠ .ref) := fun b hb hp => ho.block b fun e => hp (by rw [e]; exact h.lrb)
  refine ⟨⟨fun b hb => ⟨(h.lo b hb).1, by rw [ho.size]; exact (h.lo b hb).2⟩, h.lwb, h.lmb, h.lrb, h.lfb, h.lmn, h.lrow, h.ldv, h.lgv, h.lwc, h.lpc, h.ltc, h.ltv, h.k_w hS (by simp), h.k_map hS (by simp), ?_, h.k_free hS (by simp),
    fun i hi => h.k_row hS hi (by simp), fun m hm => h.k_mn hS hm (by simp), h.k_dv hS (by simp), h.k_gv hS (by simp), fun k hk => h.k_wc hS hk (by simp), fun k hk => h.k_pc hS hk (by simp), fun k hk => h.k_tc hS hk (by simp), fun k hk => h.k_tk hS hk (by simp), h.gnl⟩, Fr.onl (h.lb (by rw [h.lrb]; simp)) (by rw [h.lrb]; simp) ho⟩
  rw [heap_setCell_same _ _ _ _ _ _ h.href]
  simp [intsC, List.map_set]
theorem SRel.c_mn (h : SRel B lv N W s G) {m : Nat} (hm : m < s.ms.length) (j : Nat) : W.cell? ⟨G.mB m, j, none⟩ = (mnC G.mB (mnS s m))[j]? ∧ W.frozen? ⟨G.mB m, j, none⟩ = false :=
  ⟨cell_of_row W _ j _ _ _ (h.hmn m hm), by simp [World.frozen?, h.hmn m hm]⟩
theorem SRel.setDone (h : SRel B lv N W s G) (m d : Nat) (hm : m < s.ms.length) :
    SRel B lv N (W.setCell ⟨G.mB m, 2, none⟩ (.int .i64 d)) (doneP m d s) G ∧ Fr B W G (W.setCell ⟨G.mB m, 2, none⟩ (.int .i64 d)) G := by
  have ho := Onl.set (G.mB m) W 2 (.int .i64 d)
  have hl := h.lmn m hm
  have hS : Same W (W.setCell ⟨G.mB m, 2, none⟩ (.int .i64 d)) G (fun t => t ≠ .mn m) := fun b hb hp => ho.block b fun e => hp (by rw [e]; exact hl)
  have hln : (doneP m d s).ms.length = s.ms.length := by simp [doneP]
  refine ⟨⟨fun b hb => ⟨(h.lo b hb).1, by rw [ho.size]; exact (h.lo b hb).2⟩, h.lwb, h.lmb, h.lrb, h.lfb, fun x hx => h.lmn x (by rw [← hln]; exact hx), h.lrow, h.ldv, h.lgv, h.lwc, h.lpc, h.ltc, h.ltv, h.k_w hS (by simp), ?_, h.k_ref hS (by simp), h.k_free hS (by simp),
    fun i hi => h.k_row hS hi (by simp), ?_, h.k_dv hS (by simp), h.k_gv hS (by simp), fun k hk => h.k_wc hS hk (by simp), fun k hk => h.k_pc hS hk (by simp), fun k hk => h.k_tc hS hk (by simp), fun k hk => h.k_tk hS hk (by simp), h.gnl⟩, Fr.onl (h.lb (by rw [hl]; simp)) (by rw [hl]; simp) ho⟩
  · obtain ⟨D, a, b, c⟩ := h.k_map hS (by simp)
    exact ⟨D, a, by rw [hln]; exact b, c⟩
  · intro x hx
    rw [hln] at hx
    rw [done_mn _ _ _ _ hm]
    by_cases e : x = m
    · subst e
      rw [heap_setCell_same _ _ _ _ _ _ (h.hmn x hm), if_pos rfl]
      simp [mnC]
    · rw [if_neg e]
      exact h.k_mn hS hx (by intro hc; cases hc; exact e rfl)
end
end Go.Proofs.YtjjbgbadkbomlaaDoor
namespace Go.Proofs.YtjjbgbadkbomlaaDoor
open Go.RowKit Go.Maps
set_option linter.unusedVariables false
set_option linter.unusedSimpArgs false
/-- a block begins: what was declared is laid aside -/
noncomputable def entG (G : WG) : WG := { G with dv := .slice none 0 0, lab := fun b => if G.dv.ownBlock = some b then .out else G.lab b }
/-- .. and comes back -/
noncomputable def leaG (G2 : WG) (v : Value) : WG := { G2 with dv := v, lab := fun b => if v.ownBlock = some b then .dcl else G2.lab b }
section
variable {B : Nat} {lv : Value} {N : Nat} {W W' : World} {s : SSt} {G : WG}
theorem SRel.enter (h : SRel B lv N W s G) {W' : World} (hW : W' = (W.setCell ⟨G.wb, 7, none⟩ (.slice none 0 0)).setCell ⟨G.wb, 6, none⟩ (.int .i64 ((s.blocks + 1 : Nat) : Int))) :
    SRel B lv N W' { s with dcl := [], blocks := s.blocks + 1 } (entG G) ∧ Fr B W G W' (entG G) := by
  have ho : Onl G.wb W W' := by rw [hW]; exact (Onl.set _ _ _ _).trans (Onl.set _ _ _ _)
  have hS : Same W W' G (fun t => t ≠ .wlk) := fun b hb hp => ho.block b fun e => hp (by rw [e]; exact h.lwb)
  have hl : ∀ b t, G.lab b = t → t ≠ .dcl → (entG G).lab b = t := fun b t hb ht => by
    show (if G.dv.ownBlock = some b then Lab.out else G.lab b) = t
    rw [if_neg, hb]
    intro e
    have := h.ldv b e
    rw [hb] at this
    exact ht this
  refine ⟨⟨?_, hl _ _ h.lwb (by simp), hl _ _ h.lmb (by simp), hl _ _ h.lrb (by simp), hl _ _ h.lfb (by simp), fun m hm => hl _ _ (h.lmn m hm) (by simp), fun i b hi hb => hl _ _ (h.lrow i b hi hb) (by simp), fun b hb => (by cases hb), fun b hb => hl _ _ (h.lgv b hb) (by simp), fun k hk => hl _ _ (h.lwc k hk) (by simp), fun k hk => hl _ _ (h.lpc k hk) (by simp), fun k hk => hl _ _ (h.ltc k hk) (by simp), fun k b hk hb => hl _ _ (h.ltv k b hk hb) (by simp),
    ?_, h.k_map hS (by simp), h.k_ref hS (by simp), h.k_free hS (by simp), fun i hi => h.k_row hS hi (by simp), fun m hm => h.k_mn hS hm (by simp), ⟨rfl, .inl ⟨rfl, rfl⟩⟩, h.k_gv hS (by simp), fun k hk => h.k_wc hS hk (by simp), fun k hk => h.k_pc hS hk (by simp), fun k hk => h.k_tc hS hk (by simp), fun k hk => h.k_tk hS hk (by simp), h.gnl⟩, ?_⟩
  · intro b hb
    rw [ho.size]
    refine h.lo b fun hc => hb ?_
    show (if G.dv.ownBlock = some b then Lab.out else G.lab b) = .out
    split
    · rfl
    · exact hc
  · rw [hW]
    show ((W.setCell ⟨G.wb, 7, none⟩ (.slice none 0 0)).setCell ⟨G.wb, 6, none⟩ (.int .i64 ((s.blocks + 1 : Nat) : Int))).heap[G.wb]? = _
    rw [heap_setCell_same _ _ _ _ _ _ (heap_setCell_same _ _ _ _ _ _ h.hw)]
    simp [wlkC, entG]
  · refine ⟨ho.bel _ _ h.Bw (Below.refl _ _), fun b hb hl => ⟨ho.block b fun e => (by rw [e, h.lwb] at hl; cases hl), ?_⟩, rfl, fun _ _ => ⟨rfl, rfl⟩, rfl⟩
    show (if G.dv.ownBlock = some b then Lab.out else G.lab b) = .out
    split
    · rfl
    · exact hl
theorem SRel.mapSet (h : SRel B lv N W s G) (ht : W.mapTurned W' G.mb) (sc' : ByteArray → Option Nat) {D : DataW Unit} {n : Nat} (hown : W'.ownsMap Tryd.prog 9 mnElem G.mb n D) (hsz : Maps.size D ≤ s.ms.length) (hsc : ScIs sc' G.mB D) :
    SRel B lv N W' { s with sc := sc' } G ∧ Fr B W G W' G := by
  have hg := ht.grown
  have hlt : ∀ b, G.lab b ≠ .out → b < W.heap.size := fun b hb => (h.lo b hb).2
  have hS : Same W W' G (fun t => t ≠ .map) := fun b hb hp => hg.block b (hlt b hb) fun e => hp (by simp at e; rw [e]; exact h.lmb)
  have hBm : B ≤ G.mb := h.lb (by rw [h.lmb]; simp)
  refine ⟨⟨fun b hb => ⟨(h.lo b hb).1, Nat.lt_of_lt_of_le (h.lo b hb).2 hg.size⟩, h.lwb, h.lmb, h.lrb, h.lfb, h.lmn, h.lrow, h.ldv, h.lgv, h.lwc, h.lpc, h.ltc, h.ltv, h.k_w hS (by simp), ⟨D, owns_size hown, hsz, hsc⟩, h.k_ref hS (by simp), h.k_free hS (by simp),
    fun i hi => h.k_row hS hi (by simp), fun m hm => h.k_mn hS hm (by simp), h.k_dv hS (by simp), h.k_gv hS (by simp), fun k hk => h.k_wc hS hk (by simp), fun k hk => h.k_pc hS hk (by simp), fun k hk => h.k_tc hS hk (by simp), fun k hk => h.k_tk hS hk (by simp), h.gnl⟩, ?_⟩
  exact ⟨(Below.refl _ _).grown hg (Nat.le_of_lt h.Bs) (fun j hj => by simp at hj; omega), fun b hb hl => ⟨hg.block b hb fun e => (by simp at e; rw [e, h.lmb] at hl; cases hl), hl⟩, rfl, fun _ _ => ⟨rfl, rfl⟩, rfl⟩
/-- the block's end: what was laid aside comes back -/
theorem SRel.leave (h : SRel B lv N W s G) {W1 Wr Wf : World} {G2 : WG} {s2 : SSt} (h1 : Fr B W G W1 (entG G)) (hsz1 : W1.heap.size = W.heap.size) (hd1 : ∀ b, G.dv.ownBlock = some b → W1.heap[b]? = W.heap[b]?) (hf : Fr B W1 (entG G) Wr G2) (hr : SRel B lv N Wr s2 G2)
    (hW : Wf = (Wr.setCell ⟨G.wb, 6, none⟩ (.int .i64 ((s2.blocks - 1 : Nat) : Int))).setCell ⟨G.wb, 7, none⟩ G.dv) :
    SRel B lv N Wf { s2 with blocks := s2.blocks - 1, dcl := s.dcl } (leaG G2 G.dv) ∧ Fr B W G Wf (leaG G2 G.dv) := by
  have hwb : G2.wb = G.wb := hf.wb
  have ho : Onl G.wb Wr Wf := by rw [hW]; exact (Onl.set _ _ _ _).trans (Onl.set _ _ _ _)
  have hlwb : G2.lab G.wb = .wlk := by rw [← hwb]; exact hr.lwb
  have hS : Same Wr Wf G2 (fun t => t ≠ .wlk) := fun b hb hp => ho.block b fun e => hp (by rw [e]; exact hlwb)
  have hent : ∀ b, G.dv.ownBlock = some b → (entG G).lab b = .out := fun b hb => if_pos hb
  have hblt : ∀ b, G.dv.ownBlock = some b → b < W1.heap.size := fun b hb => by rw [hsz1]; exact h.lt (h.ldv b hb) (by simp)
  have hout : ∀ b, G.dv.ownBlock = some b → G2.lab b = .out := fun b hb => (hf.keep b (hblt b hb) (hent b hb)).2
  have hl : ∀ b t, G2.lab b = t → t ≠ .out → (leaG G2 G.dv).lab b = t := fun b t hb ht => by
    show (if G.dv.ownBlock = some b then Lab.dcl else G2.lab b) = t
    rw [if_neg, hb]
    intro e
    rw [hout b e] at hb
    exact ht hb.symm
  refine ⟨⟨?_, hl _ _ hr.lwb (by simp), hl _ _ hr.lmb (by simp), hl _ _ hr.lrb (by simp), hl _ _ hr.lfb (by simp), fun m hm => hl _ _ (hr.lmn m hm) (by simp), fun i b hi hb => hl _ _ (hr.lrow i b hi hb) (by simp), fun b hb => if_pos hb, fun b hb => hl _ _ (hr.lgv b hb) (by simp), fun k hk => hl _ _ (hr.lwc k hk) (by simp), fun k hk => hl _ _ (hr.lpc k hk) (by simp), fun k hk => hl _ _ (hr.ltc k hk) (by simp), fun k b hk hb => hl _ _ (hr.ltv k b hk hb) (by simp),
    ?_, hr.k_map hS (by simp), hr.k_ref hS (by simp), hr.k_free hS (by simp), fun i hi => hr.k_row hS hi (by simp), fun m hm => hr.k_mn hS hm (by simp), ?_, hr.k_gv hS (by simp), fun k hk => hr.k_wc hS hk (by simp), fun k hk => hr.k_pc hS hk (by simp), fun k hk => hr.k_tc hS hk (by simp), fun k hk => hr.k_tk hS hk (by simp), hr.gnl⟩, ?_⟩
  · intro b hb
    rw [ho.size]
    by_cases e : G.dv.ownBlock = some b
    · have := hblt b e
      have := hf.size
      exact ⟨h.lb (by rw [h.ldv b e]; simp), by omega⟩
    · refine hr.lo b fun hc => hb ?_
      show (if G.dv.ownBlock = some b then Lab.dcl else G2.lab b) = .out
      rw [if_neg e]
      exact hc
  · rw [hW]
    show ((Wr.setCell ⟨G.wb, 6, none⟩ (.int .i64 ((s2.blocks - 1 : Nat) : Int))).setCell ⟨G.wb, 7, none⟩ G.dv).heap[G2.wb]? = _
    rw [hwb]
    have hw := hr.hw
    rw [hwb] at hw
    rw [heap_setCell_same _ _ _ _ _ _ (heap_setCell_same _ _ _ _ _ _ hw)]
    simp [wlkC, leaG]
  · refine row_same h.hdv fun b hb => ?_
    rw [ho.block b (fun e => by rw [e] at hb; have := hout _ hb; rw [hlwb] at this; cases this), (hf.keep b (hblt b hb) (hent b hb)).1, hd1 b hb]
  · have hBw : B ≤ G.wb := h.Bw
    refine ⟨ho.bel _ _ hBw (h1.bel.trans hf.bel), fun b hb hlb => ?_, hwb, fun k hk => hf.gs k hk, hf.ge⟩
    have hne : G.dv.ownBlock ≠ some b := fun e => by rw [h.ldv b e] at hlb; cases hlb
    obtain ⟨a1, a2⟩ := h1.keep b hb hlb
    obtain ⟨b1, b2⟩ := hf.keep b (by omega) a2
    refine ⟨?_, ?_⟩
    · rw [ho.block b (fun e => by rw [e, hlwb] at b2; cases b2), b1, a1]
    · show (if G.dv.ownBlock = some b then Lab.dcl else G2.lab b) = .out
      rw [if_neg hne]
      exact b2
end
end Go.Proofs.YtjjbgbadkbomlaaDoor
