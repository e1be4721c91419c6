import Derived.Test.YtjjbgbadkbomlaaDoorCSU
import Derived.Test.YtjjbgbadkbomlaaDoorCSP4
namespace Go.Proofs.YtjjbgbadkbomlaaDoor
open Go.RowKit Go.Maps
set_option linter.unusedVariables false
set_option linter.unusedSimpArgs false
section
variable {B : Nat} {lv : Value} {N : Nat} {W W' : World} {s : SSt} {G : WG}
/-- the row of what a prog captures grows -/
def rowG (G : WG) (p g : Nat) (v : Value) : WG := { G with fv := upd G.fv p v, lab := upd G.lab g (.row p) }
theorem SRel.growRow (h : SRel B lv N W s G) (p : Nat) (hp : p < N) (hfl : s.free.length = N) (d : Int) {W2 W3 : World} {g cap n : Nat} (hn : n = (s.free.getD p []).length) (hb2 : Below W.heap.size W W2) (hown : W3.ownsRow B 3 1 (.slice (some ⟨g, 0, none⟩) (n + 1) cap) (n + 1) (intsC (s.free.getD p []) ++ [.int .i64 d])) (hg : W2.grownBy W3 (G.fv p).ownBlock)
    (hat : (G.fv p).ownBlock = some g ∨ g = W2.heap.size) (hlt : g < W3.heap.size) :
    SRel B lv N (W3.setCell ⟨G.fb, p, none⟩ (.slice (some ⟨g, 0, none⟩) (n + 1) cap)) { s with free := s.free.set p (s.free.getD p [] ++ [d]) } (rowG G p g (.slice (some ⟨g, 0, none⟩) (n + 1) cap)) ∧ Fr B W G (W3.setCell ⟨G.fb, p, none⟩ (.slice (some ⟨g, 0, none⟩) (n + 1) cap)) (rowG G p g (.slice (some ⟨g, 0, none⟩) (n + 1) cap)) := by
  generalize hv : Value.slice (some ⟨g, 0, none⟩) (n + 1) cap = v at *
  have hBs := h.Bs
  have hsz2 := hb2.size
  have hsz3 := hg.size
  have ho := Onl.set G.fb W3 p v
  generalize hW4 : W3.setCell ⟨G.fb, p, none⟩ v = W4 at *
  have hgl : ∀ b t, G.lab b = t → t ≠ .out → t ≠ .row p → b ≠ g := by
    intro b t hl ht hd e
    rcases hat with ha | ha
    · have := h.lrow p g hp ha
      rw [← e, hl] at this
      exact hd this
    · have := h.lt hl ht
      omega
  have hlab : ∀ b t, G.lab b = t → t ≠ .out → t ≠ .row p → upd G.lab g (.row p) b = t := fun b t hl ht hd => by rw [upd_other (hgl b t hl ht hd), hl]
  have hS3 : Same W W3 G (fun t => t ≠ .row p) := fun b hb hq => by
    have hlt := (h.lo b hb).2
    refine (hg.block b (by omega) fun e => hq (h.lrow p b hp e.symm)).trans (hb2.block b hlt)
  have hS : Same W W4 G (fun t => t ≠ .row p ∧ t ≠ .free) := fun b hb hq => (ho.block b fun e => hq.2 (by rw [e]; exact h.lfb)).trans (hS3 b hb hq.1)
  have hf3 : W3.heap[G.fb]? = some (.cells ((List.range N).map G.fv).toArray 25 (0, 0)) := h.k_free hS3 (by simp)
  have hrow : W4.ownsRow B 3 1 v (n + 1) (intsC (s.free.getD p []) ++ [.int .i64 d]) := row_same hown fun b hb => ho.block b fun e => by
    rw [← hv] at hb
    simp only [Value.ownBlock, Option.some.injEq] at hb
    exact hgl G.fb _ h.lfb (by simp) (by simp) (by omega)
  have hBg : B ≤ g := by
    rcases hat with ha | ha
    · exact h.lb (by rw [h.lrow p g hp ha]; simp)
    · omega
  refine ⟨⟨?_, hlab _ _ h.lwb (by simp) (by simp), hlab _ _ h.lmb (by simp) (by simp), hlab _ _ h.lrb (by simp) (by simp), hlab _ _ h.lfb (by simp) (by simp), fun m hm => hlab _ _ (h.lmn m hm) (by simp) (by simp), ?_, fun b hb => hlab _ _ (h.ldv b hb) (by simp) (by simp),
    fun b hb => hlab _ _ (h.lgv b hb) (by simp) (by simp), fun k hk => hlab _ _ (h.lwc k hk) (by simp) (by simp), fun k hk => hlab _ _ (h.lpc k hk) (by simp) (by simp), fun k hk => hlab _ _ (h.ltc k hk) (by simp) (by simp), fun k b hk hb => hlab _ _ (h.ltv k b hk hb) (by simp) (by simp),
    h.k_w hS (by simp), h.k_map hS (by simp), h.k_ref hS (by simp), ?_, ?_, fun m hm => h.k_mn hS hm (by simp), h.k_dv hS (by simp), h.k_gv hS (by simp), fun k hk => h.k_wc hS hk (by simp), fun k hk => h.k_pc hS hk (by simp), fun k hk => h.k_tc hS hk (by simp), fun k hk => h.k_tk hS hk (by simp), h.gnl⟩, ?_⟩
  · intro b hb
    rw [ho.size]
    by_cases e : b = g
    · exact ⟨by omega, by omega⟩
    · have hb' : G.lab b ≠ .out := by
        intro hc; apply hb; show upd G.lab g _ b = _; rw [upd_other e]; exact hc
      have := h.lo b hb'
      exact ⟨this.1, by omega⟩
  · intro i b hi hb
    change (upd G.fv p v i).ownBlock = some b at hb
    show upd G.lab g _ b = _
    by_cases e : i = p
    · rw [e, upd_same, ← hv] at hb
      simp only [Value.ownBlock, Option.some.injEq] at hb
      rw [← hb, upd_same, e]
    · rw [upd_other e] at hb
      exact hlab _ _ (h.lrow i b hi hb) (by simp) (by intro hc; cases hc; exact e rfl)
  · rw [← hW4]
    show (W3.setCell ⟨G.fb, p, none⟩ v).heap[G.fb]? = some (.cells ((List.range N).map (upd G.fv p v)).toArray _ _)
    rw [heap_setCell_same _ _ _ _ _ _ hf3]
    have e : (((List.range N).map G.fv).toArray.setIfInBounds p v) = ((List.range N).map (upd G.fv p v)).toArray := by
      apply Array.ext_getElem?
      intro j
      rw [Array.getElem?_setIfInBounds]
      simp only [List.getElem?_toArray, List.getElem?_map, List.size_toArray, List.length_map, List.length_range]
      by_cases e : p = j
      · subst e
        rw [if_pos rfl, if_pos hp, List.getElem?_range hp]
        simp [upd]
      · rw [if_neg e]
        by_cases hj : j < N
        · rw [List.getElem?_range hj]; simp [upd, Ne.symm e]
        · rw [List.getElem?_eq_none (by simp; omega)]; rfl
    rw [e]
  · intro i hi
    show W4.ownsRow B _ 1 (upd G.fv p v i) ((s.free.set p (s.free.getD p [] ++ [d])).getD i []).length (intsC ((s.free.set p (s.free.getD p [] ++ [d])).getD i []))
    rw [getD_set_list]
    by_cases e : i = p
    · subst e
      rw [upd_same, if_pos ⟨rfl, by omega⟩]
      simp only [List.length_append, List.length_singleton, intsC, List.map_append, List.map_cons, List.map_nil]
      rw [← hn]
      exact hrow
    · rw [upd_other e, if_neg (fun hc => e hc.1.symm)]
      exact h.k_row hS hi ⟨by intro hc; cases hc; exact e rfl, by simp⟩
  · have hBf : B ≤ G.fb := h.lb (by rw [h.lfb]; simp)
    refine ⟨ho.bel _ _ hBf ((hb2.mono (by omega)).grown hg (by omega) (fun j hj => h.lb (by rw [h.lrow p j hp hj]; simp))), fun b hb hl => ⟨?_, ?_⟩, rfl, fun _ _ => ⟨rfl, rfl⟩, rfl⟩
    · rw [ho.block b (fun e => by rw [e, h.lfb] at hl; cases hl), hg.block b (by omega) (fun e => by rw [h.lrow p b hp e.symm] at hl; cases hl), hb2.block b hb]
    · show upd G.lab g _ b = _
      rw [upd_other, hl]
      intro e
      rcases hat with ha | ha
      · rw [e, h.lrow p g hp ha] at hl; cases hl
      · omega
/-- the row of what an open prog took grows -/
def tkG (G : WG) (k g : Nat) (v : Value) : WG := { G with tv := upd G.tv k v, lab := upd G.lab g (.tk k) }
theorem SRel.growTk (h : SRel B lv N W s G) (k m : Nat) (hk : k < s.gat.length) {W2 W3 : World} {g cap n : Nat} (hn : n = (gatS s k).2.length) (hb2 : Below W.heap.size W W2) (hown : W3.ownsRow B 61 1 (.slice (some ⟨g, 0, none⟩) (n + 1) cap) (n + 1) (((gatS s k).2.map fun m => ptrV (G.mB m)) ++ [ptrV (G.mB m)])) (hg : W2.grownBy W3 (G.tv k).ownBlock)
    (hat : (G.tv k).ownBlock = some g ∨ g = W2.heap.size) (hlt : g < W3.heap.size) :
    SRel B lv N (W3.setCell ⟨G.tc k, 0, none⟩ (.slice (some ⟨g, 0, none⟩) (n + 1) cap)) { s with gat := s.gat.set k ((gatS s k).1, (gatS s k).2 ++ [m]) } (tkG G k g (.slice (some ⟨g, 0, none⟩) (n + 1) cap)) ∧ Fr B W G (W3.setCell ⟨G.tc k, 0, none⟩ (.slice (some ⟨g, 0, none⟩) (n + 1) cap)) (tkG G k g (.slice (some ⟨g, 0, none⟩) (n + 1) cap)) := by
  generalize hv : Value.slice (some ⟨g, 0, none⟩) (n + 1) cap = v at *
  have hBs := h.Bs
  have hsz2 := hb2.size
  have hsz3 := hg.size
  have ho := Onl.set (G.tc k) W3 0 v
  generalize hW4 : W3.setCell ⟨G.tc k, 0, none⟩ v = W4 at *
  have hgl : ∀ b t, G.lab b = t → t ≠ .out → t ≠ .tk k → b ≠ g := by
    intro b t hl ht hd e
    rcases hat with ha | ha
    · have := h.ltv k g hk ha
      rw [← e, hl] at this
      exact hd this
    · have := h.lt hl ht
      omega
  have hlab : ∀ b t, G.lab b = t → t ≠ .out → t ≠ .tk k → upd G.lab g (.tk k) b = t := fun b t hl ht hd => by rw [upd_other (hgl b t hl ht hd), hl]
  have hS3 : Same W W3 G (fun t => t ≠ .tk k) := fun b hb hq => by
    have hlt := (h.lo b hb).2
    refine (hg.block b (by omega) fun e => hq (h.ltv k b hk e.symm)).trans (hb2.block b hlt)
  have hS : Same W W4 G (fun t => t ≠ .tk k ∧ t ≠ .tc k) := fun b hb hq => (ho.block b fun e => hq.2 (by rw [e]; exact h.ltc k hk)).trans (hS3 b hb hq.1)
  have hf3 : W3.heap[G.tc k]? = some (.cells #[G.tv k] 82 (0, 0)) := h.k_tc hS3 hk (by simp)
  have hrow : W4.ownsRow B 61 1 v (n + 1) (((gatS s k).2.map fun m => ptrV (G.mB m)) ++ [ptrV (G.mB m)]) := row_same hown fun b hb => ho.block b fun e => by
    rw [← hv] at hb
    simp only [Value.ownBlock, Option.some.injEq] at hb
    exact hgl (G.tc k) _ (h.ltc k hk) (by simp) (by simp) (by omega)
  have hBg : B ≤ g := by
    rcases hat with ha | ha
    · exact h.lb (by rw [h.ltv k g hk ha]; simp)
    · omega
  have hgl' : (s.gat.set k ((gatS s k).1, (gatS s k).2 ++ [m])).length = s.gat.length := by simp
  have hGS : ∀ j, gatS { s with gat := s.gat.set k ((gatS s k).1, (gatS s k).2 ++ [m]) } j = if j = k then ((gatS s k).1, (gatS s k).2 ++ [m]) else gatS s j := fun j => gatS_set (s := s) rfl hk
  refine ⟨⟨?_, hlab _ _ h.lwb (by simp) (by simp), hlab _ _ h.lmb (by simp) (by simp), hlab _ _ h.lrb (by simp) (by simp), hlab _ _ h.lfb (by simp) (by simp), fun m hm => hlab _ _ (h.lmn m hm) (by simp) (by simp), fun i b hi hb => hlab _ _ (h.lrow i b hi hb) (by simp) (by simp), fun b hb => hlab _ _ (h.ldv b hb) (by simp) (by simp),
    fun b hb => hlab _ _ (h.lgv b hb) (by simp) (by simp), fun j hj => hlab _ _ (h.lwc j (hgl' ▸ hj)) (by simp) (by simp), fun j hj => hlab _ _ (h.lpc j (hgl' ▸ hj)) (by simp) (by simp), fun j hj => hlab _ _ (h.ltc j (hgl' ▸ hj)) (by simp) (by simp), ?_,
    h.k_w hS (by simp), h.k_map hS (by simp), h.k_ref hS (by simp), h.k_free hS (by simp), fun i hi => h.k_row hS hi (by simp), fun m hm => h.k_mn hS hm (by simp), h.k_dv hS (by simp), ?_, fun j hj => h.k_wc hS (hgl' ▸ hj) (by simp), ?_, ?_, ?_, by show G.gn ≤ (s.gat.set k _).length; rw [hgl']; exact h.gnl⟩, ?_⟩
  · intro b hb
    rw [ho.size]
    by_cases e : b = g
    · exact ⟨by omega, by omega⟩
    · have hb' : G.lab b ≠ .out := by
        intro hc; apply hb; show upd G.lab g _ b = _; rw [upd_other e]; exact hc
      have := h.lo b hb'
      exact ⟨this.1, by omega⟩
  · intro j b hj hb
    have hj : j < s.gat.length := hgl' ▸ hj
    change (upd G.tv k v j).ownBlock = some b at hb
    show upd G.lab g _ b = _
    by_cases e : j = k
    · rw [e, upd_same, ← hv] at hb
      simp only [Value.ownBlock, Option.some.injEq] at hb
      rw [← hb, upd_same, e]
    · rw [upd_other e] at hb
      exact hlab _ _ (h.ltv j b hj hb) (by simp) (by intro hc; cases hc; exact e rfl)
  · show W4.ownsRow B _ 1 G.gv (s.gat.set k _).length ((List.range (s.gat.set k _).length).map (takeV G))
    rw [hgl']
    exact h.k_gv hS (by simp)
  · intro j hj
    have hj : j < s.gat.length := hgl' ▸ hj
    rw [hGS]
    have := h.k_pc hS hj (by simp)
    show W4.heap[G.pc j]? = _
    rw [this]
    split
    · rename_i e; rw [e]
    · rfl
  · intro j hj
    have hj : j < s.gat.length := hgl' ▸ hj
    show W4.heap[G.tc j]? = some (.cells #[upd G.tv k v j] _ _)
    by_cases e : j = k
    · rw [e, upd_same, ← hW4]
      rw [heap_setCell_same _ _ _ _ _ _ hf3]
      rfl
    · rw [upd_other e]
      exact h.k_tc hS hj ⟨by simp, by intro hc; cases hc; exact e rfl⟩
  · intro j hj
    have hj : j < s.gat.length := hgl' ▸ hj
    rw [hGS]
    show W4.ownsRow B _ 1 (upd G.tv k v j) _ _
    by_cases e : j = k
    · rw [if_pos e, e, upd_same]
      simp only [List.length_append, List.length_singleton, List.map_append, List.map_cons, List.map_nil]
      rw [← hn]
      exact hrow
    · rw [if_neg e, upd_other e]
      exact h.k_tk hS hj ⟨by intro hc; cases hc; exact e rfl, by simp⟩
  · have hBf : B ≤ G.tc k := h.lb (by rw [h.ltc k hk]; simp)
    refine ⟨ho.bel _ _ hBf ((hb2.mono (by omega)).grown hg (by omega) (fun j hj => h.lb (by rw [h.ltv k j hk hj]; simp))), fun b hb hl => ⟨?_, ?_⟩, rfl, fun _ _ => ⟨rfl, rfl⟩, rfl⟩
    · rw [ho.block b (fun e => by rw [e, h.ltc k hk] at hl; cases hl), hg.block b (by omega) (fun e => by rw [h.ltv k b hk e.symm] at hl; cases hl), hb2.block b hb]
    · show upd G.lab g _ b = _
      rw [upd_other, hl]
      intro e
      rcases hat with ha | ha
      · rw [e, h.ltv k g hk ha] at hl; cases hl
      · omega
end
end Go.Proofs.YtjjbgbadkbomlaaDoor
namespace Go.Proofs.YtjjbgbadkbomlaaDoor
open Go.RowKit Go.Maps
set_option linter.unusedVariables false
set_option linter.unusedSimpArgs false
theorem row_take {W : World} {base : Nat} {e : TypeId} {g n cap m : Nat} {xs : List Value} (h : W.ownsRow base e 1 (.slice (some ⟨g, 0, none⟩) n cap) n xs) (hm : m ≤ n) : W.ownsRow base e 1 (.slice (some ⟨g, 0, none⟩) m cap) m (xs.take m) := by
  refine ⟨by rw [List.length_take, h.1]; omega, .inr ?_⟩
  rcases h.2 with ⟨h1, _⟩ | ⟨g', cap', cur, hv, hb, hg, h1, h2, h3, h4⟩
  · cases h1
  · simp only [Value.slice.injEq, Option.some.injEq, Addr.mk.injEq, true_and] at hv
    obtain ⟨⟨rfl, _⟩, rfl⟩ := hv
    refine ⟨g, cap, cur, rfl, hb, hg, by omega, h2, h3, ?_⟩
    rw [← h4, List.take_take]
    congr 1
    omega
section
variable {B : Nat} {lv : Value} {N : Nat} {W W' : World} {s : SSt} {G : WG}
/-- a prog is opened -/
def pushG (G : WG) (n g a b c : Nat) (v : Value) : WG :=
  { G with gv := v, wc := upd G.wc n a, pc := upd G.pc n b, tc := upd G.tc n c, tv := upd G.tv n (.slice none 0 0), lab := upd (upd (upd (upd G.lab g .gat) a (.wc n)) b (.pc n)) c (.tc n) }
theorem SRel.push (h : SRel B lv N W s G) (i : Nat) {W1 W3 : World} {a b c g cap n : Nat} (hn : n = s.gat.length) (hb1 : Below W.heap.size W W1) (ha : W.heap.size ≤ a ∧ a < W1.heap.size) (hb : W.heap.size ≤ b ∧ b < W1.heap.size) (hc : W.heap.size ≤ c ∧ c < W1.heap.size) (hab : a ≠ b) (hac : a ≠ c) (hbc : b ≠ c)
    (ca : W1.heap[a]? = some (.cells #[ptrV G.wb] 49 (0, 0))) (cb : W1.heap[b]? = some (.cells #[.int .i64 i] 3 (0, 0))) (cc : W1.heap[c]? = some (.cells #[.slice none 0 0] 82 (0, 0)))
    (hown : W3.ownsRow B 73 1 (.slice (some ⟨g, 0, none⟩) (n + 1) cap) (n + 1) ((List.range n).map (takeV G) ++ [.func (.func 59) #[] #[ptrV a, ptrV b, ptrV c]])) (hg : W1.grownBy W3 G.gv.ownBlock) (hat : G.gv.ownBlock = some g ∨ g = W1.heap.size) (hlt : g < W3.heap.size) :
    SRel B lv N (W3.setCell ⟨G.wb, 8, none⟩ (.slice (some ⟨g, 0, none⟩) (n + 1) cap)) { s with gat := s.gat ++ [(i, [])] } (pushG G n g a b c (.slice (some ⟨g, 0, none⟩) (n + 1) cap)) ∧ Fr B W G (W3.setCell ⟨G.wb, 8, none⟩ (.slice (some ⟨g, 0, none⟩) (n + 1) cap)) (pushG G n g a b c (.slice (some ⟨g, 0, none⟩) (n + 1) cap)) := by
  subst hn
  generalize hv : Value.slice (some ⟨g, 0, none⟩) (s.gat.length + 1) cap = v at *
  have hBs := h.Bs
  have hsz2 := hb1.size
  have hsz3 := hg.size
  have ho := Onl.set G.wb W3 8 v
  generalize hW4 : W3.setCell ⟨G.wb, 8, none⟩ v = W4 at *
  have hwlt := h.lt h.lwb (by simp)
  have hgl : ∀ x t, G.lab x = t → t ≠ .out → t ≠ .gat → x ≠ g := by
    intro x t hl ht hd e
    rcases hat with ha | ha
    · have := h.lgv g ha
      rw [← e, hl] at this
      exact hd this
    · have := h.lt hl ht
      omega
  have hga : g ≠ a ∧ g ≠ b ∧ g ≠ c := by
    rcases hat with e | e
    · have := h.lt (h.lgv g e) (by simp)
      omega
    · omega
  have hlab : ∀ x t, G.lab x = t → t ≠ .out → t ≠ .gat → upd (upd (upd (upd G.lab g .gat) a (.wc s.gat.length)) b (.pc s.gat.length)) c (.tc s.gat.length) x = t := fun x t hl ht hd => by
    have := h.lt hl ht
    rw [upd_other (by omega), upd_other (by omega), upd_other (by omega), upd_other (hgl x t hl ht hd), hl]
  have hS3 : Same W W3 G (fun t => t ≠ .gat) := fun x hx hp => by
    have hlt := (h.lo x hx).2
    refine (hg.block x (by omega) fun e => hp (h.lgv x e.symm)).trans (hb1.block x hlt)
  have hS : Same W W4 G (fun t => t ≠ .gat ∧ t ≠ .wlk) := fun x hx hp => (ho.block x fun e => hp.2 (by rw [e]; exact h.lwb)).trans (hS3 x hx hp.1)
  have hw3 : W3.heap[G.wb]? = some (.cells (wlkC lv N s G) 56 (0, 0)) := h.k_w hS3 (by simp)
  have hnew : ∀ x o, W.heap.size ≤ x → W1.heap[x]? = some o → W4.heap[x]? = some o := fun x o hx hxo => by
    have hx1 := (Array.getElem?_eq_some_iff.1 hxo).1
    rw [ho.block x (by omega), hg.block x hx1 (fun e => by have := h.lt (h.lgv x e.symm) (by simp); omega)]
    exact hxo
  have hrow : W4.ownsRow B 73 1 v (s.gat.length + 1) ((List.range s.gat.length).map (takeV G) ++ [.func (.func 59) #[] #[ptrV a, ptrV b, ptrV c]]) := row_same hown fun x hx => ho.block x fun e => by
    rw [← hv] at hx
    simp only [Value.ownBlock, Option.some.injEq] at hx
    exact hgl G.wb _ h.lwb (by simp) (by simp) (by omega)
  have hBg : B ≤ g := by
    rcases hat with ha | ha
    · exact h.lb (by rw [h.lgv g ha]; simp)
    · omega
  have hln : (s.gat ++ [(i, [])]).length = s.gat.length + 1 := by simp
  have hk' : ∀ k, k < (s.gat ++ [(i, ([] : List Nat))]).length → k < s.gat.length ∨ k = s.gat.length := fun k hk => by rw [hln] at hk; omega
  refine ⟨⟨?_, hlab _ _ h.lwb (by simp) (by simp), hlab _ _ h.lmb (by simp) (by simp), hlab _ _ h.lrb (by simp) (by simp), hlab _ _ h.lfb (by simp) (by simp), fun m hm => hlab _ _ (h.lmn m hm) (by simp) (by simp), fun j x hj hx => hlab _ _ (h.lrow j x hj hx) (by simp) (by simp), fun x hx => hlab _ _ (h.ldv x hx) (by simp) (by simp), ?_, ?_, ?_, ?_, ?_,
    ?_, h.k_map hS (by simp), h.k_ref hS (by simp), h.k_free hS (by simp), fun j hj => h.k_row hS hj (by simp), fun m hm => h.k_mn hS hm (by simp), h.k_dv hS (by simp), ?_, ?_, ?_, ?_, ?_, by show G.gn ≤ (s.gat ++ [(i, [])]).length; rw [hln]; exact Nat.le_succ_of_le h.gnl⟩, ?_⟩
  · intro x hx
    rw [ho.size]
    by_cases e1 : x = a
    · exact ⟨by omega, by omega⟩
    by_cases e2 : x = b
    · exact ⟨by omega, by omega⟩
    by_cases e3 : x = c
    · exact ⟨by omega, by omega⟩
    by_cases e4 : x = g
    · exact ⟨by omega, by omega⟩
    · have hx' : G.lab x ≠ .out := by
        intro hc; apply hx
        show upd (upd (upd (upd G.lab g .gat) a _) b _) c _ x = _
        rw [upd_other e3, upd_other e2, upd_other e1, upd_other e4]; exact hc
      have := h.lo x hx'
      exact ⟨this.1, by omega⟩
  · intro x hx
    change v.ownBlock = some x at hx
    rw [← hv] at hx
    simp only [Value.ownBlock, Option.some.injEq] at hx
    show upd (upd (upd (upd G.lab g .gat) a _) b _) c _ x = _
    rw [← hx, upd_other hga.2.2, upd_other hga.2.1, upd_other hga.1, upd_same]
  · intro k hk
    show upd (upd (upd (upd G.lab g .gat) a _) b _) c _ (upd G.wc s.gat.length a k) = _
    rcases hk' k hk with e | e
    · rw [show upd G.wc s.gat.length a k = G.wc k from upd_other (by omega)]; exact hlab _ _ (h.lwc k e) (by simp) (by simp)
    · rw [e, show upd G.wc s.gat.length a s.gat.length = a from upd_same _ _ _, upd_other hac, upd_other hab, upd_same]
  · intro k hk
    show upd (upd (upd (upd G.lab g .gat) a _) b _) c _ (upd G.pc s.gat.length b k) = _
    rcases hk' k hk with e | e
    · rw [show upd G.pc s.gat.length b k = G.pc k from upd_other (by omega)]; exact hlab _ _ (h.lpc k e) (by simp) (by simp)
    · rw [e, show upd G.pc s.gat.length b s.gat.length = b from upd_same _ _ _, upd_other hbc, upd_same]
  · intro k hk
    show upd (upd (upd (upd G.lab g .gat) a _) b _) c _ (upd G.tc s.gat.length c k) = _
    rcases hk' k hk with e | e
    · rw [show upd G.tc s.gat.length c k = G.tc k from upd_other (by omega)]; exact hlab _ _ (h.ltc k e) (by simp) (by simp)
    · rw [e, show upd G.tc s.gat.length c s.gat.length = c from upd_same _ _ _, upd_same]
  · intro k x hk hx
    change (upd G.tv s.gat.length (.slice none 0 0) k).ownBlock = some x at hx
    rcases hk' k hk with e | e
    · rw [upd_other (by omega)] at hx; exact hlab _ _ (h.ltv k x e hx) (by simp) (by simp)
    · rw [e, upd_same] at hx; cases hx
  · rw [← hW4]
    show (W3.setCell ⟨G.wb, 8, none⟩ v).heap[G.wb]? = _
    rw [heap_setCell_same _ _ _ _ _ _ hw3]
    simp [wlkC, pushG]
  · show W4.ownsRow B _ 1 v (s.gat ++ [(i, [])]).length _
    rw [hln]
    have e : (List.range (s.gat.length + 1)).map (takeV (pushG G s.gat.length g a b c v)) = (List.range s.gat.length).map (takeV G) ++ [.func (.func 59) #[] #[ptrV a, ptrV b, ptrV c]] := by
      rw [List.range_succ, List.map_append]
      congr 1
      · apply List.map_congr_left
        intro k hk
        have hk : k < s.gat.length := by simpa using hk
        unfold takeV pushG
        simp only [upd_other (show k ≠ s.gat.length by omega)]
      · simp [takeV, pushG, upd]
    rw [e]
    exact hrow
  · intro k hk
    show W4.heap[upd G.wc s.gat.length a k]? = some (.cells #[ptrV G.wb] _ _)
    rcases hk' k hk with e | e
    · rw [upd_other (by omega)]; exact h.k_wc hS e (by simp)
    · rw [e, upd_same]; exact hnew a _ ha.1 ca
  · intro k hk
    show W4.heap[upd G.pc s.gat.length b k]? = some (.cells #[.int .i64 (gatS _ k).1] _ _)
    rw [gatS_push]
    rcases hk' k hk with e | e
    · rw [upd_other (by omega), if_neg (by omega)]; exact h.k_pc hS e (by simp)
    · rw [e, upd_same, if_pos rfl]; exact hnew b _ hb.1 cb
  · intro k hk
    show W4.heap[upd G.tc s.gat.length c k]? = some (.cells #[upd G.tv s.gat.length (.slice none 0 0) k] _ _)
    rcases hk' k hk with e | e
    · rw [upd_other (by omega), upd_other (by omega)]; exact h.k_tc hS e (by simp)
    · rw [e, upd_same, upd_same]; exact hnew c _ hc.1 cc
  · intro k hk
    show W4.ownsRow B _ 1 (upd G.tv s.gat.length (.slice none 0 0) k) (gatS _ k).2.length ((gatS _ k).2.map fun m => ptrV (G.mB m))
    rw [gatS_push]
    rcases hk' k hk with e | e
    · rw [upd_other (by omega), if_neg (by omega)]; exact h.k_tk hS e (by simp)
    · rw [e, upd_same, if_pos rfl]; exact ⟨rfl, .inl ⟨rfl, rfl⟩⟩
  · have hBw := h.Bw
    refine ⟨ho.bel _ _ hBw ((hb1.mono (by omega)).grown hg (by omega) (fun j hj => h.lb (by rw [h.lgv j hj]; simp))), fun x hx hl => ⟨?_, ?_⟩, rfl, fun k hk => ⟨upd_other (by have := h.gnl; omega), upd_other (by have := h.gnl; omega)⟩, rfl⟩
    · rw [ho.block x (fun e => by rw [e, h.lwb] at hl; cases hl), hg.block x (by omega) (fun e => by rw [h.lgv x e.symm] at hl; cases hl), hb1.block x hx]
    · show upd (upd (upd (upd G.lab g .gat) a _) b _) c _ x = _
      rw [upd_other (by omega), upd_other (by omega), upd_other (by omega), upd_other, hl]
      intro e
      rcases hat with q | q
      · rw [e, h.lgv g q] at hl; cases hl
      · omega
/-- .. and closed -/
def popG (G : WG) (v : Value) : WG := { G with gv := v }
theorem SRel.pop (h : SRel B lv N W s G) {n g cap : Nat} (hgn : G.gn ≤ n) (hn : s.gat.length = n + 1) (hgv : G.gv = .slice (some ⟨g, 0, none⟩) (n + 1) cap) {W' : World} (hW : W' = W.setCell ⟨G.wb, 8, none⟩ (.slice (some ⟨g, 0, none⟩) n cap)) :
    SRel B lv N W' { s with gat := s.gat.take n } (popG G (.slice (some ⟨g, 0, none⟩) n cap)) ∧ Fr B W G W' (popG G (.slice (some ⟨g, 0, none⟩) n cap)) := by
  have ho : Onl G.wb W W' := by rw [hW]; exact Onl.set _ _ _ _
  have hS : Same W W' G (fun t => t ≠ .wlk) := fun b hb hp => ho.block b fun e => hp (by rw [e]; exact h.lwb)
  have hlen : (s.gat.take n).length = n := by simp; omega
  have hk : ∀ k, k < (s.gat.take n).length → k < s.gat.length := fun k hk => by rw [hlen] at hk; omega
  have hG : ∀ k, k < n → gatS { s with gat := s.gat.take n } k = gatS s k := fun k hk => by
    unfold gatS
    simp only [List.getD_eq_getElem?_getD, List.getElem?_take]
    rw [if_pos hk]
  refine ⟨⟨fun b hb => ⟨(h.lo b hb).1, by rw [ho.size]; exact (h.lo b hb).2⟩, h.lwb, h.lmb, h.lrb, h.lfb, h.lmn, h.lrow, h.ldv, fun b hb => h.lgv b (by rw [hgv]; exact hb), fun k q => h.lwc k (hk k q), fun k q => h.lpc k (hk k q), fun k q => h.ltc k (hk k q), fun k b q => h.ltv k b (hk k q), ?_, h.k_map hS (by simp), h.k_ref hS (by simp), h.k_free hS (by simp),
    fun i hi => h.k_row hS hi (by simp), fun m hm => h.k_mn hS hm (by simp), h.k_dv hS (by simp), ?_, fun k q => h.k_wc hS (hk k q) (by simp), fun k q => ?_, fun k q => h.k_tc hS (hk k q) (by simp), fun k q => ?_, by show G.gn ≤ (s.gat.take n).length; rw [hlen]; exact hgn⟩, ?_⟩
  · rw [hW]
    show (W.setCell ⟨G.wb, 8, none⟩ (.slice (some ⟨g, 0, none⟩) n cap)).heap[G.wb]? = _
    rw [heap_setCell_same _ _ _ _ _ _ h.hw]
    simp [wlkC, popG]
  · show W'.ownsRow B _ 1 (.slice (some ⟨g, 0, none⟩) n cap) (s.gat.take n).length ((List.range (s.gat.take n).length).map (takeV G))
    rw [hlen]
    have := h.k_gv hS (by simp)
    rw [hgv, hn] at this
    have := row_take this (m := n) (by omega)
    rw [← List.map_take, List.take_range, Nat.min_eq_left (by omega)] at this
    exact this
  · have q' : k < n := by rw [← hlen]; exact q
    rw [hG k q']
    exact h.k_pc hS (hk k q) (by simp)
  · have q' : k < n := by rw [← hlen]; exact q
    rw [hG k q']
    exact h.k_tk hS (hk k q) (by simp)
  · exact ⟨ho.bel _ _ h.Bw (Below.refl _ _), fun b _ hl => ⟨ho.block b fun e => (by rw [e, h.lwb] at hl; cases hl), hl⟩, rfl, fun _ _ => ⟨rfl, rfl⟩, rfl⟩
end
end Go.Proofs.YtjjbgbadkbomlaaDoor
