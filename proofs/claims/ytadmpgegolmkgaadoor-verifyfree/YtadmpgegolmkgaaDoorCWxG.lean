import Derived.Test.YtadmpgegolmkgaaDoorCWxD
import Derived.Test.YtadmpgegolmkgaaDoorCDP
import Derived.Deep.RegionHeld
import Derived.Deep.QuietTactic
import Derived.BigQuiet
namespace Go.Proofs.YtadmpgegolmkgaaDoor
open Go.RowKit
set_option linter.unusedVariables false
set_option linter.unusedSimpArgs false

/-! ### a unit that was lent reads as it did -/
theorem own_row {α : Type} {W : World} {B s n c : Nat} {t : TypeId} {a : Option Addr} {cs : List Value} (h : W.ownsRow B t s (.slice a n c) n cs) {E : Nat → Nat → α → Prop} (l : List α) (hl : l.length = n) (hE : ∀ g, a = some ⟨g, 0, none⟩ → g < W.heap.size → ∀ j (hj : j < l.length), E g (j * s) l[j]) : Row E W.heap.size s a c l := by
  rcases h.2 with ⟨e, hn⟩ | ⟨g, cap, cur, e, hB, hg, q1, q2, q3, q4⟩
  · subst hn
    exact ⟨by omega, by omega, fun h0 => by omega⟩
  · simp only [Value.slice.injEq, true_and] at e
    obtain ⟨e1, e2⟩ := e
    subst e1 e2
    exact ⟨by omega, by omega, fun h0 => ⟨g, 0, rfl, heap_lt hg, fun j hj => by rw [Nat.zero_add]; exact hE g rfl (heap_lt hg) j hj⟩⟩
theorem CodeAt.read {W : World} {B g c : Nat} {s : List CIn} {G : List (Nat × Nat)} (h : CodeAt W B g c s G) : Row (InAt W W.heap.size) W.heap.size 4 (some ⟨g, 0, none⟩) c s := by
  have hcap := h.cap
  have hmax := h.max
  refine ⟨by omega, by omega, fun h0 => ⟨g, 0, rfl, h.lt, fun j hj => ?_⟩⟩
  have hj2 : j < G.length := by have := h.len; omega
  have k := fun i hi => h.at_ j hj hj2 i hi
  rw [Nat.zero_add]
  exact ⟨some ⟨G[j].1, 0, none⟩, G[j].2, k 0 (by omega), k 1 (by omega), k 2 (by omega), k 3 (by omega), (h.kid j hj hj2).ints⟩
theorem LtU.read {W : World} {B : Nat} {pa ta : Option Addr} {pc tc : Nat} {u : CUn} {G : List (Nat × Nat)} {C : List PG} (h : LtU W B pa ta pc tc u G C) : UnIn W W.heap.size pa pc ta tc u := by
  have htl := h.tall.1
  have hpl := h.all.1
  refine ⟨own_row h.all u.progs rfl fun g e hg j hj => ?_, own_row h.tall u.types rfl fun g e hg j hj => ?_⟩
  · have hj2 : j < C.length := by have := h.len; omega
    have hall := h.all
    rw [e] at hall
    have k : ∀ i, i < 5 → W.cell? ⟨g, j * 5 + i, none⟩ = (pgL1 u.progs[j] C[j])[i]? := fun i hi => by
      rw [hall.cellAt (j * 5 + i) (by omega)]
      exact pgL_at _ _ j hj hj2 i hi
    exact ⟨some ⟨C[j].1.1, 0, none⟩, C[j].1.2, k 0 (by omega), k 1 (by omega), k 2 (by omega), k 3 (by omega), k 4 (by omega), (h.cod j hj hj2).read⟩
  · have hj2 : j < G.length := by have := h.tlen; omega
    have hall := h.tall
    rw [e] at hall
    have k : ∀ i, i < 3 → W.cell? ⟨g, j * 3 + i, none⟩ = (tyC1 u.types[j] G[j])[i]? := fun i hi => by
      rw [hall.cellAt (j * 3 + i) (by omega)]
      exact tyC_at _ _ j hj hj2 i hi
    exact ⟨some ⟨G[j].1, 0, none⟩, G[j].2, k 0 (by omega), k 1 (by omega), k 2 (by omega), (h.tkid j hj hj2).ints⟩
end Go.Proofs.YtadmpgegolmkgaaDoor
namespace Go.Proofs.YtadmpgegolmkgaaDoor
open Go.RowKit
set_option linter.unusedVariables false
set_option linter.unusedSimpArgs false

/-! ### writing over what was lent -/
def setX (x : CIn) (v : Int) : CIn := ⟨x.op, v, x.b, x.list⟩
def setC (l : List CIn) (m : Nat) (v : Int) : List CIn := l.set m (setX (inA l m) v)
theorem setC_len (l : List CIn) (m : Nat) (v : Int) : (setC l m v).length = l.length := by simp [setC]
theorem inA_eq {l : List CIn} {m : Nat} (h : m < l.length) : inA l m = l[m] := by
  unfold inA
  rw [List.getElem?_eq_getElem h]
  rfl
theorem cell_of_blk {w : World} {b i : Nat} {cs : Array Value} {t : TypeId} {fz : Nat × Nat} (h : w.heap[b]? = some (.cells cs t fz)) : w.cell? ⟨b, i, none⟩ = cs[i]? := by
  rw [World.cell?]
  simp only [h]
  rfl
theorem CodeAt.setA {W : World} {B g c : Nat} {s : List CIn} {G : List (Nat × Nat)} (h : CodeAt W B g c s G) {m : Nat} (hm : m < s.length) (v : Int) : CodeAt (W.setCell ⟨g, m * 4 + 1, none⟩ (.int .i64 v)) B g c (setC s m v) G := by
  obtain ⟨cs, hb⟩ := h.blk
  have hgl := h.len
  have hb2 := heap_setCell_same W g (m * 4 + 1) cs 43 (.int .i64 v) hb
  have h1 : ∀ x, W.cell? ⟨g, x, none⟩ = cs[x]? := fun x => cell_of_blk hb
  have h2 : ∀ x, (W.setCell ⟨g, m * 4 + 1, none⟩ (.int .i64 v)).cell? ⟨g, x, none⟩ = (cs.setIfInBounds (m * 4 + 1) (.int .i64 v))[x]? := fun x => cell_of_blk hb2
  have hsz : m * 4 + 1 < cs.size := by
    have := h.at_ m hm (by omega) 1 (by omega)
    rw [h1] at this
    exact (Array.getElem?_eq_some_iff.1 this).1
  refine ⟨h.base, ⟨_, hb2⟩, by rw [setC_len]; exact h.cap, h.max, by rw [setC_len]; exact h.len, fun i q1 q2 j hj => ?_, ?_, fun i q1 q2 => ?_⟩
  · have q0 : i < s.length := by rw [setC_len] at q1; exact q1
    rw [h2]
    by_cases e : i = m
    · subst e
      have hx : (setC s i v)[i] = setX s[i] v := by simp [setC, inA_eq q0]
      rw [hx]
      by_cases ej : j = 1
      · subst ej
        rw [Array.getElem?_setIfInBounds_self, if_pos hsz]
        rfl
      · rw [Array.getElem?_setIfInBounds_ne (by omega), ← h1, h.at_ i q0 q2 j hj]
        match j, hj, ej with
        | 0, _, _ => rfl
        | 2, _, _ => rfl
        | 3, _, _ => rfl
    · have hx : (setC s m v)[i] = s[i] := by simp [setC, List.getElem_set_ne (Ne.symm e)]
      rw [hx, Array.getElem?_setIfInBounds_ne (by omega), ← h1, h.at_ i q0 q2 j hj]
  · rw [setC_len, h2, Array.getElem?_setIfInBounds_ne (by omega), ← h1]
    exact h.mark
  · have q0 : i < s.length := by rw [setC_len] at q1; exact q1
    have hk := h.kid i q0 q2
    have hl : (setC s m v)[i].list = s[i].list := by
      by_cases e : i = m
      · subst e
        simp [setC, inA_eq q0, setX]
      · simp [setC, List.getElem_set_ne (Ne.symm e)]
    rw [hl]
    obtain ⟨cs2, hb3⟩ := hk.blk
    refine hk.later (Below.heap_setCell W ⟨g, m * 4 + 1, none⟩ _ _ (fun e => ?_)) (Nat.le_refl _)
    have e2 : G[i].1 = g := e
    rw [e2, hb] at hb3
    simp at hb3
def setPg (p : CPg) (m : Nat) (v : Int) : CPg := ⟨p.params, p.slots, p.caps, p.res, setC p.code m v⟩
def setU (u : CUn) (k m : Nat) (v : Int) : CUn := ⟨u.progs.set k (setPg (u.progs.getD k pgD) m v), u.types⟩
theorem pgL_set : ∀ (ps : List CPg) (C : List PG) (k : Nat) (q : CPg) (h : k < ps.length), (∀ g, pgL1 q g = pgL1 ps[k] g) → pgL (ps.set k q) C = pgL ps C
  | [], _, k, _, h, _ => by simp at h
  | p :: r, [], 0, q, h, he => by simp [pgL]
  | p :: r, g :: gs, 0, q, h, he => by
    have := he g
    simp only [List.getElem_cons_zero] at this
    simp [pgL, this]
  | p :: r, [], k + 1, q, h, he => by simp [pgL]
  | p :: r, g :: gs, k + 1, q, h, he => by
    rw [List.set_cons_succ, pgL, pgL, pgL_set r gs k q (by simpa using h) (fun g => by simpa using he g)]
theorem CodeAt.frame {W W' : World} {B g c : Nat} {s : List CIn} {G : List (Nat × Nat)} (h : CodeAt W B g c s G) (e : W'.heap[g]? = W.heap[g]?) (hb : ∀ (y : Nat) (cs : Array Value), W.heap[y]? = some (.cells cs 3 (0, 0)) → W'.heap[y]? = W.heap[y]?) : CodeAt W' B g c s G := by
  obtain ⟨cs, h1⟩ := h.blk
  have hc : ∀ i, W'.cell? ⟨g, i, none⟩ = W.cell? ⟨g, i, none⟩ := fun i => World.cell?_of_block (a := ⟨g, i, none⟩) e
  refine ⟨h.base, ⟨cs, e.trans h1⟩, h.cap, h.max, h.len, fun i a b j hj => by rw [hc]; exact h.at_ i a b j hj, by rw [hc]; exact h.mark, fun i a b => ?_⟩
  obtain ⟨cs2, k1⟩ := (h.kid i a b).blk
  exact (h.kid i a b).later (hb _ cs2 k1) (Nat.le_refl _)
theorem LtU.setA {W : World} {B : Nat} {pa ta : Option Addr} {pc tc : Nat} {u : CUn} {G : List (Nat × Nat)} {C : List PG} (h : LtU W B pa ta pc tc u G C) {k m : Nat} (hk : k < u.progs.length) (hk2 : k < C.length) (hm : m < u.progs[k].code.length) (v : Int) : LtU (W.setCell ⟨C[k].1.1, m * 4 + 1, none⟩ (.int .i64 v)) B pa ta pc tc (setU u k m v) G C := by
  have hck := h.cod k hk hk2
  obtain ⟨cs, hb⟩ := hck.blk
  have hfr : ∀ y, y ≠ C[k].1.1 → (W.setCell ⟨C[k].1.1, m * 4 + 1, none⟩ (.int .i64 v)).heap[y]? = W.heap[y]? := fun y hy => Below.heap_setCell W ⟨C[k].1.1, m * 4 + 1, none⟩ _ y hy
  have hty : ∀ (y : Nat) (cs' : Array Value) (t : TypeId) (fz : Nat × Nat), t ≠ 43 → W.heap[y]? = some (.cells cs' t fz) → y ≠ C[k].1.1 := fun y cs' t fz ht hy e => by
    rw [e, hb] at hy
    simp at hy
    exact ht hy.2.1.symm
  have hget : u.progs.getD k pgD = u.progs[k] := by rw [List.getD_eq_getElem?_getD, List.getElem?_eq_getElem hk]; rfl
  have hlen : (setU u k m v).progs.length = u.progs.length := by simp [setU]
  have hint : ∀ (y : Nat) (cs : Array Value), W.heap[y]? = some (.cells cs 3 (0, 0)) → (W.setCell ⟨C[k].1.1, m * 4 + 1, none⟩ (.int .i64 v)).heap[y]? = W.heap[y]? := fun y cs hy => hfr y (hty y cs _ _ (by decide) hy)
  refine ⟨h.tlen, own_same h.tall fun g o hg ho => ?_, fun i h1 h2 => ?_, by rw [hlen]; exact h.len, ?_, fun i h1 h2 => ?_, h.ord⟩
  · obtain ⟨c', fz, hc'⟩ := owns_kind h.tall g hg
    rw [hfr g (hty g c' _ fz (by decide) hc')]
    exact ho
  · obtain ⟨cs2, k1⟩ := (h.tkid i h1 h2).blk
    exact (h.tkid i h1 h2).later (hint _ cs2 k1) (Nat.le_refl _)
  · rw [hlen, show (setU u k m v).progs = u.progs.set k (setPg (u.progs.getD k pgD) m v) from rfl, pgL_set _ _ _ _ hk (fun g => by rw [hget]; simp [pgL1, setPg, setC_len])]
    refine own_same h.all fun g o hg ho => ?_
    obtain ⟨c', fz, hc'⟩ := owns_kind h.all g hg
    rw [hfr g (hty g c' _ fz (by decide) hc')]
    exact ho
  · have h0 : i < u.progs.length := by rw [hlen] at h1; exact h1
    by_cases e : i = k
    · subst e
      have hp : (setU u i m v).progs[i] = setPg u.progs[i] m v := by
        simp only [setU, List.getElem_set_self, hget]
      rw [hp]
      exact hck.setA hm v
    · have hp : (setU u k m v).progs[i] = u.progs[i] := by
        simp only [setU]
        exact List.getElem_set_ne (Ne.symm e) _
      rw [hp]
      refine (h.cod i h0 h2).frame (hfr _ fun q => ?_) hint
      rcases Nat.lt_or_gt_of_ne e with l | l
      · have := h.ord i k h2 hk2 l
        omega
      · have := h.ord k i hk2 h2 l
        omega
end Go.Proofs.YtadmpgegolmkgaaDoor
namespace Go.Proofs.YtadmpgegolmkgaaDoor
open Go.RowKit
set_option linter.unusedVariables false
set_option linter.unusedSimpArgs false

/-! ### the unit while it is made blind: k progs, and m instructions of the next one -/
def blT (n : Int) (p : CPg) (m : Nat) : CPg := ⟨p.params, p.slots, p.caps, p.res, p.code.mapIdx fun i x => if i < m then blind n x else x⟩
def blU (n : Int) (u : CUn) (k m : Nat) : CUn := ⟨u.progs.mapIdx fun i p => if i < k then blindP n p else if i = k then blT n p m else p, u.types⟩
theorem blT_zero (n : Int) (p : CPg) : blT n p 0 = p := by
  unfold blT
  have : (p.code.mapIdx fun i x => if i < 0 then blind n x else x) = p.code := by
    apply List.ext_getElem
    · simp
    · intro i h1 h2
      simp
  rw [this]
theorem blT_all (n : Int) (p : CPg) : blT n p p.code.length = blindP n p := by
  unfold blT blindP
  congr 1
  apply List.ext_getElem
  · simp
  · intro i h1 h2
    have : i < p.code.length := by simpa using h1
    simp [this]
theorem blU_zero (n : Int) (u : CUn) : blU n u 0 0 = u := by
  unfold blU
  have : (u.progs.mapIdx fun i p => if i < 0 then blindP n p else if i = 0 then blT n p 0 else p) = u.progs := by
    apply List.ext_getElem
    · simp
    · intro i h1 h2
      simp [blT_zero]
  rw [this]
theorem blU_next (n : Int) (u : CUn) {k : Nat} (hk : k < u.progs.length) : blU n u k u.progs[k].code.length = blU n u (k + 1) 0 := by
  unfold blU
  congr 1
  apply List.ext_getElem
  · simp
  · intro i h1 h2
    simp only [List.getElem_mapIdx]
    by_cases e : i < k
    · rw [if_pos e, if_pos (by omega)]
    · rw [if_neg e]
      by_cases e2 : i = k
      · subst e2
        rw [if_pos rfl, if_pos (by omega), blT_all]
      · rw [if_neg e2, if_neg (by omega)]
        by_cases e3 : i = k + 1
        · rw [if_pos e3, blT_zero]
        · rw [if_neg e3]
theorem blU_all (n : Int) (u : CUn) : blU n u u.progs.length 0 = blindU n u := by
  unfold blU blindU
  congr 1
  apply List.ext_getElem
  · simp
  · intro i h1 h2
    have : i < u.progs.length := by simpa using h1
    simp [this]
theorem blU_len (n : Int) (u : CUn) (k m : Nat) : (blU n u k m).progs.length = u.progs.length := by simp [blU]
theorem blU_at (n : Int) (u : CUn) {k m : Nat} (hk : k < u.progs.length) (h : k < (blU n u k m).progs.length) : (blU n u k m).progs[k] = blT n u.progs[k] m := by
  simp [blU]
theorem blT_len (n : Int) (p : CPg) (m : Nat) : (blT n p m).code.length = p.code.length := by simp [blT]
theorem blT_at (n : Int) (p : CPg) {m : Nat} (hm : m < p.code.length) (h : m < (blT n p m).code.length) : (blT n p m).code[m] = p.code[m] := by
  simp [blT]
/-- nothing to write -/
theorem blU_same (n : Int) (u : CUn) {k m : Nat} (hk : k < u.progs.length) (hm : m < u.progs[k].code.length) (hx : blind n u.progs[k].code[m] = u.progs[k].code[m]) : blU n u k (m + 1) = blU n u k m := by
  unfold blU
  congr 1
  apply List.ext_getElem
  · simp
  · intro i h1 h2
    simp only [List.getElem_mapIdx]
    by_cases e : i < k
    · rw [if_pos e, if_pos e]
    · rw [if_neg e, if_neg e]
      by_cases e2 : i = k
      · subst e2
        rw [if_pos rfl, if_pos rfl]
        unfold blT
        congr 1
        apply List.ext_getElem
        · simp
        · intro j h3 h4
          simp only [List.getElem_mapIdx]
          by_cases e3 : j < m
          · rw [if_pos (by omega), if_pos e3]
          · by_cases e4 : j = m
            · subst e4
              rw [if_pos (by omega), if_neg (by omega)]
              exact hx
            · rw [if_neg (by omega), if_neg e3]
      · rw [if_neg e2, if_neg e2]
/-- an A to write -/
theorem blU_set (n : Int) (u : CUn) {k m : Nat} (hk : k < u.progs.length) (hm : m < u.progs[k].code.length) (v : Int) (hx : blind n u.progs[k].code[m] = setX u.progs[k].code[m] v) : blU n u k (m + 1) = setU (blU n u k m) k m v := by
  have hget : (blU n u k m).progs.getD k pgD = blT n u.progs[k] m := by
    rw [List.getD_eq_getElem?_getD, List.getElem?_eq_getElem (by rw [blU_len]; exact hk), Option.getD_some, blU_at n u hk]
  unfold setU
  rw [hget]
  show blU n u k (m + 1) = ⟨_, u.types⟩
  rw [show blU n u k (m + 1) = ⟨(blU n u k (m + 1)).progs, u.types⟩ from rfl]
  congr 1
  apply List.ext_getElem
  · simp [blU]
  · intro i h1 h2
    by_cases e : i = k
    · subst e
      rw [List.getElem_set_self, blU_at n u hk]
      unfold setPg blT
      simp only
      congr 1
      apply List.ext_getElem
      · simp [setC]
      · intro j h3 h4
        have hj : j < u.progs[i].code.length := by simpa using h3
        simp only [setC]
        by_cases e4 : j = m
        · subst e4
          rw [List.getElem_set_self]
          have : inA (u.progs[i].code.mapIdx fun i x => if i < j then blind n x else x) j = u.progs[i].code[j] := by
            rw [inA_eq (by simpa using hm)]
            simp
          rw [this, ← hx]
          simp
        · rw [List.getElem_set_ne (Ne.symm e4)]
          simp only [List.getElem_mapIdx]
          by_cases e3 : j < m
          · rw [if_pos (by omega), if_pos e3]
          · rw [if_neg (by omega), if_neg e3]
    · rw [List.getElem_set_ne (Ne.symm e)]
      simp [blU, e]
end Go.Proofs.YtadmpgegolmkgaaDoor
namespace Go.Proofs.YtadmpgegolmkgaaDoor
open Go.RowKit
set_option linter.unusedVariables false
set_option linter.unusedSimpArgs false

abbrev qIns : Obj := .cells #[.int .i64 25, .int .i64 0, .int .i64 0, .slice none 0 0] 43
abbrev qPrg (E : Nat) : Array Value := #[.int .i64 1, .int .i64 1, .int .i64 3, .bool false, .slice (some ⟨E, 0, none⟩) 1 1]
set_option maxHeartbeats 4000000 in
/-- a prog more behind those of a unit that was lent -/
theorem LtU.more {W : World} {B : Nat} {pa ta : Option Addr} {pc tc : Nat} {u : CUn} {G : List (Nat × Nat)} {C : List PG} (h : LtU W B pa ta pc tc u G C) (hB : B ≤ W.heap.size) (hn : u.progs.length ≤ 2147483647) {D : Nat} {cD : Array Value} (hD : W.heap[D]? = some (.cells cD 25 (0, 0))) :
    ∃ gp cp W3, (∀ ty, (Builtin.append_ #[22, 22] ty #[.slice pa u.progs.length pc, .slice (some ⟨W.heap.size + 1, 0, none⟩) 1 1]).run Tryd.prog ((W.alloc qIns).alloc (.cells (qPrg W.heap.size) 40)) = .ok (.slice (some ⟨gp, 0, none⟩) (u.progs.length + 1) cp) W3) ∧ Below B W W3 ∧ W3.heap[D]? = some (.cells cD 25 (0, 0)) ∧
      ∀ X : World, W3.heap.size ≤ X.heap.size → (∀ y, y ≠ D → y < W3.heap.size → X.heap[y]? = W3.heap[y]?) → UnIn X X.heap.size (some ⟨gp, 0, none⟩) cp ta tc (moreU u) := by
  obtain ⟨j0, hj0, jz0, jz1, jz2⟩ := info_parts infoPg
  obtain ⟨W1, hW1⟩ : ∃ W1, W.alloc qIns = W1 := ⟨_, rfl⟩
  have b1 : Below W.heap.size W W1 := by rw [← hW1]; exact below1 _ _
  have q1 : W1.heap[W.heap.size]? = some qIns := by rw [← hW1]; exact heap_newH _ _ _ rfl
  have s1 : W1.heap.size = W.heap.size + 1 := by rw [← hW1]; simp
  have hall1 : W1.ownsRow B 40 5 (.slice pa u.progs.length pc) u.progs.length (pgL u.progs C) := owns_same h.all fun y _ hy => b1.block y hy
  obtain ⟨gp, cp, W3, r3, n3, q3, hcp, _⟩ := app1 Tryd.underlying22 hj0 jz0 jz1 jz2 rfl (by decide) W1 B _ u.progs.length _ hall1 (qPrg W.heap.size) rfl (by simp [Value.oneCell']) (by unfold maxLen; omega) (by omega) (by omega)
  have kk := owns_kind hall1
  have b3 : Below B W1 W3 := (Below.refl _ _).grown q3 (by omega) fun k hk => (owns_block hall1 hk).1
  have s3 := b3.size
  have hk13 : ∀ (y : Nat) (cs : Array Value) (t : TypeId), t ≠ 40 → W1.heap[y]? = some (.cells cs t (0, 0)) → W3.heap[y]? = W1.heap[y]? := fun y cs t ht hy => by
    rw [hy]
    exact grown_at q3 hy fun e => by
      obtain ⟨c', fz, hc'⟩ := kk y e
      rw [hy] at hc'
      simp at hc'
      exact ht hc'.2.1
  have hk03 : ∀ (y : Nat) (cs : Array Value) (t : TypeId), t ≠ 40 → W.heap[y]? = some (.cells cs t (0, 0)) → W3.heap[y]? = W.heap[y]? := fun y cs t ht hy => by
    have e1 := b1.block y (heap_lt hy)
    rw [hk13 y cs t ht (e1.trans hy), e1]
  refine ⟨gp, cp, W3, ?_, (b1.mono hB).trans b3, (hk03 D _ _ (by decide) hD).trans hD, fun X hs hX => ?_⟩
  · rw [← s1, hW1]
    exact r3
  · have hXk : ∀ (y : Nat) (cs : Array Value) (t : TypeId), t ≠ 40 → t ≠ 25 → W.heap[y]? = some (.cells cs t (0, 0)) → X.heap[y]? = W.heap[y]? := fun y cs t ht ht2 hy => by
      have e1 := hk03 y cs t ht hy
      rw [hX y (fun e => by rw [e, hD] at hy; simp at hy; exact ht2 hy.2.symm) (heap_lt (e1.trans hy)), e1]
    have hXq : X.heap[W.heap.size]? = some qIns := by
      have e1 := hk13 W.heap.size _ _ (by decide) q1
      rw [hX _ (fun e => by have := heap_lt hD; omega) (heap_lt (e1.trans q1)), e1, q1]
    have hgD : gp ≠ D := fun e => by
      obtain ⟨cur, hb⟩ := own_blk n3
      have := (hk03 D _ _ (by decide) hD).trans hD
      rw [e, this] at hb
      simp at hb
    have hXg : ∀ i, X.cell? ⟨gp, i, none⟩ = W3.cell? ⟨gp, i, none⟩ := fun i => by
      obtain ⟨cur, hb⟩ := own_blk n3
      exact World.cell?_of_block (a := ⟨gp, i, none⟩) (hX gp hgD (heap_lt hb))
    have hgl : gp < X.heap.size := by
      obtain ⟨cur, hb⟩ := own_blk n3
      exact Nat.lt_of_lt_of_le (heap_lt hb) hs
    have hlen := h.len
    have hml : (moreU u).progs.length = u.progs.length + 1 := by simp [moreU]
    have hcap := (own_caps n3).2
    have htall : X.ownsRow B 49 3 (.slice ta u.types.length tc) u.types.length (tyC u.types G) := by
      refine own_same h.tall fun g o hg ho => ?_
      obtain ⟨c', fz, hc'⟩ := owns_kind h.tall g hg
      have hfz : fz = (0, 0) := by
        rcases h.tall.2 with ⟨e, _⟩ | ⟨g', cap, cur, e, hB', hg', _⟩
        · rw [e] at hg; cases hg
        · simp only [Value.slice.injEq] at e
          obtain ⟨e1, _⟩ := e
          rw [e1] at hg
          simp [Value.ownBlock] at hg
          subst hg
          rw [hg'] at hc'
          simp at hc'
          exact hc'.2.symm
      subst hfz
      rw [hXk g c' _ (by decide) (by decide) hc']
      exact ho
    refine ⟨⟨by rw [hml]; exact hcp, by rw [hml]; omega, fun _ => ⟨gp, 0, rfl, hgl, fun j hj => ?_⟩⟩, own_row htall u.types rfl fun g e hg j hj => ?_⟩
    · rw [hml] at hj
      rw [Nat.zero_add]
      have hsn : pgL u.progs C ++ (qPrg W.heap.size).toList = pgL (u.progs ++ [qP]) (C ++ [((W.heap.size, 1), [])]) := by
        rw [pgL_snoc hlen]
        rfl
      have hc2 : ∀ i, i < 5 → X.cell? ⟨gp, j * 5 + i, none⟩ = (pgL1 ((u.progs ++ [qP])[j]'(by simp; omega)) ((C ++ [((W.heap.size, 1), [])])[j]'(by simp; omega)))[i]? := fun i hi => by
        rw [hXg, n3.cellAt (j * 5 + i) (by omega), hsn]
        exact pgL_at _ _ j _ _ i hi
      by_cases hjn : j < u.progs.length
      · have hj2 : j < C.length := by omega
        have e1 : (u.progs ++ [qP])[j]'(by simp; omega) = u.progs[j] := List.getElem_append_left hjn
        have e2 : (C ++ [((W.heap.size, 1), [])])[j]'(by simp; omega) = C[j] := List.getElem_append_left hj2
        rw [e1, e2] at hc2
        have hC : CodeAt X B C[j].1.1 C[j].1.2 u.progs[j].code C[j].2 := (h.cod j hjn hj2).later (fun y cs t ht _ hy => hXk y cs t (by rcases ht with rfl | rfl <;> decide) (by rcases ht with rfl | rfl <;> decide) hy) (Nat.le_refl _)
        have e3 : (moreU u).progs[j]'(by rw [hml]; exact hj) = u.progs[j] := List.getElem_append_left hjn
        rw [e3]
        exact ⟨some ⟨C[j].1.1, 0, none⟩, C[j].1.2, hc2 0 (by omega), hc2 1 (by omega), hc2 2 (by omega), hc2 3 (by omega), hc2 4 (by omega), hC.read⟩
      · obtain rfl : j = u.progs.length := by omega
        have e1 : (u.progs ++ [qP])[u.progs.length]'(by simp) = qP := by simp
        have e2 : (C ++ [((W.heap.size, 1), [])])[u.progs.length]'(by simp; omega) = ((W.heap.size, 1), []) := by simp [← hlen]
        rw [e1, e2] at hc2
        have e3 : (moreU u).progs[u.progs.length]'(by rw [hml]; exact hj) = qP := by simp [moreU]
        rw [e3]
        refine ⟨some ⟨W.heap.size, 0, none⟩, 1, hc2 0 (by omega), hc2 1 (by omega), hc2 2 (by omega), hc2 3 (by omega), hc2 4 (by omega), by decide, by decide, fun _ => ⟨W.heap.size, 0, rfl, heap_lt hXq, fun i hi => ?_⟩⟩
        have hi0 : i = 0 := by simp [qP] at hi; omega
        subst hi0
        exact ⟨none, 0, cell_blk hXq rfl, cell_blk hXq rfl, cell_blk hXq rfl, cell_blk hXq rfl, intsV_nil _ _ _ _⟩
    · have hj2 : j < G.length := by have := h.tlen; omega
      rw [e] at htall
      have k : ∀ i, i < 3 → X.cell? ⟨g, j * 3 + i, none⟩ = (tyC1 u.types[j] G[j])[i]? := fun i hi => by
        rw [htall.cellAt (j * 3 + i) (by omega)]
        exact tyC_at _ _ j hj hj2 i hi
      have hK : KidAt X B G[j].1 G[j].2 u.types[j].kids := by
        obtain ⟨cs, hb⟩ := (h.tkid j hj hj2).blk
        exact (h.tkid j hj hj2).later (hXk _ cs _ (by decide) (by decide) hb) (Nat.le_refl _)
      exact ⟨some ⟨G[j].1, 0, none⟩, G[j].2, k 0 (by omega), k 1 (by omega), k 2 (by omega), hK.ints⟩
end Go.Proofs.YtadmpgegolmkgaaDoor
namespace Go.Proofs.YtadmpgegolmkgaaDoor
open Go.RowKit
set_option linter.unusedVariables false
set_option linter.unusedSimpArgs false

theorem take_eqS {α : Type} {xs ys : List α} {p : Nat} (h : xs.take p = ys.take p) (h1 : p < xs.length) (h2 : p < ys.length) (he : xs[p] = ys[p]) : xs.take (p + 1) = ys.take (p + 1) := by
  rw [List.take_succ_eq_append_getElem h1, List.take_succ_eq_append_getElem h2, h, he]
set_option maxRecDepth 100000 in
set_option maxHeartbeats 2000000 in
theorem nums_any (w : World) (B : Nat) (a1 a2 : Option Addr) (c1 c2 : Nat) (xs ys : List Int) (h1 : IntsV w B a1 c1 xs) (h2 : IntsV w B a2 c2 ys) :
    Calls Tryd.prog 13 #[.slice a1 xs.length c1, .slice a2 ys.length c2] w fun e w' => e = .returned (.bool (decide (xs = ys))) ∧ ∃ k, w' = w.drewN k := by
  have hl1 := h1.max
  have hl2 := h2.max
  unfold maxLen at hl1 hl2
  by_cases hlen : xs.length = ys.length
  · have HX : Bx _ := ⟨h1⟩
    have HY : Bx _ := ⟨h2⟩
    clear h1 h2
    generalize hn : xs.length = n at *
    have HN : Bx (xs.length = n ∧ ys.length = n) := ⟨hn, hlen.symm⟩
    rw [← hlen] at hl2
    rw [← hlen]
    clear hn hlen
    go_enter Tryd.func13, Tryd.ntmps13
    go_wp2
    go_loopw [13] (fun x wr => ∃ p k : Nat, p ≤ n ∧ x = .int .i64 p ∧ wr = w.drewN k ∧ Bx (xs.take p = ys.take p)) (fun x _ => n - (intOf x).toNat)
    case atStart => exact ⟨0, 0, Nat.zero_le _, rfl, rfl, ⟨rfl⟩⟩
    case round =>
      obtain ⟨p, k, hp, rfl, rfl, HR⟩ := hrel
      by_cases hlt : p < n
      · have hp1 : p < xs.length := by rw [HN.out.1]; exact hlt
        have hp2 : p < ys.length := by rw [HN.out.2]; exact hlt
        obtain ⟨b1, o1, rfl, hb1, hcell1⟩ := HX.out.at_ (by omega)
        have hc1 := HX.out.cap
        rw [HN.out.1] at hc1
        obtain ⟨b2, o2, rfl, hb2, hcell2⟩ := HY.out.at_ (by omega)
        have hc2 := HY.out.cap
        rw [HN.out.2] at hc2
        have k1 := hcell1 p hp1
        have k2 := hcell2 p hp2
        by_cases he : xs[p] = ys[p]
        · have HT : Bx _ := ⟨take_eqS HR.out hp1 hp2 he⟩
          rw [← he] at k2
          generalize xs[p] = z at *
          clear hcell1 hcell2 HR HX HY
          go_wp2
          go_quiet (fail)
          go_wp2
          go_roundw
          case rel => exact ⟨p + 1, k + nq, by omega, by go_num, by first | rfl | rw [World.drewN_drewN], HT⟩
          case measure => simp [intOf]; omega
        · have hf : Bx (decide (xs = ys) = false) := ⟨decide_eq_false (fun e => he (by subst e; rfl))⟩
          have hz : (xs[p] != ys[p]) = true := by simpa using he
          generalize xs[p] = z at *
          generalize ys[p] = z2 at *
          clear hcell1 hcell2 HR HX HY
          go_wp2
          go_quiet (fail)
          go_wp2
          go_ret
          exact ⟨ret_bool hf.out.symm, k + nq, by first | rfl | rw [World.drewN_drewN]⟩
      · have hf : Bx (decide (xs = ys) = true) := ⟨decide_eq_true (by
          have := HR.out
          rw [List.take_of_length_le (by rw [HN.out.1]; omega), List.take_of_length_le (by rw [HN.out.2]; omega)] at this
          exact this)⟩
        clear HR HX HY HN
        go_wp2
        go_ret
        exact ⟨ret_bool hf.out.symm, k, rfl⟩
  · have hne : decide (xs = ys) = false := decide_eq_false (fun e => hlen (by rw [e]))
    rw [hne]
    have hne2 : ((xs.length : Int) != (ys.length : Int)) = true := by simp; omega
    clear h1 h2 hlen hne
    generalize xs.length = n1 at *
    generalize ys.length = n2 at *
    go_enter Tryd.func13, Tryd.ntmps13
    go_wp2
    go_ret
    exact ⟨rfl, 0, rfl⟩
end Go.Proofs.YtadmpgegolmkgaaDoor
