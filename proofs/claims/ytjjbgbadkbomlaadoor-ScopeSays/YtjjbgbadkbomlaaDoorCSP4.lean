import Derived.Test.YtjjbgbadkbomlaaDoorCSP
namespace Go.Proofs.YtjjbgbadkbomlaaDoor

/-- how many nodes are visited -/
def cntF (l : List Nd) : Nat → Nat → Nat
  | 0, _ => 0
  | f + 1, i =>
    1 + (if kdN l i = 20 then ((ndN l i).kids.dropLast.map fun k => cntF l f k.toNat).sum + ((ndAt l ((ndN l i).kids.getLastD 0)).kids.map fun k => cntF l f k.toNat).sum
      else if kdN l i = 43 then cntF l f ((ndN l i).kids.getD 0 0).toNat + ((ndAt l ((ndN l i).kids.getD 1 0)).kids.map fun k => cntF l f k.toNat).sum
      else ((ndN l i).kids.map fun k => cntF l f k.toNat).sum)
/-- the nodes' shape, as far as the walk leans on it -/
structure LOk (l : List Nd) : Prop where
  low : ∀ i k, i < l.length → k ∈ (ndN l i).kids → ∃ j : Nat, k = j ∧ j < i
  prog : ∀ i, i < l.length → kdN l i = 20 → 1 ≤ (ndN l i).kids.length
  recv : ∀ i, i < l.length → kdN l i = 43 → 2 ≤ (ndN l i).kids.length
  place : ∀ i, i < l.length → kdN l i = 33 ∨ kdN l i = 24 ∨ kdN l i = 25 → 1 ≤ (ndN l i).kids.length
theorem LOk.lt {l : List Nd} (h : LOk l) : KidsLt l := fun i hi k hk => by
  obtain ⟨j, e, hj⟩ := h.low i k hi hk
  rw [e]; show j < _; omega
theorem ndN_far {l : List Nd} {i : Nat} (h : l.length ≤ i) : ndN l i = nd0 := by
  unfold ndN; rw [List.getD_eq_getElem?_getD, List.getElem?_eq_none h]; rfl
theorem LOk.kid {l : List Nd} (h : LOk l) {i : Nat} {k : Int} (hk : k ∈ (ndN l i).kids) : k.toNat < i := by
  by_cases hi : i < l.length
  · obtain ⟨j, e, hj⟩ := h.low i k hi hk
    rw [e]; exact hj
  · rw [ndN_far (by omega)] at hk; cases hk
/-- the numbers of meanings, of what is declared and taken -/
structure Cnt (s s' : SSt) (n : Nat) : Prop where
  dcl : s'.dcl.length ≤ s'.ms.length
  ge : s.ms.length ≤ s'.ms.length
  le : s'.ms.length ≤ s.ms.length + n
  gat : s'.gat.map (·.1) = s.gat.map (·.1)
  tk : ∀ M, (∀ k, (gatS s k).2.length ≤ M) → ∀ k, (gatS s' k).2.length ≤ M + n
  fr : ∀ M, (∀ p, (s.free.getD p []).length ≤ M) → ∀ p, (s'.free.getD p []).length ≤ M + n
theorem Cnt.trans {s s' s'' : SSt} {n n' : Nat} (h : Cnt s s' n) (h' : Cnt s' s'' n') : Cnt s s'' (n + n') :=
  ⟨h'.dcl, Nat.le_trans h.ge h'.ge, by have := h.le; have := h'.le; omega, h'.gat.trans h.gat, fun M hM k => by have := h'.tk _ (h.tk M hM) k; omega, fun M hM k => by have := h'.fr _ (h.fr M hM) k; omega⟩
theorem Cnt.same {s s' : SSt} {n : Nat} (h : s.dcl.length ≤ s.ms.length) (e1 : s'.dcl = s.dcl) (e2 : s'.ms = s.ms) (e3 : s'.gat = s.gat) (e4 : s'.free = s.free) : Cnt s s' n :=
  ⟨by rw [e1, e2]; exact h, by rw [e2]; exact Nat.le_refl _, by rw [e2]; omega, by rw [e3], fun M hM k => by have := hM k; unfold gatS at *; rw [e3]; omega, fun M hM p => by have := hM p; rw [e4]; omega⟩
theorem Cnt.refl {s : SSt} (h : s.dcl.length ≤ s.ms.length) : Cnt s s 0 := Cnt.same h rfl rfl rfl rfl
theorem Cnt.more {s s' : SSt} {n n' : Nat} (h : Cnt s s' n) (hn : n ≤ n') : Cnt s s' n' :=
  ⟨h.dcl, h.ge, Nat.le_trans h.le (by omega), h.gat, fun M hM k => by have := h.tk M hM k; omega, fun M hM k => by have := h.fr M hM k; omega⟩
theorem refuse_cnt {l : List Nd} {i : Nat} {c : Int} {s : SSt} (h : s.dcl.length ≤ s.ms.length) : Cnt s (refuseP l i c s) 0 := by
  unfold refuseP
  split
  · exact Cnt.same h rfl rfl rfl rfl
  · exact Cnt.refl h
theorem put_cnt {nm : ByteArray} {i : Nat} {o : Option Nat} {s : SSt} (h : s.dcl.length ≤ s.ms.length) : Cnt s (putP nm i o s) 1 := by
  refine ⟨?_, ?_, ?_, rfl, fun M hM k => Nat.le_succ_of_le (hM k), fun M hM p => Nat.le_succ_of_le (hM p)⟩ <;> simp [putP] <;> omega
theorem decl_cnt {l : List Nd} {i : Nat} {s : SSt} (h : s.dcl.length ≤ s.ms.length) : Cnt s (declP l i s) 1 := by
  unfold declP
  split
  · exact (Cnt.refl h).more (by omega)
  · split
    · exact put_cnt h
    · split
      · exact (refuse_cnt h).more (by omega)
      · exact put_cnt h
theorem getD_set_list {α : Type} (xs : List (List α)) (p q : Nat) (x : List α) : (xs.set p x).getD q [] = if p = q ∧ p < xs.length then x else xs.getD q [] := by
  rw [List.getD_eq_getElem?_getD, List.getElem?_set]
  by_cases e : p = q
  · rw [if_pos e]
    by_cases h : p < xs.length
    · rw [if_pos h, if_pos ⟨e, h⟩]; rfl
    · rw [if_neg h, if_neg (fun hc => h hc.2), ← e, List.getD_eq_getElem?_getD, List.getElem?_eq_none (by omega)]
  · rw [if_neg e, if_neg (fun hc => e hc.1), List.getD_eq_getElem?_getD]
theorem take_fst (m : Nat) (s : SSt) (a : Nat) (j : Nat) (ha : a < s.gat.length) : (gatS (takeP m s a) j).1 = (gatS s j).1 := by
  have : gatS (takeP m s a) j = if j = a then ((gatS s a).1, (gatS s a).2 ++ [m]) else gatS s j := gatS_set (s := s) rfl ha
  rw [this]
  split
  · rename_i e; rw [e]
  · rfl
/-- what a row of takes leaves -/
theorem takes_len (m : Nat) : ∀ (n a : Nat) (s : SSt), a + n ≤ s.gat.length → (∀ j j', j < j' → j' < s.gat.length → (gatS s j).1 ≠ (gatS s j').1) →
    (∀ k, (k < a ∨ a + n ≤ k → gatS ((List.range' a n).foldl (takeP m) s) k = gatS s k) ∧ (gatS ((List.range' a n).foldl (takeP m) s) k).2.length ≤ (gatS s k).2.length + 1) ∧
    (∀ p, ((∀ k, a ≤ k → k < a + n → (gatS s k).1 ≠ p) → ((List.range' a n).foldl (takeP m) s).free.getD p [] = s.free.getD p []) ∧ (((List.range' a n).foldl (takeP m) s).free.getD p []).length ≤ (s.free.getD p []).length + 1)
  | 0, a, s, _, _ => ⟨fun k => ⟨fun _ => rfl, Nat.le_succ _⟩, fun p => ⟨fun _ => rfl, Nat.le_succ _⟩⟩
  | n + 1, a, s, h, hd => by
    rw [List.range'_succ, List.foldl_cons]
    have ha : a < s.gat.length := by omega
    have hG : ∀ j, gatS (takeP m s a) j = if j = a then ((gatS s a).1, (gatS s a).2 ++ [m]) else gatS s j := fun j => gatS_set (s := s) rfl ha
    have hl : (takeP m s a).gat.length = s.gat.length := (take_ok m s a ha).1.len
    have hF : ∀ p, (takeP m s a).free.getD p [] = if (gatS s a).1 = p ∧ (gatS s a).1 < s.free.length then s.free.getD (gatS s a).1 [] ++ [(mnS s m).decl] else s.free.getD p [] := fun p => getD_set_list _ _ _ _
    obtain ⟨r1, r2⟩ := takes_len m n (a + 1) (takeP m s a) (by rw [hl]; omega) (fun j j' h1 h2 => by rw [take_fst m s a j ha, take_fst m s a j' ha]; exact hd j j' h1 (by rw [← hl]; exact h2))
    refine ⟨fun k => ⟨fun hk => ?_, ?_⟩, fun p => ⟨fun hp => ?_, ?_⟩⟩
    · rw [(r1 k).1 (by omega), hG, if_neg (by omega)]
    · by_cases e : k = a
      · rw [(r1 k).1 (by omega), hG, if_pos e, e]; simp
      · have := (r1 k).2
        rw [hG k, if_neg e] at this
        exact this
    · rw [(r2 p).1 (fun k h1 h2 => by rw [take_fst m s a k ha]; exact hp k (by omega) (by omega)), hF, if_neg (fun hc => hp a (Nat.le_refl _) (by omega) hc.1)]
    · by_cases e : (gatS s a).1 = p
      · rw [(r2 p).1 (fun k h1 h2 => by rw [take_fst m s a k ha, ← e]; exact (hd a k (by omega) (by omega)).symm), hF]
        split
        · rw [e]; simp
        · exact Nat.le_succ _
      · have := (r2 p).2
        rw [hF, if_neg (fun hc => e hc.1)] at this
        exact this
theorem take_len (m : Nat) : ∀ (ks : List Nat) (s : SSt), (ks.foldl (takeP m) s).ms = s.ms ∧ (ks.foldl (takeP m) s).dcl = s.dcl
  | [], s => ⟨rfl, rfl⟩
  | k :: r, s => by
    rw [List.foldl_cons]
    obtain ⟨a, b⟩ := take_len m r (takeP m s k)
    exact ⟨a.trans rfl, b.trans rfl⟩
/-- the open progs are different ones -/
def Apart (s : SSt) : Prop := ∀ j j', j < j' → j' < s.gat.length → (gatS s j).1 ≠ (gatS s j').1
theorem gat_fst {s s' : SSt} (h : s'.gat.map (·.1) = s.gat.map (·.1)) (k : Nat) : (gatS s' k).1 = (gatS s k).1 := by
  have := congrArg (fun x => x.getD k 0) h
  simp only [List.getD_eq_getElem?_getD, List.getElem?_map] at this
  unfold gatS
  rw [List.getD_eq_getElem?_getD, List.getD_eq_getElem?_getD]
  show ((s'.gat[k]?).getD (0, [])).1 = ((s.gat[k]?).getD (0, [])).1
  revert this
  cases s'.gat[k]? <;> cases s.gat[k]? <;> simp
theorem gat_len {s s' : SSt} (h : s'.gat.map (·.1) = s.gat.map (·.1)) : s'.gat.length = s.gat.length := by have := congrArg List.length h; simpa using this
theorem Apart.of {s s' : SSt} (h : Apart s) (e : s'.gat.map (·.1) = s.gat.map (·.1)) : Apart s' := fun j j' h1 h2 => by
  rw [gat_fst e, gat_fst e]; exact h j j' h1 (by rw [← gat_len e]; exact h2)
theorem name_cnt {l : List Nd} {i : Nat} {s : SSt} (h : s.dcl.length ≤ s.ms.length) (hap : Apart s) (hdg : ∀ m, s.sc (ndN l i).name = some m → (mnS s m).done ≤ s.gat.length) : Cnt s (nameP l i s) 1 := by
  unfold nameP
  split
  · exact (refuse_cnt h).more (by omega)
  split
  · exact (refuse_cnt h).more (by omega)
  split
  · exact (refuse_cnt h).more (by omega)
  rename_i m hm _ _
  have hd := hdg m hm
  obtain ⟨a, b⟩ := take_len m (List.range' (mnS s m).done (s.gat.length - (mnS s m).done)) { s with ref := s.ref.set i (mnS s m).decl }
  obtain ⟨t, _⟩ := takes_ok m (s.gat.length - (mnS s m).done) (mnS s m).done { s with ref := s.ref.set i (mnS s m).decl } (by show _ ≤ s.gat.length; omega)
  obtain ⟨c, d⟩ := takes_len m (s.gat.length - (mnS s m).done) (mnS s m).done { s with ref := s.ref.set i (mnS s m).decl } (by show _ ≤ s.gat.length; omega) hap
  refine ⟨?_, ?_, ?_, t.gat, fun M hM k => ?_, fun M hM p => ?_⟩
  · simp [doneP, a, b]; omega
  · simp [doneP, a]
  · simp [doneP, a]
  · exact Nat.le_trans (c k).2 (Nat.succ_le_succ (hM k))
  · exact Nat.le_trans (d p).2 (Nat.succ_le_succ (hM p))
theorem outs_all : ∀ (ns : List ByteArray) (s : SSt), (ns.foldl outP s).ms = s.ms ∧ (ns.foldl outP s).gat = s.gat ∧ (ns.foldl outP s).free = s.free
  | [], s => ⟨rfl, rfl, rfl⟩
  | n :: r, s => by rw [List.foldl_cons]; obtain ⟨a, b, c⟩ := outs_all r (outP s n); exact ⟨a, b, c⟩
theorem block_cnt {s : SSt} {inside : SSt → SSt} {n : Nat} (h : s.dcl.length ≤ s.ms.length) (a : Cnt { s with dcl := [], blocks := s.blocks + 1 } (inside { s with dcl := [], blocks := s.blocks + 1 }) n) : Cnt s (blockP inside s) n := by
  obtain ⟨e1, e3, e4⟩ := outs_all (inside { s with dcl := [], blocks := s.blocks + 1 }).dcl (inside { s with dcl := [], blocks := s.blocks + 1 })
  have e : (blockP inside s).ms = (inside { s with dcl := [], blocks := s.blocks + 1 }).ms := e1
  have e5 : (blockP inside s).gat = (inside { s with dcl := [], blocks := s.blocks + 1 }).gat := e3
  have e6 : (blockP inside s).free = (inside { s with dcl := [], blocks := s.blocks + 1 }).free := e4
  have e2 : (blockP inside s).dcl = s.dcl := rfl
  refine ⟨?_, ?_, ?_, ?_, fun M hM k => ?_, fun M hM p => ?_⟩
  · rw [e, e2]; exact Nat.le_trans h a.ge
  · rw [e]; exact a.ge
  · rw [e]; exact a.le
  · rw [e5]; exact a.gat
  · have := a.tk M hM k; unfold gatS at *; rw [e5]; exact this
  · rw [e6]; exact a.fr M hM p
theorem dones_all (d : Nat) : ∀ (T : List Nat) (s : SSt), (T.foldl (fun s m => doneP m d s) s).ms.length = s.ms.length ∧ (T.foldl (fun s m => doneP m d s) s).dcl = s.dcl ∧ (T.foldl (fun s m => doneP m d s) s).gat = s.gat ∧ (T.foldl (fun s m => doneP m d s) s).free = s.free
  | [], s => ⟨rfl, rfl, rfl, rfl⟩
  | m :: r, s => by
    rw [List.foldl_cons]
    obtain ⟨a, b, c, e⟩ := dones_all d r (doneP m d s)
    exact ⟨a.trans (by simp [doneP]), b.trans rfl, c.trans rfl, e.trans rfl⟩
theorem cap_cnt {s : SSt} {i : Nat} {inside : SSt → SSt} {n : Nat} (a : Cnt { s with gat := s.gat ++ [(i, [])] } (inside { s with gat := s.gat ++ [(i, [])] }) n) : Cnt s (capP i inside s) n := by
  have hst : ∀ k M, (∀ k, (gatS s k).2.length ≤ M) → (gatS { s with gat := s.gat ++ [(i, [])] } k).2.length ≤ M := by
    intro k M hM
    rw [gatS_push]
    split
    · exact Nat.zero_le _
    · exact hM k
  unfold capP
  generalize inside { s with gat := s.gat ++ [(i, [])] } = s1 at a ⊢
  obtain ⟨e1, e2, e3, e4⟩ := dones_all ({ s1 with gat := s1.gat.take s.gat.length } : SSt).gat.length (gatS s1 s.gat.length).2 { s1 with gat := s1.gat.take s.gat.length }
  simp only [] at e1 e2 e3 e4 ⊢
  generalize List.foldl (fun s_1 m => doneP m (List.take s.gat.length s1.gat).length s_1) _ (gatS s1 s.gat.length).2 = s3 at e1 e2 e3 e4 ⊢
  refine ⟨?_, ?_, ?_, ?_, fun M hM k => ?_, fun M hM p => ?_⟩
  · rw [e1, e2]; exact a.dcl
  · rw [e1]; exact a.ge
  · rw [e1]; exact a.le
  · rw [e3, List.map_take, a.gat]; simp
  · have := a.tk M (fun k => hst k M hM) k
    have e5 : gatS s3 k = if k < s.gat.length then gatS s1 k else (0, []) := by
      unfold gatS
      rw [e3, List.getD_eq_getElem?_getD, List.getD_eq_getElem?_getD, List.getElem?_take]
      split <;> rfl
    rw [e5]
    split
    · exact this
    · exact Nat.zero_le _
  · rw [e4]; exact a.fr M hM p
/-- what a part of the walk may count on -/
structure PW (l : List Nd) (s : SSt) (n : Nat) : Prop where
  wf : SWf l s
  dcl : s.dcl.length ≤ s.ms.length
  ap : Apart s
  bud : s.ms.length + n < 4294967296
  tk : ∀ k, (gatS s k).2.length + n < 4294967296
  fr : ∀ p, (s.free.getD p []).length + n < 4294967296
/-- a part of the walk, and how much of what it may count on it uses up -/
structure Part (l : List Nd) (s s' : SSt) (n : Nat) : Prop where
  ok : StepOk l s s'
  cnt : Cnt s s' n
theorem Part.trans {l : List Nd} {s s' s'' : SSt} {n n' : Nat} (h : Part l s s' n) (h' : Part l s' s'' n') : Part l s s'' (n + n') := ⟨h.ok.trans h'.ok, h.cnt.trans h'.cnt⟩
theorem bound_after {f g : Nat → Nat} {n n' : Nat} (h : ∀ M, (∀ k, f k ≤ M) → ∀ k, g k ≤ M + n) (hf : ∀ k, f k + (n + n') < 4294967296) (k : Nat) : g k + n' < 4294967296 := by
  have h0 := hf 0
  have := h (4294967295 - (n + n')) (fun j => by have := hf j; omega) k
  omega
theorem PW.next {l : List Nd} {s s' : SSt} {n n' : Nat} (h : PW l s (n + n')) (hp : Part l s s' n) : PW l s' n' :=
  ⟨hp.ok.1, hp.cnt.dcl, h.ap.of hp.cnt.gat, by have := h.bud; have := hp.cnt.le; omega, bound_after hp.cnt.tk h.tk, bound_after hp.cnt.fr h.fr⟩
theorem PW.less {l : List Nd} {s : SSt} {n n' : Nat} (h : PW l s n) (hn : n' ≤ n) : PW l s n' :=
  ⟨h.wf, h.dcl, h.ap, by have := h.bud; omega, fun k => by have := h.tk k; omega, fun k => by have := h.fr k; omega⟩
theorem PW.block {l : List Nd} {s : SSt} {n : Nat} (h : PW l s n) : PW l { s with dcl := [], blocks := s.blocks + 1 } n := ⟨block_wf h.wf, Nat.zero_le _, h.ap, h.bud, h.tk, h.fr⟩
/-- all open progs are about node i -/
def About (s : SSt) (i : Nat) : Prop := ∀ k, k < s.gat.length → i < (gatS s k).1
theorem About.of {s s' : SSt} {i : Nat} (h : About s i) (e : s'.gat.map (·.1) = s.gat.map (·.1)) : About s' i := fun k hk => by
  rw [gat_fst e]; exact h k (by rw [← gat_len e]; exact hk)
theorem About.less {s : SSt} {i j : Nat} (h : About s i) (hj : j ≤ i) : About s j := fun k hk => by have := h k hk; omega
theorem PW.push {l : List Nd} {s : SSt} {n i : Nat} (h : PW l s n) (hi : i < l.length) (ha : About s i) : PW l { s with gat := s.gat ++ [(i, [])] } n ∧ ∀ j, j < i → About { s with gat := s.gat ++ [(i, [])] } j := by
  refine ⟨⟨cap_wf h.wf i hi, h.dcl, fun j j' h1 h2 => ?_, h.bud, fun k => ?_, h.fr⟩, fun j hj k hk => ?_⟩
  · rw [gatS_push, gatS_push]
    replace h2 : j' < (s.gat ++ [(i, [])]).length := h2
    simp at h2
    rw [if_neg (by omega)]
    split
    · have := ha j (by omega); show _ ≠ i; omega
    · exact h.ap j j' h1 (by omega)
  · rw [gatS_push]
    split
    · have := h.bud; show 0 + n < _; omega
    · exact h.tk k
  · rw [gatS_push]
    replace hk : k < (s.gat ++ [(i, [])]).length := hk
    simp at hk
    split
    · exact hj
    · have := ha k (by omega); omega
theorem all_part {l : List Nd} {v : Nat → SSt → SSt} {c : Nat → Nat} (hl : KidsLt l) (hv : ∀ i s, i < l.length → About s i → PW l s (c i) → Part l s (v i s) (c i)) : ∀ (ks : List Int) (s : SSt), (∀ k, k ∈ ks → k.toNat < l.length ∧ About s k.toNat) → PW l s (ks.map fun k => c k.toNat).sum → Part l s (allP v ks s) (ks.map fun k => c k.toNat).sum
  | [], s, _, h => ⟨StepOk.refl h.wf, Cnt.refl h.dcl⟩
  | k :: r, s, hk, h => by
    simp only [List.map_cons, List.sum_cons] at h ⊢
    have a := hv k.toNat s (hk k (by simp)).1 (hk k (by simp)).2 (h.less (by omega))
    have b := all_part hl hv r (v k.toNat s) (fun x hx => ⟨(hk x (by simp [hx])).1, (hk x (by simp [hx])).2.of a.cnt.gat⟩) (h.next a)
    exact a.trans b
theorem decl_part {l : List Nd} {s : SSt} {n i : Nat} (h : PW l s n) (hi : i < l.length) : Part l s (declP l i s) 1 := ⟨decl_ok h.wf i hi, decl_cnt h.dcl⟩
theorem name_part {l : List Nd} {s : SSt} {n i : Nat} (h : PW l s n) : Part l s (nameP l i s) 1 := ⟨name_ok h.wf i, name_cnt h.dcl h.ap fun m hm => (h.wf.lvl m (.top hm)).2⟩
theorem block_part {l : List Nd} {s : SSt} {n : Nat} {ins : SSt → SSt} (h : PW l s n) (hi : Part l { s with dcl := [], blocks := s.blocks + 1 } (ins { s with dcl := [], blocks := s.blocks + 1 }) n) : Part l s (blockP ins s) n := by
  obtain ⟨a, b, _⟩ := block_ok h.wf ins hi.ok
  exact ⟨⟨a, [], b, fun _ hc => by cases hc⟩, block_cnt h.dcl hi.cnt⟩
theorem Part.more {l : List Nd} {s s' : SSt} {n n' : Nat} (h : Part l s s' n) (hn : n ≤ n') : Part l s s' n' := ⟨h.ok, h.cnt.more hn⟩
theorem last_mem {ks : List Int} (h : 1 ≤ ks.length) : ks.getLastD 0 ∈ ks := by
  cases ks with
  | nil => simp at h
  | cons k r => rw [List.getLastD_cons]; cases r with
    | nil => simp
    | cons a b => simp [List.getLastD_eq_getLast?, List.getLast?_eq_some_getLast]
theorem getD_mem {ks : List Int} {j : Nat} (h : j < ks.length) : ks.getD j 0 ∈ ks := by
  rw [List.getD_eq_getElem?_getD, List.getElem?_eq_getElem h]; exact List.getElem_mem h
theorem vis_part {l : List Nd} (hl : LOk l) : ∀ (f i : Nat) (s : SSt), i < l.length → About s i → PW l s (cntF l f i) → Part l s (visF l f i s) (cntF l f i)
  | 0, _, s, _, _, h => ⟨StepOk.refl h.wf, Cnt.refl h.dcl⟩
  | f + 1, i, s, hi, hab, h => by
    have ih := fun i s => vis_part hl f i s
    have ha : ∀ (j : Nat) (s : SSt), j ≤ i → About s j → PW l s ((ndN l j).kids.map fun k => cntF l f k.toNat).sum → Part l s (allP (visF l f) (ndN l j).kids s) ((ndN l j).kids.map fun k => cntF l f k.toNat).sum := fun j s hj hab h =>
      all_part hl.lt ih _ s (fun k hk => ⟨by have := hl.kid hk; omega, hab.less (by have := hl.kid hk; omega)⟩) h
    unfold visF
    unfold cntF at h ⊢
    split
    · exact (name_part h).more (by omega)
    split
    · rename_i hk
      simp only [hk, if_true] at h ⊢
      have hlast : ((ndN l i).kids.getLastD 0).toNat < i := hl.kid (last_mem (hl.prog i hi hk))
      obtain ⟨p1, p2⟩ := h.push hi hab
      have key : Part l { s with gat := s.gat ++ [(i, [])] } (blockP (fun s => blockP (fun s => allP (visF l f) (ndAt l ((ndN l i).kids.getLastD 0)).kids (allP (visF l f) (ndN l i).kids.dropLast s)) (declP l i s)) { s with gat := s.gat ++ [(i, [])] })
          (1 + (((ndN l i).kids.dropLast.map fun k => cntF l f k.toNat).sum + ((ndAt l ((ndN l i).kids.getLastD 0)).kids.map fun k => cntF l f k.toNat).sum)) := by
        refine block_part p1 ?_
        have d := decl_part p1.block hi
        refine d.trans ?_
        have q := p1.block.next d
        refine block_part q ?_
        have q1 := q.block
        have ab : ∀ j, j < i → About { declP l i { s with gat := s.gat ++ [(i, [])], dcl := [], blocks := s.blocks + 1 } with dcl := [], blocks := (declP l i { s with gat := s.gat ++ [(i, [])], dcl := [], blocks := s.blocks + 1 }).blocks + 1 } j := fun j hj => (p2 j hj).of d.cnt.gat
        have r := all_part hl.lt ih (ndN l i).kids.dropLast _ (fun k hk => ⟨by have := hl.kid (List.dropLast_subset _ hk); omega, ab _ (hl.kid (List.dropLast_subset _ hk))⟩) (q1.less (by omega))
        refine r.trans ?_
        exact ha _ _ (by omega) ((ab _ hlast).of r.cnt.gat) (q1.next r)
      refine ⟨?_, cap_cnt key.cnt⟩
      obtain ⟨a, b⟩ := cap_ok h.wf i _ key.ok.1 (by
        obtain ⟨n, e, _⟩ := key.ok.2
        have : n = [] := by
          have hd := e.dcl
          have hd2 : (blockP (fun s => blockP (fun s => allP (visF l f) (ndAt l ((ndN l i).kids.getLastD 0)).kids (allP (visF l f) (ndN l i).kids.dropLast s)) (declP l i s)) { s with gat := s.gat ++ [(i, [])] }).dcl = s.dcl := rfl
          rw [hd2] at hd
          exact (List.append_right_eq_self.1 hd.symm)
        rw [this] at e
        exact e)
      exact ⟨a, [], b, fun _ hc => by cases hc⟩
    split
    · rename_i hk0 hk
      simp only [hk, if_true, if_neg (show ¬ (43 : Int) = 20 by decide)] at h ⊢
      have h2 := hl.recv i hi hk
      have k0 : ((ndN l i).kids.getD 0 0).toNat < i := hl.kid (getD_mem (by omega))
      have k1 : ((ndN l i).kids.getD 1 0).toNat < i := hl.kid (getD_mem (by omega))
      have a := ih ((ndN l i).kids.getD 0 0).toNat s (by omega) (hab.less (by omega)) (h.less (by omega))
      have h' := (h.less (n' := cntF l f ((ndN l i).kids.getD 0 0).toNat + (1 + ((ndAt l ((ndN l i).kids.getD 1 0)).kids.map fun k => cntF l f k.toNat).sum)) (by omega)).next a
      have b : Part l (visF l f ((ndN l i).kids.getD 0 0).toNat s) (blockP (fun s => allP (visF l f) (ndAt l ((ndN l i).kids.getD 1 0)).kids (declP l i s)) (visF l f ((ndN l i).kids.getD 0 0).toNat s)) (1 + ((ndAt l ((ndN l i).kids.getD 1 0)).kids.map fun k => cntF l f k.toNat).sum) := by
        refine block_part h' ?_
        have d := decl_part h'.block hi
        refine d.trans (ha _ _ (by omega) ?_ (h'.block.next d))
        exact ((hab.less (Nat.le_of_lt k1)).of a.cnt.gat).of d.cnt.gat
      exact (a.trans b).more (by omega)
    · rename_i n1 n2
      simp only [if_neg n1, if_neg n2] at h ⊢
      split
      · exact (block_part (h.less (Nat.le_add_left _ 1)) (ha i _ (Nat.le_refl _) hab ((h.less (Nat.le_add_left _ 1)).block))).more (by omega)
      split
      · have a := ha i s (Nat.le_refl _) hab (h.less (by omega))
        have h' := (h.less (n' := ((ndN l i).kids.map fun k => cntF l f k.toNat).sum + 1) (by omega)).next a
        exact (a.trans (decl_part h' hi)).more (by omega)
      split
      · have st : Part l s { s with set := placeP l (l.length + 1) ((ndN l i).kids.getD 0 0).toNat } 0 := ⟨step_agree h.wf rfl rfl rfl rfl rfl rfl rfl, Cnt.same h.dcl rfl rfl rfl rfl⟩
        have h' : PW l { s with set := placeP l (l.length + 1) ((ndN l i).kids.getD 0 0).toNat } _ := (h.less (n' := 0 + ((ndN l i).kids.map fun k => cntF l f k.toNat).sum) (by omega)).next st
        exact (st.trans (ha i _ (Nat.le_refl _) hab h')).more (by omega)
      · exact (ha i s (Nat.le_refl _) hab (h.less (by omega))).more (by omega)
end Go.Proofs.YtjjbgbadkbomlaaDoor
