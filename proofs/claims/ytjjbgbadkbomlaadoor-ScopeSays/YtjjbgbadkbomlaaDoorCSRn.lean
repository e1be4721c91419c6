import Derived.Test.YtjjbgbadkbomlaaDoorCSP
import Derived.Test.YtjjbgbadkbomlaaDoorCTChkP
namespace Go.Proofs.YtjjbgbadkbomlaaDoor
set_option linter.unusedVariables false
set_option linter.unusedSimpArgs false

/-- the same but for places and for names, which are turned by σ -/
structure Rn (σ : ByteArray → ByteArray) (l l' : List Nd) : Prop where
  inv : ∀ x, σ (σ x) = x
  len : l'.length = l.length
  kd : ∀ i, kdN l' i = kdN l i
  kids : ∀ i, (ndN l' i).kids = (ndN l i).kids
  nm : ∀ i, (ndN l' i).name = σ (ndN l i).name
  emp : ∀ i, (ndN l' i).name.toList.isEmpty = (ndN l i).name.toList.isEmpty
def Sn (σ : ByteArray → ByteArray) (s s' : SSt) : Prop := ∃ p, s' = { s with sc := fun x => s.sc (σ x), dcl := s.dcl.map σ, flt := (p, s.flt.2) }
section
variable {σ : ByteArray → ByteArray} {l l' : List Nd} {s s' : SSt} {i : Nat}
theorem refuse_sn {c : Int} (h : Sn σ s s') : Sn σ (refuseP l i c s) (refuseP l' i c s') := by
  obtain ⟨p, rfl⟩ := h
  unfold refuseP
  simp only []
  by_cases e : s.flt.2 = 0
  · rw [if_pos e, if_pos e]; exact ⟨_, rfl⟩
  · rw [if_neg e, if_neg e]; exact ⟨_, rfl⟩
theorem turn_eq (hi : ∀ x, σ (σ x) = x) (x nm : ByteArray) : (x = σ nm) ↔ (σ x = nm) := ⟨fun e => by rw [e, hi], fun e => by rw [← e, hi]⟩
theorem put_sn (hi : ∀ x, σ (σ x) = x) {nm : ByteArray} {o : Option Nat} (h : Sn σ s s') : Sn σ (putP nm i o s) (putP (σ nm) i o s') := by
  obtain ⟨p, rfl⟩ := h
  refine ⟨p, ?_⟩
  unfold putP
  simp only [List.map_append, List.map_cons, List.map_nil, turn_eq hi]
theorem Sn.mn (h : Sn σ s s') (m : Nat) : mnS s' m = mnS s m := by obtain ⟨p, rfl⟩ := h; rfl
theorem Sn.scs (h : Sn σ s s') (hi : ∀ x, σ (σ x) = x) (x : ByteArray) : s'.sc (σ x) = s.sc x := by obtain ⟨p, rfl⟩ := h; show s.sc (σ (σ x)) = _; rw [hi]
theorem decl_sn (hb : Rn σ l l') (h : Sn σ s s') : Sn σ (declP l i s) (declP l' i s') := by
  have hbl : s'.blocks = s.blocks := by obtain ⟨p, rfl⟩ := h; rfl
  unfold declP
  rw [hb.emp, hb.nm, h.scs hb.inv, hbl]
  split
  · exact h
  · split
    · exact put_sn hb.inv h
    · rw [h.mn]
      split
      · exact refuse_sn h
      · exact put_sn hb.inv h
theorem take_sn {m k : Nat} (h : Sn σ s s') : Sn σ (takeP m s k) (takeP m s' k) := by
  obtain ⟨p, rfl⟩ := h
  exact ⟨p, rfl⟩
theorem takes_sn {m : Nat} : ∀ (ks : List Nat) {s s' : SSt}, Sn σ s s' → Sn σ (ks.foldl (takeP m) s) (ks.foldl (takeP m) s')
  | [], _, _, h => h
  | k :: r, _, _, h => takes_sn r (take_sn h)
theorem done_sn {m d : Nat} (h : Sn σ s s') : Sn σ (doneP m d s) (doneP m d s') := by
  obtain ⟨p, rfl⟩ := h
  exact ⟨p, rfl⟩
theorem dones_sn {d : Nat} : ∀ (ms : List Nat) {s s' : SSt}, Sn σ s s' → Sn σ (ms.foldl (fun s m => doneP m d s) s) (ms.foldl (fun s m => doneP m d s) s')
  | [], _, _, h => h
  | k :: r, _, _, h => dones_sn r (done_sn h)
theorem isVar_rn (hb : Rn σ l l') (d : Int) : isVarP l' d = isVarP l d := by unfold isVarP; rw [hb.kd]
theorem name_sn (hb : Rn σ l l') (h : Sn σ s s') : Sn σ (nameP l i s) (nameP l' i s') := by
  have hg : s'.gat = s.gat := by obtain ⟨p, rfl⟩ := h; rfl
  have hset : s'.set = s.set := by obtain ⟨p, rfl⟩ := h; rfl
  have hr : s'.ref = s.ref := by obtain ⟨p, rfl⟩ := h; rfl
  unfold nameP
  rw [hb.nm, h.scs hb.inv]
  split
  · exact refuse_sn h
  · rename_i m hm
    rw [isVar_rn hb, h.mn, hg, hset, hr]
    split
    · exact refuse_sn h
    · split
      · exact refuse_sn h
      · refine done_sn (takes_sn _ ?_)
        obtain ⟨p, rfl⟩ := h
        exact ⟨p, rfl⟩
theorem out_sn (hi : ∀ x, σ (σ x) = x) {nm : ByteArray} (h : Sn σ s s') : Sn σ (outP s nm) (outP s' (σ nm)) := by
  have ho : outerP s' (σ nm) = outerP s nm := by
    unfold outerP
    rw [h.scs hi]
    cases s.sc nm with
    | none => rfl
    | some m => simp only [h.mn]
  unfold outP
  rw [ho]
  obtain ⟨p, rfl⟩ := h
  refine ⟨p, ?_⟩
  simp only [turn_eq hi]
theorem outs_sn (hi : ∀ x, σ (σ x) = x) : ∀ (ns : List ByteArray) {s s' : SSt}, Sn σ s s' → Sn σ (ns.foldl outP s) ((ns.map σ).foldl outP s')
  | [], _, _, h => h
  | k :: r, _, _, h => outs_sn hi r (out_sn hi h)
theorem block_sn (hi : ∀ x, σ (σ x) = x) {f g : SSt → SSt} (hf : ∀ s s', Sn σ s s' → Sn σ (f s) (g s')) (h : Sn σ s s') : Sn σ (blockP f s) (blockP g s') := by
  have h1 : Sn σ { s with dcl := [], blocks := s.blocks + 1 } { s' with dcl := [], blocks := s'.blocks + 1 } := by
    obtain ⟨p, rfl⟩ := h
    exact ⟨p, rfl⟩
  have h2 := hf _ _ h1
  have hd : (g { s' with dcl := [], blocks := s'.blocks + 1 }).dcl = (f { s with dcl := [], blocks := s.blocks + 1 }).dcl.map σ := by
    obtain ⟨p, e⟩ := h2; rw [e]
  have h3 := outs_sn hi (f { s with dcl := [], blocks := s.blocks + 1 }).dcl h2
  have hdc : s'.dcl = s.dcl.map σ := by obtain ⟨p, rfl⟩ := h; rfl
  unfold blockP
  simp only []
  rw [hd, hdc]
  obtain ⟨p, e⟩ := h3
  rw [e]
  exact ⟨p, rfl⟩
theorem cap_sn {f g : SSt → SSt} (hf : ∀ s s', Sn σ s s' → Sn σ (f s) (g s')) (h : Sn σ s s') : Sn σ (capP i f s) (capP i g s') := by
  have hg : s'.gat = s.gat := by obtain ⟨p, rfl⟩ := h; rfl
  have h1 : Sn σ { s with gat := s.gat ++ [(i, [])] } { s' with gat := s.gat ++ [(i, [])] } := by
    obtain ⟨p, rfl⟩ := h
    exact ⟨p, rfl⟩
  have h2 := hf _ _ h1
  unfold capP
  simp only []
  rw [hg]
  obtain ⟨p, e⟩ := h2
  rw [e]
  exact dones_sn _ ⟨p, rfl⟩
theorem all_sn {v v' : Nat → SSt → SSt} (hv : ∀ i s s', Sn σ s s' → Sn σ (v i s) (v' i s')) : ∀ (ks : List Int) {s s' : SSt}, Sn σ s s' → Sn σ (allP v ks s) (allP v' ks s')
  | [], _, _, h => h
  | k :: r, _, _, h => all_sn hv r (hv _ _ _ h)
theorem place_rn (hb : Rn σ l l') : ∀ f i, placeP l' f i = placeP l f i
  | 0, _ => rfl
  | f + 1, i => by unfold placeP; rw [hb.kd, hb.kids, place_rn hb f]
theorem vis_sn (hb : Rn σ l l') : ∀ (f i : Nat) (s s' : SSt), Sn σ s s' → Sn σ (visF l f i s) (visF l' f i s')
  | 0, _, _, _, h => h
  | f + 1, i, s, s', h => by
    have ih := vis_sn hb f
    have hat : ∀ k : Int, (ndAt l' k).kids = (ndAt l k).kids := fun k => hb.kids k.toNat
    unfold visF
    rw [hb.kd, hb.kids, hb.len, place_rn hb, hat, hat]
    split
    · exact name_sn hb h
    split
    · exact cap_sn (fun s s' h => block_sn hb.inv (fun s s' h => block_sn hb.inv (fun s s' h => all_sn ih _ (all_sn ih _ h)) (decl_sn hb h)) h) h
    split
    · exact block_sn hb.inv (fun s s' h => all_sn ih _ (decl_sn hb h)) (ih _ _ _ h)
    split
    · exact block_sn hb.inv (fun s s' h => all_sn ih _ h) h
    split
    · exact decl_sn hb (all_sn ih _ h)
    split
    · refine all_sn ih _ ?_
      obtain ⟨p, rfl⟩ := h
      exact ⟨p, rfl⟩
    · exact all_sn ih _ h
end
end Go.Proofs.YtjjbgbadkbomlaaDoor
namespace Go.Proofs.YtjjbgbadkbomlaaDoor
set_option linter.unusedVariables false
set_option linter.unusedSimpArgs false

/-- the same but for places, numbers, and names that are none of a value's -/
structure Bl (l l' : List Nd) : Prop where
  len : l'.length = l.length
  kd : ∀ i, kdN l' i = kdN l i
  kids : ∀ i, (ndN l' i).kids = (ndN l i).kids
  nm : ∀ i, kdN l i = 13 ∨ kdN l i = 20 ∨ kdN l i = 43 ∨ kdN l i = 31 ∨ kdN l i = 32 ∨ kdN l i = 42 → (ndN l' i).name = (ndN l i).name
/-- the same but for the place of the fault -/
def Sm' (s s' : SSt) : Prop := ∃ p, s' = { s with flt := (p, s.flt.2) }
theorem Sm'.refl (s : SSt) : Sm' s s := ⟨s.flt.1, rfl⟩
theorem refuse_sm {l l' : List Nd} {i : Nat} {c : Int} {s s' : SSt} (h : Sm' s s') : Sm' (refuseP l i c s) (refuseP l' i c s') := by
  obtain ⟨p, rfl⟩ := h
  unfold refuseP
  simp only []
  by_cases e : s.flt.2 = 0
  · rw [if_pos e, if_pos e]; exact ⟨_, rfl⟩
  · rw [if_neg e, if_neg e]; exact ⟨_, rfl⟩
theorem put_sm {nm : ByteArray} {i : Nat} {o : Option Nat} {s s' : SSt} (h : Sm' s s') : Sm' (putP nm i o s) (putP nm i o s') := by
  obtain ⟨p, rfl⟩ := h
  exact ⟨p, rfl⟩
theorem decl_sm {l l' : List Nd} {i : Nat} (hn : (ndN l' i).name = (ndN l i).name) {s s' : SSt} (h : Sm' s s') : Sm' (declP l i s) (declP l' i s') := by
  have hsc : s'.sc = s.sc := by obtain ⟨p, rfl⟩ := h; rfl
  have hmn : ∀ m, mnS s' m = mnS s m := by obtain ⟨p, rfl⟩ := h; intro m; rfl
  have hbl : s'.blocks = s.blocks := by obtain ⟨p, rfl⟩ := h; rfl
  unfold declP
  rw [hn, hsc, hbl]
  split
  · exact h
  · split
    · exact put_sm h
    · rw [hmn]
      split
      · exact refuse_sm h
      · exact put_sm h
theorem take_sm {m k : Nat} {s s' : SSt} (h : Sm' s s') : Sm' (takeP m s k) (takeP m s' k) := by
  obtain ⟨p, rfl⟩ := h
  exact ⟨p, rfl⟩
theorem takes_sm {m : Nat} : ∀ (ks : List Nat) {s s' : SSt}, Sm' s s' → Sm' (ks.foldl (takeP m) s) (ks.foldl (takeP m) s')
  | [], _, _, h => h
  | k :: r, _, _, h => takes_sm r (take_sm h)
theorem done_sm {m d : Nat} {s s' : SSt} (h : Sm' s s') : Sm' (doneP m d s) (doneP m d s') := by
  obtain ⟨p, rfl⟩ := h
  exact ⟨p, rfl⟩
theorem dones_sm {d : Nat} : ∀ (ms : List Nat) {s s' : SSt}, Sm' s s' → Sm' (ms.foldl (fun s m => doneP m d s) s) (ms.foldl (fun s m => doneP m d s) s')
  | [], _, _, h => h
  | k :: r, _, _, h => dones_sm r (done_sm h)
theorem isVar_bl {l l' : List Nd} (hb : Bl l l') (d : Int) : isVarP l' d = isVarP l d := by unfold isVarP; rw [hb.kd]
theorem name_sm {l l' : List Nd} (hb : Bl l l') {i : Nat} (hn : (ndN l' i).name = (ndN l i).name) {s s' : SSt} (h : Sm' s s') : Sm' (nameP l i s) (nameP l' i s') := by
  have hsc : s'.sc = s.sc := by obtain ⟨p, rfl⟩ := h; rfl
  have hmn : ∀ m, mnS s' m = mnS s m := by obtain ⟨p, rfl⟩ := h; intro m; rfl
  have hg : s'.gat = s.gat := by obtain ⟨p, rfl⟩ := h; rfl
  have hset : s'.set = s.set := by obtain ⟨p, rfl⟩ := h; rfl
  have hr : s'.ref = s.ref := by obtain ⟨p, rfl⟩ := h; rfl
  unfold nameP
  rw [hn, hsc]
  split
  · exact refuse_sm h
  · rename_i m hm
    rw [isVar_bl hb, hmn, hg, hset, hr]
    split
    · exact refuse_sm h
    · split
      · exact refuse_sm h
      · refine done_sm (takes_sm _ ?_)
        obtain ⟨p, rfl⟩ := h
        exact ⟨p, rfl⟩
theorem out_sm {nm : ByteArray} {s s' : SSt} (h : Sm' s s') : Sm' (outP s nm) (outP s' nm) := by
  obtain ⟨p, rfl⟩ := h
  exact ⟨p, rfl⟩
theorem outs_sm : ∀ (ns : List ByteArray) {s s' : SSt}, Sm' s s' → Sm' (ns.foldl outP s) (ns.foldl outP s')
  | [], _, _, h => h
  | k :: r, _, _, h => outs_sm r (out_sm h)
theorem block_sm {f g : SSt → SSt} (hf : ∀ s s', Sm' s s' → Sm' (f s) (g s')) {s s' : SSt} (h : Sm' s s') : Sm' (blockP f s) (blockP g s') := by
  have h1 : Sm' { s with dcl := [], blocks := s.blocks + 1 } { s' with dcl := [], blocks := s'.blocks + 1 } := by
    obtain ⟨p, rfl⟩ := h
    exact ⟨p, rfl⟩
  have h2 := hf _ _ h1
  have hd : (g { s' with dcl := [], blocks := s'.blocks + 1 }).dcl = (f { s with dcl := [], blocks := s.blocks + 1 }).dcl := by
    obtain ⟨p, e⟩ := h2; rw [e]
  have h3 := outs_sm (f { s with dcl := [], blocks := s.blocks + 1 }).dcl h2
  have hdc : s'.dcl = s.dcl := by obtain ⟨p, rfl⟩ := h; rfl
  unfold blockP
  simp only []
  rw [hd, hdc]
  obtain ⟨p, e⟩ := h3
  rw [e]
  exact ⟨p, rfl⟩
theorem cap_sm {i : Nat} {f g : SSt → SSt} (hf : ∀ s s', Sm' s s' → Sm' (f s) (g s')) {s s' : SSt} (h : Sm' s s') : Sm' (capP i f s) (capP i g s') := by
  have hg : s'.gat = s.gat := by obtain ⟨p, rfl⟩ := h; rfl
  have h1 : Sm' { s with gat := s.gat ++ [(i, [])] } { s' with gat := s.gat ++ [(i, [])] } := by
    obtain ⟨p, rfl⟩ := h
    exact ⟨p, rfl⟩
  have h2 := hf _ _ h1
  unfold capP
  simp only []
  rw [hg]
  obtain ⟨p, e⟩ := h2
  rw [e]
  exact dones_sm _ ⟨p, rfl⟩
theorem all_sm {v v' : Nat → SSt → SSt} (hv : ∀ i s s', Sm' s s' → Sm' (v i s) (v' i s')) : ∀ (ks : List Int) {s s' : SSt}, Sm' s s' → Sm' (allP v ks s) (allP v' ks s')
  | [], _, _, h => h
  | k :: r, _, _, h => all_sm hv r (hv _ _ _ h)
theorem place_bl {l l' : List Nd} (hb : Bl l l') : ∀ f i, placeP l' f i = placeP l f i
  | 0, _ => rfl
  | f + 1, i => by unfold placeP; rw [hb.kd, hb.kids, place_bl hb f]
theorem vis_sm {l l' : List Nd} (hb : Bl l l') : ∀ (f i : Nat) (s s' : SSt), Sm' s s' → Sm' (visF l f i s) (visF l' f i s')
  | 0, _, _, _, h => h
  | f + 1, i, s, s', h => by
    have ih := vis_sm hb f
    have hat : ∀ k : Int, (ndAt l' k).kids = (ndAt l k).kids := fun k => hb.kids k.toNat
    unfold visF
    rw [hb.kd, hb.kids, hb.len, place_bl hb, hat, hat]
    split
    · rename_i hk; exact name_sm hb (hb.nm i (.inl hk)) h
    split
    · rename_i hk
      refine cap_sm (fun s s' h => block_sm (fun s s' h => block_sm (fun s s' h => all_sm ih _ (all_sm ih _ h)) (decl_sm (hb.nm i (.inr (.inl hk))) h)) h) h
    split
    · rename_i hk
      exact block_sm (fun s s' h => all_sm ih _ (decl_sm (hb.nm i (.inr (.inr (.inl hk)))) h)) (ih _ _ _ h)
    split
    · exact block_sm (fun s s' h => all_sm ih _ h) h
    split
    · rename_i hk
      exact decl_sm (hb.nm i (by rcases hk with hk | hk | hk <;> simp [hk])) (all_sm ih _ h)
    split
    · refine all_sm ih _ ?_
      obtain ⟨p, rfl⟩ := h
      exact ⟨p, rfl⟩
    · exact all_sm ih _ h
end Go.Proofs.YtjjbgbadkbomlaaDoor
namespace Go.Proofs.YtjjbgbadkbomlaaDoor
set_option linter.unusedVariables false
set_option linter.unusedSimpArgs false

/-- turned: other places, numbers, signs, and names of types -/
structure Tn (l l' : List Nd) : Prop where
  len : l'.length = l.length
  kd : ∀ i, kdN l' i = kdN l i
  kids : ∀ i, (ndN l' i).kids = (ndN l i).kids
  pos : ∀ i, i < l.length → 0 ≤ (ndN l i).pos → 0 ≤ (ndN l' i).pos
  nmf : ∀ i, i < l.length → nameFitsI (kdN l i) (ndN l i).name = true → nameFitsI (kdN l i) (ndN l' i).name = true
  num : ∀ i, kdN l i ≠ 11 → kdN l i ≠ 21 → (ndN l' i).num = (ndN l i).num
  n11 : ∀ i, i < l.length → kdN l i = 11 → 0 ≤ (ndN l i).num → 0 ≤ (ndN l' i).num
  n21 : ∀ i, kdN l i = 21 → levelI 21 (ndN l i).num ≤ levelI 21 (ndN l' i).num ∧ ((ndN l' i).num == 3) = ((ndN l i).num == 3)
theorem Tn.level {l l' : List Nd} (h : Tn l l') (i : Nat) : levelI (kdN l i) (ndN l i).num ≤ levelI (kdN l' i) (ndN l' i).num := by
  rw [h.kd]
  by_cases h1 : kdN l i = 21
  · rw [h1]; exact (h.n21 i h1).1
  · by_cases h2 : kdN l i = 11
    · rw [h2]; unfold levelI; simp [exprI]
    · rw [h.num i h2 h1]; exact Int.le_refl _
theorem wanted_num {k n n' : Int} (h : k ≠ 22 ∨ n' = n) (p : Nat) : wantedI k n' p = wantedI k n p := by
  rcases h with h | rfl
  · unfold wantedI; rw [if_neg h, if_neg h]
  · rfl
theorem Tn.levels {l l' : List Nd} (h : Tn l l') {n n' : Nd} (hk : n'.kind = n.kind) (hn : n.kind ≠ 22 ∨ n'.num = n.num) : ∀ (ks : List Int) (p : Nat), levelsGo l n p ks = true → levelsGo l' n' p ks = true
  | [], _, _ => rfl
  | k :: r, p, hh => by
    rw [levelsGo] at hh ⊢
    have hl : levelI (ndAt l k).kind (ndAt l k).num ≤ levelI (ndAt l' k).kind (ndAt l' k).num := h.level k.toNat
    rw [hk, wanted_num hn]
    split at hh
    · cases hh
    · rename_i hc
      rw [if_neg (by omega)]
      exact Tn.levels h hk hn r _ hh
theorem Tn.begins {l l' : List Nd} (h : Tn l l') : ∀ (f : Nat) (k : Int), beginsI l' f k = beginsI l f k
  | 0, _ => rfl
  | f + 1, k => by
    rw [beginsI, beginsI]
    have e1 : (ndAt l' k).kind = (ndAt l k).kind := h.kd k.toNat
    have e2 : (ndAt l' k).kids = (ndAt l k).kids := h.kids k.toNat
    rw [e1, e2, Tn.begins h f]
    split
    · rfl
    · by_cases hk : (ndAt l k).kind = 21
      · rw [show ((ndAt l' k).num == 3) = ((ndAt l k).num == 3) from (h.n21 k.toNat hk).2]
      · have : ((ndAt l k).kind == 21) = false := by rw [beq_eq_false_iff_ne]; exact hk
        rw [this]; rfl
theorem Tn.levelsFit {l l' : List Nd} (h : Tn l l') (i : Nat) (hh : levelsFitI l (ndN l i) = true) : levelsFitI l' (ndN l' i) = true := by
  unfold levelsFitI at hh ⊢
  have hk : (ndN l' i).kind = (ndN l i).kind := h.kd i
  rw [h.kids, h.len, h.begins, hk]
  rw [Bool.and_eq_true] at hh ⊢
  refine ⟨h.levels hk ?_ _ _ hh.1, hh.2⟩
  by_cases h1 : kdN l i = 22
  · exact .inr (h.num i (by omega) (by omega))
  · exact .inl h1
theorem Tn.kdf {l l' : List Nd} (h : Tn l l') : kdN l' = kdN l := funext h.kd
theorem kids_num {f : Nat → Int} {k n n' : Int} {ks : List Nat} (h : k = 11 ∨ k = 21 ∨ n' = n) : kidsFitI f k n' ks = kidsFitI f k n ks := by
  rcases h with rfl | rfl | rfl
  · unfold kidsFitI kidsRun; simp
  · unfold kidsFitI kidsRun; simp
  · rfl
theorem Tn.node {l l' : List Nd} (h : Tn l l') {fs : List Nat} {i : Nat} (hi : i < l.length) (hz : checkNodeI l fs i = 0) : checkNodeI l' fs i = 0 := by
  obtain ⟨a1, a2, a3, a4, a5, a6, a7⟩ := node_zero hz
  have hk : (ndN l' i).kind = (ndN l i).kind := h.kd i
  have hkk : (ndN l i).kind = kdN l i := rfl
  have b3 : numFitsI (ndN l i).kind (ndN l' i).num (ndN l i).kids.length = true := by
    by_cases h1 : kdN l i = 11
    · rw [hkk, h1]; rw [hkk, h1] at a3; unfold numFitsI at a3 ⊢; simp at a3 ⊢; exact h.n11 i hi h1 a3
    · by_cases h2 : kdN l i = 21
      · rw [hkk, h2]; rw [hkk, h2] at a3; unfold numFitsI at a3 ⊢; simp at a3 ⊢; have := (h.n21 i h2).1; have := (levelI_le 21 (ndN l i).num).1; omega
      · rw [h.num i h1 h2]; exact a3
  have b4 : nameFitsI (ndN l i).kind (ndN l' i).name = true := h.nmf i hi a4
  have b6 : kidsFitI (kdN l) (ndN l i).kind (ndN l' i).num ((ndN l i).kids.map Int.toNat) = true := by
    rw [kids_num (n := (ndN l i).num)]
    · exact a6
    · by_cases h1 : kdN l i = 11
      · exact .inl h1
      · by_cases h2 : kdN l i = 21
        · exact .inr (.inl h2)
        · exact .inr (.inr (h.num i h1 h2))
  have b7 := h.levelsFit i a7
  have b2 := h.pos i hi (by omega)
  unfold checkNodeI
  rw [hk, h.kids, h.kdf, a1, b3, b4, a5, b6, b7]
  simp
  omega
theorem Tn.go {l l' : List Nd} (h : Tn l l') : ∀ (m : Nat) (fs : List Nat), fs.length + m = l.length → checkGo l m fs = (0, 0) → checkGo l' m fs = (0, 0)
  | 0, fs, hl, hz => by
    rw [checkGo] at hz ⊢
    unfold rootI at hz ⊢
    rw [h.len, h.kd]
    exact hz
  | m + 1, fs, hl, hz => by
    rw [checkGo] at hz ⊢
    split at hz
    · rename_i h0
      rw [if_pos (h.node (by omega) h0)]
      have : firstOf fs (ndN l' fs.length) fs.length = firstOf fs (ndN l fs.length) fs.length := by unfold firstOf; rw [h.kids]
      rw [this]
      exact Tn.go h m _ (by simp; omega) hz
    · rename_i h0
      exact absurd (congrArg Prod.snd hz) h0
theorem Tn.check {l l' : List Nd} (h : Tn l l') (hz : checkAll l = (0, 0)) : checkAll l' = (0, 0) := by
  unfold checkAll at hz ⊢
  rw [h.len]
  exact h.go _ _ (by simp) hz
theorem Tn.bl {l l' : List Nd} (h : Tn l l') (hn : ∀ i, kdN l i ≠ 3 → (ndN l' i).name = (ndN l i).name) : Bl l l' := ⟨h.len, h.kd, h.kids, fun i hi => hn i (by omega)⟩
end Go.Proofs.YtjjbgbadkbomlaaDoor
