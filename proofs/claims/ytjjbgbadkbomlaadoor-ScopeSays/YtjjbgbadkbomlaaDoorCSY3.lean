import Derived.Test.YtjjbgbadkbomlaaDoorCSKd
import Derived.Test.YtjjbgbadkbomlaaDoorCSOk
namespace Go.Proofs.YtjjbgbadkbomlaaDoor
set_option linter.unusedVariables false
set_option linter.unusedSimpArgs false

section
variable {l : List Nd} {s s' : SSt}
/-- a row of takes, whole -/
theorem takes_all (m : Nat) : ∀ (n a : Nat) (s : SSt), a + n ≤ s.gat.length → Apart s → (∀ k, k < s.gat.length → pr s k < s.free.length) →
    ∀ k, a ≤ k → k < a + n → tkn ((List.range' a n).foldl (takeP m) s) k = tkn s k ++ [m] ∧ frS ((List.range' a n).foldl (takeP m) s) (pr s k) = frS s (pr s k) ++ [dcM s m]
  | 0, a, s, _, _, _, k, h1, h2 => by omega
  | n + 1, a, s, h, hd, hf, k, h1, h2 => by
    rw [List.range'_succ, List.foldl_cons]
    have ha : a < s.gat.length := by omega
    have hG : ∀ j, gatS (takeP m s a) j = if j = a then ((gatS s a).1, (gatS s a).2 ++ [m]) else gatS s j := fun j => gatS_set (s := s) rfl ha
    have hl : (takeP m s a).gat.length = s.gat.length := (take_ok m s a ha).1.len
    have hF : ∀ p, frS (takeP m s a) p = if (gatS s a).1 = p ∧ (gatS s a).1 < s.free.length then s.free.getD (gatS s a).1 [] ++ [(mnS s m).decl] else frS s p := fun p => getD_set_list _ _ _ _
    have hp : ∀ j, pr (takeP m s a) j = pr s j := fun j => take_fst m s a j ha
    have hap : Apart (takeP m s a) := fun j j' q1 q2 => by rw [take_fst m s a j ha, take_fst m s a j' ha]; exact hd j j' q1 (by rw [← hl]; exact q2)
    have hfl : (takeP m s a).free.length = s.free.length := by simp [takeP]
    by_cases e : k = a
    · subst e
      obtain ⟨r1, r2⟩ := takes_len m n (k + 1) (takeP m s k) (by rw [hl]; omega) hap
      have q1 := (r1 k).1 (by omega)
      have q2 := (r2 (pr s k)).1 (fun j j1 j2 => by
        have := hd k j (by omega) (by omega)
        show pr (takeP m s k) j ≠ pr s k
        rw [hp]
        exact Ne.symm this)
      refine ⟨?_, ?_⟩
      · unfold tkn
        rw [q1, hG, if_pos rfl]
      · refine q2.trans ?_
        show frS (takeP m s k) (pr s k) = _
        rw [hF, if_pos ⟨rfl, hf k ha⟩]
        rfl
    · obtain ⟨r1, r2⟩ := takes_all m n (a + 1) (takeP m s a) (by rw [hl]; omega) hap (fun j hj => by rw [hp, hfl]; exact hf j (by rw [← hl]; exact hj)) k (by omega) (by omega)
      have hne : ¬ (gatS s a).1 = pr s k := hd a k (by omega) (by omega)
      rw [hp] at r2
      refine ⟨r1.trans ?_, r2.trans ?_⟩
      · unfold tkn
        rw [hG, if_neg e]
      · rw [hF, if_neg (fun hc => hne hc.1)]
        rfl
/-- a name that means something -/
theorem Sy.name (h : Sy l s) {i : Nat} (hi : i < l.length) (h13 : kdN l i = 13) (hok : (nameP l i s).flt.2 = 0) (fresh : rf s i = -1) (und : ∀ k, k < s.gat.length → In l (pr s k) i) (cov : ∀ p, kdN l p = 20 → In l p i → ∃ k, k < s.gat.length ∧ pr s k = p) :
    Sy l (nameP l i s) ∧ (∀ j, j ≠ i → rf (nameP l i s) j = rf s j) ∧ rf (nameP l i s) i ≠ -1 ∧ (∀ p, (∀ k, k < s.gat.length → pr s k ≠ p) → frS (nameP l i s) p = frS s p) ∧ (nameP l i s).gat.map (·.1) = s.gat.map (·.1) ∧ s.flt.2 = 0 ∧ (nameP l i s).ms.length = s.ms.length ∧ ∀ m, dcM (nameP l i s) m = dcM s m := by
  have wf := (name_ok h.wf i).1
  unfold nameP at hok wf ⊢
  cases hm : s.sc (ndN l i).name with
  | none => rw [hm] at hok; exact absurd hok (flt_refuse (by decide))
  | some m =>
    rw [hm] at hok wf
    simp only [] at hok wf ⊢
    by_cases hv : (isVarP l (mnS s m).decl && decide ((mnS s m).done < s.gat.length)) = true
    · rw [if_pos hv] at hok; exact absurd hok (flt_refuse (by decide))
    · rw [if_neg hv] at hok wf ⊢
      by_cases hs : (!isVarP l (mnS s m).decl && decide ((i : Int) = s.set)) = true
      · rw [if_pos hs] at hok; exact absurd hok (flt_refuse (by decide))
      · rw [if_neg hs] at hok wf ⊢
        have hml := h.wf.tops _ _ hm
        have hlive : Live s m := .top hm
        obtain ⟨l1, l2⟩ := h.wf.lvl m hlive
        have hd1 : dcM s m ≠ -1 := by
          rcases h.wf.decl m hml with e | e | ⟨d, e, _⟩ <;> (show (mnS s m).decl ≠ -1) <;> rw [e] <;> omega
        generalize hs0 : ({ s with ref := s.ref.set i (mnS s m).decl } : SSt) = s0 at *
        have g0 : s0.gat = s.gat := by rw [← hs0]
        have m0 : s0.ms = s.ms := by rw [← hs0]
        have c0 : s0.sc = s.sc := by rw [← hs0]
        have f0 : s0.free = s.free := by rw [← hs0]
        have r0 : s0.ref = s.ref.set i (mnS s m).decl := by rw [← hs0]
        have t0 : s0.flt = s.flt := by rw [← hs0]
        have hg0 : ∀ k, gatS s0 k = gatS s k := fun k => by unfold gatS; rw [g0]
        have hap0 : Apart s0 := fun j j' q1 q2 => by rw [hg0, hg0]; exact h.ap j j' q1 (by rw [← g0]; exact q2)
        have hle : (mnS s m).done + (s.gat.length - (mnS s m).done) ≤ s0.gat.length := by rw [g0]; omega
        obtain ⟨tk1, tk2⟩ := takes_ok m (s.gat.length - (mnS s m).done) (mnS s m).done s0 hle
        obtain ⟨ln1, ln2⟩ := takes_len m (s.gat.length - (mnS s m).done) (mnS s m).done s0 hle hap0
        have al := takes_all m (s.gat.length - (mnS s m).done) (mnS s m).done s0 hle hap0 (fun k hk => by show (gatS s0 k).1 < s0.free.length; rw [hg0, f0, h.wf.freel]; exact h.wf.prog k (by rw [← g0]; exact hk))
        generalize (List.range' (mnS s m).done (s.gat.length - (mnS s m).done)).foldl (takeP m) s0 = s1 at *
        have m1 : s1.ms = s.ms := tk1.ms.trans m0
        have hmn1 : ∀ x, mnS s1 x = mnS s x := fun x => by unfold mnS; rw [m1]
        -- the last state
        generalize hs2 : doneP m s.gat.length s1 = s2 at *
        have g2 : s2.gat = s1.gat := by rw [← hs2]; rfl
        have f2 : s2.free = s1.free := by rw [← hs2]; rfl
        have r2 : s2.ref = s1.ref := by rw [← hs2]; rfl
        have c2 : s2.sc = s1.sc := by rw [← hs2]; rfl
        have t2 : s2.flt = s1.flt := by rw [← hs2]; rfl
        have ml2 : s2.ms.length = s.ms.length := by rw [← hs2, ← m1]; simp [doneP]
        have mn2 : ∀ x, (mnS s2 x).decl = (mnS s x).decl ∧ (mnS s2 x).outer = (mnS s x).outer ∧ (mnS s2 x).lvl = (mnS s x).lvl := fun x => by
          rw [← hs2, done_mn _ _ _ _ (by rw [m1]; exact hml)]
          split
          · rename_i e; rw [hmn1, e]; exact ⟨rfl, rfl, rfl⟩
          · rw [hmn1]; exact ⟨rfl, rfl, rfl⟩
        have dc2 : ∀ x, dcM s2 x = dcM s x := fun x => (mn2 x).1
        have sc2 : s2.sc = s.sc := c2.trans (tk1.sc.trans c0)
        have gm2 : s2.gat.map (·.1) = s.gat.map (·.1) := by rw [g2, tk1.gat, g0]
        have gl2 : s2.gat.length = s.gat.length := gat_len gm2
        have pr2 : ∀ k, pr s2 k = pr s k := fun k => gat_fst gm2 k
        have live2 : ∀ x, Live s2 x → Live s x := fun x hx => by
          induction hx with
          | top e => exact Live.top (by rw [← sc2]; exact e)
          | @out a b _ e ih => exact Live.out ih (by rw [← (mn2 a).2.1]; exact e)
        have rf2 : ∀ j, rf s2 j = if j = i then dcM s m else rf s j := fun j => by
          unfold rf
          rw [r2, tk1.ref, r0, List.getD_eq_getElem?_getD, List.getElem?_set]
          by_cases e : i = j
          · rw [if_pos e, if_pos (by rw [h.wf.refl_]; exact hi), if_pos e.symm]; rfl
          · rw [if_neg e, if_neg (Ne.symm e), List.getD_eq_getElem?_getD]
        have tk2' : ∀ k, tkn s2 k = tkn s1 k := fun k => by unfold tkn gatS; rw [g2]
        have fr2' : ∀ p, frS s2 p = frS s1 p := fun p => by unfold frS; rw [f2]
        have dd0 : dcM s0 m = dcM s m := by unfold dcM mnS; rw [m0]
        have inR : ∀ k, (mnS s m).done ≤ k → k < s.gat.length → tkn s2 k = tkn s k ++ [m] ∧ frS s2 (pr s k) = frS s (pr s k) ++ [dcM s m] := fun k q1 q2 => by
          obtain ⟨a, b⟩ := al k q1 (by omega)
          have e1 : tkn s0 k = tkn s k := by unfold tkn; rw [hg0]
          have e2 : pr s0 k = pr s k := by unfold pr; rw [hg0]
          have e3 : ∀ p, frS s0 p = frS s p := fun p => by unfold frS; rw [f0]
          rw [e1] at a
          rw [e2, e3, dd0] at b
          exact ⟨(tk2' k).trans a, (fr2' _).trans b⟩
        have outR : ∀ k, k < (mnS s m).done → tkn s2 k = tkn s k := fun k q1 => by
          rw [tk2']
          unfold tkn
          rw [(ln1 k).1 (.inl q1), hg0]
        have outF : ∀ p, (∀ k, (mnS s m).done ≤ k → k < s.gat.length → pr s k ≠ p) → frS s2 p = frS s p := fun p q => by
          rw [fr2']
          refine ((ln2 p).1 fun k k1 k2 => ?_).trans (by unfold frS; rw [f0])
          show (gatS s0 k).1 ≠ p
          rw [hg0]
          exact q k k1 (by omega)
        have more : ∀ p d, d ∈ frS s p → d ∈ frS s2 p := fun p d hd => by
          by_cases q : ∃ k, (mnS s m).done ≤ k ∧ k < s.gat.length ∧ pr s k = p
          · obtain ⟨k, k1, k2, rfl⟩ := q
            rw [(inR k k1 k2).2]
            exact List.mem_append_left _ hd
          · rw [outF p fun k k1 k2 e => q ⟨k, k1, k2, e⟩]
            exact hd
        have hvar : (mnS s m).done < s.gat.length → isVarP l (dcM s m) = false := fun q => by
          cases e : isVarP l (mnS s m).decl with
          | false => exact e
          | true => exact absurd (by rw [e, decide_eq_true q]; rfl) hv
        refine ⟨⟨wf, h.ap.of gm2, fun k hk => ?_, fun k hk => ?_, fun x x' q1 q2 e => ?_, fun x hx k hk => ?_, fun x hx k q1 q2 d e => ?_, fun x x' e => ?_, fun x x' e => ?_, fun p d hd => ?_, fun p => ?_, fun j hj => ?_⟩, fun j hj => ?_, ?_, fun p q => ?_, gm2, ?_, ml2, dc2⟩
        · rw [pr2]; exact h.gk k (by rw [← gl2]; exact hk)
        · have hk' : k < s.gat.length := by rw [← gl2]; exact hk
          have hmap : ∀ xs : List Nat, xs.map (dcM s2) = xs.map (dcM s) := fun xs => List.map_congr_left fun x _ => dc2 x
          rw [pr2, hmap]
          by_cases q : (mnS s m).done ≤ k
          · rw [(inR k q hk').1, (inR k q hk').2, h.fe k hk']
            simp
          · rw [outR k (by omega), ← h.fe k hk']
            refine outF _ fun k' k1 k2 e => ?_
            exact h.ap k k' (by omega) k2 e.symm
        · rw [ml2] at q1 q2
          rw [dc2, dc2] at e
          exact h.di x x' q1 q2 e
        · rw [(mn2 x).2.2] at hk
          rw [dc2, pr2]
          exact h.lv x (live2 x hx) k hk
        · rw [(mn2 x).2.2] at q1
          rw [dc2] at e
          rw [pr2]
          exact h.lw x (live2 x hx) k q1 (by rw [← gl2]; exact q2) d e
        · rw [sc2] at e
          rw [dc2]
          exact h.nm x x' e
        · rw [(mn2 x).2.1] at e
          rw [dc2, dc2]
          exact h.ou x x' e
        · have oldF : d ∈ frS s p → kdN l p = 20 ∧ d ≠ -1 ∧ (∀ d' : Nat, d = d' → ¬ In l p d') ∧ isVarP l d = false ∧ ∃ i, rf s2 i = d ∧ In l p i := fun hd => by
            obtain ⟨a, b, c, e, i', q1, q2⟩ := h.fr p d hd
            refine ⟨a, b, c, e, i', ?_, q2⟩
            rw [rf2, if_neg (fun e' => b (by rw [← q1, e', fresh]))]
            exact q1
          by_cases q : ∃ k, (mnS s m).done ≤ k ∧ k < s.gat.length ∧ pr s k = p
          · obtain ⟨k, k1, k2, rfl⟩ := q
            rw [(inR k k1 k2).2] at hd
            rcases List.mem_append.1 hd with hd | hd
            · exact oldF hd
            · have hd : d = dcM s m := by simpa using hd
              subst hd
              exact ⟨h.gk k k2, hd1, fun d' e => h.lw m hlive k (by omega) k2 d' e, hvar (by omega), i, by rw [rf2, if_pos rfl], und k k2⟩
          · rw [outF p fun k k1 k2 e => q ⟨k, k1, k2, e⟩] at hd
            exact oldF hd
        · by_cases q : ∃ k, (mnS s m).done ≤ k ∧ k < s.gat.length ∧ pr s k = p
          · obtain ⟨k, k1, k2, rfl⟩ := q
            rw [(inR k k1 k2).2]
            refine List.nodup_append.2 ⟨h.nd _, by simp, fun a ha b hb e => ?_⟩
            have hb : b = dcM s m := by simpa using hb
            rw [h.fe k k2, List.mem_map] at ha
            obtain ⟨m', hm', e'⟩ := ha
            have : m' = m := h.di m' m (h.wf.gids k m' hm') hml (by rw [e', e, hb])
            subst this
            have := h.wf.kat m' hlive k hm'
            omega
          · rw [outF p fun k k1 k2 e => q ⟨k, k1, k2, e⟩]
            exact h.nd p
        · rw [rf2] at hj ⊢
          by_cases e : j = i
          · subst e
            rw [if_pos rfl]
            refine ⟨h13, h.nm _ m hm, ?_, fun p hp hin => ?_⟩
            · rcases h.wf.decl m hml with q | q | ⟨d, q, qd⟩
              · exact .inl q
              · exact .inr (.inl q)
              · exact .inr (.inr ⟨d, q, qd⟩)
            · obtain ⟨k, hk, rfl⟩ := cov p hp hin
              by_cases q : k < (mnS s m).lvl
              · exact .inl (h.lv m hlive k q)
              · right
                by_cases q2 : (mnS s m).done ≤ k
                · rw [(inR k q2 hk).2]; simp
                · refine more _ _ ?_
                  rw [h.fe k hk, List.mem_map]
                  exact ⟨m, h.wf.tak m hlive k (by omega) (by omega), rfl⟩
          · rw [if_neg e] at hj ⊢
            obtain ⟨a, b, c, d⟩ := h.rr j hj
            refine ⟨a, b, c, fun p q1 q2 => ?_⟩
            rcases d p q1 q2 with q | q
            · exact .inl q
            · exact .inr (more _ _ q)
        · rw [rf2, if_neg hj]
        · rw [rf2, if_pos rfl]; exact hd1
        · exact outF p fun k k1 k2 => q k k2
        · rw [t2, tk1.flt, t0] at hok
          exact hok
end
end Go.Proofs.YtjjbgbadkbomlaaDoor
namespace Go.Proofs.YtjjbgbadkbomlaaDoor
set_option linter.unusedVariables false
set_option linter.unusedSimpArgs false

section
variable {l : List Nd} {s s' s'' : SSt}
/-! ### a fault stays -/
theorem takes_flt (m : Nat) : ∀ (ks : List Nat) (s : SSt), (ks.foldl (takeP m) s).flt = s.flt
  | [], _ => rfl
  | k :: r, s => by rw [List.foldl_cons, takes_flt m r]; rfl
theorem outs_flt : ∀ (ns : List ByteArray) (s : SSt), (ns.foldl outP s).flt = s.flt ∧ (ns.foldl outP s).ref = s.ref
  | [], _ => ⟨rfl, rfl⟩
  | n :: r, s => by rw [List.foldl_cons]; obtain ⟨a, b⟩ := outs_flt r (outP s n); exact ⟨a, b⟩
theorem dones_flt (d : Nat) : ∀ (T : List Nat) (s : SSt), (T.foldl (fun s m => doneP m d s) s).flt = s.flt ∧ (T.foldl (fun s m => doneP m d s) s).ref = s.ref ∧ (T.foldl (fun s m => doneP m d s) s).sc = s.sc
  | [], _ => ⟨rfl, rfl, rfl⟩
  | m :: r, s => by rw [List.foldl_cons]; obtain ⟨a, b, c⟩ := dones_flt d r (doneP m d s); exact ⟨a, b, c⟩
theorem decl_flt (i : Nat) (h : (declP l i s).flt.2 = 0) : s.flt.2 = 0 := by
  unfold declP at h
  split at h
  · exact h
  · split at h
    · exact h
    · split at h
      · exact absurd h (flt_refuse (by decide))
      · exact h
theorem name_flt (i : Nat) (h : (nameP l i s).flt.2 = 0) : s.flt.2 = 0 := by
  unfold nameP at h
  split at h
  · exact absurd h (flt_refuse (by decide))
  · split at h
    · exact absurd h (flt_refuse (by decide))
    · split at h
      · exact absurd h (flt_refuse (by decide))
      · have e : ∀ (m d : Nat) (x : SSt), (doneP m d x).flt = x.flt := fun _ _ _ => rfl
        rw [e, takes_flt] at h
        exact h
theorem all_flt {v : Nat → SSt → SSt} (hv : ∀ i s, (v i s).flt.2 = 0 → s.flt.2 = 0) : ∀ (ks : List Int) (s : SSt), (allP v ks s).flt.2 = 0 → s.flt.2 = 0
  | [], s, h => h
  | k :: r, s, h => hv _ _ (all_flt hv r _ h)
theorem block_flt' (ins : SSt → SSt) : (blockP ins s).flt = (ins { s with dcl := [], blocks := s.blocks + 1 }).flt := (outs_flt _ _).1
theorem cap_flt' (i : Nat) (ins : SSt → SSt) : (capP i ins s).flt = (ins { s with gat := s.gat ++ [(i, [])] }).flt := (dones_flt _ _ _).1
theorem vis_flt (l : List Nd) : ∀ (f i : Nat) (s : SSt), (visF l f i s).flt.2 = 0 → s.flt.2 = 0
  | 0, _, _, h => h
  | f + 1, i, s, h => by
    have ih := vis_flt l f
    unfold visF at h
    split at h
    · exact name_flt i h
    split at h
    · rw [cap_flt', block_flt', block_flt'] at h
      have h1 := all_flt (v := visF l f) ih _ _ h
      have h2 := all_flt (v := visF l f) ih _ _ h1
      have h3 := decl_flt (l := l) i h2
      exact h3
    split at h
    · rw [block_flt'] at h
      have h1 := all_flt (v := visF l f) ih _ _ h
      have h2 := decl_flt (l := l) i h1
      exact ih _ _ h2
    split at h
    · rw [block_flt'] at h
      have h1 := all_flt (v := visF l f) ih _ _ h
      exact h1
    split at h
    · exact all_flt (v := visF l f) ih _ _ (decl_flt i h)
    split at h
    · have h1 := all_flt (v := visF l f) ih _ _ h
      exact h1
    · exact all_flt (v := visF l f) ih _ _ h

/-! ### regions -/
structure Fsh (s : SSt) (R : Nat → Prop) : Prop where
  ref : ∀ j, R j → rf s j = -1
  free : ∀ j, R j → frS s j = []
  dcl : ∀ m, m < s.ms.length → ∀ d : Nat, dcM s m = d → ¬ R d
  gat : ∀ k, k < s.gat.length → ¬ R (pr s k)
structure Pst (l : List Nd) (s s' : SSt) (R : Nat → Prop) : Prop where
  sy : Sy l s'
  step : StepOk l s s'
  ref : ∀ j, ¬ R j → rf s' j = rf s j
  free : ∀ p, ¬ R p → (∀ k, k < s.gat.length → pr s k ≠ p) → frS s' p = frS s p
  new : ∀ m, s.ms.length ≤ m → m < s'.ms.length → ∃ d : Nat, dcM s' m = d ∧ R d
  all : ∀ j, R j → kdN l j = 13 → rf s' j ≠ -1
theorem Pst.gat {R : Nat → Prop} (h : Pst l s s' R) : s'.gat.map (·.1) = s.gat.map (·.1) := by
  obtain ⟨_, n, e, _⟩ := h.step
  exact e.gat
theorem Pst.old {R : Nat → Prop} (h : Pst l s s' R) (m : Nat) (hm : m < s.ms.length) : dcM s' m = dcM s m := by
  obtain ⟨_, n, e, _⟩ := h.step
  exact (e.old m hm).1
theorem Pst.len {R : Nat → Prop} (h : Pst l s s' R) : s.ms.length ≤ s'.ms.length := by
  obtain ⟨_, n, e, _⟩ := h.step
  exact e.msl
theorem Pst.prs {R : Nat → Prop} (h : Pst l s s' R) (k : Nat) : pr s' k = pr s k := gat_fst h.gat k
theorem Pst.gl {R : Nat → Prop} (h : Pst l s s' R) : s'.gat.length = s.gat.length := gat_len h.gat
theorem Pst.trans {R1 R2 : Nat → Prop} (h : Pst l s s' R1) (g : Pst l s' s'' R2) (hd : ∀ j, R1 j → ¬ R2 j) : Pst l s s'' (fun j => R1 j ∨ R2 j) := by
  refine ⟨g.sy, h.step.trans g.step, fun j hj => ?_, fun p hp hk => ?_, fun m h1 h2 => ?_, fun j hj hk => ?_⟩
  · rw [g.ref j (fun q => hj (.inr q)), h.ref j (fun q => hj (.inl q))]
  · rw [g.free p (fun q => hp (.inr q)) (fun k q => by rw [h.prs]; exact hk k (by rw [← h.gl]; exact q)), h.free p (fun q => hp (.inl q)) hk]
  · by_cases e : m < s'.ms.length
    · obtain ⟨d, e1, e2⟩ := h.new m h1 e
      exact ⟨d, by rw [g.old m e]; exact e1, .inl e2⟩
    · obtain ⟨d, e1, e2⟩ := g.new m (by omega) h2
      exact ⟨d, e1, .inr e2⟩
  · rcases hj with q | q
    · rw [g.ref j (hd j q)]; exact h.all j q hk
    · exact g.all j q hk
theorem Fsh.next {R1 R2 : Nat → Prop} (h : Fsh s R2) (g : Pst l s s' R1) (hd : ∀ j, R1 j → ¬ R2 j) : Fsh s' R2 := by
  refine ⟨fun j hj => ?_, fun j hj => ?_, fun m hm d e => ?_, fun k hk => ?_⟩
  · rw [g.ref j (fun q => hd j q hj)]; exact h.ref j hj
  · rw [g.free j (fun q => hd j q hj) (fun k hk e => h.gat k hk (by rw [e]; exact hj))]; exact h.free j hj
  · by_cases q : m < s.ms.length
    · rw [g.old m q] at e; exact h.dcl m q d e
    · obtain ⟨d', e1, e2⟩ := g.new m (by omega) hm
      have : d = d' := by rw [e] at e1; exact Int.ofNat_inj.1 e1
      rw [this]
      exact hd d' e2
  · rw [g.prs]; exact h.gat k (by rw [← g.gl]; exact hk)
theorem Fsh.sub {R1 R2 : Nat → Prop} (h : Fsh s R2) (hs : ∀ j, R1 j → R2 j) : Fsh s R1 :=
  ⟨fun j hj => h.ref j (hs j hj), fun j hj => h.free j (hs j hj), fun m hm d e q => h.dcl m hm d e (hs d q), fun k hk q => h.gat k hk (hs _ q)⟩
theorem Pst.wide {R1 R2 : Nat → Prop} (h : Pst l s s' R1) (hs : ∀ j, R1 j → R2 j) (ha : ∀ j, R2 j → kdN l j = 13 → R1 j) : Pst l s s' R2 :=
  ⟨h.sy, h.step, fun j hj => h.ref j (fun q => hj (hs j q)), fun p hp hk => h.free p (fun q => hp (hs p q)) hk, fun m h1 h2 => by obtain ⟨d, a, b⟩ := h.new m h1 h2; exact ⟨d, a, hs d b⟩, fun j hj hk => h.all j (ha j hj hk) hk⟩
theorem Pst.refl (h : Sy l s) : Pst l s s (fun _ => False) := ⟨h, StepOk.refl h.wf, fun _ _ => rfl, fun _ _ _ => rfl, fun m h1 h2 => by omega, fun _ q => q.elim⟩
/-- all progs about a node are open, and it stands in all that are -/
structure Ctx (l : List Nd) (s : SSt) (i : Nat) : Prop where
  und : ∀ k, k < s.gat.length → In l (pr s k) i
  cov : ∀ p, kdN l p = 20 → In l p i → p ≠ i → ∃ k, k < s.gat.length ∧ pr s k = p
theorem Ctx.of {i : Nat} (h : Ctx l s i) (e : s'.gat.map (·.1) = s.gat.map (·.1)) : Ctx l s' i := by
  have hp : ∀ k, pr s' k = pr s k := fun k => gat_fst e k
  have hl := gat_len e
  refine ⟨fun k hk => by rw [hp]; exact h.und k (by rw [← hl]; exact hk), fun p h1 h2 h3 => ?_⟩
  obtain ⟨k, a, b⟩ := h.cov p h1 h2 h3
  exact ⟨k, by rw [hl]; exact a, by rw [hp]; exact b⟩
theorem Ctx.kid (T : KT l) {i : Nat} {k : Int} (h : Ctx l s i) (hk : k ∈ (ndN l i).kids) (h20 : kdN l i ≠ 20) : Ctx l s k.toNat := by
  refine ⟨fun q hq => .kid (h.und q hq) hk, fun p h1 h2 h3 => ?_⟩
  have := In.up T h2 (Ne.symm h3) hk rfl
  exact h.cov p h1 this (fun e => h20 (by rw [← e]; exact h1))
/-- nodes one after the other -/
def RK (l : List Nd) (ks : List Int) (j : Nat) : Prop := ∃ k ∈ ks, In l k.toNat j
theorem all_sy (T : KT l) {v : Nat → SSt → SSt} {y : Nat} (hf : ∀ i s, (v i s).flt.2 = 0 → s.flt.2 = 0)
    (hv : ∀ k ∈ (ndN l y).kids, ∀ s, Sy l s → Fsh s (In l k.toNat) → Ctx l s k.toNat → (v k.toNat s).flt.2 = 0 → Pst l s (v k.toNat s) (In l k.toNat)) : ∀ (ks : List Int) (s : SSt), ks.Nodup → (∀ k ∈ ks, k ∈ (ndN l y).kids) → Sy l s → Fsh s (RK l ks) → (∀ k ∈ ks, Ctx l s k.toNat) → (allP v ks s).flt.2 = 0 → Pst l s (allP v ks s) (RK l ks)
  | [], s, _, _, h, _, _, _ => (Pst.refl h).wide (fun _ q => q.elim) (fun j ⟨k, hk, _⟩ _ => by cases hk)
  | k :: r, s, hn, hk, h, fs, cx, hok => by
    rw [List.nodup_cons] at hn
    have hok1 : (v k.toNat s).flt.2 = 0 := all_flt hf r _ hok
    have p1 := hv k (hk k (by simp)) s h (fs.sub fun j q => ⟨k, by simp, q⟩) (cx k (by simp)) hok1
    have hd : ∀ j, In l k.toNat j → ¬ RK l r j := fun j q ⟨k', hk', q'⟩ => In.apart T (hk k (by simp)) (hk k' (by simp [hk'])) (fun e => hn.1 (by rw [e]; exact hk')) q q'
    have p2 := all_sy T hf hv r (v k.toNat s) hn.2 (fun x hx => hk x (by simp [hx])) p1.sy ((fs.sub fun j ⟨k', a, b⟩ => ⟨k', by simp [a], b⟩).next p1 hd) (fun x hx => (cx x (by simp [hx])).of p1.gat) hok
    refine (p1.trans p2 hd).wide (fun j q => ?_) (fun j q _ => ?_)
    · rcases q with q | ⟨k', a, b⟩
      · exact ⟨k, by simp, q⟩
      · exact ⟨k', by simp [a], b⟩
    · obtain ⟨k', a, b⟩ := q
      rcases List.mem_cons.1 a with rfl | a
      · exact .inl b
      · exact .inr ⟨k', a, b⟩
/-! ### blocks -/
theorem Sy.enter (h : Sy l s) : Sy l { s with dcl := [], blocks := s.blocks + 1 } := by
  refine h.agree (block_wf h.wf) rfl rfl rfl rfl (fun m hm => ?_) h.nm
  induction hm with
  | top e => exact Live.top e
  | out _ e ih => exact Live.out ih e
theorem Pst.block {ins : SSt → SSt} {R : Nat → Prop} (h : Sy l s) (hp : Pst l { s with dcl := [], blocks := s.blocks + 1 } (ins { s with dcl := [], blocks := s.blocks + 1 }) R) : Pst l s (blockP ins s) R ∧ SExt s (blockP ins s) [] := by
  obtain ⟨a, b, c⟩ := block_ok h.wf ins hp.step
  obtain ⟨e1, e3, e4⟩ := outs_all (ins { s with dcl := [], blocks := s.blocks + 1 }).dcl (ins { s with dcl := [], blocks := s.blocks + 1 })
  obtain ⟨_, e5⟩ := outs_flt (ins { s with dcl := [], blocks := s.blocks + 1 }).dcl (ins { s with dcl := [], blocks := s.blocks + 1 })
  have q1 : (blockP ins s).ms = (ins { s with dcl := [], blocks := s.blocks + 1 }).ms := e1
  have q3 : (blockP ins s).gat = (ins { s with dcl := [], blocks := s.blocks + 1 }).gat := e3
  have q4 : (blockP ins s).free = (ins { s with dcl := [], blocks := s.blocks + 1 }).free := e4
  have q5 : (blockP ins s).ref = (ins { s with dcl := [], blocks := s.blocks + 1 }).ref := e5
  obtain ⟨_, new, ex, _⟩ := hp.step
  generalize ins { s with dcl := [], blocks := s.blocks + 1 } = s1 at *
  have hsy : Sy l (blockP ins s) := hp.sy.agree a q5 q4 q3 q1 (fun m hm => by
    induction hm with
    | @top nm m e =>
      rw [c] at e
      by_cases hn : nm ∈ new
      · obtain ⟨m', w1, w2, _, _⟩ := ex.fresh nm hn
        exact Live.out (Live.top w1) (w2.trans e)
      · exact Live.top ((ex.same nm hn).trans e)
    | @out a b _ e ih =>
      refine Live.out ih ?_
      have : mnS (blockP ins s) a = mnS s1 a := by unfold mnS; rw [q1]
      rw [← this]
      exact e) (fun x m e => by
    rw [c] at e
    have := hp.old m (h.wf.tops x m e)
    rw [this]
    exact h.nm x m e)
  have r1 : ∀ j, rf (blockP ins s) j = rf s1 j := fun j => by unfold rf; rw [q5]
  have f1 : ∀ p, frS (blockP ins s) p = frS s1 p := fun p => by unfold frS; rw [q4]
  have d1 : ∀ m, dcM (blockP ins s) m = dcM s1 m := fun m => by unfold dcM mnS; rw [q1]
  refine ⟨⟨hsy, ⟨a, [], b, fun _ hc => by cases hc⟩, fun j hj => ?_, fun p hp1 hk => ?_, fun m h1 h2 => ?_, fun j hj hk => ?_⟩, b⟩
  · rw [r1]; exact hp.ref j hj
  · rw [f1]; exact hp.free p hp1 hk
  · rw [q1] at h2; rw [d1]; exact hp.new m h1 h2
  · rw [r1]; exact hp.all j hj hk
/-! ### progs -/
theorem Sy.push (h : Sy l s) {i : Nat} (hi : i < l.length) (h20 : kdN l i = 20) (fs : Fsh s (In l i)) : Sy l { s with gat := s.gat ++ [(i, [])] } := by
  have hg : ∀ k, k < s.gat.length → gatS { s with gat := s.gat ++ [(i, [])] } k = gatS s k := fun k hk => by rw [gatS_push, if_neg (by omega)]
  have hl : ({ s with gat := s.gat ++ [(i, [])] } : SSt).gat.length = s.gat.length + 1 := by simp
  have live : ∀ m, Live { s with gat := s.gat ++ [(i, [])] } m → Live s m := fun m hm => by
    induction hm with
    | top e => exact Live.top e
    | out _ e ih => exact Live.out ih e
  refine ⟨cap_wf h.wf i hi, fun j j' h1 h2 => ?_, fun k hk => ?_, fun k hk => ?_, h.di, fun m hm k hk => ?_, fun m hm k h1 h2 d e => ?_, h.nm, h.ou, h.fr, h.nd, h.rr⟩
  · rw [hl] at h2
    rw [hg j (by omega)]
    by_cases e : j' = s.gat.length
    · rw [gatS_push, if_pos e]
      intro q
      exact fs.gat j (by omega) (by show In l i (gatS s j).1; rw [q]; exact .self)
    · rw [hg j' (by omega)]
      exact h.ap j j' h1 (by omega)
  · rw [hl] at hk
    unfold pr
    by_cases e : k = s.gat.length
    · rw [gatS_push, if_pos e]; exact h20
    · rw [hg k (by omega)]; exact h.gk k (by omega)
  · rw [hl] at hk
    unfold pr tkn
    by_cases e : k = s.gat.length
    · rw [gatS_push, if_pos e]; exact fs.free i .self
    · rw [hg k (by omega)]; exact h.fe k (by omega)
  · have q := h.wf.lvl m (live m hm)
    have hk' : k < (mnS s m).lvl := hk
    unfold pr
    rw [hg k (by omega)]
    exact h.lv m (live m hm) k hk
  · rw [hl] at h2
    unfold pr
    by_cases e' : k = s.gat.length
    · rw [gatS_push, if_pos e']; exact fs.dcl m ((live m hm).lt h.wf) d e
    · rw [hg k (by omega)]; exact h.lw m (live m hm) k h1 (by omega) d e
theorem Pst.cap {ins : SSt → SSt} {i : Nat} {R R' : Nat → Prop} (h : Sy l s) (hp : Pst l { s with gat := s.gat ++ [(i, [])] } (ins { s with gat := s.gat ++ [(i, [])] }) R) (hx : SExt { s with gat := s.gat ++ [(i, [])] } (ins { s with gat := s.gat ++ [(i, [])] }) []) (hi' : R' i) (hs : ∀ j, R j → R' j) (ha : ∀ j, R' j → kdN l j = 13 → R j) : Pst l s (capP i ins s) R' := by
  obtain ⟨wf, ex⟩ := cap_ok h.wf i ins hp.sy.wf hx
  have hst : StepOk l s (capP i ins s) := ⟨wf, [], ex, fun _ hc => by cases hc⟩
  have hgl : ({ s with gat := s.gat ++ [(i, [])] } : SSt).gat.length = s.gat.length + 1 := by simp
  have hpr : ∀ k, k < s.gat.length → pr { s with gat := s.gat ++ [(i, [])] } k = pr s k := fun k hk => by unfold pr; rw [gatS_push, if_neg (by omega)]
  unfold capP at wf hst ex ⊢
  generalize ins { s with gat := s.gat ++ [(i, [])] } = s1 at *
  have hg1 : s1.gat.length = s.gat.length + 1 := by rw [hp.gl, hgl]
  obtain ⟨s3, e1, e2, e3, e4⟩ := dones_ok ({ s1 with gat := s1.gat.take s.gat.length } : SSt).gat.length (gatS s1 s.gat.length).2 { s1 with gat := s1.gat.take s.gat.length } (fun m hm => hp.sy.wf.gids _ m hm)
  simp only [] at wf hst ex ⊢
  simp only [] at e1
  rw [e1] at wf hst ex ⊢
  have hgt : s3.gat = s1.gat.take s.gat.length := by rw [e2]
  have hl3 : s3.gat.length = s.gat.length := by rw [hgt]; simp; omega
  have hsc : s3.sc = s1.sc := by rw [e2]
  have hrf : ∀ j, rf s3 j = rf s1 j := fun j => by unfold rf; rw [e2]
  have hfr : ∀ j, frS s3 j = frS s1 j := fun j => by unfold frS; rw [e2]
  have hG : ∀ k, k < s.gat.length → gatS s3 k = gatS s1 k := fun k hk => by
    unfold gatS
    rw [hgt, List.getD_eq_getElem?_getD, List.getD_eq_getElem?_getD, List.getElem?_take, if_pos hk]
  have hmo : ∀ x, (mnS s3 x).outer = (mnS s1 x).outer ∧ dcM s3 x = dcM s1 x ∧ (mnS s3 x).lvl = (mnS s1 x).lvl := fun x => by
    have e4 : mnS s3 x = if x ∈ (gatS s1 s.gat.length).2 then { mnS s1 x with done := (s1.gat.take s.gat.length).length } else mnS s1 x := e4 x
    unfold dcM
    rw [e4]
    split <;> exact ⟨rfl, rfl, rfl⟩
  have hml : s3.ms.length = s1.ms.length := e3
  have live : ∀ m, Live s3 m → Live s1 m := fun m hm => by
    induction hm with
    | top e => exact Live.top (by rw [← hsc]; exact e)
    | @out a b _ e ih => exact Live.out ih (by rw [← (hmo a).1]; exact e)
  have S := hp.sy
  refine ⟨⟨wf, fun j j' h1 h2 => ?_, fun k hk => ?_, fun k hk => ?_, fun m m' h1 h2 e => ?_, fun m hm k hk => ?_, fun m hm k h1 h2 d e => ?_, fun x m e => ?_, fun m m' e => ?_, fun p d hd => ?_, fun p => ?_, fun j hj => ?_⟩, hst, fun j hj => ?_, fun p hp1 hk => ?_, fun m h1 h2 => ?_, fun j hj hk => ?_⟩
  · rw [hl3] at h2; rw [hG j (by omega), hG j' h2]; exact S.ap j j' h1 (by omega)
  · rw [hl3] at hk; unfold pr; rw [hG k hk]; exact S.gk k (by omega)
  · rw [hl3] at hk
    have hmap : ∀ xs : List Nat, xs.map (dcM s3) = xs.map (dcM s1) := fun xs => List.map_congr_left fun x _ => (hmo x).2.1
    unfold pr tkn
    rw [hG k hk, hfr, hmap]
    exact S.fe k (by omega)
  · rw [hml] at h1 h2; rw [(hmo m).2.1, (hmo m').2.1] at e; exact S.di m m' h1 h2 e
  · have q := wf.lvl m hm
    have hk2 := hk
    rw [(hmo m).2.2] at hk
    unfold pr
    rw [hG k (by omega), (hmo m).2.1]
    exact S.lv m (live m hm) k hk
  · rw [(hmo m).2.2] at h1
    rw [(hmo m).2.1] at e
    rw [hl3] at h2
    unfold pr
    rw [hG k h2]
    exact S.lw m (live m hm) k h1 (by omega) d e
  · rw [hsc] at e; rw [(hmo m).2.1]; exact S.nm x m e
  · rw [(hmo m).1] at e; rw [(hmo m).2.1, (hmo m').2.1]; exact S.ou m m' e
  · rw [hfr] at hd
    obtain ⟨a, b, c, d1, j, w1, w2⟩ := S.fr p d hd
    exact ⟨a, b, c, d1, j, by rw [hrf]; exact w1, w2⟩
  · rw [hfr]; exact S.nd p
  · rw [hrf] at hj ⊢
    obtain ⟨a, b, c, d⟩ := S.rr j hj
    exact ⟨a, b, c, fun p w1 w2 => by rw [hfr]; exact d p w1 w2⟩
  · rw [hrf]; exact hp.ref j (fun q => hj (hs j q))
  · rw [hfr]
    refine hp.free p (fun q => hp1 (hs p q)) (fun k q => ?_)
    rw [hgl] at q
    by_cases e : k = s.gat.length
    · unfold pr
      rw [gatS_push, if_pos e]
      intro e2
      exact hp1 (by rw [← e2]; exact hi')
    · rw [hpr k (by omega)]; exact hk k (by omega)
  · rw [hml] at h2
    obtain ⟨d, a, b⟩ := hp.new m h1 h2
    exact ⟨d, by rw [(hmo m).2.1]; exact a, hs d b⟩
  · rw [hrf]; exact hp.all j (ha j hj hk) hk
end
end Go.Proofs.YtjjbgbadkbomlaaDoor
namespace Go.Proofs.YtjjbgbadkbomlaaDoor
set_option linter.unusedVariables false
set_option linter.unusedSimpArgs false

section
variable {l : List Nd} {s s' : SSt}
/-- the shapes that the walk leans on -/
structure Shp (l : List Nd) : Prop where
  k13 : ∀ i, kdN l i = 13 → (ndN l i).kids = []
  k20 : ∀ i, kdN l i = 20 → ∃ xs z, (ndN l i).kids = xs ++ [z] ∧ kdN l z.toNat = 41
  k43 : ∀ i, kdN l i = 43 → ∃ a b, (ndN l i).kids = [a, b] ∧ kdN l b.toNat = 41
theorem shp_of (h : (checkAll l).2 = 0) : Shp l := by
  obtain ⟨ok, _, _⟩ := ok_all h
  have far : ∀ i, kdN l i ≠ 0 → i < l.length := fun i hi => by
    apply Classical.byContradiction
    intro hc
    exact hi (by unfold kdN; rw [ndN_far (by omega)]; rfl)
  have fit : ∀ i k, kdN l i = k → k ≠ 0 → kidsFitI (kdN l) k (ndN l i).num ((ndN l i).kids.map Int.toNat) = true ∧ ((ndN l i).kids.map Int.toNat).map (fun k : Nat => (k : Int)) = (ndN l i).kids := fun i k e hk => by
    have o := ok i (far i (by rw [e]; exact hk))
    have := o.fit
    rw [show (ndN l i).kind = k from e] at this
    exact ⟨this, o.nat⟩
  refine ⟨fun i e => ?_, fun i e => ?_, fun i e => ?_⟩
  · obtain ⟨f1, f2⟩ := fit i 13 e (by decide)
    unfold kidsFitI kidsRun at f1
    simp only [show ¬ ((13 : Int) = 5) by decide, show ¬ ((13 : Int) = 7) by decide, if_false] at f1
    simp at f1
    have := fit0 f1
    simpa using this
  · obtain ⟨f1, f2⟩ := fit i 20 e (by decide)
    have e2 : kidsRun (kdN l) 20 (ndN l i).num ((ndN l i).kids.map Int.toNat, false) = cOne (justI 41 ∘ kdN l) (if (ndN l i).num = 1 then cOne (typI ∘ kdN l) (cMany (justI 42 ∘ kdN l) ((ndN l i).kids.map Int.toNat, false)) else cMany (justI 42 ∘ kdN l) ((ndN l i).kids.map Int.toNat, false)) := rfl
    unfold kidsFitI at f1
    rw [e2] at f1
    have get : ∀ (xs : List Nat) (z : Nat), (justI 41 ∘ kdN l) z = true → (ndN l i).kids.map Int.toNat = xs ++ [z] → ∃ xs z, (ndN l i).kids = xs ++ [z] ∧ kdN l z.toNat = 41 := fun xs z hz e => by
      refine ⟨xs.map (fun k : Nat => (k : Int)), (z : Int), ?_, ?_⟩
      · rw [← f2, e]; simp
      · have : justI 41 (kdN l z) = true := hz
        unfold justI at this
        simpa using this
    by_cases hn : (ndN l i).num = 1
    · rw [if_pos hn] at f1
      obtain ⟨xs, y, z, _, _, hz, e⟩ := fitM2 f1
      exact get (xs ++ [y]) z hz (by rw [e]; simp)
    · rw [if_neg hn] at f1
      obtain ⟨xs, z, _, hz, e⟩ := fitM1 f1
      exact get xs z hz e
  · obtain ⟨f1, f2⟩ := fit i 43 e (by decide)
    have e2 : kidsRun (kdN l) 43 (ndN l i).num ((ndN l i).kids.map Int.toNat, false) = cOne (justI 41 ∘ kdN l) (cOne (exprI ∘ kdN l) ((ndN l i).kids.map Int.toNat, false)) := rfl
    unfold kidsFitI at f1
    rw [e2] at f1
    obtain ⟨a, b, _, hb, e⟩ := fit2 f1
    refine ⟨(a : Int), (b : Int), by rw [← f2, e]; simp, ?_⟩
    have : justI 41 (kdN l b) = true := hb
    unfold justI at this
    simpa using this
theorem in_cases {i j : Nat} (h : In l i j) : j = i ∨ RK l (ndN l i).kids j := by
  induction h with
  | self => exact .inl rfl
  | @kid y k hy hk ih =>
    rcases ih with rfl | ⟨k0, a, b⟩
    · exact .inr ⟨k, hk, .self⟩
    · exact .inr ⟨k0, a, .kid b hk⟩
theorem rk_in {i j : Nat} (h : RK l (ndN l i).kids j) : In l i j := by
  obtain ⟨k, hk, h⟩ := h
  exact In.trans (.kid .self hk) h
theorem rk_lt (T : KT l) {i j : Nat} (h : RK l (ndN l i).kids j) : j < i := by
  obtain ⟨k, hk, h⟩ := h
  have := In.le T h
  have := (T.kid hk).1
  omega
theorem Pst.decl (h : Sy l s) {i : Nat} (hi : i < l.length) (h13 : kdN l i ≠ 13) (hok : (declP l i s).flt.2 = 0) (fresh : ∀ m, m < s.ms.length → dcM s m ≠ (i : Int)) (und : ∀ k, k < s.gat.length → In l (pr s k) i) : Pst l s (declP l i s) (fun j => j = i) := by
  obtain ⟨a, b, c, d, e, f⟩ := h.decl hi hok fresh und
  refine ⟨a, decl_ok h.wf i hi, fun j _ => ?_, fun p _ _ => ?_, fun m h1 h2 => ⟨i, f m h1 h2, rfl⟩, fun j hj hk => absurd hk (by rw [hj]; exact h13)⟩
  · unfold rf; rw [b]
  · unfold frS; rw [c]
theorem Fsh.ne {i : Nat} {R : Nat → Prop} (h : Fsh s R) (hi : R i) : ∀ m, m < s.ms.length → dcM s m ≠ (i : Int) := fun m hm e => h.dcl m hm i e hi
theorem vis_sy (T : KT l) (sh : Shp l) (hl : KidsLt l) : ∀ (f i : Nat) (s : SSt), i < l.length → i < f → Sy l s → Fsh s (In l i) → Ctx l s i → (visF l f i s).flt.2 = 0 → Pst l s (visF l f i s) (In l i)
  | 0, _, _, _, h, _, _, _, _ => by omega
  | f + 1, i, s, hi, hif, h, fs, cx, hok => by
    have hfl := vis_flt l f
    have hv : ∀ y, y ≤ i → ∀ k ∈ (ndN l y).kids, ∀ s, Sy l s → Fsh s (In l k.toNat) → Ctx l s k.toNat → (visF l f k.toNat s).flt.2 = 0 → Pst l s (visF l f k.toNat s) (In l k.toNat) := fun y hy k hk s a b c d =>
      vis_sy T sh hl f k.toNat s (by have := (T.kid hk).1; omega) (by have := (T.kid hk).1; omega) a b c d
    -- all kids of a node that is no prog
    have kids : ∀ y, y ≤ i → ∀ s, kdN l y ≠ 20 → Sy l s → Fsh s (RK l (ndN l y).kids) → Ctx l s y → (allP (visF l f) (ndN l y).kids s).flt.2 = 0 → Pst l s (allP (visF l f) (ndN l y).kids s) (RK l (ndN l y).kids) := fun y hy s h20 a b c d =>
      all_sy T hfl (hv y hy) _ s (T.nd y) (fun _ q => q) a b (fun k hk => c.kid T hk h20) d
    have fk : Fsh s (RK l (ndN l i).kids) := fs.sub fun j q => rk_in q
    have wide : ∀ {s s' : SSt} , kdN l i ≠ 13 → Pst l s s' (RK l (ndN l i).kids) → Pst l s s' (In l i) := fun h13 p => p.wide (fun j q => rk_in q) fun j q hk => by
      rcases in_cases q with rfl | q
      · exact absurd hk h13
      · exact q
    unfold visF at hok ⊢
    split
    · -- a name
      rename_i h13
      rw [if_pos h13] at hok
      have only : ∀ j, In l i j → j = i := fun j q => by
        rcases in_cases q with q | ⟨k, hk, _⟩
        · exact q
        · rw [sh.k13 i h13] at hk; cases hk
      obtain ⟨a, b, c, d, _, _, e, g⟩ := h.name hi h13 hok (fs.ref i .self) cx.und (fun p h1 h2 => cx.cov p h1 h2 (fun e => by rw [e, h13] at h1; cases h1))
      refine ⟨a, name_ok h.wf i, fun j hj => b j (fun q => hj (by rw [q]; exact .self)), fun p _ hk => d p hk, fun m h1 h2 => by omega, fun j hj _ => ?_⟩
      rw [only j hj]
      exact c
    rename_i h13
    rw [if_neg h13] at hok
    split
    · -- a prog
      rename_i h20
      rw [if_pos h20] at hok
      obtain ⟨xs, z, hks, hz⟩ := sh.k20 i h20
      have hdl : (ndN l i).kids.dropLast = xs := by rw [hks]; simp
      have hla : (ndN l i).kids.getLastD 0 = z := by rw [hks]; simp
      have hzk : ndAt l z = ndN l z.toNat := rfl
      rw [hdl, hla, hzk] at hok ⊢
      have hzi : z ∈ (ndN l i).kids := by rw [hks]; simp
      have hxi : ∀ x ∈ xs, x ∈ (ndN l i).kids := fun x hx => by rw [hks]; simp [hx]
      have hnd := T.nd i
      rw [hks] at hnd
      obtain ⟨nx, _, nz⟩ := List.nodup_append.1 hnd
      have hzlt := (T.kid hzi).1
      -- the prog is open
      have hP := h.push hi h20 fs
      have fP : Fsh { s with gat := s.gat ++ [(i, [])] } (fun j => In l i j ∧ j ≠ i) := by
        refine ⟨fun j q => fs.ref j q.1, fun j q => fs.free j q.1, fun m hm d e q => fs.dcl m hm d e q.1, fun k hk q => ?_⟩
        have hk : k < s.gat.length + 1 := by simpa using hk
        unfold pr at q
        rw [gatS_push] at q
        split at q
        · exact q.2 rfl
        · exact fs.gat k (by omega) q.1
      have cP : ∀ x, In l i x → (∀ p, kdN l p = 20 → In l p x → p ≠ x → In l p i) → Ctx l { s with gat := s.gat ++ [(i, [])] } x := fun x hx up => by
        refine ⟨fun k hk => ?_, fun p h1 h2 h3 => ?_⟩
        · have hk : k < s.gat.length + 1 := by simpa using hk
          unfold pr
          rw [gatS_push]
          split
          · exact hx
          · exact In.trans (cx.und k (by omega)) hx
        · by_cases e : p = i
          · exact ⟨s.gat.length, by simp, by unfold pr; rw [gatS_push, if_pos rfl]; exact e.symm⟩
          · obtain ⟨k, a, b⟩ := cx.cov p h1 (up p h1 h2 h3) e
            exact ⟨k, by simp; omega, by unfold pr; rw [gatS_push, if_neg (by omega)]; exact b⟩
      have cX : ∀ x ∈ xs, Ctx l { s with gat := s.gat ++ [(i, [])] } x.toNat := fun x hx => cP _ (.kid .self (hxi x hx)) fun p _ h2 h3 => In.up T h2 (Ne.symm h3) (hxi x hx) rfl
      have cZ : ∀ k ∈ (ndN l z.toNat).kids, Ctx l { s with gat := s.gat ++ [(i, [])] } k.toNat := fun k hk => cP _ (.kid (.kid .self hzi) hk) fun p h1 h2 h3 => by
        have q := In.up T h2 (Ne.symm h3) hk rfl
        exact In.up T q (fun e => by rw [← e, hz] at h1; cases h1) hzi rfl
      rw [cap_flt', block_flt', block_flt'] at hok
      generalize hsP : ({ s with gat := s.gat ++ [(i, [])] } : SSt) = sP at *
      -- its name
      have hE := hP.enter
      generalize hsE : ({ sP with dcl := [], blocks := sP.blocks + 1 } : SSt) = sE at *
      have o1 := all_flt (v := visF l f) hfl _ _ hok
      have o2 := all_flt (v := visF l f) hfl _ _ o1
      have fE : Fsh sE (fun j => In l i j ∧ j ≠ i) := by rw [← hsE]; exact ⟨fP.ref, fP.free, fP.dcl, fP.gat⟩
      have gE : sE.gat = sP.gat := by rw [← hsE]
      have undE : ∀ k, k < sE.gat.length → In l (pr sE k) i := fun k hk => by
        have e : pr sE k = pr sP k := by unfold pr gatS; rw [gE]
        rw [e]
        rw [gE, ← hsP] at hk
        rw [← hsP]
        have hk : k < s.gat.length + 1 := by simpa using hk
        unfold pr
        rw [gatS_push]
        split
        · exact .self
        · exact cx.und k (by omega)
      have frE : ∀ m, m < sE.ms.length → dcM sE m ≠ (i : Int) := fun m hm e => by
        have e1 : sE.ms = s.ms := by rw [← hsE, ← hsP]
        have e2 : dcM sE m = dcM s m := by unfold dcM mnS; rw [e1]
        rw [e1] at hm
        rw [e2] at e
        exact fs.dcl m hm i e .self
      have pD := Pst.decl hE hi h13 o2 frE undE
      have d1 : ∀ j, j = i → ¬ (In l i j ∧ j ≠ i) := fun j e q => q.2 e
      have fD := fE.next pD d1
      generalize hsD : declP l i sE = sD at *
      -- what stands in it
      have hF := pD.sy.enter
      have fF : Fsh ({ sD with dcl := [], blocks := sD.blocks + 1 } : SSt) (fun j => In l i j ∧ j ≠ i) := ⟨fD.ref, fD.free, fD.dcl, fD.gat⟩
      have gF : ({ sD with dcl := [], blocks := sD.blocks + 1 } : SSt).gat.map (·.1) = sP.gat.map (·.1) := by rw [← gE]; exact pD.gat
      generalize hsF : ({ sD with dcl := [], blocks := sD.blocks + 1 } : SSt) = sF at *
      have in1 : ∀ j, RK l xs j → In l i j ∧ j ≠ i := fun j ⟨x, hx, q⟩ => by
        have r : RK l (ndN l i).kids j := ⟨x, hxi x hx, q⟩
        exact ⟨rk_in r, Nat.ne_of_lt (rk_lt T r)⟩
      have in2 : ∀ j, RK l (ndN l z.toNat).kids j → In l i j ∧ j ≠ i := fun j q => by
        have r : RK l (ndN l i).kids j := ⟨z, hzi, rk_in q⟩
        exact ⟨rk_in r, Nat.ne_of_lt (rk_lt T r)⟩
      have p1 := all_sy T hfl (hv i (Nat.le_refl _)) xs sF nx hxi hF (fF.sub in1) (fun x hx => (cX x hx).of gF) o1
      have d2 : ∀ j, RK l xs j → ¬ RK l (ndN l z.toNat).kids j := fun j ⟨x, hx, q⟩ q' => In.apart T (hxi x hx) hzi (nz x hx z (by simp)) q (rk_in q')
      have p2 := all_sy T hfl (hv z.toNat (by omega)) _ _ (T.nd z.toNat) (fun _ q => q) p1.sy ((fF.sub in2).next p1 d2) (fun k hk => (cZ k hk).of (p1.gat.trans gF)) hok
      have p3 := p1.trans p2 d2
      rw [← hsF] at p3
      obtain ⟨p4, _⟩ := Pst.block (ins := fun s => allP (visF l f) (ndN l z.toNat).kids (allP (visF l f) xs s)) pD.sy p3
      have p5 := pD.trans p4 (fun j e q => by
        rcases q with q | q
        · exact (in1 j q).2 e
        · exact (in2 j q).2 e)
      rw [← hsD, ← hsE] at p5
      obtain ⟨p6, x6⟩ := Pst.block (ins := fun s => blockP (fun s => allP (visF l f) (ndN l z.toNat).kids (allP (visF l f) xs s)) (declP l i s)) hP p5
      rw [← hsP] at p6 x6
      refine Pst.cap h p6 x6 .self (fun j q => ?_) (fun j q hk => ?_)
      · rcases q with rfl | q | q
        · exact .self
        · exact (in1 j q).1
        · exact (in2 j q).1
      · rcases in_cases q with q | ⟨k, hk', q⟩
        · exact .inl q
        · rw [hks] at hk'
          rcases List.mem_append.1 hk' with hk' | hk'
          · exact .inr (.inl ⟨k, hk', q⟩)
          · have hk' : k = z := by simpa using hk'
            rw [hk'] at q
            rcases in_cases q with q | q
            · rw [q, hz] at hk; cases hk
            · exact .inr (.inr q)
    rename_i h20
    rw [if_neg h20] at hok
    split
    · -- what receives
      rename_i h43
      rw [if_pos h43] at hok
      obtain ⟨a, b, hks, hb⟩ := sh.k43 i h43
      have ha0 : (ndN l i).kids.getD 0 0 = a := by rw [hks]; rfl
      have hb1 : (ndN l i).kids.getD 1 0 = b := by rw [hks]; rfl
      have hbk : ndAt l b = ndN l b.toNat := rfl
      rw [ha0, hb1, hbk] at hok ⊢
      have hai : a ∈ (ndN l i).kids := by rw [hks]; simp
      have hbi : b ∈ (ndN l i).kids := by rw [hks]; simp
      have hab : a ≠ b := by
        have := T.nd i
        rw [hks] at this
        simpa using this
      have halt := (T.kid hai).1
      have hblt := (T.kid hbi).1
      rw [block_flt'] at hok
      have o1 := all_flt (v := visF l f) hfl _ _ hok
      have o2' := decl_flt (l := l) i o1
      have o2 : (visF l f a.toNat s).flt.2 = 0 := o2'
      have pA := hv i (Nat.le_refl _) a hai s h (fs.sub fun j q => In.trans (.kid .self hai) q) (cx.kid T hai h20) o2
      have dA : ∀ j, In l a.toNat j → ¬ (j = i ∨ RK l (ndN l b.toNat).kids j) := fun j q r => by
        rcases r with r | r
        · have := In.le T q; omega
        · exact In.apart T hai hbi hab q (rk_in r)
      have fI : Fsh s (fun j => j = i ∨ RK l (ndN l b.toNat).kids j) := fs.sub fun j q => by
        rcases q with rfl | q
        · exact .self
        · exact In.trans (.kid .self hbi) (rk_in q)
      have fA := fI.next pA dA
      generalize visF l f a.toNat s = sA at *
      have hE := pA.sy.enter
      have fE : Fsh ({ sA with dcl := [], blocks := sA.blocks + 1 } : SSt) (fun j => j = i ∨ RK l (ndN l b.toNat).kids j) := ⟨fA.ref, fA.free, fA.dcl, fA.gat⟩
      have cE : Ctx l ({ sA with dcl := [], blocks := sA.blocks + 1 } : SSt) i := cx.of pA.gat
      generalize hsE : ({ sA with dcl := [], blocks := sA.blocks + 1 } : SSt) = sE at *
      have pD := Pst.decl hE hi h13 o1 (fE.ne (.inl rfl)) cE.und
      have dD : ∀ j, j = i → ¬ RK l (ndN l b.toNat).kids j := fun j e r => by have := rk_lt T r; omega
      have pK := kids b.toNat (by omega) _ (by rw [hb]; decide) pD.sy ((fE.sub fun j q => .inr q).next pD dD) ((cE.kid T hbi h20).of pD.gat) hok
      have pE := pD.trans pK dD
      rw [← hsE] at pE
      obtain ⟨pB, _⟩ := Pst.block (ins := fun s => allP (visF l f) (ndN l b.toNat).kids (declP l i s)) pA.sy pE
      refine (pA.trans pB dA).wide (fun j q => ?_) (fun j q hk => ?_)
      · rcases q with q | rfl | q
        · exact In.trans (.kid .self hai) q
        · exact .self
        · exact In.trans (.kid .self hbi) (rk_in q)
      · rcases in_cases q with q | ⟨k, hk', q⟩
        · exact .inr (.inl q)
        · rw [hks] at hk'
          rcases List.mem_cons.1 hk' with rfl | hk'
          · exact .inl q
          · have hk' : k = b := by simpa using hk'
            rw [hk'] at q
            rcases in_cases q with q | q
            · rw [q, hb] at hk; cases hk
            · exact .inr (.inr q)
    rename_i h43
    rw [if_neg h43] at hok
    split
    · -- a block
      rename_i h41
      rw [if_pos h41] at hok
      rw [block_flt'] at hok
      have fE : Fsh ({ s with dcl := [], blocks := s.blocks + 1 } : SSt) (RK l (ndN l i).kids) := ⟨fk.ref, fk.free, fk.dcl, fk.gat⟩
      have cE : Ctx l ({ s with dcl := [], blocks := s.blocks + 1 } : SSt) i := cx.of rfl
      have pK := kids i (Nat.le_refl _) _ h20 h.enter fE cE hok
      obtain ⟨pB, _⟩ := Pst.block (ins := allP (visF l f) (ndN l i).kids) h pK
      exact wide h13 pB
    rename_i h41
    rw [if_neg h41] at hok
    split
    · -- what declares
      rename_i h31
      rw [if_pos h31] at hok
      have o1 := decl_flt (l := l) i hok
      have pK := kids i (Nat.le_refl _) s h20 h fk cx o1
      have dK : ∀ j, RK l (ndN l i).kids j → ¬ (j = i) := fun j q e => by have := rk_lt T q; omega
      have fI := (fs.sub (R1 := fun j => j = i) fun j q => by rw [q]; exact .self).next pK dK
      have pD := Pst.decl pK.sy hi h13 hok (fI.ne rfl) (cx.of pK.gat).und
      refine (pK.trans pD dK).wide (fun j q => ?_) (fun j q hk => ?_)
      · rcases q with q | rfl
        · exact rk_in q
        · exact .self
      · rcases in_cases q with q | q
        · exact .inr q
        · exact .inl q
    rename_i h31
    rw [if_neg h31] at hok
    split
    · -- what sets
      rename_i h33
      rw [if_pos h33] at hok
      have st : StepOk l s { s with set := placeP l (l.length + 1) ((ndN l i).kids.getD 0 0).toNat } := step_agree h.wf rfl rfl rfl rfl rfl rfl rfl
      have hS : Sy l { s with set := placeP l (l.length + 1) ((ndN l i).kids.getD 0 0).toNat } := h.agree st.1 rfl rfl rfl rfl (fun m hm => by
        induction hm with
        | top e => exact Live.top e
        | out _ e ih => exact Live.out ih e) h.nm
      have fS : Fsh ({ s with set := placeP l (l.length + 1) ((ndN l i).kids.getD 0 0).toNat } : SSt) (RK l (ndN l i).kids) := ⟨fk.ref, fk.free, fk.dcl, fk.gat⟩
      have pK := kids i (Nat.le_refl _) _ h20 hS fS (cx.of rfl) hok
      have p0 : Pst l s { s with set := placeP l (l.length + 1) ((ndN l i).kids.getD 0 0).toNat } (fun _ => False) := ⟨hS, st, fun _ _ => rfl, fun _ _ _ => rfl, fun m h1 h2 => by have h2 : m < s.ms.length := h2; omega, fun _ q => q.elim⟩
      exact wide h13 ((p0.trans pK (fun _ q => q.elim)).wide (fun j q => by rcases q with q | q; exact q.elim; exact q) (fun j q _ => .inr q))
    · rename_i h33
      rw [if_neg h33] at hok
      exact wide h13 (kids i (Nat.le_refl _) s h20 h fk cx hok)
end
end Go.Proofs.YtjjbgbadkbomlaaDoor
