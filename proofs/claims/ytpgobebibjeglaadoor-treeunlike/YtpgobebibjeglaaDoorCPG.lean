import Derived.Test.YtpgobebibjeglaaDoorCPT
import Derived.Test.YtpgobebibjeglaaDoorCTTx
namespace Go.Proofs.YtpgobebibjeglaaDoor
open Go.RowKit
set_option linter.unusedVariables false
set_option linter.unusedSimpArgs false

theorem kop {n : Int} (h : levelI 22 n ≠ 0) : betw (tokP (opT n)).kind = n ∧ binLevelI n = levelI 22 n ∧ 1 ≤ levelI 22 n ∧ (tokP (opT n)).kind ≠ 50 ∧ (tokP (opT n)).kind ≠ 40 ∧ (tokP (opT n)).kind ≠ 42 ∧ (tokP (opT n)).kind ≠ 49 ∧ (tokP (opT n)).kind ≠ 48 := by
  have hb : levelI 22 n = binLevelI n := rfl
  have h13 : n = 11 ∨ n = 12 ∨ n = 21 ∨ n = 22 ∨ n = 23 ∨ n = 24 ∨ n = 25 ∨ n = 26 ∨ n = 31 ∨ n = 32 ∨ n = 41 ∨ n = 42 ∨ n = 43 := by
    rw [hb] at h
    unfold binLevelI at h
    split at h
    · omega
    · split at h
      · omega
      · split at h
        · omega
        · split at h
          · omega
          · split at h
            · omega
            · exact absurd rfl h
  rcases h13 with rfl | rfl | rfl | rfl | rfl | rfl | rfl | rfl | rfl | rfl | rfl | rfl | rfl
  · have e : opT 11 = [124, 124] := rfl
    have kq := k63
    rw [e]
    exact ⟨by rw [kq]; rfl, rfl, by decide, by omega, by omega, by omega, by omega, by omega⟩
  · have e : opT 12 = [38, 38] := rfl
    have kq := k62
    rw [e]
    exact ⟨by rw [kq]; rfl, rfl, by decide, by omega, by omega, by omega, by omega, by omega⟩
  · have e : opT 21 = [61, 61] := rfl
    have kq := k51
    rw [e]
    exact ⟨by rw [kq]; rfl, rfl, by decide, by omega, by omega, by omega, by omega, by omega⟩
  · have e : opT 22 = [33, 61] := rfl
    have kq := k52
    rw [e]
    exact ⟨by rw [kq]; rfl, rfl, by decide, by omega, by omega, by omega, by omega, by omega⟩
  · have e : opT 23 = [60] := rfl
    have kq := k53
    rw [e]
    exact ⟨by rw [kq]; rfl, rfl, by decide, by omega, by omega, by omega, by omega, by omega⟩
  · have e : opT 24 = [60, 61] := rfl
    have kq := k54
    rw [e]
    exact ⟨by rw [kq]; rfl, rfl, by decide, by omega, by omega, by omega, by omega, by omega⟩
  · have e : opT 25 = [62] := rfl
    have kq := k55
    rw [e]
    exact ⟨by rw [kq]; rfl, rfl, by decide, by omega, by omega, by omega, by omega, by omega⟩
  · have e : opT 26 = [62, 61] := rfl
    have kq := k56
    rw [e]
    exact ⟨by rw [kq]; rfl, rfl, by decide, by omega, by omega, by omega, by omega, by omega⟩
  · have e : opT 31 = [43] := rfl
    have kq := k57
    rw [e]
    exact ⟨by rw [kq]; rfl, rfl, by decide, by omega, by omega, by omega, by omega, by omega⟩
  · have e : opT 32 = [45] := rfl
    have kq := k58
    rw [e]
    exact ⟨by rw [kq]; rfl, rfl, by decide, by omega, by omega, by omega, by omega, by omega⟩
  · have e : opT 41 = [42] := rfl
    have kq := k59
    rw [e]
    exact ⟨by rw [kq]; rfl, rfl, by decide, by omega, by omega, by omega, by omega, by omega⟩
  · have e : opT 42 = [47] := rfl
    have kq := k60
    rw [e]
    exact ⟨by rw [kq]; rfl, rfl, by decide, by omega, by omega, by omega, by omega, by omega⟩
  · have e : opT 43 = [37] := rfl
    have kq := k61
    rw [e]
    exact ⟨by rw [kq]; rfl, rfl, by decide, by omega, by omega, by omega, by omega, by omega⟩

/-- an expression of the level 7, by what is read behind its first kid -/
theorem comp_pf {l : List Nd} {j k0 : Nat} {kd0 num : Int} {nm : List UInt8} {ks : List Nat} (F : NodeF l j kd0 num nm (k0 :: ks)) (h3 : 23 ≤ kd0 ∧ kd0 ≤ 25) (h0 : Comp l k0) (he0 : exprI (kdN l k0) = true) {u : PTok} {more : List PTok} (ht : tkk l j = tkk l k0 ++ u :: more) (hu : u.kind ≠ 50) (hu48 : u.kind ≠ 48)
    (hp : ∀ rest a s', kd rest ≠ 48 → P (.post [treeG l j]) rest a s' → P (.post [treeG l k0]) (u :: (more ++ rest)) a s') : Comp l j := by
  have hlv : lev l j = 7 := by
    rw [F.lv]
    unfold levelI
    rw [if_neg (by omega), if_neg (by omega), if_pos h3]
  have hkd := F.kind
  have hw : 7 ≤ lev l k0 := by
    have := F.levs 0 (by simp)
    unfold wantedI at this
    rw [if_neg (by omega), if_neg (by omega), if_pos h3, if_pos rfl] at this
    exact this
  obtain ⟨t, r, e, h1, h2, h65, h4⟩ := (h0.fst he0).ex
  obtain ⟨n58, n64, n65⟩ := h2 hw
  have e2 : tkk l j = t :: (r ++ u :: more) := by rw [ht, e]; rfl
  have hpost : ∀ rest a s', kd rest ≠ 48 → P (.post [treeG l j]) rest a s' → P .postf (tkk l j ++ rest) a s' := fun rest a s' hr h => by
    rw [ht, List.append_assoc]
    exact h0.post hw _ a s' (by show u.kind ≠ 48; exact hu48) (hp rest a s' hr h)
  have hun := ex_post hpost ⟨t, _, e2, n58, n64, n65⟩
  refine ⟨?_, ?_, ?_, fun _ => hpost, fun _ => hun, fun _ => ex_un (by omega) (by omega) hun, fun _ => by omega, fun _ => ⟨t, _, e2, h1, fun _ => ⟨n58, n64, n65⟩, fun h => absurd h n65, fun h => .inr ?_⟩, ?_, ?_, ?_, ?_, ?_, ?_⟩
  · intro h; unfold typI at h; simp at h; omega
  · intro h; unfold typI at h; simp at h; omega
  · intro h; omega
  · rcases h4 h with rfl | ⟨v, r', rfl, hv⟩
    · exact ⟨u, more, rfl, hu⟩
    · exact ⟨v, _, rfl, hv⟩
  · intro h; omega
  · intro h; omega
  · intro h; omega
  · intro h; unfold statI at h; simp at h; omega
  · intro h; unfold armI at h; simp at h; omega
  · intro h; omega

theorem comp_23 {l : List Nd} {j : Nat} {num : Int} {nm : List UInt8} {ks : List Nat} (F : NodeF l j 23 num nm ks) (IH : ∀ x ∈ ks, Comp l x) : Comp l j := by
  obtain rfl : num = 0 := by simpa using (show (num == 0) = true from F.numF)
  obtain rfl : nm = [] := List.isEmpty_iff.1 (show nm.isEmpty = true from F.name)
  have hfit := F.fit
  unfold kidsFitI at hfit
  rw [kidsRun_23] at hfit
  obtain ⟨k0, r, h0, h2, rfl⟩ := fit1M hfit
  have ha : treeG l j = .mk 23 0 0 [] ([treeG l k0] ++ r.map (treeG l)) := F.tree
  refine comp_pf F (by decide) (IH k0 (by simp)) h0 (u := tokP [40]) (more := tkI l r ++ [tokP [41]]) ?_ (by rw [k40]; decide) (by rw [k40]; decide) (fun rest a s' hr h => ?_)
  · rw [F.tok, nodeT_23]
    simp [map_row, map_inner, tkR_cons, tkR_nil, tkI_one]
  · rw [ha] at h
    simp only [List.append_assoc, List.cons_append, List.nil_append]
    exact I_call k40 (listed_ok .expr r (expr_of (fun x hx => IH x (List.mem_cons_of_mem _ hx)) h2) (expr_first (fun x hx => IH x (List.mem_cons_of_mem _ hx)) h2) rest) h

theorem comp_24 {l : List Nd} {j : Nat} {num : Int} {nm : List UInt8} {ks : List Nat} (F : NodeF l j 24 num nm ks) (IH : ∀ x ∈ ks, Comp l x) : Comp l j := by
  obtain rfl : num = 0 := by simpa using (show (num == 0) = true from F.numF)
  obtain rfl : nm = [] := List.isEmpty_iff.1 (show nm.isEmpty = true from F.name)
  have hfit := F.fit
  unfold kidsFitI at hfit
  rw [kidsRun_24] at hfit
  obtain ⟨k0, k1, h0, h1, rfl⟩ := fit2 hfit
  have ha : treeG l j = .mk 24 0 0 [] ([treeG l k0] ++ [treeG l k1]) := F.tree
  refine comp_pf F (by decide) (IH k0 (by simp)) h0 (u := tokP [91]) (more := tkk l k1 ++ [tokP [93]]) ?_ (by rw [k42]; decide) (by rw [k42]; decide) (fun rest a s' hr h => ?_)
  · rw [F.tok, nodeT_24]
    simp [map_row, map_inner, tkR_cons, tkR_nil, tkI_one]
  · rw [ha] at h
    simp only [List.append_assoc, List.cons_append, List.nil_append]
    exact I_index k42 k43 (expr_ok (IH k1 (by simp)) h1 (end_of k43 rfl)) h

theorem comp_25 {l : List Nd} {j : Nat} {num : Int} {nm : List UInt8} {ks : List Nat} (F : NodeF l j 25 num nm ks) (IH : ∀ x ∈ ks, Comp l x) : Comp l j := by
  obtain rfl : nm = [] := List.isEmpty_iff.1 (show nm.isEmpty = true from F.name)
  have hfit := F.fit
  unfold kidsFitI at hfit
  rw [kidsRun_25] at hfit
  obtain ⟨k0, h0, rfl⟩ := fit1 hfit
  have hz : 0 ≤ num := of_decide_eq_true (show decide (0 ≤ num) = true from F.numF)
  have hk := knum hz F.i64
  have ha : treeG l j = .mk 25 0 ((tokP (Lib.itoa num)).num : Nat) [] [treeG l k0] := by rw [F.tree, hk.2]; rfl
  refine comp_pf F (by decide) (IH k0 (by simp)) h0 (u := tokP [46]) (more := [tokP (Lib.itoa num)]) ?_ (by rw [k49]; decide) (by rw [k49]; decide) (fun rest a s' hr h => ?_)
  · rw [F.tok, nodeT_25]
    simp [map_row, map_inner, tkR_cons, tkR_nil, tkI_one]
  · rw [ha] at h
    simp only [List.append_assoc, List.cons_append, List.nil_append]
    exact I_field k49 hk.1 h

theorem comp_21 {l : List Nd} {j : Nat} {num : Int} {nm : List UInt8} {ks : List Nat} (F : NodeF l j 21 num nm ks) (IH : ∀ x ∈ ks, Comp l x) : Comp l j := by
  obtain rfl : nm = [] := List.isEmpty_iff.1 (show nm.isEmpty = true from F.name)
  have hfit := F.fit
  unfold kidsFitI at hfit
  rw [kidsRun_21] at hfit
  obtain ⟨k0, h0, rfl⟩ := fit1 hfit
  have hw : 6 ≤ lev l k0 := F.levs 0 (by simp)
  have hc := IH k0 (by simp)
  have hlv : levelI 21 num ≠ 0 := by
    have : (levelI 21 num != 0) = true := F.numF
    simpa using this
  have h3 : num = 1 ∨ num = 2 ∨ num = 3 := by
    have hb : levelI 21 num = if 1 ≤ num ∧ num ≤ 3 then 6 else 0 := rfl
    rw [hb] at hlv
    split at hlv
    · omega
    · exact absurd rfl hlv
  have hl6 : lev l j = 6 := by
    rw [F.lv]
    have hb : levelI 21 num = if 1 ≤ num ∧ num ≤ 3 then 6 else 0 := rfl
    rw [hb, if_pos (by omega)]
  have hkd := F.kind
  have key : (∀ rest, Stop rest → P .unary (tkk l j ++ rest) [treeG l j] rest) ∧ ∃ t r, tkk l j = t :: r ∧ startE t.kind = true ∧ (t.kind = 65 → num = 3) ∧ t.kind ≠ 1 := by
    have ht : tkk l j = tokP (opT num) :: tkk l k0 := by
      rw [F.tok, nodeT_21]
      simp [map_row, tkR_cons, tkR_nil]
    have ha : treeG l j = .mk 21 0 num [] [treeG l k0] := F.tree
    rcases h3 with rfl | rfl | rfl
    · have kq := k58
      exact ⟨fun rest hs => by rw [ha, ht]; exact I_un1 k58 (hc.un hw rest hs), _, _, ht, by show startE (tokP [45]).kind = true; rw [kq]; rfl, by show (tokP [45]).kind = 65 → _; omega, by show (tokP [45]).kind ≠ 1; omega⟩
    · have kq := k64
      exact ⟨fun rest hs => by rw [ha, ht]; exact I_un2 k64 (hc.un hw rest hs), _, _, ht, by show startE (tokP [33]).kind = true; rw [kq]; rfl, by show (tokP [33]).kind = 65 → _; omega, by show (tokP [33]).kind ≠ 1; omega⟩
    · have kq := k65
      exact ⟨fun rest hs => by rw [ha, ht]; exact I_un3 k65 (hc.un hw rest hs), _, _, ht, by show startE (tokP [60, 45]).kind = true; rw [kq]; rfl, fun _ => rfl, by show (tokP [60, 45]).kind ≠ 1; omega⟩
  obtain ⟨hun, t, r, e, h1, h65, hn1⟩ := key
  refine ⟨?_, ?_, ?_, fun h => by omega, fun _ => hun, fun _ => ex_un (by omega) (by omega) hun, fun _ => by omega, fun _ => ⟨t, r, e, h1, fun h => by omega, fun h f hf => ?_, fun h => absurd h hn1⟩, ?_, ?_, ?_, ?_, ?_, ?_⟩
  · intro h; rw [hkd] at h; exact absurd h (by decide)
  · intro h; rw [hkd] at h; exact absurd h (by decide)
  · intro h; omega
  · obtain ⟨f, rfl⟩ : ∃ f', f = f' + 1 := ⟨f - 1, by omega⟩
    rw [F.own f (by decide), h65 h]
    rfl
  · intro h; omega
  · intro h; omega
  · intro h; omega
  · intro h; rw [hkd] at h; exact absurd h (by decide)
  · intro h; rw [hkd] at h; exact absurd h (by decide)
  · intro h; omega

theorem comp_22 {l : List Nd} {j : Nat} {num : Int} {nm : List UInt8} {ks : List Nat} (F : NodeF l j 22 num nm ks) (IH : ∀ x ∈ ks, Comp l x) : Comp l j := by
  obtain rfl : nm = [] := List.isEmpty_iff.1 (show nm.isEmpty = true from F.name)
  have hfit := F.fit
  unfold kidsFitI at hfit
  rw [kidsRun_22] at hfit
  obtain ⟨k0, k1, h0, h1, rfl⟩ := fit2 hfit
  have hlv : levelI 22 num ≠ 0 := by
    have : (levelI 22 num != 0) = true := F.numF
    simpa using this
  obtain ⟨o1, o2, o3, o50, o40, o42, o49, o48⟩ := kop hlv
  have hle := levelI_le 22 num
  have hb5 := binLevelI_le num
  have hl : lev l j = levelI 22 num := F.lv
  have hkd := F.kind
  have hw0 : (if levelI 22 num ≠ 3 then levelI 22 num else levelI 22 num + 1) ≤ lev l k0 := by
    have := F.levs 0 (by simp)
    unfold wantedI at this
    rw [if_pos rfl] at this
    by_cases h3 : levelI 22 num = 3
    · rw [if_neg (by intro h; exact h.2 h3)] at this
      rw [if_neg (by intro h; exact h h3)]
      exact this
    · rw [if_pos ⟨rfl, h3⟩] at this
      rw [if_pos h3]
      exact this
  have hw1 : levelI 22 num + 1 ≤ lev l k1 := by
    have := F.levs 1 (by simp)
    unfold wantedI at this
    rw [if_pos rfl, if_neg (by intro h; exact absurd h.1 (by decide))] at this
    exact this
  have c0 := IH k0 (by simp)
  have c1 := IH k1 (by simp)
  have ht : tkk l j = tkk l k0 ++ tokP (opT num) :: tkk l k1 := by
    rw [F.tok, nodeT_22]
    simp [map_row, tkR_cons, tkR_nil]
  have ha : treeG l j = .mk 22 0 num [] ([treeG l k0] ++ [treeG l k1]) := F.tree
  have hL0 : levelI 22 num ≤ lev l k0 := by
    split at hw0 <;> omega
  obtain ⟨t, r, e, s1, s7, s65, s4⟩ := (c0.fst h0).ex
  have e2 : tkk l j = t :: (r ++ tokP (opT num) :: tkk l k1) := by rw [ht, e]; rfl
  have hmost : levelI 22 num ≤ mostA l k0 := by
    unfold mostA
    by_cases hk0 : kdN l k0 = 22
    · rw [if_pos hk0]
      by_cases hl3 : lev l k0 = 3
      · rw [if_pos hl3]
        split at hw0 <;> omega
      · rw [if_neg hl3]
        exact hL0
    · rw [if_neg hk0]
      omega
  have hops : ∀ least rest a s', least ≤ lev l j → Stop rest → (kdN l j = 22 → binLevelI (betw (kd rest)) ≤ lev l j) → P (.ops least [treeG l j] (mostA l j)) rest a s' → P (.operands least) (tkk l j ++ rest) a s' := by
    intro least rest a s' hle1 hs hb h
    have hb := hb hkd
    rw [ht, List.append_assoc, List.cons_append]
    have hstop : Stop (tokP (opT num) :: (tkk l k1 ++ rest)) := ⟨o40, o42, o49, o48⟩
    refine c0.ops (by omega) least _ a s' (by omega) hstop (fun _ => ?_) ?_
    · show binLevelI (betw (tokP (opT num)).kind) ≤ lev l k0
      rw [o1, o2]
      exact hL0
    · have hmA : mostA l j = if binLevelI (betw (tokP (opT num)).kind) = 3 then 2 else binLevelI (betw (tokP (opT num)).kind) := by
        unfold mostA
        rw [if_pos hkd, o1, o2, hl]
      refine I_ops1 (s2 := rest) (b := [treeG l k1]) ?_ ?_ ?_
      · rw [o1, o2]
        omega
      · rw [o1, o2]
        refine c1.ops (by omega) _ rest _ _ hw1 hs (fun _ => by omega) (I_ops0 (.inl ?_))
        omega
      · rw [← hmA, o1]
        rw [ha] at h
        exact h
  refine ⟨?_, ?_, ?_, fun h => by omega, fun h => by omega, fun _ => hops, fun _ => by omega, fun _ => ⟨t, _, e2, s1, fun h => by omega, fun h f hf => ?_, fun h => .inr ?_⟩, ?_, ?_, ?_, ?_, ?_, ?_⟩
  · intro h; rw [hkd] at h; exact absurd h (by decide)
  · intro h; rw [hkd] at h; exact absurd h (by decide)
  · intro h; omega
  · obtain ⟨f, rfl⟩ : ∃ f', f = f' + 1 := ⟨f - 1, by omega⟩
    have := F.low k0 (by simp)
    rw [F.sub f (by decide) (by decide)]
    exact s65 h f (by omega)
  · rcases s4 h with rfl | ⟨v, r', rfl, hv⟩
    · exact ⟨_, _, rfl, o50⟩
    · exact ⟨v, _, rfl, hv⟩
  · intro h; omega
  · intro h; omega
  · intro h; omega
  · intro h; rw [hkd] at h; exact absurd h (by decide)
  · intro h; rw [hkd] at h; exact absurd h (by decide)
  · intro h; omega

end Go.Proofs.YtpgobebibjeglaaDoor
namespace Go.Proofs.YtpgobebibjeglaaDoor
open Go.RowKit
set_option linter.unusedVariables false
set_option linter.unusedSimpArgs false

/-- a statement -/
theorem comp_stat {l : List Nd} {j : Nat} {kd0 num : Int} {nm : List UInt8} {ks : List Nat} (F : NodeF l j kd0 num nm ks) (hs : statI kd0 = true) (h41 : kd0 ≠ 41) (h36 : kd0 ≠ 36) (hp : ∀ rest, kd rest ≠ 15 → P .stmt (tkk l j ++ rest) [treeG l j] rest) (hf : ∃ t r, tkk l j = t :: r ∧ startS t.kind = true) : Comp l j := by
  have hr : 31 ≤ kd0 ∧ kd0 ≤ 41 := by unfold statI at hs; simpa using hs
  have hkd := F.kind
  have hlv : lev l j = 0 := by
    rw [F.lv]
    unfold levelI exprI
    rw [if_neg (by omega), if_neg (by omega), if_neg (by omega), if_neg (by simp; omega)]
  refine ⟨?_, ?_, ?_, fun h => by omega, fun h => by omega, fun h => by omega, ?_, ?_, ?_, ?_, ?_, fun _ => ⟨hp, hf⟩, ?_, ?_⟩
  · intro h; unfold typI at h; simp at h; omega
  · intro h; unfold typI at h; simp at h; omega
  · intro h; omega
  · intro h; unfold exprI at h; simp at h; omega
  · intro h; unfold exprI at h; simp at h; omega
  · intro h; omega
  · intro h; omega
  · intro h; omega
  · intro h; unfold armI at h; simp at h; omega
  · intro h; omega
theorem fstS {l : List Nd} {k : Nat} {s : List PTok} (h : FstE l k) : ∃ t r, tkk l k ++ s = t :: r ∧ startS t.kind = true := by
  obtain ⟨t, r, e, h1, _⟩ := h.ex
  exact ⟨t, r ++ s, by rw [e]; rfl, by unfold startS; rw [h1]; simp⟩

theorem place0 {l : List Nd} {k : Nat} {t : PTok} {r s : List PTok} (e : tkk l k = t :: r) : (hd (tkk l k ++ s)).place = 0 := by
  have h1 : hd (tkk l k ++ s) = t := by rw [e]; rfl
  have h2 : t ∈ tkk l k := by rw [e]; exact List.mem_cons_self
  unfold tkk at h2
  obtain ⟨x, _, hx⟩ := List.mem_map.1 h2
  rw [h1, ← hx]
  rfl

theorem comp_31 {l : List Nd} {j : Nat} {num : Int} {nm : List UInt8} {ks : List Nat} (F : NodeF l j 31 num nm ks) (IH : ∀ x ∈ ks, Comp l x) : Comp l j := by
  obtain rfl : num = 0 := by simpa using (show (num == 0) = true from F.numF)
  have hnm : nameOk nm = true := F.name
  have kn := kname hnm
  have hfit := F.fit
  unfold kidsFitI at hfit
  rw [kidsRun_31] at hfit
  obtain ⟨k0, h0, rfl⟩ := fit1 hfit
  have ht : tkk l j = tokP [118, 97, 108] :: tokP nm :: tokP [61] :: (tkk l k0 ++ [tokP [59]]) := by
    rw [F.tok, nodeT_31]
    simp only [List.map_append, List.map_cons, List.map_nil, map_row, map_inner, tkR_cons, tkR_nil, tkI_one, tkI_more, List.append_nil, List.cons_append, List.nil_append, List.append_assoc, List.take_succ_cons, List.take_zero, List.drop_succ_cons, List.drop_zero]
  have ha : treeG l j = .mk 31 0 0 nm [treeG l k0] := F.tree
  have kq := k28
  refine comp_stat F rfl (by decide) (by decide) (fun rest hr => ?_) ⟨_, _, ht, by rw [kq]; rfl⟩
  rw [ha]
  simp only [ht, List.append_assoc, List.cons_append, List.nil_append]
  exact I_val k28 kn k50 k47 (expr_ok (IH k0 (by simp)) h0 (end_of k47 rfl))

theorem comp_32 {l : List Nd} {j : Nat} {num : Int} {nm : List UInt8} {ks : List Nat} (F : NodeF l j 32 num nm ks) (IH : ∀ x ∈ ks, Comp l x) : Comp l j := by
  obtain rfl : num = 0 := by simpa using (show (num == 0) = true from F.numF)
  have hnm : nameOk nm = true := F.name
  have kn := kname hnm
  have hfit := F.fit
  unfold kidsFitI at hfit
  rw [kidsRun_32] at hfit
  have kq := k29
  rcases fit1o hfit with ⟨k0, h0, rfl⟩ | ⟨k0, k1, h0, h1, rfl⟩
  · have ht : tkk l j = tokP [118, 97, 114] :: tokP nm :: tokP [58] :: (tkk l k0 ++ [tokP [59]]) := by
      rw [F.tok, nodeT_32]
      simp [map_row, tkR_cons, tkR_nil]
    have ha : treeG l j = .mk 32 0 0 nm [treeG l k0] := F.tree
    refine comp_stat F rfl (by decide) (by decide) (fun rest hr => ?_) ⟨_, _, ht, by rw [kq]; rfl⟩
    rw [ha]
    simp only [ht, List.append_assoc, List.cons_append, List.nil_append]
    exact I_var1 k29 kn k48 k47 ((IH k0 (by simp)).typ h0 _ (by show (tokP [59]).kind ≠ 48; rw [k47]; decide))
  · have ht : tkk l j = tokP [118, 97, 114] :: tokP nm :: tokP [58] :: (tkk l k0 ++ tokP [61] :: (tkk l k1 ++ [tokP [59]])) := by
      rw [F.tok, nodeT_32]
      simp [map_row, tkR_cons, tkR_nil]
    have ha : treeG l j = .mk 32 0 0 nm ([treeG l k0] ++ [treeG l k1]) := F.tree
    refine comp_stat F rfl (by decide) (by decide) (fun rest hr => ?_) ⟨_, _, ht, by rw [kq]; rfl⟩
    rw [ha]
    simp only [ht, List.append_assoc, List.cons_append, List.nil_append]
    exact I_var2 k29 kn k48 k50 k47 ((IH k0 (by simp)).typ h0 _ (by show (tokP [61]).kind ≠ 48; rw [k50]; decide)) (expr_ok (IH k1 (by simp)) h1 (end_of k47 rfl))

theorem comp_33 {l : List Nd} {j : Nat} {num : Int} {nm : List UInt8} {ks : List Nat} (F : NodeF l j 33 num nm ks) (IH : ∀ x ∈ ks, Comp l x) : Comp l j := by
  obtain rfl : num = 0 := by simpa using (show (num == 0) = true from F.numF)
  obtain rfl : nm = [] := List.isEmpty_iff.1 (show nm.isEmpty = true from F.name)
  have hfit := F.fit
  unfold kidsFitI at hfit
  rw [kidsRun_33] at hfit
  obtain ⟨k0, k1, h0, h1, rfl⟩ := fit2 hfit
  have ht : tkk l j = tkk l k0 ++ tokP [61] :: (tkk l k1 ++ [tokP [59]]) := by
    rw [F.tok, nodeT_33]
    simp [map_row, tkR_cons, tkR_nil]
  have ha : treeG l j = .mk 33 0 0 [] ([treeG l k0] ++ [treeG l k1]) := F.tree
  have c0 := IH k0 (by simp)
  have hf := c0.fst h0
  obtain ⟨t, r, e, h2, _⟩ := hf.ex
  have hne := startE_ne h2
  refine comp_stat F rfl (by decide) (by decide) (fun rest hr => ?_) (by rw [ht]; exact fstS hf)
  rw [ha]
  simp only [ht, List.append_assoc, List.cons_append, List.nil_append]
  have hk := kd_app (s := tokP [61] :: (tkk l k1 ++ tokP [59] :: rest)) e
  exact I_set k50 k47 (by omega) (by omega) (by omega) (by omega) (by omega) (by omega) (by omega) (by omega) (expr_ok c0 h0 (end_of k50 rfl)) (expr_ok (IH k1 (by simp)) h1 (end_of k47 rfl))

theorem comp_34 {l : List Nd} {j : Nat} {num : Int} {nm : List UInt8} {ks : List Nat} (F : NodeF l j 34 num nm ks) (IH : ∀ x ∈ ks, Comp l x) : Comp l j := by
  obtain rfl : num = 0 := by simpa using (show (num == 0) = true from F.numF)
  obtain rfl : nm = [] := List.isEmpty_iff.1 (show nm.isEmpty = true from F.name)
  have hfit := F.fit
  unfold kidsFitI at hfit
  rw [kidsRun_34] at hfit
  obtain ⟨k0, k1, h0, h1, rfl⟩ := fit2 hfit
  have ht : tkk l j = tkk l k0 ++ tokP [60, 45, 61] :: (tkk l k1 ++ [tokP [59]]) := by
    rw [F.tok, nodeT_34]
    simp [map_row, tkR_cons, tkR_nil]
  have ha : treeG l j = .mk 34 0 0 [] ([treeG l k0] ++ [treeG l k1]) := F.tree
  have c0 := IH k0 (by simp)
  have hf := c0.fst h0
  obtain ⟨t, r, e, h2, _⟩ := hf.ex
  have hne := startE_ne h2
  refine comp_stat F rfl (by decide) (by decide) (fun rest hr => ?_) (by rw [ht]; exact fstS hf)
  rw [ha]
  simp only [ht, List.append_assoc, List.cons_append, List.nil_append]
  have hk := kd_app (s := tokP [60, 45, 61] :: (tkk l k1 ++ tokP [59] :: rest)) e
  exact I_send k66 k47 (by omega) (by omega) (by omega) (by omega) (by omega) (by omega) (by omega) (by omega) (expr_ok c0 h0 (end_of k66 rfl)) (expr_ok (IH k1 (by simp)) h1 (end_of k47 rfl))

theorem comp_35 {l : List Nd} {j : Nat} {num : Int} {nm : List UInt8} {ks : List Nat} (F : NodeF l j 35 num nm ks) (IH : ∀ x ∈ ks, Comp l x) : Comp l j := by
  obtain rfl : num = 0 := by simpa using (show (num == 0) = true from F.numF)
  obtain rfl : nm = [] := List.isEmpty_iff.1 (show nm.isEmpty = true from F.name)
  have hfit := F.fit
  unfold kidsFitI at hfit
  rw [kidsRun_35] at hfit
  obtain ⟨k0, h0, rfl⟩ := fit1 hfit
  have ht : tkk l j = tkk l k0 ++ [tokP [59]] := by
    rw [F.tok, nodeT_35]
    simp [map_row, tkR_cons, tkR_nil]
  have ha : treeG l j = .mk 35 0 0 [] [treeG l k0] := F.tree
  have c0 := IH k0 (by simp)
  have hf := c0.fst h0
  obtain ⟨t, r, e, h2, _⟩ := hf.ex
  have hne := startE_ne h2
  refine comp_stat F rfl (by decide) (by decide) (fun rest hr => ?_) (by rw [ht]; exact fstS hf)
  rw [ha]
  simp only [ht, List.append_assoc, List.cons_append, List.nil_append]
  have hk := kd_app (s := tokP [59] :: rest) e
  have hpl : (hd (tkk l k0 ++ tokP [59] :: rest)).place = 0 := place0 e
  have := I_do k47 (by omega) (by omega) (by omega) (by omega) (by omega) (by omega) (by omega) (by omega) (expr_ok c0 h0 (end_of k47 rfl : End (tokP [59] :: rest)))
  rw [hpl] at this
  exact this

theorem comp_36 {l : List Nd} {j : Nat} {num : Int} {nm : List UInt8} {ks : List Nat} (F : NodeF l j 36 num nm ks) (IH : ∀ x ∈ ks, Comp l x) : Comp l j := by
  obtain rfl : num = 0 := by simpa using (show (num == 0) = true from F.numF)
  obtain rfl : nm = [] := List.isEmpty_iff.1 (show nm.isEmpty = true from F.name)
  have hfit := F.fit
  unfold kidsFitI at hfit
  rw [kidsRun_36] at hfit
  have kq := k18
  have key : (∀ rest, kd rest ≠ 15 → P .branch (tkk l j ++ rest) [treeG l j] rest) ∧ ∃ r, tkk l j = tokP [105, 102] :: r := by
    rcases fit2o hfit with ⟨k0, k1, h0, h1, rfl⟩ | ⟨k0, k1, k2, h0, h1, h2, rfl⟩
    · have ht : tkk l j = tokP [105, 102] :: (tkk l k0 ++ tkk l k1) := by
        rw [F.tok, nodeT_36]
        simp [map_row, tkR_cons, tkR_nil]
      have ha : treeG l j = .mk 36 0 0 [] ([treeG l k0] ++ [treeG l k1]) := F.tree
      obtain ⟨hb, t, r, e, hk⟩ := ((IH k1 (by simp)).blk (by simpa [justI] using h1))
      refine ⟨fun rest hr => ?_, _, ht⟩
      rw [ha]
      simp only [ht, List.append_assoc, List.cons_append, List.nil_append]
      exact I_br2 k18 (expr_ok (IH k0 (by simp)) h0 (by rw [e]; exact end_of hk rfl)) (hb rest) hr
    · have ht : tkk l j = tokP [105, 102] :: (tkk l k0 ++ (tkk l k1 ++ tokP [101, 108, 115, 101] :: tkk l k2)) := by
        rw [F.tok, nodeT_36]
        simp [map_row, tkR_cons, tkR_nil]
      have ha : treeG l j = .mk 36 0 0 [] ([treeG l k0] ++ ([treeG l k1] ++ [treeG l k2])) := F.tree
      obtain ⟨hb, t, r, e, hk⟩ := ((IH k1 (by simp)).blk (by simpa [justI] using h1))
      have h2' : kdN l k2 = 41 ∨ kdN l k2 = 36 := by simpa [elseI] using h2
      refine ⟨fun rest hr => ?_, _, ht⟩
      rw [ha]
      simp only [ht, List.append_assoc, List.cons_append, List.nil_append]
      have he := expr_ok (IH k0 (by simp)) h0 (rest := tkk l k1 ++ tokP [101, 108, 115, 101] :: (tkk l k2 ++ rest)) (by rw [e]; exact end_of hk rfl)
      rcases h2' with h2' | h2'
      · obtain ⟨hb2, t2, r2, e2, hk2⟩ := (IH k2 (by simp)).blk h2'
        exact I_br3b k18 k15 he (hb _) (by rw [kd_app e2]; omega) (hb2 rest)
      · obtain ⟨hb2, t2, r2, e2, hk2⟩ := (IH k2 (by simp)).br h2'
        exact I_br3i k18 k15 he (hb _) (by rw [kd_app e2]; omega) (hb2 rest hr)
  obtain ⟨hbr, r, ht⟩ := key
  have hkd := F.kind
  refine ⟨?_, ?_, ?_, ?_, ?_, ?_, ?_, ?_, ?_, ?_, fun _ => ⟨hbr, _, _, ht, kq⟩, fun _ => ⟨fun rest hr => ?_, _, _, ht, by rw [kq]; rfl⟩, ?_, ?_⟩
  · intro h; rw [hkd] at h; exact absurd h (by decide)
  · intro h; rw [hkd] at h; exact absurd h (by decide)
  · intro h; omega
  · intro h; rw [F.lv] at h; exact absurd (show (7 : Int) ≤ 0 from h) (by decide)
  · intro h; rw [F.lv] at h; exact absurd (show (6 : Int) ≤ 0 from h) (by decide)
  · intro h; rw [F.lv] at h; exact absurd (show (1 : Int) ≤ 0 from h) (by decide)
  · intro h; rw [hkd] at h; exact absurd h (by decide)
  · intro h; rw [hkd] at h; exact absurd h (by decide)
  · intro h; omega
  · intro h; omega
  · have := hbr rest hr
    rw [ht] at this ⊢
    exact I_ifS k18 this
  · intro h; rw [hkd] at h; exact absurd h (by decide)
  · intro h; omega

theorem comp_37 {l : List Nd} {j : Nat} {num : Int} {nm : List UInt8} {ks : List Nat} (F : NodeF l j 37 num nm ks) (IH : ∀ x ∈ ks, Comp l x) : Comp l j := by
  obtain rfl : num = 0 := by simpa using (show (num == 0) = true from F.numF)
  obtain rfl : nm = [] := List.isEmpty_iff.1 (show nm.isEmpty = true from F.name)
  have hfit := F.fit
  unfold kidsFitI at hfit
  rw [kidsRun_37] at hfit
  obtain ⟨k0, k1, h0, h1, rfl⟩ := fit2 hfit
  obtain ⟨hb, t, r, e, hk⟩ := ((IH k1 (by simp)).blk (by simpa [justI] using h1))
  have ht : tkk l j = tokP [119, 104, 105, 108, 101] :: (tkk l k0 ++ tkk l k1) := by
    rw [F.tok, nodeT_37]
    simp only [List.map_append, List.map_cons, List.map_nil, map_row, map_inner, tkR_cons, tkR_nil, tkI_one, tkI_more, List.append_nil, List.cons_append, List.nil_append, List.append_assoc, List.take_succ_cons, List.take_zero, List.drop_succ_cons, List.drop_zero]
  have ha : treeG l j = .mk 37 0 0 [] ([treeG l k0] ++ [treeG l k1]) := F.tree
  have kq := k30
  refine comp_stat F rfl (by decide) (by decide) (fun rest hr => ?_) ⟨_, _, ht, by rw [kq]; rfl⟩
  rw [ha]
  simp only [ht, List.append_assoc, List.cons_append, List.nil_append]
  exact I_while k30 (expr_ok (IH k0 (by simp)) h0 (by rw [e]; exact end_of hk rfl)) (hb rest)

theorem comp_38 {l : List Nd} {j : Nat} {num : Int} {nm : List UInt8} {ks : List Nat} (F : NodeF l j 38 num nm ks) (IH : ∀ x ∈ ks, Comp l x) : Comp l j := by
  obtain rfl : num = 0 := by simpa using (show (num == 0) = true from F.numF)
  obtain rfl : nm = [] := List.isEmpty_iff.1 (show nm.isEmpty = true from F.name)
  have hfit := F.fit
  unfold kidsFitI at hfit
  rw [kidsRun_38] at hfit
  have kq := k24
  rcases fit0o hfit with rfl | ⟨k0, h0, rfl⟩
  · have ht : tkk l j = [tokP [114, 101, 116, 117, 114, 110], tokP [59]] := by
      rw [F.tok, nodeT_38]
      simp [map_row, tkR_nil]
    have ha : treeG l j = .mk 38 0 0 [] [] := F.tree
    refine comp_stat F rfl (by decide) (by decide) (fun rest hr => ?_) ⟨_, _, ht, by rw [kq]; rfl⟩
    rw [ha, ht]
    exact I_ret0 k24 k47
  · have ht : tkk l j = tokP [114, 101, 116, 117, 114, 110] :: (tkk l k0 ++ [tokP [59]]) := by
      rw [F.tok, nodeT_38]
      simp [map_row, tkR_cons, tkR_nil]
    have ha : treeG l j = .mk 38 0 0 [] [treeG l k0] := F.tree
    have c0 := IH k0 (by simp)
    obtain ⟨t, r, e, h2, _⟩ := (c0.fst h0).ex
    have hne := startE_ne h2
    refine comp_stat F rfl (by decide) (by decide) (fun rest hr => ?_) ⟨_, _, ht, by rw [kq]; rfl⟩
    rw [ha]
    simp only [ht, List.append_assoc, List.cons_append, List.nil_append]
    exact I_ret1 k24 k47 (by rw [kd_app e]; omega) (expr_ok c0 h0 (end_of k47 rfl))

theorem comp_39 {l : List Nd} {j : Nat} {num : Int} {nm : List UInt8} {ks : List Nat} (F : NodeF l j 39 num nm ks) (IH : ∀ x ∈ ks, Comp l x) : Comp l j := by
  obtain rfl : num = 0 := by simpa using (show (num == 0) = true from F.numF)
  obtain rfl : nm = [] := List.isEmpty_iff.1 (show nm.isEmpty = true from F.name)
  have hfit := F.fit
  unfold kidsFitI at hfit
  rw [kidsRun_39] at hfit
  obtain ⟨k0, h0, rfl⟩ := fit1 hfit
  have ht : tkk l j = tokP [98, 101, 103, 105, 110] :: (tkk l k0 ++ [tokP [59]]) := by
    rw [F.tok, nodeT_39]
    simp only [List.map_append, List.map_cons, List.map_nil, map_row, map_inner, tkR_cons, tkR_nil, tkI_one, tkI_more, List.append_nil, List.cons_append, List.nil_append, List.append_assoc, List.take_succ_cons, List.take_zero, List.drop_succ_cons, List.drop_zero]
  have ha : treeG l j = .mk 39 0 0 [] [treeG l k0] := F.tree
  have kq := k11
  refine comp_stat F rfl (by decide) (by decide) (fun rest hr => ?_) ⟨_, _, ht, by rw [kq]; rfl⟩
  rw [ha]
  simp only [ht, List.append_assoc, List.cons_append, List.nil_append]
  exact I_begin k11 k47 (expr_ok (IH k0 (by simp)) h0 (end_of k47 rfl))

theorem comp_40 {l : List Nd} {j : Nat} {num : Int} {nm : List UInt8} {ks : List Nat} (F : NodeF l j 40 num nm ks) (IH : ∀ x ∈ ks, Comp l x) : Comp l j := by
  obtain rfl : num = 0 := by simpa using (show (num == 0) = true from F.numF)
  obtain rfl : nm = [] := List.isEmpty_iff.1 (show nm.isEmpty = true from F.name)
  have hfit := F.fit
  unfold kidsFitI at hfit
  rw [kidsRun_40] at hfit
  have hm := fitM hfit
  have ht : tkk l j = tokP [115, 101, 108, 101, 99, 116] :: tokP [123] :: (tkR l ks ++ [tokP [125]]) := by
    rw [F.tok, nodeT_40]
    simp only [List.map_append, List.map_cons, List.map_nil, map_row, map_inner, tkR_cons, tkR_nil, tkI_one, tkI_more, List.append_nil, List.cons_append, List.nil_append, List.append_assoc, List.take_succ_cons, List.take_zero, List.drop_succ_cons, List.drop_zero]
  have ha : treeG l j = .mk 40 0 0 [] (ks.map (treeG l)) := F.tree
  have kq := k25
  refine comp_stat F rfl (by decide) (by decide) (fun rest hr => ?_) ⟨_, _, ht, by rw [kq]; rfl⟩
  rw [ha]
  simp only [ht, List.append_assoc, List.cons_append, List.nil_append]
  exact I_select k25 k44 (arms_ok ks IH hm rest)

theorem comp_41 {l : List Nd} {j : Nat} {num : Int} {nm : List UInt8} {ks : List Nat} (F : NodeF l j 41 num nm ks) (IH : ∀ x ∈ ks, Comp l x) : Comp l j := by
  obtain rfl : num = 0 := by simpa using (show (num == 0) = true from F.numF)
  obtain rfl : nm = [] := List.isEmpty_iff.1 (show nm.isEmpty = true from F.name)
  have hfit := F.fit
  unfold kidsFitI at hfit
  rw [kidsRun_41] at hfit
  have hm := fitM hfit
  have kq := k44
  have ht : tkk l j = tokP [123] :: (tkR l ks ++ [tokP [125]]) := by
    rw [F.tok, nodeT_41]
    simp [map_row]
  have ha : treeG l j = .mk 41 0 0 [] (ks.map (treeG l)) := F.tree
  have hb : ∀ rest, P .block (tkk l j ++ rest) [treeG l j] rest := fun rest => by
    rw [ha]
    simp only [ht, List.append_assoc, List.cons_append, List.nil_append]
    exact I_block k44 (stmts_ok ks IH hm rest)
  have hkd := F.kind
  refine ⟨?_, ?_, ?_, ?_, ?_, ?_, ?_, ?_, ?_, fun _ => ⟨hb, _, _, ht, kq⟩, ?_, fun _ => ⟨fun rest hr => ?_, _, _, ht, by rw [kq]; rfl⟩, ?_, ?_⟩
  · intro h; rw [hkd] at h; exact absurd h (by decide)
  · intro h; rw [hkd] at h; exact absurd h (by decide)
  · intro h; omega
  · intro h; rw [F.lv] at h; exact absurd (show (7 : Int) ≤ 0 from h) (by decide)
  · intro h; rw [F.lv] at h; exact absurd (show (6 : Int) ≤ 0 from h) (by decide)
  · intro h; rw [F.lv] at h; exact absurd (show (1 : Int) ≤ 0 from h) (by decide)
  · intro h; rw [hkd] at h; exact absurd h (by decide)
  · intro h; rw [hkd] at h; exact absurd h (by decide)
  · intro h; omega
  · intro h; omega
  · have := hb rest
    rw [ht] at this ⊢
    exact I_blockS k44 this
  · intro h; rw [hkd] at h; exact absurd h (by decide)
  · intro h; omega

theorem comp_42 {l : List Nd} {j : Nat} {num : Int} {nm : List UInt8} {ks : List Nat} (F : NodeF l j 42 num nm ks) (IH : ∀ x ∈ ks, Comp l x) : Comp l j := by
  obtain rfl : num = 0 := by simpa using (show (num == 0) = true from F.numF)
  have hnm : nameOk nm = true := F.name
  have kn := kname hnm
  have hfit := F.fit
  unfold kidsFitI at hfit
  rw [kidsRun_42] at hfit
  obtain ⟨k0, h0, rfl⟩ := fit1 hfit
  have ht : tkk l j = tokP nm :: tokP [58] :: tkk l k0 := by
    rw [F.tok, nodeT_42]
    simp only [List.map_append, List.map_cons, List.map_nil, map_row, map_inner, tkR_cons, tkR_nil, tkI_one, tkI_more, List.append_nil, List.cons_append, List.nil_append, List.append_assoc, List.take_succ_cons, List.take_zero, List.drop_succ_cons, List.drop_zero]
  have ha : treeG l j = .mk 42 0 0 nm [treeG l k0] := F.tree
  refine ⟨?_, ?_, ?_, ?_, ?_, ?_, ?_, ?_, ?_, ?_, ?_, ?_, ?_, ?_⟩
  · intro h; rw [F.kind] at h; exact absurd h (by decide)
  · intro h; rw [F.kind] at h; exact absurd h (by decide)
  · intro h; rw [F.kind] at h; exact absurd h (by decide)
  · intro h; rw [F.lv] at h; exact absurd (show (7 : Int) ≤ 0 from h) (by decide)
  · intro h; rw [F.lv] at h; exact absurd (show (6 : Int) ≤ 0 from h) (by decide)
  · intro h; rw [F.lv] at h; exact absurd (show (1 : Int) ≤ 0 from h) (by decide)
  · intro h; rw [F.kind] at h; exact absurd h (by decide)
  · intro h; rw [F.kind] at h; exact absurd h (by decide)
  · exact fun _ => ⟨fun rest hr => by rw [ha, ht]; exact I_param kn k48 ((IH k0 (by simp)).typ h0 rest hr), _, _, ht, kn⟩
  · intro h; rw [F.kind] at h; exact absurd h (by decide)
  · intro h; rw [F.kind] at h; exact absurd h (by decide)
  · intro h; rw [F.kind] at h; exact absurd h (by decide)
  · intro h; rw [F.kind] at h; exact absurd h (by decide)
  · intro h; rw [F.kind] at h; exact absurd h (by decide)

theorem comp_43 {l : List Nd} {j : Nat} {num : Int} {nm : List UInt8} {ks : List Nat} (F : NodeF l j 43 num nm ks) (IH : ∀ x ∈ ks, Comp l x) : Comp l j := by
  obtain rfl : num = 0 := by simpa using (show (num == 0) = true from F.numF)
  have hn : nm = [] ∨ nameOk nm = true := by
    have : (nm.isEmpty || nameOk nm) = true := F.name
    rw [Bool.or_eq_true, List.isEmpty_iff] at this
    exact this
  have hfit := F.fit
  unfold kidsFitI at hfit
  rw [kidsRun_43] at hfit
  obtain ⟨k0, k1, h0, h1, rfl⟩ := fit2 hfit
  obtain ⟨hb, t, r, e, hk⟩ := ((IH k1 (by simp)).blk (by simpa [justI] using h1))
  have hw : 6 ≤ lev l k0 := F.levs 0 (by simp)
  have c0 := IH k0 (by simp)
  have ha : treeG l j = .mk 43 0 0 nm ([treeG l k0] ++ [treeG l k1]) := F.tree
  have hst : ∀ rest, Stop (tkk l k1 ++ rest) := fun rest => by rw [e]; exact (End.stop (end_of hk rfl)).1
  have key : (∀ rest, P .arm (tkk l j ++ rest) [treeG l j] rest) ∧ ∃ t r, tkk l j = t :: r ∧ t.kind = 13 := by
    rcases hn with rfl | hn
    · have ht : tkk l j = tokP [99, 97, 115, 101] :: tokP [60, 45] :: (tkk l k0 ++ tkk l k1) := by
        rw [F.tok, nodeT_43]
        simp [map_row, tkR_cons, tkR_nil]
      refine ⟨fun rest => ?_, _, _, ht, k13⟩
      rw [ha]
      simp only [ht, List.append_assoc, List.cons_append, List.nil_append]
      exact I_recv0 k13 k65 (c0.un hw _ (hst rest)) (hb rest)
    · have ht : tkk l j = tokP [99, 97, 115, 101] :: tokP nm :: tokP [61] :: tokP [60, 45] :: (tkk l k0 ++ tkk l k1) := by
        rw [F.tok, nodeT_43, if_neg (nameOk_nil hn)]
        simp [map_row, tkR_cons, tkR_nil]
      refine ⟨fun rest => ?_, _, _, ht, k13⟩
      rw [ha]
      simp only [ht, List.append_assoc, List.cons_append, List.nil_append]
      exact I_recv1 k13 (kname hn) k50 k65 (c0.un hw _ (hst rest)) (hb rest)
  refine ⟨?_, ?_, ?_, ?_, ?_, ?_, ?_, ?_, ?_, ?_, ?_, ?_, ?_, ?_⟩
  · intro h; rw [F.kind] at h; exact absurd h (by decide)
  · intro h; rw [F.kind] at h; exact absurd h (by decide)
  · intro h; rw [F.kind] at h; exact absurd h (by decide)
  · intro h; rw [F.lv] at h; exact absurd (show (7 : Int) ≤ 0 from h) (by decide)
  · intro h; rw [F.lv] at h; exact absurd (show (6 : Int) ≤ 0 from h) (by decide)
  · intro h; rw [F.lv] at h; exact absurd (show (1 : Int) ≤ 0 from h) (by decide)
  · intro h; rw [F.kind] at h; exact absurd h (by decide)
  · intro h; rw [F.kind] at h; exact absurd h (by decide)
  · intro h; rw [F.kind] at h; exact absurd h (by decide)
  · intro h; rw [F.kind] at h; exact absurd h (by decide)
  · intro h; rw [F.kind] at h; exact absurd h (by decide)
  · intro h; rw [F.kind] at h; exact absurd h (by decide)
  · exact fun _ => key
  · intro h; rw [F.kind] at h; exact absurd h (by decide)

theorem comp_44 {l : List Nd} {j : Nat} {num : Int} {nm : List UInt8} {ks : List Nat} (F : NodeF l j 44 num nm ks) (IH : ∀ x ∈ ks, Comp l x) : Comp l j := by
  obtain rfl : num = 0 := by simpa using (show (num == 0) = true from F.numF)
  obtain rfl : nm = [] := List.isEmpty_iff.1 (show nm.isEmpty = true from F.name)
  have hfit := F.fit
  unfold kidsFitI at hfit
  rw [kidsRun_44] at hfit
  obtain ⟨k0, k1, k2, h0, h1, h2, rfl⟩ := fit3 hfit
  obtain ⟨hb, t2, r2, e2, hk2⟩ := ((IH k2 (by simp)).blk (by simpa [justI] using h2))
  have c0 := IH k0 (by simp)
  obtain ⟨t, r, e, s1, s7, s65, s4⟩ := (c0.fst h0).ex
  have hbeg := F.beg rfl
  have hn65 : t.kind ≠ 65 := fun h => by
    have := s65 h (l.length + 1) (by have := F.low k0 (by simp); have := F.lt; omega)
    have hb2 : beginsI l (l.length + 1) (k0 : Nat) = false := hbeg
    rw [this] at hb2
    cases hb2
  have ht : tkk l j = tokP [99, 97, 115, 101] :: (tkk l k0 ++ tokP [60, 45, 61] :: (tkk l k1 ++ tkk l k2)) := by
    rw [F.tok, nodeT_44]
    simp only [List.map_append, List.map_cons, List.map_nil, map_row, map_inner, tkR_cons, tkR_nil, tkI_one, tkI_more, List.append_nil, List.cons_append, List.nil_append, List.append_assoc, List.take_succ_cons, List.take_zero, List.drop_succ_cons, List.drop_zero]
  have ha : treeG l j = .mk 44 0 0 [] ([treeG l k0] ++ ([treeG l k1] ++ [treeG l k2])) := F.tree
  refine ⟨?_, ?_, ?_, ?_, ?_, ?_, ?_, ?_, ?_, ?_, ?_, ?_, ?_, ?_⟩
  · intro h; rw [F.kind] at h; exact absurd h (by decide)
  · intro h; rw [F.kind] at h; exact absurd h (by decide)
  · intro h; rw [F.kind] at h; exact absurd h (by decide)
  · intro h; rw [F.lv] at h; exact absurd (show (7 : Int) ≤ 0 from h) (by decide)
  · intro h; rw [F.lv] at h; exact absurd (show (6 : Int) ≤ 0 from h) (by decide)
  · intro h; rw [F.lv] at h; exact absurd (show (1 : Int) ≤ 0 from h) (by decide)
  · intro h; rw [F.kind] at h; exact absurd h (by decide)
  · intro h; rw [F.kind] at h; exact absurd h (by decide)
  · intro h; rw [F.kind] at h; exact absurd h (by decide)
  · intro h; rw [F.kind] at h; exact absurd h (by decide)
  · intro h; rw [F.kind] at h; exact absurd h (by decide)
  · intro h; rw [F.kind] at h; exact absurd h (by decide)
  · refine fun _ => ⟨fun rest => ?_, _, _, ht, k13⟩
    rw [ha]
    simp only [ht, List.append_assoc, List.cons_append, List.nil_append]
    refine I_sendA k13 k66 (by rw [kd_app e]; exact hn65) (fun h => ?_) (expr_ok c0 h0 (end_of k66 rfl)) (expr_ok (IH k1 (by simp)) h1 (by rw [e2]; exact end_of hk2 rfl)) (hb rest)
    rw [kd_app e] at h
    obtain ⟨h1', h50⟩ := h
    have kq := k66
    rcases s4 h1' with rfl | ⟨v, r', rfl, hv⟩
    · rw [e] at h50
      have : (tokP [60, 45, 61]).kind = 50 := h50
      omega
    · rw [e] at h50
      exact hv h50
  · intro h; rw [F.kind] at h; exact absurd h (by decide)

theorem comp_45 {l : List Nd} {j : Nat} {num : Int} {nm : List UInt8} {ks : List Nat} (F : NodeF l j 45 num nm ks) (IH : ∀ x ∈ ks, Comp l x) : Comp l j := by
  obtain rfl : num = 0 := by simpa using (show (num == 0) = true from F.numF)
  have hnm : nameOk nm = true := F.name
  have kn := kname hnm
  have hfit := F.fit
  unfold kidsFitI at hfit
  rw [kidsRun_45] at hfit
  obtain ⟨k0, h0, rfl⟩ := fit1 hfit
  have ht : tkk l j = tokP [116, 121, 112, 101] :: tokP nm :: tokP [61] :: (tkk l k0 ++ [tokP [59]]) := by
    rw [F.tok, nodeT_45]
    simp only [List.map_append, List.map_cons, List.map_nil, map_row, map_inner, tkR_cons, tkR_nil, tkI_one, tkI_more, List.append_nil, List.cons_append, List.nil_append, List.append_assoc, List.take_succ_cons, List.take_zero, List.drop_succ_cons, List.drop_zero]
  have ha : treeG l j = .mk 45 0 0 nm [treeG l k0] := F.tree
  refine ⟨?_, ?_, ?_, ?_, ?_, ?_, ?_, ?_, ?_, ?_, ?_, ?_, ?_, ?_⟩
  · intro h; rw [F.kind] at h; exact absurd h (by decide)
  · intro h; rw [F.kind] at h; exact absurd h (by decide)
  · intro h; rw [F.kind] at h; exact absurd h (by decide)
  · intro h; rw [F.lv] at h; exact absurd (show (7 : Int) ≤ 0 from h) (by decide)
  · intro h; rw [F.lv] at h; exact absurd (show (6 : Int) ≤ 0 from h) (by decide)
  · intro h; rw [F.lv] at h; exact absurd (show (1 : Int) ≤ 0 from h) (by decide)
  · intro h; rw [F.kind] at h; exact absurd h (by decide)
  · intro h; rw [F.kind] at h; exact absurd h (by decide)
  · intro h; rw [F.kind] at h; exact absurd h (by decide)
  · intro h; rw [F.kind] at h; exact absurd h (by decide)
  · intro h; rw [F.kind] at h; exact absurd h (by decide)
  · intro h; rw [F.kind] at h; exact absurd h (by decide)
  · intro h; rw [F.kind] at h; exact absurd h (by decide)
  · refine fun _ => ⟨fun rest => ?_, _, _, ht, k27⟩
    rw [ha]
    simp only [ht, List.append_assoc, List.cons_append, List.nil_append]
    exact I_tyn k27 kn k50 k47 ((IH k0 (by simp)).typ h0 _ (by show (tokP [59]).kind ≠ 48; rw [k47]; decide))

theorem comp_46 {l : List Nd} {j : Nat} {num : Int} {nm : List UInt8} {ks : List Nat} (F : NodeF l j 46 num nm ks) (IH : ∀ x ∈ ks, Comp l x) : Comp l j := by
  refine ⟨?_, ?_, ?_, ?_, ?_, ?_, ?_, ?_, ?_, ?_, ?_, ?_, ?_, ?_⟩
  · intro h; rw [F.kind] at h; exact absurd h (by decide)
  · intro h; rw [F.kind] at h; exact absurd h (by decide)
  · intro h; rw [F.kind] at h; exact absurd h (by decide)
  · intro h; rw [F.lv] at h; exact absurd (show (7 : Int) ≤ 0 from h) (by decide)
  · intro h; rw [F.lv] at h; exact absurd (show (6 : Int) ≤ 0 from h) (by decide)
  · intro h; rw [F.lv] at h; exact absurd (show (1 : Int) ≤ 0 from h) (by decide)
  · intro h; rw [F.kind] at h; exact absurd h (by decide)
  · intro h; rw [F.kind] at h; exact absurd h (by decide)
  · intro h; rw [F.kind] at h; exact absurd h (by decide)
  · intro h; rw [F.kind] at h; exact absurd h (by decide)
  · intro h; rw [F.kind] at h; exact absurd h (by decide)
  · intro h; rw [F.kind] at h; exact absurd h (by decide)
  · intro h; rw [F.kind] at h; exact absurd h (by decide)
  · intro h; rw [F.kind] at h; exact absurd h (by decide)

theorem comp_kind {l : List Nd} {j : Nat} {kd0 num : Int} {nm : List UInt8} {ks : List Nat} (F : NodeF l j kd0 num nm ks) (hk : kindI kd0 = true) (IH : ∀ x ∈ ks, Comp l x) : Comp l j := by
  rcases kind_cases _ hk with rfl | rfl | rfl | rfl | rfl | rfl | rfl | rfl | rfl | rfl | rfl | rfl | rfl | rfl | rfl | rfl | rfl | rfl | rfl | rfl | rfl | rfl | rfl | rfl | rfl | rfl | rfl | rfl | rfl | rfl | rfl | rfl | rfl | rfl | rfl | rfl | rfl | rfl
  · exact comp_1 F IH
  · exact comp_2 F IH
  · exact comp_3 F IH
  · exact comp_4 F IH
  · exact comp_5 F IH
  · exact comp_6 F IH
  · exact comp_7 F IH
  · exact comp_11 F IH
  · exact comp_12 F IH
  · exact comp_13 F IH
  · exact comp_14 F IH
  · exact comp_15 F IH
  · exact comp_16 F IH
  · exact comp_17 F IH
  · exact comp_18 F IH
  · exact comp_19 F IH
  · exact comp_20 F IH
  · exact comp_21 F IH
  · exact comp_22 F IH
  · exact comp_23 F IH
  · exact comp_24 F IH
  · exact comp_25 F IH
  · exact comp_31 F IH
  · exact comp_32 F IH
  · exact comp_33 F IH
  · exact comp_34 F IH
  · exact comp_35 F IH
  · exact comp_36 F IH
  · exact comp_37 F IH
  · exact comp_38 F IH
  · exact comp_39 F IH
  · exact comp_40 F IH
  · exact comp_41 F IH
  · exact comp_42 F IH
  · exact comp_43 F IH
  · exact comp_44 F IH
  · exact comp_45 F IH
  · exact comp_46 F IH
theorem comp_all {l : List Nd} (hok : (checkAll l).2 = 0) (hw : ∀ j, j < l.length → I64 (ndN l j).num) : ∀ j, j < l.length → Comp l j := by
  obtain ⟨hall, _, _⟩ := ok_all hok
  intro j
  induction j using Nat.strongRecOn with
  | _ j ih =>
    intro hj
    have F := node_f hok hw hj
    refine comp_kind F (hall j hj).kind (fun k hk => ?_)
    have := F.low k hk
    exact ih k this (by omega)
/-- P3.3, plain: A TREE'S TEXT IS READ AS THAT TREE -/
theorem program_ok {l : List Nd} (hok : (checkAll l).2 = 0) (hw : ∀ j, j < l.length → I64 (ndN l j).num) (eof : PTok) (he : eof.kind = 0) : P .program (tkk l (l.length - 1) ++ [eof]) [treeG l (l.length - 1)] [eof] := by
  obtain ⟨hall, h0, h46⟩ := ok_all hok
  have F := node_f hok hw (j := l.length - 1) (by omega)
  have hC := comp_all hok hw
  have hks : ∀ k ∈ kidsN l (l.length - 1), Comp l k := fun k hk => by
    have := F.low k hk
    exact hC k (by omega)
  have hkd : (ndN l (l.length - 1)).kind = 46 := h46
  rw [hkd] at F
  generalize (ndN l (l.length - 1)).num = num at F
  generalize (ndN l (l.length - 1)).name.data.toList = nm at F
  generalize kidsN l (l.length - 1) = ks at F hks
  obtain rfl : nm = [] := List.isEmpty_iff.1 (show nm.isEmpty = true from F.name)
  have hnum : (decide (0 ≤ num) && decide (num ≤ ks.length)) = true := F.numF
  rw [Bool.and_eq_true, decide_eq_true_eq, decide_eq_true_eq] at hnum
  have hfit := F.fit
  unfold kidsFitI at hfit
  rw [kidsRun_46] at hfit
  obtain ⟨ts, ss, hts, h45, hss, rfl⟩ := fitP hfit
  have ht : tkk l (l.length - 1) = tkR l ts ++ tkR l ss := by
    rw [F.tok, nodeT_46, map_row]
    simp [tkR]
  have ha : treeG l (l.length - 1) = .mk 46 0 ((ts.map (treeG l)).length : Nat) [] (ts.map (treeG l) ++ ss.map (treeG l)) := by
    rw [F.tree, List.map_append]
    congr 1
    rw [List.length_map, hts]
    omega
  rw [ha, ht, List.append_assoc]
  refine I_program (types_ok ?_ ts (fun x hx => hks x (by simp [hx])) (fun x hx => by simpa [justI] using h45 x hx)) (tops_ok eof he ss (fun x hx => hks x (by simp [hx])) hss)
  cases ss with
  | nil =>
    show kd [eof] ≠ 27
    have : kd [eof] = eof.kind := rfl
    omega
  | cons k r =>
    obtain ⟨_, t, z, e, hs⟩ := (hks k (by simp)).st (hss k (by simp))
    have := startS_ne hs
    rw [tkR_cons, List.append_assoc, kd_app e]
    omega
end Go.Proofs.YtpgobebibjeglaaDoor
namespace Go.Proofs.YtpgobebibjeglaaDoor
open Go.RowKit
set_option linter.unusedVariables false
set_option linter.unusedSimpArgs false

/-! ### a tree as a list of nodes -/
mutual
def Tr.size : Tr → Nat
  | .mk _ _ _ _ ks => sizes ks + 1
def sizes : List Tr → Nat
  | [] => 0
  | t :: r => t.size + sizes r
end
def ends : List Tr → Nat → List Int
  | [], _ => []
  | t :: r, o => ((o + t.size - 1 : Nat) : Int) :: ends r (o + t.size)
mutual
def flat : Tr → Nat → List Nd
  | .mk k p n nm ks, o => flats ks o ++ [⟨k, p, ends ks o, ⟨nm.toArray⟩, n⟩]
def flats : List Tr → Nat → List Nd
  | [], _ => []
  | t :: r, o => flat t o ++ flats r (o + t.size)
end
mutual
theorem flat_len : ∀ (t : Tr) (o : Nat), (flat t o).length = t.size
  | .mk k p n nm ks, o => by
    rw [flat, Tr.size, List.length_append, flats_len ks o]
    rfl
theorem flats_len : ∀ (ts : List Tr) (o : Nat), (flats ts o).length = sizes ts
  | [], o => rfl
  | t :: r, o => by
    rw [flats, sizes, List.length_append, flat_len t o, flats_len r]
end
theorem size_pos (t : Tr) : 1 ≤ t.size := by
  cases t
  rw [Tr.size]
  omega
theorem sizes_append : ∀ (a b : List Tr), sizes (a ++ b) = sizes a + sizes b
  | [], b => by simp [sizes]
  | t :: r, b => by
    rw [List.cons_append, sizes, sizes, sizes_append r b]
    omega
theorem flats_snoc (t : Tr) : ∀ (a : List Tr) (o : Nat), flats (a ++ [t]) o = flats a o ++ flat t (o + sizes a)
  | [], o => by simp [flats, sizes]
  | x :: r, o => by
    rw [List.cons_append, flats, flats, flats_snoc t r, sizes, List.append_assoc, Nat.add_assoc]
theorem ends_snoc (t : Tr) : ∀ (a : List Tr) (o : Nat), ends (a ++ [t]) o = ends a o ++ [((o + sizes a + t.size - 1 : Nat) : Int)]
  | [], o => by simp [ends, sizes]
  | x :: r, o => by
    rw [List.cons_append, ends, ends, ends_snoc t r, sizes, List.cons_append, Nat.add_assoc o]
/-- a node without its place -/
def er (n : Nd) : Nd := ⟨n.kind, 0, n.kids, n.name, n.num⟩
def seg (l : List Nd) (a b : Nat) : List Nd := ((l.map er).take b).drop a
theorem seg_len {l : List Nd} {a b : Nat} (h : b ≤ l.length) : (seg l a b).length = b - a := by
  unfold seg
  rw [List.length_drop, List.length_take, List.length_map]
  omega
theorem seg_none (l : List Nd) (a : Nat) : seg l a a = [] := by
  unfold seg
  rw [List.drop_eq_nil_of_le]
  simp
  omega
theorem seg_join {l : List Nd} {a b c : Nat} (h1 : a ≤ b) (h2 : b ≤ c) : seg l a c = seg l a b ++ seg l b c := by
  unfold seg
  have e : (l.map er).take b = ((l.map er).take c).take b := by rw [List.take_take, Nat.min_eq_left h2]
  rw [e]
  generalize (l.map er).take c = m
  by_cases hb : b ≤ m.length
  · conv => lhs; rw [← List.take_append_drop b m]
    rw [List.drop_append_of_le_length (by rw [List.length_take]; omega)]
  · have h1 : m.drop b = [] := List.drop_eq_nil_of_le (by omega)
    have h2 : m.take b = m := List.take_of_length_le (by omega)
    rw [h1, h2, List.append_nil]
theorem seg_one {l : List Nd} {j : Nat} (h : j < l.length) : seg l j (j + 1) = [er (ndN l j)] := by
  unfold seg
  rw [List.take_succ_eq_append_getElem (by simpa using h), List.drop_append_of_le_length (by simp; omega), List.drop_eq_nil_of_le (by simp; omega)]
  simp [ndN, List.getD, h]
structure FlatS (l : List Nd) (fs : List Nat) : Prop where
  le : ∀ i, i < fs.length → fs.getD i 0 ≤ i
  seg : ∀ i, i < fs.length → seg l (fs.getD i 0) (i + 1) = flat (treeG l i) (fs.getD i 0)
theorem seg_order {l : List Nd} {fs : List Nat} (hS : FlatS l fs) (hl : fs.length ≤ l.length) : ∀ (ks : List Int) (nx : Nat), nx ≤ fs.length → orderGo fs nx ks = true →
    endOf fs nx ks ≤ nx ∧ seg l (endOf fs nx ks) nx = flats ((ks.reverse.map Int.toNat).map (treeG l)) (endOf fs nx ks) ∧ ends ((ks.reverse.map Int.toNat).map (treeG l)) (endOf fs nx ks) = ks.reverse
  | [], nx, _, _ => ⟨Nat.le_refl _, by simp [endOf, seg_none, flats], rfl⟩
  | x :: r, nx, hnx, h => by
    rw [orderGo] at h
    split at h
    · rename_i hx
      obtain ⟨y, rfl⟩ : ∃ y : Nat, x = (y : Int) := ⟨x.toNat, by omega⟩
      have hy : y < fs.length := by omega
      rw [Int.toNat_natCast] at h
      have h1 := hS.le y hy
      have h2 := hS.seg y hy
      obtain ⟨i1, i2, i3⟩ := seg_order hS hl r (fs.getD y 0) (by omega) h
      have e1 : endOf fs nx ((y : Int) :: r) = endOf fs (fs.getD y 0) r := by rw [endOf, Int.toNat_natCast]
      rw [e1, List.reverse_cons, List.map_append, List.map_append]
      have hny : nx = y + 1 := by omega
      have s1 : sizes ((r.reverse.map Int.toNat).map (treeG l)) = fs.getD y 0 - endOf fs (fs.getD y 0) r := by
        have := congrArg List.length i2
        rw [seg_len (by omega), flats_len] at this
        exact this.symm
      have s2 : (treeG l y).size = y + 1 - fs.getD y 0 := by
        have := congrArg List.length h2
        rw [seg_len (by omega), flat_len] at this
        exact this.symm
      refine ⟨by omega, ?_, ?_⟩
      · rw [seg_join (b := fs.getD y 0) i1 (by omega), i2, hny, h2]
        show _ = flats (_ ++ [treeG l y]) _
        rw [flats_snoc, s1]
        congr 2
        omega
      · show ends (_ ++ [treeG l y]) _ = _
        rw [ends_snoc, i3, s1, s2]
        congr 2
        omega
    · cases h
theorem flat_go {l : List Nd} (hlow : ∀ j, j < l.length → ∀ k ∈ kidsN l j, k < j) : ∀ (m : Nat) (fs : List Nat), fs.length + m = l.length → FlatS l fs → (checkGo l m fs).2 = 0 → 0 < l.length ∧ l.map er = flat (treeG l (l.length - 1)) 0
  | 0, fs, hm, hS, hc => by
    rw [checkGo] at hc
    unfold rootI at hc
    split at hc
    · cases hc
    · rename_i hr
      have h0 : ¬ l.length = 0 := fun e => hr (.inl e)
      have h1 : fs.getD (l.length - 1) 0 = 0 := Classical.byContradiction fun e => hr (.inr (.inr e))
      refine ⟨by omega, ?_⟩
      have := hS.seg (l.length - 1) (by omega)
      rw [h1] at this
      rw [← this]
      unfold seg
      rw [List.drop_zero, List.take_of_length_le (by simp; omega)]
  | m + 1, fs, hm, hS, hc => by
    rw [checkGo] at hc
    split at hc
    · rename_i hz
      obtain ⟨_, _, _, _, ho, _, _⟩ := node_zero hz
      refine flat_go hlow m _ (by simp; omega) ⟨first_ok hS.le hz, fun j hj => ?_⟩ hc
      simp only [List.length_append, List.length_cons, List.length_nil] at hj
      by_cases hj2 : j < fs.length
      · have := hS.seg j hj2
        have e : (fs ++ [firstOf fs (ndN l fs.length) fs.length]).getD j 0 = fs.getD j 0 := by
          simp only [List.getD_eq_getElem?_getD]
          rw [List.getElem?_append_left hj2]
        rw [e]
        exact this
      · have : j = fs.length := by omega
        subst this
        have e : (fs ++ [firstOf fs (ndN l fs.length) fs.length]).getD fs.length 0 = firstOf fs (ndN l fs.length) fs.length := by simp [List.getD_eq_getElem?_getD]
        rw [e, firstOf_end]
        obtain ⟨i1, i2, i3⟩ := seg_order hS (by omega) (ndN l fs.length).kids.reverse fs.length (Nat.le_refl _) ho
        rw [List.reverse_reverse] at i2 i3
        rw [seg_join (b := fs.length) i1 (by omega), i2, seg_one (by omega), treeG_eq hlow (by omega), flat]
        unfold kidsN
        rw [i3]
        rfl
    · rename_i hz
      exact absurd hc hz
/-- A LIST THAT IS WELL IS ITS TREE -/
theorem flat_all {l : List Nd} (hok : (checkAll l).2 = 0) : l.map er = flat (treeG l (l.length - 1)) 0 :=
  (flat_go (fun j hj => ((ok_all hok).1 j hj).low) l.length [] (by simp) ⟨fun i hi => (by cases hi), fun i hi => (by cases hi)⟩ hok).2

/-! ### one text, one tree -/
theorem split32 : ∀ (a b x y : List UInt8), 32 ∉ a → 32 ∉ b → a ++ 32 :: x = b ++ 32 :: y → a = b ∧ x = y
  | [], [], x, y, _, _, h => by
    simp at h
    exact ⟨rfl, h⟩
  | [], c :: b, x, y, _, hb, h => by
    simp at h
    exact absurd h.1 (fun e => hb (by simp [e]))
  | c :: a, [], x, y, ha, _, h => by
    simp at h
    exact absurd h.1 (fun e => ha (by simp [e]))
  | c :: a, d :: b, x, y, ha, hb, h => by
    simp only [List.cons_append, List.cons.injEq] at h
    obtain ⟨h1, h2⟩ := split32 a b x y (fun hm => ha (List.mem_cons_of_mem _ hm)) (fun hm => hb (List.mem_cons_of_mem _ hm)) h.2
    exact ⟨by rw [h.1, h1], h2⟩
theorem shut_inj : ∀ (S T : List (List UInt8)), AllT S → AllT T → shutT S = shutT T → S = T
  | [], [], _, _, _ => rfl
  | [], t :: r, _, _, h => by simp [shutT] at h
  | s :: q, [], _, _, h => by simp [shutT] at h
  | s :: q, t :: r, hs, ht, h => by
    obtain ⟨h1, h2⟩ := all_cons.1 hs
    obtain ⟨h3, h4⟩ := all_cons.1 ht
    unfold shutT at h
    rw [List.flatMap_cons, List.flatMap_cons, List.append_assoc, List.append_assoc] at h
    obtain ⟨e1, e2⟩ := split32 s t _ _ h1.blank h3.blank h
    rw [e1, shut_inj q r h2 h4 e2]
theorem lay_inj {S T : List (List UInt8)} (hs : AllT S) (ht : AllT T) (h : layT [] S = layT [] T) : S = T := by
  have ne : ∀ {X : List (List UInt8)}, AllT X → X ≠ [] → layT [] X ≠ [] := fun {X} hX h0 e => by
    have h1 := lay_len hX h0
    rw [e] at h1
    match X, hX, h0 with
    | t :: r, hX, _ =>
      have := (all_cons.1 hX).1.pos
      rw [cost_cons] at h1
      simp at h1
      omega
  by_cases s0 : S = []
  · by_cases t0 : T = []
    · rw [s0, t0]
    · rw [s0] at h
      exact absurd h.symm (ne ht t0)
  · by_cases t0 : T = []
    · rw [t0] at h
      exact absurd h (ne hs s0)
    · apply shut_inj S T hs ht
      rw [← lay_shut hs s0, ← lay_shut ht t0, h]
theorem ndN_er (l : List Nd) (j : Nat) : ndN (l.map er) j = er (ndN l j) := by
  unfold ndN
  simp only [List.getD_eq_getElem?_getD, List.getElem?_map]
  cases l[j]? <;> rfl
theorem textF_er (l : List Nd) : ∀ (f j : Nat), textF (l.map er) f j = textF l f j
  | 0, j => rfl
  | f + 1, j => by
    have e : textF (l.map er) f = textF l f := funext (textF_er l f)
    rw [textF, textF, e]
    unfold kidsN
    rw [ndN_er]
    rfl
/-- P2.5 -/
theorem unlike_all {l m : List Nd} (hl : (checkAll l).2 = 0) (hm : (checkAll m).2 = 0) (wl : ∀ j, j < l.length → I64 (ndN l j).num) (wm : ∀ j, j < m.length → I64 (ndN m j).num) : layT [] (textG l (l.length - 1)) = layT [] (textG m (m.length - 1)) ↔ l.map er = m.map er := by
  constructor
  · intro h
    have l0 := (ok_all hl).2.1
    have m0 := (ok_all hm).2.1
    have e := lay_inj (toks_all hl wl _ (by omega)) (toks_all hm wm _ (by omega)) h
    have q1 := program_ok hl wl pt0 rfl
    have q2 := program_ok hm wm pt0 rfl
    unfold tkk at q1 q2
    rw [e] at q1
    have := (P_one q1 q2).1
    rw [flat_all hl, flat_all hm]
    rw [List.cons.injEq] at this
    rw [this.1]
  · intro h
    have hlen : l.length = m.length := by simpa using congrArg List.length h
    unfold textG
    rw [← textF_er l, ← textF_er m, h, hlen]
end Go.Proofs.YtpgobebibjeglaaDoor
