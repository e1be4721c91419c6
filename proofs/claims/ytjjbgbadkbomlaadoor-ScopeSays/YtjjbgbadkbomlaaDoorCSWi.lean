import Derived.Test.YtjjbgbadkbomlaaDoorCSWe
import Derived.Test.YtjjbgbadkbomlaaDoorCSWc
import Derived.Test.YtjjbgbadkbomlaaDoorCSTk
namespace Go.Proofs.YtjjbgbadkbomlaaDoor
open Go.RowKit Go.Maps
set_option linter.unusedVariables false
set_option linter.unusedSimpArgs false

theorem pig : ∀ (n : Nat) (xs : List Nat), xs.Nodup → (∀ x, x ∈ xs → x < n) → xs.length ≤ n
  | 0, xs, _, h => by
    cases xs with
    | nil => simp
    | cons x r => exact absurd (h x (by simp)) (by omega)
  | n + 1, xs, hn, h => by
    have h1 := pig n (xs.erase n) (hn.erase n) (fun x hx => by
      rw [hn.mem_erase_iff] at hx
      have := h x hx.2
      have := hx.1
      omega)
    rw [List.length_erase] at h1
    split at h1 <;> omega
theorem gat_few {l : List Nd} {s : SSt} (hw : SWf l s) (ha : Apart s) : s.gat.length ≤ l.length := by
  have := pig l.length ((List.range s.gat.length).map fun k => (gatS s k).1) (by
    refine List.pairwise_iff_getElem.2 fun j j' hj hj' hlt => ?_
    simp only [List.length_map, List.length_range] at hj hj'
    simp only [List.getElem_map, List.getElem_range]
    exact ha j j' hlt hj') (fun x hx => by
    simp only [List.mem_map, List.mem_range] at hx
    obtain ⟨k, hk, rfl⟩ := hx
    exact hw.prog k hk)
  simpa using this
theorem drop_last {ks : List Int} (h : 1 ≤ ks.length) : ks = ks.dropLast ++ [ks.getLastD 0] := by
  have hne : ks ≠ [] := by intro e; rw [e] at h; simp at h
  have := (List.dropLast_concat_getLast hne).symm
  rw [List.getLastD_eq_getLast?, List.getLast?_eq_some_getLast hne]
  exact this
/-- a cell of another's -/
def Kc (W : World) (G : WG) (b : Nat) (v : Value) : Prop := G.lab b = .out ∧ W.cell? ⟨b, 0, none⟩ = some v
theorem Kc.fr {B : Nat} {W W' : World} {G G' : WG} {b : Nat} {v : Value} (h : Kc W G b v) (f : Fr B W G W' G') : Kc W' G' b v := ⟨(f.keep b (World.block_lt_of_cell? W _ h.2) h.1).2, f.cell h.1 h.2⟩
/-- visit of an arm that receives -/
theorem visit_recv {B nb no nc : Nat} {l : List Nd} (hl : LOk l) (hl31 : l.length ≤ 2147483647) (f i : Nat) (hi : i < l.length) (IH : ∀ k, k < i → VisC B nb no nc l f k) (k43 : kdN l i = 43) {W0 W : World} {s : SSt} {G0 G : WG} (h : ST B nb no nc l W0 G0 W s G) (hab : About s i) (hpw : PW l s (cntF l (f + 1) i)) (hbk : s.blocks + 2 * (f + 1) < 1099511627776) :
    Calls Tryd.prog 19 #[.pointer (some ⟨G.wb, 0, none⟩), .int .i64 i] W fun e W' => e = .returned (.tuple #[]) ∧ ∃ G', ST B nb no nc l W0 G0 W' (visF l (f + 1) i s) G' := by
  have h2 := hl.recv i hi k43
  obtain ⟨k0, e0, hk0⟩ := hl.low i ((ndN l i).kids.getD 0 0) hi (getD_mem (by omega))
  obtain ⟨bj, e1, hbj⟩ := hl.low i ((ndN l i).kids.getD 1 0) hi (getD_mem (by omega))
  obtain ⟨r, hkk⟩ : ∃ r, (ndN l i).kids = (k0 : Int) :: (bj : Int) :: r := by
    rw [← e0, ← e1]
    match hks : (ndN l i).kids, h2 with
    | a :: b :: r, _ => exact ⟨r, rfl⟩
    | [_], h => simp at h
    | [], h => simp at h
  have hv : visF l (f + 1) i s = blockP (fun s => allP (visF l f) (ndN l bj).kids (declP l i s)) (visF l f k0 s) := by
    conv => lhs; unfold visF
    rw [if_neg (by rw [k43]; decide), if_neg (by rw [k43]; decide), if_pos k43, e0, e1]
    rfl
  have hc : cntF l (f + 1) i = cntF l f k0 + (1 + cntL l f (ndN l bj).kids) := by
    conv => lhs; unfold cntF
    rw [if_neg (by rw [k43]; decide), if_pos k43, e0, e1]
    show 1 + (cntF l f k0 + cntL l f (ndN l bj).kids) = _
    omega
  rw [hv]
  rw [hc] at hpw
  have a := vis_part hl f k0 s (by omega) (hab.less (by omega)) (hpw.less (by omega))
  have hp1 := hpw.next a
  have d := decl_part hp1.block hi
  have hp2 := hp1.block.next d
  have hab1 : ∀ j, j < i → About (visF l f k0 s) j := fun j hj => (hab.less (Nat.le_of_lt hj)).of a.cnt.gat
  have hab2 : ∀ j, j < i → About (declP l i { visF l f k0 s with dcl := [], blocks := (visF l f k0 s).blocks + 1 }) j := fun j hj => (hab1 j hj).of d.cnt.gat
  have b : Part l _ (allP (visF l f) (ndN l bj).kids (declP l i { visF l f k0 s with dcl := [], blocks := (visF l f k0 s).blocks + 1 })) (cntL l f (ndN l bj).kids) := all_part hl.lt (fun i s => vis_part hl f i s) _ _ (fun k hk => ⟨by have := hl.kid hk; omega, hab2 _ (by have := hl.kid hk; omega)⟩) hp2
  have m := d.trans b
  have hpn := hp1.block.next (n' := 0) m
  have hbl : (visF l f k0 s).blocks = s.blocks := by obtain ⟨n, e, _⟩ := a.ok.2; exact e.blocks
  have hbm : (allP (visF l f) (ndN l bj).kids (declP l i { visF l f k0 s with dcl := [], blocks := (visF l f k0 s).blocks + 1 })).blocks = (visF l f k0 s).blocks + 1 := by obtain ⟨n, e, _⟩ := m.ok.2; exact e.blocks
  have hbd : (declP l i { visF l f k0 s with dcl := [], blocks := (visF l f k0 s).blocks + 1 }).blocks = (visF l f k0 s).blocks + 1 := by obtain ⟨n, e, _⟩ := d.ok.2; exact e.blocks
  refine visit_43 i h hi k43 _ fun W2 hh2 => ?_
  refine receive_any hh2 i k0 bj r hi hkk (fun W3 h3 => (IH k0 hk0 W3 G W3 s G h3 (hab.less (by omega)) (hpw.less (by omega)) (by omega) (tk_all hl31 _)).mono fun e W' ⟨x, G', y, _⟩ => ⟨x, G', y⟩) ?_
  intro W3 W4 G1 c ic kb kg ko kn kcap h4 lc li lk cc ci ck hkn hkB ck1
  have hw1 : G1.wb = G.wb := h4.fr.wb
  rw [← hw1]
  refine (block_r h4 (by rw [hbl]; omega) _ (fun s => allP (visF l f) (ndN l bj).kids (declP l i s)) (fun W5 h5 f5 => ?_) m.ok.1 (Nat.lt_of_le_of_lt (Nat.le_add_right _ 0) hpn.bud) hbm (Nat.lt_of_le_of_lt hpn.dcl (Nat.lt_of_le_of_lt (Nat.le_add_right _ 0) hpn.bud))).mono fun e W' ⟨x, G', y, _⟩ => ⟨x, G', y⟩
  have fr := h4.fr.trans f5
  have hwe : (entG G1).wb = G.wb := h4.fr.wb
  have K1 := Kc.fr ⟨lc, cc⟩ fr
  have K2 := Kc.fr ⟨li, ci⟩ fr
  have K3 := Kc.fr ⟨lk, ck⟩ fr
  have ck5 : W5.cell? ⟨kg, ko + 1, none⟩ = some (.int .i64 bj) := by rw [fr.bel.cell (p := ⟨kg, ko + 1, none⟩) hkB]; exact ck1
  rw [← hwe] at K1
  refine (clo_r h5 c ic kb i bj kg ko kn kcap K1.1 K3.1 K1.2 K2.2 K3.2 hkn hkB ck5 (by omega) (declare_any i h5 hp1.block.wf hi (by have := hp1.block.bud; omega) (by simp)) ?_).mono fun e W' ⟨x, G', y⟩ => ⟨x, G', y, y.fr.wb⟩
  intro W6 G6 ka kc h6 hks
  have hw6 : G6.wb = (entG G1).wb := h6.fr.wb
  rw [← hw6]
  exact kids_any hl (Nat.le_of_lt hbj) IH (by omega) ka kc h6 hks (fun k hk => hab2 k (by omega)) hp2 (by rw [hbd, hbl]; omega) (tk_all hl31 _)
end Go.Proofs.YtjjbgbadkbomlaaDoor
namespace Go.Proofs.YtjjbgbadkbomlaaDoor
open Go.RowKit Go.Maps
set_option linter.unusedVariables false
set_option linter.unusedSimpArgs false

/-- visit of a prog -/
theorem visit_prog {B nb no nc : Nat} {l : List Nd} (hl : LOk l) (hl31 : l.length ≤ 2147483647) (f i : Nat) (hi : i < l.length) (IH : ∀ k, k < i → VisC B nb no nc l f k) (k20 : kdN l i = 20) {W0 W : World} {s : SSt} {G0 G : WG} (h : ST B nb no nc l W0 G0 W s G) (hab : About s i) (hpw : PW l s (cntF l (f + 1) i)) (hbk : s.blocks + 2 * (f + 1) < 1099511627776) :
    Calls Tryd.prog 19 #[.pointer (some ⟨G.wb, 0, none⟩), .int .i64 i] W fun e W' => e = .returned (.tuple #[]) ∧ ∃ G', ST B nb no nc l W0 G0 W' (visF l (f + 1) i s) G' := by
  have h1 := hl.prog i hi k20
  obtain ⟨bj, e1, hbj⟩ := hl.low i ((ndN l i).kids.getLastD 0) hi (last_mem h1)
  obtain ⟨hd, hhd⟩ : ∃ hd, (ndN l i).kids.dropLast = hd := ⟨_, rfl⟩
  have hkk : (ndN l i).kids = hd ++ [(bj : Int)] := by
    have := drop_last h1
    rw [hhd, e1] at this
    exact this
  have hmem : ∀ k, k ∈ hd → k ∈ (ndN l i).kids := fun k hk => by rw [hkk]; simp [hk]
  obtain ⟨ins2, hi2⟩ : ∃ ins2 : SSt → SSt, (fun s => allP (visF l f) (ndN l bj).kids (allP (visF l f) hd s)) = ins2 := ⟨_, rfl⟩
  obtain ⟨ins1, hi1⟩ : ∃ ins1 : SSt → SSt, (fun s => blockP ins2 (declP l i s)) = ins1 := ⟨_, rfl⟩
  have hv : visF l (f + 1) i s = capP i (blockP ins1) s := by
    conv => lhs; unfold visF
    rw [if_neg (by rw [k20]; decide), if_pos k20, e1, hhd, ← hi1, ← hi2]
    rfl
  have hc : cntF l (f + 1) i = 1 + (cntL l f hd + cntL l f (ndN l bj).kids) := by
    conv => lhs; unfold cntF
    rw [if_pos k20, e1, hhd]
    rfl
  rw [hv]
  rw [hc] at hpw
  obtain ⟨p1, p2⟩ := hpw.push hi hab
  obtain ⟨s0, hs0⟩ : ∃ s0, { s with gat := s.gat ++ [(i, [])] } = s0 := ⟨_, rfl⟩
  have b0 : s0.blocks = s.blocks := by rw [← hs0]
  have g0 : s0.gat.length = s.gat.length + 1 := by rw [← hs0]; simp
  rw [hs0] at p1 p2
  have d := decl_part p1.block hi
  have q := p1.block.next d
  have ab : ∀ j, j < i → About (declP l i { s0 with dcl := [], blocks := s0.blocks + 1 }) j := fun j hj => (show About { s0 with dcl := [], blocks := s0.blocks + 1 } j from p2 j hj).of d.cnt.gat
  obtain ⟨s2, hs2⟩ : ∃ s2, declP l i { s0 with dcl := [], blocks := s0.blocks + 1 } = s2 := ⟨_, rfl⟩
  have b2 : s2.blocks = s0.blocks + 1 := by obtain ⟨n, e, _⟩ := d.ok.2; rw [← hs2]; exact e.blocks
  rw [hs2] at d q ab
  have q1 := q.block
  obtain ⟨s3, hs3⟩ : ∃ s3, { s2 with dcl := [], blocks := s2.blocks + 1 } = s3 := ⟨_, rfl⟩
  have b3 : s3.blocks = s2.blocks + 1 := by rw [← hs3]
  have ab3 : ∀ j, j < i → About s3 j := fun j hj => by rw [← hs3]; exact ab j hj
  rw [hs3] at q1
  have hhk : ∀ k, k ∈ hd → k.toNat < i := fun k hk => hl.kid (hmem k hk)
  have r : Part l s3 (allP (visF l f) hd s3) (cntL l f hd) := all_part hl.lt (fun i s => vis_part hl f i s) hd s3 (fun k hk => ⟨by have := hhk k hk; omega, ab3 _ (hhk k hk)⟩) (q1.less (Nat.le_add_right _ _))
  have q2 := q1.next r
  have ab4 : ∀ j, j < i → About (allP (visF l f) hd s3) j := fun j hj => (ab3 j hj).of r.cnt.gat
  have b4 : (allP (visF l f) hd s3).blocks = s3.blocks := by obtain ⟨n, e, _⟩ := r.ok.2; exact e.blocks
  have r2 : Part l (allP (visF l f) hd s3) (allP (visF l f) (ndN l bj).kids (allP (visF l f) hd s3)) (cntL l f (ndN l bj).kids) := all_part hl.lt (fun i s => vis_part hl f i s) _ _ (fun k hk => ⟨by have := hl.kid hk; omega, ab4 _ (by have := hl.kid hk; omega)⟩) q2
  have e2 : ins2 s3 = allP (visF l f) (ndN l bj).kids (allP (visF l f) hd s3) := by rw [← hi2]
  have inn := r.trans r2
  rw [← e2] at inn
  have bi : (ins2 s3).blocks = s2.blocks + 1 := by obtain ⟨n, e, _⟩ := inn.ok.2; rw [e.blocks, b3]
  have qi := q1.next (n' := 0) inn
  have bp2 : Part l s2 (blockP ins2 s2) (cntL l f hd + cntL l f (ndN l bj).kids) := block_part q (by rw [hs3]; exact inn)
  have mid := d.trans bp2
  have e1' : ins1 { s0 with dcl := [], blocks := s0.blocks + 1 } = blockP ins2 s2 := by rw [← hi1, ← hs2]
  rw [← e1'] at mid
  have bm : (ins1 { s0 with dcl := [], blocks := s0.blocks + 1 }).blocks = s0.blocks + 1 := by obtain ⟨n, e, _⟩ := mid.ok.2; exact e.blocks
  have qm := p1.block.next (n' := 0) mid
  have key : Part l s0 (blockP ins1 s0) (1 + (cntL l f hd + cntL l f (ndN l bj).kids)) := block_part p1 mid
  have qk := p1.next (n' := 0) key
  have gk : (blockP ins1 s0).gat.length = s.gat.length + 1 := by obtain ⟨n, e, _⟩ := key.ok.2; rw [e.len, g0]
  refine visit_20 i h hi k20 _ fun W2 hh2 => ?_
  refine prog_any hh2 i bj hd hi hkk ?_
  intro W3 c ic hb bb kg ko kcap h3 lc li lh lb cc ci ch cb hiv
  refine capturing_any h3 i (by have := gat_few hpw.wf hpw.ap; omega) _ (blockP ins1) (fun W4 G4 h4 f4 hw4 => ?_) (by rw [hs0]; exact key.ok.1) (by rw [hs0]; exact gk) (by rw [hs0]; have := qk.tk s.gat.length; omega)
  rw [hs0] at h4 ⊢
  have K1 : Kc W4 G4 c (.pointer (some ⟨G.wb, 0, none⟩)) := (show Kc W4 (gnG G4 G.gn) c (.pointer (some ⟨G.wb, 0, none⟩)) from Kc.fr (G := G) ⟨lc, cc⟩ f4)
  have K2 : Kc W4 G4 ic (.int .i64 i) := (show Kc W4 (gnG G4 G.gn) ic (.int .i64 i) from Kc.fr (G := G) ⟨li, ci⟩ f4)
  have K3 : Kc W4 G4 hb (.slice (some ⟨kg, ko, none⟩) hd.length kcap) := (show Kc W4 (gnG G4 G.gn) hb (.slice (some ⟨kg, ko, none⟩) hd.length kcap) from Kc.fr (G := G) ⟨lh, ch⟩ f4)
  have K4 : Kc W4 G4 bb (.int .i64 bj) := (show Kc W4 (gnG G4 G.gn) bb (.int .i64 bj) from Kc.fr (G := G) ⟨lb, cb⟩ f4)
  have hiv4 := hiv.below f4.bel
  rw [← hw4] at K1
  refine clo_1 (P := fun W' => ∃ G2, ST B nb no nc l W4 G4 W' (blockP ins1 s0) G2) G4.wb c ic hb bb K1.2 ?_
  refine (block_p h4 (by omega) _ ins1 (fun W5 h5 f5 => ?_) mid.ok.1 (Nat.lt_of_le_of_lt (Nat.le_add_right _ 0) qm.bud) bm (Nat.lt_of_le_of_lt qm.dcl (Nat.lt_of_le_of_lt (Nat.le_add_right _ 0) qm.bud))).mono fun e W' ⟨x, G', y, _⟩ => ⟨x, G', y⟩
  have L1 := K1.fr f5
  have L2 := K2.fr f5
  have L3 := K3.fr f5
  have L4 := K4.fr f5
  have hiv5 := hiv4.below f5.bel
  have HD := declare_any i h5 p1.block.wf hi (Nat.lt_of_le_of_lt (Nat.le_add_right _ _) p1.block.bud) (show 0 < 4294967296 by omega)
  rw [hs2] at HD
  rw [e1']
  refine (clo_p c ic hb bb i L1.1 L1.2 L2.2 HD (fun W6 G6 h6 => ?_)).mono fun e W' ⟨x, G', y⟩ => ⟨x, G', y, y.fr.wb⟩
  have hw6 : G6.wb = (entG G4).wb := h6.fr.wb
  rw [← hw6]
  refine (block_q h6 (by omega) _ ins2 (fun W7 h7 f7 => ?_) (by rw [hs3]; exact inn.ok.1) (by rw [hs3]; exact Nat.lt_of_le_of_lt (Nat.le_add_right _ 0) qi.bud) (by rw [hs3]; exact bi) (by rw [hs3]; exact Nat.lt_of_le_of_lt qi.dcl (Nat.lt_of_le_of_lt (Nat.le_add_right _ 0) qi.bud))).mono fun e W' ⟨x, G', y, _⟩ => ⟨x, G', y⟩
  rw [hs3] at h7 ⊢
  have M1 := (L1.fr h6.fr).fr f7
  have M3 := (L3.fr h6.fr).fr f7
  have M4 := (L4.fr h6.fr).fr f7
  have hiv7 := (hiv5.below h6.fr.bel).below f7.bel
  have hw7 : (entG G6).wb = G4.wb := h6.fr.wb
  rw [← hw7] at M1
  rw [e2]
  refine (clo_q (s1 := allP (visF l f) hd s3) h7 c hb bb bj (some ⟨kg, ko, none⟩) hd.length kcap M1.1 M4.1 M1.2 M3.2 M4.2 (by omega) ?_ (fun W8 G8 ka kc h8 hks => ?_)).mono fun e W' ⟨x, G', y⟩ => ⟨x, G', y, y.fr.wb⟩
  · refine (visitAll_any hl f hd (some ⟨kg, ko, none⟩) kcap h7 hiv7 (fun k hk => ?_) (q1.less (Nat.le_add_right _ _)) (by omega) (tk_all hl31 _)).mono fun e W' ⟨x, G', y, _⟩ => ⟨x, G', y⟩
    obtain ⟨j, e, hj⟩ := hl.low i k hi (hmem k hk)
    exact ⟨j, e, by omega, ab3 j hj, IH j hj⟩
  · have hw8 : G8.wb = (entG G6).wb := h8.fr.wb
    rw [← hw8]
    exact kids_any hl (Nat.le_of_lt hbj) IH (by omega) ka kc h8 hks (fun k hk => ab4 k (by omega)) q2 (by omega) (tk_all hl31 _)
/-- visit -/
theorem visit_all {B nb no nc : Nat} {l : List Nd} (hl : LOk l) (hl31 : l.length ≤ 2147483647) : ∀ (f i : Nat), i < l.length → i < f → VisC B nb no nc l f i
  | 0, i, _, h => by omega
  | f + 1, i, hi, hf => by
    intro W0 G0 W s G h hab hpw hbk hT
    have IH : ∀ k, k < i → VisC B nb no nc l f k := fun k hk => visit_all hl hl31 f k (by omega) (by omega)
    suffices hsuf : Calls Tryd.prog 19 #[.pointer (some ⟨G.wb, 0, none⟩), .int .i64 i] W fun e W' => e = .returned (.tuple #[]) ∧ ∃ G', ST B nb no nc l W0 G0 W' (visF l (f + 1) i s) G' from
      hsuf.mono fun e W' ⟨a, G', b⟩ => ⟨a, G', b, h.wbs b⟩
    by_cases n20 : kdN l i = 20
    · exact visit_prog hl hl31 f i hi IH n20 h hab hpw hbk
    by_cases n43 : kdN l i = 43
    · exact visit_recv hl hl31 f i hi IH n43 h hab hpw hbk
    have habk : ∀ k : Nat, k < i → About s k := fun k hk => hab.less (by omega)
    have hcnt : cntF l (f + 1) i = 1 + cntL l f (ndN l i).kids := by unfold cntF; rw [if_neg n20, if_neg n43]; rfl
    rw [hcnt] at hpw
    have hpk : PW l s (cntL l f (ndN l i).kids) := hpw.less (by omega)
    unfold visF
    by_cases k13 : kdN l i = 13
    · rw [if_pos k13]
      exact visit_13 i h hi k13 fun W2 h2 => name_any i h2 (hpw.less (by omega)) hi (fun m => hT W2 G m)
    rw [if_neg k13, if_neg n20, if_neg n43]
    have hkids : ∀ W2 ka kc, ST B nb no nc l W2 G W2 s G → IntsV W2 B (.slice ka (ndN l i).kids.length kc) (ndN l i).kids → Calls Tryd.prog 29 #[.pointer (some ⟨G.wb, 0, none⟩), .slice ka (ndN l i).kids.length kc] W2 fun e W' => e = .returned (.tuple #[]) ∧ ∃ G', ST B nb no nc l W2 G W' (allP (visF l f) (ndN l i).kids s) G' :=
      fun W2 ka kc h2 hks => kids_any hl (Nat.le_refl _) IH hi ka kc h2 hks habk hpk (by omega) hT
    have hpart : Part l s (allP (visF l f) (ndN l i).kids s) (cntL l f (ndN l i).kids) := all_part hl.lt (fun i s => vis_part hl f i s) _ s (fun k hk => ⟨by have := hl.kid hk; omega, hab.less (by have := hl.kid hk; omega)⟩) hpk
    by_cases kb : kdN l i = 41 ∨ kdN l i = 46
    · rw [if_pos kb]
      have hins : Part l { s with dcl := [], blocks := s.blocks + 1 } (allP (visF l f) (ndN l i).kids { s with dcl := [], blocks := s.blocks + 1 }) (cntL l f (ndN l i).kids) := all_part hl.lt (fun i s => vis_part hl f i s) _ _ (fun k hk => ⟨by have := hl.kid hk; omega, hab.less (by have := hl.kid hk; omega)⟩) hpk.block
      have hpn := hpk.block.next (n' := 0) hins
      have hin2 := hins.ok.2
      have hblk : (allP (visF l f) (ndN l i).kids { s with dcl := [], blocks := s.blocks + 1 }).blocks = s.blocks + 1 := by obtain ⟨n, e, _⟩ := hin2; exact e.blocks
      have key : ∀ W2 c n ka kc, ST B nb no nc l W2 G W2 s G → IntsV W2 B (.slice ka (ndN l i).kids.length kc) (ndN l i).kids → G.lab c = .out → G.lab n = .out → W2.cell? ⟨c, 0, none⟩ = some (.pointer (some ⟨G.wb, 0, none⟩)) → W2.cell? ⟨n, 2, none⟩ = some (.slice ka (ndN l i).kids.length kc) →
          Calls Tryd.prog 27 #[.pointer (some ⟨G.wb, 0, none⟩), .func (.func 28) #[] #[.pointer (some ⟨c, 0, none⟩), .pointer (some ⟨n, 0, none⟩)]] W2 fun e W' => e = .returned (.tuple #[]) ∧ ∃ G', ST B nb no nc l W2 G W' (blockP (allP (visF l f) (ndN l i).kids) s) G' := by
        intro W2 c n ka kc h2 hks hc hn cc cn
        refine (block_v h2 (by omega) _ (allP (visF l f) (ndN l i).kids) (fun W3 h3 f3 => ?_) hins.ok.1 (by have := hpn.bud; omega) hblk (by have := hpn.dcl; have := hpn.bud; omega)).mono fun e W' ⟨a, G', b, _⟩ => ⟨a, G', b⟩
        have := kids_any hl (Nat.le_refl _) IH hi ka kc h3 (hks.below f3.bel) (fun k hk => habk k hk) hpk.block (show (s.blocks + 1) + 2 * f < _ by omega) hT
        refine (clo_v W3 G.wb c n _ (f3.cell hc cc) (f3.cell hn cn) ⟨_, _, _, rfl⟩ this).mono fun e W' ⟨a, G', b⟩ => ⟨a, G', b, b.fr.wb⟩
      rcases kb with kb | kb
      · exact visit_41 i h hi kb _ key
      · exact visit_46 i h hi kb _ key
    rw [if_neg kb]
    by_cases kd : kdN l i = 31 ∨ kdN l i = 32 ∨ kdN l i = 42
    · rw [if_pos kd]
      have hpn := (hpw.less (n' := cntL l f (ndN l i).kids + 1) (by omega)).next hpart
      have hdecl : ∀ W2 W3 G3, ST B nb no nc l W2 G W3 (allP (visF l f) (ndN l i).kids s) G3 → Calls Tryd.prog 30 #[.pointer (some ⟨G.wb, 0, none⟩), .int .i64 i] W3 fun e W' => e = .returned (.tuple #[]) ∧ ∃ G', ST B nb no nc l W2 G W' (declP l i (allP (visF l f) (ndN l i).kids s)) G' := by
        intro W2 W3 G3 h3
        have hw : G3.wb = G.wb := h3.fr.wb
        have := declare_any i h3 hpn.wf hi (by have := hpn.bud; omega) (by have := hpn.bud; have := hpn.dcl; omega)
        rw [hw] at this
        exact this
      rcases kd with kd | kd | kd
      · exact visit_31 i h hi kd _ _ hkids hdecl
      · exact visit_32 i h hi kd _ _ hkids hdecl
      · exact visit_42 i h hi kd _ _ hkids hdecl
    rw [if_neg kd]
    by_cases n33 : kdN l i = 33
    · rw [if_pos n33]
      obtain ⟨z, hz⟩ : ∃ z, placeP l (l.length + 1) ((ndN l i).kids.getD 0 0).toNat = z := ⟨_, rfl⟩
      have st : Part l s { s with set := z } 0 := ⟨step_agree hpk.wf rfl rfl rfl rfl rfl rfl rfl, Cnt.same hpk.dcl rfl rfl rfl rfl⟩
      have hpz : PW l { s with set := z } (cntL l f (ndN l i).kids) := (hpk.less (n' := 0 + cntL l f (ndN l i).kids) (by omega)).next st
      rw [hz]
      refine visit_33 i h hi n33 hl _ fun W2 ka kc h2 hks => ?_
      rw [hz] at h2
      exact kids_any hl (Nat.le_refl _) IH hi ka kc h2 hks (fun k hk => habk k hk) hpz (show s.blocks + 2 * f < _ by omega) (tk_all hl31 _)
    rw [if_neg n33]
    exact visit_other i h hi ⟨k13, n20, n43, fun e => kb (.inl e), fun e => kb (.inr e), fun e => kd (.inl e), fun e => kd (.inr (.inl e)), fun e => kd (.inr (.inr e)), n33⟩ _ hkids
end Go.Proofs.YtjjbgbadkbomlaaDoor
