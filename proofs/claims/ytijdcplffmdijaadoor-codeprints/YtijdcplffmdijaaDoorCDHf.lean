import Derived.Test.YtijdcplffmdijaaDoorCDHe
import Derived.Test.YtijdcplffmdijaaDoorCDEe
namespace Go.Proofs.YtijdcplffmdijaaDoor
open Go.RowKit
set_option linter.unusedVariables false
set_option linter.unusedSimpArgs false

theorem OwnL.below {α : Type} {R : World → α → List Value → Prop} {w w' : World} {B s : Nat} {e : TypeId} {v : Value} {l : List α} (h : OwnL R w B e s v l) (hb : Below w.heap.size w w') (hR : ∀ a c, R w a c → R w' a c) : OwnL R w' B e s v l := h.on hR (Kp.of (P := fun _ _ => True) hb) fun _ _ => trivial
theorem Lent.below {w W W' : World} {u : CUn} {pg tg pcap tcap : Nat} {cv iv : Value} (h : Lent w W u pg tg pcap tcap cv iv) (hb : Below W.heap.size W W') : Lent w W' u pg tg pcap tcap cv iv := by
  have hk : Kp (fun _ _ => True) W W' := Kp.of hb
  obtain ⟨c1, h1⟩ := h.pgs
  obtain ⟨c2, h2⟩ := h.cds
  exact ⟨h.bel.trans (hb.mono h.bel.size), h.un.below hb hb.size, h.tys.below hb (TyC.on hk fun _ => trivial), ⟨c1, h1.below hb (PgC.on hk (fun _ => trivial) fun _ _ => trivial)⟩, ⟨c2, h2.below hb (SlC.on hk (fun _ => trivial) fun _ _ => trivial)⟩, h.its.below hb (SlI.on hk fun _ => trivial)⟩
/-- an entry of the codes; of the lists, in memory -/
def SlAt (w : World) (B cut b o : Nat) (l : List CIn) : Prop := ∃ v, w.cell? ⟨b, o, none⟩ = some v ∧ OwnL InC w B 28 4 v (l ++ [noIn]) ∧ ∀ g, v.ownBlock = some g → g < cut
def IlAt (w : World) (B b o : Nat) (ks : List Int) : Prop := ∃ g cap, w.cell? ⟨b, o, none⟩ = some (.slice (some ⟨g, 0, none⟩) (ks.length + 2) cap) ∧ IK w (some ⟨g, 0, none⟩) cap (ks ++ [-77, -78]) ∧ B ≤ g ∧ IlK w g
theorem slAt_of {w : World} {B cut : Nat} (b o : Nat) (l : List CIn) (c : List Value) (h : SlC B cut w l c) (hc : ∀ i, i < 1 → w.cell? ⟨b, o + i, none⟩ = c[i]?) : SlAt w B cut b o l := by
  obtain ⟨v, rfl, h1, h2⟩ := h
  exact ⟨v, hc 0 (by omega), h1, h2⟩
theorem ilAt_of {w : World} {B : Nat} (b o : Nat) (l : List Int) (c : List Value) (h : SlI B w l c) (hc : ∀ i, i < 1 → w.cell? ⟨b, o + i, none⟩ = c[i]?) : IlAt w B b o l := by
  obtain ⟨g, cap, rfl, h1⟩ := h
  exact ⟨g, cap, hc 0 (by omega), h1⟩
theorem slC_len {w : World} {B cut : Nat} (l : List CIn) (c : List Value) (h : SlC B cut w l c) : c.length = 1 := by
  obtain ⟨v, rfl, _⟩ := h
  rfl
theorem slI_len {w : World} {B : Nat} (l : List Int) (c : List Value) (h : SlI B w l c) : c.length = 1 := by
  obtain ⟨g, cap, rfl, _⟩ := h
  rfl
theorem lists_len {u : CUn} (hs : unS u ≤ 2147483647) (k : Nat) (h : k < (lists u).length) : ((lists u)[k]).length ≤ 2147483647 := by
  have hm : (lists u)[k] ∈ lists u := List.getElem_mem h
  generalize (lists u)[k] = l at hm ⊢
  unfold lists at hm
  unfold unS at hs
  have mem_le : ∀ {α : Type} (f : α → Nat) (l : List α) (x : α), x ∈ l → f x ≤ sumF f l := by
    intro α f l
    induction l with
    | nil => intro x hx; cases hx
    | cons y r ih =>
      intro x hx
      rw [sumF]
      rcases List.mem_cons.1 hx with rfl | hx
      · omega
      · have := ih x hx
        omega
  rcases List.mem_append.1 hm with hm | hm
  · obtain ⟨t, ht, rfl⟩ := List.mem_map.1 hm
    have h1 := mem_le tS u.types t ht
    have h2 : tS t = 40 + 21 * t.kids.length := rfl
    omega
  · obtain ⟨p, hp, hl⟩ := List.mem_flatMap.1 hm
    obtain ⟨i, hi, rfl⟩ := List.mem_map.1 hl
    have h1 := mem_le pS u.progs p hp
    have h2 : pS p = 100 + sumF iS p.code := rfl
    have h3 := mem_le iS p.code i hi
    have h4 : iS i = 60 + 21 * i.list.length := rfl
    omega
set_option maxRecDepth 100000 in
set_option maxHeartbeats 8000000 in
theorem still_any (w W : World) (u : CUn) (pg tg pcap tcap : Nat) (cv iv : Value) (hl : Lent w W u pg tg pcap tcap cv iv) (pa ta : Option Addr) (pc tc : Nat) (hu : UnIn W W.heap.size pa pc ta tc u) (hs : unS u ≤ 2147483647) :
    Calls Tryd.prog 24 #[.agg #[.slice (some ⟨pg, 0, none⟩) u.progs.length pcap, .slice (some ⟨tg, 0, none⟩) u.types.length tcap, .slice (some ⟨pg, 0, none⟩) (u.progs.length + 1) pcap, .slice (some ⟨tg, 0, none⟩) (u.types.length + 1) tcap, cv, iv], unV u pa pc ta tc] W fun e w' => e = .returned (.bool true) ∧ Below W.heap.size W w' := by
  have hsz := szU_unS u
  have hst := szU_types u
  have hsp := szU_progs u
  obtain ⟨cut, hcds⟩ := hl.cds
  obtain ⟨ac, cc2, hcv, hcr0⟩ := hcds.row slC_len (slAt_of (w := W))
  obtain ⟨ai, ci, hiv, hir0⟩ := hl.its.row slI_len (ilAt_of (w := W))
  obtain ⟨mi, hmi⟩ : ∃ m, (lists u).length = m := ⟨_, rfl⟩
  obtain ⟨np, hnp⟩ : ∃ n, u.progs.length = n := ⟨_, rfl⟩
  obtain ⟨nt, hnt⟩ : ∃ n, u.types.length = n := ⟨_, rfl⟩
  have hmc : (u.progs.map (·.code)).length = np := by rw [List.length_map]; exact hnp
  rw [hmc] at hcv
  rw [hmi] at hiv
  subst hcv hiv
  obtain ⟨H, hH⟩ : ∃ H, W.heap.size = H := ⟨_, rfl⟩
  obtain ⟨X1, hX1⟩ : ∃ X, W.alloc (.cells #[.slice (some ⟨pg, 0, none⟩) np pcap, .slice (some ⟨tg, 0, none⟩) nt tcap, .slice (some ⟨pg, 0, none⟩) (np + 1) pcap, .slice (some ⟨tg, 0, none⟩) (nt + 1) tcap, .slice ac np cc2, .slice ai mi ci] 41) = X := ⟨_, rfl⟩
  have b1 : Below H W X1 := by rw [← hX1, ← hH]; exact below1 W _
  have s1 : X1.heap.size = H + 1 := by rw [← hX1, ← hH]; simp
  have i1 : X1.heap[H]? = some (.cells #[.slice (some ⟨pg, 0, none⟩) np pcap, .slice (some ⟨tg, 0, none⟩) nt tcap, .slice (some ⟨pg, 0, none⟩) (np + 1) pcap, .slice (some ⟨tg, 0, none⟩) (nt + 1) tcap, .slice ac np cc2, .slice ai mi ci] 41 (0, 0)) := by rw [← hX1]; exact heap_newH W _ H hH
  obtain ⟨X2, hX2⟩ : ∃ X, X1.alloc (.cells #[.slice pa np pc, .slice ta nt tc] 36) = X := ⟨_, rfl⟩
  have b2 : Below (H + 1) X1 X2 := by rw [← hX2, ← s1]; exact below1 X1 _
  have s2 : X2.heap.size = H + 2 := by rw [← hX2]; simp; omega
  have i2 : X2.heap[H + 1]? = some (.cells #[.slice pa np pc, .slice ta nt tc] 36 (0, 0)) := by rw [← hX2]; exact heap_newH X1 _ _ s1
  have HF : Bx (∀ Y, Below (H + 2) X2 Y → Y.heap[H]? = some (.cells #[.slice (some ⟨pg, 0, none⟩) np pcap, .slice (some ⟨tg, 0, none⟩) nt tcap, .slice (some ⟨pg, 0, none⟩) (np + 1) pcap, .slice (some ⟨tg, 0, none⟩) (nt + 1) tcap, .slice ac np cc2, .slice ai mi ci] 41 (0, 0)) ∧ Y.heap[H + 1]? = some (.cells #[.slice pa np pc, .slice ta nt tc] 36 (0, 0)) ∧ Below H W Y ∧ Lent w Y u pg tg pcap tcap (.slice ac np cc2) (.slice ai mi ci) ∧ UnIn Y Y.heap.size pa pc ta tc u ∧ H + 2 ≤ Y.heap.size) := ⟨fun Y hY => by
    have bw : Below H W Y := (b1.trans (b2.mono (by omega))).trans (hY.mono (by omega))
    have bw' : Below W.heap.size W Y := by rw [hH]; exact bw
    exact ⟨by rw [hY.block H (by omega), b2.block H (by omega)]; exact i1, by rw [hY.block (H + 1) (by omega)]; exact i2, bw, hl.below bw', hu.below bw' bw.size, by have := hY.size; omega⟩⟩
  have HS6 : Bx (∀ Y, Below (H + 2) X2 Y → (Y.cell? ⟨H, 3, none⟩ = some (.slice (some ⟨tg, 0, none⟩) (nt + 1) tcap) ∧ Y.cell? ⟨H, 2, none⟩ = some (.slice (some ⟨pg, 0, none⟩) (np + 1) pcap) ∧ Y.cell? ⟨H + 1, 0, none⟩ = some (.slice pa np pc) ∧ Y.cell? ⟨H + 1, 1, none⟩ = some (.slice ta nt tc) ∧ Y.cell? ⟨tg, nt * 3, none⟩ = some (.int .i64 (-9)) ∧ Y.cell? ⟨pg, np * 5, none⟩ = some (.int .i64 (-9)))) := ⟨fun Y hY => by
    obtain ⟨e1, e2, _, l1, _⟩ := HF.out Y hY
    obtain ⟨a, c, e, hr⟩ := l1.tys.row tyC_len (tyAt_of (w := Y))
    obtain ⟨c0, l2⟩ := l1.pgs
    obtain ⟨a', c', e', hr'⟩ := l2.row pgC_len (pgAt_of (w := Y))
    injection e with ea _ ec
    injection e' with ea' _ ec'
    subst ea ec ea' ec'
    obtain ⟨b, o, eb, _, hj⟩ := hr.at_ (by simp)
    injection eb with eb
    injection eb with eb1 eb2
    subst eb1 eb2
    obtain ⟨b', o', eb', _, hj'⟩ := hr'.at_ (by simp)
    injection eb' with eb'
    injection eb' with eb1' eb2'
    subst eb1' eb2'
    obtain ⟨_, _, k0, _⟩ := (hj nt (by simp; omega)).ex
    obtain ⟨_, _, k0', _⟩ := (hj' np (by simp; omega)).ex
    rw [Nat.zero_add] at k0 k0'
    refine ⟨cell_blk e1 rfl, cell_blk e1 rfl, cell_blk e2 rfl, cell_blk e2 rfl, ?_, ?_⟩
    · rw [k0]
      congr 1
      rw [List.getElem_append_right (by omega)]
      simp [noTy, hnt]
    · rw [k0']
      congr 1
      rw [List.getElem_append_right (by omega)]
      simp [noPg, hnp]⟩
  have HTY : Bx (∀ Y, Below (H + 2) X2 Y → Calls Tryd.prog 46 #[.slice (some ⟨tg, 0, none⟩) nt tcap, .slice ta nt tc] Y fun e w' => e = .returned (.bool true) ∧ Bx (Below (H + 2) X2 w')) := ⟨fun Y hY => by
    obtain ⟨_, _, _, l1, l2, l3⟩ := HF.out Y hY
    exact (sameTypes_yes Y u.types hnt _ _ _ _ l1.un.types l2.types).mono fun e w' h => ⟨h.1, ⟨hY.trans (h.2.mono l3)⟩⟩⟩
  have HPG : Bx (∀ Y, Below (H + 2) X2 Y → Calls Tryd.prog 47 #[.slice (some ⟨pg, 0, none⟩) np pcap, .slice pa np pc] Y fun e w' => e = .returned (.bool true) ∧ Bx (Below (H + 2) X2 w')) := ⟨fun Y hY => by
    obtain ⟨_, _, _, l1, l2, l3⟩ := HF.out Y hY
    exact (sameProgs_yes Y u.progs hnp _ _ _ _ l1.un.progs l2.progs).mono fun e w' h => ⟨h.1, ⟨hY.trans (h.2.mono l3)⟩⟩⟩
  have cp1 : nt + 1 ≤ tcap := by rw [← hnt]; exact own_cap hl.tys
  have cp2 : np + 1 ≤ pcap := by obtain ⟨_, h⟩ := hl.pgs; rw [← hnp]; exact own_cap h
  have hntb : nt ≤ 2147483647 := by omega
  have hnpb : np ≤ 2147483647 := by omega
  have g1 : (0 : Int) ≤ (nt : Int) := by omega
  have g2 : (nt : Int) < (nt : Int) + 1 := by omega
  have g3 : (np : Int) < (np : Int) + 1 := by omega
  have g4 : nt ≤ tcap := by omega
  have g5 : np ≤ pcap := by omega
  have g6 : nt < nt + 1 := by omega
  have g7 : np < np + 1 := by omega
  obtain ⟨s0, s1', s2', s3', s4', s5'⟩ := HS6.out X2 (Below.refl _ _)
  have hHX : H + 1 < X2.heap.size := by omega
  have HUS : Bx _ := ⟨hs⟩
  have HNP : Bx _ := ⟨hnp⟩
  have HMI : Bx _ := ⟨hmi⟩
  have hmib : mi ≤ 2147483647 := by
    have h1 := flat_cnt u.progs
    have h2 : (lists u).length = u.types.length + (u.progs.flatMap fun p => p.code.map (·.list)).length := by unfold lists; rw [List.length_append, List.length_map]
    unfold szU at hsz
    omega
  have HML : Bx (∀ k (h : k < (lists u).length), ((lists u)[k]).length ≤ 2147483647) := ⟨fun k h => lists_len hs k h⟩
  show Calls Tryd.prog 24 #[.agg #[.slice (some ⟨pg, 0, none⟩) u.progs.length pcap, .slice (some ⟨tg, 0, none⟩) u.types.length tcap, .slice (some ⟨pg, 0, none⟩) (u.progs.length + 1) pcap, .slice (some ⟨tg, 0, none⟩) (u.types.length + 1) tcap, .slice ac np cc2, .slice ai mi ci], .agg #[.slice pa u.progs.length pc, .slice ta u.types.length tc]] W _
  rw [hnp, hnt, hH]
  clear hl hu hs b1 b2 i1 i2 hcds hcr0 hir0 hsz hst hsp hmc hmi
  go_enter Tryd.func24, Tryd.ntmps24
  go_wp2
  clear hX1 hX2
  try simp only [List.append_eq, List.cons_append, List.nil_append]
  go_region_held3 (fun w' => (w'.cell? ⟨H, 3, none⟩ = some (.slice (some ⟨tg, 0, none⟩) (nt + 1) tcap) ∧ w'.cell? ⟨H, 2, none⟩ = some (.slice (some ⟨pg, 0, none⟩) (np + 1) pcap) ∧ w'.cell? ⟨H + 1, 0, none⟩ = some (.slice pa np pc) ∧ w'.cell? ⟨H + 1, 1, none⟩ = some (.slice ta nt tc) ∧ w'.cell? ⟨tg, nt * 3, none⟩ = some (.int .i64 (-9)) ∧ w'.cell? ⟨pg, np * 5, none⟩ = some (.int .i64 (-9))))
    (first | exact ⟨s0, s1', s2', s3', s4', s5'⟩ | exact SA.out | exact SB.out | go_keep)
    (first
      | (go_at_call 46; refine (HTY.out _ (Below.refl _ _).drew).mono ?_; rintro e w5 ⟨rfl, H5⟩; have SA : Bx _ := ⟨HS6.out w5 H5.out⟩)
      | (go_at_call 47; refine (HPG.out _ H5.out).mono ?_; rintro e w6 ⟨rfl, H6⟩; have SB : Bx _ := ⟨HS6.out w6 H6.out⟩))
  clear SA SB s0 s1' s2' s3' s4' s5' H5 HTY HPG
  go_wp2
  go_loopw [5] (fun x wr => ∃ i : Nat, i ≤ np ∧ x = .int .i64 i ∧ Bx (Below (H + 2) X2 wr)) (fun x _ => np - (intOf x).toNat)
  case atStart => exact ⟨0, Nat.zero_le _, rfl, H6⟩
  case round =>
    obtain ⟨i, hi, rfl, HR⟩ := hrel
    clear H6
    obtain ⟨e1, e2, bW, l1, l2, l3⟩ := HF.out wr HR.out
    have y4 : wr.cell? ⟨H, 4, none⟩ = some (.slice ac np cc2) := cell_blk e1 rfl
    have y5 : wr.cell? ⟨H, 5, none⟩ = some (.slice ai mi ci) := cell_blk e1 rfl
    have y0 : wr.cell? ⟨H + 1, 0, none⟩ = some (.slice pa np pc) := cell_blk e2 rfl
    have yH : H + 1 < wr.heap.size := by omega
    by_cases hlt : i < np
    · have hi' : i < u.progs.length := by have := HNP.out; omega
      obtain ⟨cut', l4⟩ := l1.cds
      obtain ⟨a', c', hcv, hcr⟩ := l4.row slC_len (slAt_of (w := wr))
      injection hcv with hcv1 hcv2 hcv3
      clear hcv2
      subst hcv1 hcv3
      obtain ⟨gc, oc, rfl, hgc, hcj⟩ := hcr.at_ (by rw [List.length_map]; omega)
      obtain ⟨vc, hvc, hov, _⟩ := hcj i (by rw [List.length_map]; omega)
      rw [List.getElem_map] at hov
      obtain ⟨b, o, rfl, hb, hpj⟩ := l2.progs.at_ (by omega)
      obtain ⟨ca, cc, _, _, _, _, p4, p5⟩ := (hpj i hi').ex
      have hcl : u.progs[i].code.length ≤ 2147483647 := by
        have h1 := sumF_take pS u.progs i hi'
        have h2 := sumF_len iS (fun t => by unfold iS; omega) u.progs[i].code
        have h3 : pS u.progs[i] = 100 + sumF iS u.progs[i].code := rfl
        have := HUS.out
        unfold unS at this
        omega
      generalize u.progs[i] = p at *
      obtain ⟨n, hn⟩ : ∃ n, p.code.length = n := ⟨_, rfl⟩
      rw [hn] at p4 hcl
      obtain ⟨av, cgv, hv, hvr⟩ := hov.row inC_len (inAt_of (w := wr))
      subst hv
      have hvr' := (hov.pre inC_len (by simp)).row inC_len (inAt_of (w := wr))
      obtain ⟨a2, c2, hv2, hvr2⟩ := hvr'
      injection hv2 with hv21 hv22 hv23
      clear hv22
      subst hv21 hv23
      obtain ⟨g, og, hav, hg, hgj⟩ := hvr.at_ (by simp)
      subst hav
      have hog : og = 0 := by
        obtain ⟨cs, _, q⟩ := hov.ex
        rcases q.2 with ⟨q, _⟩ | ⟨g', c', cur, q, _⟩
        · cases q
        · injection q with q _ _
          injection q with q
          injection q with _ q _
      subst hog
      have hlen1 : (p.code ++ [noIn]).length = n + 1 := by simp; omega
      rw [hlen1] at hvc
      obtain ⟨_, _, k0, _⟩ := (hgj n (by omega)).ex
      have hk0 : wr.cell? ⟨g, n * 4, none⟩ = some (.int .i64 (-9)) := by
        rw [Nat.zero_add] at k0
        rw [k0]
        congr 1
        rw [List.getElem_append_right (by omega)]
        simp [noIn, hn]
      have hcap1 : n + 1 ≤ cgv := by have := hvr.cap; omega
      have hvc' : wr.cell? ⟨gc, oc + i, none⟩ = some (.slice (some ⟨g, 0, none⟩) (n + 1) cgv) := by
        have := hvc
        rw [Nat.mul_one] at this
        exact this
      have HSC : Bx (Calls Tryd.prog 48 #[.slice (some ⟨g, 0, none⟩) n cgv, .slice ca n cc] wr.drew fun e w' => e = .returned (.bool true) ∧ Bx (Below wr.heap.size wr w')) := ⟨(sameCode_yes wr.drew p.code hn _ _ _ _ (hvr2.mono fun b o x hx he => InAt.below he ((Below.refl _ _).drew) (Nat.le_refl _) hx) (p5.mono fun b o x hx he => InAt.below he ((Below.refl _ _).drew) (Nat.le_refl _) hx)).mono fun e w' h => ⟨h.1, ⟨⟨h.2.os, h.2.tape, h.2.output, h.2.size, h.2.block⟩⟩⟩⟩
      have cg := cgv
      have HS7 : Bx (∀ Y, Below wr.heap.size wr Y → (Y.cell? ⟨H, 4, none⟩ = some (.slice (some ⟨gc, oc, none⟩) np cc2) ∧ Y.cell? ⟨H + 1, 0, none⟩ = some (.slice (some ⟨b, o, none⟩) np pc) ∧ Y.cell? ⟨gc, oc + i, none⟩ = some (.slice (some ⟨g, 0, none⟩) (n + 1) cgv) ∧ Y.cell? ⟨b, o + i * 5 + 4, none⟩ = some (.slice ca n cc) ∧ Y.cell? ⟨g, n * 4, none⟩ = some (.int .i64 (-9)))) := ⟨fun Y hY => ⟨by rw [hY.cell (p := ⟨H, 4, none⟩) (show H < wr.heap.size by omega)]; exact y4, by rw [hY.cell (p := ⟨H + 1, 0, none⟩) (show H + 1 < wr.heap.size by omega)]; exact y0, by rw [hY.cell (p := ⟨gc, oc + i, none⟩) hgc]; exact hvc', by rw [hY.cell (p := ⟨b, o + i * 5 + 4, none⟩) hb]; exact p4, by rw [hY.cell (p := ⟨g, n * 4, none⟩) hg]; exact hk0⟩⟩
      have HNX : Bx (∀ Y, Below wr.heap.size wr Y → Below (H + 2) X2 Y) := ⟨fun Y hY => HR.out.trans (hY.mono l3)⟩
      have q1 : (i : Int) < (np : Int) := by omega
      have f1 : (n : Int) < (n : Int) + 1 := by omega
      have f2 : (0 : Int) ≤ (n : Int) := by omega
      have f3 : n ≤ cgv := by omega
      have hcpc := hcr.cap
      have hcpp := l2.progs.cap
      rw [List.length_map] at hcpc
      have f4 : i < cc2 := by omega
      have f5 : i < pc := by omega
      clear e1 e2 bW l1 l2 l4 hcr hcj hvc hov hpj p5 hvr hvr2 hgj k0 HR cg
      go_wp2
      go_region_held3 (fun w' => (w'.cell? ⟨H, 4, none⟩ = some (.slice (some ⟨gc, oc, none⟩) np cc2) ∧ w'.cell? ⟨H + 1, 0, none⟩ = some (.slice (some ⟨b, o, none⟩) np pc) ∧ w'.cell? ⟨gc, oc + i, none⟩ = some (.slice (some ⟨g, 0, none⟩) (n + 1) cgv) ∧ w'.cell? ⟨b, o + i * 5 + 4, none⟩ = some (.slice ca n cc) ∧ w'.cell? ⟨g, n * 4, none⟩ = some (.int .i64 (-9))))
        (first | exact ⟨y4, y0, hvc', p4, hk0⟩ | exact SA.out | go_keep)
        (first
          | (go_at_call 48; refine HSC.out.mono ?_; rintro e w5 ⟨rfl, H5⟩; have SA : Bx _ := ⟨HS7.out w5 H5.out⟩))
      have HR2 : Bx _ := ⟨HNX.out _ H5.out⟩
      clear SA H5 HSC HS7 HNX
      go_wp2
      go_roundw
      case rel => exact ⟨i + 1, by omega, by go_num, HR2⟩
      case measure => simp [intOf]; omega
    · have q1 : ¬ (i : Int) < (np : Int) := by omega
      have H7 : Bx _ := ⟨HR.out⟩
      clear e1 e2 bW l1 l2 l3 HR
      go_wp2
      clear y4 y5 y0 yH
      go_loopw [7] (fun x wr => ∃ k : Nat, k ≤ mi ∧ x = .int .i64 k ∧ Bx (Below (H + 2) X2 wr)) (fun x _ => mi - (intOf x).toNat)
      case atStart => exact ⟨0, Nat.zero_le _, rfl, H7⟩
      case round =>
        obtain ⟨k, hk, rfl, HR⟩ := hrel
        clear H7
        obtain ⟨e1, e2, bW, l1, l2, l3⟩ := HF.out wr HR.out
        have y5 : wr.cell? ⟨H, 5, none⟩ = some (.slice ai mi ci) := cell_blk e1 rfl
        have yH : H + 1 < wr.heap.size := by omega
        by_cases hlk : k < mi
        · have hk' : k < (lists u).length := by have := HMI.out; omega
          obtain ⟨a', c', hcv, hcr⟩ := l1.its.row slI_len (ilAt_of (w := wr))
          injection hcv with hcv1 hcv2 hcv3
          clear hcv2
          subst hcv1 hcv3
          obtain ⟨gi, oi, rfl, hgi, hij⟩ := hcr.at_ (by omega)
          obtain ⟨g, cg, hc, hik, _⟩ := hij k hk'
          have hcpc := hcr.cap
          have hmb := hik.max
          have hcb := hik.cap
          obtain ⟨b, o, C, fz, hbo, hbk, hcs⟩ := hik.at_ (by simp)
          injection hbo with hbo
          injection hbo with hb1 hb2
          subst hb1 hb2
          rw [List.length_append] at hmb hcb
          obtain ⟨m, hm⟩ : ∃ m, ((lists u)[k]).length = m := ⟨_, rfl⟩
          have c1 : wr.cell? ⟨g, m, none⟩ = some (.int .i64 (-77)) := by
            have := hcs m (by simp; omega)
            rw [Nat.zero_add] at this
            rw [this]
            congr 1
            rw [List.getElem_append_right (by omega)]
            simp [hm]
          have c2 : wr.cell? ⟨g, m + 1, none⟩ = some (.int .i64 (-78)) := by
            have := hcs (m + 1) (by simp; omega)
            rw [Nat.zero_add] at this
            rw [this]
            congr 1
            rw [List.getElem_append_right (by omega)]
            simp [hm]
          rw [hm] at hc hmb hcb
          simp only [List.length_cons, List.length_nil] at hmb hcb
          rw [Nat.mul_one] at hc
          have hmbb : m ≤ 4611686018427387904 := by
            have := HML.out k hk'
            omega
          have hgl : g < wr.heap.size := World.block_lt_of_cell? wr _ c1
          have q2 : (k : Int) < (mi : Int) := by omega
          have f1 : (m : Int) + 2 - 2 = (m : Int) := by omega
          have f2 : (m : Int) < (m : Int) + 2 := by omega
          have f3 : (m : Int) + 1 < (m : Int) + 2 := by omega
          have f4 : (0 : Int) ≤ (m : Int) := by omega
          have f5 : k < ci := by omega
          have f6 : m < m + 2 := by omega
          have f7 : m + 1 < m + 2 := by omega
          have f8 : m + 2 ≤ cg := by omega
          have f9 : (0 : Int) ≤ (m : Int) + 1 := by omega
          have HR2 : Bx _ := ⟨HR.out⟩
          clear e1 e2 bW l1 l2 l3 HR hcr hij hik hbk hcs hmb hcb hcpc
          go_wp2
          go_roundw
          case rel => exact ⟨k + 1, by omega, by go_num, HR2⟩
          case measure => simp [intOf]; omega
        · have q2 : ¬ (k : Int) < (mi : Int) := by omega
          have HE : Bx _ := ⟨bW⟩
          clear e1 e2 bW l1 l2 l3 HR
          go_wp2
          go_ret
          exact ⟨rfl, HE.out⟩
end Go.Proofs.YtijdcplffmdijaaDoor
