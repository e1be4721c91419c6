import Derived.Test.YtijdcplffmdijaaDoorCDKs
import Derived.Test.YtijdcplffmdijaaDoorCDIf
namespace Go.Proofs.YtijdcplffmdijaaDoor
open Go.RowKit
set_option linter.unusedVariables false
set_option linter.unusedSimpArgs false

theorem il_of {w : World} {N B s : Nat} {a a' : Option Addr} {cap cap' : Nat} {l ks : List Int} (h : IN N w a cap l) (hi : IntsV w s a' cap' ks) (ha : a' = none ∨ ∃ b o o', a = some ⟨b, o, none⟩ ∧ a' = some ⟨b, o', none⟩) (hB : B ≤ N) : IL B w a' cap' ks := by
  have key : 0 < ks.length → ∃ b o cur, a' = some ⟨b, o, none⟩ ∧ N ≤ b ∧ w.heap[b]? = some (.cells cur 3 (0, 0)) ∧ ∀ i (h : i < ks.length), w.cell? ⟨b, o + i, none⟩ = some (.int .i64 ks[i]) := fun h0 => by
    obtain ⟨b, o, e, _, hc⟩ := hi.at_ h0
    rcases ha with h1 | ⟨b1, o1, o2, h1, h2⟩
    · rw [h1] at e; cases e
    · rcases h.2 with ⟨hv, _⟩ | ⟨g, c, cur, hv, q1, q2, _⟩
      · injection hv with hv
        rw [h1] at hv; cases hv
      · injection hv with hv
        rw [h1] at hv
        injection hv with hv
        injection hv with hv
        rw [e] at h2
        injection h2 with h2
        injection h2 with h2 h3
        subst h2 hv
        exact ⟨b, o, cur, e, q1, q2, hc⟩
  refine ⟨⟨hi.cap, hi.max, fun h0 => ?_⟩, fun h0 => ?_⟩
  · obtain ⟨b, o, cur, e, _, h2, h3⟩ := key h0
    exact ⟨b, o, cur, _, e, h2, h3⟩
  · obtain ⟨b, o, cur, e, h1, _⟩ := key h0
    exact ⟨b, o, e, by omega⟩
/-- what the last region finds, and leaves -/
structure InMemR (w X : World) (B ub cut ib g q n cap : Nat) (pv v : Value) (i : CIn) (ka : Option Addr) (kc : Nat) (ics : List (List Value)) (u' : CUn) : Prop where
  lc : cut ≤ X.heap.size
  cu : X.cell? ⟨ub, 0, none⟩ = some pv
  cv : X.cell? ⟨g, q * 5 + 4, none⟩ = some v
  cv2 : ((X.alloc (.cells #[.int .i64 i.op, .int .i64 i.a, .int .i64 i.b, .slice ka i.list.length kc] 28)).drew).cell? ⟨g, q * 5 + 4, none⟩ = some v
  si : (X.cell? ⟨ib, 0, none⟩ = some (.int .i64 i.op) ∧ X.cell? ⟨ib, 1, none⟩ = some (.int .i64 i.a) ∧ X.cell? ⟨ib, 2, none⟩ = some (.int .i64 i.b) ∧ X.cell? ⟨ib, 3, none⟩ = some (.slice ka i.list.length kc))
  sa : (((X.alloc (.cells #[.int .i64 i.op, .int .i64 i.a, .int .i64 i.b, .slice ka i.list.length kc] 28)).drew).cell? ⟨ib, 0, none⟩ = some (.int .i64 i.op) ∧ ((X.alloc (.cells #[.int .i64 i.op, .int .i64 i.a, .int .i64 i.b, .slice ka i.list.length kc] 28)).drew).cell? ⟨ib, 1, none⟩ = some (.int .i64 i.a) ∧ ((X.alloc (.cells #[.int .i64 i.op, .int .i64 i.a, .int .i64 i.b, .slice ka i.list.length kc] 28)).drew).cell? ⟨ib, 2, none⟩ = some (.int .i64 i.b) ∧ ((X.alloc (.cells #[.int .i64 i.op, .int .i64 i.a, .int .i64 i.b, .slice ka i.list.length kc] 28)).drew).cell? ⟨ib, 3, none⟩ = some (.slice ka i.list.length kc))
  lu : ub < X.heap.size
  lg : g < X.heap.size
  li : ib < X.heap.size
  how : ((X.alloc (.cells #[.int .i64 i.op, .int .i64 i.a, .int .i64 i.b, .slice ka i.list.length kc] 28)).drew).ownsRow cut 28 4 v n ics.flatten
  end_ : ∀ w8, ((X.alloc (.cells #[.int .i64 i.op, .int .i64 i.a, .int .i64 i.b, .slice ka i.list.length kc] 28)).drew).grownBy w8 v.ownBlock → (w8.cell? ⟨ib, 0, none⟩ = some (.int .i64 i.op) ∧ w8.cell? ⟨ib, 1, none⟩ = some (.int .i64 i.a) ∧ w8.cell? ⟨ib, 2, none⟩ = some (.int .i64 i.b) ∧ w8.cell? ⟨ib, 3, none⟩ = some (.slice ka i.list.length kc)) ∧ (Below B w w8 ∧ w8.frozen? ⟨g, q * 5 + 4, none⟩ = false ∧ w8.cell? ⟨g, q * 5 + 4, none⟩ = some v ∧ g < w8.heap.size) ∧
    ∀ gg cg, w8.ownsRow cut 28 4 (.slice (some ⟨gg, 0, none⟩) (n + 1) cg) (n + 1) (ics.flatten ++ inCells i (.slice ka i.list.length kc)) → UR (w8.setCell ⟨g, q * 5 + 4, none⟩ (.slice (some ⟨gg, 0, none⟩) (n + 1) cg)) B ub u'
theorem inMemR_of {w X : World} {B ub cut ib g cap : Nat} {qs : List CPg} {p : CPg} {ts : List CTy} {pv tv v : Value} {cs ics : List (List Value)} {cur : Array Value} (h1 : w.heap[ub]? = some (.cells #[pv, tv] 36 (0, 0))) (h2 : OwnL (TyG (IL B)) w B 54 3 tv ts) (h3 : w.ownsRow B 57 5 pv (qs ++ [p]).length (cs ++ [pgCells p v]).flatten) (h4 : B ≤ cut) (h5 : cut ≤ w.heap.size) (h6 : All2 (PgG (IL B) (fun _ _ => True) B cut w) qs cs) (h7 : All2 (InG (IL B) w) p.code ics) (h8 : w.ownsRow cut 28 4 v p.code.length ics.flatten)
    (hpv : pv = .slice (some ⟨g, 0, none⟩) (qs.length + 1) cap) (hg : w.heap[g]? = some (.cells cur 57 (0, 0))) (hcur : cur[qs.length * 5 + 4]? = some v) (hBg : B ≤ g)
    (hb : Below w.heap.size w X) {i : CIn} {ka : Option Addr} {kc : Nat} (hk : IL B X ka kc i.list) (hib : X.heap[ib]? = some (.cells #[.int .i64 i.op, .int .i64 i.a, .int .i64 i.b, .slice ka i.list.length kc] 28 (0, 0))) (hiw : w.heap.size ≤ ib) :
    InMemR w X B ub cut ib g qs.length p.code.length cap pv v i ka kc ics ⟨qs ++ [{ p with code := p.code ++ [i] }], ts⟩ := by
  have hs := hb.size
  have hgl : g < w.heap.size := (Array.getElem?_eq_some_iff.1 hg).1
  have hul : ub < w.heap.size := (Array.getElem?_eq_some_iff.1 h1).1
  have hil : ib < X.heap.size := (Array.getElem?_eq_some_iff.1 hib).1
  have hbA : Below X.heap.size X ((X.alloc (.cells #[.int .i64 i.op, .int .i64 i.a, .int .i64 i.b, .slice ka i.list.length kc] 28)).drew) := (below1 X _).drew
  have hbW : Below w.heap.size w ((X.alloc (.cells #[.int .i64 i.op, .int .i64 i.a, .int .i64 i.b, .slice ka i.list.length kc] 28)).drew) := hb.trans (hbA.mono hs)
  have oA : ((X.alloc (.cells #[.int .i64 i.op, .int .i64 i.a, .int .i64 i.b, .slice ka i.list.length kc] 28)).drew).ownsRow cut 28 4 v p.code.length ics.flatten := owns_on h8 (Kp.of (P := fun _ _ => True) hbW) fun _ _ => trivial
  have xg := below_heap hb hg
  have ag := below_heap hbW hg
  have xi : ((X.alloc (.cells #[.int .i64 i.op, .int .i64 i.a, .int .i64 i.b, .slice ka i.list.length kc] 28)).drew).heap[ib]? = some (.cells #[.int .i64 i.op, .int .i64 i.a, .int .i64 i.b, .slice ka i.list.length kc] 28 (0, 0)) := below_heap hbA hib
  refine ⟨by omega, cell_blk (below_heap hb h1) rfl, cell_blk xg hcur, cell_blk ag hcur, ⟨cell_blk hib rfl, cell_blk hib rfl, cell_blk hib rfl, cell_blk hib rfl⟩, ⟨cell_blk xi rfl, cell_blk xi rfl, cell_blk xi rfl, cell_blk xi rfl⟩, by omega, by omega, hil, oA, fun w8 hgr => ?_⟩
  have hvb : ∀ x, v.ownBlock = some x → cut ≤ x ∧ x < w.heap.size := fun x hx => owns_block h8 hx
  have i8 : w8.heap[ib]? = some (.cells #[.int .i64 i.op, .int .i64 i.a, .int .i64 i.b, .slice ka i.list.length kc] 28 (0, 0)) := by
    rw [hgr.block ib (by have := hbA.size; omega) (fun e => by have := hvb ib e.symm; omega)]
    exact xi
  have g8 : w8.heap[g]? = some (.cells cur 57 (0, 0)) := ((Kp.grown oA hgr).blk g _ _ _ ag (.inl (by decide))).trans ag
  refine ⟨⟨cell_blk i8 rfl, cell_blk i8 rfl, cell_blk i8 rfl, cell_blk i8 rfl⟩, ⟨(hbW.mono (by omega)).grown hgr (by have := hbA.size; omega) (fun x hx => by have := hvb x hx; omega), by simp [World.frozen?, g8], cell_blk g8 hcur, (Array.getElem?_eq_some_iff.1 g8).1⟩, fun gg cg hown => ?_⟩
  exact UG.addI (ok_IL B) (fun _ _ _ h => h) h1 h2 h3 h4 h5 h6 h7 h8 hbW ((ok_IL B).on hk (KI.of hbA)) hown hgr hpv
set_option maxRecDepth 100000 in
set_option maxHeartbeats 8000000 in
theorem radds_iA (w : World) (B ub : Nat) (qs : List CPg) (p : CPg) (ts : List CTy) (hu : UR w B ub ⟨qs ++ [p], ts⟩) (word : List UInt8) (l : List Int) (hx1 : (word == [116, 121, 112, 101]) = false) (hx3 : (word == [112, 114, 111, 103]) = false) (i : CIn) (hins : insOf (opI word) l = some i) (hBu : B ≤ ub) (hq : qs.length ≤ 1099511627776) (hp : p.code.length ≤ 1099511627776) (hl : l.length ≤ 1099511627776) (line : List UInt8)
    (HS : Calls Tryd.prog 67 #[strV line] w fun e w' => ∃ a cap, e = .returned (.tuple #[strV word, .slice a l.length cap, .bool true]) ∧ Bx (IN w.heap.size w' a cap l ∧ Below w.heap.size w w')) :
    Calls Tryd.prog 51 #[.pointer (some ⟨ub, 0, none⟩), strV line] w fun e w' => e = .returned (.bool true) ∧ Bx (Below B w w' ∧ UR w' B ub ⟨qs ++ [{ p with code := p.code ++ [i] }], ts⟩) := by
  obtain ⟨j0, ji, jz0, jz1, jz2⟩ := info_parts infoIn
  obtain ⟨pv, tv, pcs, cut, u1, u2, u3, u4, u5, u6⟩ := hu.ex
  simp only [] at u2 u3 u6
  rcases u6 with ⟨h, _⟩ | ⟨qs', p', cs, v, he, rfl, u7, u8⟩
  · simp at h
  obtain ⟨he1, he2⟩ := List.append_inj' he rfl
  simp only [List.cons.injEq, and_true] at he2
  subst he1 he2
  obtain ⟨ics, u9, u10⟩ := u8.ex
  have hlf : cs.flatten.length = qs.length * 5 := by rw [flat_len (u7.all pgG_len), u7.len]
  obtain ⟨g, pcap, cur, hpv, hBg, hg, hpc, hcur⟩ := last_code hlf u3
  have HM : Bx (∀ X ib ka kc, Below w.heap.size w X → IL B X ka kc i.list → X.heap[ib]? = some (.cells #[.int .i64 i.op, .int .i64 i.a, .int .i64 i.b, .slice ka i.list.length kc] 28 (0, 0)) → w.heap.size ≤ ib → InMemR w X B ub cut ib g qs.length p.code.length pcap pv v i ka kc ics ⟨qs ++ [{ p with code := p.code ++ [i] }], ts⟩) := ⟨fun X ib ka kc hb hk hib hiw => inMemR_of u1 u2 u3 u4 u5 u7 u9 u10 hpv hg hcur hBg hb hk hib hiw⟩
  have hub : ub < w.heap.size := (Array.getElem?_eq_some_iff.1 u1).1
  have hgl : g < w.heap.size := (Array.getElem?_eq_some_iff.1 hg).1
  have HI : Bx (∀ w1 a cap, IN w.heap.size w1 a cap l ∧ Below w.heap.size w w1 → Calls Tryd.prog 68 #[strV word, .slice a l.length cap] w1 fun e w2 => ∃ ka kc, e = .returned (.tuple #[.agg #[.int .i64 i.op, .int .i64 i.a, .int .i64 i.b, .slice ka i.list.length kc], .bool true]) ∧ Bx (IL B w2 ka kc i.list ∧ Below w.heap.size w w2)) := ⟨fun w1 a cap h => by
    have := rinstr_any w1 word a cap l h.1.ik.ints (by omega)
    refine Calls.mono this ?_
    intro e w2 hx
    unfold riPost at hx
    rw [hins] at hx
    obtain ⟨a', cap', rfl, hy⟩ := hx
    exact ⟨a', cap', rfl, ⟨(ok_IL B).on (il_of h.1 hy.out.1.1 hy.out.1.2 (by omega)) (KI.of hy.out.2), h.2.trans (hy.out.2.mono h.2.size)⟩⟩⟩
  subst hpv
  
  
  clear hu u1 u2 u3 u4 u5 u7 u8 u9 u10 hins hlf hg hcur hl 
  generalize { progs := qs ++ [{ p with code := p.code ++ [i] }], types := ts : CUn } = U' at *
  
  generalize p.code.length = n at *
  generalize qs.length = q at *
  generalize l.length = kn at *
  obtain ⟨N, hN⟩ : ∃ N, N = q + 1 := ⟨_, rfl⟩
  rw [← hN] at HM hpc
  have n0 : ¬ (N : Int) = 0 := by omega
  have n0' : ((N : Int) == 0) = false := by simp; omega
  have n1 : IntKind.i64.wrap ((N : Int) - 1) = (q : Int) := by rw [show (N : Int) - 1 = (q : Int) by omega]; simp [IntKind.wrap, IntKind.bits, IntKind.signed]; omega
  have n2 : (0 : Int) ≤ (q : Int) := by omega
  have n3 : (q : Int) < (N : Int) := by omega
  have n4 : q < N := by omega
  have n5 : (N : Int) - 1 = (q : Int) := by omega
  have hq1 : q < pcap := by omega
  clear hN
  go_enter Tryd.func51, Tryd.ntmps51
  go_wp2_with (first
    | (go_at_call 67; refine HS.mono ?_; clear HS; rintro e w1 ⟨a, cap, rfl, H1⟩)
    | (go_at_call 68; refine (HI.out _ _ _ H1.out).mono ?_; clear HI; rintro e w2 ⟨ka, kc, rfl, HX⟩
       obtain ⟨X0, hX0⟩ : ∃ X, X = w2.alloc (.cells #[.int .i64 i.op, .int .i64 i.a, .int .i64 i.b, .slice ka i.list.length kc] 28) := ⟨_, rfl⟩
       have bX : Below w2.heap.size w2 X0 := (by rw [hX0]; exact below1 w2 _)
       have iX : X0.heap[w2.heap.size]? = some (.cells #[.int .i64 i.op, .int .i64 i.a, .int .i64 i.b, .slice ka i.list.length kc] 28 (0, 0)) := (by rw [hX0]; exact heap_new w2 _)
       have HM1 : Bx _ := ⟨HM.out X0 w2.heap.size ka kc (HX.out.2.trans (bX.mono HX.out.2.size)) ((ok_IL B).on HX.out.1 (KI.of bX)) iX HX.out.2.size⟩
       have hz : w.heap.size ≤ w2.heap.size := HX.out.2.size
       have hcu : (w2.alloc (.cells #[.int .i64 i.op, .int .i64 i.a, .int .i64 i.b, .slice ka i.list.length kc] 28)).cell? ⟨ub, 0, none⟩ = some (.slice (some ⟨g, 0, none⟩) N pcap) := (by rw [← hX0]; exact HM1.out.cu)
       have hlu : ub < w2.heap.size := (by omega)
       have hX1 : Bx _ := ⟨hX0⟩
       have HB0 : Bx _ := ⟨HX.out.2.trans (bX.mono HX.out.2.size)⟩
       have HK0 : Bx _ := ⟨(ok_IL B).on HX.out.1 (KI.of bX)⟩
       have HI0 : Bx _ := ⟨iX⟩
       clear bX iX))
  go_quiet (fail)
  rw [← hX1.out]
  have HM2 : Bx _ := ⟨HM.out (X0.drewN nq) w2.heap.size ka kc (below_drewN HB0.out nq) ((ok_IL B).on HK0.out ⟨by rw [drewN_heap]; exact Nat.le_refl _, fun b c fz _ => by rw [drewN_heap]⟩) (by rw [drewN_heap]; exact HI0.out) hz⟩
  generalize X0.drewN nq = X at HM2 ⊢
  have HM1 : Bx _ := ⟨HM2.out⟩
  clear HM2 hcu hX1 HK0 HI0 HB0 HM hX0
  have c1 : X.cell? ⟨g, q * 5 + 4, none⟩ = some v := HM1.out.cv
  have c2 := HM1.out.cv2
  have hHS := HM1.out.si
  have hSA := HM1.out.sa
  have hgX := HM1.out.lg
  have hiX := HM1.out.li
  obtain ⟨ib, hib⟩ : ∃ ib, ib = w2.heap.size := ⟨_, rfl⟩
  have hne : ib ≠ g := by omega
  have hBg' : B ≤ g := hBg
  rw [← hib] at HM1 hHS hSA hiX ⊢
  clear hib
  go_wp2
  refine wp_region_held_drew (S := (fun w' : World => (w'.cell? ⟨ib, 0, none⟩ = some (.int .i64 i.op) ∧ w'.cell? ⟨ib, 1, none⟩ = some (.int .i64 i.a) ∧ w'.cell? ⟨ib, 2, none⟩ = some (.int .i64 i.b) ∧ w'.cell? ⟨ib, 3, none⟩ = some (.slice ka i.list.length kc)))) (by kernel_rfl) hHS (fun hHeld => ?_)
  try simp only [List.size_toArray, List.length_cons, List.length_nil]
  refine wpAnyH_take (i := 0) (v := ?_) rfl (by decide +kernel) (by decide +kernel) (by decide +kernel) (fun _ _ _ h => h) (Or.inl ⟨by rfl, ?_⟩) (by assumption) ?_
  case refine_2 => intro w hSw; obtain ⟨s0, s1, s2, s3⟩ := hSw; go_simp; try rfl
  try simp only [Act.put, List.setIfInBounds_toArray, List.set_cons_zero, List.set_cons_succ]
  refine wpAnyH_take (i := 1) (v := ?_) rfl (by decide +kernel) (by decide +kernel) (by decide +kernel) (fun _ _ _ h => h) (Or.inl ⟨by rfl, ?_⟩) (by assumption) ?_
  case refine_2 => intro w hSw; obtain ⟨s0, s1, s2, s3⟩ := hSw; go_simp; try rfl
  try simp only [Act.put, List.setIfInBounds_toArray, List.set_cons_zero, List.set_cons_succ]
  refine wpAnyH_take (i := 2) (v := ?_) rfl (by decide +kernel) (by decide +kernel) (by decide +kernel) (fun _ _ _ h => h) (Or.inl ⟨by rfl, ?_⟩) (by assumption) ?_
  case refine_2 => intro w hSw; obtain ⟨s0, s1, s2, s3⟩ := hSw; go_simp; try rfl
  try simp only [Act.put, List.setIfInBounds_toArray, List.set_cons_zero, List.set_cons_succ]
  refine wpAnyH_take (i := 3) (v := ?_) rfl (by decide +kernel) (by decide +kernel) (by decide +kernel) (fun _ _ _ h => h) (Or.inl ⟨by rfl, ?_⟩) (by assumption) ?_
  case refine_2 => intro w hSw; obtain ⟨s0, s1, s2, s3⟩ := hSw; go_simp; try rfl
  try simp only [Act.put, List.setIfInBounds_toArray, List.set_cons_zero, List.set_cons_succ]
  refine wpAnyH_take (i := 5) (v := ?_) rfl (by decide +kernel) (by decide +kernel) (by decide +kernel) (fun _ _ _ h => h) (Or.inl ⟨by rfl, ?_⟩) (by assumption) ?_
  case refine_2 => intro w hSw; obtain ⟨s0, s1, s2, s3⟩ := hSw; go_simp; try rfl
  try simp only [Act.put, List.setIfInBounds_toArray, List.set_cons_zero, List.set_cons_succ]
  refine wpAnyH_ready (rs := [4, 6]) (by decide +kernel) (by simp) ?_
  refine AllReadyH.cons rfl (fun K hK => ?_) (AllReadyH.cons rfl (fun K hK => ?_) AllReadyH.nil)
  · go_simp
    refine hK.out _ _ hHeld (fun hHeld => ?_)
    clear hK K
    try simp only [Act.put, List.setIfInBounds_toArray, List.set_cons_zero, List.set_cons_succ]
    refine wpAnyH_ready (rs := [6]) (by decide +kernel) (by simp) ?_
    refine AllReadyH.cons rfl (fun K hK => ?_) AllReadyH.nil
    go_simp
    refine hK.out _ _ hSA (fun hHeld => ?_)
    clear hK K
    try simp only [Act.put, List.setIfInBounds_toArray, List.set_cons_zero, List.set_cons_succ]
    refine wpAnyH_ready (rs := [7]) (by decide +kernel) (by simp) ?_
    refine AllReadyH.cons rfl (fun K hK => ?_) AllReadyH.nil
    refine step_append_lies _ rfl (.tmp 139) (.tmp 141) 55 rfl cut 28 j0 (.agg #[.int .i64 0, .int .i64 0, .int .i64 0, .slice none 0 0]) 4 48 Tryd.underlying55 ji jz0 jz1 jz2 rfl (by decide) v n ics.flatten (by simp [Act.eval, Act.put]) HM1.out.how ⟨X.heap.size, 0, none⟩ 1 1 [.int .i64 i.op, .int .i64 i.a, .int .i64 i.b, .slice ka i.list.length kc] (by simp [Act.eval, Act.put]) rfl (in_news _ _ rfl _ _ _ _) (in_oneR _ _ _ _ _ _) (by decide) (by unfold maxLen; omega) (by omega) (by simp; have := HM1.out.lc; omega) (X.heap.size + 1) (by simp) ?_
    intro gg cg w8 hown hgrow hat hlt8
    have h8 := HM1.out.end_ w8 hgrow
    obtain ⟨e0, e1, e2, e3⟩ := h8.1
    obtain ⟨e6, e7, e4, hg8⟩ := h8.2.1
    have HFI : Bx _ := ⟨h8.2.2 gg cg hown⟩
    clear h8
    refine hK.out _ _ ⟨e0, e1, e2, e3⟩ (fun hHeld => ?_)
    clear hK K
    try simp only [Act.put, List.setIfInBounds_toArray, List.set_cons_zero, List.set_cons_succ]
    refine wpAnyH_take (i := 8) (v := ?_) rfl (by decide +kernel) (by decide +kernel) (by decide +kernel) (fun _ _ _ h => h) (Or.inl ⟨by rfl, ?_⟩) (by assumption) ?_
    case refine_2 => intro w hSw; obtain ⟨s0, s1, s2, s3⟩ := hSw; go_simp; try rfl
    try simp only [Act.put, List.setIfInBounds_toArray, List.set_cons_zero, List.set_cons_succ]
    refine wpAnyH_take (i := 9) (v := ?_) rfl (by decide +kernel) (by decide +kernel) (by decide +kernel) (fun _ _ _ h => h) (Or.inl ⟨by rfl, ?_⟩) (by assumption) ?_
    case refine_2 => intro w hSw; obtain ⟨s0, s1, s2, s3⟩ := hSw; go_simp; try rfl
    try simp only [Act.put, List.setIfInBounds_toArray, List.set_cons_zero, List.set_cons_succ]
    refine wpAnyH_ready (rs := [10]) (by decide +kernel) (by simp) ?_
    refine AllReadyH.cons rfl (fun K hK => ?_) AllReadyH.nil
    go_simp
    refine hK.out _ _ (farI hne e0 e1 e2 e3) (fun hHeld => ?_)
    clear hK K
    refine wpAnyH_done (by decide +kernel) ?_ _
    have HB8 : Bx _ := ⟨e6⟩
    clear e0 e1 e2 e3 e4 e6 e7 hown hgrow hat hHeld
    go_wp2
    go_ret
    exact ⟨rfl, ⟨HB8.out.setCell (p := ⟨g, q * 5 + 4, none⟩) hBg _, HFI.out⟩⟩
  · go_simp
    refine hK.out _ _ hSA (fun hHeld => ?_)
    clear hK K
    try simp only [Act.put, List.setIfInBounds_toArray, List.set_cons_zero, List.set_cons_succ]
    refine wpAnyH_ready (rs := [4]) (by decide +kernel) (by simp) ?_
    refine AllReadyH.cons rfl (fun K hK => ?_) AllReadyH.nil
    go_simp
    refine hK.out _ _ hHeld (fun hHeld => ?_)
    clear hK K
    try simp only [Act.put, List.setIfInBounds_toArray, List.set_cons_zero, List.set_cons_succ]
    refine wpAnyH_ready (rs := [7]) (by decide +kernel) (by simp) ?_
    refine AllReadyH.cons rfl (fun K hK => ?_) AllReadyH.nil
    refine step_append_lies _ rfl (.tmp 139) (.tmp 141) 55 rfl cut 28 j0 (.agg #[.int .i64 0, .int .i64 0, .int .i64 0, .slice none 0 0]) 4 48 Tryd.underlying55 ji jz0 jz1 jz2 rfl (by decide) v n ics.flatten (by simp [Act.eval, Act.put]) HM1.out.how ⟨X.heap.size, 0, none⟩ 1 1 [.int .i64 i.op, .int .i64 i.a, .int .i64 i.b, .slice ka i.list.length kc] (by simp [Act.eval, Act.put]) rfl (in_news _ _ rfl _ _ _ _) (in_oneR _ _ _ _ _ _) (by decide) (by unfold maxLen; omega) (by omega) (by simp; have := HM1.out.lc; omega) (X.heap.size + 1) (by simp) ?_
    intro gg cg w8 hown hgrow hat hlt8
    have h8 := HM1.out.end_ w8 hgrow
    obtain ⟨e0, e1, e2, e3⟩ := h8.1
    obtain ⟨e6, e7, e4, hg8⟩ := h8.2.1
    have HFI : Bx _ := ⟨h8.2.2 gg cg hown⟩
    clear h8
    refine hK.out _ _ ⟨e0, e1, e2, e3⟩ (fun hHeld => ?_)
    clear hK K
    try simp only [Act.put, List.setIfInBounds_toArray, List.set_cons_zero, List.set_cons_succ]
    refine wpAnyH_take (i := 8) (v := ?_) rfl (by decide +kernel) (by decide +kernel) (by decide +kernel) (fun _ _ _ h => h) (Or.inl ⟨by rfl, ?_⟩) (by assumption) ?_
    case refine_2 => intro w hSw; obtain ⟨s0, s1, s2, s3⟩ := hSw; go_simp; try rfl
    try simp only [Act.put, List.setIfInBounds_toArray, List.set_cons_zero, List.set_cons_succ]
    refine wpAnyH_take (i := 9) (v := ?_) rfl (by decide +kernel) (by decide +kernel) (by decide +kernel) (fun _ _ _ h => h) (Or.inl ⟨by rfl, ?_⟩) (by assumption) ?_
    case refine_2 => intro w hSw; obtain ⟨s0, s1, s2, s3⟩ := hSw; go_simp; try rfl
    try simp only [Act.put, List.setIfInBounds_toArray, List.set_cons_zero, List.set_cons_succ]
    refine wpAnyH_ready (rs := [10]) (by decide +kernel) (by simp) ?_
    refine AllReadyH.cons rfl (fun K hK => ?_) AllReadyH.nil
    go_simp
    refine hK.out _ _ (farI hne e0 e1 e2 e3) (fun hHeld => ?_)
    clear hK K
    refine wpAnyH_done (by decide +kernel) ?_ _
    have HB8 : Bx _ := ⟨e6⟩
    clear e0 e1 e2 e3 e4 e6 e7 hown hgrow hat hHeld
    go_wp2
    go_ret
    exact ⟨rfl, ⟨HB8.out.setCell (p := ⟨g, q * 5 + 4, none⟩) hBg _, HFI.out⟩⟩
set_option maxRecDepth 100000 in
set_option maxHeartbeats 8000000 in
theorem radds_iB (w : World) (B ub : Nat) (qs : List CPg) (p : CPg) (ts : List CTy) (hu : UR w B ub ⟨qs ++ [p], ts⟩) (l : List Int) (hl4 : ¬ l.length = 4) (i : CIn) (hins : insOf (opI progW) l = some i) (hBu : B ≤ ub) (hq : qs.length ≤ 1099511627776) (hp : p.code.length ≤ 1099511627776) (hl : l.length ≤ 1099511627776) (line : List UInt8)
    (HS : Calls Tryd.prog 67 #[strV line] w fun e w' => ∃ a cap, e = .returned (.tuple #[strV progW, .slice a l.length cap, .bool true]) ∧ Bx (IN w.heap.size w' a cap l ∧ Below w.heap.size w w')) :
    Calls Tryd.prog 51 #[.pointer (some ⟨ub, 0, none⟩), strV line] w fun e w' => e = .returned (.bool true) ∧ Bx (Below B w w' ∧ UR w' B ub ⟨qs ++ [{ p with code := p.code ++ [i] }], ts⟩) := by
  obtain ⟨j0, ji, jz0, jz1, jz2⟩ := info_parts infoIn
  obtain ⟨pv, tv, pcs, cut, u1, u2, u3, u4, u5, u6⟩ := hu.ex
  simp only [] at u2 u3 u6
  rcases u6 with ⟨h, _⟩ | ⟨qs', p', cs, v, he, rfl, u7, u8⟩
  · simp at h
  obtain ⟨he1, he2⟩ := List.append_inj' he rfl
  simp only [List.cons.injEq, and_true] at he2
  subst he1 he2
  obtain ⟨ics, u9, u10⟩ := u8.ex
  have hlf : cs.flatten.length = qs.length * 5 := by rw [flat_len (u7.all pgG_len), u7.len]
  obtain ⟨g, pcap, cur, hpv, hBg, hg, hpc, hcur⟩ := last_code hlf u3
  have HM : Bx (∀ X ib ka kc, Below w.heap.size w X → IL B X ka kc i.list → X.heap[ib]? = some (.cells #[.int .i64 i.op, .int .i64 i.a, .int .i64 i.b, .slice ka i.list.length kc] 28 (0, 0)) → w.heap.size ≤ ib → InMemR w X B ub cut ib g qs.length p.code.length pcap pv v i ka kc ics ⟨qs ++ [{ p with code := p.code ++ [i] }], ts⟩) := ⟨fun X ib ka kc hb hk hib hiw => inMemR_of u1 u2 u3 u4 u5 u7 u9 u10 hpv hg hcur hBg hb hk hib hiw⟩
  have hub : ub < w.heap.size := (Array.getElem?_eq_some_iff.1 u1).1
  have hgl : g < w.heap.size := (Array.getElem?_eq_some_iff.1 hg).1
  have HI : Bx (∀ w1 a cap, IN w.heap.size w1 a cap l ∧ Below w.heap.size w w1 → Calls Tryd.prog 68 #[strV progW, .slice a l.length cap] w1 fun e w2 => ∃ ka kc, e = .returned (.tuple #[.agg #[.int .i64 i.op, .int .i64 i.a, .int .i64 i.b, .slice ka i.list.length kc], .bool true]) ∧ Bx (IL B w2 ka kc i.list ∧ Below w.heap.size w w2)) := ⟨fun w1 a cap h => by
    have := rinstr_any w1 progW a cap l h.1.ik.ints (by omega)
    refine Calls.mono this ?_
    intro e w2 hx
    unfold riPost at hx
    rw [hins] at hx
    obtain ⟨a', cap', rfl, hy⟩ := hx
    exact ⟨a', cap', rfl, ⟨(ok_IL B).on (il_of h.1 hy.out.1.1 hy.out.1.2 (by omega)) (KI.of hy.out.2), h.2.trans (hy.out.2.mono h.2.size)⟩⟩⟩
  subst hpv
  have hl5 : ((l.length : Int) == 4) = false := by simp; omega
  have hl6 : ¬ (l.length : Int) = 4 := by omega
  clear hu u1 u2 u3 u4 u5 u7 u8 u9 u10 hins hlf hg hcur hl hl4
  generalize { progs := qs ++ [{ p with code := p.code ++ [i] }], types := ts : CUn } = U' at *
  unfold progW at HS HI
  generalize p.code.length = n at *
  generalize qs.length = q at *
  generalize l.length = kn at *
  obtain ⟨N, hN⟩ : ∃ N, N = q + 1 := ⟨_, rfl⟩
  rw [← hN] at HM hpc
  have n0 : ¬ (N : Int) = 0 := by omega
  have n0' : ((N : Int) == 0) = false := by simp; omega
  have n1 : IntKind.i64.wrap ((N : Int) - 1) = (q : Int) := by rw [show (N : Int) - 1 = (q : Int) by omega]; simp [IntKind.wrap, IntKind.bits, IntKind.signed]; omega
  have n2 : (0 : Int) ≤ (q : Int) := by omega
  have n3 : (q : Int) < (N : Int) := by omega
  have n4 : q < N := by omega
  have n5 : (N : Int) - 1 = (q : Int) := by omega
  have hq1 : q < pcap := by omega
  clear hN
  go_enter Tryd.func51, Tryd.ntmps51
  go_wp2_with (first
    | (go_at_call 67; refine HS.mono ?_; clear HS; rintro e w1 ⟨a, cap, rfl, H1⟩)
    | (go_at_call 68; refine (HI.out _ _ _ H1.out).mono ?_; clear HI; rintro e w2 ⟨ka, kc, rfl, HX⟩
       obtain ⟨X0, hX0⟩ : ∃ X, X = w2.alloc (.cells #[.int .i64 i.op, .int .i64 i.a, .int .i64 i.b, .slice ka i.list.length kc] 28) := ⟨_, rfl⟩
       have bX : Below w2.heap.size w2 X0 := (by rw [hX0]; exact below1 w2 _)
       have iX : X0.heap[w2.heap.size]? = some (.cells #[.int .i64 i.op, .int .i64 i.a, .int .i64 i.b, .slice ka i.list.length kc] 28 (0, 0)) := (by rw [hX0]; exact heap_new w2 _)
       have HM1 : Bx _ := ⟨HM.out X0 w2.heap.size ka kc (HX.out.2.trans (bX.mono HX.out.2.size)) ((ok_IL B).on HX.out.1 (KI.of bX)) iX HX.out.2.size⟩
       have hz : w.heap.size ≤ w2.heap.size := HX.out.2.size
       have hcu : (w2.alloc (.cells #[.int .i64 i.op, .int .i64 i.a, .int .i64 i.b, .slice ka i.list.length kc] 28)).cell? ⟨ub, 0, none⟩ = some (.slice (some ⟨g, 0, none⟩) N pcap) := (by rw [← hX0]; exact HM1.out.cu)
       have hlu : ub < w2.heap.size := (by omega)
       have hX1 : Bx _ := ⟨hX0⟩
       have HB0 : Bx _ := ⟨HX.out.2.trans (bX.mono HX.out.2.size)⟩
       have HK0 : Bx _ := ⟨(ok_IL B).on HX.out.1 (KI.of bX)⟩
       have HI0 : Bx _ := ⟨iX⟩
       clear bX iX))
  go_quiet (fail)
  rw [← hX1.out]
  have HM2 : Bx _ := ⟨HM.out (X0.drewN nq) w2.heap.size ka kc (below_drewN HB0.out nq) ((ok_IL B).on HK0.out ⟨by rw [drewN_heap]; exact Nat.le_refl _, fun b c fz _ => by rw [drewN_heap]⟩) (by rw [drewN_heap]; exact HI0.out) hz⟩
  generalize X0.drewN nq = X at HM2 ⊢
  have HM1 : Bx _ := ⟨HM2.out⟩
  clear HM2 hcu hX1 HK0 HI0 HB0 HM hX0
  have c1 : X.cell? ⟨g, q * 5 + 4, none⟩ = some v := HM1.out.cv
  have c2 := HM1.out.cv2
  have hHS := HM1.out.si
  have hSA := HM1.out.sa
  have hgX := HM1.out.lg
  have hiX := HM1.out.li
  obtain ⟨ib, hib⟩ : ∃ ib, ib = w2.heap.size := ⟨_, rfl⟩
  have hne : ib ≠ g := by omega
  have hBg' : B ≤ g := hBg
  rw [← hib] at HM1 hHS hSA hiX ⊢
  clear hib
  go_wp2
  refine wp_region_held_drew (S := (fun w' : World => (w'.cell? ⟨ib, 0, none⟩ = some (.int .i64 i.op) ∧ w'.cell? ⟨ib, 1, none⟩ = some (.int .i64 i.a) ∧ w'.cell? ⟨ib, 2, none⟩ = some (.int .i64 i.b) ∧ w'.cell? ⟨ib, 3, none⟩ = some (.slice ka i.list.length kc)))) (by kernel_rfl) hHS (fun hHeld => ?_)
  try simp only [List.size_toArray, List.length_cons, List.length_nil]
  refine wpAnyH_take (i := 0) (v := ?_) rfl (by decide +kernel) (by decide +kernel) (by decide +kernel) (fun _ _ _ h => h) (Or.inl ⟨by rfl, ?_⟩) (by assumption) ?_
  case refine_2 => intro w hSw; obtain ⟨s0, s1, s2, s3⟩ := hSw; go_simp; try rfl
  try simp only [Act.put, List.setIfInBounds_toArray, List.set_cons_zero, List.set_cons_succ]
  refine wpAnyH_take (i := 1) (v := ?_) rfl (by decide +kernel) (by decide +kernel) (by decide +kernel) (fun _ _ _ h => h) (Or.inl ⟨by rfl, ?_⟩) (by assumption) ?_
  case refine_2 => intro w hSw; obtain ⟨s0, s1, s2, s3⟩ := hSw; go_simp; try rfl
  try simp only [Act.put, List.setIfInBounds_toArray, List.set_cons_zero, List.set_cons_succ]
  refine wpAnyH_take (i := 2) (v := ?_) rfl (by decide +kernel) (by decide +kernel) (by decide +kernel) (fun _ _ _ h => h) (Or.inl ⟨by rfl, ?_⟩) (by assumption) ?_
  case refine_2 => intro w hSw; obtain ⟨s0, s1, s2, s3⟩ := hSw; go_simp; try rfl
  try simp only [Act.put, List.setIfInBounds_toArray, List.set_cons_zero, List.set_cons_succ]
  refine wpAnyH_take (i := 3) (v := ?_) rfl (by decide +kernel) (by decide +kernel) (by decide +kernel) (fun _ _ _ h => h) (Or.inl ⟨by rfl, ?_⟩) (by assumption) ?_
  case refine_2 => intro w hSw; obtain ⟨s0, s1, s2, s3⟩ := hSw; go_simp; try rfl
  try simp only [Act.put, List.setIfInBounds_toArray, List.set_cons_zero, List.set_cons_succ]
  refine wpAnyH_take (i := 5) (v := ?_) rfl (by decide +kernel) (by decide +kernel) (by decide +kernel) (fun _ _ _ h => h) (Or.inl ⟨by rfl, ?_⟩) (by assumption) ?_
  case refine_2 => intro w hSw; obtain ⟨s0, s1, s2, s3⟩ := hSw; go_simp; try rfl
  try simp only [Act.put, List.setIfInBounds_toArray, List.set_cons_zero, List.set_cons_succ]
  refine wpAnyH_ready (rs := [4, 6]) (by decide +kernel) (by simp) ?_
  refine AllReadyH.cons rfl (fun K hK => ?_) (AllReadyH.cons rfl (fun K hK => ?_) AllReadyH.nil)
  · go_simp
    refine hK.out _ _ hHeld (fun hHeld => ?_)
    clear hK K
    try simp only [Act.put, List.setIfInBounds_toArray, List.set_cons_zero, List.set_cons_succ]
    refine wpAnyH_ready (rs := [6]) (by decide +kernel) (by simp) ?_
    refine AllReadyH.cons rfl (fun K hK => ?_) AllReadyH.nil
    go_simp
    refine hK.out _ _ hSA (fun hHeld => ?_)
    clear hK K
    try simp only [Act.put, List.setIfInBounds_toArray, List.set_cons_zero, List.set_cons_succ]
    refine wpAnyH_ready (rs := [7]) (by decide +kernel) (by simp) ?_
    refine AllReadyH.cons rfl (fun K hK => ?_) AllReadyH.nil
    refine step_append_lies _ rfl (.tmp 139) (.tmp 141) 55 rfl cut 28 j0 (.agg #[.int .i64 0, .int .i64 0, .int .i64 0, .slice none 0 0]) 4 48 Tryd.underlying55 ji jz0 jz1 jz2 rfl (by decide) v n ics.flatten (by simp [Act.eval, Act.put]) HM1.out.how ⟨X.heap.size, 0, none⟩ 1 1 [.int .i64 i.op, .int .i64 i.a, .int .i64 i.b, .slice ka i.list.length kc] (by simp [Act.eval, Act.put]) rfl (in_news _ _ rfl _ _ _ _) (in_oneR _ _ _ _ _ _) (by decide) (by unfold maxLen; omega) (by omega) (by simp; have := HM1.out.lc; omega) (X.heap.size + 1) (by simp) ?_
    intro gg cg w8 hown hgrow hat hlt8
    have h8 := HM1.out.end_ w8 hgrow
    obtain ⟨e0, e1, e2, e3⟩ := h8.1
    obtain ⟨e6, e7, e4, hg8⟩ := h8.2.1
    have HFI : Bx _ := ⟨h8.2.2 gg cg hown⟩
    clear h8
    refine hK.out _ _ ⟨e0, e1, e2, e3⟩ (fun hHeld => ?_)
    clear hK K
    try simp only [Act.put, List.setIfInBounds_toArray, List.set_cons_zero, List.set_cons_succ]
    refine wpAnyH_take (i := 8) (v := ?_) rfl (by decide +kernel) (by decide +kernel) (by decide +kernel) (fun _ _ _ h => h) (Or.inl ⟨by rfl, ?_⟩) (by assumption) ?_
    case refine_2 => intro w hSw; obtain ⟨s0, s1, s2, s3⟩ := hSw; go_simp; try rfl
    try simp only [Act.put, List.setIfInBounds_toArray, List.set_cons_zero, List.set_cons_succ]
    refine wpAnyH_take (i := 9) (v := ?_) rfl (by decide +kernel) (by decide +kernel) (by decide +kernel) (fun _ _ _ h => h) (Or.inl ⟨by rfl, ?_⟩) (by assumption) ?_
    case refine_2 => intro w hSw; obtain ⟨s0, s1, s2, s3⟩ := hSw; go_simp; try rfl
    try simp only [Act.put, List.setIfInBounds_toArray, List.set_cons_zero, List.set_cons_succ]
    refine wpAnyH_ready (rs := [10]) (by decide +kernel) (by simp) ?_
    refine AllReadyH.cons rfl (fun K hK => ?_) AllReadyH.nil
    go_simp
    refine hK.out _ _ (farI hne e0 e1 e2 e3) (fun hHeld => ?_)
    clear hK K
    refine wpAnyH_done (by decide +kernel) ?_ _
    have HB8 : Bx _ := ⟨e6⟩
    clear e0 e1 e2 e3 e4 e6 e7 hown hgrow hat hHeld
    go_wp2
    go_ret
    exact ⟨rfl, ⟨HB8.out.setCell (p := ⟨g, q * 5 + 4, none⟩) hBg _, HFI.out⟩⟩
  · go_simp
    refine hK.out _ _ hSA (fun hHeld => ?_)
    clear hK K
    try simp only [Act.put, List.setIfInBounds_toArray, List.set_cons_zero, List.set_cons_succ]
    refine wpAnyH_ready (rs := [4]) (by decide +kernel) (by simp) ?_
    refine AllReadyH.cons rfl (fun K hK => ?_) AllReadyH.nil
    go_simp
    refine hK.out _ _ hHeld (fun hHeld => ?_)
    clear hK K
    try simp only [Act.put, List.setIfInBounds_toArray, List.set_cons_zero, List.set_cons_succ]
    refine wpAnyH_ready (rs := [7]) (by decide +kernel) (by simp) ?_
    refine AllReadyH.cons rfl (fun K hK => ?_) AllReadyH.nil
    refine step_append_lies _ rfl (.tmp 139) (.tmp 141) 55 rfl cut 28 j0 (.agg #[.int .i64 0, .int .i64 0, .int .i64 0, .slice none 0 0]) 4 48 Tryd.underlying55 ji jz0 jz1 jz2 rfl (by decide) v n ics.flatten (by simp [Act.eval, Act.put]) HM1.out.how ⟨X.heap.size, 0, none⟩ 1 1 [.int .i64 i.op, .int .i64 i.a, .int .i64 i.b, .slice ka i.list.length kc] (by simp [Act.eval, Act.put]) rfl (in_news _ _ rfl _ _ _ _) (in_oneR _ _ _ _ _ _) (by decide) (by unfold maxLen; omega) (by omega) (by simp; have := HM1.out.lc; omega) (X.heap.size + 1) (by simp) ?_
    intro gg cg w8 hown hgrow hat hlt8
    have h8 := HM1.out.end_ w8 hgrow
    obtain ⟨e0, e1, e2, e3⟩ := h8.1
    obtain ⟨e6, e7, e4, hg8⟩ := h8.2.1
    have HFI : Bx _ := ⟨h8.2.2 gg cg hown⟩
    clear h8
    refine hK.out _ _ ⟨e0, e1, e2, e3⟩ (fun hHeld => ?_)
    clear hK K
    try simp only [Act.put, List.setIfInBounds_toArray, List.set_cons_zero, List.set_cons_succ]
    refine wpAnyH_take (i := 8) (v := ?_) rfl (by decide +kernel) (by decide +kernel) (by decide +kernel) (fun _ _ _ h => h) (Or.inl ⟨by rfl, ?_⟩) (by assumption) ?_
    case refine_2 => intro w hSw; obtain ⟨s0, s1, s2, s3⟩ := hSw; go_simp; try rfl
    try simp only [Act.put, List.setIfInBounds_toArray, List.set_cons_zero, List.set_cons_succ]
    refine wpAnyH_take (i := 9) (v := ?_) rfl (by decide +kernel) (by decide +kernel) (by decide +kernel) (fun _ _ _ h => h) (Or.inl ⟨by rfl, ?_⟩) (by assumption) ?_
    case refine_2 => intro w hSw; obtain ⟨s0, s1, s2, s3⟩ := hSw; go_simp; try rfl
    try simp only [Act.put, List.setIfInBounds_toArray, List.set_cons_zero, List.set_cons_succ]
    refine wpAnyH_ready (rs := [10]) (by decide +kernel) (by simp) ?_
    refine AllReadyH.cons rfl (fun K hK => ?_) AllReadyH.nil
    go_simp
    refine hK.out _ _ (farI hne e0 e1 e2 e3) (fun hHeld => ?_)
    clear hK K
    refine wpAnyH_done (by decide +kernel) ?_ _
    have HB8 : Bx _ := ⟨e6⟩
    clear e0 e1 e2 e3 e4 e6 e7 hown hgrow hat hHeld
    go_wp2
    go_ret
    exact ⟨rfl, ⟨HB8.out.setCell (p := ⟨g, q * 5 + 4, none⟩) hBg _, HFI.out⟩⟩
end Go.Proofs.YtijdcplffmdijaaDoor
