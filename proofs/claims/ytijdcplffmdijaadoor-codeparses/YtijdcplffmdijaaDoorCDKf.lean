import Derived.Test.YtijdcplffmdijaaDoorCDKe
import Derived.Test.YtijdcplffmdijaaDoorCDKc
namespace Go.Proofs.YtijdcplffmdijaaDoor
open Go.RowKit
set_option linter.unusedVariables false
set_option linter.unusedSimpArgs false

/-- what the last region finds, and leaves -/
structure InMemV (w X : World) (B ub cut ib g q n cap : Nat) (pv v : Value) (i : CIn) (ka : Option Addr) (kc : Nat) (ics : List (List Value)) (u' : CUn) : Prop where
  lc : cut ≤ X.heap.size
  cu : X.cell? ⟨ub, 0, none⟩ = some pv
  cv : X.cell? ⟨g, q * 5 + 4, none⟩ = some v
  cv2 : ((X.alloc (.cells #[.int .i64 i.op, .int .i64 i.a, .int .i64 i.b, .slice ka i.list.length kc] 28)).drew).cell? ⟨g, q * 5 + 4, none⟩ = some v
  si : (X.cell? ⟨ib, 0, none⟩ = some (.int .i64 i.op) ∧ X.cell? ⟨ib, 1, none⟩ = some (.int .i64 i.a) ∧ X.cell? ⟨ib, 2, none⟩ = some (.int .i64 i.b) ∧ X.cell? ⟨ib, 3, none⟩ = some (.slice ka i.list.length kc))
  sa : (((X.alloc (.cells #[.int .i64 i.op, .int .i64 i.a, .int .i64 i.b, .slice ka i.list.length kc] 28)).drew).cell? ⟨ib, 0, none⟩ = some (.int .i64 i.op) ∧ ((X.alloc (.cells #[.int .i64 i.op, .int .i64 i.a, .int .i64 i.b, .slice ka i.list.length kc] 28)).drew).cell? ⟨ib, 1, none⟩ = some (.int .i64 i.a) ∧ ((X.alloc (.cells #[.int .i64 i.op, .int .i64 i.a, .int .i64 i.b, .slice ka i.list.length kc] 28)).drew).cell? ⟨ib, 2, none⟩ = some (.int .i64 i.b) ∧ ((X.alloc (.cells #[.int .i64 i.op, .int .i64 i.a, .int .i64 i.b, .slice ka i.list.length kc] 28)).drew).cell? ⟨ib, 3, none⟩ = some (.slice ka i.list.length kc))
  lu : ub < X.heap.size
  lg : g < X.heap.size
  li : ib < X.heap.size
  how : ((X.alloc (.cells #[.int .i64 i.op, .int .i64 i.a, .int .i64 i.b, .slice ka i.list.length kc] 28)).drew).ownsRow cut 28 4 v n ics.flatten
  end_ : ∀ w8, ((X.alloc (.cells #[.int .i64 i.op, .int .i64 i.a, .int .i64 i.b, .slice ka i.list.length kc] 28)).drew).grownBy w8 v.ownBlock → (w8.cell? ⟨ib, 0, none⟩ = some (.int .i64 i.op) ∧ w8.cell? ⟨ib, 1, none⟩ = some (.int .i64 i.a) ∧ w8.cell? ⟨ib, 2, none⟩ = some (.int .i64 i.b) ∧ w8.cell? ⟨ib, 3, none⟩ = some (.slice ka i.list.length kc)) ∧ (Below B w w8 ∧ w8.frozen? ⟨g, q * 5 + 4, none⟩ = false ∧ w8.cell? ⟨g, q * 5 + 4, none⟩ = some v ∧ g < w8.heap.size) ∧
    ∀ gg cg, w8.ownsRow cut 28 4 (.slice (some ⟨gg, 0, none⟩) (n + 1) cg) (n + 1) (ics.flatten ++ inCells i (.slice ka i.list.length kc)) → UV (w8.setCell ⟨g, q * 5 + 4, none⟩ (.slice (some ⟨gg, 0, none⟩) (n + 1) cg)) B ub u'
theorem inMemV_of {Lg Kg : Nat → Nat} {w X : World} {B ub cut ib g cap : Nat} {qs : List CPg} {p : CPg} {ts : List CTy} {pv tv v : Value} {cs ics : List (List Value)} {cur : Array Value} (h1 : w.heap[ub]? = some (.cells #[pv, tv] 36 (0, 0))) (h2 : OwnL (TyG (IOw Lg B)) w B 54 3 tv ts) (h3 : w.ownsRow B 57 5 pv (qs ++ [p]).length (cs ++ [pgCells p v]).flatten) (h4 : B ≤ cut) (h5 : cut ≤ w.heap.size) (h6 : All2 (PgG (IOw Lg B) (fun g n => Kg g = n) B cut w) qs cs) (h7 : All2 (InG (IOw Lg B) w) p.code ics) (h8 : w.ownsRow cut 28 4 v p.code.length ics.flatten)
    (hpv : pv = .slice (some ⟨g, 0, none⟩) (qs.length + 1) cap) (hg : w.heap[g]? = some (.cells cur 57 (0, 0))) (hcur : cur[qs.length * 5 + 4]? = some v) (hBg : B ≤ g)
    (hb : Below w.heap.size w X) {i : CIn} {ka : Option Addr} {kc : Nat} (hk : IN w.heap.size X ka kc i.list) (hib : X.heap[ib]? = some (.cells #[.int .i64 i.op, .int .i64 i.a, .int .i64 i.b, .slice ka i.list.length kc] 28 (0, 0))) (hiw : w.heap.size ≤ ib) :
    InMemV w X B ub cut ib g qs.length p.code.length cap pv v i ka kc ics ⟨qs ++ [{ p with code := p.code ++ [i] }], ts⟩ := by
  have hs := hb.size
  have hgl : g < w.heap.size := (Array.getElem?_eq_some_iff.1 hg).1
  have hul : ub < w.heap.size := (Array.getElem?_eq_some_iff.1 h1).1
  have hil : ib < X.heap.size := (Array.getElem?_eq_some_iff.1 hib).1
  have hbA : Below X.heap.size X ((X.alloc (.cells #[.int .i64 i.op, .int .i64 i.a, .int .i64 i.b, .slice ka i.list.length kc] 28)).drew) := (below1 X _).drew
  have hbW : Below w.heap.size w ((X.alloc (.cells #[.int .i64 i.op, .int .i64 i.a, .int .i64 i.b, .slice ka i.list.length kc] 28)).drew) := hb.trans (hbA.mono hs)
  have oA : ((X.alloc (.cells #[.int .i64 i.op, .int .i64 i.a, .int .i64 i.b, .slice ka i.list.length kc] 28)).drew).ownsRow cut 28 4 v p.code.length ics.flatten := owns_on h8 (Kp.of (P := fun _ _ => True) hbW) fun _ _ => trivial
  have xg := below_heap hb hg
  have ag := below_heap hbW hg
  have xi : ((X.alloc (.cells #[.int .i64 i.op, .int .i64 i.a, .int .i64 i.b, .slice ka i.list.length kc] 28)).drew).heap[ib]? = some (.cells #[.int .i64 i.op, .int .i64 i.a, .int .i64 i.b, .slice ka i.list.length kc] 28 (0, 0)) := below_heap hbA hib
  refine ⟨by omega, cell_blk (below_heap hb h1) rfl, cell_blk xg hcur, cell_blk ag hcur, ⟨cell_blk hib rfl, cell_blk hib rfl, cell_blk hib rfl, cell_blk hib rfl⟩, ⟨cell_blk xi rfl, cell_blk xi rfl, cell_blk xi rfl, cell_blk xi rfl⟩, by omega, by omega, hil, oA, fun w8 hgr => ?_⟩
  have hvb : ∀ x, v.ownBlock = some x → cut ≤ x ∧ x < w.heap.size := fun x hx => owns_block h8 hx
  have i8 : w8.heap[ib]? = some (.cells #[.int .i64 i.op, .int .i64 i.a, .int .i64 i.b, .slice ka i.list.length kc] 28 (0, 0)) := by
    rw [hgr.block ib (by have := hbA.size; omega) (fun e => by have := hvb ib e.symm; omega)]
    exact xi
  have g8 : w8.heap[g]? = some (.cells cur 57 (0, 0)) := ((Kp.grown oA hgr).blk g _ _ _ ag (.inl (by decide))).trans ag
  refine ⟨⟨cell_blk i8 rfl, cell_blk i8 rfl, cell_blk i8 rfl, cell_blk i8 rfl⟩, ⟨(hbW.mono (by omega)).grown hgr (by have := hbA.size; omega) (fun x hx => by have := hvb x hx; omega), by simp [World.frozen?, g8], cell_blk g8 hcur, (Array.getElem?_eq_some_iff.1 g8).1⟩, fun gg cg hown => ?_⟩
  exact UV.addI h1 h2 h3 h4 h5 h6 h7 h8 hbW (hk.on (KI.of hbA)) hown hgr hpv
set_option maxRecDepth 100000 in
set_option maxHeartbeats 4000000 in
theorem addInsV_yes (w : World) (hL : Shp w) (B ub : Nat) (qs : List CPg) (p : CPg) (ts : List CTy) (hu : UV w B ub ⟨qs ++ [p], ts⟩) (word : List UInt8) (a : Option Addr) (cap : Nat) (ks : List Int) (hi : IntsV w w.heap.size a cap ks) (hl : ks.length ≤ 1099511627776) (i : CIn) (hins : insOf (opI word) ks = some i) (hBu : B ≤ ub) (hq : qs.length ≤ 1099511627776) (hp : p.code.length ≤ 1099511627776) :
    Calls Tryd.prog 66 #[.pointer (some ⟨ub, 0, none⟩), strV word, .slice a ks.length cap] w fun e w' => e = .returned (.bool true) ∧ Bx (Below B w w' ∧ UV w' B ub ⟨qs ++ [{ p with code := p.code ++ [i] }], ts⟩) := by
  obtain ⟨j0, ji, jz0, jz1, jz2⟩ := info_parts infoIn
  obtain ⟨Lg, Kg, pv, tv, pcs, cut, u1, u2, u3, u4, u5, u6⟩ := hu.ex
  simp only [] at u2 u3 u6
  rcases u6 with ⟨h, _⟩ | ⟨qs', p', cs, v, he, rfl, u7, u8⟩
  · simp at h
  obtain ⟨he1, he2⟩ := List.append_inj' he rfl
  simp only [List.cons.injEq, and_true] at he2
  subst he1 he2
  obtain ⟨ics, u9, u10⟩ := u8.ex
  have hlf : cs.flatten.length = qs.length * 5 := by rw [flat_len (u7.all pgG_len), u7.len]
  obtain ⟨g, pcap, cur, hpv, hBg, hg, hpc, hcur⟩ := last_code hlf u3
  have HM : Bx (∀ X ib ka kc, Below w.heap.size w X → IN w.heap.size X ka kc i.list → X.heap[ib]? = some (.cells #[.int .i64 i.op, .int .i64 i.a, .int .i64 i.b, .slice ka i.list.length kc] 28 (0, 0)) → w.heap.size ≤ ib → InMemV w X B ub cut ib g qs.length p.code.length pcap pv v i ka kc ics ⟨qs ++ [{ p with code := p.code ++ [i] }], ts⟩) := ⟨fun X ib ka kc hb hk hib hiw => inMemV_of u1 u2 u3 u4 u5 u7 u9 u10 hpv hg hcur hBg hb hk hib hiw⟩
  have hub : ub < w.heap.size := (Array.getElem?_eq_some_iff.1 u1).1
  have hgl : g < w.heap.size := (Array.getElem?_eq_some_iff.1 hg).1
  have HO := Op_any ⟨word.toArray⟩ w hL
  have e1 : (⟨word.toArray⟩ : ByteArray).toList = word := by rw [Lib.toList_data]
  rw [e1] at HO
  have HI := instructionOf_own w hL (opI word) (opI_lt word) a cap ks hi (by omega)
  unfold ioPostO at HI
  rw [hins] at HI
  subst hpv
  generalize opI word = op at *
  clear hu u1 u2 u3 u4 u5 u7 u8 u9 u10 hL hi hins hlf hg hcur e1
  generalize { progs := qs ++ [{ p with code := p.code ++ [i] }], types := ts : CUn } = U' at *
  generalize ks.length = kn at *
  generalize p.code.length = n at *
  generalize qs.length = q at *
  obtain ⟨N, hN⟩ : ∃ N, N = q + 1 := ⟨_, rfl⟩
  rw [← hN] at HM hpc
  have n0 : ¬ (N : Int) = 0 := by omega
  have n0' : ((N : Int) == 0) = false := by simp; omega
  have n1 : IntKind.i64.wrap ((N : Int) - 1) = (q : Int) := by rw [show (N : Int) - 1 = (q : Int) by omega]; simp [IntKind.wrap, IntKind.bits, IntKind.signed]; omega
  have n2 : (0 : Int) ≤ (q : Int) := by omega
  have n3 : (q : Int) < (N : Int) := by omega
  have n4 : q < N := by omega
  have n5 : (N : Int) - 1 = (q : Int) := by omega
  have hq1 : q < pcap := by omega
  clear hN
  go_enter Tryd.func66, Tryd.ntmps66
  go_wp2_with (first
    | (go_at_call 11; refine HO.mono ?_; rintro e w1 ⟨rfl, rfl⟩)
    | (go_at_call 76; refine HI.mono ?_; rintro e w2 ⟨ka, kc, rfl, HX⟩
       obtain ⟨X0, hX0⟩ : ∃ X, X = w2.alloc (.cells #[.int .i64 i.op, .int .i64 i.a, .int .i64 i.b, .slice ka i.list.length kc] 28) := ⟨_, rfl⟩
       have bX : Below w2.heap.size w2 X0 := (by rw [hX0]; exact below1 w2 _)
       have iX : X0.heap[w2.heap.size]? = some (.cells #[.int .i64 i.op, .int .i64 i.a, .int .i64 i.b, .slice ka i.list.length kc] 28 (0, 0)) := (by rw [hX0]; exact heap_new w2 _)
       have HM1 : Bx _ := ⟨HM.out X0 w2.heap.size ka kc (HX.out.2.trans (bX.mono HX.out.2.size)) (HX.out.1.on (KI.of bX)) iX HX.out.2.size⟩
       have hz : w.heap.size ≤ w2.heap.size := HX.out.2.size
       have hcu : (w2.alloc (.cells #[.int .i64 i.op, .int .i64 i.a, .int .i64 i.b, .slice ka i.list.length kc] 28)).cell? ⟨ub, 0, none⟩ = some (.slice (some ⟨g, 0, none⟩) N pcap) := (by rw [← hX0]; exact HM1.out.cu)
       have hlu : ub < w2.heap.size := (by omega)
       have hX1 : Bx _ := ⟨hX0⟩
       have HB0 : Bx _ := ⟨HX.out.2.trans (bX.mono HX.out.2.size)⟩
       have HK0 : Bx _ := ⟨HX.out.1.on (KI.of bX)⟩
       have HI0 : Bx _ := ⟨iX⟩
       clear bX iX))
  go_quiet (fail)
  rw [← hX1.out]
  have HM2 : Bx _ := ⟨HM.out (X0.drewN nq) w2.heap.size ka kc (below_drewN HB0.out nq) (IN.drewN HK0.out nq) (by rw [drewN_heap]; exact HI0.out) hz⟩
  generalize X0.drewN nq = X at HM2 ⊢
  have HM1 : Bx _ := ⟨HM2.out⟩
  clear HM2 hcu hX1 HK0 HI0 HB0 HM hX0
  have c1 : X.cell? ⟨g, q * 5 + 4, none⟩ = some v := HM1.out.cv
  have c2 := HM1.out.cv2
  have hHS := HM1.out.si
  have hSA := HM1.out.sa
  have hgX := HM1.out.lg
  have hiX := HM1.out.li
  obtain ⟨ib, hib⟩ : ∃ ib, ib = w2.heap.size := ⟨_, rfl⟩
  have hne : ib ≠ g := by omega
  have hBg' : B ≤ g := hBg
  rw [← hib] at HM1 hHS hSA hiX ⊢
  clear hib
  go_wp2
  refine wp_region_held_drew (S := (fun w' : World => (w'.cell? ⟨ib, 0, none⟩ = some (.int .i64 i.op) ∧ w'.cell? ⟨ib, 1, none⟩ = some (.int .i64 i.a) ∧ w'.cell? ⟨ib, 2, none⟩ = some (.int .i64 i.b) ∧ w'.cell? ⟨ib, 3, none⟩ = some (.slice ka i.list.length kc)))) (by kernel_rfl) hHS (fun hHeld => ?_)
  try simp only [List.size_toArray, List.length_cons, List.length_nil]
  refine wpAnyH_take (i := 0) (v := ?_) rfl (by decide +kernel) (by decide +kernel) (by decide +kernel) (fun _ _ _ h => h) (Or.inl ⟨by rfl, ?_⟩) (by assumption) ?_
  case refine_2 => intro w hSw; obtain ⟨s0, s1, s2, s3⟩ := hSw; go_simp; try rfl
  try simp only [Act.put, List.setIfInBounds_toArray, List.set_cons_zero, List.set_cons_succ]
  refine wpAnyH_take (i := 1) (v := ?_) rfl (by decide +kernel) (by decide +kernel) (by decide +kernel) (fun _ _ _ h => h) (Or.inl ⟨by rfl, ?_⟩) (by assumption) ?_
  case refine_2 => intro w hSw; obtain ⟨s0, s1, s2, s3⟩ := hSw; go_simp; try rfl
  try simp only [Act.put, List.setIfInBounds_toArray, List.set_cons_zero, List.set_cons_succ]
  refine wpAnyH_take (i := 2) (v := ?_) rfl (by decide +kernel) (by decide +kernel) (by decide +kernel) (fun _ _ _ h => h) (Or.inl ⟨by rfl, ?_⟩) (by assumption) ?_
  case refine_2 => intro w hSw; obtain ⟨s0, s1, s2, s3⟩ := hSw; go_simp; try rfl
  try simp only [Act.put, List.setIfInBounds_toArray, List.set_cons_zero, List.set_cons_succ]
  refine wpAnyH_take (i := 3) (v := ?_) rfl (by decide +kernel) (by decide +kernel) (by decide +kernel) (fun _ _ _ h => h) (Or.inl ⟨by rfl, ?_⟩) (by assumption) ?_
  case refine_2 => intro w hSw; obtain ⟨s0, s1, s2, s3⟩ := hSw; go_simp; try rfl
  try simp only [Act.put, List.setIfInBounds_toArray, List.set_cons_zero, List.set_cons_succ]
  refine wpAnyH_take (i := 5) (v := ?_) rfl (by decide +kernel) (by decide +kernel) (by decide +kernel) (fun _ _ _ h => h) (Or.inl ⟨by rfl, ?_⟩) (by assumption) ?_
  case refine_2 => intro w hSw; obtain ⟨s0, s1, s2, s3⟩ := hSw; go_simp; try rfl
  try simp only [Act.put, List.setIfInBounds_toArray, List.set_cons_zero, List.set_cons_succ]
  refine wpAnyH_ready (rs := [4, 6]) (by decide +kernel) (by simp) ?_
  refine AllReadyH.cons rfl (fun K hK => ?_) (AllReadyH.cons rfl (fun K hK => ?_) AllReadyH.nil)
  · go_simp
    refine hK.out _ _ hHeld (fun hHeld => ?_)
    clear hK K
    try simp only [Act.put, List.setIfInBounds_toArray, List.set_cons_zero, List.set_cons_succ]
    refine wpAnyH_ready (rs := [6]) (by decide +kernel) (by simp) ?_
    refine AllReadyH.cons rfl (fun K hK => ?_) AllReadyH.nil
    go_simp
    refine hK.out _ _ hSA (fun hHeld => ?_)
    clear hK K
    try simp only [Act.put, List.setIfInBounds_toArray, List.set_cons_zero, List.set_cons_succ]
    refine wpAnyH_ready (rs := [7]) (by decide +kernel) (by simp) ?_
    refine AllReadyH.cons rfl (fun K hK => ?_) AllReadyH.nil
    refine step_append_lies _ rfl (.tmp 42) (.tmp 44) 55 rfl cut 28 j0 (.agg #[.int .i64 0, .int .i64 0, .int .i64 0, .slice none 0 0]) 4 48 Tryd.underlying55 ji jz0 jz1 jz2 rfl (by decide) v n ics.flatten (by simp [Act.eval, Act.put]) HM1.out.how ⟨X.heap.size, 0, none⟩ 1 1 [.int .i64 i.op, .int .i64 i.a, .int .i64 i.b, .slice ka i.list.length kc] (by simp [Act.eval, Act.put]) rfl (in_news _ _ rfl _ _ _ _) (in_oneR _ _ _ _ _ _) (by decide) (by unfold maxLen; omega) (by omega) (by simp; have := HM1.out.lc; omega) (X.heap.size + 1) (by simp) ?_
    intro gg cg w8 hown hgrow hat hlt8
    have h8 := HM1.out.end_ w8 hgrow
    obtain ⟨e0, e1, e2, e3⟩ := h8.1
    obtain ⟨e6, e7, e4, hg8⟩ := h8.2.1
    have HFI : Bx _ := ⟨h8.2.2 gg cg hown⟩
    clear h8
    refine hK.out _ _ ⟨e0, e1, e2, e3⟩ (fun hHeld => ?_)
    clear hK K
    try simp only [Act.put, List.setIfInBounds_toArray, List.set_cons_zero, List.set_cons_succ]
    refine wpAnyH_take (i := 8) (v := ?_) rfl (by decide +kernel) (by decide +kernel) (by decide +kernel) (fun _ _ _ h => h) (Or.inl ⟨by rfl, ?_⟩) (by assumption) ?_
    case refine_2 => intro w hSw; obtain ⟨s0, s1, s2, s3⟩ := hSw; go_simp; try rfl
    try simp only [Act.put, List.setIfInBounds_toArray, List.set_cons_zero, List.set_cons_succ]
    refine wpAnyH_take (i := 9) (v := ?_) rfl (by decide +kernel) (by decide +kernel) (by decide +kernel) (fun _ _ _ h => h) (Or.inl ⟨by rfl, ?_⟩) (by assumption) ?_
    case refine_2 => intro w hSw; obtain ⟨s0, s1, s2, s3⟩ := hSw; go_simp; try rfl
    try simp only [Act.put, List.setIfInBounds_toArray, List.set_cons_zero, List.set_cons_succ]
    refine wpAnyH_ready (rs := [10]) (by decide +kernel) (by simp) ?_
    refine AllReadyH.cons rfl (fun K hK => ?_) AllReadyH.nil
    go_simp
    refine hK.out _ _ (farI hne e0 e1 e2 e3) (fun hHeld => ?_)
    clear hK K
    refine wpAnyH_done (by decide +kernel) ?_ _
    have HB8 : Bx _ := ⟨e6⟩
    clear e0 e1 e2 e3 e4 e6 e7 hown hgrow hat hHeld
    go_wp2
    go_ret
    exact ⟨rfl, ⟨HB8.out.setCell (p := ⟨g, q * 5 + 4, none⟩) hBg _, HFI.out⟩⟩
  · go_simp
    refine hK.out _ _ hSA (fun hHeld => ?_)
    clear hK K
    try simp only [Act.put, List.setIfInBounds_toArray, List.set_cons_zero, List.set_cons_succ]
    refine wpAnyH_ready (rs := [4]) (by decide +kernel) (by simp) ?_
    refine AllReadyH.cons rfl (fun K hK => ?_) AllReadyH.nil
    go_simp
    refine hK.out _ _ hHeld (fun hHeld => ?_)
    clear hK K
    try simp only [Act.put, List.setIfInBounds_toArray, List.set_cons_zero, List.set_cons_succ]
    refine wpAnyH_ready (rs := [7]) (by decide +kernel) (by simp) ?_
    refine AllReadyH.cons rfl (fun K hK => ?_) AllReadyH.nil
    refine step_append_lies _ rfl (.tmp 42) (.tmp 44) 55 rfl cut 28 j0 (.agg #[.int .i64 0, .int .i64 0, .int .i64 0, .slice none 0 0]) 4 48 Tryd.underlying55 ji jz0 jz1 jz2 rfl (by decide) v n ics.flatten (by simp [Act.eval, Act.put]) HM1.out.how ⟨X.heap.size, 0, none⟩ 1 1 [.int .i64 i.op, .int .i64 i.a, .int .i64 i.b, .slice ka i.list.length kc] (by simp [Act.eval, Act.put]) rfl (in_news _ _ rfl _ _ _ _) (in_oneR _ _ _ _ _ _) (by decide) (by unfold maxLen; omega) (by omega) (by simp; have := HM1.out.lc; omega) (X.heap.size + 1) (by simp) ?_
    intro gg cg w8 hown hgrow hat hlt8
    have h8 := HM1.out.end_ w8 hgrow
    obtain ⟨e0, e1, e2, e3⟩ := h8.1
    obtain ⟨e6, e7, e4, hg8⟩ := h8.2.1
    have HFI : Bx _ := ⟨h8.2.2 gg cg hown⟩
    clear h8
    refine hK.out _ _ ⟨e0, e1, e2, e3⟩ (fun hHeld => ?_)
    clear hK K
    try simp only [Act.put, List.setIfInBounds_toArray, List.set_cons_zero, List.set_cons_succ]
    refine wpAnyH_take (i := 8) (v := ?_) rfl (by decide +kernel) (by decide +kernel) (by decide +kernel) (fun _ _ _ h => h) (Or.inl ⟨by rfl, ?_⟩) (by assumption) ?_
    case refine_2 => intro w hSw; obtain ⟨s0, s1, s2, s3⟩ := hSw; go_simp; try rfl
    try simp only [Act.put, List.setIfInBounds_toArray, List.set_cons_zero, List.set_cons_succ]
    refine wpAnyH_take (i := 9) (v := ?_) rfl (by decide +kernel) (by decide +kernel) (by decide +kernel) (fun _ _ _ h => h) (Or.inl ⟨by rfl, ?_⟩) (by assumption) ?_
    case refine_2 => intro w hSw; obtain ⟨s0, s1, s2, s3⟩ := hSw; go_simp; try rfl
    try simp only [Act.put, List.setIfInBounds_toArray, List.set_cons_zero, List.set_cons_succ]
    refine wpAnyH_ready (rs := [10]) (by decide +kernel) (by simp) ?_
    refine AllReadyH.cons rfl (fun K hK => ?_) AllReadyH.nil
    go_simp
    refine hK.out _ _ (farI hne e0 e1 e2 e3) (fun hHeld => ?_)
    clear hK K
    refine wpAnyH_done (by decide +kernel) ?_ _
    have HB8 : Bx _ := ⟨e6⟩
    clear e0 e1 e2 e3 e4 e6 e7 hown hgrow hat hHeld
    go_wp2
    go_ret
    exact ⟨rfl, ⟨HB8.out.setCell (p := ⟨g, q * 5 + 4, none⟩) hBg _, HFI.out⟩⟩
end Go.Proofs.YtijdcplffmdijaaDoor
