import Derived.Test.YtijdcplffmdijaaDoorCDFe
import Derived.Test.YtijdcplffmdijaaDoorCDGc
namespace Go.Proofs.YtijdcplffmdijaaDoor
open Go.RowKit
set_option linter.unusedVariables false
set_option linter.unusedSimpArgs false

/-- one element behind a row of one's own -/
theorem app1 {e t : TypeId} {i0 : TypeInfo} {z : Value} {s bt : Nat} (ht : Tryd.prog.underlying t = some (.slice e)) (hi : Tryd.prog.info? e = some i0) (hz : i0.zero = some z) (hs : i0.size = s) (hb : i0.bytes = bt) (hzs : z.cells.size = s) (hs0 : 0 < s)
    (W : World) (B : Nat) (v : Value) (n : Nat) (xs : List Value) (ho : W.ownsRow B e s v n xs) (cs : Array Value) (hcs : cs.toList.length = s) (h1 : ∀ u ∈ cs.toList, u.oneCell' = true) (hn : n + 1 ≤ maxLen) (hby : (n + 1) * bt ≤ 140737488355328) (hB : B ≤ W.heap.size) :
    ∃ g c W3, (∀ ty, (Builtin.append_ #[t, t] ty #[v, .slice (some ⟨W.heap.size, 0, none⟩) 1 1]).run Tryd.prog (W.alloc (.cells cs e)) = .ok (.slice (some ⟨g, 0, none⟩) (n + 1) c) W3) ∧ W3.ownsRow B e s (.slice (some ⟨g, 0, none⟩) (n + 1) c) (n + 1) (xs ++ cs.toList) ∧ W.grownBy W3 v.ownBlock := by
  have ho' : (W.alloc (.cells cs e)).ownsRow B e s v n xs := ho.alloc _
  obtain ⟨g, c, W3, r1, r2, r3, r4, r5⟩ := run_append_lies (P := Tryd.prog) (W.alloc (.cells cs e)) t e B e i0 z s bt ht hi hz hs hb hzs hs0 v n xs ho' ⟨W.heap.size, 0, none⟩ 1 1 cs.toList (by omega) (World.news_of_block (heap_alloc_new W _)) h1 (by omega) hn hby (by simp; omega) _ rfl
  refine ⟨g, c, W3, fun ty => r1, r2, ⟨r3.os, r3.tape, r3.output, Nat.le_trans (by simp) r3.size, fun k hk hne => ?_⟩⟩
  rw [r3.block k (by simp; omega) hne, Below.heap_alloc W _ k hk]
theorem gr_set (W : World) (b i : Nat) (v : Value) : W.grownBy (W.setCell ⟨b, i, none⟩ v) (some b) := ⟨rfl, rfl, rfl, by simp [World.setCell], fun k _ hne => Below.heap_setCell W ⟨b, i, none⟩ v k fun e => hne (by rw [e])⟩
/-- what a row that grows, or a store, leaves alone -/
theorem Kp.gr {w w' : World} {row : Option Nat} {e : TypeId} (hg : w.grownBy w' row) (hr : ∀ b, row = some b → ∃ c fz, w.heap[b]? = some (.cells c e fz)) : Kp (fun x t => t ≠ e ∨ row ≠ some x) w w' :=
  ⟨hg.size, fun b c t fz hx hp => hg.block b (Array.getElem?_eq_some_iff.1 hx).1 fun he => by
    rcases hp with hp | hp
    · obtain ⟨c', fz', hc⟩ := hr b he.symm
      rw [hx] at hc
      injection hc with hc
      injection hc with _ hc _
      exact hp hc
    · exact hp he.symm⟩
theorem infoSi : (Tryd.prog.info? 26).map (fun i => (i.zero, i.size, i.bytes)) = some (some (.slice none 0 0), 1, 24) := by kernel_rfl
theorem infoSn : (Tryd.prog.info? 55).map (fun i => (i.zero, i.size, i.bytes)) = some (some (.slice none 0 0), 1, 24) := by kernel_rfl
/-- a block of numbers that may be written -/
def IlK (w : World) (g : Nat) : Prop := ∃ C : Array Value, w.heap[g]? = some (.cells C 3 (0, 0))
theorem IlK.onp {P : Nat → TypeId → Prop} {w w' : World} {g : Nat} (h : IlK w g) (hk : Kp P w w') (hp : P g 3) : IlK w' g := by
  obtain ⟨C, hC⟩ := h
  exact ⟨C, (hk.blk g C _ _ hC hp).trans hC⟩
/-- an entry of the list of lists; of the list of codes -/
def SlI (B : Nat) (w : World) (ks : List Int) (c : List Value) : Prop := ∃ g cap, c = [.slice (some ⟨g, 0, none⟩) (ks.length + 2) cap] ∧ IK w (some ⟨g, 0, none⟩) cap (ks ++ [-77, -78]) ∧ B ≤ g ∧ IlK w g
def noIn : CIn := ⟨-9, 0, 0, []⟩
def noTy : CTy := ⟨-9, [], false⟩
def noPg : CPg := ⟨-9, 0, 0, false, []⟩
def SlC (B cut : Nat) (w : World) (l : List CIn) (c : List Value) : Prop := ∃ v, c = [v] ∧ OwnL InC w B 28 4 v (l ++ [noIn]) ∧ ∀ g, v.ownBlock = some g → g < cut
theorem SlI.on {P : Nat → TypeId → Prop} {w w' : World} {B : Nat} (hk : Kp P w w') (hp : ∀ b, P b 3) (t : List Int) (c : List Value) (h : SlI B w t c) : SlI B w' t c := by
  obtain ⟨ka, kc, h1, h2, h3⟩ := h
  exact ⟨ka, kc, h1, h2.onp hk hp, h3.1, h3.2.onp hk (hp _)⟩
theorem SlC.on {P : Nat → TypeId → Prop} {w w' : World} {B cut : Nat} (hk : Kp P w w') (hp : ∀ b, P b 3) (hi : ∀ b, b < cut → P b 28) (l : List CIn) (c : List Value) (h : SlC B cut w l c) : SlC B cut w' l c := by
  obtain ⟨v, h1, h2, h3⟩ := h
  exact ⟨v, h1, h2.on (InC.on hk hp) hk fun g hg => hi g (h3 g hg), h3⟩
/-- what is lent, under way -/
structure LU (W : World) (B cut xb : Nat) (pv tv cv iv : Value) (ps : List CPg) (ts : List CTy) (cl : List (List CIn)) (il : List (List Int)) : Prop where
  blk : W.heap[xb]? = some (.cells #[.slice none 0 0, .slice none 0 0, pv, tv, cv, iv] 41 (0, 0))
  tys : OwnL TyC W B 54 3 tv ts
  its : OwnL (SlI B) W B 26 1 iv il
  pgs : OwnL (PgC B cut) W B 57 5 pv ps
  cds : OwnL (SlC B cut) W B 55 1 cv cl
  cut_ : cut ≤ W.heap.size
theorem LU.on {P : Nat → TypeId → Prop} {W W' : World} {B cut xb : Nat} {pv tv cv iv : Value} {ps : List CPg} {ts : List CTy} {cl : List (List CIn)} {il : List (List Int)} (h : LU W B cut xb pv tv cv iv ps ts cl il) (hk : Kp P W W')
    (hx : P xb 41) (hi : ∀ b, P b 3) (hn : ∀ b, b < cut → P b 28) (h1 : ∀ g, tv.ownBlock = some g → P g 54) (h2 : ∀ g, iv.ownBlock = some g → P g 26) (h3 : ∀ g, pv.ownBlock = some g → P g 57) (h4 : ∀ g, cv.ownBlock = some g → P g 55) : LU W' B cut xb pv tv cv iv ps ts cl il :=
  ⟨(hk.blk xb _ _ _ h.blk hx).trans h.blk, h.tys.on (TyC.on hk hi) hk h1, h.its.on (SlI.on hk hi) hk h2, h.pgs.on (PgC.on hk hi hn) hk h3, h.cds.on (SlC.on hk hi hn) hk h4, Nat.le_trans h.cut_ hk.size⟩
theorem LU.below {W W' : World} {B cut xb : Nat} {pv tv cv iv : Value} {ps : List CPg} {ts : List CTy} {cl : List (List CIn)} {il : List (List Int)} (h : LU W B cut xb pv tv cv iv ps ts cl il) (hb : Below W.heap.size W W') : LU W' B cut xb pv tv cv iv ps ts cl il :=
  h.on (P := fun _ _ => True) (Kp.of hb) trivial (fun _ => trivial) (fun _ _ => trivial) (fun _ _ => trivial) (fun _ _ => trivial) (fun _ _ => trivial) fun _ _ => trivial
end Go.Proofs.YtijdcplffmdijaaDoor
namespace Go.Proofs.YtijdcplffmdijaaDoor
open Go.RowKit
set_option linter.unusedVariables false
set_option linter.unusedSimpArgs false

/-- a list that is lent, with its kind -/
theorem lent_steps2 (w : World) (B : Nat) (ka : Option Addr) (kc : Nat) (ks : List Int) (hi : IntsV w B ka kc ks) (hB : B ≤ w.heap.size) (hl : ks.length ≤ 17592186044414) :
    ∃ g1 c1 W3, (∀ ty, (Builtin.append_ #[26, 26] ty #[.slice (some ⟨w.heap.size, 0, none⟩) 0 0, .slice ka ks.length kc]).run Tryd.prog (w.alloc (.cells #[] 3)) = .ok (.slice (some ⟨g1, 0, none⟩) ks.length c1) W3) ∧
    ∃ W4, W3.alloc (.cells #[.int .i64 (-77), .int .i64 (-78)] 3) = W4 ∧
    ∃ g2 c2 W5, (∀ ty, (Builtin.append_ #[26, 26] ty #[.slice (some ⟨g1, 0, none⟩) ks.length c1, .slice (some ⟨W3.heap.size, 0, none⟩) 2 2]).run Tryd.prog W4 = .ok (.slice (some ⟨g2, 0, none⟩) (ks.length + 2) c2) W5) ∧ Bx (IK W5 (some ⟨g2, 0, none⟩) c2 (ks ++ [-77, -78]) ∧ Below w.heap.size w W5 ∧ w.heap.size ≤ g2 ∧ IlK W5 g2) := by
  obtain ⟨i0, hi0, hz0, hz1, hz2⟩ := info_parts infoInt
  generalize hW2 : w.alloc (.cells #[] 3) = W2
  have s2 : W2.heap.size = w.heap.size + 1 := by rw [← hW2]; simp
  have b2 : Below w.heap.size w W2 := by rw [← hW2]; exact below1 w _
  have e2 : W2.heap[w.heap.size]? = some (.cells #[] 3 (0, 0)) := by rw [← hW2]; exact heap_alloc_new w _
  obtain ⟨g1, c1, W3, r1, o1, gr1, at1, lt1⟩ := app_ints W2 w.heap.size B ka kc ks e2 (hi.below (b2.mono hB)) hl
  have b3 : Below w.heap.size W2 W3 := grown_belI (Below.refl _ _) gr1 (by omega) (fun k hk => by cases hk; exact Nat.le_refl _)
  have s3 := b3.size
  have o1' : (W3.alloc (.cells #[.int .i64 (-77), .int .i64 (-78)] 3)).ownsRow w.heap.size 3 1 (.slice (some ⟨g1, 0, none⟩) ks.length c1) ks.length (ks.map (Value.int .i64)) := o1.alloc _
  obtain ⟨g2, c2, W5, r2, o2, gr2, at2, lt2⟩ := run_append_lies (P := Tryd.prog) (W3.alloc (.cells #[.int .i64 (-77), .int .i64 (-78)] 3)) 26 3 w.heap.size 3 i0 (.int .i64 0) 1 8 Tryd.underlying26 hi0 hz0 hz1 hz2 rfl (by decide) _ _ _ o1' ⟨W3.heap.size, 0, none⟩ 2 2 [.int .i64 (-77), .int .i64 (-78)] rfl (two_newsI W3 _ _ _) (by intro u hu; simp at hu; rcases hu with rfl | rfl <;> rfl) (by decide) (by unfold maxLen; omega) (by omega) (by simp; omega) _ rfl
  have g1b : ∀ k, (Value.slice (some ⟨g1, 0, none⟩) ks.length c1).ownBlock = some k → w.heap.size ≤ k := fun k hk => by
    have : g1 = k := by simpa [Value.ownBlock] using hk
    rcases at1 with e | e <;> omega
  have b5 : Below w.heap.size W2 W5 := grown_belI (b3.trans (((Below.refl _ _).alloc (Nat.le_refl _) _).mono (by omega))) gr2 (by simp; omega) g1b
  have o3 : W5.ownsRow w.heap.size 3 1 (.slice (some ⟨g2, 0, none⟩) (ks.length + 2) c2) (ks ++ [-77, -78]).length ((ks ++ [-77, -78]).map (Value.int .i64)) := by
    rw [List.length_append, List.map_append]
    exact o2
  obtain ⟨a, cap, hv, hk⟩ := IK.of_own o3
  injection hv with hv1 _ hv2
  subst hv1 hv2
  exact ⟨g1, c1, W3, r1, _, rfl, g2, c2, W5, fun ty => r2, ⟨hk, b2.trans b5, (owns_block o3 rfl).1, by
    rcases o3.2 with ⟨q, _⟩ | ⟨g', c', cur, q, _, hq, _⟩
    · cases q
    · injection q with q _ _
      injection q with q
      injection q with q _ _
      subst q
      exact ⟨cur, hq⟩⟩⟩
set_option maxHeartbeats 1000000 in
theorem lentInts_ik (w : World) (B : Nat) (ka : Option Addr) (kc : Nat) (ks : List Int) (hi : IntsV w B ka kc ks) (hB : B ≤ w.heap.size) (hl : ks.length ≤ 17592186044414) :
    Calls Tryd.prog 14 #[.slice ka ks.length kc] w fun e w' => ∃ g c, e = .returned (.slice (some ⟨g, 0, none⟩) ((ks.length + 2 : Nat)) c) ∧ Bx (IK w' (some ⟨g, 0, none⟩) c (ks ++ [-77, -78]) ∧ Below w.heap.size w w' ∧ w.heap.size ≤ g ∧ IlK w' g) := by
  obtain ⟨g1, c1, W3, run1, _, rfl, g2, c2, W5, run2, HL⟩ := lent_steps2 w B ka kc ks hi hB hl
  clear hi hl
  have HL2 : Bx (IK W5 (some ⟨g2, 0, none⟩) c2 (ks ++ [-77, -78]) ∧ Below w.heap.size w W5 ∧ w.heap.size ≤ g2 ∧ IlK W5 g2) := HL
  clear HL
  generalize ks ++ [-77, -78] = ks2 at *
  generalize ks.length = n at run1 run2 ⊢
  go_enter Tryd.func14, Tryd.ntmps14
  go_wp2_with (first
    | (at_builtin; refine wpList_appI rfl (.tmp 5) (.tmp 6) 26 rfl rfl rfl run1 ?_; clear run1)
    | (at_builtin; refine wpList_appI rfl (.tmp 8) (.tmp 9) 26 rfl rfl rfl run2 ?_; clear run2))
  go_ret
  exact ⟨g2, c2, rfl, HL2⟩
theorem IK.head {w : World} {g cap : Nat} {ks : List Int} (h : IK w (some ⟨g, 0, none⟩) cap (ks ++ [-77, -78])) : IK w (some ⟨g, 0, none⟩) cap ks := by
  have hl := h.cap
  have hm := h.max
  simp only [List.length_append] at hl hm
  refine ⟨by omega, by omega, fun h0 => ?_⟩
  obtain ⟨b, o, c, fz, e, hb, hc⟩ := h.at_ (by simp)
  exact ⟨b, o, c, fz, e, hb, fun i hi => by have := hc i (by simp; omega); rw [List.getElem_append_left hi] at this; exact this⟩
theorem one_slice (a : Option Addr) (n c : Nat) : ∀ u ∈ (#[Value.slice a n c] : Array Value).toList, u.oneCell' = true := by
  intro u hu
  simp at hu
  subst hu
  rfl
theorem pg_oneS (a b c : Int) (r : Bool) (x : Option Addr) (m n : Nat) : ∀ u ∈ (#[Value.int .i64 a, .int .i64 b, .int .i64 c, .bool r, .slice x m n] : Array Value).toList, u.oneCell' = true := by
  intro u hu
  simp only [List.mem_cons, List.not_mem_nil, or_false] at hu
  rcases hu with rfl | rfl | rfl | rfl | rfl <;> rfl
/-- what a step leaves: all blocks but those of some kinds; the variable's cell before the store -/
structure LStep (X X5 X6 : World) (B xb k : Nat) (e : TypeId) (old : Value) : Prop where
  keep : Kp (fun _ t => t ≠ e ∧ t ≠ 41) X X6
  bel : Below B X X6
  lt : xb < X5.heap.size
  cell : X5.cell? ⟨xb, k, none⟩ = some old
  froz : X5.frozen? ⟨xb, k, none⟩ = false

theorem ints_step {X : World} {B cut xb : Nat} {pv tv cv iv : Value} {ps : List CPg} {ts : List CTy} {cl : List (List CIn)} {il : List (List Int)} (h : LU X B cut xb pv tv cv iv ps ts cl il) (hB : B ≤ X.heap.size) (hxb : B ≤ xb) (hl : il.length ≤ 1099511627776) (ks : List Int) (gk ck : Nat) (hk : IK X (some ⟨gk, 0, none⟩) ck (ks ++ [-77, -78])) (hgk : B ≤ gk ∧ IlK X gk) :
    X.cell? ⟨xb, 5, none⟩ = some iv ∧ xb < X.heap.size ∧ ∃ g c X5, (∀ ty, (Builtin.append_ #[39, 39] ty #[iv, .slice (some ⟨X.heap.size, 0, none⟩) 1 1]).run Tryd.prog (X.alloc (.cells #[.slice (some ⟨gk, 0, none⟩) (ks.length + 2) ck] 26)) = .ok (.slice (some ⟨g, 0, none⟩) (il.length + 1) c) X5) ∧ LU (X5.setCell ⟨xb, 5, none⟩ (.slice (some ⟨g, 0, none⟩) (il.length + 1) c)) B cut xb pv tv cv (.slice (some ⟨g, 0, none⟩) (il.length + 1) c) ps ts cl (il ++ [ks]) ∧ LStep X X5 (X5.setCell ⟨xb, 5, none⟩ (.slice (some ⟨g, 0, none⟩) (il.length + 1) c)) B xb 5 26 iv := by
  obtain ⟨i0, hi0, hz0, hz1, hz2⟩ := info_parts infoSi
  obtain ⟨cs, hcs, ho⟩ := h.its.ex
  obtain ⟨g, c, X5, r, o5, g5⟩ := app1 Tryd.underlying39 hi0 hz0 hz1 hz2 rfl (by decide) X B iv il.length cs.flatten ho #[.slice (some ⟨gk, 0, none⟩) (ks.length + 2) ck] rfl (one_slice _ _ _) (by unfold maxLen; omega) (by omega) hB
  have hxl : xb < X.heap.size := (Array.getElem?_eq_some_iff.1 h.blk).1
  have k5 : Kp (fun x t => t ≠ 26 ∨ iv.ownBlock ≠ some x) X X5 := Kp.gr g5 (owns_kind ho)
  have e5 : X5.heap[xb]? = some (.cells #[.slice none 0 0, .slice none 0 0, pv, tv, cv, iv] 41 (0, 0)) := (k5.blk xb _ _ _ h.blk (.inl (by decide))).trans h.blk
  have k6 := Kp.set (i := 5) (v := (.slice (some ⟨g, 0, none⟩) (il.length + 1) c)) e5
  have K := k5.and k6
  have hs := K.size
  refine ⟨cell_blk h.blk rfl, hxl, g, c, X5, r, ⟨?_, ?_, ?_, ?_, ?_, Nat.le_trans h.cut_ hs⟩, ⟨K.mono fun x t ht => ⟨.inl ht.1, ht.2⟩, (((Below.refl B X).grown g5 hB fun x hx => (owns_block ho hx).1).setCell (p := ⟨xb, 5, none⟩) hxb _), (Array.getElem?_eq_some_iff.1 e5).1, cell_blk e5 rfl, by simp [World.frozen?, e5]⟩⟩
  · rw [heap_setCell_same X5 xb 5 _ _ _ e5]; rfl
  · exact h.tys.on (TyC.on K fun _ => ⟨.inl (by decide), by decide⟩) K fun _ _ => ⟨.inl (by decide), by decide⟩
  · refine ⟨cs ++ [(#[.slice (some ⟨gk, 0, none⟩) (ks.length + 2) ck] : Array Value).toList], All2.add ⟨gk, ck, rfl, (hk.onp K fun _ => ⟨.inl (by decide), by decide⟩), hgk.1, hgk.2.onp K ⟨.inl (by decide), by decide⟩⟩ (hcs.mono (SlI.on K fun _ => ⟨.inl (by decide), by decide⟩)), ?_⟩
    have e1 : (il ++ [ks]).length = il.length + 1 := by simp
    have e2 : (cs ++ [(#[.slice (some ⟨gk, 0, none⟩) (ks.length + 2) ck] : Array Value).toList]).flatten = cs.flatten ++ (#[.slice (some ⟨gk, 0, none⟩) (ks.length + 2) ck] : Array Value).toList := by simp
    rw [e1, e2]
    exact owns_on o5 k6 fun _ _ => by decide
  · exact h.pgs.on (PgC.on K (fun _ => ⟨.inl (by decide), by decide⟩) fun _ _ => ⟨.inl (by decide), by decide⟩) K fun _ _ => ⟨.inl (by decide), by decide⟩
  · exact h.cds.on (SlC.on K (fun _ => ⟨.inl (by decide), by decide⟩) fun _ _ => ⟨.inl (by decide), by decide⟩) K fun _ _ => ⟨.inl (by decide), by decide⟩
theorem tys_step {X : World} {B cut xb : Nat} {pv tv cv iv : Value} {ps : List CPg} {ts : List CTy} {cl : List (List CIn)} {il : List (List Int)} (h : LU X B cut xb pv tv cv iv ps ts cl il) (hB : B ≤ X.heap.size) (hxb : B ≤ xb) (hl : ts.length ≤ 1099511627776) (t : CTy) (ka : Option Addr) (kc : Nat) (hk : IK X ka kc t.kids) :
    X.cell? ⟨xb, 3, none⟩ = some tv ∧ xb < X.heap.size ∧ ∃ g c X5, (∀ ty, (Builtin.append_ #[34, 34] ty #[tv, .slice (some ⟨X.heap.size, 0, none⟩) 1 1]).run Tryd.prog (X.alloc (.cells #[.int .i64 t.kind, .slice ka t.kids.length kc, .bool t.res] 54)) = .ok (.slice (some ⟨g, 0, none⟩) (ts.length + 1) c) X5) ∧ LU (X5.setCell ⟨xb, 3, none⟩ (.slice (some ⟨g, 0, none⟩) (ts.length + 1) c)) B cut xb pv (.slice (some ⟨g, 0, none⟩) (ts.length + 1) c) cv iv ps (ts ++ [t]) cl il ∧ LStep X X5 (X5.setCell ⟨xb, 3, none⟩ (.slice (some ⟨g, 0, none⟩) (ts.length + 1) c)) B xb 3 54 tv := by
  obtain ⟨i0, hi0, hz0, hz1, hz2⟩ := info_parts infoTy
  obtain ⟨cs, hcs, ho⟩ := h.tys.ex
  obtain ⟨g, c, X5, r, o5, g5⟩ := app1 Tryd.underlying34 hi0 hz0 hz1 hz2 rfl (by decide) X B tv ts.length cs.flatten ho #[.int .i64 t.kind, .slice ka t.kids.length kc, .bool t.res] rfl (ty_oneR _ _ _ _ _) (by unfold maxLen; omega) (by omega) hB
  have hxl : xb < X.heap.size := (Array.getElem?_eq_some_iff.1 h.blk).1
  have k5 : Kp (fun x t => t ≠ 54 ∨ tv.ownBlock ≠ some x) X X5 := Kp.gr g5 (owns_kind ho)
  have e5 : X5.heap[xb]? = some (.cells #[.slice none 0 0, .slice none 0 0, pv, tv, cv, iv] 41 (0, 0)) := (k5.blk xb _ _ _ h.blk (.inl (by decide))).trans h.blk
  have k6 := Kp.set (i := 3) (v := (.slice (some ⟨g, 0, none⟩) (ts.length + 1) c)) e5
  have K := k5.and k6
  have hs := K.size
  refine ⟨cell_blk h.blk rfl, hxl, g, c, X5, r, ⟨?_, ?_, ?_, ?_, ?_, Nat.le_trans h.cut_ hs⟩, ⟨K.mono fun x t ht => ⟨.inl ht.1, ht.2⟩, (((Below.refl B X).grown g5 hB fun x hx => (owns_block ho hx).1).setCell (p := ⟨xb, 3, none⟩) hxb _), (Array.getElem?_eq_some_iff.1 e5).1, cell_blk e5 rfl, by simp [World.frozen?, e5]⟩⟩
  · rw [heap_setCell_same X5 xb 3 _ _ _ e5]; rfl
  · refine ⟨cs ++ [(#[.int .i64 t.kind, .slice ka t.kids.length kc, .bool t.res] : Array Value).toList], All2.add ⟨ka, kc, rfl, (hk.onp K fun _ => ⟨.inl (by decide), by decide⟩)⟩ (hcs.mono (TyC.on K fun _ => ⟨.inl (by decide), by decide⟩)), ?_⟩
    have e1 : (ts ++ [t]).length = ts.length + 1 := by simp
    have e2 : (cs ++ [(#[.int .i64 t.kind, .slice ka t.kids.length kc, .bool t.res] : Array Value).toList]).flatten = cs.flatten ++ (#[.int .i64 t.kind, .slice ka t.kids.length kc, .bool t.res] : Array Value).toList := by simp
    rw [e1, e2]
    exact owns_on o5 k6 fun _ _ => by decide
  · exact h.its.on (SlI.on K fun _ => ⟨.inl (by decide), by decide⟩) K fun _ _ => ⟨.inl (by decide), by decide⟩
  · exact h.pgs.on (PgC.on K (fun _ => ⟨.inl (by decide), by decide⟩) fun _ _ => ⟨.inl (by decide), by decide⟩) K fun _ _ => ⟨.inl (by decide), by decide⟩
  · exact h.cds.on (SlC.on K (fun _ => ⟨.inl (by decide), by decide⟩) fun _ _ => ⟨.inl (by decide), by decide⟩) K fun _ _ => ⟨.inl (by decide), by decide⟩
theorem pgs_step {X : World} {B cut xb : Nat} {pv tv cv iv : Value} {ps : List CPg} {ts : List CTy} {cl : List (List CIn)} {il : List (List Int)} (h : LU X B cut xb pv tv cv iv ps ts cl il) (hB : B ≤ X.heap.size) (hxb : B ≤ xb) (hl : ps.length ≤ 1099511627776) (p : CPg) (ca : Option Addr) (cc : Nat) (hk : OwnL InC X B 28 4 (.slice ca p.code.length cc) p.code) (hcut : ∀ g, (Value.slice ca p.code.length cc).ownBlock = some g → g < cut) :
    X.cell? ⟨xb, 2, none⟩ = some pv ∧ xb < X.heap.size ∧ ∃ g c X5, (∀ ty, (Builtin.append_ #[33, 33] ty #[pv, .slice (some ⟨X.heap.size, 0, none⟩) 1 1]).run Tryd.prog (X.alloc (.cells #[.int .i64 p.params, .int .i64 p.slots, .int .i64 p.caps, .bool p.res, .slice ca p.code.length cc] 57)) = .ok (.slice (some ⟨g, 0, none⟩) (ps.length + 1) c) X5) ∧ LU (X5.setCell ⟨xb, 2, none⟩ (.slice (some ⟨g, 0, none⟩) (ps.length + 1) c)) B cut xb (.slice (some ⟨g, 0, none⟩) (ps.length + 1) c) tv cv iv (ps ++ [p]) ts cl il ∧ LStep X X5 (X5.setCell ⟨xb, 2, none⟩ (.slice (some ⟨g, 0, none⟩) (ps.length + 1) c)) B xb 2 57 pv := by
  obtain ⟨i0, hi0, hz0, hz1, hz2⟩ := info_parts infoPg
  obtain ⟨cs, hcs, ho⟩ := h.pgs.ex
  obtain ⟨g, c, X5, r, o5, g5⟩ := app1 Tryd.underlying33 hi0 hz0 hz1 hz2 rfl (by decide) X B pv ps.length cs.flatten ho #[.int .i64 p.params, .int .i64 p.slots, .int .i64 p.caps, .bool p.res, .slice ca p.code.length cc] rfl (pg_oneS _ _ _ _ _ _ _) (by unfold maxLen; omega) (by omega) hB
  have hxl : xb < X.heap.size := (Array.getElem?_eq_some_iff.1 h.blk).1
  have k5 : Kp (fun x t => t ≠ 57 ∨ pv.ownBlock ≠ some x) X X5 := Kp.gr g5 (owns_kind ho)
  have e5 : X5.heap[xb]? = some (.cells #[.slice none 0 0, .slice none 0 0, pv, tv, cv, iv] 41 (0, 0)) := (k5.blk xb _ _ _ h.blk (.inl (by decide))).trans h.blk
  have k6 := Kp.set (i := 2) (v := (.slice (some ⟨g, 0, none⟩) (ps.length + 1) c)) e5
  have K := k5.and k6
  have hs := K.size
  refine ⟨cell_blk h.blk rfl, hxl, g, c, X5, r, ⟨?_, ?_, ?_, ?_, ?_, Nat.le_trans h.cut_ hs⟩, ⟨K.mono fun x t ht => ⟨.inl ht.1, ht.2⟩, (((Below.refl B X).grown g5 hB fun x hx => (owns_block ho hx).1).setCell (p := ⟨xb, 2, none⟩) hxb _), (Array.getElem?_eq_some_iff.1 e5).1, cell_blk e5 rfl, by simp [World.frozen?, e5]⟩⟩
  · rw [heap_setCell_same X5 xb 2 _ _ _ e5]; rfl
  · exact h.tys.on (TyC.on K fun _ => ⟨.inl (by decide), by decide⟩) K fun _ _ => ⟨.inl (by decide), by decide⟩
  · exact h.its.on (SlI.on K fun _ => ⟨.inl (by decide), by decide⟩) K fun _ _ => ⟨.inl (by decide), by decide⟩
  · refine ⟨cs ++ [(#[.int .i64 p.params, .int .i64 p.slots, .int .i64 p.caps, .bool p.res, .slice ca p.code.length cc] : Array Value).toList], All2.add ⟨_, rfl, hk.on (InC.on K fun _ => ⟨.inl (by decide), by decide⟩) K (fun _ _ => ⟨.inl (by decide), by decide⟩), hcut⟩ (hcs.mono (PgC.on K (fun _ => ⟨.inl (by decide), by decide⟩) fun _ _ => ⟨.inl (by decide), by decide⟩)), ?_⟩
    have e1 : (ps ++ [p]).length = ps.length + 1 := by simp
    have e2 : (cs ++ [(#[.int .i64 p.params, .int .i64 p.slots, .int .i64 p.caps, .bool p.res, .slice ca p.code.length cc] : Array Value).toList]).flatten = cs.flatten ++ (#[.int .i64 p.params, .int .i64 p.slots, .int .i64 p.caps, .bool p.res, .slice ca p.code.length cc] : Array Value).toList := by simp
    rw [e1, e2]
    exact owns_on o5 k6 fun _ _ => by decide
  · exact h.cds.on (SlC.on K (fun _ => ⟨.inl (by decide), by decide⟩) fun _ _ => ⟨.inl (by decide), by decide⟩) K fun _ _ => ⟨.inl (by decide), by decide⟩
theorem cds_step {X : World} {B cut xb : Nat} {pv tv cv iv : Value} {ps : List CPg} {ts : List CTy} {cl : List (List CIn)} {il : List (List Int)} (h : LU X B cut xb pv tv cv iv ps ts cl il) (hB : B ≤ X.heap.size) (hxb : B ≤ xb) (hl : cl.length ≤ 1099511627776) (l : List CIn) (ca : Option Addr) (cc : Nat) (hk : OwnL InC X B 28 4 (.slice ca (l.length + 1) cc) (l ++ [noIn])) (hcut : ∀ g, (Value.slice ca (l.length + 1) cc).ownBlock = some g → g < cut) :
    X.cell? ⟨xb, 4, none⟩ = some cv ∧ xb < X.heap.size ∧ ∃ g c X5, (∀ ty, (Builtin.append_ #[38, 38] ty #[cv, .slice (some ⟨X.heap.size, 0, none⟩) 1 1]).run Tryd.prog (X.alloc (.cells #[.slice ca (l.length + 1) cc] 55)) = .ok (.slice (some ⟨g, 0, none⟩) (cl.length + 1) c) X5) ∧ LU (X5.setCell ⟨xb, 4, none⟩ (.slice (some ⟨g, 0, none⟩) (cl.length + 1) c)) B cut xb pv tv (.slice (some ⟨g, 0, none⟩) (cl.length + 1) c) iv ps ts (cl ++ [l]) il ∧ LStep X X5 (X5.setCell ⟨xb, 4, none⟩ (.slice (some ⟨g, 0, none⟩) (cl.length + 1) c)) B xb 4 55 cv := by
  obtain ⟨i0, hi0, hz0, hz1, hz2⟩ := info_parts infoSn
  obtain ⟨cs, hcs, ho⟩ := h.cds.ex
  obtain ⟨g, c, X5, r, o5, g5⟩ := app1 Tryd.underlying38 hi0 hz0 hz1 hz2 rfl (by decide) X B cv cl.length cs.flatten ho #[.slice ca (l.length + 1) cc] rfl (one_slice _ _ _) (by unfold maxLen; omega) (by omega) hB
  have hxl : xb < X.heap.size := (Array.getElem?_eq_some_iff.1 h.blk).1
  have k5 : Kp (fun x t => t ≠ 55 ∨ cv.ownBlock ≠ some x) X X5 := Kp.gr g5 (owns_kind ho)
  have e5 : X5.heap[xb]? = some (.cells #[.slice none 0 0, .slice none 0 0, pv, tv, cv, iv] 41 (0, 0)) := (k5.blk xb _ _ _ h.blk (.inl (by decide))).trans h.blk
  have k6 := Kp.set (i := 4) (v := (.slice (some ⟨g, 0, none⟩) (cl.length + 1) c)) e5
  have K := k5.and k6
  have hs := K.size
  refine ⟨cell_blk h.blk rfl, hxl, g, c, X5, r, ⟨?_, ?_, ?_, ?_, ?_, Nat.le_trans h.cut_ hs⟩, ⟨K.mono fun x t ht => ⟨.inl ht.1, ht.2⟩, (((Below.refl B X).grown g5 hB fun x hx => (owns_block ho hx).1).setCell (p := ⟨xb, 4, none⟩) hxb _), (Array.getElem?_eq_some_iff.1 e5).1, cell_blk e5 rfl, by simp [World.frozen?, e5]⟩⟩
  · rw [heap_setCell_same X5 xb 4 _ _ _ e5]; rfl
  · exact h.tys.on (TyC.on K fun _ => ⟨.inl (by decide), by decide⟩) K fun _ _ => ⟨.inl (by decide), by decide⟩
  · exact h.its.on (SlI.on K fun _ => ⟨.inl (by decide), by decide⟩) K fun _ _ => ⟨.inl (by decide), by decide⟩
  · exact h.pgs.on (PgC.on K (fun _ => ⟨.inl (by decide), by decide⟩) fun _ _ => ⟨.inl (by decide), by decide⟩) K fun _ _ => ⟨.inl (by decide), by decide⟩
  · refine ⟨cs ++ [(#[.slice ca (l.length + 1) cc] : Array Value).toList], All2.add ⟨_, rfl, hk.on (InC.on K fun _ => ⟨.inl (by decide), by decide⟩) K (fun _ _ => ⟨.inl (by decide), by decide⟩), hcut⟩ (hcs.mono (SlC.on K (fun _ => ⟨.inl (by decide), by decide⟩) fun _ _ => ⟨.inl (by decide), by decide⟩)), ?_⟩
    have e1 : (cl ++ [l]).length = cl.length + 1 := by simp
    have e2 : (cs ++ [(#[.slice ca (l.length + 1) cc] : Array Value).toList]).flatten = cs.flatten ++ (#[.slice ca (l.length + 1) cc] : Array Value).toList := by simp
    rw [e1, e2]
    exact owns_on o5 k6 fun _ _ => by decide
end Go.Proofs.YtijdcplffmdijaaDoor
