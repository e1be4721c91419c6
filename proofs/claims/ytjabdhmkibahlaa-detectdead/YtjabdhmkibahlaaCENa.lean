import Derived.Test.YtjabdhmkibahlaaCGDb
import Derived.WalkMore
namespace Go.Proofs.Ytjabdhmkibahlaa
open Go.RowKit Go.MapKept Go.ChangeMaps Go.WideShapes
set_option linter.unusedVariables false
set_option linter.unusedSimpArgs false

def idsK (s : List Ag) : List Int := s.map (·.id)
def N0D (s : List Ag) : Int → Option Lk := ouD (hoD (whoD s) (atD s) (awD s)) (haD s) s
/-- what find may answer -/
def FdR (s : List Ag) (sought : Int) (Yr : Int → Option Wy) : Prop :=
  ∃ k A Y N, Lvl (whoD s) (atD s) (N0D s) k A Y N ∧ k ≤ 4097 ∧ Y sought = none ∧ ((∀ id, N id = none) ∧ Yr = Y ∨ (∃ l, N sought = some l ∧ Yr sought = some ((k : Int), l)) ∧ ∀ id, Yr id = Y id ∨ ∃ l, N id = some l ∧ Yr id = some ((k : Int), l))
theorem fd_start {w w1 w2 w4 : World} {p : Option Addr} {c wm nw na : Nat} {M : Int → Value} {s : List Ag} (hs : AgsR w p c s) (hl : s.length ≤ 4096) (ht : totA s ≤ 8589934592) (h1 : MpI w1 wm nw zV M (hasD s) ∧ WhoV w (whoD s) M ∧ nw ≤ s.length ∧ w.heap.size ≤ wm ∧ Below w.heap.size w w1) (h2 : AtI w1 w2 na (atD s)) (h4 : (w2.alloc (.map #[] 0)).alloc (.cells #[.map (some wm), .map (some w1.heap.size), .map (some w2.heap.size)] 100) = w4) :
    FdC w s wm w1.heap.size w2.heap.size (w2.heap.size + 1) (idsK s) ∧ (∃ m V, FdW w w4 s wm w1.heap.size w2.heap.size (w2.heap.size + 1) M nw m 0 V (atD s) (fun _ => none) (idsK s) ∧ SeR w4 (whoD s) wm nw M (hasD s) w1.heap.size m V (atD s)) ∧ Below w2.heap.size w2 w4 ∧ w4.heap.size = w2.heap.size + 2 := by
  have hK64 : ∀ k ∈ idsK s, I64 k := fun k hk => by
    obtain ⟨a, ha, rfl⟩ := List.mem_map.1 hk
    obtain ⟨i, hi, rfl⟩ := List.mem_iff_getElem.1 ha
    obtain ⟨_, _, _, _, _, _, _, h, _⟩ := hs.at_ i hi
    exact h.id
  obtain ⟨m, V, hm, hr, _⟩ := h2.rows (fun c x hx => by
    obtain ⟨a, ha, rfl, _⟩ := (atD_mem s c x).1 hx
    exact hK64 _ (List.mem_map.2 ⟨a, ha, rfl⟩))
  obtain ⟨_, _, _, _, _, _, hb2⟩ := h2
  have hb4 : Below w2.heap.size w2 w4 := by rw [← h4]; exact two_new _ _ _
  have hb02 := h1.2.2.2.2.trans (hb2.mono h1.2.2.2.2.size)
  have hb04 := hb02.trans (hb4.mono hb02.size)
  have hwl := h1.1.lt
  have ham := hm.lt
  have hby : WyM w4 w2.heap.size 0 (fun _ => none) := by
    have h5 : WyM (w2.alloc (.map #[] 0)) w2.heap.size 0 (fun _ => none) := mp_new w2 _
    have h6 := MpI.below h5 (below1 _ (.cells #[.map (some wm), .map (some w1.heap.size), .map (some w2.heap.size)] 100))
    rw [h4] at h6
    exact h6
  have hwho := (h1.1.below hb2).below hb4
  refine ⟨⟨h1.2.2.2.1, hwl, ham, by omega, by simpa [idsK] using hl, hK64⟩, ⟨m, V, ⟨hb04, by rw [← h4]; exact alloc_at (by simp), hwho, hm.below hb4, hr.later (KMp.below hb4), hby, Nat.zero_le _⟩, ⟨hwho, h1.2.1.later hb04, fun k => who_few (few2_of ht) k, hm.below hb4⟩⟩, hb4, by rw [← h4]; simp⟩
/-- a level, in memory -/
structure FdL (w X : World) (s : List Ag) (wm am ym sb : Nat) (M : Int → Value) (nw na : Nat) (V : Int → Value) (k : Nat) (A : Int → List Int) (Y : Int → Option Wy) (N : Int → Option Lk) (om n : Nat) (sought : Int) : Prop where
  fw : ∃ ny, FdW w X s wm am ym sb M nw na ny V A Y (idsK s)
  nx : LkM X om n N
  nn : n ≤ 4096
  lv : Lvl (whoD s) (atD s) (N0D s) k A Y N
  new : ∀ id, N id ≠ none → Y id = none ∧ id ∈ idsK s
  ak : ∀ c, ∀ id ∈ A c, id ∈ idsK s
  so : Y sought = none
  ord : sb < om
  lvl : k ≤ cntY Y (idsK s) + 1
theorem FdL.start {w w5 : World} {p : Option Addr} {c : Nat} {s : List Ag} {wm am ym sb : Nat} {M : Int → Value} {nw m om n0 : Nat} {V : Int → Value} {sought : Int} (hs : AgsR w p c s) (hc : FdC w s wm am ym sb (idsK s)) (h : FdW w w5 s wm am ym sb M nw m 0 V (atD s) (fun _ => none) (idsK s) ∧ LkM w5 om n0 (N0D s) ∧ n0 ≤ 4096) (ho : sb < om) : FdL w w5 s wm am ym sb M nw m V 1 (atD s) (fun _ => none) (N0D s) om n0 sought :=
  ⟨⟨0, h.1⟩, h.2.1, h.2.2, .one, fun id hi => ⟨rfl, ou_mem _ _ s id hi⟩, fun c id hi => by
    obtain ⟨a, ha, rfl, _⟩ := (atD_mem s c id).1 hi
    exact List.mem_map.2 ⟨a, ha, rfl⟩, rfl, ho, by omega⟩
/-- a level that is ranged over -/
structure FdP (w X : World) (s : List Ag) (wm am ym sb : Nat) (M : Int → Value) (nw na : Nat) (V : Int → Value) (k : Nat) (A : Int → List Int) (Y : Int → Option Wy) (N : Int → Option Lk) (om n : Nat) (sought : Int) (r : Nat) (left : Int → Bool) (cnt : Nat) (Yc : Int → Option Wy) : Prop where
  fw : ∃ ny, FdW w X s wm am ym sb M nw na ny V A Yc (idsK s)
  rg : RgI X om r n (lkV ⟨0, 0, 0⟩) (fun c => lkV (lk0 (N c))) (fun c => (N c).isSome) left cnt
  pt : PtY k Y N left sought Yc
  rr : om < r
  cn : cntY Y (idsK s) ≤ cntY Yc (idsK s)
theorem FdP.start {w X Z : World} {s : List Ag} {wm am ym sb nw na k om n cnt : Nat} {M V : Int → Value} {A : Int → List Int} {Y : Int → Option Wy} {N : Int → Option Lk} {sought : Int} (h : FdL w X s wm am ym sb M nw na V k A Y N om n sought) (hr : RgI Z om X.heap.size n (lkV ⟨0, 0, 0⟩) (fun c => lkV (lk0 (N c))) (fun c => (N c).isSome) (fun c => (N c).isSome) cnt) (hb : Below X.heap.size X Z) : FdP w Z s wm am ym sb M nw na V k A Y N om n sought X.heap.size (fun c => (N c).isSome) cnt Y := by
  obtain ⟨ny, hw⟩ := h.fw
  exact ⟨⟨ny, hw.below hb⟩, hr, PtY.start k Y N sought, MpI.lt h.nx, Nat.le_refl _⟩
theorem rows_turn {am r : Nat} {X Z : World} {V : Int → Value} {A : Int → List Int} {na : Nat} {hs : Int → Bool} (h : RowsK am X V A) (ha : MpI X am na nV V hs) (hg : X.grownBy Z (some r)) (hn : ∀ j, X.cell? ⟨r, j, none⟩ = none) : RowsK am Z V A := fun c => by
  obtain ⟨p, d, e, h1, h2, h3⟩ := h c
  refine ⟨p, d, e, h1, h2, fun i hi => ?_⟩
  obtain ⟨b, o, e1, h4, h5⟩ := h3 i hi
  refine ⟨b, o, e1, h4, fun T hT => ?_⟩
  have hx := h5 X (KMp.refl _ _)
  have hbx := World.block_lt_of_cell? X _ hx
  have hby : b ≠ r := fun e2 => by rw [e2, hn] at hx; cases hx
  have hba : b ≠ am := fun e2 => by
    obtain ⟨D, ⟨es, clock, h0, _⟩, _⟩ := ha.ex
    rw [e2] at hx
    simp only [World.cell?, h0] at hx
    cases hx
  have e3 : T.heap[b]? = X.heap[b]? := (hT.keep b (Nat.lt_of_lt_of_le hbx hg.size) hba).trans (hg.block b hbx (fun e => hby (by cases e; rfl)))
  rw [show T.cell? ⟨b, o + i, none⟩ = X.cell? ⟨b, o + i, none⟩ by simp only [World.cell?, e3]]
  exact hx
theorem FdW.turn {w X Z : World} {s : List Ag} {wm am ym sb nw na ny r : Nat} {M V : Int → Value} {A : Int → List Int} {Y : Int → Option Wy} {K : List Int} (h : FdW w X s wm am ym sb M nw na ny V A Y K) (hc : FdC w s wm am ym sb K) (hg : X.grownBy Z (some r)) (hr : sb < r) (hn : ∀ j, X.cell? ⟨r, j, none⟩ = none) : FdW w Z s wm am ym sb M nw na ny V A Y K := by
  obtain ⟨o1, o2, o3, o4, _, _⟩ := hc
  have hb : ∀ b, b < X.heap.size → b ≠ r → Z.heap[b]? = X.heap[b]? := fun b hb hn => hg.block b hb (fun e => hn (by cases e; rfl))
  exact ⟨h.bel.grown hg h.bel.size (fun r' e => by cases e; omega), (hb _ (Array.getElem?_eq_some_iff.1 h.blk).1 (by omega)).trans h.blk, h.who.same (hb _ h.who.lt (by omega)), h.at_.same (hb _ h.at_.lt (by omega)), rows_turn h.row h.at_ hg hn, MpI.same h.way (hb _ (MpI.lt h.way) (by omega)), h.cnt⟩
theorem fd_more {w wr w7 : World} {s : List Ag} {wm am ym sb nw na k om n r cnt cnt2 : Nat} {M V : Int → Value} {A : Int → List Int} {Y Yc : Int → Option Wy} {N : Int → Option Lk} {sought id : Int} {left : Int → Bool} (h : FdP w wr s wm am ym sb M nw na V k A Y N om n sought r left cnt Yc) (hc : FdC w s wm am ym sb (idsK s)) (hl : Lvl (whoD s) (atD s) (N0D s) k A Y N ∧ (∀ id, N id ≠ none → Y id = none ∧ id ∈ idsK s) ∧ (∀ c, ∀ id ∈ A c, id ∈ idsK s) ∧ Y sought = none ∧ n ≤ 4096 ∧ sb < om ∧ k ≤ cntY Y (idsK s) + 1) (h64 : I64 id) (hlf : left id = true) (hhs : (N id).isSome = true)
    (hrg : RgI w7 om r n (lkV ⟨0, 0, 0⟩) (fun c => lkV (lk0 (N c))) (fun c => (N c).isSome) (fun d => left d && !(d == id)) cnt2) (hg : wr.grownBy w7 (some r)) :
    ∃ l, N id = some l ∧ ∃ w8, w7.alloc (.cells #[.int .i64 l.waker, .int .i64 l.woken, .int .i64 l.chan] 24) = w8 ∧ w8.cell? ⟨sb, 2, none⟩ = some (.map (some ym)) ∧ w8.cell? ⟨w7.heap.size, 0, none⟩ = some (.int .i64 l.waker) ∧ w8.cell? ⟨w7.heap.size, 1, none⟩ = some (.int .i64 l.woken) ∧ w8.cell? ⟨w7.heap.size, 2, none⟩ = some (.int .i64 l.chan) ∧
      ∃ w9, (Instr.mapUpdate 80 (.map (some ym)) (.int .i64 id) (.agg #[.int .i64 k, .int .i64 l.waker, .int .i64 l.woken, .int .i64 l.chan])).run Try.prog w8 = .ok () w9 ∧ w9.cell? ⟨sb, 2, none⟩ = some (.map (some ym)) ∧
        Bx ((∃ ny, FdW w w9 s wm am ym sb M nw na ny V A (upd Yc id (some ((k : Int), l))) (idsK s)) ∧ (id ≠ sought → FdP w w9 s wm am ym sb M nw na V k A Y N om n sought r (fun d => left d && !(d == id)) cnt2 (upd Yc id (some ((k : Int), l)))) ∧ ∀ d, Yc d = Y d ∨ ∃ l, N d = some l ∧ Yc d = some ((k : Int), l)) := by
  obtain ⟨l, hNl⟩ := Option.isSome_iff_exists.1 hhs
  obtain ⟨ny, hw⟩ := h.fw
  have hnew := hl.2.1 id (by rw [hNl]; simp)
  have hYc : Yc id = none := by rw [h.pt.not id hlf]; exact hnew.1
  have hiter : ∀ j, wr.cell? ⟨r, j, none⟩ = none := fun j => by
    obtain ⟨D, lf, ⟨es, clock, since, seen, c0, _, _, _, _, hr, _⟩, _⟩ := h.rg.ex
    simp only [World.cell?, hr]
  have hsr : sb < r := by have := h.rr; have := hl.2.2.2.2.2.1; omega
  have hw7 := hw.turn hc hg hsr hiter
  have hb8 : Below w7.heap.size w7 (w7.alloc (.cells #[.int .i64 l.waker, .int .i64 l.woken, .int .i64 l.chan] 24)) := below1 _ _
  have hk8 : (w7.alloc (.cells #[.int .i64 l.waker, .int .i64 l.woken, .int .i64 l.chan] 24)).heap[w7.heap.size]? = some (.cells #[.int .i64 l.waker, .int .i64 l.woken, .int .i64 l.chan] 24 (0, 0)) := World.alloc_heap_new _ _
  have hw8 := hw7.below hb8
  have hny : ny ≤ 4096 := Nat.le_trans hw.cnt (Nat.le_trans (cntY_le _ _) hc.kl)
  obtain ⟨w9, hput, hm9, hg9⟩ := WyM.put2 hw8.way h64 (by unfold maxLen; omega) ((k : Int), l)
  have hw9 := hw8.put hc hnew.2 hYc hm9 hg9
  have hrg9 : RgI w9 om r n (lkV ⟨0, 0, 0⟩) (fun c => lkV (lk0 (N c))) (fun c => (N c).isSome) (fun d => left d && !(d == id)) cnt2 := by
    have o1 := hc.o4
    have o2 := hl.2.2.2.2.2.1
    refine (hrg.same (hb8.block _ hrg.lt.1) (hb8.block _ hrg.lt.2)).same (hg9.block _ (Nat.lt_of_lt_of_le hrg.lt.1 hb8.size) (fun e => by injection e with e; omega)) (hg9.block _ (Nat.lt_of_lt_of_le hrg.lt.2 hb8.size) (fun e => by injection e with e; omega))
  refine ⟨l, hNl, _, rfl, cell_of hw8.blk rfl, cell_of hk8 rfl, cell_of hk8 rfl, cell_of hk8 rfl, w9, hput, cell_of hw9.blk rfl, ⟨⟨_, hw9⟩, fun hne => ⟨⟨_, hw9⟩, hrg9, h.pt.put hNl hne, h.rr, ?_⟩, fun d => ?_⟩⟩
  · have := cntY_put (K := idsK s) ((k : Int), l) hYc hnew.2
    have := h.cn
    omega
  · cases hn : N d with
    | none => exact .inl (h.pt.no d hn)
    | some l' =>
      cases hld : left d with
      | true => exact .inl (h.pt.not d hld)
      | false => exact .inr ⟨l', rfl, h.pt.yes d l' hn hld⟩
theorem drew_alloc (w : World) (o : Obj) : Below w.heap.size w (w.drew.alloc o) := ((Below.refl w.heap.size w).drew).alloc (Nat.le_refl _) o
theorem ids_read {W : World} {B : Nat} {v : Value} {L : List Int} (h : W.ownsRow B 3 1 v L.length (rowC L)) (h64 : ∀ x ∈ L, I64 x) : ∃ q d, v = .slice q L.length d ∧ IntsR W q d L := by
  rcases h.2 with ⟨x1, x2⟩ | ⟨g, cap, cur, x1, _⟩
  · exact ⟨none, 0, by rw [x1, x2], by omega, by simp [maxLen], fun i hi => by omega⟩
  · rw [x1] at h
    exact ⟨_, _, x1, ints_own h h64⟩
theorem fd_open {w w8 : World} {s : List Ag} {wm am ym sb nw na ny hm nh : Nat} {M V : Int → Value} {A : Int → List Int} {Yc : Int → Option Wy} {L : List Int} (hv : WhoV w (whoD s) M) (hc : FdC w s wm am ym sb (idsK s)) (hK : ∀ c, ∀ id ∈ A c, id ∈ idsK s) (h : FdW w w8 s wm am ym sb M nw na ny V A Yc (idsK s) ∧ HoM w8 hm nh (hoD (whoD s) A L) ∧ nh ≤ 4096 * 8589934592 ∧ am < hm) (ht : totA s ≤ 8589934592) :
    Calls Try.prog 66 #[.agg #[.map (some wm), .map (some am), .map (some ym)], .map (some hm)] w8 fun e w' => ∃ om n O, e = .returned (.map (some om)) ∧ OpPost w8 w' am na (whoD s) (hoD (whoD s) A L) V A (fun k => (Yc k).isSome) (idsK s) om n O := by
  obtain ⟨o1, o2, o3, o4, o5, o6⟩ := hc
  exact open_any w w8 h.1.bel (whoD s) wm nw am na ym ny hm nh M V (hasD s) A Yc _ (idsK s) ⟨h.1.who, hv.later h.1.bel, fun k => who_few (few2_of ht) k, h.1.at_⟩ hv (by omega) h.1.row h.1.way h.2.1 (fun c hc => by
    obtain ⟨id, _, h2⟩ := ho_some _ _ _ _ hc
    exact who_held hv h2) hK o5 (by omega) (by omega) (by have := h.2.2.2; omega) h.2.2.1
theorem cntY_lt {Y Y' : Int → Option Wy} (hm : ∀ id, (Y id).isSome = true → (Y' id).isSome = true) {k : Int} (h1 : Y k = none) (h2 : (Y' k).isSome = true) : ∀ {K : List Int}, k ∈ K → cntY Y K + 1 ≤ cntY Y' K := by
  have mono : ∀ (K : List Int), cntY Y K ≤ cntY Y' K := by
    intro K
    induction K with
    | nil => exact Nat.le_refl _
    | cons x r ih =>
      unfold cntY at ih ⊢
      rw [List.filter_cons, List.filter_cons]
      cases hx : (Y x).isSome with
      | true => rw [hm x hx]; simp; omega
      | false =>
        cases hx' : (Y' x).isSome with
        | true => simp; omega
        | false => simpa using ih
  intro K hk
  induction K with
  | nil => cases hk
  | cons x r ih =>
    by_cases e : x = k
    · subst e
      have := mono r
      unfold cntY at this ⊢
      rw [List.filter_cons, List.filter_cons, h1, h2]
      simp
      omega
    · have h3 := ih (by rcases List.mem_cons.1 hk with h | h; exact absurd h.symm e; exact h)
      unfold cntY at h3 ⊢
      rw [List.filter_cons, List.filter_cons]
      cases hx : (Y x).isSome with
      | true => rw [hm x hx]; simp; omega
      | false =>
        cases hx' : (Y' x).isSome with
        | true => simp; omega
        | false => simpa using h3
theorem fd_next {w w8 w9 : World} {s : List Ag} {wm am ym sb nw na ny k om n om9 n9 : Nat} {M V : Int → Value} {A : Int → List Int} {Y Yc : Int → Option Wy} {N O9 : Int → Option Lk} {sought : Int} {L : List Int} (hc : FdC w s wm am ym sb (idsK s)) (hl : Lvl (whoD s) (atD s) (N0D s) k A Y N ∧ (∀ id, N id ≠ none → Y id = none ∧ id ∈ idsK s) ∧ (∀ c, ∀ id ∈ A c, id ∈ idsK s) ∧ Y sought = none ∧ n ≤ 4096 ∧ sb < om ∧ k ≤ cntY Y (idsK s) + 1) (hy : Yc = wyN k Y N ∧ N sought = none) (hq : ∃ c, I64 c ∧ (N c).isSome = true) (hw : FdW w w8 s wm am ym sb M nw na ny V A Yc (idsK s)) (hi : IdsOf N L) (hp : OpPost w8 w9 am na (whoD s) (hoD (whoD s) A L) V A (fun k => (Yc k).isSome) (idsK s) om9 n9 O9) :
    FdL w w9 s wm am ym sb M nw na (fun c => if ((hoD (whoD s) A L) c).isSome then nV else V c) (k + 1) (cutA (hoD (whoD s) A L) A) Yc O9 om9 n9 sought ∧ cntY Y (idsK s) + 1 ≤ cntY Yc (idsK s) ∧ k + 1 ≤ 4097 := by
  obtain ⟨h1, h2, h3, h4, h5, h6, h7⟩ := hl
  have hcnt : cntY Y (idsK s) + 1 ≤ cntY Yc (idsK s) := by
    obtain ⟨c, _, hcN⟩ := hq
    have hcn : N c ≠ none := by intro e; rw [e] at hcN; cases hcN
    refine cntY_lt (fun id hid => ?_) (h2 c hcn).1 ?_ (h2 c hcn).2
    · rw [hy.1]; unfold wyN; cases N id with
      | none => exact hid
      | some l => rfl
    · rw [hy.1]; unfold wyN; cases hn : N c with
      | none => exact absurd hn hcn
      | some l => rfl
  have hyl := cntY_le Y (idsK s)
  have hycl := cntY_le Yc (idsK s)
  have hkl := hc.kl
  refine ⟨⟨⟨ny, hw.opened hc hp⟩, hp.out, Nat.le_trans hp.cnt (Nat.le_trans (cnt_le _ _) hc.kl), ?_, fun id hid => ?_, fun c id hid => ?_, ?_, ?_, by omega⟩, hcnt, by omega⟩
  · have := Lvl.step h1 hi (N' := O9) (by have := hp.op; rw [hy.1] at this; exact this)
    rw [← hy.1] at this
    exact this
  · obtain ⟨_, q1, c, _, q2⟩ := hp.op.no id hid
    refine ⟨?_, h3 c id q2⟩
    cases hn : Yc id with
    | none => rfl
    | some l => simp [hn] at q1
  · unfold cutA at hid
    split at hid
    · cases hid
    · exact h3 c id hid
  · rw [hy.1]; unfold wyN; rw [hy.2]; exact h4
  · have := (Array.getElem?_eq_some_iff.1 hw.blk).1
    have := hp.new
    omega
set_option maxRecDepth 100000 in
set_option maxHeartbeats 4000000 in
theorem find_any (w : World) (p : Option Addr) (c : Nat) (s : List Ag) (sought : Int) (h : AgsR w p c s) (hl : s.length ≤ 4096) (ht : totA s ≤ 8589934592) (hso : I64 sought) :
    Calls Try.prog 50 #[.slice p s.length c, .int .i64 sought] w fun e w' => ∃ ym n Yr, e = .returned (.map (some ym)) ∧ WyM w' ym n Yr ∧ FdR s sought Yr ∧ n ≤ 4096 ∧ Below w.heap.size w w' := by
  have hlc := h.len
  have hcm := h.max
  unfold maxLen at hcm
  have hmm := @run_makeMap Try.prog
  have HS : Bx (AgsR w p c s) := ⟨h⟩
  clear h
  go_enter Try.func50, Try.ntmps50
  go_wp2
  go_step3
  go_wp2_with (first
    | (go_at_call 63; refine Calls.mono (byIdD_any w p c s HS.out hl) ?_; rintro e w1 ⟨wm, nw, M, rfl, hm1, hv1, hn1, ho1, hb1⟩; have I1 : Bx (MpI w1 wm nw zV M (hasD s) ∧ WhoV w (whoD s) M ∧ nw ≤ s.length ∧ w.heap.size ≤ wm ∧ Below w.heap.size w w1) := ⟨hm1, hv1, hn1, ho1, hb1⟩; clear hm1 hv1 hn1 ho1 hb1)
    | (go_at_call 64; refine Calls.mono (waitingD_any w1 p c s (HS.out.later I1.out.2.2.2.2) ht) ?_; rintro e w2 ⟨na, hna, rfl, hat⟩; obtain ⟨w4, hw4⟩ : ∃ w4, (w2.alloc (.map #[] 0)).alloc (.cells #[.map (some wm), .map (some w1.heap.size), .map (some w2.heap.size)] 100) = w4 := ⟨_, rfl⟩; have I2 := fd_start HS.out hl ht I1.out hat hw4; obtain ⟨FC, ⟨m, V, FW, SR⟩, hb4, hz4⟩ := I2; have HW4 : Bx (_ = w4) := ⟨hw4⟩; have HFC : Bx _ := ⟨FC⟩; have HFW : Bx _ := ⟨FW⟩; have HSR : Bx _ := ⟨SR⟩; have s0 : w4.cell? ⟨w2.heap.size + 1, 0, none⟩ = some (.map (some wm)) := cell_of FW.blk rfl; have s1 : w4.cell? ⟨w2.heap.size + 1, 1, none⟩ = some (.map (some w1.heap.size)) := cell_of FW.blk rfl; have s2 : w4.cell? ⟨w2.heap.size + 1, 2, none⟩ = some (.map (some w2.heap.size)) := cell_of FW.blk rfl; have HOU : Bx (Calls Try.prog 65 #[.agg #[.map (some wm), .map (some w1.heap.size), .map (some w2.heap.size)], .slice p s.length c] w4 fun e w' => ∃ om n, e = .returned (.map (some om)) ∧ LkM w' om n (N0D s) ∧ n ≤ s.length ∧ w4.heap.size ≤ om ∧ Below w4.heap.size w4 w') := ⟨outset_any w4 (whoD s) wm nw w1.heap.size m w2.heap.size M V (hasD s) (atD s) SR p c s (HS.out.later FW.bel) hl ht⟩; rw [← hw4] at s0 s1 s2; clear FC FW SR hb4 hz4 hw4 hat)
    | (go_at_call 65; rw [HW4.out]; refine Calls.mono HOU.out ?_; rintro e w5 ⟨om, n0, rfl, hN, hn0, hom, hb5⟩; have I5 : Bx (FdW w w5 s wm w1.heap.size w2.heap.size (w2.heap.size + 1) M nw m 0 V (atD s) (fun _ => none) (idsK s) ∧ LkM w5 om n0 (N0D s) ∧ n0 ≤ 4096 ∧ w4.heap.size ≤ om) := ⟨HFW.out.below hb5, hN, Nat.le_trans hn0 hl, hom⟩; clear hN hn0 hom hb5 s0 s1 s2 HOU HSR HFW))
  go_step3
  go_wp2
  have HWV : Bx (WhoV w (whoD s) M) := ⟨I1.out.2.1⟩
  have HB1 : Bx (w1.heap.size < w2.heap.size ∧ w4.heap.size = w2.heap.size + 2) := ⟨HFC.out.o3, by rw [← HW4.out]; simp⟩
  have HOm : Bx (w2.heap.size + 1 < om) := ⟨by have := I5.out.2.2.2; have := HB1.out.2; omega⟩
  have HI5 : Bx (FdW w w5 s wm w1.heap.size w2.heap.size (w2.heap.size + 1) M nw m 0 V (atD s) (fun _ => none) (idsK s) ∧ LkM w5 om n0 (N0D s) ∧ n0 ≤ 4096) := ⟨I5.out.1, I5.out.2.1, I5.out.2.2.1⟩
  clear I5 I1 HB1 HW4 hmm hna
  obtain ⟨sb, hsb⟩ : ∃ sb, w2.heap.size + 1 = sb := ⟨_, rfl⟩
  rw [hsb] at HI5 HFC HOm ⊢
  obtain ⟨ym, hym⟩ : ∃ ym, w2.heap.size = ym := ⟨_, rfl⟩
  rw [hym] at HI5 HFC ⊢
  obtain ⟨am, ham⟩ : ∃ am, w1.heap.size = am := ⟨_, rfl⟩
  rw [ham] at HI5 HFC ⊢
  clear hsb hym ham w1 w2 w4
  have HI : Bx (FdL w w5 s wm am ym sb M nw m V 1 (atD s) (fun _ => none) (N0D s) om n0 sought) := ⟨FdL.start HS.out HFC.out HI5.out HOm.out⟩
  clear HI5 HOm
  go_loopg [6, 7] ((idsK s).length + 1) (fun g v6 v7 wr => ∃ (k na : Nat) (V : Int → Value) (A : Int → List Int) (Y : Int → Option Wy) (N : Int → Option Lk) (om n : Nat), g = (idsK s).length + 1 - cntY Y (idsK s) ∧ v6 = .map (some om) ∧ v7 = .int .i64 (k : Nat) ∧ k ≤ 4097 ∧ Bx (FdL w wr s wm am ym sb M nw na V k A Y N om n sought))
  case atStart => exact ⟨1, m, V, _, _, _, om, n0, by have e : cntY (fun _ => none) (idsK s) = 0 := (by simp [cntY]); omega, rfl, rfl, by omega, HI⟩
  case round =>
    obtain ⟨k, na, V, A, Y, N, om, n, hg, rfl, rfl, hk, HR⟩ := hrel
    clear HI
    have s2 : wr.cell? ⟨sb, 2, none⟩ = some (.map (some ym)) := by obtain ⟨ny, hw⟩ := HR.out.fw; exact cell_of hw.blk rfl
    go_wp2_with (first
      | (at_len; refine lenI rfl (.tmp 19) 101 24 rfl Try.underlying101 om n (lkV ⟨0, 0, 0⟩) (fun c => lkV (lk0 (N c))) (fun c => (N c).isSome) Try.zeroValue24 rfl HR.out.nx ?_; intro q hqn hq1 hq2; rcases Nat.eq_zero_or_pos q with rfl | hz; rotate_left 1; (have gz : decide ((0 : Int) < ↑q) = true := (by simp; omega); have HQ1 : Bx (∃ c, I64 c ∧ (N c).isSome = true) := ⟨hq1 hz⟩; clear hq1 hq2))
      | (at_range; refine rangeI rfl (.tmp 24) 101 24 rfl Try.underlying101 om n (lkV ⟨0, 0, 0⟩) (fun c => lkV (lk0 (N c))) (fun c => (N c).isSome) rfl HR.out.nx ?_; intro w6 cnt hcnt hrg hb6 hz6; have R6 : Bx (FdP w w6 s wm am ym sb M nw na V k A Y N om n sought wr.heap.size (fun c => (N c).isSome) cnt Y) := ⟨FdP.start HR.out hrg hb6⟩; clear hrg hb6))
    · obtain ⟨r, hr⟩ : ∃ r, wr.heap.size = r := ⟨_, rfl⟩
      rw [hr] at R6 ⊢
      have HL : Bx (Lvl (whoD s) (atD s) (N0D s) k A Y N ∧ (∀ id, N id ≠ none → Y id = none ∧ id ∈ idsK s) ∧ (∀ c, ∀ id ∈ A c, id ∈ idsK s) ∧ Y sought = none ∧ n ≤ 4096 ∧ sb < om ∧ k ≤ cntY Y (idsK s) + 1) := ⟨HR.out.lv, HR.out.new, HR.out.ak, HR.out.so, HR.out.nn, HR.out.ord, HR.out.lvl⟩
      clear hr HR s2
      go_frame
      go_loopg [] cnt (fun g wr => ∃ (left : Int → Bool) (Yc : Int → Option Wy), Bx (FdP w wr s wm am ym sb M nw na V k A Y N om n sought r left g Yc))
      case atStart => exact ⟨_, _, R6⟩
      case round =>
        obtain ⟨left, Yc, HP⟩ := hrel
        clear R6
        obtain ⟨gk0, hgk0⟩ : ∃ x, x = gk := ⟨_, rfl⟩
        go_wp2_with (first
          | (at_next; refine nextI rfl (.tmp 25) rfl om r n (lkV ⟨0, 0, 0⟩) (fun c => lkV (lk0 (N c))) (fun c => (N c).isSome) left gk rfl HP.out.rg (fun hdn => ?_) (fun id w7 cnt2 hc64 hlf hhs hrg2 hlt2 hgr2 hsz2 hen => ?_); rotate_left 1; (obtain ⟨l, hNl, w8, hw8, t2, t3, t4, t5, w9, hput, u2, HF⟩ := fd_more HP.out HFC.out HL.out hc64 hlf hhs hrg2 hgr2; rw [hNl] at hen; simp only [lk0, lkV, Option.getD_some] at hen; have HW8 : Bx (_ = w8) := ⟨hw8⟩; rw [← hw8] at t2 t3 t4 t5 hput; clear hrg2 hgr2 hsz2 hw8; by_cases he : sought = id; (subst he); rotate_left 1; (have ge : (id == sought) = false := (by simpa using fun e => he e.symm); have HNE : Bx (id ≠ sought) := ⟨fun e => he e.symm⟩; clear he))))
        · go_roundg cnt2
          case measure => omega
          case rel => exact ⟨_, _, ⟨HF.out.2.1 HNE.out⟩⟩
        · obtain ⟨hYe, hNs⟩ := HP.out.pt.done hdn (fun c hc => HFC.out.k64 c (HL.out.2.1 c hc).2)
          obtain ⟨ny, hw⟩ := HP.out.fw
          have HW0 : Bx (FdW w wr s wm am ym sb M nw na ny V A Yc (idsK s)) := ⟨hw⟩
          have HNX : Bx (MpI wr om n (lkV ⟨0, 0, 0⟩) (fun c => lkV (lk0 (N c))) (fun c => (N c).isSome)) := ⟨HP.out.rg.map⟩
          have HYE : Bx (Yc = wyN k Y N ∧ N sought = none) := ⟨hYe, hNs⟩
          have HC : Bx (∀ Z, KMp am wr Z → Z.cell? ⟨sb, 0, none⟩ = some (.map (some wm)) ∧ Z.cell? ⟨sb, 1, none⟩ = some (.map (some am)) ∧ Z.cell? ⟨sb, 2, none⟩ = some (.map (some ym))) := ⟨fun Z hZ => by
            have e := (hZ.keep sb (Array.getElem?_eq_some_iff.1 hw.blk).1 (by have := HFC.out.o3; have := HFC.out.o4; omega)).trans hw.blk
            exact ⟨cell_of e rfl, cell_of e rfl, cell_of e rfl⟩⟩
          have hn31 : n ≤ 2147483647 := by have := HL.out.2.2.2.2.1; omega
          clear HP hdn hYe hNs hw
          obtain ⟨c0, c1, c2⟩ := HC.out wr (KMp.refl _ _)
          go_region_held3 (fun Z => Z.cell? ⟨sb, 0, none⟩ = some (.map (some wm)) ∧ Z.cell? ⟨sb, 1, none⟩ = some (.map (some am)) ∧ Z.cell? ⟨sb, 2, none⟩ = some (.map (some ym)))
            (first | exact HC.out _ hz9 | exact HC.out _ hz8 | exact HC.out _ hz7 | exact HC.out _ hz6 | exact HC.out _ (KMp.below ((Below.refl _ _).drew)))
            (first
              | (go_at_call 68; refine Calls.mono (keysL_any om _) ?_; rintro e w6 ⟨rfl, hw6⟩; have E6 : Bx _ := ⟨hw6⟩; have hb6 : Below wr.heap.size wr w6 := (by rw [hw6]; exact drew_alloc wr _); have hz6 : KMp am wr w6 := KMp.below hb6; clear hw6)
              | (go_at_call 40; refine Calls.mono (sortedL_any _ om n _ _ _ (HNX.out.below ((Below.refl _ _).drew)) hn31 w6 E6.out) ?_; rintro e w7 ⟨v7, L, rfl, ho7, hL1, hL2, hL3, hb7⟩; obtain ⟨q7, d7, rfl, hq7⟩ := ids_read ho7 (fun k hk => ((hL2 k).1 hk).1); have I7 : Bx (FdW w w7 s wm am ym sb M nw na ny V A Yc (idsK s) ∧ IdsOf N L ∧ L.length ≤ 4096 ∧ IntsR w7 q7 d7 L) := ⟨HW0.out.below (hb6.trans (hb7.mono hb6.size)), ⟨hL1, fun k => ⟨fun hk => ((hL2 k).1 hk).2, fun hk => (hL2 k).2 ⟨HFC.out.k64 k (HL.out.2.1 k (by intro e; rw [e] at hk; cases hk)).2, hk⟩⟩⟩, Nat.le_trans hL3 HL.out.2.2.2.2.1, hq7⟩; have hb7' : Below wr.heap.size wr w7 := hb6.trans (hb7.mono hb6.size); have hz7 : KMp am wr w7 := KMp.below hb7'; clear ho7 hL1 hL2 hL3 hb7 hq7)
              | (go_at_call 67; refine Calls.mono (holders_any w7 (whoD s) wm nw am na ym M V (hasD s) A ⟨I7.out.1.who, HWV.out.later I7.out.1.bel, fun k => who_few (few2_of ht) k, I7.out.1.at_⟩ q7 d7 L I7.out.2.2.2 I7.out.2.2.1) ?_; rintro e w8 ⟨hm, nh, rfl, hho, hnh, hnew, hb8⟩; have I8 : Bx (FdW w w8 s wm am ym sb M nw na ny V A Yc (idsK s) ∧ HoM w8 hm nh (hoD (whoD s) A L) ∧ nh ≤ 4096 * 8589934592 ∧ am < hm) := ⟨I7.out.1.below hb8, hho, hnh, Nat.lt_of_lt_of_le I7.out.1.at_.lt hnew⟩; have hb8' : Below wr.heap.size wr w8 := hb7'.trans (hb8.mono hb7'.size); have hz8 : KMp am wr w8 := KMp.below hb8'; clear hho hnh hnew hb8)
              | (go_at_call 66; refine Calls.mono (fd_open HWV.out HFC.out HL.out.2.2.1 I8.out ht) ?_; rintro e w9 ⟨om9, n9, O9, rfl, hop9⟩; have I9 : Bx (OpPost w8 w9 am na (whoD s) (hoD (whoD s) A L) V A (fun k => (Yc k).isSome) (idsK s) om9 n9 O9) := ⟨hop9⟩; have hz9 : KMp am wr w9 := hz8.trans hop9.kmp; clear hop9))
          have HX := fd_next HFC.out HL.out HYE.out HQ1.out I8.out.1 I7.out.2.1 I9.out
          have HX1 : Bx (FdL w w9 s wm am ym sb M nw na _ (k + 1) _ Yc O9 om9 n9 sought) := ⟨HX.1⟩
          have hx2 := HX.2.1
          have hx3 := HX.2.2
          have hx4 := cntY_le Yc (idsK s)
          clear HX
          go_wp2
          go_roundg ((idsK s).length + 1 - cntY Yc (idsK s))
          case measure => omega
          case rel => exact ⟨k + 1, na, _, _, Yc, O9, om9, n9, rfl, rfl, by simp, by omega, HX1⟩
        · obtain ⟨ny, hw⟩ := HF.out.1
          have HP2 : Bx (WyM w9 ym ny (upd Yc sought (some ((k : Int), l))) ∧ FdR s sought (upd Yc sought (some ((k : Int), l))) ∧ ny ≤ 4096 ∧ Below w.heap.size w w9) := ⟨hw.way, ⟨k, A, Y, N, HL.out.1, hk, HL.out.2.2.2.1, .inr ⟨⟨l, hNl, upd_same _ _ _⟩, fun d => by
            by_cases e : d = sought
            · subst e; exact .inr ⟨l, hNl, upd_same _ _ _⟩
            · rw [upd_other _ _ e]; exact HF.out.2.2 d⟩⟩, Nat.le_trans hw.cnt (Nat.le_trans (cntY_le _ _) HFC.out.kl), hw.bel⟩
          rw [Exit.noGoto_ret]
          go_ret
          exact ⟨ym, ny, _, rfl, HP2.out⟩
    · have HN : Bx (∀ id, N id = none) := ⟨fun id => by
        cases hn : N id with
        | none => rfl
        | some l =>
          have h1 := HR.out.new id (by rw [hn]; simp)
          have := hq2 ⟨id, HFC.out.k64 id h1.2, by rw [hn]; rfl⟩
          omega⟩
      obtain ⟨ny, hw⟩ := HR.out.fw
      have HF : Bx (WyM wr ym ny Y ∧ FdR s sought Y ∧ ny ≤ 4096 ∧ Below w.heap.size w wr) := ⟨hw.way, ⟨k, A, Y, N, HR.out.lv, hk, HR.out.so, .inl ⟨HN.out, rfl⟩⟩, Nat.le_trans hw.cnt (Nat.le_trans (cntY_le _ _) HFC.out.kl), hw.bel⟩
      rw [Exit.noGoto_ret]
      go_ret
      exact ⟨ym, ny, Y, rfl, HF.out⟩
end Go.Proofs.Ytjabdhmkibahlaa
