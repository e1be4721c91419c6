import Derived.Test.YtikijkpklneihaaCVCh
namespace Go.Proofs.Ytikijkpklneihaa
open Go.RowKit
set_option linter.unusedVariables false
set_option linter.unusedSimpArgs false

/-- numbers in memory -/
structure Pth (W : World) (B : Nat) (p : Option Addr) (cap : Nat) (ks : List Int) : Prop where
  len : ks.length ≤ cap
  max : cap ≤ maxLen
  at_ : ∀ i (h : i < ks.length), ∃ b o, p = some ⟨b, o, none⟩ ∧ b < B ∧ W.cell? ⟨b, o + i, none⟩ = some (.int .i64 ks[i]) ∧ I64 ks[i]
theorem Pth.lo {W W' : World} {B : Nat} {p : Option Addr} {cap : Nat} {ks : List Int} (h : Pth W B p cap ks) (hl : Lo B W W') : Pth W' B p cap ks :=
  ⟨h.len, h.max, fun i hi => by
    obtain ⟨b, o, e, hb, h1, h2⟩ := h.at_ i hi
    exact ⟨b, o, e, hb, by rw [hl.cell _ _ hb]; exact h1, h2⟩⟩
theorem Pth.up {W : World} {B B' : Nat} {p : Option Addr} {cap : Nat} {ks : List Int} (h : Pth W B p cap ks) (hB : B ≤ B') : Pth W B' p cap ks :=
  ⟨h.len, h.max, fun i hi => by
    obtain ⟨b, o, e, hb, h1, h2⟩ := h.at_ i hi
    exact ⟨b, o, e, by omega, h1, h2⟩⟩

/-- a value goes on at a number -/
def goesI (x : V) (k : Int) : Bool := ((x.k == 3) || (x.k == 4)) && (decide (0 ≤ k) && decide (k < (x.l.length : Int)))
/-- the part at a path -/
def findV : V → List Int → Option V
  | x, [] => some x
  | x, k :: ks => if goesI x k then findV (x.l.getD k.toNat v0) ks else none
theorem goes_lt {x : V} {k : Int} (h : goesI x k = true) : 0 ≤ k ∧ k.toNat < x.l.length := by
  simp only [goesI, Bool.and_eq_true, decide_eq_true_eq] at h
  omega
theorem find_sz {x y : V} {ks : List Int} (h : findV x ks = some y) : y.sz ≤ x.sz := by
  induction ks generalizing x with
  | nil => simp [findV] at h; subst h; exact Nat.le_refl _
  | cons k ks ih =>
    simp only [findV] at h
    split at h
    · rename_i hg
      have hl := (goes_lt hg).2
      have := ih h
      rw [List.getD, List.getElem?_eq_getElem hl] at this
      have h2 := szs_mem (List.getElem_mem hl)
      rw [V.sz_eq x]
      simp at this
      omega
    · cases h
theorem set3 {W : World} {A : Nat} {x y z a b c : Value} {t : TypeId} (h : W.heap[A]? = some (.cells #[x, y, z] t (0, 0))) :
    (((W.setCell ⟨A, 0, none⟩ a).setCell ⟨A, 1, none⟩ b).setCell ⟨A, 2, none⟩ c).heap[A]? = some (.cells #[a, b, c] t (0, 0)) := by
  simp [World.setCell, Array.getElem?_modify, h]
theorem c3 {W : World} {A : Nat} {x y z : Value} {t : TypeId} (h : W.heap[A]? = some (.cells #[x, y, z] t (0, 0))) :
    W.cell? ⟨A, 0, none⟩ = some x ∧ W.cell? ⟨A, 1, none⟩ = some y ∧ W.cell? ⟨A, 2, none⟩ = some z ∧ W.frozen? ⟨A, 0, none⟩ = false ∧ W.frozen? ⟨A, 1, none⟩ = false ∧ W.frozen? ⟨A, 2, none⟩ = false ∧ A < W.heap.size := by
  refine ⟨?_, ?_, ?_, ?_, ?_, ?_, (Array.getElem?_eq_some_iff.1 h).1⟩ <;> simp [World.cell?, World.frozen?, h]
theorem set3_other {W : World} {A b : Nat} (x y z : Value) (h : b ≠ A) : (((W.setCell ⟨A, 0, none⟩ x).setCell ⟨A, 1, none⟩ y).setCell ⟨A, 2, none⟩ z).heap[b]? = W.heap[b]? := by
  rw [Below.heap_setCell _ _ _ _ h, Below.heap_setCell _ _ _ _ h, Below.heap_setCell _ _ _ _ h]
theorem below3 {B A : Nat} {w W : World} (h : Below B w W) (hA : B ≤ A) (x y z : Value) : Below B w (((W.setCell ⟨A, 0, none⟩ x).setCell ⟨A, 1, none⟩ y).setCell ⟨A, 2, none⟩ z) :=
  ((h.setCell (p := ⟨A, 0, none⟩) hA _).setCell (p := ⟨A, 1, none⟩) hA _).setCell (p := ⟨A, 2, none⟩) hA _

/-- what find answers -/
def FiPost (w : World) (B : Nat) (x : V) (ks : List Int) (e : Ending) (w' : World) : Prop :=
  (∃ y u, findV x ks = some y ∧ e = .returned (.tuple #[u, .bool true]) ∧ IsV w' B u y ∧ Below w.heap.size w w') ∨ (findV x ks = none ∧ e = .returned (.tuple #[pv 0 0, .bool false]) ∧ Below w.heap.size w w')

set_option maxRecDepth 100000 in
set_option maxHeartbeats 2000000 in
theorem find_any (w : World) (B : Nat) (v : Value) (x : V) (pp : Option Addr) (pc : Nat) (ks : List Int) (hv : IsV w B v x) (hp : Pth w B pp pc ks) (hB : B ≤ w.heap.size) :
    Calls Try.prog 21 #[v, .slice pp ks.length pc] w (FiPost w B x ks) := by
  obtain ⟨⟨p, cap, rfl, h1⟩, h2, h3⟩ := hv
  obtain ⟨A, hA⟩ : ∃ A, A = w.heap.size := ⟨_, rfl⟩
  have hpl := hp.len
  have hpm := hp.max
  unfold maxLen at hpm
  have HP : Bx _ := ⟨hp⟩
  have HL : Bx _ := ⟨h1⟩
  have HA : Bx (A = w.heap.size) := ⟨hA⟩
  have HK : Bx (I64 x.k ∧ I64 x.n) := ⟨h2, h3⟩
  clear hp h1 h2 h3
  go_enter Try.func21, Try.ntmps21
  go_wp2
  rw [← hA]
  obtain ⟨W0, hW0⟩ : ∃ W0, (w.alloc (Obj.cells #[Value.int IntKind.i64 x.k, Value.int IntKind.i64 x.n, Value.slice p x.l.length cap] 24)).alloc z3 = W0 := ⟨_, rfl⟩
  have hb0 : Below A w W0 := by rw [hA, ← hW0]; exact two_new _ _ _
  have ha0 : W0.heap[A]? = some (Obj.cells #[Value.int IntKind.i64 x.k, Value.int IntKind.i64 x.n, Value.slice p x.l.length cap] 24) := by
    rw [hA, ← hW0]; exact (Below.heap_alloc _ _ _ (by simp)).trans (World.alloc_heap_new _ _)
  have ha1 : W0.heap[A + 1]? = some z3 := by rw [hA, ← hW0]; exact alloc_at _ _ _
  rw [hW0]
  clear hW0 hA
  have HS0 : Bx (Below A w W0 ∧ W0.heap[A]? = some (Obj.cells #[Value.int IntKind.i64 x.k, Value.int IntKind.i64 x.n, Value.slice p x.l.length cap] 24) ∧ W0.heap[A + 1]? = some z3) := ⟨hb0, ha0, ha1⟩
  clear hb0 ha0 ha1
  go_loopg [10] ks.length (fun k iv wr => ∃ (i : Nat) (y : V) (q : Option Addr) (d : Nat), k = ks.length - i ∧ i ≤ ks.length ∧ iv = .int .i64 i ∧ Bx (findV x ks = findV y (ks.drop i) ∧ Below A w wr ∧ wr.heap[A]? = some (Obj.cells #[.int .i64 y.k, .int .i64 y.n, .slice q y.l.length d] 24) ∧ wr.heap[A + 1]? = some z3 ∧ SlV wr B q d y.l ∧ I64 y.k ∧ I64 y.n))
  case atStart => exact ⟨0, x, p, cap, by simp, by omega, rfl, ⟨by simp, HS0.out.1, HS0.out.2.1, HS0.out.2.2, HL.out.lo (Lo.of (HS0.out.1.mono (by have := HA.out; omega))), HK.out.1, HK.out.2⟩⟩
  case round =>
    obtain ⟨i, y, q, d, hk, hil, rfl, HS⟩ := hrel
    clear HS0
    obtain ⟨c0, c1, c2, f0, f1, f2, hAl⟩ := c3 HS.out.2.2.1
    obtain ⟨z0, z1, z2, g0, g1, g2, hAl'⟩ := c3 HS.out.2.2.2.1
    by_cases hlt : i < ks.length
    · obtain ⟨b, o, rfl, hb, p0, p1⟩ := (HP.out.lo (Lo.of (HS.out.2.1.mono (by have := HA.out; omega)))).at_ i hlt
      have hfd : findV y (ks.drop i) = if goesI y ks[i] then findV (y.l.getD ks[i].toNat v0) (ks.drop (i + 1)) else none := by rw [List.drop_eq_getElem_cons hlt, findV]
      have HFD : Bx _ := ⟨hfd⟩
      obtain ⟨e, he⟩ : ∃ e, e = ks[i] := ⟨_, rfl⟩
      rw [← he] at HFD p0 p1
      clear hfd he
      have HNO : Bx (goesI y e = false → (findV x ks = none ∧ Below A w (((wr.setCell ⟨A + 1, 0, none⟩ (.int .i64 0)).setCell ⟨A + 1, 1, none⟩ (.int .i64 0)).setCell ⟨A + 1, 2, none⟩ (.slice none 0 0)))) := ⟨fun h => ⟨by rw [HS.out.1, HFD.out, h]; rfl, below3 HS.out.2.1 (by omega) _ _ _⟩⟩
      by_cases hk3 : y.k = 3 ∨ y.k = 4
      · by_cases h0 : 0 ≤ e
        · by_cases h4 : e < (y.l.length : Int)
          · obtain ⟨j, rfl⟩ : ∃ j : Nat, e = j := ⟨e.toNat, by omega⟩
            have hj : j < y.l.length := by omega
            have hg : goesI y j = true := by rcases hk3 with h | h <;> simp [goesI, h, hj]
            obtain ⟨b', o', r, rc, rfl, hb', d0, d1, d2, hR, e1, e2⟩ := HS.out.2.2.2.2.1.at3 j hj
            have hyl : y.l.length ≤ d := HS.out.2.2.2.2.1.1
            have hym : d ≤ maxLen := HS.out.2.2.2.2.1.2.1
            unfold maxLen at hym
            have hbA : b' ≠ A := by have := HA.out; omega
            have HG : Bx (findV x ks = findV y.l[j] (ks.drop (i + 1)) ∧ Below A w (((wr.setCell ⟨A, 0, none⟩ (.int .i64 y.l[j].k)).setCell ⟨A, 1, none⟩ (.int .i64 y.l[j].n)).setCell ⟨A, 2, none⟩ (.slice r y.l[j].l.length rc)) ∧
              (((wr.setCell ⟨A, 0, none⟩ (.int .i64 y.l[j].k)).setCell ⟨A, 1, none⟩ (.int .i64 y.l[j].n)).setCell ⟨A, 2, none⟩ (.slice r y.l[j].l.length rc)).heap[A]? = some (Obj.cells #[.int .i64 y.l[j].k, .int .i64 y.l[j].n, .slice r y.l[j].l.length rc] 24) ∧
              (((wr.setCell ⟨A, 0, none⟩ (.int .i64 y.l[j].k)).setCell ⟨A, 1, none⟩ (.int .i64 y.l[j].n)).setCell ⟨A, 2, none⟩ (.slice r y.l[j].l.length rc)).heap[A + 1]? = some z3 ∧
              SlV (((wr.setCell ⟨A, 0, none⟩ (.int .i64 y.l[j].k)).setCell ⟨A, 1, none⟩ (.int .i64 y.l[j].n)).setCell ⟨A, 2, none⟩ (.slice r y.l[j].l.length rc)) B r rc y.l[j].l ∧ I64 y.l[j].k ∧ I64 y.l[j].n) :=
              ⟨by rw [HS.out.1, HFD.out, hg]; simp [List.getD, List.getElem?_eq_getElem hj], below3 HS.out.2.1 (Nat.le_refl _) _ _ _, set3 HS.out.2.2.1, (set3_other _ _ _ (by omega)).trans HS.out.2.2.2.1, hR.lo (Lo.blocks fun b hb => set3_other _ _ _ (by have := HA.out; omega)), e1, e2⟩
            clear HS HFD HNO hR hg
            by_cases h3 : y.k = 3
            · have hb3 : (y.k != 3) = false := by simpa using h3
              clear h3 hk3
              go_wp2
              go_roundg (ks.length - (i + 1))
              case measure => omega
              case rel => exact ⟨i + 1, y.l[j], r, rc, rfl, by omega, by simp, HG⟩
            · have hb3 : (y.k != 3) = true := by simpa using h3
              have hb4 : (y.k != 4) = false := by rcases hk3 with h | h; exact absurd h h3; simpa using h
              clear h3 hk3
              go_wp2
              go_roundg (ks.length - (i + 1))
              case measure => omega
              case rel => exact ⟨i + 1, y.l[j], r, rc, rfl, by omega, by simp, HG⟩
          · have HN : Bx _ := ⟨HNO.out (by simp [goesI, h4])⟩
            clear HS HFD HNO
            by_cases h3 : y.k = 3
            · have hb3 : (y.k != 3) = false := by simpa using h3
              clear h3 hk3
              go_wp2
              refine bodyPost_ret (v := .tuple #[pv 0 0, .bool false]) (by simp [results, Try.results21, go_sem, z0, z1, z2, hAl']) rfl (.inr ⟨HN.out.1, rfl, by rw [← HA.out]; exact HN.out.2⟩)
            · have hb3 : (y.k != 3) = true := by simpa using h3
              have hb4 : (y.k != 4) = false := by rcases hk3 with h | h; exact absurd h h3; simpa using h
              clear h3 hk3
              go_wp2
              refine bodyPost_ret (v := .tuple #[pv 0 0, .bool false]) (by simp [results, Try.results21, go_sem, z0, z1, z2, hAl']) rfl (.inr ⟨HN.out.1, rfl, by rw [← HA.out]; exact HN.out.2⟩)
        · have HN : Bx _ := ⟨HNO.out (by simp [goesI, h0])⟩
          clear HS HFD HNO
          by_cases h3 : y.k = 3
          · have hb3 : (y.k != 3) = false := by simpa using h3
            clear h3 hk3
            go_wp2
            refine bodyPost_ret (v := .tuple #[pv 0 0, .bool false]) (by simp [results, Try.results21, go_sem, z0, z1, z2, hAl']) rfl (.inr ⟨HN.out.1, rfl, by rw [← HA.out]; exact HN.out.2⟩)
          · have hb3 : (y.k != 3) = true := by simpa using h3
            have hb4 : (y.k != 4) = false := by rcases hk3 with h | h; exact absurd h h3; simpa using h
            clear h3 hk3
            go_wp2
            refine bodyPost_ret (v := .tuple #[pv 0 0, .bool false]) (by simp [results, Try.results21, go_sem, z0, z1, z2, hAl']) rfl (.inr ⟨HN.out.1, rfl, by rw [← HA.out]; exact HN.out.2⟩)
      · have h3 : ¬ y.k = 3 := fun h => hk3 (.inl h)
        have h4 : ¬ y.k = 4 := fun h => hk3 (.inr h)
        have HN : Bx _ := ⟨HNO.out (by simp [goesI, h3, h4])⟩
        have hb3 : (y.k != 3) = true := by simpa using h3
        have hb4 : (y.k != 4) = true := by simpa using h4
        clear HS HFD HNO h3 h4 hk3
        go_wp2
        refine bodyPost_ret (v := .tuple #[pv 0 0, .bool false]) (by simp [results, Try.results21, go_sem, z0, z1, z2, hAl']) rfl (.inr ⟨HN.out.1, rfl, by rw [← HA.out]; exact HN.out.2⟩)
    · have hie : i = ks.length := by omega
      subst hie
      have HF : Bx (findV x ks = some y ∧ IsV (((wr.setCell ⟨A + 1, 0, none⟩ (.int .i64 y.k)).setCell ⟨A + 1, 1, none⟩ (.int .i64 y.n)).setCell ⟨A + 1, 2, none⟩ (.slice q y.l.length d)) B (.agg #[.int .i64 y.k, .int .i64 y.n, .slice q y.l.length d]) y ∧ Below A w (((wr.setCell ⟨A + 1, 0, none⟩ (.int .i64 y.k)).setCell ⟨A + 1, 1, none⟩ (.int .i64 y.n)).setCell ⟨A + 1, 2, none⟩ (.slice q y.l.length d))) :=
        ⟨by rw [HS.out.1]; simp [findV], ⟨⟨q, d, rfl, HS.out.2.2.2.2.1.lo (Lo.blocks fun b hb => set3_other _ _ _ (by have := HA.out; omega))⟩, HS.out.2.2.2.2.2.1, HS.out.2.2.2.2.2.2⟩, below3 HS.out.2.1 (by omega) _ _ _⟩
      clear HS
      go_wp2
      refine bodyPost_ret (v := .tuple #[.agg #[.int .i64 y.k, .int .i64 y.n, .slice q y.l.length d], .bool true]) (by simp [results, Try.results21, go_sem, z0, z1, z2, hAl']) rfl (.inl ⟨y, _, HF.out.1, rfl, HF.out.2.1, by rw [← HA.out]; exact HF.out.2.2⟩)
end Go.Proofs.Ytikijkpklneihaa
