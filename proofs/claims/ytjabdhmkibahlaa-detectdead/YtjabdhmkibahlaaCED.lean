import Derived.Test.YtjabdhmkibahlaaCEC
namespace Go.Proofs.Ytjabdhmkibahlaa
open Go.RowKit Go.MapKept Go.ChangeMaps Go.WideShapes
set_option linter.unusedVariables false
set_option linter.unusedSimpArgs false

def hdV (h : Hd) : Value := .agg #[.int .i64 h.chan, .bool h.send]
set_option maxRecDepth 100000 in
theorem worldly_any (w : World) (h : Hd) : Calls Try.prog 79 #[hdV h] w fun e w' => e = .returned (.bool (wldI h)) ∧ Below w.heap.size w w' := by
  obtain ⟨ch, sd⟩ := h
  simp only [hdV]
  have HB : Bx (Below w.heap.size w (w.alloc (.cells #[.int .i64 ch, .bool sd] 58))) := ⟨below1 _ _⟩
  have hk : (w.alloc (.cells #[.int .i64 ch, .bool sd] 58)).heap[w.heap.size]? = some (.cells #[.int .i64 ch, .bool sd] 58 (0, 0)) := World.alloc_heap_new _ _
  have c0 : (w.alloc (.cells #[.int .i64 ch, .bool sd] 58)).cell? ⟨w.heap.size, 0, none⟩ = some (.int .i64 ch) := cell_of hk rfl
  have c1 : (w.alloc (.cells #[.int .i64 ch, .bool sd] 58)).cell? ⟨w.heap.size, 1, none⟩ = some (.bool sd) := cell_of hk rfl
  clear hk
  by_cases h1 : ch = 1
  · subst h1
    have HE : Bx (wldI ⟨1, sd⟩ = !sd) := ⟨wld_1 sd⟩
    cases sd <;> (
      go_enter Try.func79, Try.ntmps79
      go_wp2
      go_ret
      exact ⟨by rw [HE.out]; rfl, HB.out⟩)
  · by_cases h2 : ch = 2
    · subst h2
      have HE : Bx (wldI ⟨2, sd⟩ = sd) := ⟨wld_2 sd⟩
      clear h1
      cases sd <;> (
        go_enter Try.func79, Try.ntmps79
        go_wp2
        go_ret
        exact ⟨by rw [HE.out]; rfl, HB.out⟩)
    · have h1' : (ch == 1) = false := by simpa using h1
      have h2' : (ch == 2) = false := by simpa using h2
      have HE : Bx (wldI ⟨ch, sd⟩ = false) := ⟨wld_no h1' h2' sd⟩
      clear h1 h2
      go_enter Try.func79, Try.ntmps79
      go_wp2
      go_ret
      exact ⟨by rw [HE.out]; rfl, HB.out⟩
def otI (ids : List Int) (id : Int) : Option Int := ids.find? (fun x => x != id)
def oT (o : Option Int) : Value := .tuple #[.int .i64 (o.getD 0), .bool o.isSome]
set_option maxRecDepth 100000 in
theorem other_any (w : World) (q : Option Addr) (d : Nat) (ids : List Int) (id : Int) (h : IntsR w q d ids) : Calls Try.prog 80 #[.slice q ids.length d, .int .i64 id] w fun e w' => e = .returned (oT (otI ids id)) ∧ w' = w := by
  have q1 := h.len
  have q2 := h.max
  unfold maxLen at q2
  have HQ : Bx (IntsR w q d ids) := ⟨h⟩
  clear h
  go_enter Try.func80, Try.ntmps80
  go_wp2
  go_loopg [10] (ids.length + 1) (fun g v wr => ∃ i : Nat, g = ids.length + 1 - i ∧ i ≤ ids.length ∧ v = .int .i64 (i : Nat) ∧ Bx (otI (ids.drop i) id = otI ids id ∧ wr = w))
  case atStart => exact ⟨0, by simp, by omega, rfl, ⟨by simp, rfl⟩⟩
  case round =>
    obtain ⟨i, hg, hil, rfl, HR⟩ := hrel
    by_cases hlt : i < ids.length
    · obtain ⟨qb, qo, rfl, h64, hcl⟩ := HQ.out.at_ i hlt
      have c0 := hcl wr (by rw [HR.out.2]; exact Below.refl _ _)
      have hd : ids.drop i = ids[i] :: ids.drop (i + 1) := List.drop_eq_getElem_cons hlt
      have hR := HR.out.1
      rw [hd, otI, List.find?_cons] at hR
      have HW : Bx (wr = w) := ⟨HR.out.2⟩
      clear hcl HR hd
      by_cases he : ids[i] = id
      · have HR2 : Bx (otI (ids.drop (i + 1)) id = otI ids id) := ⟨by
          rw [he] at hR
          simpa [otI] using hR⟩
        rw [he] at c0
        clear hR
        go_wp2
        go_roundg (ids.length + 1 - (i + 1))
        case measure => omega
        case rel => exact ⟨i + 1, rfl, by omega, by simp, ⟨HR2.out, HW.out⟩⟩
      · have he' : (ids[i] != id) = true := by simpa using he
        rw [he'] at hR
        have HE : Bx (oT (otI ids id) = .tuple #[.int .i64 ids[i], .bool true]) := ⟨by rw [← hR]; rfl⟩
        clear hR
        go_wp2
        exact bodyPost_ret (v := .tuple #[.int .i64 ids[i], .bool true]) (by simp [results, Try.results80, go_sem]) rfl ⟨by rw [HE.out], HW.out⟩
    · have hie : i = ids.length := by omega
      subst hie
      have HE : Bx (oT (otI ids id) = .tuple #[.int .i64 0, .bool false]) := ⟨by rw [← HR.out.1]; simp [otI, oT]⟩
      have HW : Bx (wr = w) := ⟨HR.out.2⟩
      clear HR
      go_wp2
      exact bodyPost_ret (v := .tuple #[.int .i64 0, .bool false]) (by simp [results, Try.results80, go_sem]) rfl ⟨by rw [HE.out], HW.out⟩
/-! ### an agent's link -/
def lkD (a : Ag) (wk : Hd → Option Int) : Option Lk := a.arms.findSome? fun h => (wk h).map fun i => ⟨i, a.id, h.chan⟩
def lk0 (o : Option Lk) : Lk := o.getD ⟨0, 0, 0⟩
def lT (o : Option Lk) : Value := .tuple #[lkV (lk0 o), .bool o.isSome]
set_option maxRecDepth 100000 in
set_option maxHeartbeats 2000000 in
theorem link_any (w : World) (a : Ag) (ap hp : Option Addr) (ac hc : Nat) (h : AgR w a ap ac hp hc) (F : Nat) (caps : Array Value) (wk : Hd → Option Int) (heg : ∀ args w, (callFunc F args).run Try.prog w = .ok (.enter F args) w)
    (hF : ∀ X, Below w.heap.size w X → ∀ x ∈ a.arms, Calls Try.prog F (#[hdV x] ++ caps) X fun e w' => e = .returned (oT (wk x)) ∧ Below X.heap.size X w') :
    Calls Try.prog 77 #[agV a ap ac hp hc, .func (.func F) #[] caps] w fun e w' => e = .returned (lT (lkD a wk)) ∧ Below w.heap.size w w' := by
  obtain ⟨id, aw, arms, held⟩ := a
  have HA : Bx (HdsR w ap ac arms) := ⟨h.arms⟩
  have h1 := HA.out.len
  have h2 := HA.out.max
  unfold maxLen at h2
  have HF : Bx (∀ X, Below w.heap.size w X → ∀ x ∈ arms, Calls Try.prog F (#[hdV x] ++ caps) X fun e w' => e = .returned (oT (wk x)) ∧ Below X.heap.size X w') := ⟨hF⟩
  simp only [agV]
  obtain ⟨W, hW⟩ : ∃ W, (w.alloc (.cells #[.int .i64 id, .bool aw, .slice ap arms.length ac, .slice hp held.length hc] 53)).alloc (.cells #[.int .i64 0, .int .i64 0, .int .i64 0] 24) = W := ⟨_, rfl⟩
  have hb : Below w.heap.size w W := by rw [← hW]; exact two_new _ _ _
  have hk0 : W.heap[w.heap.size]? = some (.cells #[.int .i64 id, .bool aw, .slice ap arms.length ac, .slice hp held.length hc] 53 (0, 0)) := by
    rw [← hW]; exact (Below.heap_alloc _ _ _ (by simp)).trans (World.alloc_heap_new _ _)
  have hk1 : W.heap[w.heap.size + 1]? = some (.cells #[.int .i64 0, .int .i64 0, .int .i64 0] 24 (0, 0)) := by
    have := World.alloc_heap_new (w.alloc (.cells #[.int .i64 id, .bool aw, .slice ap arms.length ac, .slice hp held.length hc] 53)) (.cells #[.int .i64 0, .int .i64 0, .int .i64 0] 24)
    rw [World.size_alloc, hW] at this
    exact this
  have c2 : W.cell? ⟨w.heap.size, 2, none⟩ = some (.slice ap arms.length ac) := cell_of hk0 rfl
  have HI : Bx (Below w.heap.size w W ∧ W.heap[w.heap.size]? = some (.cells #[.int .i64 id, .bool aw, .slice ap arms.length ac, .slice hp held.length hc] 53 (0, 0)) ∧ W.heap[w.heap.size + 1]? = some (.cells #[.int .i64 0, .int .i64 0, .int .i64 0] 24 (0, 0))) := ⟨hb, hk0, hk1⟩
  have HWE : Bx (_ = W) := ⟨hW⟩
  rw [← hW] at c2
  clear h hF hW hb hk0 hk1
  go_enter Try.func77, Try.ntmps77
  go_wp2
  rw [HWE.out]
  go_loopg [13] (arms.length + 1) (fun g v wr => ∃ i : Nat, g = arms.length + 1 - i ∧ i ≤ arms.length ∧ v = .int .i64 (i : Nat) ∧ Bx (lkD ⟨id, aw, arms.drop i, held⟩ wk = lkD ⟨id, aw, arms, held⟩ wk ∧ Below w.heap.size w wr ∧ wr.heap[w.heap.size]? = some (.cells #[.int .i64 id, .bool aw, .slice ap arms.length ac, .slice hp held.length hc] 53 (0, 0)) ∧ wr.heap[w.heap.size + 1]? = some (.cells #[.int .i64 0, .int .i64 0, .int .i64 0] 24 (0, 0))))
  case atStart => exact ⟨0, by simp, by omega, rfl, ⟨by simp, HI.out⟩⟩
  case round =>
    obtain ⟨i, hg, hil, rfl, HR⟩ := hrel
    clear HI HWE
    by_cases hlt : i < arms.length
    · obtain ⟨xb, xo, rfl, h64, hcl⟩ := HA.out.at_ i hlt
      obtain ⟨hR, hbr, hk0, hk1⟩ := HR.out
      obtain ⟨d0, d1⟩ := hcl wr hbr
      have hd : arms.drop i = arms[i] :: arms.drop (i + 1) := List.drop_eq_getElem_cons hlt
      rw [hd, lkD] at hR
      simp only [List.findSome?_cons] at hR
      have hmem : arms[i] ∈ arms := List.getElem_mem hlt
      have HC : Bx (∀ X, Below w.heap.size w X → Calls Try.prog F (#[hdV arms[i]] ++ caps) X fun e w' => e = .returned (oT (wk arms[i])) ∧ Below X.heap.size X w') := ⟨fun X hX => HF.out X hX _ hmem⟩
      clear hcl hd hmem HR
      generalize arms[i] = x at *
      obtain ⟨ch, sd⟩ := x
      simp only [hdV] at d0 d1 hR HC
      obtain ⟨Y, hY⟩ : ∃ Y, wr.alloc (.cells #[.int .i64 ch, .bool sd] 58) = Y := ⟨_, rfl⟩
      have hbY : Below wr.heap.size wr Y := by rw [← hY]; exact below1 _ _
      have hkY : Y.heap[wr.heap.size]? = some (.cells #[.int .i64 ch, .bool sd] 58 (0, 0)) := by rw [← hY]; exact World.alloc_heap_new _ _
      have e0 : Y.cell? ⟨wr.heap.size, 0, none⟩ = some (.int .i64 ch) := cell_of hkY rfl
      have e1 : Y.cell? ⟨wr.heap.size, 1, none⟩ = some (.bool sd) := cell_of hkY rfl
      have HB : Bx (Below w.heap.size w Y ∧ (∀ X, Below Y.heap.size Y X → X.heap[w.heap.size]? = some (.cells #[.int .i64 id, .bool aw, .slice (some ⟨xb, xo, none⟩) arms.length ac, .slice hp held.length hc] 53 (0, 0)) ∧ X.heap[w.heap.size + 1]? = some (.cells #[.int .i64 0, .int .i64 0, .int .i64 0] 24 (0, 0)) ∧ X.heap[wr.heap.size]? = some (.cells #[.int .i64 ch, .bool sd] 58 (0, 0)))) := ⟨hbr.trans (hbY.mono hbr.size), fun X hX => by
        have b2 := hbY.trans (hX.mono hbY.size)
        exact ⟨(b2.block _ (Array.getElem?_eq_some_iff.1 hk0).1).trans hk0, (b2.block _ (Array.getElem?_eq_some_iff.1 hk1).1).trans hk1, (hX.block _ (Array.getElem?_eq_some_iff.1 hkY).1).trans hkY⟩⟩
      have HYE : Bx (_ = Y) := ⟨hY⟩
      rw [← hY] at e0 e1
      clear hbY hkY hY hk0 hk1 hbr
      cases hwk : wk ⟨ch, sd⟩ with
      | none =>
        rw [hwk] at hR HC
        have HR2 : Bx (lkD ⟨id, aw, arms.drop (i + 1), held⟩ wk = lkD ⟨id, aw, arms, held⟩ wk) := ⟨by simpa [lkD] using hR⟩
        simp only [oT, Option.getD_none, Option.isSome_none] at HC
        clear hR hwk
        go_wp2_with (first | (rw [HYE.out]; refine Calls.mono (HC.out Y HB.out.1) ?_; rintro e w2 ⟨rfl, hb2⟩; have H2 : Bx (Below w.heap.size w w2 ∧ w2.heap[w.heap.size]? = _ ∧ w2.heap[w.heap.size + 1]? = _) := ⟨HB.out.1.trans (hb2.mono HB.out.1.size), (HB.out.2 w2 hb2).1, (HB.out.2 w2 hb2).2.1⟩; clear hb2))
        go_roundg (arms.length + 1 - (i + 1))
        case measure => omega
        case rel => exact ⟨i + 1, rfl, by omega, by simp, ⟨HR2.out, H2.out⟩⟩
      | some k =>
        rw [hwk] at hR HC
        simp only [oT, Option.getD_some, Option.isSome_some] at HC
        have HE : Bx (lT (lkD ⟨id, aw, arms, held⟩ wk) = .tuple #[.agg #[.int .i64 k, .int .i64 id, .int .i64 ch], .bool true]) := ⟨by rw [← hR]; rfl⟩
        clear hR hwk
        go_wp2_with (first | (rw [HYE.out]; refine Calls.mono (HC.out Y HB.out.1) ?_; rintro e w2 ⟨rfl, hb2⟩; obtain ⟨k0, k1, k2⟩ := HB.out.2 w2 hb2; have f0 : w2.cell? ⟨w.heap.size, 0, none⟩ = some (.int .i64 id) := cell_of k0 rfl; have f1 : w2.cell? ⟨wr.heap.size, 0, none⟩ = some (.int .i64 ch) := cell_of k2 rfl; have g0 : w2.cell? ⟨w.heap.size + 1, 0, none⟩ = some (.int .i64 0) := cell_of k1 rfl; have g1 : w2.cell? ⟨w.heap.size + 1, 1, none⟩ = some (.int .i64 0) := cell_of k1 rfl; have g2 : w2.cell? ⟨w.heap.size + 1, 2, none⟩ = some (.int .i64 0) := cell_of k1 rfl; have g3 : ∀ j, w2.frozen? ⟨w.heap.size + 1, j, none⟩ = false := (fun j => by simp [World.frozen?, k1]); have H2 : Bx (Below w.heap.size w w2 ∧ w2.heap[w.heap.size + 1]? = some (.cells #[.int .i64 0, .int .i64 0, .int .i64 0] 24 (0, 0))) := ⟨HB.out.1.trans (hb2.mono HB.out.1.size), k1⟩; clear hb2 k0 k1 k2))
        obtain ⟨Z, hZ⟩ : ∃ Z, ((w2.setCell ⟨w.heap.size + 1, 0, none⟩ (.int .i64 k)).setCell ⟨w.heap.size + 1, 1, none⟩ (.int .i64 id)).setCell ⟨w.heap.size + 1, 2, none⟩ (.int .i64 ch) = Z := ⟨_, rfl⟩
        have hZb : Z.heap[w.heap.size + 1]? = some (.cells #[.int .i64 k, .int .i64 id, .int .i64 ch] 24 (0, 0)) := by
          rw [← hZ]
          exact blk_set (blk_set (blk_set H2.out.2 0 _) 1 _) 2 _
        have hZl : Below w.heap.size w Z := by
          rw [← hZ]
          exact ((H2.out.1.setCell (p := ⟨w.heap.size + 1, 0, none⟩) (by show _ ≤ w.heap.size + 1; omega) _).setCell (p := ⟨w.heap.size + 1, 1, none⟩) (by show _ ≤ w.heap.size + 1; omega) _).setCell (p := ⟨w.heap.size + 1, 2, none⟩) (by show _ ≤ w.heap.size + 1; omega) _
        rw [hZ]
        have z0 : Z.cell? ⟨w.heap.size + 1, 0, none⟩ = some (.int .i64 k) := cell_of hZb rfl
        have z1 : Z.cell? ⟨w.heap.size + 1, 1, none⟩ = some (.int .i64 id) := cell_of hZb rfl
        have z2 : Z.cell? ⟨w.heap.size + 1, 2, none⟩ = some (.int .i64 ch) := cell_of hZb rfl
        exact bodyPost_ret (v := .tuple #[.agg #[.int .i64 k, .int .i64 id, .int .i64 ch], .bool true]) (by simp [results, Try.results77, go_sem, z0, z1, z2]) rfl ⟨by rw [HE.out], hZl⟩
    · have hie : i = arms.length := by omega
      subst hie
      obtain ⟨hR, hbr, hk0, k1⟩ := HR.out
      have HE : Bx (lT (lkD ⟨id, aw, arms, held⟩ wk) = .tuple #[.agg #[.int .i64 0, .int .i64 0, .int .i64 0], .bool false]) := ⟨by rw [← hR]; simp [lkD, lT, lk0, lkV]⟩
      have g0 : wr.cell? ⟨w.heap.size + 1, 0, none⟩ = some (.int .i64 0) := cell_of k1 rfl
      have g1 : wr.cell? ⟨w.heap.size + 1, 1, none⟩ = some (.int .i64 0) := cell_of k1 rfl
      have g2 : wr.cell? ⟨w.heap.size + 1, 2, none⟩ = some (.int .i64 0) := cell_of k1 rfl
      have g3 : ∀ j, wr.frozen? ⟨w.heap.size + 1, j, none⟩ = false := (fun j => by simp [World.frozen?, k1])
      have H2 : Bx (Below w.heap.size w wr ∧ wr.heap[w.heap.size + 1]? = some (.cells #[.int .i64 0, .int .i64 0, .int .i64 0] 24 (0, 0))) := ⟨hbr, k1⟩
      clear HR hR hk0 k1 hbr
      go_wp2
      obtain ⟨Z, hZ⟩ : ∃ Z, ((wr.setCell ⟨w.heap.size + 1, 0, none⟩ (.int .i64 0)).setCell ⟨w.heap.size + 1, 1, none⟩ (.int .i64 0)).setCell ⟨w.heap.size + 1, 2, none⟩ (.int .i64 0) = Z := ⟨_, rfl⟩
      have hZb : Z.heap[w.heap.size + 1]? = some (.cells #[.int .i64 0, .int .i64 0, .int .i64 0] 24 (0, 0)) := by
        rw [← hZ]
        exact blk_set (blk_set (blk_set H2.out.2 0 _) 1 _) 2 _
      have hZl : Below w.heap.size w Z := by
        rw [← hZ]
        exact ((H2.out.1.setCell (p := ⟨w.heap.size + 1, 0, none⟩) (by show _ ≤ w.heap.size + 1; omega) _).setCell (p := ⟨w.heap.size + 1, 1, none⟩) (by show _ ≤ w.heap.size + 1; omega) _).setCell (p := ⟨w.heap.size + 1, 2, none⟩) (by show _ ≤ w.heap.size + 1; omega) _
      rw [hZ]
      have z0 : Z.cell? ⟨w.heap.size + 1, 0, none⟩ = some (.int .i64 0) := cell_of hZb rfl
      have z1 : Z.cell? ⟨w.heap.size + 1, 1, none⟩ = some (.int .i64 0) := cell_of hZb rfl
      have z2 : Z.cell? ⟨w.heap.size + 1, 2, none⟩ = some (.int .i64 0) := cell_of hZb rfl
      exact bodyPost_ret (v := .tuple #[.agg #[.int .i64 0, .int .i64 0, .int .i64 0], .bool false]) (by simp [results, Try.results77, go_sem, z0, z1, z2]) rfl ⟨by rw [HE.out], hZl⟩
end Go.Proofs.Ytjabdhmkibahlaa
