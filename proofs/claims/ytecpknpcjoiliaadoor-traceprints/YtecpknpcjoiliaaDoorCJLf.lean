import Derived.Test.YtecpknpcjoiliaaDoorCJLe
import Derived.Deep.MidRow
namespace Go.Proofs.YtecpknpcjoiliaaDoor
open Go.RowKit Go.Shelf
set_option linter.unusedVariables false
set_option linter.unusedSimpArgs false

/-- a block of a kind, of a size at the least -/
def Cz (w : World) (t : TypeId) (g n : Nat) : Prop := ∃ cur, w.heap[g]? = some (.cells cur t (0, 0)) ∧ n ≤ cur.size
theorem Cz.set {w : World} {t : TypeId} {g n : Nat} (h : Cz w t g n) (b i : Nat) (v : Value) : Cz (w.setCell ⟨b, i, none⟩ v) t g n := by
  obtain ⟨cur, h1, h2⟩ := h
  by_cases hb : g = b
  · subst hb
    exact ⟨_, Lib.heap_setCell_same (i := i) h1 v, by simpa using h2⟩
  · exact ⟨cur, by rw [Below.heap_setCell w ⟨b, i, none⟩ v g hb]; exact h1, h2⟩
theorem Cz.at_ {w : World} {t : TypeId} {g n : Nat} (h : Cz w t g n) {i : Nat} (hi : i < n) : (∃ x, w.cell? ⟨g, i, none⟩ = some x) ∧ w.frozen? ⟨g, i, none⟩ = false := by
  obtain ⟨cur, h1, h2⟩ := h
  exact ⟨⟨cur[i], cell_blk h1 (Array.getElem?_eq_getElem (by omega))⟩, frz_blk h1⟩
theorem Cz.of {W : World} {B s n g k c : Nat} {t : TypeId} {cs : List Value} (h : W.ownsRow B t s (.slice (some ⟨g, 0, none⟩) k c) n cs) : Cz W t g (n * s) ∧ B ≤ g := by
  rcases h.2 with ⟨e, _⟩ | ⟨g', cap, cur, e, hB, hg, q1, q2, q3, q4⟩
  · cases e
  · simp only [Value.slice.injEq, Option.some.injEq, Addr.mk.injEq] at e
    obtain ⟨⟨rfl, _⟩, _, rfl⟩ := e
    exact ⟨⟨cur, hg, by rw [q3]; exact Nat.mul_le_mul_right _ q1⟩, hB⟩
/-- what wipe keeps -/
structure Wp (W wr : World) (B X ga : Nat) (es : List Ev) (va vl : Value) (gs : List (Nat × Nat)) : Prop where
  bel : Below B W wr
  rx : wr.heap[X]? = some (lnX va vl)
  row : wr.ownsRow B 22 1 vl es.length (lsC es gs)
  int : ∀ i (h1 : i < es.length) (h2 : i < gs.length), Cz wr 3 gs[i].1 (es[i].list.length + 1) ∧ B ≤ gs[i].1
  all : Cz wr 24 ga ((es.length + 1) * 8) ∧ B ≤ ga
theorem Wp.set {W wr : World} {B X ga : Nat} {es : List Ev} {va vl : Value} {gs : List (Nat × Nat)} (h : Wp W wr B X ga es va vl gs) {t : TypeId} {b n : Nat} (hc : Cz wr t b n) (hb : B ≤ b) (h1 : t ≠ 33) (h2 : t ≠ 22) (i : Nat) (v : Value) : Wp W (wr.setCell ⟨b, i, none⟩ v) B X ga es va vl gs := by
  obtain ⟨cur, hc1, _⟩ := hc
  have hX : X ≠ b := fun e => by
    have := h.rx
    rw [e, hc1] at this
    injection this with this
    injection this with _ this
    exact h1 this
  refine ⟨h.bel.trans ((Below.refl B wr).setCell (p := ⟨b, i, none⟩) hb v), by rw [Below.heap_setCell wr ⟨b, i, none⟩ v X hX]; exact h.rx, ?_, fun j k1 k2 => ⟨(h.int j k1 k2).1.set _ _ _, (h.int j k1 k2).2⟩, ⟨h.all.1.set _ _ _, h.all.2⟩⟩
  refine ⟨h.row.1, ?_⟩
  rcases h.row.2 with q | ⟨g, cap, c2, q0, q1, q2, q3⟩
  · exact .inl q
  · refine .inr ⟨g, cap, c2, q0, q1, ?_, q3⟩
    rw [Below.heap_setCell wr ⟨b, i, none⟩ v g (fun e => by
      have e : g = b := e
      rw [e, hc1] at q2
      injection q2 with q2
      injection q2 with _ q2
      exact h2 q2)]
    exact q2
theorem Wp.cells {W wr : World} {B X ga : Nat} {es : List Ev} {va vl : Value} {gs : List (Nat × Nat)} (h : Wp W wr B X ga es va vl gs) : wr.cell? ⟨X, 0, none⟩ = some va ∧ wr.cell? ⟨X, 1, none⟩ = some vl := ⟨cell_blk h.rx rfl, cell_blk h.rx rfl⟩
theorem Wp.at_ {W wr : World} {B X ga : Nat} {es : List Ev} {va : Value} {ln lc : Nat} {ad : Option Addr} {gs : List (Nat × Nat)} (h : Wp W wr B X ga es va (.slice ad ln lc) gs) (hg : gs.length = es.length) {i : Nat} (hi : i < es.length) : ∃ gl, ad = some ⟨gl, 0, none⟩ ∧ wr.cell? ⟨gl, i, none⟩ = some (.slice (some ⟨(gs[i]'(by omega)).1, 0, none⟩) (es[i].list.length + 1) (gs[i]'(by omega)).2) := by
  rcases h.row.2 with ⟨_, q⟩ | ⟨g, cap, c2, q0, q1, q2, q3, q4, q5, q6⟩
  · omega
  · simp only [Value.slice.injEq] at q0
    refine ⟨g, q0.1, cell_blk q2 ?_⟩
    have e := congrArg (fun L : List Value => L[i]?) q6
    rw [List.getElem?_take_of_lt (by omega), Array.getElem?_toList] at e
    rw [e]
    unfold lsC
    have hz : i < (es.zip gs).length := by rw [List.length_zip]; omega
    rw [List.getElem?_map, List.getElem?_eq_getElem hz]
    simp
end Go.Proofs.YtecpknpcjoiliaaDoor
namespace Go.Proofs.YtecpknpcjoiliaaDoor
open Go.RowKit Go.Shelf
set_option linter.unusedVariables false
set_option linter.unusedSimpArgs false

def c6 : Array Value := #[.int .i64 (-6), .int .i64 0, .int .i64 0, .int .i64 0, .int .i64 0, .int .i64 0, .int .i64 0, .slice none 0 0]
theorem c6_one : (c6.all (·.oneCell')) = true := by simp [c6, Value.oneCell']
theorem wpList_put8 {ops : Array Oper} {rest : List Oper} {op : Oper} {a : Act} {w W8 : World} {Q : Exit → Act → World → Prop} (hgd : op.guard = none) (x y : Operand) (ho : op.op = .store 24 x y) (b o : Nat) (hx : a.eval x = .pointer (some ⟨b, o, none⟩)) (hy : a.eval y = .agg c6) (ht : w.there b o 8) (hW : w.setCells b o c6.toList = W8)
    (h : wpList Tryd.prog ops Q rest (a.put op.dst undef) W8) : wpList Tryd.prog ops Q (op :: rest) a w := by
  subst hW
  exact wpList_store_mid hgd 24 x y ho b o c6 hx hy ht (by kernel_rfl) c6_one h
theorem Wp.sets {W : World} {B X ga : Nat} {es : List Ev} {va vl : Value} {gs : List (Nat × Nat)} : ∀ (vs : List Value) (o : Nat) (wr : World), Wp W wr B X ga es va vl gs → Wp W (wr.setCells ga o vs) B X ga es va vl gs
  | [], _, _, h => h
  | v :: r, o, wr, h => Wp.sets r (o + 1) _ (h.set h.all.1 h.all.2 (by decide) (by decide) o v)
set_option maxRecDepth 100000 in
set_option maxHeartbeats 4000000 in
theorem wipe_any (W : World) (B : Nat) (es : List Ev) (va vl : Value) (gs : List (Nat × Nat)) (h : Lent W B es va vl gs) (hB : B ≤ W.heap.size) (hes : es.length ≤ 1099511627776) (hll : ∀ e ∈ es, e.list.length ≤ 8796093022000) :
    Calls Tryd.prog 17 #[.agg #[va, vl]] W fun e w' => e = .returned (.tuple #[]) ∧ Below B W w' := by
  obtain ⟨X, hX⟩ : ∃ X, W.heap.size = X := ⟨_, rfl⟩
  have hgl := h.len
  obtain ⟨al, ln, cl, hvl⟩ := owns_slice h.row
  obtain ⟨aa, an, ca, hva⟩ := owns_slice h.evo.row
  have hln : ln = es.length := by
    rcases h.row.2 with ⟨q, q2⟩ | ⟨g, cap, cur, q, _⟩
    · rw [hvl] at q
      simp only [Value.slice.injEq] at q
      omega
    · rw [hvl] at q
      simp only [Value.slice.injEq] at q
      exact q.2.1
  have hga : ∃ ga, aa = some ⟨ga, 0, none⟩ ∧ an = es.length + 1 ∧ es.length + 1 ≤ ca ∧ ca ≤ maxLen := by
    rcases h.evo.row.2 with ⟨_, q⟩ | ⟨g, cap, cur, q, _, _, q3, q4, _⟩
    · simp at q
    · rw [hva] at q
      simp only [Value.slice.injEq] at q
      rw [List.length_append] at q3
      obtain ⟨q5, q6, q7⟩ := q
      exact ⟨g, q5, by simpa using q6, by rw [q7]; exact q3, by rw [q7]; exact q4⟩
  obtain ⟨ga, hga, han, hca, hcm⟩ := hga
  subst hga
  subst hva
  subst hvl
  subst hln
  subst han
  unfold maxLen at hcm
  have hall := Cz.of h.evo.row
  rw [List.length_append] at hall
  have HS : Bx (Wp W (W.alloc (lnX (.slice (some ⟨ga, 0, none⟩) (es.length + 1) ca) (.slice al es.length cl))) B X ga es (.slice (some ⟨ga, 0, none⟩) (es.length + 1) ca) (.slice al es.length cl) gs) := by
    have hs : ∀ y, B ≤ y → y < W.heap.size → (W.alloc (lnX (.slice (some ⟨ga, 0, none⟩) (es.length + 1) ca) (.slice al es.length cl))).heap[y]? = W.heap[y]? := fun y _ hy => Below.heap_alloc _ _ _ hy
    have hcz : ∀ {t g n}, Cz W t g n → Cz (W.alloc (lnX (.slice (some ⟨ga, 0, none⟩) (es.length + 1) ca) (.slice al es.length cl))) t g n := fun {t g n} ⟨cur, q1, q2⟩ => ⟨cur, by rw [Below.heap_alloc _ _ _ (heap_lt q1)]; exact q1, q2⟩
    refine ⟨(below1 W _).mono hB, heap_newH _ _ _ hX, owns_same h.row hs, fun i h1 h2 => ?_, hcz hall.1, hall.2⟩
    have := Cz.of (h.two i h1 h2)
    rw [List.length_append, Nat.mul_one] at this
    exact ⟨hcz this.1, this.2⟩
  have HLL : Bx (∀ i (h : i < es.length), es[i].list.length ≤ 8796093022000) := ⟨fun i h => hll _ (List.getElem_mem h)⟩
  clear h hall hll
  go_enter Tryd.func17, Tryd.ntmps17
  go_wp2
  go_loopw [2] (fun x wr => ∃ (i : Nat), i ≤ es.length ∧ x = .int .i64 i ∧ Bx (Wp W wr B X ga es (.slice (some ⟨ga, 0, none⟩) (es.length + 1) ca) (.slice al es.length cl) gs)) (fun x _ => es.length - (intOf x).toNat)
  case atStart => exact ⟨0, Nat.zero_le _, rfl, HS⟩
  case round =>
    obtain ⟨i, hi, rfl, HI⟩ := hrel
    clear HS
    obtain ⟨x0, x1⟩ := HI.out.cells
    by_cases hlt : i < es.length
    · obtain ⟨gl, hal, hc⟩ := HI.out.at_ hgl hlt
      subst hal
      have hii : Bx (∀ wx, Wp W wx B X ga es (.slice (some ⟨ga, 0, none⟩) (es.length + 1) ca) (.slice (some ⟨gl, 0, none⟩) es.length cl) gs → (Cz wx 3 (gs[i]'(by omega)).1 (es[i].list.length + 1) ∧ B ≤ (gs[i]'(by omega)).1) ∧ wx.cell? ⟨gl, i, none⟩ = some (.slice (some ⟨(gs[i]'(by omega)).1, 0, none⟩) (es[i].list.length + 1) (gs[i]'(by omega)).2)) := ⟨fun wx hx => by
        obtain ⟨gl', e, hc'⟩ := hx.at_ hgl hlt
        simp only [Option.some.injEq, Addr.mk.injEq] at e
        rw [← e.1] at hc'
        exact ⟨hx.int i hlt (by omega), hc'⟩⟩
      have hle := HLL.out i hlt
      have hiI : (i : Int) < (es.length : Int) := by omega
      generalize (gs[i]'(by omega)).1 = g at *
      generalize (gs[i]'(by omega)).2 = c at *
      generalize es[i].list.length = n at *
      go_wp2
      go_loopw [3] (fun x wx => ∃ (k : Nat), k ≤ n + 1 ∧ x = .int .i64 k ∧ Bx (Wp W wx B X ga es (.slice (some ⟨ga, 0, none⟩) (es.length + 1) ca) (.slice (some ⟨gl, 0, none⟩) es.length cl) gs)) (fun x _ => n + 1 - (intOf x).toNat)
      case atStart => exact ⟨0, Nat.zero_le _, rfl, HI⟩
      case round =>
        obtain ⟨k, hk, rfl, HK⟩ := hrel
        clear HI x0 x1 hc
        obtain ⟨x0, x1⟩ := HK.out.cells
        obtain ⟨⟨hcz, hgB⟩, hc⟩ := hii.out _ HK.out
        by_cases hkl : k < n + 1
        · obtain ⟨⟨xv, hxv⟩, hfz⟩ := hcz.at_ hkl
          have HN : Bx _ := ⟨HK.out.set hcz hgB (by decide) (by decide) k (.int .i64 (-5))⟩
          have hkI : (k : Int) < (n : Int) + 1 := by omega
          clear HK hcz
          go_wp2
          go_roundw
          case rel => exact ⟨k + 1, hkl, by go_num, HN⟩
          case measure => simp [intOf]; omega
        · have hke : k = n + 1 := by omega
          subst hke
          have hkI : ¬ (((n + 1 : Nat)) : Int) < (n : Int) + 1 := by omega
          clear hcz
          go_wp2
          go_roundw
          case rel => exact ⟨i + 1, hlt, by go_num, HK⟩
          case measure => simp [intOf]; omega
    · have hie : i = es.length := by omega
      subst hie
      go_wp2
      go_loopw [4] (fun x wx => ∃ (k : Nat), k ≤ es.length + 1 ∧ x = .int .i64 k ∧ Bx (Wp W wx B X ga es (.slice (some ⟨ga, 0, none⟩) (es.length + 1) ca) (.slice al es.length cl) gs)) (fun x _ => es.length + 1 - (intOf x).toNat)
      case atStart => exact ⟨0, Nat.zero_le _, rfl, HI⟩
      case round =>
        obtain ⟨k, hk, rfl, HK⟩ := hrel
        clear HI x0 x1
        obtain ⟨x0, x1⟩ := HK.out.cells
        by_cases hkl : k < es.length + 1
        · have hcz := HK.out.all
          obtain ⟨cur, hcur, hcs⟩ := hcz.1
          have hzz := heap_lt hcur
          have ht : wr.there ga (k * 8) 8 := fun j hj => by
            obtain ⟨⟨y, z⟩, f⟩ := hcz.1.at_ (i := k * 8 + j) (by omega)
            exact ⟨by rw [z]; rfl, f⟩
          obtain ⟨W8, hW8⟩ : ∃ W8, wr.setCells ga (k * 8) c6.toList = W8 := ⟨_, rfl⟩
          have HN : Bx _ := ⟨HK.out.sets c6.toList (k * 8)⟩
          rw [hW8] at HN
          have hkI : (k : Int) < (es.length : Int) + 1 := by omega
          clear hcz hcur hcs HK
          go_wp2_with (refine wpList_put8 rfl (.tmp 40) (.tmp 39) rfl ga (k * 8) rfl rfl ht hW8 ?_)
          go_roundw
          case rel => exact ⟨k + 1, hkl, by go_num, HN⟩
          case measure => simp [intOf]; omega
        · have hke : k = es.length + 1 := by omega
          subst hke
          have hkI : ¬ (((es.length + 1 : Nat)) : Int) < (es.length : Int) + 1 := by omega
          have HB : Bx _ := ⟨HK.out.bel⟩
          clear HK
          go_wp2
          (try simp only [Exit.inBlock, Exit.then])
          refine bodyPost_end (results_none rfl _ _ _) rfl ?_
          exact ⟨rfl, HB.out⟩
end Go.Proofs.YtecpknpcjoiliaaDoor
