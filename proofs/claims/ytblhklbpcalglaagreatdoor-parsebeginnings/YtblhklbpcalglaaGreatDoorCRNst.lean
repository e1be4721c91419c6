import Derived.Test.YtblhklbpcalglaaGreatDoorCRNh
import Derived.Lib.AppendStr
import Derived.Deep.AppendLies
import Derived.Lib.BufferRead
import Derived.Test.YtblhklbpcalglaaGreatDoorCQL
namespace Go.Proofs.YtblhklbpcalglaaGreatDoor
open Go.RowKit
set_option linter.unusedVariables false
set_option linter.unusedSimpArgs false
theorem IntsV.upP {w : World} {B C : Nat} {v : Value} {ks : List Int} (h : IntsV w B v ks) (hB : B ≤ C) : IntsV w C v ks := by
  obtain ⟨a, c, e, h1, h2, h3⟩ := h.ex
  refine ⟨a, c, e, h1, h2, fun h0 => ?_⟩
  obtain ⟨b, o, e1, e2, e3⟩ := h3 h0
  exact ⟨b, o, e1, by omega, e3⟩
theorem IsNodes.upP {w : World} {B C cap : Nat} {a : Option Addr} {l : List Nd} (h : IsNodes w B a cap l) (hB : B ≤ C) (hC : C ≤ w.heap.size) : IsNodes w C a cap l := by
  refine ⟨fun h0 => ?_, hC⟩
  obtain ⟨nb, no, e, hn⟩ := h.at_ h0
  refine ⟨nb, no, e, fun j hj => ?_, hn.wf, by have := hn.lo; omega, hC, hn.max, hn.cap⟩
  obtain ⟨ka, kc, q⟩ := hn.at_ j hj
  exact ⟨ka, kc, q.c0, q.c1, q.c2, q.c3, q.c4, q.kids.upP hB⟩
theorem IsNodes.later {w w' : World} {cap : Nat} {a : Option Addr} {l : List Nd} (h : IsNodes w w.heap.size a cap l) (hb : Below w.heap.size w w') : IsNodes w' w'.heap.size a cap l :=
  (h.below hb).upP hb.size (Nat.le_refl _)
structure NsS (w W : World) (b1 b2 : Nat) (na ma : Option Addr) (nc mc : Nat) (l m : List Nd) (fa fc ga gc : Int) : Prop where
  bel : Below w.heap.size w W
  f0 : W.cell? ⟨b1, 0, none⟩ = some (.int .i64 fa)
  f1 : W.cell? ⟨b1, 1, none⟩ = some (.int .i64 fc)
  g0 : W.cell? ⟨b2, 0, none⟩ = some (.int .i64 ga)
  g1 : W.cell? ⟨b2, 1, none⟩ = some (.int .i64 gc)
  nl : IsNodes W W.heap.size na nc l
  nm : IsNodes W W.heap.size ma mc m
theorem NsS.later {w W W' : World} {b1 b2 : Nat} {na ma : Option Addr} {nc mc : Nat} {l m : List Nd} {fa fc ga gc : Int} (h : NsS w W b1 b2 na ma nc mc l m fa fc ga gc) (hb : Below W.heap.size W W') : NsS w W' b1 b2 na ma nc mc l m fa fc ga gc := by
  have k1 := World.block_lt_of_cell? W _ h.f0
  have k2 := World.block_lt_of_cell? W _ h.g0
  exact ⟨h.bel.trans (hb.mono h.bel.size), by rw [hb.cell (p := ⟨b1, 0, none⟩) k1]; exact h.f0, by rw [hb.cell (p := ⟨b1, 1, none⟩) k1]; exact h.f1, by rw [hb.cell (p := ⟨b2, 0, none⟩) k2]; exact h.g0, by rw [hb.cell (p := ⟨b2, 1, none⟩) k2]; exact h.g1, h.nl.later hb, h.nm.later hb⟩
def ParE (w : World) (l : List Nd) (fa fc : Int) (e : Ending) (w' : World) : Prop :=
  ∃ a cap, e = .returned (.tuple #[.slice a l.length cap, .agg #[.int .i64 fa, .int .i64 fc]]) ∧ Below w.heap.size w w' ∧ IsNodes w' w'.heap.size a cap l
theorem bel_one {w W2 W3 : World} {o : Obj} (h : Below w.heap.size w W2) (e : W2.alloc o = W3) : Below w.heap.size w W3 := by
  rw [← e]
  exact h.trans ((below1 _ _).mono h.size)
theorem fault_at {W2 W3 W4 : World} {fa fc : Int} (h3 : W2.alloc (.cells #[.int .i64 fa, .int .i64 fc] 27) = W3) (b4 : Below W3.heap.size W3 W4) : W4.cell? ⟨W2.heap.size, 0, none⟩ = some (.int .i64 fa) ∧ W4.cell? ⟨W2.heap.size, 1, none⟩ = some (.int .i64 fc) ∧ W2.heap.size < W4.heap.size := by
  have c3 : W3.heap[W2.heap.size]? = some (.cells #[.int .i64 fa, .int .i64 fc] 27 (0, 0)) := by rw [← h3]; exact heap_alloc_new _ _
  have z3 : W2.heap.size < W3.heap.size := heapLt c3
  have c35 := (b4.block _ z3).trans c3
  exact ⟨by simp [World.cell?, c35], by simp [World.cell?, c35], by have := b4.size; omega⟩
end Go.Proofs.YtblhklbpcalglaaGreatDoor
namespace Go.Proofs.YtblhklbpcalglaaGreatDoor
open Go.RowKit
set_option linter.unusedVariables false
set_option linter.unusedSimpArgs false
theorem app1 {e t : TypeId} {i0 : TypeInfo} {z : Value} {s bt : Nat} (ht : Tryz.prog.underlying t = some (.slice e)) (hi : Tryz.prog.info? e = some i0) (hz : i0.zero = some z) (hs : i0.size = s) (hb : i0.bytes = bt) (hzs : z.cells.size = s) (hs0 : 0 < s)
    (W : World) (B : Nat) (v : Value) (n : Nat) (xs : List Value) (ho : W.ownsRow B e s v n xs) (cs : Array Value) (hcs : cs.toList.length = s) (h1 : ∀ u ∈ cs.toList, u.oneCell' = true) (hn : n + 1 ≤ maxLen) (hby : (n + 1) * bt ≤ 140737488355328) (hB : B ≤ W.heap.size) :
    ∃ g c W3, (∀ ty, (Builtin.append_ #[t, t] ty #[v, .slice (some ⟨W.heap.size, 0, none⟩) 1 1]).run Tryz.prog (W.alloc (.cells cs e)) = .ok (.slice (some ⟨g, 0, none⟩) (n + 1) c) W3) ∧ W3.ownsRow B e s (.slice (some ⟨g, 0, none⟩) (n + 1) c) (n + 1) (xs ++ cs.toList) ∧ W.grownBy W3 v.ownBlock := by
  have ho' : (W.alloc (.cells cs e)).ownsRow B e s v n xs := ho.alloc _
  obtain ⟨g, c, W3, r1, r2, r3, r4, r5⟩ := run_append_lies (P := Tryz.prog) (W.alloc (.cells cs e)) t e B e i0 z s bt ht hi hz hs hb hzs hs0 v n xs ho' ⟨W.heap.size, 0, none⟩ 1 1 cs.toList (by omega) (World.news_of_block (heap_alloc_new W _)) h1 (by omega) hn hby (by simp; omega) _ rfl
  refine ⟨g, c, W3, fun ty => r1, r2, ⟨r3.os, r3.tape, r3.output, Nat.le_trans (by simp) r3.size, fun k hk hne => ?_⟩⟩
  rw [r3.block k (by simp; omega) hne, Below.heap_alloc W _ k hk]
theorem owns_lo {W : World} {B : Nat} {e : TypeId} {s : Nat} {v : Value} {n : Nat} {cs : List Value} (h : W.ownsRow B e s v n cs) {g : Nat} (hg : v.ownBlock = some g) : B ≤ g ∧ g < W.heap.size := by
  rcases h.2 with ⟨rfl, _⟩ | ⟨g', cap, cur, rfl, hB, hgg, rest⟩
  · cases hg
  · simp only [Value.ownBlock, Option.some.injEq] at hg
    subst hg
    exact ⟨hB, (Array.getElem?_eq_some_iff.1 hgg).1⟩
def BO (w : World) (B : Nat) (v : Value) (bs : List UInt8) : Prop := w.ownsRow B 5 1 v bs.length (Lib.byteCells bs)
def SO (w : World) (B : Nat) (v : Value) (ws : List (List UInt8)) : Prop := w.ownsRow B 9 1 v ws.length (ws.map strV)
def NO (w : World) (B : Nat) (v : Value) (ks : List Int) : Prop := w.ownsRow B 3 1 v ks.length (ks.map (Value.int .i64))
theorem infoU8q : (Tryz.prog.info? 5).map (fun i => (i.zero, i.size, i.bytes)) = some (some (.int .u8 0), 1, 1) := by kernel_rfl
theorem app_byte (W : World) (B : Nat) (v : Value) (bs : List UInt8) (ho : BO W B v bs) (x : UInt8) (hB : B ≤ W.heap.size) (hl : bs.length ≤ 1000000) :
    ∃ v' W3, (∀ ty, (Builtin.append_ #[22, 22] ty #[v, .slice (some ⟨W.heap.size, 0, none⟩) 1 1]).run Tryz.prog (W.alloc (.cells #[.int .u8 (x.toNat : Int)] 5)) = .ok v' W3) ∧ BO W3 B v' (bs ++ [x]) ∧ W.grownBy W3 v.ownBlock := by
  obtain ⟨i0, hi0, hz0, hz1, hz2⟩ := info_parts infoU8q
  obtain ⟨g, c, W3, h1, h2, h3⟩ := app1 Tryz.underlying22 hi0 hz0 hz1 hz2 rfl (by decide) W B v bs.length _ ho #[.int .u8 (x.toNat : Int)] rfl (by simp [Value.oneCell']) (by unfold maxLen; omega) (by omega) hB
  refine ⟨_, W3, h1, ?_, h3⟩
  unfold BO
  rw [Lib.byteCells_append, List.length_append]
  exact h2
theorem BO.src {w : World} {B : Nat} {v : Value} {bs : List UInt8} (h : BO w B v bs) (hm : bs.length ≤ maxLen) : ∃ a cap, v = .slice a bs.length cap ∧ IsSrc w a cap bs := by
  have h' : w.ownsRow B 5 1 v bs.length (Lib.byteCells bs) := h
  rcases h'.2 with ⟨rfl, hn⟩ | ⟨g, cap, cur, rfl, hB, hg, q1, q2, q3, q4⟩
  · exact ⟨none, 0, by rw [hn], fun h => by omega, by omega, hm⟩
  · refine ⟨_, cap, rfl, fun _ => ⟨g, 0, rfl, (Array.getElem?_eq_some_iff.1 hg).1, fun i hi => ?_⟩, by omega, hm⟩
    have e := congrArg (·[i]?) q4
    simp only [Lib.byteCells, List.getElem?_map] at e
    rw [List.getElem?_take_of_lt (by omega), Array.getElem?_toList, List.getElem?_eq_getElem hi] at e
    simp [World.cell?, hg, e, List.getD, hi]
theorem SO.at_ {w : World} {B : Nat} {v : Value} {ws : List (List UInt8)} (h : SO w B v ws) (h0 : 0 < ws.length) : ∃ g cap, v = .slice (some ⟨g, 0, none⟩) ws.length cap ∧ B ≤ g ∧ g < w.heap.size ∧ ws.length ≤ cap ∧ ∀ j (hj : j < ws.length), w.cell? ⟨g, j, none⟩ = some (strV ws[j]) := by
  have h' : w.ownsRow B 9 1 v ws.length (ws.map strV) := h
  rcases h'.2 with ⟨rfl, hn⟩ | ⟨g, cap, cur, rfl, hB, hg, q1, q2, q3, q4⟩
  · omega
  · refine ⟨g, cap, rfl, hB, (Array.getElem?_eq_some_iff.1 hg).1, by omega, fun j hj => ?_⟩
    have e := congrArg (·[j]?) q4
    simp only [List.getElem?_map] at e
    rw [List.getElem?_take_of_lt (by omega), Array.getElem?_toList, List.getElem?_eq_getElem hj] at e
    simp [World.cell?, hg, e]
end Go.Proofs.YtblhklbpcalglaaGreatDoor
namespace Go.Proofs.YtblhklbpcalglaaGreatDoor
open Go.RowKit
set_option linter.unusedVariables false
set_option linter.unusedSimpArgs false

/-! ### ParseBeginnings -/
theorem bcells_at {W : World} {b o : Nat} {zs : List UInt8} (h : Src W b o zs) : ∀ j u, (Lib.byteCells zs)[j]? = some u → W.cell? ((⟨b, o, none⟩ : Addr).add j) = some u := fun j u hu => by
  have hadd : (⟨b, o, none⟩ : Addr).add j = ⟨b, o + j, none⟩ := by unfold Addr.add; split <;> simp_all
  simp only [Lib.byteCells, List.getElem?_map, Option.map_eq_some_iff] at hu
  obtain ⟨x, hx, rfl⟩ := hu
  obtain ⟨hj, rfl⟩ := List.getElem?_eq_some_iff.1 hx
  rw [hadd, h j hj]
theorem bcells_one (zs : List UInt8) : ∀ u ∈ Lib.byteCells zs, u.oneCell' = true := fun u hu => by
  obtain ⟨x, _, rfl⟩ := List.mem_map.1 hu
  rfl
theorem app_sl (W : World) (B : Nat) (v : Value) (bs : List UInt8) (ho : BO W B v bs) (b o c : Nat) (zs : List UInt8) (hs : Src W b o zs) (h0 : 0 < zs.length) (hB : B ≤ W.heap.size) (hl : bs.length + zs.length ≤ 140737488355328) :
    ∃ v' W3, (∀ ty, (Builtin.append_ #[22, 22] ty #[v, .slice (some ⟨b, o, none⟩) zs.length c]).run Tryz.prog W = .ok v' W3) ∧ BO W3 B v' (bs ++ zs) ∧ W.grownBy W3 v.ownBlock := by
  obtain ⟨i0, hi0, hz0, hz1, hz2⟩ := info_parts infoU8q
  have hbl : (Lib.byteCells zs).length = zs.length := by simp [Lib.byteCells]
  have hty : ∀ ty, (Builtin.append_ #[22, 22] ty #[v, .slice (some ⟨b, o, none⟩) zs.length c]) = (Builtin.append_ #[22, 22] 0 #[v, .slice (some ⟨b, o, none⟩) zs.length c]) := fun ty => rfl
  obtain ⟨g, cp, W3, r1, r2, r3, r4, r5⟩ := run_append_lies (P := Tryz.prog) W 22 0 B 5 i0 (.int .u8 0) 1 1 Tryz.underlying22 hi0 hz0 hz1 hz2 rfl (by decide) v bs.length (Lib.byteCells bs) ho ⟨b, o, none⟩ zs.length c (Lib.byteCells zs) (by omega) (bcells_at hs) (bcells_one zs) h0 (by unfold maxLen; omega) (by omega) hB _ rfl
  refine ⟨_, W3, fun ty => by rw [hty]; exact r1, ?_, r3⟩
  unfold BO
  rw [Lib.byteCells_append, List.length_append]
  exact r2
/-! ### a row that is more than half of all memory -/
theorem grow_le (newLen : Nat) : ∀ (r c : Nat), c ≤ newLen + (newLen + 768) / 4 → Builtin.growBy newLen r c ≤ newLen + (newLen + 768) / 4
  | 0, c, h => h
  | r + 1, c, h => by
    rw [Builtin.growBy]
    split
    · exact h
    · exact grow_le newLen r _ (by omega)
theorem next_fits {need cap : Nat} (h : need ≤ 140737488420865) (hc : cap < need) : Builtin.nextslicecap need cap ≤ 281474976710656 := by
  unfold Builtin.nextslicecap
  split
  · omega
  · split
    · omega
    · have := grow_le need 4 cap (by omega)
      omega
theorem app_big (W : World) (B : Nat) (v : Value) (bs : List UInt8) (ho : BO W B v bs) (hb0 : 0 < bs.length) (b o c : Nat) (zs : List UInt8) (hs : Src W b o zs) (hB : B ≤ W.heap.size) (hl : bs.length + zs.length ≤ 140737488420865) :
    ∃ v' W3, (∀ ty, (Builtin.append_ #[22, 22] ty #[v, .slice (some ⟨b, o, none⟩) zs.length c]).run Tryz.prog W = .ok v' W3) ∧ BO W3 B v' (bs ++ zs) ∧ W.grownBy W3 v.ownBlock := by
  obtain ⟨i0, hi0, hz0, hz1, hz2⟩ := info_parts infoU8q
  have lb : (Lib.byteCells bs).length = bs.length := by simp [Lib.byteCells]
  have lz : (Lib.byteCells zs).length = zs.length := by simp [Lib.byteCells]
  have ho' : W.ownsRow B 5 1 v bs.length (Lib.byteCells bs) := ho
  rcases ho'.2 with ⟨_, hn⟩ | ⟨g, cap, cur, rfl, hBg, hg, q1, q2, q3, q4⟩
  · omega
  · rw [Nat.mul_one] at q3 q4
    by_cases hroom : bs.length + zs.length ≤ cap
    · have hr := fun ty => run_append_room (P := Tryz.prog) W 22 ty 5 i0 Tryz.underlying22 hi0 g bs.length cap cur hg ⟨b, o, none⟩ zs.length c (Lib.byteCells zs) (by rw [hz1, lz, Nat.mul_one]) (bcells_at hs) (bcells_one zs) hroom (by rw [hz1, lz, q3]; omega)
      simp only [hz1, Nat.mul_one] at hr
      refine ⟨_, _, hr, ?_, ⟨rfl, rfl, rfl, by simp, fun k _ hk => setRow_other W g k _ (fun e => hk (by simp [Value.ownBlock, e]))⟩⟩
      unfold BO
      rw [Lib.byteCells_append, List.length_append]
      refine ⟨by simp [lb, lz], .inr ⟨g, cap, _, rfl, hBg, setRow_heap W g cur _ _ _ hg, hroom, q2, ?_, ?_⟩⟩
      · simp only [List.size_toArray, List.length_append, List.length_take, List.length_drop, Array.length_toList, lz]
        omega
      · rw [q4, Nat.mul_one, ← lb, ← lz, ← List.length_append]
        exact List.take_left
    · have holds := ho'.cells (g := g) rfl
      have hr := fun ty => run_append_grow (P := Tryz.prog) W 22 ty 5 i0 (.int .u8 0) Tryz.underlying22 hi0 hz0 ⟨g, 0, none⟩ bs.length cap (Lib.byteCells bs) (by rw [hz1, lb, Nat.mul_one]) holds ⟨b, o, none⟩ zs.length c (Lib.byteCells zs) (by rw [hz1, lz, Nat.mul_one]) (bcells_at hs) (by omega) (by omega) (by rw [hz2, Nat.mul_one]; exact next_fits hl (by omega))
      have hge := grownCap_ge W (bs.length + zs.length) cap 5
      have hcm := grownCap_le_maxLen W (bs.length + zs.length) cap 5 (by unfold maxLen; omega)
      refine ⟨_, _, hr, ?_, ⟨rfl, rfl, rfl, by simp, fun k hk _ => heap_alloc_old W.drew _ hk⟩⟩
      unfold BO
      rw [Lib.byteCells_append, List.length_append]
      refine ⟨by simp [lb, lz], .inr ⟨W.heap.size, _, _, rfl, hB, heap_alloc_new W.drew _, hge, hcm, ?_, ?_⟩⟩
      · simp only [Array.size_append, List.size_toArray, size_zeroCells, lb, lz]
        simp [Value.cells]
        omega
      · simp only [Array.toList_append]
        rw [Nat.mul_one, ← lb, ← lz, ← List.length_append]
        exact List.take_left
theorem app_any (W : World) (B : Nat) (v : Value) (bs : List UInt8) (ho : BO W B v bs) (hb0 : 0 < bs.length) (a2 : Option Addr) (c2 : Nat) (zs : List UInt8) (hs : IsSrc W a2 c2 zs) (hB : B ≤ W.heap.size) (hl : bs.length + zs.length ≤ 140737488420865) :
    ∃ v' W3, (∀ ty, (Builtin.append_ #[22, 22] ty #[v, .slice a2 zs.length c2]).run Tryz.prog W = .ok v' W3) ∧ BO W3 B v' (bs ++ zs) ∧ W.grownBy W3 v.ownBlock := by
  by_cases h0 : 0 < zs.length
  · obtain ⟨b, o, rfl, _, hsr⟩ := hs.at_ h0
    exact app_big W B v bs ho hb0 b o c2 zs hsr hB hl
  · obtain rfl := List.eq_nil_of_length_eq_zero (show zs.length = 0 by omega)
    refine ⟨v, W, fun ty => ?_, by simpa using ho, ⟨rfl, rfl, rfl, Nat.le_refl _, fun _ _ _ => rfl⟩⟩
    obtain ⟨i0, hi0, hz0, hz1, hz2⟩ := info_parts infoU8q
    have ho' : W.ownsRow B 5 1 v bs.length (Lib.byteCells bs) := ho
    rcases ho'.2 with ⟨_, hn⟩ | ⟨g, cap, cur, rfl, hBg, hg, q1, q2, q3, q4⟩
    · omega
    · have hu : (Tryz.prog.underlying 22) = some (.slice 5) := Tryz.underlying22
      cases a2 with
      | none => simp [Builtin.append_, run_underlying hu, sizeOf, typeInfo, hi0, Builtin.lenOf, Builtin.firstCells, storeCells, q1]
      | some a => simp [Builtin.append_, run_underlying hu, sizeOf, typeInfo, hi0, Builtin.lenOf, Builtin.firstCells, storeCells, loadCells, loadCellsFrom, q1]
theorem Src.take {W : World} {b o : Nat} {xs : List UInt8} (h : Src W b o xs) (e : Nat) : Src W b o (xs.take e) := fun i hi => by
  have h2 := hi
  rw [List.length_take] at h2
  rw [List.getElem_take]
  exact h i (by omega)
theorem IsSrc.take {W : World} {a : Option Addr} {cap : Nat} {xs : List UInt8} (h : IsSrc W a cap xs) (e : Nat) (he : e ≤ xs.length) : IsSrc W a cap (xs.take e) := by
  have hl : (xs.take e).length = e := by rw [List.length_take]; omega
  have h1 := h.cap_
  have h2 := h.max_
  refine ⟨fun h0 => ?_, by omega, by omega⟩
  obtain ⟨b, o, e1, e2, e3⟩ := h.at_ (by omega)
  exact ⟨b, o, e1, e2, e3.take e⟩
/-- the three appends -/
theorem beg_long {W : World} {b o cap : Nat} {a2 : Option Addr} {c2 : Nat} {xs zs : List UInt8} (e : Nat) (he : e ≤ xs.length) (h0 : 0 < e) (hx : xs.length ≤ 65536) (hz : zs.length ≤ 140737488351232) (hs : IsSrc W (some ⟨b, o, none⟩) cap xs) (hs2 : IsSrc W a2 c2 zs) :
    ∃ v1 W1 v2 W2 v3 W3, (∀ ty, (Builtin.append_ #[22, 22] ty #[.slice none 0 0, .slice (some ⟨b, o, none⟩) e cap]).run Tryz.prog W = .ok v1 W1) ∧
      (∀ ty, (Builtin.append_ #[22, 22] ty #[v1, .slice (some ⟨W1.heap.size, 0, none⟩) 1 1]).run Tryz.prog (W1.alloc (.cells #[.int .u8 32] 5)) = .ok v2 W2) ∧
      (∀ ty, (Builtin.append_ #[22, 22] ty #[v2, .slice a2 zs.length c2]).run Tryz.prog W2 = .ok v3 W3) ∧ BO W3 W.heap.size v3 (xs.take e ++ 32 :: zs) ∧ Below W.heap.size W W3 := by
  have hl : (xs.take e).length = e := by rw [List.length_take]; omega
  obtain ⟨b', o', e1, _, hsr⟩ := (hs.take e he).at_ (by omega)
  simp only [Option.some.injEq, Addr.mk.injEq, and_true] at e1
  obtain ⟨rfl, rfl⟩ := e1
  have o0 : BO W W.heap.size (.slice none 0 0) [] := World.ownsRow_nil _ _ _ _
  obtain ⟨v1, W1, r1, o1, g1⟩ := app_sl W W.heap.size _ [] o0 b o cap (xs.take e) hsr (by omega) (Nat.le_refl _) (by simp; omega)
  rw [hl] at r1
  rw [List.nil_append] at o1
  have b1 : Below W.heap.size W W1 := Below.grown (Below.refl _ _) g1 (Nat.le_refl _) (fun k hk => (owns_lo o0 hk).1)
  obtain ⟨v2, W2, r2, o2, g2⟩ := app_byte W1 W.heap.size v1 (xs.take e) o1 32 b1.size (by omega)
  have b2 : Below W.heap.size W W2 := Below.grown b1 g2 b1.size (fun k hk => (owns_lo o1 hk).1)
  obtain ⟨v3, W3, r3, o3, g3⟩ := app_any W2 W.heap.size v2 (xs.take e ++ [32]) o2 (by simp) a2 c2 zs (hs2.below b2) b2.size (by simp; omega)
  have b3 : Below W.heap.size W W3 := Below.grown b2 g3 b2.size (fun k hk => (owns_lo o2 hk).1)
  refine ⟨v1, W1, v2, W2, v3, W3, r1, r2, r3, ?_, b3⟩
  simpa using o3
set_option maxRecDepth 100000 in
set_option maxHeartbeats 2000000 in
theorem beg_skip (w : World) (a : Option Addr) (n cap : Nat) (v2 : Value) (l : List Nd) (fa fc : Int) (A C : Nat) (hn : n ≤ 9223372036854775807) (hcase : (fc != 30) = true ∨ ((fc != 30) = false ∧ (n : Int) ≤ fa) ∨ ((fc != 30) = false ∧ fa < (n : Int) ∧ ((C : Int) != 0) = true))
    (HSh : Bx (Calls Tryz.prog 4 #[] w fun e w' => e = .returned (.bool true) ∧ Below w.heap.size w w'))
    (HP1 : Bx (∀ W, Below w.heap.size w W → Calls Tryz.prog 5 #[.slice a n cap, .int .i64 65536] W (ParE W l fa fc)))
    (HS : Bx (∀ W, Below w.heap.size w W → Calls Tryz.prog 6 #[.slice a n cap] W fun e w' => ∃ v, e = .returned (.tuple #[v, .agg #[.int .i64 (A : Int), .int .i64 (C : Int)]]) ∧ Below W.heap.size W w')) :
    Calls Tryz.prog 3 #[.slice a n cap, v2] w fun e w' => e = .returned (.bool true) ∧ Below w.heap.size w w' := by
  rcases hcase with h1 | ⟨h0, h1⟩ | ⟨h0, h1, h3⟩
  all_goals
    go_enter Tryz.func3, Tryz.ntmps3
    go_wp2_with (first
      | (go_at_call 4; refine Calls.mono HSh.out ?_; rintro e W1 ⟨rfl, hb1⟩; clear HSh)
      | (go_at_call 5; refine Calls.mono (HP1.out _ hb1) ?_; clear HP1; rintro e W2 ⟨na, nc, rfl, hb2, hn2⟩; obtain ⟨W3, hW3⟩ : ∃ W3, W2.alloc (.cells #[.int .i64 fa, .int .i64 fc] 27) = W3 := ⟨_, rfl⟩; have HW3 : Bx _ := ⟨hW3⟩; have HB3 : Bx _ := ⟨bel_one (hb1.trans (hb2.mono hb1.size)) hW3⟩; clear hW3 hn2 hb1 hb2)
      | (go_at_call 6; rw [HW3.out]; refine Calls.mono (HS.out _ HB3.out) ?_; clear HS; rintro e W4 ⟨v, rfl, hb4⟩; obtain ⟨k0, k1, k2⟩ := fault_at HW3.out hb4; have HB4 : Bx _ := ⟨HB3.out.trans (hb4.mono HB3.out.size)⟩; clear hb4 HW3 HB3))
    go_ret
    exact ⟨rfl, bel_one HB4.out rfl⟩
end Go.Proofs.YtblhklbpcalglaaGreatDoor
namespace Go.Proofs.YtblhklbpcalglaaGreatDoor
open Go.RowKit
set_option linter.unusedVariables false
set_option linter.unusedSimpArgs false

structure FCel (X : World) (b : Nat) (x y : Int) : Prop where
  c0 : X.cell? ⟨b, 0, none⟩ = some (.int .i64 x)
  c1 : X.cell? ⟨b, 1, none⟩ = some (.int .i64 y)
  lt : b < X.heap.size
theorem FCel.later {X Y : World} {b : Nat} {x y : Int} (h : FCel X b x y) (hb : Below X.heap.size X Y) : FCel Y b x y :=
  ⟨by rw [hb.cell (p := ⟨b, 0, none⟩) h.lt]; exact h.c0, by rw [hb.cell (p := ⟨b, 1, none⟩) h.lt]; exact h.c1, by have := hb.size; have := h.lt; omega⟩
theorem FCel.new {X Y : World} {x y : Int} (h : X.alloc (.cells #[.int .i64 x, .int .i64 y] 27) = Y) : FCel Y X.heap.size x y := by
  have c : Y.heap[X.heap.size]? = some (.cells #[.int .i64 x, .int .i64 y] 27 (0, 0)) := by rw [← h]; exact heap_alloc_new _ _
  exact ⟨by simp [World.cell?, c], by simp [World.cell?, c], heapLt c⟩
set_option maxRecDepth 100000 in
set_option maxHeartbeats 4000000 in
theorem beg_main (w : World) (b o cap : Nat) (xs zs : List UInt8) (a2 : Option Addr) (c2 : Nat) (hs : IsSrc w (some ⟨b, o, none⟩) cap xs) (hs2 : IsSrc w a2 c2 zs) (hx : xs.length ≤ 65536) (hz : zs.length ≤ 140737488351232) (toks : List Tok) (at_ i e : Nat) (hat : at_ < xs.length)
    (hi : i < toks.length) (hpl : toks[i].place = at_) (hln : at_ + toks[i].len = e) (hl1 : 1 ≤ toks[i].len) (he : e ≤ xs.length) (honly : ∀ j (h : j < toks.length), toks[j].place = at_ → j = i) (hfew : toks.length ≤ 65536)
    (m m3 : List Nd) (ha hc ka kc : Int) (A2 C2 : Nat) (hsame : C2 = 0 → ha = (at_ : Int) ∧ hc = 30) (hk : kc = 0 ∨ (kc = 30 ∧ ka = (at_ : Int)))
    (HSh : Bx (Calls Tryz.prog 4 #[] w fun e w' => e = .returned (.bool true) ∧ Below w.heap.size w w'))
    (HP1 : Bx (∀ W, Below w.heap.size w W → Calls Tryz.prog 5 #[.slice (some ⟨b, o, none⟩) xs.length cap, .int .i64 65536] W (ParE W [] (at_ : Int) 30)))
    (HS : Bx (∀ W, Below w.heap.size w W → Calls Tryz.prog 6 #[.slice (some ⟨b, o, none⟩) xs.length cap] W fun e w' => ∃ g cp, e = .returned (.tuple #[.slice (some ⟨g, 0, none⟩) toks.length cp, .agg #[.int .i64 0, .int .i64 0]]) ∧ Below W.heap.size W w' ∧ toks.length ≤ cp ∧ Toks w' g toks))
    (HP2 : Bx (∀ W a' c', Below w.heap.size w W → IsSrc W a' c' (xs.take e ++ 32 :: zs) → Calls Tryz.prog 5 #[.slice a' (xs.take e ++ 32 :: zs).length c', .int .i64 65536] W (ParE W m ha hc)))
    (HS2 : Bx (∀ W a' c', Below w.heap.size w W → IsSrc W a' c' (xs.take e ++ 32 :: zs) → Calls Tryz.prog 6 #[.slice a' (xs.take e ++ 32 :: zs).length c'] W fun e w' => ∃ v, e = .returned (.tuple #[v, .agg #[.int .i64 (A2 : Int), .int .i64 (C2 : Int)]]) ∧ Below W.heap.size W w'))
    (HP3 : Bx (∀ W, Below w.heap.size w W → Calls Tryz.prog 5 #[.slice (some ⟨b, o, none⟩) at_ cap, .int .i64 65536] W (ParE W m3 ka kc))) :
    Calls Tryz.prog 3 #[.slice (some ⟨b, o, none⟩) xs.length cap, .slice a2 zs.length c2] w fun e w' => e = .returned (.bool true) ∧ Below w.heap.size w w' := by
  have HX : Bx _ := ⟨hs⟩
  have HZ : Bx _ := ⟨hs2⟩
  have hcap := hs.cap_
  have HON : Bx _ := ⟨honly⟩
  have HPL : Bx _ := ⟨And.intro hpl hln⟩
  have HSM : Bx _ := ⟨hsame⟩
  have HK : Bx _ := ⟨hk⟩
  have he0 : 0 < e := by omega
  have hd3 : decide (xs.length ≤ at_) = false := by simp; omega
  have hd1 : decide (xs.length < e) = false := by simp; omega
  have hd4 : decide (e ≤ cap) = true := by simp; omega
  clear hs hs2 honly hpl hln hsame hk
  go_enter Tryz.func3, Tryz.ntmps3
  go_wp2_with (first
    | (go_at_call 4; refine Calls.mono HSh.out ?_; rintro e W1 ⟨rfl, hb1⟩; clear HSh)
    | (go_at_call 5; refine Calls.mono (HP1.out _ hb1) ?_; clear HP1; rintro e W2 ⟨na, nc, rfl, hb2, hn2⟩; obtain ⟨W3, hW3⟩ : ∃ W3, W2.alloc (.cells #[.int .i64 (at_ : Int), .int .i64 30] 27) = W3 := ⟨_, rfl⟩; have HW3 : Bx _ := ⟨hW3⟩; have HB3 : Bx _ := ⟨bel_one (hb1.trans (hb2.mono hb1.size)) hW3⟩; clear hW3 hn2 hb1 hb2)
    | (go_at_call 6; rw [HW3.out]; refine Calls.mono (HS.out _ HB3.out) ?_; clear HS; rintro e W4 ⟨g, cp, rfl, hb4, hcp, hT⟩; obtain ⟨k0, k1, k2⟩ := fault_at HW3.out hb4; obtain ⟨W5, hW5⟩ : ∃ W5, W4.alloc (.cells #[.int .i64 0, .int .i64 0] 27) = W5 := ⟨_, rfl⟩; have b5 : Below W4.heap.size W4 W5 := (by rw [← hW5]; exact below1 _ _); have HB5 : Bx _ := ⟨(HB3.out.trans (hb4.mono HB3.out.size)).trans (b5.mono (HB3.out.trans (hb4.mono HB3.out.size)).size)⟩; have HT5 : Bx _ := ⟨hT.later b5⟩; have HF5 : Bx _ := ⟨FCel.later (FCel.mk k0 k1 k2) b5⟩; have HW5 : Bx _ := ⟨hW5⟩; clear hb4 HW3 HB3 hT b5 hW5))
  rw [HW5.out]
  clear HW5 k0 k1 k2
  go_loopw [48, 9] (fun x v wr => ∃ (p : Nat), p ≤ toks.length ∧ x = .int .i64 (p : Int) ∧ v = .int .i64 ((if i < p then e else 0 : Nat) : Int) ∧ Bx (Below W5.heap.size W5 wr)) (fun x _ _ => toks.length - (intOf x).toNat)
  case atStart => exact ⟨0, Nat.zero_le _, rfl, rfl, ⟨Below.refl _ _⟩⟩
  case round =>
    obtain ⟨p, hp, rfl, rfl, HI⟩ := hrel
    have F := HF5.out.later HI.out
    by_cases hlt : p < toks.length
    · obtain ⟨t0, t1, t2, t3⟩ := (HT5.out.later HI.out).at_ p hlt
      have hgl := (HT5.out.later HI.out).lt
      have f0 := F.c0
      have fl := F.lt
      have HI2 : Bx (∀ o, Below W5.heap.size W5 (wr.alloc o)) := ⟨fun o => HI.out.trans ((below1 wr o).mono HI.out.size)⟩
      by_cases hpi : p = i
      · subst hpi
        have hpl := HPL.out.1
        have hln := HPL.out.2
        have hle : (toks[p].place : Int) + (toks[p].len : Int) = ((at_ + toks[p].len : Nat) : Int) := by omega
        have hpe : ((toks[p].place : Int) == (at_ : Int)) = true := by rw [hpl]; simp
        have hv : ((if p < p + 1 then e else 0 : Nat) : Int) = (toks[p].place : Int) + (toks[p].len : Int) := by rw [if_pos (by omega), hle, hln]
        have hbd : (toks[p].place : Int) + (toks[p].len : Int) ≤ 65536 := by omega
        have HV : Bx _ := ⟨hv⟩
        clear hpl hln hle hv F HI
        generalize toks[p].place = pl at *
        generalize toks[p].len = ln at *
        generalize toks[p].kind = kd0 at *
        generalize toks[p].num = nu at *
        go_wp2
        go_roundw
        case rel => exact ⟨p + 1, hlt, by go_num, by rw [HV.out], ⟨HI2.out _⟩⟩
        case measure => simp [intOf]; omega
      · have hpe : ((toks[p].place : Int) == (at_ : Int)) = false := by
          rw [beq_eq_false_iff_ne]
          intro h
          exact hpi (HON.out p hlt (by omega))
        have hv : (if i < p + 1 then e else 0 : Nat) = (if i < p then e else 0 : Nat) := by
          by_cases h : i < p
          · rw [if_pos h, if_pos (by omega)]
          · rw [if_neg h, if_neg (by omega)]
        have HV : Bx _ := ⟨hv⟩
        clear F HI hv
        generalize toks[p].place = pl at *
        generalize toks[p].len = ln at *
        generalize toks[p].kind = kd0 at *
        generalize toks[p].num = nu at *
        generalize (if i < p then e else 0 : Nat) = ev at *
        go_wp2
        go_roundw
        case rel => exact ⟨p + 1, hlt, by go_num, by rw [HV.out], ⟨HI2.out _⟩⟩
        case measure => simp [intOf]; omega
    · obtain rfl : p = toks.length := by omega
      rw [if_pos hi]
      have bw : Below w.heap.size w wr := HB5.out.trans (HI.out.mono HB5.out.size)
      have hzw := bw.size
      have he1 : ((e : Int) == 0) = false := by rw [beq_eq_false_iff_ne]; omega
      have he3 : (e : Int) ≤ (cap : Int) := by omega
      obtain ⟨v1, W6, v2, W7, v3, W8, r1, r2, r3, o8, b8⟩ := beg_long e he (by omega) hx hz (HX.out.below bw) (HZ.out.below bw)
      obtain ⟨a', c', rfl, hsrc⟩ := BO.src o8 (by unfold maxLen; simp; omega)
      have bw8 : Below w.heap.size w W8 := bw.trans (b8.mono hzw)
      have F8 := F.later b8
      have HQ2 : Bx _ := ⟨HP2.out W8 a' c' bw8 hsrc⟩
      have HQS : Bx (∀ Y, Below W8.heap.size W8 Y → _) := ⟨fun Y hY => HS2.out Y a' c' (bw8.trans (hY.mono bw8.size)) (hsrc.below hY)⟩
      have HQ3 : Bx (∀ Y, Below W8.heap.size W8 Y → _) := ⟨fun Y hY => HP3.out Y (bw8.trans (hY.mono bw8.size))⟩
      have HB8 : Bx _ := ⟨bw8⟩
      have HF8 : Bx _ := ⟨F8⟩
      clear bw bw8 F8 F HI hsrc o8 b8 HP2 HS2 HP3 HX HZ HB5 HF5 HT5
      generalize (xs.take e ++ 32 :: zs).length = L at *
      by_cases hC : C2 = 0
      · subst hC
        obtain ⟨rfl, rfl⟩ := HSM.out rfl
        clear HSM
        rcases HK.out with rfl | ⟨rfl, rfl⟩
        all_goals
          go_wp2_with (first
            | (at_builtin; refine wpList_app rfl (.const (.slice none 0 0)) (.tmp 73) 22 rfl rfl rfl r1 ?_; clear r1)
            | (at_builtin; refine wpList_app rfl (.tmp 74) (.tmp 75) 22 rfl rfl rfl r2 ?_; clear r2)
            | (at_builtin; refine wpList_app rfl (.tmp 77) (.tmp 78) 22 rfl rfl rfl r3 ?_; clear r3)
            | (go_at_call 5; refine Calls.mono HQ2.out ?_; clear HQ2; rintro e W9 ⟨ma, mc, rfl, hb9, hn9⟩; obtain ⟨W10, hW10⟩ : ∃ W10, W9.alloc (.cells #[.int .i64 (at_ : Int), .int .i64 30] 27) = W10 := ⟨_, rfl⟩; have b10 : Below W8.heap.size W8 W10 := bel_one hb9 hW10; have HH : Bx _ := ⟨FCel.new hW10⟩; have HW10 : Bx _ := ⟨hW10⟩; have HB10 : Bx _ := ⟨b10⟩; clear hb9 hn9 hW10 b10)
            | (go_at_call 6; rw [HW10.out]; refine Calls.mono (HQS.out _ HB10.out) ?_; clear HQS HW10; rintro e W11 ⟨v, rfl, hb11⟩; have b11 : Below W8.heap.size W8 W11 := HB10.out.trans (hb11.mono HB10.out.size); obtain ⟨f0, f1, fl⟩ := HF8.out.later b11; obtain ⟨h0, h1, hl⟩ := HH.out.later hb11; obtain ⟨W12, hW12⟩ : ∃ W12, W11.alloc (.cells #[.int .i64 (A2 : Int), .int .i64 0] 27) = W12 := ⟨_, rfl⟩; have b12 : Below W8.heap.size W8 W12 := bel_one b11 hW12; have HB12 : Bx _ := ⟨b12⟩; have HW12 : Bx _ := ⟨hW12⟩; clear hb11 b11 b12 hW12 HB10 HH)
            | (go_at_call 5; rw [HW12.out]; refine Calls.mono (HQ3.out _ HB12.out) ?_; clear HQ3 HW12; rintro e W13 ⟨ma3, mc3, rfl, hb13, hn13⟩; have b13 : Below W8.heap.size W8 W13 := HB12.out.trans (hb13.mono HB12.out.size); obtain ⟨p0, p1, pl⟩ := HF8.out.later b13; have HB13 : Bx _ := ⟨b13⟩; clear hb13 hn13 b13 f0 f1 fl h0 h1 hl HB12))
          go_ret
          exact ⟨rfl, HB8.out.trans ((HB13.out.trans ((below1 _ _).mono HB13.out.size)).mono HB8.out.size)⟩
      · have hC2 : ((C2 : Int) == 0) = false := by rw [beq_eq_false_iff_ne]; omega
        rcases HK.out with rfl | ⟨rfl, rfl⟩
        all_goals
          go_wp2_with (first
            | (at_builtin; refine wpList_app rfl (.const (.slice none 0 0)) (.tmp 73) 22 rfl rfl rfl r1 ?_; clear r1)
            | (at_builtin; refine wpList_app rfl (.tmp 74) (.tmp 75) 22 rfl rfl rfl r2 ?_; clear r2)
            | (at_builtin; refine wpList_app rfl (.tmp 77) (.tmp 78) 22 rfl rfl rfl r3 ?_; clear r3)
            | (go_at_call 5; refine Calls.mono HQ2.out ?_; clear HQ2; rintro e W9 ⟨ma, mc, rfl, hb9, hn9⟩; obtain ⟨W10, hW10⟩ : ∃ W10, W9.alloc (.cells #[.int .i64 ha, .int .i64 hc] 27) = W10 := ⟨_, rfl⟩; have b10 : Below W8.heap.size W8 W10 := bel_one hb9 hW10; have HH : Bx _ := ⟨FCel.new hW10⟩; have HW10 : Bx _ := ⟨hW10⟩; have HB10 : Bx _ := ⟨b10⟩; clear hb9 hn9 hW10 b10)
            | (go_at_call 6; rw [HW10.out]; refine Calls.mono (HQS.out _ HB10.out) ?_; clear HQS HW10; rintro e W11 ⟨v, rfl, hb11⟩; have b11 : Below W8.heap.size W8 W11 := HB10.out.trans (hb11.mono HB10.out.size); obtain ⟨f0, f1, fl⟩ := HF8.out.later b11; obtain ⟨h0, h1, hl⟩ := HH.out.later hb11; obtain ⟨W12, hW12⟩ : ∃ W12, W11.alloc (.cells #[.int .i64 (A2 : Int), .int .i64 (C2 : Int)] 27) = W12 := ⟨_, rfl⟩; have b12 : Below W8.heap.size W8 W12 := bel_one b11 hW12; have HB12 : Bx _ := ⟨b12⟩; have HW12 : Bx _ := ⟨hW12⟩; clear hb11 b11 b12 hW12 HB10 HH)
            | (go_at_call 5; rw [HW12.out]; refine Calls.mono (HQ3.out _ HB12.out) ?_; clear HQ3 HW12; rintro e W13 ⟨ma3, mc3, rfl, hb13, hn13⟩; have b13 : Below W8.heap.size W8 W13 := HB12.out.trans (hb13.mono HB12.out.size); obtain ⟨p0, p1, pl⟩ := HF8.out.later b13; have HB13 : Bx _ := ⟨b13⟩; clear hb13 hn13 b13 f0 f1 fl h0 h1 hl HB12))
          go_ret
          exact ⟨rfl, HB8.out.trans ((HB13.out.trans ((below1 _ _).mono HB13.out.size)).mono HB8.out.size)⟩
end Go.Proofs.YtblhklbpcalglaaGreatDoor
namespace Go.Proofs.YtblhklbpcalglaaGreatDoor
open Go.RowKit
set_option linter.unusedVariables false
set_option linter.unusedSimpArgs false

theorem beg_walk (w : World) (a : Option Addr) (cap : Nat) (xs : List UInt8) (hs : IsSrc w a cap xs) (a2 : Option Addr) (c2 : Nat) (zs : List UInt8) (hs2 : IsSrc w a2 c2 zs) (hz : zs.length ≤ 140737488351232) (hL : Laid w) (h7 : 7 ≤ w.heap.size) :
    Calls Tryz.prog 3 #[.slice a xs.length cap, .slice a2 zs.length c2] w fun e w' => e = .returned (.bool true) ∧ Below w.heap.size w w' := by
  have HSh : Bx _ := ⟨shown_any w hL h7⟩
  have hmx := hs.max_
  unfold maxLen at hmx
  have HPx : ∀ W (a' : Option Addr) (c' : Nat) (ys : List UInt8), Below w.heap.size w W → IsSrc W a' c' ys → Calls Tryz.prog 5 #[.slice a' ys.length c', .int .i64 65536] W (ParE W (parseR ys 65536).1 (parseR ys 65536).2.1 (parseR ys 65536).2.2) := fun W a' c' ys hb hsy => Parse_x W (hL.below hb) (by have := hb.size; omega) a' c' ys hsy 65536
  have HP1 := fun W (hb : Below w.heap.size w W) => HPx W a cap xs hb (hs.below hb)
  have HS1 : ∀ W, Below w.heap.size w W → Calls Tryz.prog 6 #[.slice a xs.length cap] W fun e w' => ∃ v, e = .returned (.tuple #[v, .agg #[.int .i64 ((scanAll xs).2.1 : Int), .int .i64 ((scanAll xs).2.2 : Int)]]) ∧ Below W.heap.size W w' := fun W hb => (Scan_any a cap xs W (hs.below hb) (hL.below hb)).mono (by
    rintro e w' ⟨v, he, _, hb2⟩
    exact ⟨v, he, hb2⟩)
  by_cases hc : (parseR xs 65536).2.2 = 30
  · by_cases hlt : (parseR xs 65536).2.1 < (xs.length : Int)
    · by_cases h0 : (scanAll xs).2.2 = 0
      · obtain ⟨at_, hR⟩ := parse_err xs 65536 h0 hc
        rw [hR] at hlt HP1
        simp only at hlt HP1
        have hat : at_ < xs.length := by omega
        obtain ⟨i, hB⟩ := begins_plain xs h0 at_ hR hat
        obtain ⟨hcv, hl⟩ := scan_covers xs h0
        have hfew := (scan_okts xs h0).2.2
        obtain ⟨b, o, rfl, hbl, hsrc⟩ := hs.at_ (by omega)
        have hA : (scanAll xs).2.1 = 0 := by rw [covers_scan xs _ hcv hl]
        have HS3 : ∀ W, Below w.heap.size w W → Calls Tryz.prog 6 #[.slice (some ⟨b, o, none⟩) xs.length cap] W fun e w' => ∃ g cp, e = .returned (.tuple #[.slice (some ⟨g, 0, none⟩) (scanAll xs).1.length cp, .agg #[.int .i64 0, .int .i64 0]]) ∧ Below W.heap.size W w' ∧ (scanAll xs).1.length ≤ cp ∧ Toks w' g (scanAll xs).1 := fun W hb => (Scan_any (some ⟨b, o, none⟩) cap xs W (hs.below hb) (hL.below hb)).mono (by
          rintro e w' ⟨v, he, hv, hb2⟩
          obtain ⟨g, cp, rfl, _, h2, h3⟩ := toks_of_owns hv (by have := hB.lt; omega)
          rw [h0, hA] at he
          exact ⟨g, cp, he, hb2, h2, h3⟩)
        generalize (scanAll xs).1 = toks at *
        have hget : toks.getD i ⟨0, 0, 0, 0⟩ = toks[i]'hB.lt := by simp [List.getD, hB.lt]
        have q1 := hB.pl
        have q2 := hB.len
        have q3 := hB.le
        have q4 := hB.long
        rw [hget] at q1 q2 q3 q4
        have hal : (xs.take at_).length = at_ := by rw [List.length_take]; omega
        refine beg_main w b o cap xs zs a2 c2 hs hs2 hl hz toks at_ i (at_ + (toks[i]'hB.lt).len) hat hB.lt q1 rfl q2 q3 hB.only hfew (parseR (xs.take (at_ + (toks[i]'hB.lt).len) ++ 32 :: zs) 65536).1 (parseR (xs.take at_) 65536).1 (parseR (xs.take (at_ + (toks[i]'hB.lt).len) ++ 32 :: zs) 65536).2.1 (parseR (xs.take (at_ + (toks[i]'hB.lt).len) ++ 32 :: zs) 65536).2.2 (parseR (xs.take at_) 65536).2.1 (parseR (xs.take at_) 65536).2.2 (scanAll (xs.take (at_ + (toks[i]'hB.lt).len) ++ 32 :: zs)).2.1 (scanAll (xs.take (at_ + (toks[i]'hB.lt).len) ++ 32 :: zs)).2.2 (fun hC => ?_) hB.ahead HSh ⟨HP1⟩ ⟨HS3⟩ ⟨fun W a' c' hb hsy => HPx W a' c' _ hb hsy⟩ ⟨fun W a' c' hb hsy => ?_⟩ ⟨fun W hb => ?_⟩
        · rw [q4 zs hC]
          exact ⟨rfl, rfl⟩
        · refine (Scan_any a' c' _ W hsy (hL.below hb)).mono ?_
          rintro e w' ⟨v, he, _, hb2⟩
          exact ⟨v, he, hb2⟩
        · have := HPx W (some ⟨b, o, none⟩) cap (xs.take at_) hb ((hs.below hb).take at_ (by omega))
          rw [hal] at this
          exact this
      · exact beg_skip w a xs.length cap _ _ _ _ _ _ (by omega) (.inr (.inr ⟨by rw [hc]; rfl, hlt, by simpa using h0⟩)) HSh ⟨HP1⟩ ⟨HS1⟩
    · exact beg_skip w a xs.length cap _ _ _ _ _ _ (by omega) (.inr (.inl ⟨by rw [hc]; rfl, by omega⟩)) HSh ⟨HP1⟩ ⟨HS1⟩
  · exact beg_skip w a xs.length cap _ _ _ _ _ _ (by omega) (.inl (by simpa using hc)) HSh ⟨HP1⟩ ⟨HS1⟩
end Go.Proofs.YtblhklbpcalglaaGreatDoor
