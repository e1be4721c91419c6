import Derived.Test.YtecpknpcjoiliabDoorCUG
namespace Go.Proofs.YtecpknpcjoiliabDoor
open Go.RowKit
set_option linter.unusedVariables false
set_option linter.unusedSimpArgs false

def putA : Array Value → Nat → List Int → Array Value
  | C, _, [] => C
  | C, o, x :: r => putA (C.setIfInBounds o (.int .i64 x)) (o + 1) r
theorem putA_size : ∀ (l : List Int) (C : Array Value) (o : Nat), (putA C o l).size = C.size
  | [], C, o => rfl
  | x :: r, C, o => by rw [putA, putA_size r]; simp
theorem putA_snoc : ∀ (l : List Int) (C : Array Value) (o : Nat) (x : Int), putA C o (l ++ [x]) = (putA C o l).setIfInBounds (o + l.length) (.int .i64 x)
  | [], C, o, x => rfl
  | y :: r, C, o, x => by
    rw [List.cons_append, putA, putA_snoc r, putA, List.length_cons]
    have e : o + 1 + r.length = o + (r.length + 1) := by omega
    rw [e]
theorem numsP_nil {n : Nat} (h : 0 < n) : numsP n [] = none := by
  unfold numsP
  rw [if_neg (by simp; omega)]
theorem numsP_zero (Q : List (List UInt8)) : numsP 0 Q = if Q.isEmpty then some [] else none := by
  cases Q <;> rfl
theorem numsP_no {n : Nat} {q : List UInt8} {Q : List (List UInt8)} (h : numOf q = none) : numsP n (q :: Q) = none := by
  unfold numsP
  split
  · rw [numsOf, h]
  · rfl
theorem numsP_yes {n : Nat} {q : List UInt8} {Q : List (List UInt8)} {x : Int} (hn : 0 < n) (h : numOf q = some x) : numsP n (q :: Q) = (numsP (n - 1) Q).map (x :: ·) := by
  unfold numsP
  rw [List.length_cons]
  by_cases e : Q.length = n - 1
  · rw [if_pos e, if_pos (by omega), numsOf, h]
  · rw [if_neg e, if_neg (by omega)]
    rfl
/-- pointers to cells one behind the other -/
def Ptrs (w : World) (lb mb tb : Nat) (a : Option Addr) (n o : Nat) : Prop := 0 < n → ∃ ib io, a = some ⟨ib, io, none⟩ ∧ ib ≠ lb ∧ ib ≠ mb ∧ ib ≠ tb ∧ ib < w.heap.size ∧ ∀ j, j < n → w.cell? ⟨ib, io + j, none⟩ = some (.pointer (some ⟨tb, o + j, none⟩))
theorem Ptrs.on {w w' : World} {lb mb tb n o : Nat} {a : Option Addr} (h : Ptrs w lb mb tb a n o) (hk : Kx (fun x => x = lb ∨ x = mb ∨ x = tb) w w') : Ptrs w' lb mb tb a n o := fun hn => by
  obtain ⟨ib, io, e, h1, h2, h3, h4, h5⟩ := h hn
  refine ⟨ib, io, e, h1, h2, h3, Nat.lt_of_lt_of_le h4 hk.size, fun j hj => ?_⟩
  rw [World.cell?_of_block (w := w) (hk.blk ib h4 (by omega))]
  exact h5 j hj
/-- in the midst of numbers -/
structure NmS (w : World) (rb k lb mb tb o n : Nat) (rest : List UInt8) (P : List (List UInt8)) (C : Array Value) (T : TypeId) (i : Nat) (Q : List (List UInt8)) (dn : List Int) (wr : World) : Prop where
  kx : Kx (fun x => x = lb ∨ x = mb ∨ x = tb) w wr
  rs : RS wr rb k (nextV lb mb) rest
  nx : Nx wr lb mb Q
  t : wr.heap[tb]? = some (.cells (putA C o dn) T (0, 0))
  len : dn.length = i
  eq : numsP n P = (numsP (n - i) Q).map (dn ++ ·)
/-- what numbers answers, and leaves -/
def NmP (w : World) (rb k lb mb tb o n : Nat) (rest : List UInt8) (P : List (List UInt8)) (C : Array Value) (T : TypeId) (e : Ending) (w' : World) : Prop :=
  Kx (fun x => x = lb ∨ x = mb ∨ x = tb) w w' ∧ RS w' rb k (nextV lb mb) rest ∧ match numsP n P with
  | none => e = .returned (wrV k 171) ∧ ∃ l', l'.length ≤ n ∧ w'.heap[tb]? = some (.cells (putA C o l') T (0, 0))
  | some l => e = .returned .nilIface ∧ w'.heap[tb]? = some (.cells (putA C o l) T (0, 0))
theorem kx2 {w w' : World} {lb mb tb : Nat} (h : Kx (fun x => x = lb ∨ x = mb) w w') : Kx (fun x => x = lb ∨ x = mb ∨ x = tb) w w' := (Kx.refl _ w).trans h fun x _ q => by rcases q with q | q; exact Or.inl q; exact Or.inr (Or.inl q)
theorem kx_new {w w' : World} {P : Nat → Prop} (h : Below w.heap.size w w') : Kx P w w' := Kx.new h
set_option maxRecDepth 100000 in
set_option maxHeartbeats 4000000 in
theorem numbers_any (w : World) (B rb k lb mb tb o n cap : Nat) (rest : List UInt8) (P : List (List UInt8)) (C : Array Value) (T : TypeId) (a : Option Addr)
    (hL : LB B w) (hB : B ≤ w.heap.size) (hlb : B ≤ lb) (hmb : B ≤ mb) (htb : B ≤ tb) (hr : RS w rb k (nextV lb mb) rest) (hrt : rb ≠ tb) (htl : tb ≠ lb) (htm : tb ≠ mb) (hn : Nx w lb mb P) (ht : w.heap[tb]? = some (.cells C T (0, 0))) (hC : o + n ≤ C.size) (hp : Ptrs w lb mb tb a n o) (hn7 : n ≤ 7) :
    Calls Tryd.prog 31 #[.pointer (some ⟨rb, 0, none⟩), .slice a n cap] w (NmP w rb k lb mb tb o n rest P C T) := by
  have hrl : rb ≠ lb := fun e => by
    have h1 := hn.l
    rw [← e] at h1
    have h2 := h1.symm.trans hr
    simp at h2
  have hrm : rb ≠ mb := fun e => by
    have h1 := hn.m
    rw [← e] at h1
    have h2 := h1.symm.trans hr
    simp at h2
  have HP : Bx _ := ⟨hp⟩
  have HC : Bx (o + n ≤ C.size) := ⟨hC⟩
  have HL : Bx (∀ W, Kx (fun x => x = lb ∨ x = mb ∨ x = tb) w W → LW W) := ⟨fun W hk => (hL.on (hk.below hB fun x hx => by omega)).here⟩
  obtain ⟨Q0, hQ0⟩ : ∃ Q, Q = NmP w rb k lb mb tb o n rest P C T := ⟨_, rfl⟩
  have HN : Bx (∀ w' l', Kx (fun x => x = lb ∨ x = mb ∨ x = tb) w w' → RS w' rb k (nextV lb mb) rest → numsP n P = none → l'.length ≤ n → w'.heap[tb]? = some (.cells (putA C o l') T (0, 0)) → Q0 (.returned (wrV k 171)) w') := ⟨fun w' l' h1 h2 h3 h4 h5 => by rw [hQ0]; unfold NmP; rw [h3]; exact ⟨h1, h2, rfl, l', h4, h5⟩⟩
  have HY : Bx (∀ w' l, Kx (fun x => x = lb ∨ x = mb ∨ x = tb) w w' → RS w' rb k (nextV lb mb) rest → numsP n P = some l → w'.heap[tb]? = some (.cells (putA C o l) T (0, 0)) → Q0 (.returned .nilIface) w') := ⟨fun w' l h1 h2 h3 h4 => by rw [hQ0]; unfold NmP; rw [h3]; exact ⟨h1, h2, rfl, h4⟩⟩
  have HS0 : Bx (NmS w rb k lb mb tb o n rest P C T 0 P [] w) := ⟨⟨Kx.refl _ _, hr, hn, ht, rfl, by cases numsP (n - 0) P <;> simp_all⟩⟩
  rw [← hQ0]
  clear hQ0 hp hC hL hr hn ht hlb hmb htb hB
  go_enter Tryd.func31, Tryd.ntmps31
  go_wp2
  go_loopw [15] (fun x wr => ∃ (i : Nat) (Q : List (List UInt8)) (dn : List Int), i ≤ n ∧ x = .int .i64 i ∧ Bx (NmS w rb k lb mb tb o n rest P C T i Q dn wr)) (fun x _ => n - (intOf x).toNat)
  case atStart => exact ⟨0, P, [], Nat.zero_le _, rfl, HS0⟩
  case round =>
    obtain ⟨i, Q, dn, hi, rfl, HS⟩ := hrel
    clear HS0
    have c1 : wr.cell? ⟨rb, 1, none⟩ = some (nextV lb mb) := HS.out.rs.cells.2.1
    by_cases hlt : i < n
    · obtain ⟨ib, io, rfl, g1, g2, g3, g4, g5⟩ := (HP.out.on HS.out.kx) (by omega)
      have ci := g5 i hlt
      clear g1 g2 g3 g4 g5
      cases Q with
      | nil =>
        have hno : numsP n P = none := by rw [HS.out.eq, numsP_nil (by omega)]; rfl
        have HX : Bx (∀ w', Nx w' lb mb [] → Kx (fun x => x = lb ∨ x = mb) wr w' → RS w' rb k (nextV lb mb) rest ∧ Kx (fun x => x = lb ∨ x = mb ∨ x = tb) w w' ∧ w'.heap[tb]? = some (.cells (putA C o dn) T (0, 0))) := ⟨fun w' _ h2 => ⟨h2.at_ HS.out.rs (by omega), HS.out.kx.trans (kx2 h2) fun _ _ h => h, h2.at_ HS.out.t (by omega)⟩⟩
        have HDL : Bx (dn.length ≤ n) := ⟨by have := HS.out.len; omega⟩
        have hnn : Bx (Nx wr lb mb []) := ⟨HS.out.nx⟩
        have hv : NumV [] = .tuple #[.int .i64 0, .bool false] := rfl
        have HU : Bx (∀ W, Kx (fun x => x = lb ∨ x = mb ∨ x = tb) w W → Calls Tryd.prog 42 #[strV []] W fun e w' => e = .returned (.tuple #[.int .i64 0, .bool false]) ∧ Below W.heap.size W w') := ⟨fun W hk => number_any [] W (HL.out W hk) (by simp)⟩
        have HNO : Bx _ := ⟨hno⟩
        clear HS hno hv
        go_wp2_with (first
          | (go_at_call 46; refine (next_no _ lb mb hnn.out).mono ?_; rintro e w1 ⟨rfl, hn1, hk1⟩; have H1 : Bx _ := ⟨HX.out w1 hn1 hk1⟩; clear hn1 hk1)
          | (go_at_call 42; refine (HU.out _ H1.out.2.1).mono ?_; rintro e w2 ⟨rfl, hb2⟩; have H2 : Bx (RS w2 rb k (nextV lb mb) rest ∧ Kx (fun x => x = lb ∨ x = mb ∨ x = tb) w w2 ∧ w2.heap[tb]? = some (.cells (putA C o dn) T (0, 0))) := ⟨H1.out.1.below hb2, H1.out.2.1.trans (kx_new hb2) fun _ _ h => h, below_heap hb2 H1.out.2.2⟩; clear hb2)
          | (go_at_call 30; refine (wrong_any _ rb k _ rest 171 H2.out.1).mono ?_; rintro e w3 ⟨rfl, rfl⟩))
        exact HN.out _ dn H2.out.2.1 H2.out.1 HNO.out HDL.out H2.out.2.2
      | cons q Q =>
        have HX : Bx (∀ w', Nx w' lb mb Q → Kx (fun x => x = lb ∨ x = mb) wr w' → RS w' rb k (nextV lb mb) rest ∧ Kx (fun x => x = lb ∨ x = mb ∨ x = tb) w w' ∧ Nx w' lb mb Q ∧ w'.heap[tb]? = some (.cells (putA C o dn) T (0, 0))) := ⟨fun w' h1 h2 => ⟨h2.at_ HS.out.rs (by omega), HS.out.kx.trans (kx2 h2) fun _ _ h => h, h1, h2.at_ HS.out.t (by omega)⟩⟩
        have hnn : Bx (Nx wr lb mb (q :: Q)) := ⟨HS.out.nx⟩
        have HDL : Bx (dn.length ≤ n) := ⟨by have := HS.out.len; omega⟩
        have HQL : Bx (q.length ≤ 281474976710656) := ⟨by have := (join_le q Q).2; have := HS.out.nx.len; omega⟩
        cases hq : numOf q with
        | none =>
          have hno : numsP n P = none := by rw [HS.out.eq, numsP_no hq]; rfl
          have hv : NumV q = .tuple #[.int .i64 0, .bool false] := by unfold NumV; rw [hq]
          have HU : Bx (∀ W, Kx (fun x => x = lb ∨ x = mb ∨ x = tb) w W → Calls Tryd.prog 42 #[strV q] W fun e w' => e = .returned (.tuple #[.int .i64 0, .bool false]) ∧ Below W.heap.size W w') := ⟨fun W hk => by rw [← hv]; exact number_any q W (HL.out W hk) HQL.out⟩
          have HNO : Bx _ := ⟨hno⟩
          clear HS hno hv hq
          go_wp2_with (first
            | (go_at_call 46; refine (next_yes _ lb mb q Q hnn.out).mono ?_; rintro e w1 ⟨rfl, hn1, hk1⟩; have H1 : Bx _ := ⟨HX.out w1 hn1 hk1⟩; clear hn1 hk1)
            | (go_at_call 42; refine (HU.out _ H1.out.2.1).mono ?_; rintro e w2 ⟨rfl, hb2⟩; have H2 : Bx (RS w2 rb k (nextV lb mb) rest ∧ Kx (fun x => x = lb ∨ x = mb ∨ x = tb) w w2 ∧ w2.heap[tb]? = some (.cells (putA C o dn) T (0, 0))) := ⟨H1.out.1.below hb2, H1.out.2.1.trans (kx_new hb2) fun _ _ h => h, below_heap hb2 H1.out.2.2.2⟩; clear hb2)
            | (go_at_call 30; refine (wrong_any _ rb k _ rest 171 H2.out.1).mono ?_; rintro e w3 ⟨rfl, rfl⟩))
          exact HN.out _ dn H2.out.2.1 H2.out.1 HNO.out HDL.out H2.out.2.2
        | some x =>
          have heq : numsP n P = (numsP (n - (i + 1)) Q).map (dn ++ [x] ++ ·) := by
            rw [HS.out.eq, numsP_yes (by omega) hq]
            have e : n - i - 1 = n - (i + 1) := by omega
            rw [e]
            cases numsP (n - (i + 1)) Q <;> simp
          have hv : NumV q = .tuple #[.int .i64 x, .bool true] := by unfold NumV; rw [hq]
          have HU : Bx (∀ W, Kx (fun x => x = lb ∨ x = mb ∨ x = tb) w W → Calls Tryd.prog 42 #[strV q] W fun e w' => e = .returned (.tuple #[.int .i64 x, .bool true]) ∧ Below W.heap.size W w') := ⟨fun W hk => by rw [← hv]; exact number_any q W (HL.out W hk) HQL.out⟩
          have hdl := HS.out.len
          have hold : ∃ ov, (putA C o dn)[o + i]? = some ov := ⟨_, Array.getElem?_eq_getElem (by rw [putA_size]; have := HC.out; omega)⟩
          obtain ⟨ov, hov⟩ := hold
          have HNX : Bx (∀ w2, RS w2 rb k (nextV lb mb) rest → Kx (fun x => x = lb ∨ x = mb ∨ x = tb) w w2 → Nx w2 lb mb Q → w2.heap[tb]? = some (.cells (putA C o dn) T (0, 0)) → NmS w rb k lb mb tb o n rest P C T (i + 1) Q (dn ++ [x]) (w2.setCell ⟨tb, o + i, none⟩ (.int .i64 x))) := ⟨fun w2 h1 h2 h3 h4 => by
            have q := Kx.set (P := fun x => x = tb) w2 (b := tb) (o + i) (.int .i64 x) rfl
            refine ⟨h2.trans q (fun _ _ h => Or.inr (Or.inr h)), q.at_ h1 hrt, h3.on q (Ne.symm htl) (Ne.symm htm), ?_, by simp [hdl], heq⟩
            rw [putA_snoc, hdl]
            exact Lib.heap_setCell_same (i := o + i) h4 (.int .i64 x)⟩
          clear HS hv hq heq
          go_wp2_with (first
            | (go_at_call 46; refine (next_yes _ lb mb q Q hnn.out).mono ?_; rintro e w1 ⟨rfl, hn1, hk1⟩; have H1 : Bx _ := ⟨HX.out w1 hn1 hk1⟩; clear hn1 hk1)
            | (go_at_call 42; refine (HU.out _ H1.out.2.1).mono ?_; rintro e w2 ⟨rfl, hb2⟩; have H2 : Bx (RS w2 rb k (nextV lb mb) rest ∧ Kx (fun x => x = lb ∨ x = mb ∨ x = tb) w w2 ∧ Nx w2 lb mb Q ∧ w2.heap[tb]? = some (.cells (putA C o dn) T (0, 0))) := ⟨H1.out.1.below hb2, H1.out.2.1.trans (kx_new hb2) fun _ _ h => h, H1.out.2.2.1.on (kx_new (P := fun _ => False) hb2) (fun h => h) (fun h => h), below_heap hb2 H1.out.2.2.2⟩; have t1 : w2.cell? ⟨tb, o + i, none⟩ = some ov := cell_blk H2.out.2.2.2 hov; have t2 : w2.frozen? ⟨tb, o + i, none⟩ = false := frz_blk H2.out.2.2.2; have H3 : Bx _ := ⟨HNX.out w2 H2.out.1 H2.out.2.1 H2.out.2.2.1 H2.out.2.2.2⟩; clear hb2))
          go_roundw
          case rel => exact ⟨i + 1, Q, dn ++ [x], by omega, by go_num, H3⟩
          case measure => simp [intOf]; omega
    · have hie : i = n := by omega
      subst hie
      have he : numsP i P = (if Q.isEmpty then some dn else none) := by
        rw [HS.out.eq, Nat.sub_self, numsP_zero]
        cases Q <;> simp
      cases Q with
      | nil =>
        have HX : Bx (∀ w', Nx w' lb mb [] → Kx (fun x => x = lb ∨ x = mb) wr w' → RS w' rb k (nextV lb mb) rest ∧ Kx (fun x => x = lb ∨ x = mb ∨ x = tb) w w' ∧ w'.heap[tb]? = some (.cells (putA C o dn) T (0, 0))) := ⟨fun w' _ h2 => ⟨h2.at_ HS.out.rs (by omega), HS.out.kx.trans (kx2 h2) fun _ _ h => h, h2.at_ HS.out.t (by omega)⟩⟩
        have hnn : Bx (Nx wr lb mb []) := ⟨HS.out.nx⟩
        have HE : Bx (numsP i P = some dn) := ⟨by rw [he]; rfl⟩
        clear HS he
        go_wp2_with (go_at_call 46; refine (next_no _ lb mb hnn.out).mono ?_; rintro e w1 ⟨rfl, hn1, hk1⟩; have H1 : Bx _ := ⟨HX.out w1 hn1 hk1⟩; clear hn1 hk1)
        exact HY.out _ dn H1.out.2.1 H1.out.1 HE.out H1.out.2.2
      | cons q Q =>
        have HX : Bx (∀ w', Nx w' lb mb Q → Kx (fun x => x = lb ∨ x = mb) wr w' → RS w' rb k (nextV lb mb) rest ∧ Kx (fun x => x = lb ∨ x = mb ∨ x = tb) w w' ∧ w'.heap[tb]? = some (.cells (putA C o dn) T (0, 0))) := ⟨fun w' h1 h2 => ⟨h2.at_ HS.out.rs (by omega), HS.out.kx.trans (kx2 h2) fun _ _ h => h, h2.at_ HS.out.t (by omega)⟩⟩
        have HDL : Bx (dn.length ≤ i) := ⟨by have := HS.out.len; omega⟩
        have hnn : Bx (Nx wr lb mb (q :: Q)) := ⟨HS.out.nx⟩
        have HE : Bx (numsP i P = none) := ⟨by rw [he]; rfl⟩
        clear HS he
        go_wp2_with (first
          | (go_at_call 46; refine (next_yes _ lb mb q Q hnn.out).mono ?_; rintro e w1 ⟨rfl, hn1, hk1⟩; have H1 : Bx _ := ⟨HX.out w1 hn1 hk1⟩; clear hn1 hk1)
          | (go_at_call 30; refine (wrong_any _ rb k _ rest 171 H1.out.1).mono ?_; rintro e w3 ⟨rfl, rfl⟩))
        exact HN.out _ dn H1.out.2.1 H1.out.1 HE.out HDL.out H1.out.2.2
end Go.Proofs.YtecpknpcjoiliabDoor
