import Derived.Test.YtpgobebibjeglaaDoorCTChkW
namespace Go.Proofs.YtpgobebibjeglaaDoor
open Go.RowKit
set_option linter.unusedVariables false
set_option linter.unusedSimpArgs false

/-- the greatest height of the kids that are ahead -/
def topGo (hs : List Nat) : List Int → Nat → Nat
  | [], t => t
  | k :: r, t => topGo hs r (if 0 ≤ k ∧ k < hs.length then max t (hs.getD k.toNat 0) else t)
def heightsGo (l : List Nd) : Nat → List Nat → List Nat
  | 0, hs => hs
  | m + 1, hs => heightsGo l m (hs ++ [topGo hs (ndN l hs.length).kids 0 + 1])
/-- P2.3 -/
def heightsL (l : List Nd) : List Nat := heightsGo l l.length []
theorem topGo_le (hs : List Nat) (B : Nat) (hB : ∀ j, j < hs.length → hs.getD j 0 ≤ B) : ∀ (ks : List Int) (t : Nat), t ≤ B → topGo hs ks t ≤ B
  | [], t, h => h
  | k :: r, t, h => by
    rw [topGo]
    apply topGo_le hs B hB r
    split
    · rename_i hk
      have := hB k.toNat (by omega)
      omega
    · exact h

/-- in the midst of Height -/
structure HgtS (w : World) (wr : World) (l : List Nd) (hs : List Nat) : Prop where
  bel : Below w.heap.size w wr
  row : FRow wr w.heap.size l.length hs
  le : ∀ j, j < hs.length → hs.getD j 0 ≤ hs.length
  eq : heightsL l = heightsGo l (l.length - hs.length) hs

theorem HgtS.next {w wr w1 : World} {l : List Nd} {hs : List Nat} (h : HgtS w wr l hs) (hi : hs.length < l.length) (hbel : Below w.heap.size w w1) (hrow : FRow w1 w.heap.size l.length hs) (x : Nat) (hx : x = topGo hs (ndN l hs.length).kids 0 + 1) :
    HgtS w (w1.setCell ⟨w.heap.size, hs.length, none⟩ (.int .i64 (x : Nat))) l (hs ++ [x]) := by
  subst hx
  have ht := topGo_le hs hs.length h.le (ndN l hs.length).kids 0 (Nat.zero_le _)
  refine ⟨Below.setCell (p := ⟨w.heap.size, hs.length, none⟩) hbel (Nat.le_refl _) _, hrow.set hi _, ?_, ?_⟩
  · intro j hj
    simp at hj
    by_cases hj2 : j < hs.length
    · have := h.le j hj2
      simp only [List.getD_eq_getElem?_getD] at this ⊢
      rw [List.getElem?_append_left hj2]
      simp
      omega
    · have : j = hs.length := by omega
      subst this
      simp [List.getD_eq_getElem?_getD]
      omega
  · rw [h.eq]
    obtain ⟨m, hm⟩ : ∃ m, l.length - hs.length = m + 1 := ⟨l.length - hs.length - 1, by omega⟩
    rw [hm, heightsGo]
    congr 1
    simp
    omega
theorem topGo_drop {hs : List Nat} {ks : List Int} {p t : Nat} (h : p < ks.length) : topGo hs (ks.drop p) t = topGo hs (ks.drop (p + 1)) (if 0 ≤ ks[p] ∧ ks[p] < hs.length then max t (hs.getD ks[p].toNat 0) else t) := by
  rw [List.drop_eq_getElem_cons h, topGo]

set_option maxRecDepth 100000 in
set_option maxHeartbeats 2000000 in
theorem Height_some (w : World) (B nb no nc : Nat) (l : List Nd) (hn : Nodes w B nb no nc l) (hl31 : l.length ≤ 2147483647) (h0 : 0 < l.length) :
    Calls Tryd.prog 13 #[.slice (some ⟨nb, no, none⟩) l.length nc] w fun e w' => e = .returned (.slice (some ⟨w.heap.size, 0, none⟩) l.length l.length) ∧ FRow w' w.heap.size l.length (heightsL l) ∧ Below w.heap.size w w' := by
  have hmk := make_ints w l.length hl31
  have HN : Bx (Nodes w B nb no nc l) := ⟨hn⟩
  have hnb : nb < w.heap.size := Nat.lt_of_lt_of_le hn.lo hn.hi
  clear hn
  go_enter Tryd.func13, Tryd.ntmps13
  go_wp2
  go_loopw [14] (fun x wr => ∃ hs : List Nat, hs.length ≤ l.length ∧ x = .int .i64 hs.length ∧ Bx (HgtS w wr l hs)) (fun x _ => l.length - (intOf x).toNat)
  case atStart => exact ⟨[], Nat.zero_le _, rfl, ⟨below1 w _, zeros_row w l.length, fun j hj => (by cases hj), rfl⟩⟩
  case round =>
    obtain ⟨hs, hhs, rfl, HS⟩ := hrel
    by_cases hlt : hs.length < l.length
    · have hsz := HS.out.bel.size
      have hB := HN.out.hi
      obtain ⟨ka, kc, hnd⟩ := (HN.out.below (HS.out.bel.mono HN.out.hi)).at_ hs.length hlt
      obtain ⟨c0, c1, c2, c3, c4⟩ := hnd.five
      have HX : Bx (∀ w1, Below w.heap.size w w1 → FRow w1 w.heap.size l.length hs → ∀ x, x = topGo hs (ndN l hs.length).kids 0 + 1 → HgtS w (w1.setCell ⟨w.heap.size, hs.length, none⟩ (.int .i64 (x : Nat))) l (hs ++ [x])) := ⟨fun w1 h1 h2 => HS.out.next hlt h1 h2⟩
      have ht := topGo_le hs hs.length HS.out.le
      have HK : Bx _ := ⟨hnd.kids⟩
      have hb1 := below1 wr (.cells #[.int .i64 (ndN l hs.length).kind, .int .i64 (ndN l hs.length).pos, .slice ka (ndN l hs.length).kids.length kc, .string (ndN l hs.length).name, .int .i64 (ndN l hs.length).num] 43)
      have hrow := HS.out.row.below hb1
      have hbel := HS.out.bel.trans (hb1.mono hsz)
      have hks := HK.out.below (hb1.mono (by omega))
      clear hb1 hnd HK
      generalize (ndN l hs.length).kids = ks at *
      generalize (ndN l hs.length).kind = kd at *
      generalize (ndN l hs.length).pos = ps at *
      generalize (ndN l hs.length).name = nm at *
      generalize (ndN l hs.length).num = num at *
      have hkl : ks.length ≤ maxLen := by
        obtain ⟨_, _, _, _, h2, _⟩ := hks.ex
        exact h2
      unfold maxLen at hkl
      have HQ : Bx (FRow _ w.heap.size l.length hs ∧ Below w.heap.size w _ ∧ IntsV _ B _ ks) := ⟨hrow, hbel, hks⟩
      have HT : Bx _ := ⟨ht⟩
      clear hrow hbel hks ht
      go_wp2
      go_loop [22, 6] (fun x t => ∃ p tp : Nat, p ≤ ks.length ∧ tp ≤ hs.length ∧ x = .int .i64 p ∧ t = .int .i64 tp ∧ Bx (topGo hs (ks.drop p) tp = topGo hs ks 0)) (fun x _ => ks.length - (intOf x).toNat)
      case atStart => exact ⟨0, 0, Nat.zero_le _, Nat.zero_le _, rfl, rfl, ⟨rfl⟩⟩
      case round =>
        obtain ⟨p, tp, hp, htp, rfl, rfl, HP⟩ := hrel
        by_cases hplt : p < ks.length
        · obtain ⟨a, cap, he, h1, h2, h3⟩ := HQ.out.2.2.ex
          simp only [Value.slice.injEq, true_and] at he
          obtain ⟨rfl, rfl⟩ := he
          obtain ⟨b, o, rfl, hbB, hcell⟩ := h3 (by omega)
          have hc := hcell p hplt
          have HP2 := topGo_drop (hs := hs) (t := tp) hplt
          generalize ks[p] = x at *
          clear hcell h3 h2 h1
          by_cases hx : 0 ≤ x ∧ x < hs.length
          · obtain ⟨m, rfl⟩ : ∃ m : Nat, x = (m : Int) := ⟨x.toNat, by omega⟩
            have hm : m < hs.length := by omega
            have hcf := HQ.out.1.firsts m hm
            have hlez := HS.out.le m hm
            rw [if_pos hx, Int.toNat_natCast] at HP2
            generalize hs.getD m 0 = z at *
            have HP3 : Bx (topGo hs (ks.drop (p + 1)) (max tp z) = topGo hs ks 0) := ⟨by rw [← HP2]; exact HP.out⟩
            have hlm : (m : Int) < l.length := by omega
            clear HP2 HP hx
            go_wp2
            go_round
            case rel => exact ⟨p + 1, max tp z, by omega, by omega, by go_num, by first | rfl | (congr 1; omega) | (simp; omega) | trace_state, HP3⟩
            case measure => simp [intOf]; omega
          · rw [if_neg hx] at HP2
            have HP3 : Bx (topGo hs (ks.drop (p + 1)) tp = topGo hs ks 0) := ⟨by rw [← HP2]; exact HP.out⟩
            clear HP2 HP
            by_cases hx0 : 0 ≤ x
            · have hx1 : decide (x < hs.length) = false := by simp; omega
              go_wp2
              go_round
              case rel => exact ⟨p + 1, tp, by omega, by omega, by go_num, rfl, HP3⟩
              case measure => simp [intOf]; omega
            · have hx1 : decide (0 ≤ x) = false := by simp; omega
              go_wp2
              go_round
              case rel => exact ⟨p + 1, tp, by omega, by omega, by go_num, rfl, HP3⟩
              case measure => simp [intOf]; omega
        · have HE : Bx (tp + 1 = topGo hs ks 0 + 1) := ⟨by rw [← HP.out, List.drop_eq_nil_of_le (by omega)]; rfl⟩
          obtain ⟨x0, g4⟩ := HQ.out.1.cell hs.length hlt
          have g5 := HQ.out.1.frozen hs.length
          have g6 := HQ.out.1.lt
          go_wp2
          go_roundw
          case rel => exact ⟨hs ++ [tp + 1], by simp; omega, by first | (simp; done) | (simp; go_num), ⟨HX.out _ HQ.out.2.1 HQ.out.1 _ HE.out⟩⟩
          case measure => simp [intOf]; omega
    · have hfl : hs.length = l.length := by omega
      have HE : Bx (heightsL l = hs) := ⟨by rw [HS.out.eq, show l.length - hs.length = 0 by omega]; rfl⟩
      go_wp2
      go_ret
      exact ⟨rfl, by rw [HE.out]; exact HS.out.row, HS.out.bel⟩

set_option maxRecDepth 100000 in
set_option maxHeartbeats 2000000 in
theorem Height_none (w : World) (a : Option Addr) (cap : Nat) :
    Calls Tryd.prog 13 #[.slice a 0 cap] w fun e w' => e = .returned (.slice (some ⟨w.heap.size, 0, none⟩) 0 0) ∧ FRow w' w.heap.size 0 [] ∧ Below w.heap.size w w' := by
  have hmk := make_ints w 0 (by omega)
  simp only [Int.natCast_zero] at hmk
  have HZ : Bx _ := ⟨zeros_row w 0⟩
  go_enter Tryd.func13, Tryd.ntmps13
  go_wp2
  go_loopw [14] (fun x wr => x = .int .i64 0 ∧ Bx (FRow wr w.heap.size 0 [] ∧ Below w.heap.size w wr)) (fun _ _ => 0)
  case atStart => exact ⟨rfl, ⟨HZ.out, below1 w _⟩⟩
  case round =>
    obtain ⟨rfl, hbel⟩ := hrel
    go_wp2
    go_ret
    exact ⟨rfl, hbel.out.1, hbel.out.2⟩

/-- **tree.Height** -/
theorem Height_any (w : World) (B : Nat) (a : Option Addr) (cap : Nat) (l : List Nd) (hn : IsNodes w B a cap l) (hl31 : l.length ≤ 2147483647) :
    Calls Tryd.prog 13 #[.slice a l.length cap] w fun e w' => e = .returned (.slice (some ⟨w.heap.size, 0, none⟩) l.length l.length) ∧ FRow w' w.heap.size l.length (heightsL l) ∧ Below w.heap.size w w' := by
  by_cases h0 : 0 < l.length
  · obtain ⟨nb, no, rfl, h⟩ := hn.at_ h0
    exact Height_some w B nb no cap l h hl31 h0
  · have hx : l = [] := List.eq_nil_of_length_eq_zero (by omega)
    subst hx
    exact Height_none w a cap
end Go.Proofs.YtpgobebibjeglaaDoor
namespace Go.Proofs.YtpgobebibjeglaaDoor
set_option linter.unusedVariables false
set_option linter.unusedSimpArgs false

/-- the roots of the nodes ahead of n, the last first -/
inductive Roots (fs : List Nat) : Nat → List Nat → Prop
  | nil : Roots fs 0 []
  | cons (m : Nat) (r : List Nat) : m < fs.length → Roots fs (fs.getD m 0) r → Roots fs (m + 1) (m :: r)

theorem Roots.lt {fs : List Nat} (hle : ∀ j, j < fs.length → fs.getD j 0 ≤ j) {n : Nat} {R : List Nat} (h : Roots fs n R) : ∀ m ∈ R, m < n := by
  induction h with
  | nil => intro m hm; cases hm
  | cons m r hm _ ih =>
    intro k hk
    rcases List.mem_cons.1 hk with rfl | hk
    · omega
    · have := ih k hk
      have := hle m hm
      omega
theorem Roots.nodup {fs : List Nat} (hle : ∀ j, j < fs.length → fs.getD j 0 ≤ j) {n : Nat} {R : List Nat} (h : Roots fs n R) : R.Nodup := by
  induction h with
  | nil => exact List.nodup_nil
  | cons m r hm hr ih =>
    refine List.nodup_cons.2 ⟨fun hk => ?_, ih⟩
    have := hr.lt hle m hk
    have := hle m hm
    omega
theorem Roots.more {fs : List Nat} {n : Nat} {R : List Nat} (h : Roots fs n R) (x : Nat) : Roots (fs ++ [x]) n R := by
  induction h with
  | nil => exact .nil
  | cons m r hm hr ih =>
    refine .cons m r (by simp; omega) ?_
    have e : (fs ++ [x]).getD m 0 = fs.getD m 0 := by
      simp only [List.getD_eq_getElem?_getD]
      rw [List.getElem?_append_left hm]
    rw [e]
    exact ih

def endOf (fs : List Nat) : Nat → List Int → Nat
  | n, [] => n
  | n, k :: r => endOf fs (fs.getD k.toNat 0) r
theorem endOf_last (fs : List Nat) (k : Int) : ∀ (ks : List Int) (n : Nat), endOf fs n (ks ++ [k]) = fs.getD k.toNat 0
  | [], n => rfl
  | x :: r, n => by
    rw [List.cons_append, endOf]
    exact endOf_last fs k r _
theorem firstOf_end (fs : List Nat) (n : Nd) (i : Nat) : firstOf fs n i = endOf fs i n.kids.reverse := by
  unfold firstOf
  match n.kids with
  | [] => rfl
  | k :: r => simp only [List.reverse_cons, endOf_last]

theorem Roots.split {fs : List Nat} : ∀ (ks : List Int) (n : Nat) (R : List Nat), Roots fs n R → orderGo fs n ks = true →
    ∃ R', R = ks.map Int.toNat ++ R' ∧ (∀ k ∈ ks, 0 ≤ k) ∧ Roots fs (endOf fs n ks) R'
  | [], n, R, h, _ => ⟨R, rfl, (fun k hk => by cases hk), h⟩
  | k :: r, n, R, h, ho => by
    rw [orderGo] at ho
    split at ho
    · rename_i hk
      cases h with
      | nil => omega
      | cons m R0 hm hr =>
        have e : k.toNat = m := by omega
        rw [e] at ho
        obtain ⟨R', h1, h2, h3⟩ := Roots.split r _ _ hr ho
        refine ⟨R', by rw [h1, List.map_cons, e]; rfl, ?_, ?_⟩
        · intro x hx
          rcases List.mem_cons.1 hx with rfl | hx
          · exact hk.2
          · exact h2 x hx
        · rw [endOf, e]
          exact h3
    · cases ho

/-- the kids of the nodes ahead of i, one after the other -/
def kidsTo (l : List Nd) (i : Nat) : List Int := (List.range i).flatMap fun j => (ndN l j).kids
theorem kidsTo_succ (l : List Nd) (i : Nat) : kidsTo l (i + 1) = kidsTo l i ++ (ndN l i).kids := by
  unfold kidsTo
  rw [List.range_succ, List.flatMap_append]
  simp
/-- the kids of node i stand ahead of it, and none was a kid before -/
def KidOk (l : List Nd) (i : Nat) : Prop :=
  ∀ p (hp : p < (ndN l i).kids.length), ∃ m : Nat, (ndN l i).kids[p] = (m : Int) ∧ m < i ∧ (m : Int) ∉ kidsTo l i ++ (ndN l i).kids.take p

structure KidS (l : List Nd) (fs : List Nat) (R : List Nat) : Prop where
  roots : Roots fs fs.length R
  le : ∀ j, j < fs.length → fs.getD j 0 ≤ j
  new : ∀ r ∈ R, (r : Int) ∉ kidsTo l fs.length
  many : (kidsTo l fs.length).length + R.length = fs.length
  low : ∀ k ∈ kidsTo l fs.length, k < fs.length
  ok : ∀ i, i < fs.length → KidOk l i

theorem KidS.next {l : List Nd} {fs R : List Nat} (h : KidS l fs R) (hz : checkNodeI l fs fs.length = 0) :
    ∃ R', KidS l (fs ++ [firstOf fs (ndN l fs.length) fs.length]) (fs.length :: R') := by
  obtain ⟨_, _, _, _, ho, _, _⟩ := node_zero hz
  have hfl := first_le h.le ho
  obtain ⟨R', hR, hnn, hr⟩ := Roots.split _ _ _ h.roots ho
  rw [← firstOf_end] at hr
  have hlt := h.roots.lt h.le
  have hnd := h.roots.nodup h.le
  generalize hks : (ndN l fs.length).kids = ks at *
  generalize hf : firstOf fs (ndN l fs.length) fs.length = f at *
  have hin : ∀ k ∈ ks, k.toNat ∈ R := fun k hk => by
    rw [hR]
    exact List.mem_append_left _ (List.mem_map.2 ⟨k, by simpa using hk, rfl⟩)
  have hnn' : ∀ k ∈ ks, 0 ≤ k := fun k hk => hnn k (by simpa using hk)
  rw [hR] at hnd
  obtain ⟨hnd1, hnd2, hnd3⟩ := List.nodup_append.1 hnd
  have hrev : (ks.map Int.toNat).Nodup := by
    rw [List.map_reverse] at hnd1
    exact (List.pairwise_reverse.1 hnd1).imp fun h => Ne.symm h
  have hlen : (fs ++ [f]).length = fs.length + 1 := by simp
  refine ⟨R', ?_, ?_, ?_, ?_, ?_, ?_⟩
  · rw [hlen]
    refine .cons _ _ (by rw [hlen]; omega) ?_
    have e : (fs ++ [f]).getD fs.length 0 = f := by simp [List.getD_eq_getElem?_getD]
    rw [e]
    exact hr.more f
  · intro j hj
    rw [hlen] at hj
    by_cases hj2 : j < fs.length
    · have := h.le j hj2
      simp only [List.getD_eq_getElem?_getD] at this ⊢
      rw [List.getElem?_append_left hj2]
      exact this
    · have : j = fs.length := by omega
      subst this
      simp [List.getD_eq_getElem?_getD]
      exact hfl
  · intro r hr2
    rw [hlen, kidsTo_succ, hks]
    intro hm
    rcases List.mem_cons.1 hr2 with rfl | hr2
    · rcases List.mem_append.1 hm with hm | hm
      · have := h.low _ hm
        omega
      · have := hlt _ (hin _ hm)
        simp at this
    · rcases List.mem_append.1 hm with hm | hm
      · exact h.new r (by rw [hR]; exact List.mem_append_right _ hr2) hm
      · exact hnd3 r (List.mem_map.2 ⟨(r : Int), by simpa using hm, by simp⟩) r hr2 rfl
  · rw [hlen, kidsTo_succ, hks]
    have h1 := h.many
    rw [hR] at h1
    simp at h1 ⊢
    omega
  · intro k hk
    rw [hlen]
    rw [hlen, kidsTo_succ, hks] at hk
    rcases List.mem_append.1 hk with hm | hm
    · have := h.low _ hm
      omega
    · have := hlt _ (hin _ hm)
      have := hnn' _ hm
      omega
  · intro i hi
    rw [hlen] at hi
    by_cases hi2 : i < fs.length
    · exact h.ok i hi2
    · have : i = fs.length := by omega
      subst this
      intro p hp
      simp only [hks] at hp ⊢
      have hmem : ks[p] ∈ ks := List.getElem_mem hp
      refine ⟨ks[p].toNat, ?_, hlt _ (hin _ hmem), ?_⟩
      · have := hnn' _ hmem
        omega
      · intro hm
        rcases List.mem_append.1 hm with hm | hm
        · exact h.new _ (hin _ hmem) hm
        · obtain ⟨q, hq, hqe⟩ := List.getElem_of_mem hm
          simp at hq hqe
          have e : (ks.map Int.toNat)[q]'(by simp; omega) = (ks.map Int.toNat)[p]'(by simpa using hp) := by
            simp [hqe]
            omega
          exact List.pairwise_iff_getElem.1 hrev q p (by simp; omega) (by simpa using hp) (by omega) e

theorem kids_go {l : List Nd} : ∀ (m : Nat) (fs R : List Nat), fs.length + m = l.length → KidS l fs R → (checkGo l m fs).2 = 0 →
    (∀ i, i < l.length → KidOk l i) ∧ (kidsTo l l.length).length + 1 = l.length
  | 0, fs, R, hm, h, hc => by
    rw [checkGo] at hc
    unfold rootI at hc
    split at hc
    · cases hc
    · rename_i hr
      have hm' : fs.length = l.length := hm
      refine ⟨fun i hi => h.ok i (by omega), ?_⟩
      have h1 := h.many
      have h2 := h.roots
      rw [hm'] at h1 h2
      have hr0 : ¬ l.length = 0 := fun e => hr (.inl e)
      have hr1 : fs.getD (l.length - 1) 0 = 0 := Classical.byContradiction fun e => hr (.inr (.inr e))
      generalize l.length = n at *
      cases h2 with
      | nil => exact absurd rfl hr0
      | cons q R0 hq hr2 =>
        simp only [Nat.add_sub_cancel] at hr1
        rw [hr1] at hr2
        cases hr2
        simpa using h1
  | m + 1, fs, R, hm, h, hc => by
    rw [checkGo] at hc
    split at hc
    · rename_i hz
      obtain ⟨R', h'⟩ := h.next hz
      exact kids_go m _ _ (by simp; omega) h' hc
    · rename_i hz
      exact absurd hc hz
/-- P2.2, read for the kids -/
theorem kids_all {l : List Nd} (h : (checkAll l).2 = 0) : (∀ i, i < l.length → KidOk l i) ∧ (kidsTo l l.length).length + 1 = l.length :=
  kids_go l.length [] [] (by simp) ⟨.nil, (fun j hj => by cases hj), (fun j hj => by cases hj), by simp [kidsTo], (fun j hj => by simp [kidsTo] at hj), fun j hj => by cases hj⟩ h

theorem topGo_ge (hs : List Nat) : ∀ (ks : List Int) (t : Nat), t ≤ topGo hs ks t ∧ ∀ k ∈ ks, 0 ≤ k → k < hs.length → hs.getD k.toNat 0 ≤ topGo hs ks t
  | [], t => ⟨Nat.le_refl _, fun k hk => by cases hk⟩
  | k :: r, t => by
    rw [topGo]
    obtain ⟨h1, h2⟩ := topGo_ge hs r (if 0 ≤ k ∧ k < hs.length then max t (hs.getD k.toNat 0) else t)
    refine ⟨Nat.le_trans ?_ h1, fun x hx hx0 hx1 => ?_⟩
    · split <;> omega
    · rcases List.mem_cons.1 hx with rfl | hx
      · rw [if_pos ⟨hx0, hx1⟩] at h1 ⊢
        omega
      · exact h2 x hx hx0 hx1
theorem heightsGo_len (l : List Nd) : ∀ (m : Nat) (hs : List Nat), (heightsGo l m hs).length = hs.length + m
  | 0, hs => rfl
  | m + 1, hs => by
    rw [heightsGo, heightsGo_len l m]
    simp
    omega
theorem heightsGo_old (l : List Nd) : ∀ (m : Nat) (hs : List Nat) (j : Nat), j < hs.length → (heightsGo l m hs).getD j 0 = hs.getD j 0
  | 0, hs, j, hj => rfl
  | m + 1, hs, j, hj => by
    rw [heightsGo, heightsGo_old l m _ j (by simp; omega)]
    simp only [List.getD_eq_getElem?_getD]
    rw [List.getElem?_append_left hj]
theorem heightsGo_kid (l : List Nd) : ∀ (m : Nat) (hs : List Nat) (i : Nat), hs.length ≤ i → i < hs.length + m → ∀ k : Nat, (k : Int) ∈ (ndN l i).kids → k < i → (heightsGo l m hs).getD k 0 < (heightsGo l m hs).getD i 0
  | 0, hs, i, h1, h2, k, _, _ => by omega
  | m + 1, hs, i, h1, h2, k, hk, hki => by
    rw [heightsGo]
    by_cases e : i = hs.length
    · subst e
      rw [heightsGo_old l m _ k (by simp; omega), heightsGo_old l m _ hs.length (by simp)]
      have := (topGo_ge hs (ndN l hs.length).kids 0).2 _ hk (by omega) (by omega)
      simp only [List.getD_eq_getElem?_getD, Int.toNat_natCast] at this ⊢
      rw [List.getElem?_append_left hki, List.getElem?_append_right (Nat.le_refl _)]
      simp
      omega
    · exact heightsGo_kid l m _ i (by simp; omega) (by simp; omega) k hk hki
theorem heights_len (l : List Nd) : (heightsL l).length = l.length := by
  unfold heightsL
  rw [heightsGo_len]
  simp
/-- a kid is lower -/
theorem heights_kid {l : List Nd} {i k : Nat} (hi : i < l.length) (hk : (k : Int) ∈ (ndN l i).kids) (hki : k < i) : (heightsL l).getD k 0 < (heightsL l).getD i 0 :=
  heightsGo_kid l l.length [] i (by simp) (by simpa using hi) k hk hki
end Go.Proofs.YtpgobebibjeglaaDoor
namespace Go.Proofs.YtpgobebibjeglaaDoor
set_option linter.unusedVariables false
set_option linter.unusedSimpArgs false

/-- what a list that is well gives of its node j -/
structure NodeOk (l : List Nd) (j : Nat) : Prop where
  kind : kindI (ndN l j).kind = true
  pos : ¬ (ndN l j).pos < 0
  num : numFitsI (ndN l j).kind (ndN l j).num (ndN l j).kids.length = true
  name : nameFitsI (ndN l j).kind (ndN l j).name = true
  fit : kidsFitI (kdN l) (ndN l j).kind (ndN l j).num ((ndN l j).kids.map Int.toNat) = true
  lev : levelsFitI l (ndN l j) = true
  nat : ((ndN l j).kids.map Int.toNat).map (fun k : Nat => (k : Int)) = (ndN l j).kids
  low : ∀ k ∈ (ndN l j).kids.map Int.toNat, k < j

theorem first_ok {l : List Nd} {fs : List Nat} (hle : ∀ i, i < fs.length → fs.getD i 0 ≤ i) (hz : checkNodeI l fs fs.length = 0) :
    ∀ i, i < (fs ++ [firstOf fs (ndN l fs.length) fs.length]).length → (fs ++ [firstOf fs (ndN l fs.length) fs.length]).getD i 0 ≤ i := by
  obtain ⟨_, _, _, _, ho, _, _⟩ := node_zero hz
  have hfl := first_le hle ho
  intro j hj
  simp at hj
  by_cases hj2 : j < fs.length
  · have := hle j hj2
    simp only [List.getD_eq_getElem?_getD] at this ⊢
    rw [List.getElem?_append_left hj2]
    exact this
  · have : j = fs.length := by omega
    subst this
    simp [List.getD_eq_getElem?_getD]
    exact hfl
theorem ok_go {l : List Nd} : ∀ (m : Nat) (fs : List Nat), fs.length + m = l.length → (∀ i, i < fs.length → fs.getD i 0 ≤ i) → (checkGo l m fs).2 = 0 →
    (∀ j, fs.length ≤ j → j < l.length → NodeOk l j) ∧ 0 < l.length ∧ kdN l (l.length - 1) = 46
  | 0, fs, hm, hle, hc => by
    rw [checkGo] at hc
    unfold rootI at hc
    split at hc
    · cases hc
    · rename_i hr
      refine ⟨fun j h1 h2 => by omega, ?_, ?_⟩
      · exact Nat.pos_of_ne_zero fun e => hr (.inl e)
      · exact Classical.byContradiction fun e => hr (.inr (.inl e))
  | m + 1, fs, hm, hle, hc => by
    rw [checkGo] at hc
    split at hc
    · rename_i hz
      obtain ⟨h1, h2, h3⟩ := ok_go m _ (by simp; omega) (first_ok hle hz) hc
      refine ⟨fun j hj hl => ?_, h2, h3⟩
      by_cases e : j = fs.length
      · subst e
        obtain ⟨q1, q2, q3, q4, q5, q6, q7⟩ := node_zero hz
        obtain ⟨k1, k2⟩ := kids_nat hle q5
        exact ⟨q1, q2, q3, q4, q6, q7, k1, k2⟩
      · exact h1 j (by simp; omega) hl
    · rename_i hz
      exact absurd hc hz
/-- a list that is well: each node is, and the last one is a program -/
theorem ok_all {l : List Nd} (h : (checkAll l).2 = 0) : (∀ j, j < l.length → NodeOk l j) ∧ 0 < l.length ∧ kdN l (l.length - 1) = 46 := by
  obtain ⟨h1, h2⟩ := ok_go l.length [] (by simp) (fun i hi => by cases hi) h
  exact ⟨fun j hj => h1 j (Nat.zero_le _) hj, h2⟩

/-- how many nodes a tree has (f: fuel) -/
def sizeF (l : List Nd) : Nat → Nat → Nat
  | 0, _ => 0
  | f + 1, j => 1 + (((ndN l j).kids.map Int.toNat).map (sizeF l f)).sum
end Go.Proofs.YtpgobebibjeglaaDoor
