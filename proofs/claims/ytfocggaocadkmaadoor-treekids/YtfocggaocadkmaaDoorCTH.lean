import Derived.Test.YtfocggaocadkmaaDoorCTChkW
namespace Go.Proofs.YtfocggaocadkmaaDoor
open Go.RowKit
set_option linter.unusedVariables false
set_option linter.unusedSimpArgs false

/-- the greatest height of the kids that are ahead -/
def topGo (hs : List Nat) : List Int → Nat → Nat
  | [], t => t
  | k :: r, t => topGo hs r (if 0 ≤ k ∧ k < hs.length then max t (hs.getD k.toNat 0) else t)
def heightsGo (l : List Nd) : Nat → List Nat → List Nat
  | 0, hs => hs
  | m + 1, hs => heightsGo l m (hs ++ [topGo hs (ndN l hs.length).kids 0 + 1])
/-- P2.3 -/
def heightsL (l : List Nd) : List Nat := heightsGo l l.length []
theorem topGo_le (hs : List Nat) (B : Nat) (hB : ∀ j, j < hs.length → hs.getD j 0 ≤ B) : ∀ (ks : List Int) (t : Nat), t ≤ B → topGo hs ks t ≤ B
  | [], t, h => h
  | k :: r, t, h => by
    rw [topGo]
    apply topGo_le hs B hB r
    split
    · rename_i hk
      have := hB k.toNat (by omega)
      omega
    · exact h

/-- in the midst of Height -/
structure HgtS (w : World) (wr : World) (l : List Nd) (hs : List Nat) : Prop where
  bel : Below w.heap.size w wr
  row : FRow wr w.heap.size l.length hs
  le : ∀ j, j < hs.length → hs.getD j 0 ≤ hs.length
  eq : heightsL l = heightsGo l (l.length - hs.length) hs

theorem HgtS.next {w wr w1 : World} {l : List Nd} {hs : List Nat} (h : HgtS w wr l hs) (hi : hs.length < l.length) (hbel : Below w.heap.size w w1) (hrow : FRow w1 w.heap.size l.length hs) (x : Nat) (hx : x = topGo hs (ndN l hs.length).kids 0 + 1) :
    HgtS w (w1.setCell ⟨w.heap.size, hs.length, none⟩ (.int .i64 (x : Nat))) l (hs ++ [x]) := by
  subst hx
  have ht := topGo_le hs hs.length h.le (ndN l hs.length).kids 0 (Nat.zero_le _)
  refine ⟨Below.setCell (p := ⟨w.heap.size, hs.length, none⟩) hbel (Nat.le_refl _) _, hrow.set hi _, ?_, ?_⟩
  · intro j hj
    simp at hj
    by_cases hj2 : j < hs.length
    · have := h.le j hj2
      simp only [List.getD_eq_getElem?_getD] at this ⊢
      rw [List.getElem?_append_left hj2]
      simp
      omega
    · have : j = hs.length := by omega
      subst this
      simp [List.getD_eq_getElem?_getD]
      omega
  · rw [h.eq]
    obtain ⟨m, hm⟩ : ∃ m, l.length - hs.length = m + 1 := ⟨l.length - hs.length - 1, by omega⟩
    rw [hm, heightsGo]
    congr 1
    simp
    omega
theorem topGo_drop {hs : List Nat} {ks : List Int} {p t : Nat} (h : p < ks.length) : topGo hs (ks.drop p) t = topGo hs (ks.drop (p + 1)) (if 0 ≤ ks[p] ∧ ks[p] < hs.length then max t (hs.getD ks[p].toNat 0) else t) := by
  rw [List.drop_eq_getElem_cons h, topGo]

set_option maxRecDepth 100000 in
set_option maxHeartbeats 2000000 in
theorem Height_some (w : World) (B nb no nc : Nat) (l : List Nd) (hn : Nodes w B nb no nc l) (hl31 : l.length ≤ 2147483647) (h0 : 0 < l.length) :
    Calls Tryd.prog 16 #[.slice (some ⟨nb, no, none⟩) l.length nc] w fun e w' => e = .returned (.slice (some ⟨w.heap.size, 0, none⟩) l.length l.length) ∧ FRow w' w.heap.size l.length (heightsL l) ∧ Below w.heap.size w w' := by
  have hmk := make_ints w l.length hl31
  have HN : Bx (Nodes w B nb no nc l) := ⟨hn⟩
  have hnb : nb < w.heap.size := Nat.lt_of_lt_of_le hn.lo hn.hi
  clear hn
  go_enter Tryd.func16, Tryd.ntmps16
  go_wp2
  go_loopw [14] (fun x wr => ∃ hs : List Nat, hs.length ≤ l.length ∧ x = .int .i64 hs.length ∧ Bx (HgtS w wr l hs)) (fun x _ => l.length - (intOf x).toNat)
  case atStart => exact ⟨[], Nat.zero_le _, rfl, ⟨below1 w _, zeros_row w l.length, fun j hj => (by cases hj), rfl⟩⟩
  case round =>
    obtain ⟨hs, hhs, rfl, HS⟩ := hrel
    by_cases hlt : hs.length < l.length
    · have hsz := HS.out.bel.size
      have hB := HN.out.hi
      obtain ⟨ka, kc, hnd⟩ := (HN.out.below (HS.out.bel.mono HN.out.hi)).at_ hs.length hlt
      obtain ⟨c0, c1, c2, c3, c4⟩ := hnd.five
      have HX : Bx (∀ w1, Below w.heap.size w w1 → FRow w1 w.heap.size l.length hs → ∀ x, x = topGo hs (ndN l hs.length).kids 0 + 1 → HgtS w (w1.setCell ⟨w.heap.size, hs.length, none⟩ (.int .i64 (x : Nat))) l (hs ++ [x])) := ⟨fun w1 h1 h2 => HS.out.next hlt h1 h2⟩
      have ht := topGo_le hs hs.length HS.out.le
      have HK : Bx _ := ⟨hnd.kids⟩
      have hb1 := below1 wr (.cells #[.int .i64 (ndN l hs.length).kind, .int .i64 (ndN l hs.length).pos, .slice ka (ndN l hs.length).kids.length kc, .string (ndN l hs.length).name, .int .i64 (ndN l hs.length).num] 24)
      have hrow := HS.out.row.below hb1
      have hbel := HS.out.bel.trans (hb1.mono hsz)
      have hks := HK.out.below (hb1.mono (by omega))
      clear hb1 hnd HK
      generalize (ndN l hs.length).kids = ks at *
      generalize (ndN l hs.length).kind = kd at *
      generalize (ndN l hs.length).pos = ps at *
      generalize (ndN l hs.length).name = nm at *
      generalize (ndN l hs.length).num = num at *
      have hkl : ks.length ≤ maxLen := by
        obtain ⟨_, _, _, _, h2, _⟩ := hks.ex
        exact h2
      unfold maxLen at hkl
      have HQ : Bx (FRow _ w.heap.size l.length hs ∧ Below w.heap.size w _ ∧ IntsV _ B _ ks) := ⟨hrow, hbel, hks⟩
      have HT : Bx _ := ⟨ht⟩
      clear hrow hbel hks ht
      go_wp2
      go_loop [22, 6] (fun x t => ∃ p tp : Nat, p ≤ ks.length ∧ tp ≤ hs.length ∧ x = .int .i64 p ∧ t = .int .i64 tp ∧ Bx (topGo hs (ks.drop p) tp = topGo hs ks 0)) (fun x _ => ks.length - (intOf x).toNat)
      case atStart => exact ⟨0, 0, Nat.zero_le _, Nat.zero_le _, rfl, rfl, ⟨rfl⟩⟩
      case round =>
        obtain ⟨p, tp, hp, htp, rfl, rfl, HP⟩ := hrel
        by_cases hplt : p < ks.length
        · obtain ⟨a, cap, he, h1, h2, h3⟩ := HQ.out.2.2.ex
          simp only [Value.slice.injEq, true_and] at he
          obtain ⟨rfl, rfl⟩ := he
          obtain ⟨b, o, rfl, hbB, hcell⟩ := h3 (by omega)
          have hc := hcell p hplt
          have HP2 := topGo_drop (hs := hs) (t := tp) hplt
          generalize ks[p] = x at *
          clear hcell h3 h2 h1
          by_cases hx : 0 ≤ x ∧ x < hs.length
          · obtain ⟨m, rfl⟩ : ∃ m : Nat, x = (m : Int) := ⟨x.toNat, by omega⟩
            have hm : m < hs.length := by omega
            have hcf := HQ.out.1.firsts m hm
            have hlez := HS.out.le m hm
            rw [if_pos hx, Int.toNat_natCast] at HP2
            generalize hs.getD m 0 = z at *
            have HP3 : Bx (topGo hs (ks.drop (p + 1)) (max tp z) = topGo hs ks 0) := ⟨by rw [← HP2]; exact HP.out⟩
            have hlm : (m : Int) < l.length := by omega
            clear HP2 HP hx
            go_wp2
            go_round
            case rel => exact ⟨p + 1, max tp z, by omega, by omega, by go_num, by first | rfl | (congr 1; omega) | (simp; omega) | trace_state, HP3⟩
            case measure => simp [intOf]; omega
          · rw [if_neg hx] at HP2
            have HP3 : Bx (topGo hs (ks.drop (p + 1)) tp = topGo hs ks 0) := ⟨by rw [← HP2]; exact HP.out⟩
            clear HP2 HP
            by_cases hx0 : 0 ≤ x
            · have hx1 : decide (x < hs.length) = false := by simp; omega
              go_wp2
              go_round
              case rel => exact ⟨p + 1, tp, by omega, by omega, by go_num, rfl, HP3⟩
              case measure => simp [intOf]; omega
            · have hx1 : decide (0 ≤ x) = false := by simp; omega
              go_wp2
              go_round
              case rel => exact ⟨p + 1, tp, by omega, by omega, by go_num, rfl, HP3⟩
              case measure => simp [intOf]; omega
        · have HE : Bx (tp + 1 = topGo hs ks 0 + 1) := ⟨by rw [← HP.out, List.drop_eq_nil_of_le (by omega)]; rfl⟩
          obtain ⟨x0, g4⟩ := HQ.out.1.cell hs.length hlt
          have g5 := HQ.out.1.frozen hs.length
          have g6 := HQ.out.1.lt
          go_wp2
          go_roundw
          case rel => exact ⟨hs ++ [tp + 1], by simp; omega, by first | (simp; done) | (simp; go_num), ⟨HX.out _ HQ.out.2.1 HQ.out.1 _ HE.out⟩⟩
          case measure => simp [intOf]; omega
    · have hfl : hs.length = l.length := by omega
      have HE : Bx (heightsL l = hs) := ⟨by rw [HS.out.eq, show l.length - hs.length = 0 by omega]; rfl⟩
      go_wp2
      go_ret
      exact ⟨rfl, by rw [HE.out]; exact HS.out.row, HS.out.bel⟩

set_option maxRecDepth 100000 in
set_option maxHeartbeats 2000000 in
theorem Height_none (w : World) (a : Option Addr) (cap : Nat) :
    Calls Tryd.prog 16 #[.slice a 0 cap] w fun e w' => e = .returned (.slice (some ⟨w.heap.size, 0, none⟩) 0 0) ∧ FRow w' w.heap.size 0 [] ∧ Below w.heap.size w w' := by
  have hmk := make_ints w 0 (by omega)
  simp only [Int.natCast_zero] at hmk
  have HZ : Bx _ := ⟨zeros_row w 0⟩
  go_enter Tryd.func16, Tryd.ntmps16
  go_wp2
  go_loopw [14] (fun x wr => x = .int .i64 0 ∧ Bx (FRow wr w.heap.size 0 [] ∧ Below w.heap.size w wr)) (fun _ _ => 0)
  case atStart => exact ⟨rfl, ⟨HZ.out, below1 w _⟩⟩
  case round =>
    obtain ⟨rfl, hbel⟩ := hrel
    go_wp2
    go_ret
    exact ⟨rfl, hbel.out.1, hbel.out.2⟩

/-- **tree.Height** -/
theorem Height_any (w : World) (B : Nat) (a : Option Addr) (cap : Nat) (l : List Nd) (hn : IsNodes w B a cap l) (hl31 : l.length ≤ 2147483647) :
    Calls Tryd.prog 16 #[.slice a l.length cap] w fun e w' => e = .returned (.slice (some ⟨w.heap.size, 0, none⟩) l.length l.length) ∧ FRow w' w.heap.size l.length (heightsL l) ∧ Below w.heap.size w w' := by
  by_cases h0 : 0 < l.length
  · obtain ⟨nb, no, rfl, h⟩ := hn.at_ h0
    exact Height_some w B nb no cap l h hl31 h0
  · have hx : l = [] := List.eq_nil_of_length_eq_zero (by omega)
    subst hx
    exact Height_none w a cap
end Go.Proofs.YtfocggaocadkmaaDoor
