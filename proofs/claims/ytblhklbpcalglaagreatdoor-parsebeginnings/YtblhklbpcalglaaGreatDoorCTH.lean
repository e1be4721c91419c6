import Derived.Test.YtblhklbpcalglaaGreatDoorCTName2
import Derived.Test.YtblhklbpcalglaaGreatDoorCRRd2
import Derived.Test.YtblhklbpcalglaaGreatDoorCPW
namespace Go.Proofs.YtblhklbpcalglaaGreatDoor
open Go.RowKit
set_option linter.unusedVariables false
set_option linter.unusedSimpArgs false
def topGo (hs : List Nat) : List Int → Nat → Nat
  | [], t => t
  | k :: r, t => topGo hs r (if 0 ≤ k ∧ k < hs.length then max t (hs.getD k.toNat 0) else t)
def heightsGo (l : List Nd) : Nat → List Nat → List Nat
  | 0, hs => hs
  | m + 1, hs => heightsGo l m (hs ++ [topGo hs (ndN l hs.length).kids 0 + 1])
def heightsL (l : List Nd) : List Nat := heightsGo l l.length []
theorem topGo_le (hs : List Nat) (B : Nat) (hB : ∀ j, j < hs.length → hs.getD j 0 ≤ B) : ∀ (ks : List Int) (t : Nat), t ≤ B → topGo hs ks t ≤ B
  | [], t, h => h
  | k :: r, t, h => by
    rw [topGo]
    apply topGo_le hs B hB r
    split
    · rename_i hk
      have := hB k.toNat (by omega)
      omega
    · exact h
structure HgtS (w : World) (wr : World) (l : List Nd) (hs : List Nat) : Prop where
  bel : Below w.heap.size w wr
  row : FRow wr w.heap.size l.length hs
  le : ∀ j, j < hs.length → hs.getD j 0 ≤ hs.length
  eq : heightsL l = heightsGo l (l.length - hs.length) hs
theorem HgtS.next {w wr w1 : World} {l : List Nd} {hs : List Nat} (h : HgtS w wr l hs) (hi : hs.length < l.length) (hbel : Below w.heap.size w w1) (hrow : FRow w1 w.heap.size l.length hs) (x : Nat) (hx : x = topGo hs (ndN l hs.length).kids 0 + 1) :
    HgtS w (w1.setCell ⟨w.heap.size, hs.length, none⟩ (.int .i64 (x : Nat))) l (hs ++ [x]) := by
  subst hx
  have ht := topGo_le hs hs.length h.le (ndN l hs.length).kids 0 (Nat.zero_le _)
  refine ⟨Below.setCell (p := ⟨w.heap.size, hs.length, none⟩) hbel (Nat.le_refl _) _, hrow.set hi _, ?_, ?_⟩
  · intro j hj
    simp at hj
    by_cases hj2 : j < hs.length
    · have := h.le j hj2
      simp only [List.getD_eq_getElem?_getD] at this ⊢
      rw [List.getElem?_append_left hj2]
      simp
      omega
    · have : j = hs.length := by omega
      subst this
      simp [List.getD_eq_getElem?_getD]
      omega
  · rw [h.eq]
    obtain ⟨m, hm⟩ : ∃ m, l.length - hs.length = m + 1 := ⟨l.length - hs.length - 1, by omega⟩
    rw [hm, heightsGo]
    congr 1
    simp
    omega
theorem topGo_drop {hs : List Nat} {ks : List Int} {p t : Nat} (h : p < ks.length) : topGo hs (ks.drop p) t = topGo hs (ks.drop (p + 1)) (if 0 ≤ ks[p] ∧ ks[p] < hs.length then max t (hs.getD ks[p].toNat 0) else t) := by
  rw [List.drop_eq_getElem_cons h, topGo]
set_option maxRecDepth 100000 in
set_option maxHeartbeats 2000000 in
theorem Height_some (w : World) (B nb no nc : Nat) (l : List Nd) (hn : Nodes w B nb no nc l) (hl31 : l.length ≤ 2147483647) (h0 : 0 < l.length) :
    Calls Tryz.prog 14 #[.slice (some ⟨nb, no, none⟩) l.length nc] w fun e w' => e = .returned (.slice (some ⟨w.heap.size, 0, none⟩) l.length l.length) ∧ FRow w' w.heap.size l.length (heightsL l) ∧ Below w.heap.size w w' := by
  have hmk := make_ints w l.length hl31
  have HN : Bx (Nodes w B nb no nc l) := ⟨hn⟩
  have hnb : nb < w.heap.size := Nat.lt_of_lt_of_le hn.lo hn.hi
  clear hn
  go_enter Tryz.func14, Tryz.ntmps14
  go_wp2
  go_loopw [14] (fun x wr => ∃ hs : List Nat, hs.length ≤ l.length ∧ x = .int .i64 hs.length ∧ Bx (HgtS w wr l hs)) (fun x _ => l.length - (intOf x).toNat)
  case atStart => exact ⟨[], Nat.zero_le _, rfl, ⟨below1 w _, zeros_row w l.length, fun j hj => (by cases hj), rfl⟩⟩
  case round =>
    obtain ⟨hs, hhs, rfl, HS⟩ := hrel
    by_cases hlt : hs.length < l.length
    · have hsz := HS.out.bel.size
      have hB := HN.out.hi
      obtain ⟨ka, kc, hnd⟩ := (HN.out.below (HS.out.bel.mono HN.out.hi)).at_ hs.length hlt
      obtain ⟨c0, c1, c2, c3, c4⟩ := hnd.five
      have HX : Bx (∀ w1, Below w.heap.size w w1 → FRow w1 w.heap.size l.length hs → ∀ x, x = topGo hs (ndN l hs.length).kids 0 + 1 → HgtS w (w1.setCell ⟨w.heap.size, hs.length, none⟩ (.int .i64 (x : Nat))) l (hs ++ [x])) := ⟨fun w1 h1 h2 => HS.out.next hlt h1 h2⟩
      have ht := topGo_le hs hs.length HS.out.le
      have HK : Bx _ := ⟨hnd.kids⟩
      have hb1 := below1 wr (.cells #[.int .i64 (ndN l hs.length).kind, .int .i64 (ndN l hs.length).pos, .slice ka (ndN l hs.length).kids.length kc, .string (ndN l hs.length).name, .int .i64 (ndN l hs.length).num] 38)
      have hrow := HS.out.row.below hb1
      have hbel := HS.out.bel.trans (hb1.mono hsz)
      have hks := HK.out.below (hb1.mono (by omega))
      clear hb1 hnd HK
      generalize (ndN l hs.length).kids = ks at *
      generalize (ndN l hs.length).kind = kd at *
      generalize (ndN l hs.length).pos = ps at *
      generalize (ndN l hs.length).name = nm at *
      generalize (ndN l hs.length).num = num at *
      have hkl : ks.length ≤ maxLen := by
        obtain ⟨_, _, _, _, h2, _⟩ := hks.ex
        exact h2
      unfold maxLen at hkl
      have HQ : Bx (FRow _ w.heap.size l.length hs ∧ Below w.heap.size w _ ∧ IntsV _ B _ ks) := ⟨hrow, hbel, hks⟩
      have HT : Bx _ := ⟨ht⟩
      clear hrow hbel hks ht
      go_wp2
      go_loop [22, 6] (fun x t => ∃ p tp : Nat, p ≤ ks.length ∧ tp ≤ hs.length ∧ x = .int .i64 p ∧ t = .int .i64 tp ∧ Bx (topGo hs (ks.drop p) tp = topGo hs ks 0)) (fun x _ => ks.length - (intOf x).toNat)
      case atStart => exact ⟨0, 0, Nat.zero_le _, Nat.zero_le _, rfl, rfl, ⟨rfl⟩⟩
      case round =>
        obtain ⟨p, tp, hp, htp, rfl, rfl, HP⟩ := hrel
        by_cases hplt : p < ks.length
        · obtain ⟨a, cap, he, h1, h2, h3⟩ := HQ.out.2.2.ex
          simp only [Value.slice.injEq, true_and] at he
          obtain ⟨rfl, rfl⟩ := he
          obtain ⟨b, o, rfl, hbB, hcell⟩ := h3 (by omega)
          have hc := hcell p hplt
          have HP2 := topGo_drop (hs := hs) (t := tp) hplt
          generalize ks[p] = x at *
          clear hcell h3 h2 h1
          by_cases hx : 0 ≤ x ∧ x < hs.length
          · obtain ⟨m, rfl⟩ : ∃ m : Nat, x = (m : Int) := ⟨x.toNat, by omega⟩
            have hm : m < hs.length := by omega
            have hcf := HQ.out.1.firsts m hm
            have hlez := HS.out.le m hm
            rw [if_pos hx, Int.toNat_natCast] at HP2
            generalize hs.getD m 0 = z at *
            have HP3 : Bx (topGo hs (ks.drop (p + 1)) (max tp z) = topGo hs ks 0) := ⟨by rw [← HP2]; exact HP.out⟩
            have hlm : (m : Int) < l.length := by omega
            clear HP2 HP hx
            go_wp2
            go_round
            case rel => exact ⟨p + 1, max tp z, by omega, by omega, by go_num, by first | rfl | (congr 1; omega) | (simp; omega) | trace_state, HP3⟩
            case measure => simp [intOf]; omega
          · rw [if_neg hx] at HP2
            have HP3 : Bx (topGo hs (ks.drop (p + 1)) tp = topGo hs ks 0) := ⟨by rw [← HP2]; exact HP.out⟩
            clear HP2 HP
            by_cases hx0 : 0 ≤ x
            · have hx1 : decide (x < hs.length) = false := by simp; omega
              go_wp2
              go_round
              case rel => exact ⟨p + 1, tp, by omega, by omega, by go_num, rfl, HP3⟩
              case measure => simp [intOf]; omega
            · have hx1 : decide (0 ≤ x) = false := by simp; omega
              go_wp2
              go_round
              case rel => exact ⟨p + 1, tp, by omega, by omega, by go_num, rfl, HP3⟩
              case measure => simp [intOf]; omega
        · have HE : Bx (tp + 1 = topGo hs ks 0 + 1) := ⟨by rw [← HP.out, List.drop_eq_nil_of_le (by omega)]; rfl⟩
          obtain ⟨x0, g4⟩ := HQ.out.1.cell hs.length hlt
          have g5 := HQ.out.1.frozen hs.length
          have g6 := HQ.out.1.lt
          go_wp2
          go_roundw
          case rel => exact ⟨hs ++ [tp + 1], by simp; omega, by first | (simp; done) | (simp; go_num), ⟨HX.out _ HQ.out.2.1 HQ.out.1 _ HE.out⟩⟩
          case measure => simp [intOf]; omega
    · have hfl : hs.length = l.length := by omega
      have HE : Bx (heightsL l = hs) := ⟨by rw [HS.out.eq, show l.length - hs.length = 0 by omega]; rfl⟩
      go_wp2
      go_ret
      exact ⟨rfl, by rw [HE.out]; exact HS.out.row, HS.out.bel⟩
set_option maxRecDepth 100000 in
set_option maxHeartbeats 2000000 in
theorem Height_none (w : World) (a : Option Addr) (cap : Nat) :
    Calls Tryz.prog 14 #[.slice a 0 cap] w fun e w' => e = .returned (.slice (some ⟨w.heap.size, 0, none⟩) 0 0) ∧ FRow w' w.heap.size 0 [] ∧ Below w.heap.size w w' := by
  have hmk := make_ints w 0 (by omega)
  simp only [Int.natCast_zero] at hmk
  have HZ : Bx _ := ⟨zeros_row w 0⟩
  go_enter Tryz.func14, Tryz.ntmps14
  go_wp2
  go_loopw [14] (fun x wr => x = .int .i64 0 ∧ Bx (FRow wr w.heap.size 0 [] ∧ Below w.heap.size w wr)) (fun _ _ => 0)
  case atStart => exact ⟨rfl, ⟨HZ.out, below1 w _⟩⟩
  case round =>
    obtain ⟨rfl, hbel⟩ := hrel
    go_wp2
    go_ret
    exact ⟨rfl, hbel.out.1, hbel.out.2⟩
theorem Height_any (w : World) (B : Nat) (a : Option Addr) (cap : Nat) (l : List Nd) (hn : IsNodes w B a cap l) (hl31 : l.length ≤ 2147483647) :
    Calls Tryz.prog 14 #[.slice a l.length cap] w fun e w' => e = .returned (.slice (some ⟨w.heap.size, 0, none⟩) l.length l.length) ∧ FRow w' w.heap.size l.length (heightsL l) ∧ Below w.heap.size w w' := by
  by_cases h0 : 0 < l.length
  · obtain ⟨nb, no, rfl, h⟩ := hn.at_ h0
    exact Height_some w B nb no cap l h hl31 h0
  · have hx : l = [] := List.eq_nil_of_length_eq_zero (by omega)
    subst hx
    exact Height_none w a cap
end Go.Proofs.YtblhklbpcalglaaGreatDoor
namespace Go.Proofs.YtblhklbpcalglaaGreatDoor
open Go.RowKit
set_option linter.unusedVariables false
set_option linter.unusedSimpArgs false
theorem ends_in : ∀ (ks : List Tr) (o N : Nat), o + sizes ks ≤ N → ∀ k ∈ ends ks o, 0 ≤ k ∧ k < (N : Int)
  | [], o, N, _, k, hk => by simp [ends] at hk
  | t :: r, o, N, h, k, hk => by
    have hp := size_pos t
    simp only [sizes] at h
    simp only [ends, List.mem_cons] at hk
    rcases hk with rfl | hk
    · omega
    · exact ends_in r (o + t.size) N (by omega) k hk
mutual
theorem flat_wf : ∀ (t : Tr) (o : Nat), tW t → o + t.size ≤ 200000 → ∀ n ∈ flat t o, NdWf n
  | .mk k p n nm ks, o, h, hz, m, hm => by
    obtain ⟨h1, h2, h3, h4, h5⟩ := h
    simp only [Tr.size] at hz
    simp only [flat, List.mem_append, List.mem_singleton] at hm
    rcases hm with hm | rfl
    · exact flats_wf ks o h5 (by omega) m hm
    · refine ⟨⟨by simp only; omega, by simp only; omega⟩, ⟨by simp only; omega, by simp only; omega⟩, ⟨by simp only; omega, by simp only; omega⟩, ?_, fun x hx => ?_⟩
      · have : (⟨nm.toArray⟩ : ByteArray).size = nm.length := by simp [ByteArray.size]
        simp only
        rw [this]
        unfold maxLen
        omega
      · have := ends_in ks o 200000 (by omega) x hx
        exact ⟨by omega, by omega⟩
theorem flats_wf : ∀ (ts : List Tr) (o : Nat), tsW ts → o + sizes ts ≤ 200000 → ∀ n ∈ flats ts o, NdWf n
  | [], o, _, _, m, hm => by simp [flats] at hm
  | t :: r, o, h, hz, m, hm => by
    simp only [sizes] at hz
    simp only [flats, List.mem_append] at hm
    rcases hm with hm | hm
    · exact flat_wf t o h.1 (by omega) m hm
    · exact flats_wf r _ h.2 (by omega) m hm
end
theorem nds_cell : ∀ (ns : List Nd) (ks : List (Option Addr × Nat)) (hl : ks.length = ns.length) (j : Nat) (h : j < ns.length) (h' : j < ks.length) (i : Nat), i < 5 → (ndsC ns ks)[j * 5 + i]? = (ndC ns[j] ks[j])[i]?
  | [], ks, hl, j, h, h', i, hi => by simp at h
  | n :: r, [], hl, j, h, h', i, hi => by simp at h'
  | n :: r, k :: q, hl, 0, h, h', i, hi => by
    have e : (ndC n k).length = 5 := rfl
    simp only [ndsC, Nat.zero_mul, Nat.zero_add, List.getElem_cons_zero]
    rw [List.getElem?_append_left (by omega)]
  | n :: r, k :: q, hl, j + 1, h, h', i, hi => by
    have e : (ndC n k).length = 5 := rfl
    have ih := nds_cell r q (by simpa using hl) j (by simpa using h) (by simpa using h') i hi
    simp only [ndsC, List.getElem_cons_succ]
    rw [List.getElem?_append_right (by omega), e, show (j + 1) * 5 + i - 5 = j * 5 + i by omega]
    exact ih
theorem ints_in {W : World} {rb B : Nat} {a : Option Addr} {c : Nat} {xs : List Int} (h : IntsO W rb (.slice a xs.length c) xs) (hB : ∀ g, a = some ⟨g, 0, none⟩ → g < B) (hm : xs.length ≤ maxLen) : IntsV W B (.slice a xs.length c) xs := by
  rcases h.2 with ⟨e, h0⟩ | ⟨g, cap, cur, e, h1, h2, h3, h4, h5, h6⟩
  · simp only [Value.slice.injEq] at e
    exact ⟨a, c, rfl, by omega, hm, fun h => by omega⟩
  · simp only [Value.slice.injEq, true_and] at e
    obtain ⟨rfl, rfl⟩ := e
    refine ⟨_, _, rfl, by omega, hm, fun _ => ⟨g, 0, rfl, hB g rfl, fun i hi => ?_⟩⟩
    have hu : (intsC xs)[i]? = some (.int .i64 xs[i]) := by simp [intsC, hi]
    rw [← h6] at hu
    rw [List.getElem?_take_of_lt (by omega), Array.getElem?_toList] at hu
    simp [World.cell?, h2, hu]
theorem nodes_in {W : World} {rb : Nat} {nv : Value} {ns : List Nd} (h : NodesO (fun _ => False) W rb nv ns) (hwf : ∀ n ∈ ns, NdWf n) (hz : ns.length ≤ 200000) (hk : ∀ n ∈ ns, n.kids.length ≤ 200000) : ∃ a cap, nv = .slice a ns.length cap ∧ IsNodes W W.heap.size a cap ns := by
  obtain ⟨ks, hl, h2, hi⟩ := h.ex
  rcases h2.2 with ⟨e, h0⟩ | ⟨g, cap, cur, e, q1, q2, q3, q4, q5, q6⟩
  · have hx : ns.length = 0 := h0
    exact ⟨none, 0, by rw [e, hx], ⟨fun h => by omega, Nat.le_refl _⟩⟩
  · refine ⟨_, cap, e, ⟨fun h0 => ⟨g, 0, rfl, ⟨fun j hj => ?_, fun j hj => ?_, heapLt q2, Nat.le_refl _, by unfold maxLen; omega, by omega⟩⟩, Nat.le_refl _⟩⟩
    · have hj' : j < ks.length := by omega
      have en : ndN ns j = ns[j] := by simp [ndN, hj]
      rw [en]
      have hc : ∀ i u, i < 5 → (ndC ns[j] ks[j])[i]? = some u → W.cell? ⟨g, 0 + j * 5 + i, none⟩ = some u := fun i u hi5 hu => by
        rw [← nds_cell ns ks hl j hj hj' i hi5, ← q6] at hu
        have ho : j * 5 + i < ns.length * 5 := by omega
        rw [List.getElem?_take_of_lt ho, Array.getElem?_toList] at hu
        simp [World.cell?, q2, hu]
      have hn := hk ns[j] (List.getElem_mem hj)
      refine ⟨ks[j].1, ks[j].2, hc 0 _ (by omega) rfl, hc 1 _ (by omega) rfl, hc 2 _ (by omega) rfl, hc 3 _ (by omega) rfl, hc 4 _ (by omega) rfl, ?_⟩
      refine ints_in (hi j hj hj').1 (fun g' hg' => ?_) (by unfold maxLen; omega)
      have := (hi j hj hj').1
      rcases this.2 with ⟨e', _⟩ | ⟨g2, cap2, cur2, e', p1, p2, _⟩
      · simp only [Value.slice.injEq] at e'
        rw [e'.1] at hg'; cases hg'
      · simp only [Value.slice.injEq] at e'
        rw [e'.1] at hg'
        simp only [Option.some.injEq, Addr.mk.injEq, true_and, and_true] at hg'
        rw [← hg']
        exact heapLt p2
    · have en : ndN ns j = ns[j] := by simp [ndN, hj]
      rw [en]
      exact hwf _ (List.getElem_mem hj)
end Go.Proofs.YtblhklbpcalglaaGreatDoor
namespace Go.Proofs.YtblhklbpcalglaaGreatDoor
open Go.RowKit
set_option linter.unusedVariables false
set_option linter.unusedSimpArgs false
theorem heightsGo_len (l : List Nd) : ∀ (n : Nat) (hs : List Nat), (heightsGo l n hs).length = hs.length + n
  | 0, hs => rfl
  | n + 1, hs => by
    rw [heightsGo, heightsGo_len l n]
    simp
    omega
theorem heightsL_len (l : List Nd) : (heightsL l).length = l.length := by
  unfold heightsL
  rw [heightsGo_len]
  simp
def hiGo (l : List Nd) (nest : Int) : List Nat → Nat → Int × Int
  | [], _ => (0, 0)
  | h :: r, i => if nest < (h : Int) then ((ndN l i).pos, 31) else hiGo l nest r (i + 1)
theorem hiGo_drop (l : List Nd) (nest : Int) (hs : List Nat) (p : Nat) (h : p < hs.length) : hiGo l nest (hs.drop p) p = if nest < (hs.getD p 0 : Nat) then ((ndN l p).pos, 31) else hiGo l nest (hs.drop (p + 1)) (p + 1) := by
  rw [List.drop_eq_getElem_cons h, hiGo]
  simp [List.getD, h]
set_option maxRecDepth 100000 in
set_option maxHeartbeats 1000000 in
theorem tooHigh_any (w : World) (a : Option Addr) (cap : Nat) (l : List Nd) (hn : IsNodes w w.heap.size a cap l) (hz : l.length ≤ 200000) (nest : Int) (x y : Int) (hxy : hiGo l nest (heightsL l) 0 = (x, y)) :
    Calls Tryz.prog 9 #[.slice a l.length cap, .int .i64 nest] w fun e w' => e = .returned (.agg #[.int .i64 x, .int .i64 y]) ∧ Below w.heap.size w w' := by
  obtain ⟨W1, hW1⟩ : ∃ W1, w.alloc (.cells #[.int .i64 0, .int .i64 0] 27) = W1 := ⟨_, rfl⟩
  have b1 : Below w.heap.size w W1 := by rw [← hW1]; exact below1 _ _
  have hz1 : W1.heap.size = w.heap.size + 1 := by rw [← hW1]; simp
  have c1 : W1.heap[w.heap.size]? = some (.cells #[.int .i64 0, .int .i64 0] 27 (0, 0)) := by rw [← hW1]; exact heap_alloc_new _ _
  have hlen := heightsL_len l
  have HC : Bx (Calls Tryz.prog 14 #[.slice a l.length cap] W1 fun e w' => e = .returned (.slice (some ⟨W1.heap.size, 0, none⟩) l.length l.length) ∧ FRow w' W1.heap.size l.length (heightsL l) ∧ Below W1.heap.size W1 w') := ⟨Height_any W1 w.heap.size a cap l (hn.below b1) (by omega)⟩
  have HN : Bx (IsNodes w w.heap.size a cap l) := ⟨hn⟩
  have HW : Bx (w.alloc (.cells #[.int .i64 0, .int .i64 0] 27) = W1) := ⟨hW1⟩
  have H1 : Bx (Below w.heap.size w W1 ∧ W1.heap.size = w.heap.size + 1 ∧ W1.heap[w.heap.size]? = some (.cells #[.int .i64 0, .int .i64 0] 27 (0, 0))) := ⟨b1, hz1, c1⟩
  clear hW1 b1 hz1 c1 hn
  generalize heightsL l = hs at *
  go_enter Tryz.func9, Tryz.ntmps9
  go_wp2_with (first | (go_at_call 14; rw [HW.out]; refine Calls.mono HC.out ?_; rintro e W2 ⟨rfl, hr, hb⟩; rw [H1.out.2.1] at hr hb; rw [H1.out.2.1]; have H2 : Bx (FRow W2 (w.heap.size + 1) l.length hs ∧ Below (w.heap.size + 1) W1 W2) := ⟨hr, hb⟩; clear hr hb))
  have g0 : W2.heap[w.heap.size]? = some (.cells #[.int .i64 0, .int .i64 0] 27 (0, 0)) := (H2.out.2.block _ (by omega)).trans H1.out.2.2
  have b2 : Below w.heap.size w W2 := H1.out.1.trans (H2.out.2.mono (by omega))
  have HB : Bx (Below w.heap.size w W2) := ⟨b2⟩
  have HN2 : Bx (IsNodes W2 w.heap.size a cap l) := ⟨HN.out.below b2⟩
  have hzz := b2.size
  have d0 : W2.cell? ⟨w.heap.size, 0, none⟩ = some (.int .i64 0) := by simp [World.cell?, g0]
  have d1 : W2.cell? ⟨w.heap.size, 1, none⟩ = some (.int .i64 0) := by simp [World.cell?, g0]
  have e0 : W2.frozen? ⟨w.heap.size, 0, none⟩ = false := by simp [World.frozen?, g0]
  have e1 : W2.frozen? ⟨w.heap.size, 1, none⟩ = false := by simp [World.frozen?, g0]
  have hlt : w.heap.size < W2.heap.size := heapLt g0
  clear g0 b2
  go_loop [10] (fun v => ∃ p : Nat, p ≤ l.length ∧ v = .int .i64 p ∧ Bx (hiGo l nest (hs.drop p) p = (x, y))) (fun v => l.length - (intOf v).toNat)
  case atStart => exact ⟨0, Nat.zero_le _, rfl, ⟨hxy⟩⟩
  case round =>
    obtain ⟨p, hp, rfl, HP⟩ := hrel
    by_cases hplt : p < l.length
    · have hc := H2.out.1.firsts p (by omega)
      have HP2 := hiGo_drop l nest hs p (by omega)
      rw [HP.out] at HP2
      generalize hs.getD p 0 = z at *
      by_cases hzn : nest < (z : Int)
      · rw [if_pos hzn] at HP2
        obtain ⟨nb, no, rfl, hN⟩ := HN2.out.at_ (by omega)
        obtain ⟨ka, kc, hnd⟩ := hN.at_ p hplt
        have k1 := hnd.c1
        have hlo := hN.lo
        have hcap := hN.cap
        obtain ⟨rfl, rfl⟩ := Prod.mk.inj HP2
        clear hnd hN HP2
        go_wp2
        refine bodyPost_ret (v := .agg #[.int .i64 (ndN l p).pos, .int .i64 31]) (by simp [results, Tryz.results9, go_sem, d0, d1]) rfl ⟨rfl, ?_⟩
        exact (HB.out.setCell (p := ⟨w.heap.size, 0, none⟩) (Nat.le_refl _) _).setCell (p := ⟨w.heap.size, 1, none⟩) (Nat.le_refl _) _
      · rw [if_neg hzn] at HP2
        have HP3 : Bx (hiGo l nest (hs.drop (p + 1)) (p + 1) = (x, y)) := ⟨HP2.symm⟩
        have hzd : decide (nest < (z : Int)) = false := by simp; omega
        clear HP2 HP
        go_wp2
        go_round
        case rel => exact ⟨p + 1, by omega, by go_num, HP3⟩
        case measure => simp [intOf]; omega
    · have hpe : p = l.length := by omega
      have HE : ((0 : Int), (0 : Int)) = (x, y) := by rw [← HP.out, List.drop_eq_nil_of_le (by omega)]; rfl
      obtain ⟨rfl, rfl⟩ := Prod.mk.inj HE
      go_wp2
      refine bodyPost_ret (v := .agg #[.int .i64 0, .int .i64 0]) (by simp [results, Tryz.results9, go_sem, d0, d1]) rfl ⟨rfl, ?_⟩
      exact (HB.out.setCell (p := ⟨w.heap.size, 0, none⟩) (Nat.le_refl _) _).setCell (p := ⟨w.heap.size, 1, none⟩) (Nat.le_refl _) _
end Go.Proofs.YtblhklbpcalglaaGreatDoor
namespace Go.Proofs.YtblhklbpcalglaaGreatDoor
open Go.RowKit
set_option linter.unusedVariables false
set_option linter.unusedSimpArgs false
theorem next_num64 (xs : List UInt8) (k : Nat) (t : Tok) (h : nextR xs k = (t, 0)) : t.num < 9223372036854775808 := by
  unfold nextR at h
  split at h
  · unfold wordR at h
    split at h
    · have e := (Prod.mk.inj h).1
      subst e
      exact (by decide : (0 : Nat) < 9223372036854775808)
    · split at h
      · simp at h
      · have e := (Prod.mk.inj h).1
        subst e
        exact (by decide : (0 : Nat) < 9223372036854775808)
  · split at h
    · unfold numR at h
      split at h
      · simp at h
      · split at h
        · simp at h
        · split at h
          · rename_i h3
            have e := (Prod.mk.inj h).1
            subst e
            exact h3
          · simp at h
    · unfold signR at h
      split at h
      · simp at h
      · have e := (Prod.mk.inj h).1
        subst e
        exact (by decide : (0 : Nat) < 9223372036854775808)
theorem covers_num (xs : List UInt8) : ∀ (l : List Tok) (k : Nat), Covers xs k l → ∀ t ∈ l, t.num < 9223372036854775808 ∧ t.place ≤ xs.length
  | [], _, _, t, h => by simp at h
  | t :: r, k, hc, t', h => by
    obtain ⟨q1, q2, q3, q4⟩ := hc
    rcases List.mem_cons.1 h with rfl | h
    · exact ⟨next_num64 xs _ _ q3, by omega⟩
    · exact covers_num xs r _ q4 t' h
theorem scan_okts (xs : List UInt8) (h : (scanAll xs).2.2 = 0) : OkTs (pts xs (withEnd (scanAll xs).1 xs.length) 0) ∧ (pts xs (withEnd (scanAll xs).1 xs.length) 0).length = (scanAll xs).1.length + 1 ∧ (scanAll xs).1.length ≤ 65536 := by
  obtain ⟨hc, hl⟩ := scan_covers xs h
  generalize (scanAll xs).1 = l at hc ⊢
  have hn := covers_len xs l 0 (Nat.zero_le _) hc
  have ha := covers_num xs l 0 hc
  refine ⟨?_, by simp [pts, withEnd], by omega⟩
  intro t ht
  simp only [pts, withEnd, List.drop_zero, List.mem_map, List.mem_append, List.mem_singleton] at ht
  have hcut : ∀ k e, (cut xs k e).length ≤ 65536 := fun k e => by
    unfold cut
    simp
    omega
  obtain ⟨u, hu | rfl, rfl⟩ := ht
  · have := ha u hu
    refine ⟨?_, ?_, ?_⟩
    · show u.place ≤ 65536
      omega
    · show u.num < _
      omega
    · exact hcut _ _
  · refine ⟨?_, ?_, ?_⟩
    · show xs.length ≤ 65536
      omega
    · show 0 < 9223372036854775808
      decide
    · exact hcut _ _
def parseF (n : Nat) : Nat := 20 * (n + 1) + 8
def parseR (xs : List UInt8) (nest : Int) : List Nd × Int × Int :=
  if (scanAll xs).2.2 ≠ 0 then ([], (scanAll xs).2.1, (scanAll xs).2.2)
  else match pF (parseF (scanAll xs).1.length + 1) .program (pts xs (withEnd (scanAll xs).1 xs.length) 0) with
    | .ok ts _ => if (hiGo (flats ts 0) nest (heightsL (flats ts 0)) 0).2 ≠ 0 then ([], hiGo (flats ts 0) nest (heightsL (flats ts 0)) 0) else (flats ts 0, 0, 0)
    | .err s => ([], (hd s).place, 30)
    | .out => ([], 0, 0)
theorem parse_ne (xs : List UInt8) (h : (scanAll xs).2.2 = 0) : pF (parseF (scanAll xs).1.length + 1) .program (pts xs (withEnd (scanAll xs).1 xs.length) 0) ≠ .out := by
  obtain ⟨_, h2, _⟩ := scan_okts xs h
  exact pF_no _ .program _ trivial (by rw [h2]; simp only [rank, parseF]; omega)
mutual
theorem flat_kids : ∀ (t : Tr) (o N : Nat), t.size ≤ N → ∀ n ∈ flat t o, n.kids.length ≤ N
  | .mk k p n nm ks, o, N, hz, m, hm => by
    simp only [Tr.size] at hz
    simp only [flat, List.mem_append, List.mem_singleton] at hm
    rcases hm with hm | rfl
    · exact flats_kids ks o N (by omega) m hm
    · have := len_sizes ks
      simp only [ends_len]
      omega
theorem flats_kids : ∀ (ts : List Tr) (o N : Nat), sizes ts ≤ N → ∀ n ∈ flats ts o, n.kids.length ≤ N
  | [], o, N, _, m, hm => by simp [flats] at hm
  | t :: r, o, N, hz, m, hm => by
    simp only [sizes] at hz
    simp only [flats, List.mem_append] at hm
    rcases hm with hm | hm
    · exact flat_kids t o N (by omega) m hm
    · exact flats_kids r _ N (by omega) m hm
end
theorem read_in (xs : List UInt8) (h : (scanAll xs).2.2 = 0) (f : Nat) (ts : List Tr) (s' : List PTok) (hp : pF f .program (pts xs (withEnd (scanAll xs).1 xs.length) 0) = .ok ts s') : (∀ n ∈ flats ts 0, NdWf n) ∧ (flats ts 0).length ≤ 200000 ∧ ∀ n ∈ flats ts 0, n.kids.length ≤ 200000 := by
  obtain ⟨h1, h2, h3⟩ := scan_okts xs h
  have hw := pF_wl f .program _ trivial h1 (by omega)
  rw [hp] at hw
  obtain ⟨q1, q2, q3⟩ := hw
  simp only [exR, slR] at q3
  rw [h2] at q3
  exact ⟨flats_wf ts 0 q1 (by omega), by rw [flats_len]; omega, flats_kids ts 0 200000 (by omega)⟩
end Go.Proofs.YtblhklbpcalglaaGreatDoor
