import Derived.Test.YtllgaholkminnaaDoorCKMem
import Derived.Test.YtllgaholkminnaaDoorCKSr
namespace Go.Proofs.YtllgaholkminnaaDoor
open Go.RowKit
set_option linter.unusedVariables false
set_option linter.unusedSimpArgs false

def lensT (t : List Ty) : List Int := t.map fun r => (r.kids.length : Int)
def beyondI : Int → List Int → Bool
  | _, [] => false
  | n, m :: r => if 2147483647 ≤ n + 1 ∨ 2147483647 - (n + 1) < m then true else beyondI (n + 1 + m) r
def sumL1 : List Int → Int
  | [] => 0
  | m :: r => 1 + m + sumL1 r
theorem beyond_sum : ∀ (ms : List Int) (n : Int), (∀ m ∈ ms, 0 ≤ m) → n ≤ 2147483647 → beyondI n ms = false → n + sumL1 ms ≤ 2147483647
  | [], n, _, hn, _ => by simp [sumL1]; exact hn
  | m :: r, n, h0, hn, h => by
    rw [beyondI] at h
    split at h
    · cases h
    · rename_i hc
      have := beyond_sum r (n + 1 + m) (fun x hx => h0 x (by simp [hx])) (by omega) h
      simp only [sumL1]
      omega
theorem sumTo_shift (f : Nat → Nat) : ∀ n, sumTo f (n + 1) = f 0 + sumTo (fun i => f (i + 1)) n
  | 0 => by simp [sumTo]
  | n + 1 => by rw [sumTo, sumTo_shift f n, sumTo]; omega
theorem sum_load : ∀ t : List Ty, sumL1 (lensT t) = (sumTo (fun i => 1 + (tyN t i).kids.length) t.length : Nat)
  | [] => rfl
  | r :: t => by
    have ih := sum_load t
    have e : (fun i => 1 + (tyN (r :: t) (i + 1)).kids.length) = fun i => 1 + (tyN t i).kids.length := by
      funext i; unfold tyN; rw [List.getD_cons_succ]
    show 1 + (r.kids.length : Int) + sumL1 (lensT t) = _
    rw [ih, List.length_cons, sumTo_shift, e]
    simp [tyN]
theorem load_of_not_beyond {t : List Ty} (h : beyondI 0 (lensT t) = false) : load t id ≤ 2147483647 := by
  have := beyond_sum (lensT t) 0 (fun m hm => by unfold lensT at hm; rw [List.mem_map] at hm; obtain ⟨r, _, rfl⟩ := hm; omega) (by omega) h
  rw [sum_load] at this
  have e : load t id = sumTo (fun i => 1 + (tyN t i).kids.length) t.length := sumTo_congr _ fun i _ => by simp [loadF]
  rw [e]
  omega
theorem beyond_drop {ms : List Int} {p : Nat} {n : Int} (h : p < ms.length) : beyondI n (ms.drop p) = if 2147483647 ≤ n + 1 ∨ 2147483647 - (n + 1) < ms[p] then true else beyondI (n + 1 + ms[p]) (ms.drop (p + 1)) := by
  rw [List.drop_eq_getElem_cons h, beyondI]

set_option maxRecDepth 100000 in
set_option maxHeartbeats 1000000 in
theorem beyond_any (w : World) (B : Nat) (a : Option Addr) (cap : Nat) (ms : List Int) (hi : IntsV w B (.slice a ms.length cap) ms) (h0 : ∀ m ∈ ms, 0 ≤ m ∧ m ≤ 9223372036854775807) :
    Calls Tryd.prog 8 #[.slice a ms.length cap] w fun e w' => e = .returned (.bool (beyondI 0 ms)) ∧ w = w' := by
  obtain ⟨a', cap', he, h1, h2, h3⟩ := hi.ex
  simp only [Value.slice.injEq, true_and] at he
  obtain ⟨rfl, rfl⟩ := he
  unfold maxLen at h2
  generalize hR : beyondI 0 ms = R
  have HR : Bx _ := ⟨hR⟩
  have H3 : Bx _ := ⟨h3⟩
  have H0 : Bx _ := ⟨h0⟩
  clear hR h3 h0 hi
  go_enter Tryd.func8, Tryd.ntmps8
  go_wp2
  go_loop [4, 3] (fun x y => ∃ (p : Nat) (n : Int), p ≤ ms.length ∧ 0 ≤ n ∧ n ≤ 2147483647 ∧ x = .int .i64 p ∧ y = .int .i64 n ∧ Bx (beyondI n (ms.drop p) = R)) (fun x _ => ms.length - (intOf x).toNat)
  case atStart => exact ⟨0, 0, Nat.zero_le _, by omega, by omega, rfl, rfl, ⟨HR.out⟩⟩
  case round =>
    obtain ⟨p, n, hp, hn0, hn1, rfl, rfl, HS⟩ := hrel
    by_cases hlt : p < ms.length
    · obtain ⟨b, o, rfl, hbB, hcell⟩ := H3.out (by omega)
      have hc := hcell p hlt
      have hm := H0.out _ (List.getElem_mem hlt)
      have HD := beyond_drop (n := n) hlt
      rw [HS.out] at HD
      have HDB : Bx _ := ⟨HD⟩
      clear HD hcell HS
      generalize ms[p] = m at *
      by_cases e1 : 2147483647 ≤ n + 1
      · have HE : Bx (R = true) := ⟨by rw [HDB.out, if_pos (Or.inl e1)]⟩
        go_wp2
        go_ret
        exact ⟨ret_bool HE.out.symm, rfl⟩
      · by_cases e2 : 2147483647 - (n + 1) < m
        · have HE : Bx (R = true) := ⟨by rw [HDB.out, if_pos (Or.inr e2)]⟩
          have e1' : decide (2147483647 ≤ n + 1) = false := by simpa using e1
          have e2' : decide (2147483647 - (n + 1) < m) = true := by simpa using e2
          go_wp2
          go_ret
          exact ⟨ret_bool HE.out.symm, rfl⟩
        · have HE : Bx (beyondI (n + 1 + m) (ms.drop (p + 1)) = R) := ⟨by rw [HDB.out, if_neg (by omega)]⟩
          have e1' : decide (2147483647 ≤ n + 1) = false := by simpa using e1
          have e2' : decide (2147483647 - (n + 1) < m) = false := by simpa using e2
          go_wp2
          go_round
          case rel => exact ⟨p + 1, n + 1 + m, by omega, by omega, by omega, by go_num, rfl, HE⟩
          case measure => simp [intOf]; omega
    · have HE : Bx (R = false) := ⟨by rw [← HS.out, List.drop_eq_nil_of_le (by omega)]; rfl⟩
      go_wp2
      go_ret
      exact ⟨ret_bool HE.out.symm, rfl⟩

def amongI (c : Int) (n : Nat) : Nat := (if c < 0 then -(c + 1) else c).toNat % n
theorem among_any (w : World) (c : Int) (n : Nat) (hc : I64 c) (hn : 0 < n) (hn2 : n ≤ 9223372036854775807) : Calls Tryd.prog 17 #[.int .i64 c, .int .i64 n] w fun e w' => e = .returned (.int .i64 (amongI c n : Nat)) ∧ w = w' := by
  unfold I64 at hc
  obtain ⟨h1, h2⟩ := hc
  by_cases h : c < 0
  · obtain ⟨z, hz⟩ : ∃ z : Nat, -(c + 1) = (z : Int) := ⟨(-(c + 1)).toNat, by omega⟩
    have HE : Bx (((z : Int) % (n : Int)) = (amongI c n : Nat)) := ⟨by unfold amongI; rw [if_pos h, hz]; simp⟩
    go_enter Tryd.func17, Tryd.ntmps17
    go_wp2
    go_ret
    exact ⟨ret_int HE.out, rfl⟩
  · obtain ⟨z, rfl⟩ : ∃ z : Nat, c = (z : Int) := ⟨c.toNat, by omega⟩
    have HE : Bx (((z : Int) % (n : Int)) = (amongI (z : Int) n : Nat)) := ⟨by unfold amongI; rw [if_neg h]; simp⟩
    go_enter Tryd.func17, Tryd.ntmps17
    go_wp2
    go_ret
    exact ⟨ret_int HE.out, rfl⟩
theorem among_lt (c : Int) {n : Nat} (hn : 0 < n) : amongI c n < n := Nat.mod_lt _ hn

theorem lensT_take (t : List Ty) (k : Nat) (h : k < t.length) : lensT (t.take (k + 1)) = lensT (t.take k) ++ [((tyN t k).kids.length : Int)] := by
  unfold lensT
  rw [List.take_succ_eq_append_getElem h, List.map_append]
  unfold tyN
  rw [List.getD_eq_getElem?_getD, List.getElem?_eq_getElem h]
  rfl
theorem owns_ints {W : World} {B : Nat} {v : Value} {xs : List Int} (h : W.ownsRow B 3 1 v xs.length (intsL xs)) : ∃ a cap, v = .slice a xs.length cap ∧ IntsV W W.heap.size v xs := by
  rcases h.2 with ⟨rfl, hn⟩ | ⟨g, cap, cur, rfl, hB, hgg, q1, q2, q3, q4⟩
  · have : xs = [] := List.eq_nil_of_length_eq_zero hn
    subst this
    exact ⟨none, 0, rfl, ⟨_, _, rfl, by simp, by simp [maxLen], fun h => by simp at h⟩⟩
  · refine ⟨_, _, rfl, ⟨_, _, rfl, q1, by omega, fun _ => ⟨g, 0, rfl, (Array.getElem?_eq_some_iff.1 hgg).1, fun i hi => ?_⟩⟩⟩
    rw [Nat.zero_add, cell_of_row W g i cur _ (0, 0) hgg]
    have e := congrArg (·[i]?) q4
    simp only [intsL] at e
    rw [List.getElem?_take_of_lt (by omega), Array.getElem?_toList] at e
    rw [e]
    simp [hi]
set_option maxRecDepth 100000 in
set_option maxHeartbeats 2000000 in
theorem ofRows_some (w : World) (B nb no nc : Nat) (t : List Ty) (hn : Types w B nb no nc t) (hb : t.length ≤ 3518437208883) :
    Calls Tryd.prog 9 #[.slice (some ⟨nb, no, none⟩) t.length nc] w fun e w' => ∃ a cap, e = .returned (.slice a t.length cap) ∧ Bx (IntsV w' w'.heap.size (.slice a t.length cap) (lensT t) ∧ Below w.heap.size w w') := by
  have HN : Bx _ := ⟨hn⟩
  have hnb := hn.lo
  have hB := hn.hi
  obtain ⟨j0, ji, jz0, jz1, jz2⟩ := info_parts info3
  clear hn
  go_enter Tryd.func9, Tryd.ntmps9
  go_wp2
  go_loopw [4, 3] (fun x v wr => ∃ (k : Nat) (vv : Value), k ≤ t.length ∧ x = .int .i64 k ∧ vv = v ∧ Bx (wr.ownsRow w.heap.size 3 1 vv k (intsL (lensT (t.take k))) ∧ Below w.heap.size w wr)) (fun x _ _ => t.length - (intOf x).toNat)
  case atStart => exact ⟨0, _, Nat.zero_le _, rfl, rfl, ⟨⟨rfl, .inr ⟨w.heap.size, 0, _, rfl, Nat.le_refl _, heap_alloc_new w _, Nat.le_refl _, by simp [maxLen], by simp, by simp [intsL, lensT]⟩⟩, below1 w _⟩⟩
  case round =>
    obtain ⟨k, vv, hk, rfl, rfl, HS⟩ := hrel
    by_cases hlt : k < t.length
    · have hsz := HS.out.2.size
      obtain ⟨ka, kc, hnd⟩ := (HN.out.below (HS.out.2.mono hB)).at_ k hlt
      have c1 := hnd.c1
      have hkl : (tyN t k).kids.length ≤ maxLen := by
        obtain ⟨_, _, _, _, h2, _⟩ := hnd.kids.ex
        exact h2
      unfold maxLen at hkl
      have HL := lensT_take t k hlt
      generalize (tyN t k).kids.length = kn at *
      have HOW : Bx ((wr.alloc (.cells #[.int .i64 (kn : Nat)] 3)).ownsRow w.heap.size 3 1 vv k (intsL (lensT (t.take k)))) := ⟨owns_same HS.out.1 fun g _ hg => (below1 wr _).block g hg⟩
      have HPU : Bx (∀ g2 cp2 w8, (wr.alloc (.cells #[.int .i64 (kn : Nat)] 3)).grownBy w8 vv.ownBlock → w8.ownsRow w.heap.size 3 1 (.slice (some ⟨g2, 0, none⟩) (k + 1) cp2) (k + 1) (intsL (lensT (t.take k)) ++ [.int .i64 (kn : Nat)]) → w8.ownsRow w.heap.size 3 1 (.slice (some ⟨g2, 0, none⟩) (k + 1) cp2) (k + 1) (intsL (lensT (t.take (k + 1)))) ∧ Below w.heap.size w w8) := ⟨fun g2 cp2 w8 hg ho => ⟨by
          rw [HL]
          unfold intsL
          rw [List.map_append]
          exact ho, (HS.out.2.trans ((below1 _ _).mono hsz)).grown hg (by simp; omega) (fun x hx => (owns_block HS.out.1 hx).1)⟩⟩
      clear HL hnd HS
      generalize intsL (lensT (t.take k)) = tc at *
      go_wp2_with (first
        | (at_builtin; refine wpList_append_lies _ rfl (.tmp 12) (.tmp 19) 24 rfl w.heap.size 3 j0 (.int .i64 0) 1 8 Tryd.underlying24 ji jz0 jz1 jz2 rfl (by decide) vv k tc rfl HOW.out ⟨wr.heap.size, 0, none⟩ 1 1 [.int .i64 (kn : Nat)] rfl rfl (int_news _ _ rfl _) (int_one _) (by decide) (by unfold maxLen; omega) (by omega) (by simp; omega) (wr.heap.size + 1) (by simp) ?_; intro gg cg w8 hown hgrow hat hlt8; have LN := HPU.out gg cg w8 hgrow hown; have LNB : Bx _ := ⟨LN⟩; clear hgrow hat hown LN))
      go_roundw
      case rel => exact ⟨k + 1, _, by omega, by go_num, rfl, LNB⟩
      case measure => simp [intOf]; omega
    · have hke : k = t.length := by omega
      subst hke
      have HO := HS.out.1
      rw [List.take_of_length_le (Nat.le_refl _)] at HO
      have hll : (lensT t).length = t.length := by simp [lensT]
      obtain ⟨a, cap, e, hi⟩ := owns_ints (xs := lensT t) (by rw [hll]; exact HO)
      rw [hll] at e
      subst e
      have HIV : Bx _ := ⟨hi⟩
      clear HO hi
      go_wp2
      go_ret
      exact ⟨a, cap, rfl, ⟨HIV.out, HS.out.2⟩⟩
end Go.Proofs.YtllgaholkminnaaDoor
