import Derived.Test.YtadmpgegolmkgaaDoorBWzA
import Derived.Test.YtadmpgegolmkgaaDoorBWcC
set_option linter.unusedVariables false
set_option linter.unusedSimpArgs false
set_option maxHeartbeats 4000000
set_option maxRecDepth 100000
namespace Go.Proofs.YtadmpgegolmkgaaDoor
open Go.RowKit
def K2 (u : CUn) : Prop := u.types.length + u.ae.length + dU u.types + bL u.ae <= 2147483647
def BN (w : World) (u : CUn) (e : Ending) (w' : World) : Prop := ∃ b : Bool, e = .returned (.bool b) /\ Bx ((b = false -> UnK u /\ K2 u) /\ Below w.heap.size w w')
theorem lC {l : List CPg} {k : Nat} (h : k < l.length) : bL (l.take (k + 1)) = bL (l.take k) + l[k].code.length := by
 unfold bL
 rw [List.take_succ_eq_append_getElem h, List.map_append, List.sum_append]
 simp
theorem q9 (w : World) (u : CUn) (pa ta : Option Addr) (pc tc : Nat) (hu : dL w w.heap.size pa pc ta tc u) (hl : UnL u) :
  Calls Tryd.prog 6 #[unV u pa pc ta tc] w (BN w u) := by
 obtain ⟨Q, hQ⟩ : ∃ Q, Q = BN w u := ⟨_, rfl⟩
 obtain ⟨H, hH⟩ : ∃ H, w.heap.size = H := ⟨_, rfl⟩
 have HQ : Bx (∀ e w' (b : Bool), e = .returned (.bool b) -> (b = false -> UnK u /\ K2 u) -> Below w.heap.size w w' -> Q e w') := ⟨fun e w' b h1 h2 h3 => by rw [hQ]; exact ⟨b, h1, ⟨h2, h3⟩⟩⟩
 rw [← hQ]
 clear hQ
 obtain ⟨w1, hw1⟩ : ∃ w1, w.alloc (.cells #[.slice pa u.ae.length pc, .slice ta u.types.length tc] 25) = w1 := ⟨_, rfl⟩
 have b1 : Below w.heap.size w w1 := by rw [← hw1]; exact ak w _
 have q1 : w1.heap[H]? = some (.cells #[.slice pa u.ae.length pc, .slice ta u.types.length tc] 25 (0, 0)) := by rw [← hw1]; exact aj _ _ _ hH
 have hu0 : w1.cell? ⟨H, 0, none⟩ = some (.slice pa u.ae.length pc) := aa q1 rfl
 have hu1 : w1.cell? ⟨H, 1, none⟩ = some (.slice ta u.types.length tc) := aa q1 rfl
 have HPC : Bx (∀ k (hk : k < u.ae.length), _) := ⟨fun k hk => bR hu.ae hk⟩
 have HTC : Bx (∀ k (hk : k < u.types.length), _) := ⟨fun k hk => fq hu.types hk⟩
 have HB1 : Bx (Below w.heap.size w w1) := ⟨b1⟩
 have HL : Bx (UnL u) := ⟨hl⟩
 have hpcap := hu.ae.cap
 have htcap := hu.types.cap
 have hnp := hl.np
 have hnt := hl.nt
 have hs1 := b1.size
 clear hu hl b1 q1
 unfold unV
 go_enter Tryd.func6, Tryd.ntmps6
 go_wp2
 go_loopg [3, 4] (u.types.length + 1) (fun f v3 v4 wr => ∃ i n : Nat, f = u.types.length + 1 - i /\ i <= u.types.length /\ n <= 70368744177664 /\ v3 = .int .i64 n /\ v4 = .int .i64 i /\ Bx (u.types.length + u.ae.length + dU (u.types.take i) <= n) /\ wr = w1)
 case atStart => exact ⟨0, u.types.length + u.ae.length, by simp, Nat.zero_le _, by omega, by simp, rfl, ⟨by simp [dU]⟩, rfl⟩
 case round =>
  obtain ⟨i, n, hf, hi, hn, rfl, rfl, HN, rfl⟩ := hrel
  by_cases hlt : i < u.types.length /\ n <= 2147483647
  ·obtain ⟨hlt, hnm⟩ := hlt
   obtain ⟨b, o, ka, kc, rfl, hb, hks, HC⟩ := HTC.out i hlt
   obtain ⟨c0, c1, c2⟩ := HC.out wr HB1.out
   have hbl : b < wr.heap.size := by omega
   have hiI : (i : Int) < (u.types.length : Int) := by omega
   have hib : decide (i < u.types.length) = true := decide_eq_true hlt
   have hnb : decide ((n : Int) <= 2147483647) = true := decide_eq_true (by omega)
   have hkl := HL.out.kids _ (List.getElem_mem hlt)
   have HN2 : Bx (u.types.length + u.ae.length + dU (u.types.take (i + 1)) <= n + u.types[i].kids.length) := ⟨by rw [uY hlt]; have := HN.out; omega⟩
   have hwr : IntKind.i64.wrap ((n : Int) + (u.types[i].kids.length : Int)) = ((n + u.types[i].kids.length : Nat) : Int) := by rw [IntKind.wrap_i64]; omega
   clear HC HN HTC hks
   generalize u.types[i] = t at *
   generalize t.kids.length = m at *
   go_wp2
   go_roundg (u.types.length + 1 - (i + 1))
   case measure => omega
   case rel => exact ⟨i + 1, n + m, rfl, by omega, by omega, by simp, by simp, HN2, rfl⟩
  ·have HN3 : Bx (u.types.length + u.ae.length + dU u.types + bL (u.ae.take 0) <= n ∨ 2147483647 < n) := ⟨by
    by_cases e : n <= 2147483647
    ·have : i = u.types.length := by omega
     subst this
     have := HN.out
     rw [List.take_length] at this
     exact .inl (by simpa [bL] using this)
    ·exact .inr (by omega)⟩
   clear HN HTC
   rcases (show (decide (i < u.types.length) = false /\ True) ∨ (decide (i < u.types.length) = true /\ decide ((n : Int) <= 2147483647) = false) by
    by_cases e : i < u.types.length
    ·exact .inr ⟨decide_eq_true e, decide_eq_false fun q => hlt ⟨e, by omega⟩⟩
    ·exact .inl ⟨decide_eq_false e, trivial⟩) with ⟨hg1, hg2⟩ | ⟨hg1, hg2⟩
   all_goals
    clear hlt
    go_wp2
    clear hg1 hg2
    obtain ⟨wA, rfl⟩ : ∃ X, X = wr := ⟨_, rfl⟩
    go_loopg [3, 5] (u.ae.length + 1) (fun f v3 v5 wr => ∃ j n : Nat, f = u.ae.length + 1 - j /\ j <= u.ae.length /\ n <= 70368744177664 /\ v3 = .int .i64 n /\ v5 = .int .i64 j /\ Bx (u.types.length + u.ae.length + dU u.types + bL (u.ae.take j) <= n ∨ 2147483647 < n) /\ Bx ((∀ q (h : q < u.ae.length), q < j -> ∀ x ∈ u.ae[q].code, x.list.length <= n) ∨ 2147483647 < n) /\ wr = wA)
    case atStart => exact ⟨0, n, by simp, Nat.zero_le _, hn, rfl, rfl, HN3, ⟨.inl fun q h h0 => by omega⟩, rfl⟩
    case round =>
     clear HN3
     obtain ⟨j, n, hf, hj, hn, rfl, rfl, HN, HP, rfl⟩ := hrel
     by_cases hlt : j < u.ae.length /\ n <= 2147483647
     ·obtain ⟨hlt, hnm⟩ := hlt
      obtain ⟨b, o, ca, cc, rfl, hb, hci, HC⟩ := HPC.out j hlt
      obtain ⟨c0, c1, c2, c3, c4⟩ := HC.out wr HB1.out
      have hbl : b < wr.heap.size := by omega
      have hjI : (j : Int) < (u.ae.length : Int) := by omega
      have hjb : decide (j < u.ae.length) = true := decide_eq_true hlt
      have hnb : decide ((n : Int) <= 2147483647) = true := decide_eq_true (by omega)
      have hcl := HL.out.code _ (List.getElem_mem hlt)
      have HLL : Bx (∀ x ∈ u.ae[j].code, x.list.length <= 17592186044416) := ⟨HL.out.list _ (List.getElem_mem hlt)⟩
      have hccap := hci.cap
      have HIC : Bx (∀ i (hi : i < u.ae[j].code.length), _) := ⟨fun i hi => bF hci hi⟩
      have hwr : IntKind.i64.wrap ((n : Int) + (u.ae[j].code.length : Int)) = ((n + u.ae[j].code.length : Nat) : Int) := by rw [IntKind.wrap_i64]; omega
      obtain ⟨S, hS⟩ : ∃ S, u.types.length + u.ae.length + dU u.types + bL (u.ae.take (j + 1)) = S := ⟨_, rfl⟩
      have HN2 : Bx (S <= n + u.ae[j].code.length ∨ 2147483647 < n + u.ae[j].code.length) := ⟨by rw [← hS, lC hlt]; have := HN.out; omega⟩
      have HP1 : Bx (∀ n', n <= n' -> (∀ x ∈ u.ae[j].code, x.list.length <= n') -> ∀ q (h : q < u.ae.length), q < j + 1 -> ∀ x ∈ u.ae[q].code, x.list.length <= n') := ⟨fun n' hn' hx q h hq x hm => by
       by_cases e : q = j
       ·subst e; exact hx x hm
       ·rcases HP.out with h1 | h1
        ·exact Nat.le_trans (h1 q h (by omega) x hm) hn'
        ·omega⟩
      clear HC HN HPC hci HP
      generalize hpe : u.ae[j] = pg at *
      clear hpe
      go_wp2
      clear hjb hnb c0 c1 c2 c3 hwr
      go_loopg [3, 6] (pg.code.length + 1) (fun f v3 v6 wr' => ∃ i n' : Nat, f = pg.code.length + 1 - i /\ i <= pg.code.length /\ n <= n' /\ n' <= 70368744177664 /\ v3 = .int .i64 n' /\ v6 = .int .i64 i /\ Bx (S <= n' ∨ 2147483647 < n') /\ Bx ((∀ q (h : q < pg.code.length), q < i -> pg.code[q].list.length <= n') ∨ 2147483647 < n') /\ wr' = wr)
      case atStart => exact ⟨0, n + pg.code.length, by simp, Nat.zero_le _, by omega, by omega, by simp, rfl, HN2, ⟨.inl fun q h h0 => by omega⟩, rfl⟩
      case round =>
       clear HN2
       obtain ⟨i, n', hf2, hi, hnn, hn', rfl, rfl, HN, HQ2, rfl⟩ := hrel
       by_cases hlt2 : i < pg.code.length /\ n' <= 2147483647
       ·obtain ⟨hlt2, hnm2⟩ := hlt2
        obtain ⟨b2, o2, ka, kc, rfl, hb2, hks, HC2⟩ := HIC.out i hlt2
        obtain ⟨d0, d1, d2, d3⟩ := HC2.out wr HB1.out
        have hbl2 : b2 < wr.heap.size := by omega
        have hiI : (i : Int) < (pg.code.length : Int) := by omega
        have hib : decide (i < pg.code.length) = true := decide_eq_true hlt2
        have hnb : decide ((n' : Int) <= 2147483647) = true := decide_eq_true (by omega)
        have hll := HLL.out _ (List.getElem_mem hlt2)
        have hwr : IntKind.i64.wrap ((n' : Int) + (pg.code[i].list.length : Int)) = ((n' + pg.code[i].list.length : Nat) : Int) := by rw [IntKind.wrap_i64]; omega
        have HN4 : Bx (S <= n' + pg.code[i].list.length ∨ 2147483647 < n' + pg.code[i].list.length) := ⟨by have := HN.out; omega⟩
        have HQ3 : Bx ((∀ q (h : q < pg.code.length), q < i + 1 -> pg.code[q].list.length <= n' + pg.code[i].list.length) ∨ 2147483647 < n' + pg.code[i].list.length) := ⟨.inl fun q h hq => by
         by_cases e : q = i
         ·subst e; omega
         ·rcases HQ2.out with h1 | h1
          ·have := h1 q h (by omega); omega
          ·omega⟩
        clear HC2 HN HQ2 HIC hks HLL
        generalize pg.code[i].list.length = m at *
        go_wp2
        go_roundg (pg.code.length + 1 - (i + 1))
        case measure => omega
        case rel => exact ⟨i + 1, n' + m, rfl, by omega, by omega, by omega, by simp, by simp, HN4, HQ3, rfl⟩
       ·have HP2 : Bx ((∀ q (h : q < u.ae.length), q < j + 1 -> ∀ x ∈ u.ae[q].code, x.list.length <= n') ∨ 2147483647 < n') := ⟨by
         by_cases e : n' <= 2147483647
         ·have : i = pg.code.length := by omega
          subst this
          refine .inl (HP1.out n' hnn fun x hx => ?_)
          obtain ⟨q, hq, rfl⟩ := List.getElem_of_mem hx
          rcases HQ2.out with h1 | h1
          ·exact h1 q hq hq
          ·omega
         ·exact .inr (by omega)⟩
        clear HIC HLL HP1 HQ2
        have HN5 : Bx (u.types.length + u.ae.length + dU u.types + bL (u.ae.take (j + 1)) <= n' ∨ 2147483647 < n') := ⟨by rw [hS]; exact HN.out⟩
        rcases (show (decide (i < pg.code.length) = false /\ True) ∨ (decide (i < pg.code.length) = true /\ decide ((n' : Int) <= 2147483647) = false) by
         by_cases e : i < pg.code.length
         ·exact .inr ⟨decide_eq_true e, decide_eq_false fun q => hlt2 ⟨e, by omega⟩⟩
         ·exact .inl ⟨decide_eq_false e, trivial⟩) with ⟨hg1, hg2⟩ | ⟨hg1, hg2⟩
        all_goals
         clear hlt2
         go_wp2
         go_roundg (u.ae.length + 1 - (j + 1))
         case measure => omega
         case rel => exact ⟨j + 1, n', rfl, by omega, hn', rfl, by simp, HN5, HP2, rfl⟩
     ·have HF : Bx (decide (2147483647 < (n : Int)) = false -> UnK u /\ K2 u) := ⟨fun hd => by
       have hd3 : ¬ 2147483647 < (n : Int) := of_decide_eq_false hd
       have hd2 : ¬ 2147483647 < n := by omega
       have : j = u.ae.length := by omega
       subst this
       refine ⟨⟨?_, fun p hp x hx => ?_⟩, ?_⟩
       ·have := HN.out; omega
       ·obtain ⟨q, hq, rfl⟩ := List.getElem_of_mem hp
        rcases HP.out with h1 | h1
        ·have := h1 q hq hq x hx; omega
        ·omega
       ·have := HN.out
        rw [List.take_length] at this
        unfold K2
        omega⟩
      rcases (show (decide (j < u.ae.length) = false /\ True) ∨ (decide (j < u.ae.length) = true /\ decide ((n : Int) <= 2147483647) = false) by
       by_cases e : j < u.ae.length
       ·exact .inr ⟨decide_eq_true e, decide_eq_false fun q => hlt ⟨e, by omega⟩⟩
       ·exact .inl ⟨decide_eq_false e, trivial⟩) with ⟨hg1, hg2⟩ | ⟨hg1, hg2⟩
      all_goals
       clear hlt HN HP HPC
       go_wp2
       exact HQ.out _ _ _ rfl HF.out HB1.out
end Go.Proofs.YtadmpgegolmkgaaDoor
