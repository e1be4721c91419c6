import Derived.Test.YtpnbjkegpbpcjaaDoorCUDg
import Derived.Test.YtpnbjkegpbpcjaaDoorCUPc
namespace Go.Proofs.YtpnbjkegpbpcjaaDoor
open Go.RowKit
set_option linter.unusedVariables false
set_option linter.unusedSimpArgs false

theorem fit_no {p : Pk} (h : fitK p = false) : p.kind < 1 ∨ 4 < p.kind ∨ ((1 ≤ p.kind ∧ p.kind ≤ 4 ∧ p.kind ≠ 2) ∧ p.v ≠ 0) ∨ (p.kind = 4 ∧ p.v = 0 ∧ p.n ≠ 0) := by
  by_cases h1 : p.kind < 1
  · exact Or.inl h1
  · by_cases h2 : 4 < p.kind
    · exact Or.inr (Or.inl h2)
    · right; right
      have hk : p.kind = 1 ∨ p.kind = 2 ∨ p.kind = 3 ∨ p.kind = 4 := by omega
      unfold fitK at h
      have e1 : decide (1 ≤ p.kind) = true := by simp; omega
      have e2 : decide (p.kind ≤ 4) = true := by simp; omega
      rw [e1, e2] at h
      simp only [Bool.true_and] at h
      rcases hk with e | e | e | e
      · rw [e] at h
        left
        refine ⟨by omega, fun hv => ?_⟩
        simp [shapeI, shapesT, hv] at h
      · rw [e] at h
        simp [shapeI, shapesT] at h
      · rw [e] at h
        left
        refine ⟨by omega, fun hv => ?_⟩
        simp [shapeI, shapesT, hv] at h
      · by_cases hv : p.v = 0
        · right
          refine ⟨e, hv, fun hn => ?_⟩
          rw [e] at h
          simp [shapeI, shapesT, hv, hn] at h
        · left
          exact ⟨by omega, hv⟩
theorem fit_yes {p : Pk} (h : fitK p = true) : (p.kind = 1 ∧ p.v = 0) ∨ p.kind = 2 ∨ (p.kind = 3 ∧ p.v = 0) ∨ (p.kind = 4 ∧ p.v = 0 ∧ p.n = 0) := by
  obtain ⟨hk, hz⟩ := fit_parts h
  rcases kind_cases hk with e | e | e | e
  · rw [e] at hz
    exact Or.inl ⟨e, hz p.v (by simp [shapeI, shapesT])⟩
  · exact Or.inr (Or.inl e)
  · rw [e] at hz
    exact Or.inr (Or.inr (Or.inl ⟨e, hz p.v (by simp [shapeI, shapesT])⟩))
  · rw [e] at hz
    exact Or.inr (Or.inr (Or.inr ⟨e, hz p.v (by simp [shapeI, shapesT]), hz p.n (by simp [shapeI, shapesT])⟩))
theorem ba_cat (a b : List UInt8) : ((⟨a.toArray⟩ : ByteArray) ++ ⟨b.toArray⟩) = ⟨(a ++ b).toArray⟩ := by
  have := cat_str a b
  injection this
set_option maxRecDepth 100000 in
set_option maxHeartbeats 8000000 in
theorem rPrint_any (w : World) (s : Sc) (hw : s.Wf) (pa : Option Addr) (pc : Nat) (hp : PkV w w.heap.size pa s.picks) :
    Calls Tryd.prog 14 #[scV s.lim s.reap (.slice pa s.picks.length pc)] w fun e w' => e = .returned (.tuple #[strV (writeS s).1, .int .i64 (writeS s).2]) ∧ Bx (Below w.heap.size w w') := by
  obtain ⟨m, rp, ps⟩ := s
  simp only at hp ⊢
  obtain ⟨w0, hw0⟩ : ∃ w0, w0 = w.alloc (.cells #[.int .i64 m.a, .int .i64 m.b, .int .i64 m.c, .int .i64 m.d, .int .i64 m.e, .int .i64 m.f, .int .i64 m.g, .bool rp, .slice pa ps.length pc] 31) := ⟨_, rfl⟩
  have hb0 : Below w.heap.size w w0 := by rw [hw0]; exact below1 w _
  have hs0 : w0.heap.size = w.heap.size + 1 := by rw [hw0]; simp
  have hsb : w0.heap[w.heap.size]? = some (.cells #[.int .i64 m.a, .int .i64 m.b, .int .i64 m.c, .int .i64 m.d, .int .i64 m.e, .int .i64 m.f, .int .i64 m.g, .bool rp, .slice pa ps.length pc] 31 (0, 0)) := by rw [hw0]; exact heap_newH _ _ _ rfl
  have hmax := hp.max
  unfold maxLen at hmax
  have HPV : Bx (∀ W, Below w0.heap.size w0 W → PkV W W.heap.size pa ps ∧ Below w.heap.size w W ∧ W.cell? ⟨w.heap.size, 7, none⟩ = some (.bool rp) ∧ W.cell? ⟨w.heap.size, 8, none⟩ = some (.slice pa ps.length pc)) := ⟨fun W h => by
    have hbw := hb0.trans (h.mono hb0.size)
    have e := below_heap h hsb
    exact ⟨(hp.below hbw).up hbw.size, hbw, cell_blk e rfl, cell_blk e rfl⟩⟩
  obtain ⟨d0, d1, d2, d3, d4, d5, d6, d7, d8⟩ := cells9 hsb
  by_cases hmany : ps.length ≤ 4096
  · have hdec : decide ((4096 : Int) < (ps.length : Int)) = false := by simp; omega
    obtain ⟨w1, hw1⟩ : ∃ w1, w1 = (w0.alloc (.cells #[.int .i64 m.a, .int .i64 m.b, .int .i64 m.c, .int .i64 m.d, .int .i64 m.e, .int .i64 m.f, .int .i64 m.g] 28)).alloc (.cells #[.int .i64 m.a, .int .i64 m.b, .int .i64 m.c, .int .i64 m.d, .int .i64 m.e, .int .i64 m.f, .int .i64 m.g] 3) := ⟨_, rfl⟩
    have hb1 : Below w0.heap.size w0 w1 := by rw [hw1]; exact (below1 w0 _).alloc (by simp) _
    have hs1 : w1.heap.size = w.heap.size + 3 := by rw [hw1]; simp; omega
    have hib : w1.heap[w.heap.size + 2]? = some (.cells #[.int .i64 m.a, .int .i64 m.b, .int .i64 m.c, .int .i64 m.d, .int .i64 m.e, .int .i64 m.f, .int .i64 m.g] 3 (0, 0)) := by rw [hw1]; exact heap_newH _ _ _ (by simp; omega)
    have HIB : Bx (∀ W (j : Nat) (h : j < (lmL m).length), Below w1.heap.size w1 W → W.cell? ⟨w.heap.size + 1 + 1, j, none⟩ = some (.int .i64 (lmL m)[j])) := ⟨fun W j h hb => by
      refine cell_blk (below_heap hb hib) ?_
      have h7 : j < 7 := h
      match j, h7 with
      | 0, _ => rfl
      | 1, _ => rfl
      | 2, _ => rfl
      | 3, _ => rfl
      | 4, _ => rfl
      | 5, _ => rfl
      | 6, _ => rfl⟩
    have hl7 : (lmL m).length = 7 := rfl
    have HLW : Bx (∀ k ∈ lmL m, I64 k) := ⟨hw.lim⟩
    have HWP : Bx (∀ p ∈ ps, p.Wf) := ⟨hw.picks⟩
    have HNL : Bx (∀ j, j ≤ 7 → (numsT ((lmL m).take j)).length ≤ 147) := ⟨fun j hj => by
      have := nums_le (ks := (lmL m).take j) fun x hx => hw.lim x (List.mem_of_mem_take hx)
      rw [List.length_take] at this
      omega⟩
    have hhl : (headT ⟨m, rp, ps⟩).length ≤ 200 := head_len hw
    have HB1 : Bx (∀ W, Below w1.heap.size w1 W → Below w0.heap.size w0 W) := ⟨fun W h => hb1.trans (h.mono hb1.size)⟩
    have HE0 : Bx (_ = w0) := ⟨hw0.symm⟩
    have HE1 : Bx (_ = w1) := ⟨hw1.symm⟩
    have HY : Bx ((∀ i (h : i < ps.length), fitK ps[i] = true) → writeS ⟨m, rp, ps⟩ = (textS ⟨m, rp, ps⟩, 0)) := ⟨fun h => writeS_fit (by
      unfold fitS
      simp only [Bool.and_eq_true, decide_eq_true_eq, List.all_eq_true]
      refine ⟨hmany, fun p hp => ?_⟩
      obtain ⟨i, hi, rfl⟩ := List.getElem_of_mem hp
      exact h i hi)⟩
    have HN : Bx (∀ k (h : k < ps.length), fitK ps[k] = false → writeS ⟨m, rp, ps⟩ = ([], 171)) := ⟨fun k h hf => by
      unfold writeS
      rw [if_pos hmany, if_neg (by rw [all_no h hf]; decide)]⟩
    obtain ⟨R1, hR1⟩ : ∃ R, R = (writeS ⟨m, rp, ps⟩).1 := ⟨_, rfl⟩
    obtain ⟨R2, hR2⟩ : ∃ R, R = (writeS ⟨m, rp, ps⟩).2 := ⟨_, rfl⟩
    have HR : Bx (R1 = (writeS ⟨m, rp, ps⟩).1 ∧ R2 = (writeS ⟨m, rp, ps⟩).2) := ⟨hR1, hR2⟩
    rw [← hR1, ← hR2]
    rw [hw0] at d0 d1 d2 d3 d4 d5 d6 d7 d8
    clear hR1 hR2 hw hp hb0 hb1 hib hsb hw0 hw1
    go_enter Tryd.func14, Tryd.ntmps14
    go_wp2
    rw [HE0.out, HE1.out]
    clear d0 d1 d2 d3 d4 d5 d6 d7 d8 HE0 HE1
    go_loopw [7, 6] (fun x y wr => ∃ j : Nat, j ≤ 7 ∧ x = .int .i64 j ∧ y = strV (limitsW ++ numsT ((lmL m).take j)) ∧ Bx (Below w1.heap.size w1 wr)) (fun x _ _ => 7 - (intOf x).toNat)
    case atStart => exact ⟨0, by omega, rfl, rfl, ⟨Below.refl _ _⟩⟩
    case round =>
      obtain ⟨j, hj, rfl, rfl, HB⟩ := hrel
      by_cases hlt : j < 7
      · have hjl : j < (lmL m).length := hlt
        have ci := HIB.out wr j hjl HB.out
        have hx64 := HLW.out _ (List.getElem_mem hjl)
        have HT : Bx (limitsW ++ numsT ((lmL m).take (j + 1)) = limitsW ++ numsT ((lmL m).take j) ++ [32] ++ Lib.itoa (lmL m)[j]) := ⟨by rw [nums_take hjl]; simp⟩
        have hil := itoa_len hx64
        have hOl : (limitsW ++ numsT ((lmL m).take j)).length ≤ 153 := by
          have := HNL.out j hj
          have e : limitsW.length = 6 := rfl
          rw [List.length_append]
          omega
        have HD : Bx (Calls Tryd.prog 22 #[.int .i64 (lmL m)[j]] wr fun e w' => e = .returned (strV (Lib.itoa (lmL m)[j])) ∧ Bx (Below w1.heap.size w1 w')) := ⟨(Digits_any _ hx64 wr).mono fun e w' h => ⟨h.1, ⟨HB.out.trans (h.2.mono HB.out.size)⟩⟩⟩
        obtain ⟨O, hO⟩ : ∃ O, O = limitsW ++ numsT ((lmL m).take j) := ⟨_, rfl⟩
        rw [← hO] at HT hOl ⊢
        obtain ⟨I, hI⟩ : ∃ I, I = Lib.itoa (lmL m)[j] := ⟨_, rfl⟩
        rw [← hI] at HT hil HD
        generalize (lmL m)[j] = xv at *
        have hc1 : ¬ 9223372036854775807 < O.length + 1 := by omega
        have hc2 : ¬ 9223372036854775807 < O.length + 1 + I.length := by omega
        clear HIB HLW HNL HY HN HR HPV HWP hI hO hx64
        go_wp2_with (go_at_call 22; refine HD.out.mono ?_; rintro e w5 ⟨rfl, H5⟩)
        go_roundw
        case rel => exact ⟨j + 1, by omega, by go_num, by rw [HT.out]; simp only [ba_cat], H5⟩
        case measure => simp [intOf]; omega
      · have : j = 7 := by omega
        subst this
        rw [show ((7 : Nat) : Int) = 7 from rfl]
        obtain ⟨wA, hwA⟩ : ∃ X, X = wr := ⟨_, rfl⟩
        have HBA : Bx (Below w1.heap.size w1 wA) := ⟨by rw [hwA]; exact HB.out⟩
        rw [← hwA]
        clear hwA HB
        obtain ⟨w2, hw2⟩ : ∃ X, X = wA.alloc (.cells #[strV [], strV [115, 116, 101, 112], strV [105, 110], strV [111, 117, 116], strV [112, 114, 111, 98, 101]] 9) := ⟨_, rfl⟩
        have hb2 : Below wA.heap.size wA w2 := by rw [hw2]; exact below1 _ _
        have hn2 : w2.heap[wA.heap.size]? = some (.cells #[strV [], strV [115, 116, 101, 112], strV [105, 110], strV [111, 117, 116], strV [112, 114, 111, 98, 101]] 9 (0, 0)) := by rw [hw2]; exact heap_newH _ _ _ rfl
        have HB2 : Bx (∀ W, Below w2.heap.size w2 W → Below w0.heap.size w0 W ∧ W.heap[wA.heap.size]? = some (.cells #[strV [], strV [115, 116, 101, 112], strV [105, 110], strV [111, 117, 116], strV [112, 114, 111, 98, 101]] 9 (0, 0))) := ⟨fun W h => ⟨HB1.out W (HBA.out.trans ((hb2.trans (h.mono hb2.size)).mono HBA.out.size)), below_heap h hn2⟩⟩
        obtain ⟨_, _, g7, g8⟩ := HPV.out wA (HB1.out wA HBA.out)
        have HE2 : Bx (_ = w2) := ⟨hw2.symm⟩
        have h147 := HNL.out 7 (by omega)
        have e77 : (lmL m).take 7 = lmL m := rfl
        rw [e77] at h147 ⊢
        clear hb2 hn2 hw2 HIB HLW HNL HB1 HBA
        have hc0 : (limitsW ++ numsT (lmL m)).length ≤ 153 := by
          have e : limitsW.length = 6 := rfl
          rw [List.length_append]
          omega
        have hcat : ∀ q : Bool, Value.string ((⟨(limitsW ++ numsT (lmL m)).toArray⟩ : ByteArray) ++ ⟨#[10]⟩ ++ (if q then ⟨#[114, 101, 97, 112, 10]⟩ else ⟨#[107, 101, 101, 112, 10]⟩)) = strV (headT ⟨m, q, ps⟩) := fun q => by
          cases q
          · simp only [Bool.false_eq_true, if_false, ba_cat]
            show Value.string _ = Value.string _
            congr 1
          · simp only [if_true, ba_cat]
            show Value.string _ = Value.string _
            congr 1
        generalize limitsW ++ numsT (lmL m) = O at *
        have hcA : ¬ 9223372036854775807 < O.length + 1 := by omega
        have hcB : ¬ 9223372036854775807 < O.length + 1 + 5 := by omega
        have hcC : ¬ 9223372036854775807 < O.length + 6 := by omega
        obtain ⟨T0, hT0⟩ : ∃ T, T = headT ⟨m, rp, ps⟩ := ⟨_, rfl⟩
        have hcR := hcat rp
        rw [← hT0] at hcR hhl
        have HTX : Bx ((∀ i (h : i < ps.length), fitK ps[i] = true) → R1 = T0 ++ ps.flatMap pickT ∧ R2 = 0) := ⟨fun h => by rw [HR.out.1, HR.out.2, HY.out h, hT0]; exact ⟨rfl, rfl⟩⟩
        have HNX : Bx (∀ k (h : k < ps.length), fitK ps[k] = false → R1 = [] ∧ R2 = 171) := ⟨fun k h hf => by rw [HR.out.1, HR.out.2, HN.out k h hf]; exact ⟨rfl, rfl⟩⟩
        clear hcat HR HY HN hT0
        cases rp
        all_goals
          simp only [Bool.false_eq_true, if_false, if_true] at hcR
          have HC : Bx _ := ⟨hcR⟩
          clear hcR
          go_wp2
          rw [HE2.out, HC.out]
          clear HC HE2 g7 g8 h147 hcA hcB hcC hc0
          go_loopw [9, 6] (fun x y wr => ∃ k : Nat, k ≤ ps.length ∧ x = .int .i64 k ∧ y = strV (T0 ++ (ps.take k).flatMap pickT) ∧ Bx (Below w2.heap.size w2 wr ∧ ∀ i (h : i < k) (h2 : i < ps.length), fitK ps[i] = true)) (fun x _ _ => ps.length - (intOf x).toNat)
          case atStart => exact ⟨0, Nat.zero_le _, rfl, by rw [List.take_zero, List.flatMap_nil, List.append_nil], ⟨Below.refl _ _, fun i h => absurd h (by omega)⟩⟩
          case round =>
            obtain ⟨k, hk, rfl, rfl, HS⟩ := hrel
            obtain ⟨hpv, hbw, f7, f8⟩ := HPV.out wr (HB2.out wr HS.out.1).1
            by_cases hlt : k < ps.length
            · obtain ⟨b, o, rfl, _, hc⟩ := hpv.at_ (by omega)
              obtain ⟨k0, k1, k2⟩ := hc k hlt
              have hwf := HWP.out _ (List.getElem_mem hlt)
              have HBW : Bx (∀ o, Below w.heap.size w (wr.alloc o)) := ⟨fun o => hbw.alloc hbw.size o⟩
              cases hf : fitK ps[k]
              · have HX : Bx (R1 = [] ∧ R2 = 171) := ⟨HNX.out k hlt hf⟩
                have hbad := fit_no hf
                clear hc HS HPV HB2 HTX HNX HWP hpv hbw f7 hwf
                generalize ps[k].kind = qk at *
                generalize ps[k].n = qn at *
                generalize ps[k].v = qv at *
                obtain ⟨h1, h2⟩ := HX.out
                subst h1 h2
                rcases hbad with hb | hb | ⟨⟨hb1, hb2, hb3⟩, hb4⟩ | ⟨rfl, rfl, hb3⟩
                · go_wp2
                  go_ret2
                  exact ⟨rfl, ⟨HBW.out _⟩⟩
                · have hb5 : ¬ qk < 1 := by omega
                  go_wp2
                  go_ret2
                  exact ⟨rfl, ⟨HBW.out _⟩⟩
                · have hb5 : ¬ qk < 1 := by omega
                  have hb6 : ¬ 4 < qk := by omega
                  go_wp2
                  go_ret2
                  exact ⟨rfl, ⟨HBW.out _⟩⟩
                · go_wp2
                  go_ret2
                  exact ⟨rfl, ⟨HBW.out _⟩⟩
              · have HT : Bx (T0 ++ (ps.take (k + 1)).flatMap pickT = T0 ++ (ps.take k).flatMap pickT ++ pickT ps[k]) := ⟨by rw [flat_take hlt, List.append_assoc]⟩
                have hOl : (T0 ++ (ps.take k).flatMap pickT).length ≤ 200000 := by
                  have h1 := picks_len (ps := ps.take k) fun p hp => HWP.out p (List.mem_of_mem_take hp)
                  rw [List.length_take] at h1
                  rw [List.length_append]
                  omega
                have HFT : Bx (∀ i (h : i < k + 1) (h2 : i < ps.length), fitK ps[i] = true) := ⟨fun i h h2 => by
                  by_cases e : i < k
                  · exact HS.out.2 i e h2
                  · have : i = k := by omega
                    subst this
                    exact hf⟩
                have hgood := fit_yes hf
                have hwn := hwf.n
                have hwv := hwf.v
                obtain ⟨hb2w, hn2w⟩ := HB2.out _ (HS.out.1.alloc HS.out.1.size (.cells #[.int .i64 ps[k].kind, .int .i64 ps[k].n, .int .i64 ps[k].v] 39))
                have HBX : Bx (Below w2.heap.size w2 (wr.alloc (.cells #[.int .i64 ps[k].kind, .int .i64 ps[k].n, .int .i64 ps[k].v] 39))) := ⟨HS.out.1.alloc HS.out.1.size _⟩
                have m1 : (wr.alloc (.cells #[.int .i64 ps[k].kind, .int .i64 ps[k].n, .int .i64 ps[k].v] 39)).cell? ⟨wA.heap.size, 1, none⟩ = some (strV [115, 116, 101, 112]) := cell_blk hn2w rfl
                have m2 : (wr.alloc (.cells #[.int .i64 ps[k].kind, .int .i64 ps[k].n, .int .i64 ps[k].v] 39)).cell? ⟨wA.heap.size, 2, none⟩ = some (strV [105, 110]) := cell_blk hn2w rfl
                have m3 : (wr.alloc (.cells #[.int .i64 ps[k].kind, .int .i64 ps[k].n, .int .i64 ps[k].v] 39)).cell? ⟨wA.heap.size, 3, none⟩ = some (strV [111, 117, 116]) := cell_blk hn2w rfl
                have m4 : (wr.alloc (.cells #[.int .i64 ps[k].kind, .int .i64 ps[k].n, .int .i64 ps[k].v] 39)).cell? ⟨wA.heap.size, 4, none⟩ = some (strV [112, 114, 111, 98, 101]) := cell_blk hn2w rfl
                have HDG : Bx (∀ (q : Int) W, I64 q → Below w2.heap.size w2 W → wr.heap.size < W.heap.size → Calls Tryd.prog 22 #[.int .i64 q] W fun e w' => e = .returned (strV (Lib.itoa q)) ∧ Bx (Below w2.heap.size w2 w') ∧ w'.cell? ⟨wr.heap.size, 0, none⟩ = W.cell? ⟨wr.heap.size, 0, none⟩ ∧ w'.cell? ⟨wr.heap.size, 2, none⟩ = W.cell? ⟨wr.heap.size, 2, none⟩) := ⟨fun q W hq hb hl => (Digits_any q hq W).mono fun e w' h => ⟨h.1, ⟨hb.trans (h.2.mono hb.size)⟩, h.2.cell (p := ⟨wr.heap.size, 0, none⟩) hl, h.2.cell (p := ⟨wr.heap.size, 2, none⟩) hl⟩⟩
                generalize hpk : ps[k] = pk at *
                obtain ⟨qk, qn, qv⟩ := pk
                simp only at k0 k1 k2 hgood hwn hwv m1 m2 m3 m4 HBX
                generalize hO : T0 ++ (ps.take k).flatMap pickT = O at *
                clear hc HS HPV HB2 HTX HNX HWP hpv hbw f7 hwf hf hb2w hn2w hpk hhl hO
                rcases hgood with ⟨rfl, rfl⟩ | rfl | ⟨rfl, rfl⟩ | ⟨rfl, rfl, rfl⟩
                · have HT2 : Bx (T0 ++ (ps.take (k + 1)).flatMap pickT = O ++ [115, 116, 101, 112] ++ [32] ++ Lib.itoa qn ++ [10]) := ⟨by rw [HT.out]; simp [pickT, lineT, pickN, shapeI, shapesT, numsT]⟩
                  have hil := itoa_len hwn
                  have q0 : ¬ 9223372036854775807 < O.length + 4 := by omega
                  have q1 : ¬ 9223372036854775807 < O.length + 4 + 1 := by omega
                  have q2 : ¬ 9223372036854775807 < O.length + 5 := by omega
                  have q3 : ¬ 9223372036854775807 < O.length + 4 + 1 + (Lib.itoa qn).length := by omega
                  have q4 : ¬ 9223372036854775807 < O.length + 4 + 1 + (Lib.itoa qn).length + 1 := by omega
                  have q5 : ¬ 9223372036854775807 < O.length + 5 + (Lib.itoa qn).length := by omega
                  have q6 : ¬ 9223372036854775807 < O.length + 5 + (Lib.itoa qn).length + 1 := by omega
                  have HD1 : Bx _ := ⟨HDG.out qn _ hwn HBX.out (by simp)⟩
                  clear HT HDG hwn hwv
                  generalize Lib.itoa qn = In at *
                  go_wp2_with (first
                    | (go_at_call 22; refine HD1.out.mono ?_; rintro e w5 ⟨rfl, H5, y0, y2⟩; simp at y0 y2; clear HD1))
                  go_roundw
                  case rel => exact ⟨k + 1, by omega, by go_num, by rw [HT2.out]; simp only [ba_cat], ⟨H5.out, HFT.out⟩⟩
                  case measure => simp [intOf]; omega
                · have HT2 : Bx (T0 ++ (ps.take (k + 1)).flatMap pickT = O ++ [105, 110] ++ [32] ++ Lib.itoa qn ++ [32] ++ Lib.itoa qv ++ [10]) := ⟨by rw [HT.out]; simp [pickT, lineT, pickN, shapeI, shapesT, numsT]⟩
                  have hil := itoa_len hwn
                  have hjl := itoa_len hwv
                  have q0 : ¬ 9223372036854775807 < O.length + 2 := by omega
                  have q1 : ¬ 9223372036854775807 < O.length + 2 + 1 := by omega
                  have q2 : ¬ 9223372036854775807 < O.length + 3 := by omega
                  have q3 : ¬ 9223372036854775807 < O.length + 2 + 1 + (Lib.itoa qn).length := by omega
                  have q4 : ¬ 9223372036854775807 < O.length + 2 + 1 + (Lib.itoa qn).length + 1 := by omega
                  have q5 : ¬ 9223372036854775807 < O.length + 2 + 1 + (Lib.itoa qn).length + 1 + (Lib.itoa qv).length := by omega
                  have q6 : ¬ 9223372036854775807 < O.length + 2 + 1 + (Lib.itoa qn).length + 1 + (Lib.itoa qv).length + 1 := by omega
                  have q7 : ¬ 9223372036854775807 < O.length + 3 + (Lib.itoa qn).length := by omega
                  have q8 : ¬ 9223372036854775807 < O.length + 3 + (Lib.itoa qn).length + 1 := by omega
                  have q9 : ¬ 9223372036854775807 < O.length + 3 + (Lib.itoa qn).length + 1 + (Lib.itoa qv).length := by omega
                  have q10 : ¬ 9223372036854775807 < O.length + 3 + (Lib.itoa qn).length + 1 + (Lib.itoa qv).length + 1 := by omega
                  have HD1 : Bx _ := ⟨HDG.out qn _ hwn HBX.out (by simp)⟩
                  have HW2 : Bx (I64 qv) := ⟨hwv⟩
                  clear HT hwn hwv
                  generalize Lib.itoa qn = In at *
                  obtain ⟨Iv, hIv⟩ : ∃ I, I = Lib.itoa qv := ⟨_, rfl⟩
                  have HDV := Bx.mk (HDG.out qv)
                  rw [← hIv] at HT2 HDV hjl q5 q6 q9 q10
                  clear hIv HDG
                  go_wp2_with (first
                    | (go_at_call 22; refine (HDV.out w5 HW2.out H5.out hsz5).mono ?_; rintro e w6 ⟨rfl, H6, z0, z2⟩)
                    | (go_at_call 22; refine HD1.out.mono ?_; rintro e w5 ⟨rfl, H5, y0, y2⟩; simp at y0 y2; have hsz5 : wr.heap.size < w5.heap.size := World.block_lt_of_cell? w5 ⟨wr.heap.size, 0, none⟩ y0; clear HD1))
                  go_roundw
                  case rel => exact ⟨k + 1, by omega, by go_num, by rw [HT2.out]; simp only [ba_cat], ⟨H6.out, HFT.out⟩⟩
                  case measure => simp [intOf]; omega
                · have HT2 : Bx (T0 ++ (ps.take (k + 1)).flatMap pickT = O ++ [111, 117, 116] ++ [32] ++ Lib.itoa qn ++ [10]) := ⟨by rw [HT.out]; simp [pickT, lineT, pickN, shapeI, shapesT, numsT]⟩
                  have hil := itoa_len hwn
                  have q0 : ¬ 9223372036854775807 < O.length + 3 := by omega
                  have q1 : ¬ 9223372036854775807 < O.length + 3 + 1 := by omega
                  have q2 : ¬ 9223372036854775807 < O.length + 4 := by omega
                  have q3 : ¬ 9223372036854775807 < O.length + 3 + 1 + (Lib.itoa qn).length := by omega
                  have q4 : ¬ 9223372036854775807 < O.length + 3 + 1 + (Lib.itoa qn).length + 1 := by omega
                  have q5 : ¬ 9223372036854775807 < O.length + 4 + (Lib.itoa qn).length := by omega
                  have q6 : ¬ 9223372036854775807 < O.length + 4 + (Lib.itoa qn).length + 1 := by omega
                  have HD1 : Bx _ := ⟨HDG.out qn _ hwn HBX.out (by simp)⟩
                  clear HT HDG hwn hwv
                  generalize Lib.itoa qn = In at *
                  go_wp2_with (first
                    | (go_at_call 22; refine HD1.out.mono ?_; rintro e w5 ⟨rfl, H5, y0, y2⟩; simp at y0 y2; clear HD1))
                  go_roundw
                  case rel => exact ⟨k + 1, by omega, by go_num, by rw [HT2.out]; simp only [ba_cat], ⟨H5.out, HFT.out⟩⟩
                  case measure => simp [intOf]; omega
                · have HT2 : Bx (T0 ++ (ps.take (k + 1)).flatMap pickT = O ++ [112, 114, 111, 98, 101] ++ [10]) := ⟨by rw [HT.out]; simp [pickT, lineT, pickN, shapeI, shapesT, numsT]⟩
                  have q0 : ¬ 9223372036854775807 < O.length + 5 := by omega
                  have q1 : ¬ 9223372036854775807 < O.length + 5 + 1 := by omega
                  have q2 : ¬ 9223372036854775807 < O.length + 6 := by omega
                  clear HT HDG hwn hwv
                  go_wp2
                  go_roundw
                  case rel => exact ⟨k + 1, by omega, by go_num, by rw [HT2.out]; simp only [ba_cat], ⟨HBX.out, HFT.out⟩⟩
                  case measure => simp [intOf]; omega
            · have hke : k = ps.length := by omega
              subst hke
              have HF : Bx (R1 = T0 ++ ps.flatMap pickT ∧ R2 = 0) := ⟨HTX.out fun i h => HS.out.2 i h h⟩
              have HBW : Bx _ := ⟨hbw⟩
              clear HS HPV HB2 HTX HNX HWP hpv hbw f7
              go_wp2
              go_ret2
              exact ⟨by rw [HF.out.1, HF.out.2, List.take_of_length_le (Nat.le_refl _)]; rfl, HBW⟩
  · have hm2 : (4096 : Int) < (ps.length : Int) := by omega
    have HB : Bx _ := ⟨hb0⟩
    have e : writeS ⟨m, rp, ps⟩ = ([], 172) := by unfold writeS; rw [if_neg hmany]
    rw [e]
    clear hp hw hsb HPV
    simp only []
    go_enter Tryd.func14, Tryd.ntmps14
    go_wp2
    go_ret2
    exact ⟨rfl, by rw [← hw0]; exact HB⟩
end Go.Proofs.YtpnbjkegpbpcjaaDoor
