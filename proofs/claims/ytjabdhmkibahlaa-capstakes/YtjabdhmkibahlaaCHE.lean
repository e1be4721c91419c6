import Derived.Test.YtjabdhmkibahlaaCHA
namespace Go.Proofs.Ytjabdhmkibahlaa
open Go.RowKit
set_option linter.unusedVariables false
set_option linter.unusedSimpArgs false

def hd5 : Array Value := #[.int .i64 (-5), .bool false]
def ag6 : Array Value := #[.int .i64 (-6), .bool false, .slice none 0 0, .slice none 0 0]
theorem wpList_put2 {ops : Array Oper} {rest : List Oper} {op : Oper} {a : Act} {w W8 : World} {Q : Exit → Act → World → Prop} (hgd : op.guard = none) (x y : Operand) (ho : op.op = .store 58 x y) (b o : Nat) (hx : a.eval x = .pointer (some ⟨b, o, none⟩)) (hy : a.eval y = .agg hd5) (ht : w.there b o 2) (hW : w.setCells b o hd5.toList = W8)
    (h : wpList Try.prog ops Q rest (a.put op.dst undef) W8) : wpList Try.prog ops Q (op :: rest) a w := by
  subst hW
  exact wpList_store_mid hgd 58 x y ho b o hd5 hx hy ht (by kernel_rfl) (by simp [hd5, Value.oneCell']) h
theorem wpList_put4 {ops : Array Oper} {rest : List Oper} {op : Oper} {a : Act} {w W8 : World} {Q : Exit → Act → World → Prop} (hgd : op.guard = none) (x y : Operand) (ho : op.op = .store 53 x y) (b o : Nat) (hx : a.eval x = .pointer (some ⟨b, o, none⟩)) (hy : a.eval y = .agg ag6) (ht : w.there b o 4) (hW : w.setCells b o ag6.toList = W8)
    (h : wpList Try.prog ops Q rest (a.put op.dst undef) W8) : wpList Try.prog ops Q (op :: rest) a w := by
  subst hW
  exact wpList_store_mid hgd 53 x y ho b o ag6 hx hy ht (by kernel_rfl) (by simp [ag6, Value.oneCell']) h
set_option maxRecDepth 100000 in
set_option maxHeartbeats 4000000 in
/-- wipe: what is lent alone is turned -/
theorem wipe_any (W0 W : World) (B : Nat) (s : List Ag) (va vm vh : Value) (gs : List Gh) (h0 : Lent W0 B s va vm vh gs) (hB : B ≤ W0.heap.size) (hb0 : Below W0.heap.size W0 W) (hs : s.length ≤ 2147483647) (hll : ∀ i (h : i < s.length), s[i].arms.length ≤ 2147483647 ∧ s[i].held.length ≤ 2147483647) :
    Calls Try.prog 17 #[.agg #[va, vm, vh]] W fun e w' => e = .returned (.tuple #[]) ∧ Below B W w' ∧ ∀ y, W0.heap.size ≤ y → y < W.heap.size → w'.heap[y]? = W.heap[y]? := by
  obtain ⟨X, hX⟩ : ∃ X, W.heap.size = X := ⟨_, rfl⟩
  obtain ⟨E, hE⟩ : ∃ E, W0.heap.size = E := ⟨_, rfl⟩
  have hz := hb0.size
  rw [hE] at hb0 hB
  have hgl := h0.len
  have h : Lent W B s va vm vh gs := h0.on fun y _ hy => hb0.block y (by omega)
  obtain ⟨am, cm, hvm⟩ := owns_slice h.arms
  obtain ⟨ah, chh, hvh⟩ := owns_slice h.held
  have hga : ∃ ga ca, va = .slice (some ⟨ga, 0, none⟩) (s.length + 1) ca ∧ s.length + 1 ≤ ca ∧ ca ≤ maxLen := by
    rcases h.all.2 with ⟨_, q⟩ | ⟨g, cap, cur, q, _, _, q3, q4, _⟩
    · omega
    · exact ⟨g, cap, q, q3, q4⟩
  obtain ⟨ga, ca, hva, hca, hcm⟩ := hga
  subst hva
  subst hvm
  subst hvh
  unfold maxLen at hcm
  have hall := Czb.of h.all
  have hgE : ga < E := by rw [← hE]; exact (owns_block h0.all rfl).2
  have hcmx : s.length ≤ cm ∧ s.length ≤ chh := by
    constructor
    · rcases h.arms.2 with ⟨q, q2⟩ | ⟨g, cap, cur, q, _, _, q3, q4, _⟩
      · omega
      · simp only [Value.slice.injEq] at q; omega
    · rcases h.held.2 with ⟨q, q2⟩ | ⟨g, cap, cur, q, _, _, q3, q4, _⟩
      · omega
      · simp only [Value.slice.injEq] at q; omega
  obtain ⟨hcm1, hcm2⟩ := hcmx
  obtain ⟨va, hva⟩ : ∃ v : Value, v = .slice (some ⟨ga, 0, none⟩) (s.length + 1) ca := ⟨_, rfl⟩
  have HS : Bx (Wp W (W.alloc (lnX (.slice (some ⟨ga, 0, none⟩) (s.length + 1) ca) (.slice am s.length cm) (.slice ah s.length chh))) B E X ga s (.slice (some ⟨ga, 0, none⟩) (s.length + 1) ca) (.slice am s.length cm) (.slice ah s.length chh) gs) := by
    have hs : ∀ y, B ≤ y → y < W.heap.size → (W.alloc (lnX (.slice (some ⟨ga, 0, none⟩) (s.length + 1) ca) (.slice am s.length cm) (.slice ah s.length chh))).heap[y]? = W.heap[y]? := fun y _ hy => Below.heap_alloc _ _ _ hy
    have hcz : ∀ {t g n}, Czb W t g n → Czb (W.alloc (lnX (.slice (some ⟨ga, 0, none⟩) (s.length + 1) ca) (.slice am s.length cm) (.slice ah s.length chh))) t g n := fun {t g n} ⟨cur, q1, q2⟩ => ⟨cur, by rw [Below.heap_alloc _ _ _ (heap_lt q1)]; exact q1, q2⟩
    refine ⟨⟨(below1 W _).mono (by omega), fun y _ hy => Below.heap_alloc _ _ _ hy, heap_newH _ _ _ hX, owns_same h.arms hs, owns_same h.held hs, fun i h1 h2 => ?_, fun i h1 h2 => ?_, hcz hall.1, hall.2, hgE⟩⟩
    · have := Czb.of (h.two i h1 h2).arms
      exact ⟨hcz this.1, this.2, by rw [← hE]; exact (h0.two i h1 h2).lt.1.2⟩
    · have := Czb.of (h.two i h1 h2).held
      rw [Nat.mul_one] at this
      exact ⟨hcz this.1, this.2, by rw [← hE]; exact (h0.two i h1 h2).lt.2.2⟩
  have HLL : Bx (∀ i (h : i < s.length), s[i].arms.length ≤ 2147483647 ∧ s[i].held.length ≤ 2147483647) := ⟨hll⟩
  rw [hE, hX]
  clear h hall hll h0 hb0 hva va hgE
  go_enter Try.func17, Try.ntmps17
  go_wp2
  go_loopw [2] (fun x wr => ∃ (i : Nat), i ≤ s.length ∧ x = .int .i64 i ∧ Bx (Wp W wr B E X ga s (.slice (some ⟨ga, 0, none⟩) (s.length + 1) ca) (.slice am s.length cm) (.slice ah s.length chh) gs)) (fun x _ => s.length - (intOf x).toNat)
  case atStart => exact ⟨0, Nat.zero_le _, rfl, HS⟩
  case round =>
    obtain ⟨i, hi, rfl, HI⟩ := hrel
    clear HS
    obtain ⟨x0, x1, x2⟩ := HI.out.cells
    by_cases hlt : i < s.length
    · have hgi : i < gs.length := by omega
      obtain ⟨gm, hgm, _, hcA⟩ := row_at HI.out.arms hlt (amC_at hlt hgi)
      obtain ⟨gh, hgh, _, hcH⟩ := row_at HI.out.held hlt (hlC_at hlt hgi)
      subst hgm
      subst hgh
      have hii : Bx (∀ wx, Wp W wx B E X ga s (.slice (some ⟨ga, 0, none⟩) (s.length + 1) ca) (.slice (some ⟨gm, 0, none⟩) s.length cm) (.slice (some ⟨gh, 0, none⟩) s.length chh) gs → ((Czb wx 58 gs[i].1.1 ((s[i].arms.length + 1) * 2) ∧ B ≤ gs[i].1.1 ∧ gs[i].1.1 < E) ∧ wx.cell? ⟨gm, i, none⟩ = some (.slice (some ⟨gs[i].1.1, 0, none⟩) (s[i].arms.length + 1) gs[i].1.2)) ∧ (Czb wx 3 gs[i].2.1 (s[i].held.length + 1) ∧ B ≤ gs[i].2.1 ∧ gs[i].2.1 < E) ∧ wx.cell? ⟨gh, i, none⟩ = some (.slice (some ⟨gs[i].2.1, 0, none⟩) (s[i].held.length + 1) gs[i].2.2)) := ⟨fun wx hx => by
        obtain ⟨gm', e, _, h1⟩ := row_at hx.arms hlt (amC_at hlt hgi)
        obtain ⟨gh', e', _, h2⟩ := row_at hx.held hlt (hlC_at hlt hgi)
        simp only [Option.some.injEq, Addr.mk.injEq] at e e'
        rw [← e.1] at h1
        rw [← e'.1] at h2
        exact ⟨⟨hx.am i hlt hgi, h1⟩, hx.hl i hlt hgi, h2⟩⟩
      have hle := HLL.out i hlt
      have hiI : (i : Int) < (s.length : Int) := by omega
      generalize gs[i].1.1 = g at *
      generalize gs[i].1.2 = c at *
      generalize gs[i].2.1 = g2 at *
      generalize gs[i].2.2 = c2 at *
      generalize s[i].arms.length = n at *
      generalize s[i].held.length = m at *
      obtain ⟨hn1, hm1⟩ := hle
      go_wp2
      go_loopw [3] (fun x wx => ∃ (k : Nat), k ≤ n + 1 ∧ x = .int .i64 k ∧ Bx (Wp W wx B E X ga s (.slice (some ⟨ga, 0, none⟩) (s.length + 1) ca) (.slice (some ⟨gm, 0, none⟩) s.length cm) (.slice (some ⟨gh, 0, none⟩) s.length chh) gs)) (fun x _ => n + 1 - (intOf x).toNat)
      case atStart => exact ⟨0, Nat.zero_le _, rfl, HI⟩
      case round =>
        obtain ⟨k, hk, rfl, HK⟩ := hrel
        clear HI x0 x1 x2 hcA hcH
        obtain ⟨x0, x1, x2⟩ := HK.out.cells
        obtain ⟨⟨⟨hcz, hgB, hgE⟩, hcA⟩, _⟩ := hii.out _ HK.out
        by_cases hkl : k < n + 1
        · obtain ⟨W8, hW8⟩ : ∃ W8, wr.setCells g (k * 2) hd5.toList = W8 := ⟨_, rfl⟩
          have ht : wr.there g (k * 2) 2 := hcz.there (by omega)
          have HN : Bx _ := ⟨Wp.sets hgB hgE (by decide) (by decide) (by decide) hd5.toList (k * 2) _ hcz HK.out⟩
          rw [hW8] at HN
          have hkI : (k : Int) < (n : Int) + 1 := by omega
          clear HK hcz
          go_wp2_with (refine wpList_put2 rfl (.tmp 30) (.tmp 29) rfl g (k * 2) rfl rfl ht hW8 ?_)
          go_roundw
          case rel => exact ⟨k + 1, hkl, by go_num, HN⟩
          case measure => simp [intOf]; omega
        · have hke : k = n + 1 := by omega
          subst hke
          have hkI : ¬ (((n + 1 : Nat)) : Int) < (n : Int) + 1 := by omega
          clear hcz
          go_wp2
          go_loopw [4] (fun x wx => ∃ (k : Nat), k ≤ m + 1 ∧ x = .int .i64 k ∧ Bx (Wp W wx B E X ga s (.slice (some ⟨ga, 0, none⟩) (s.length + 1) ca) (.slice (some ⟨gm, 0, none⟩) s.length cm) (.slice (some ⟨gh, 0, none⟩) s.length chh) gs)) (fun x _ => m + 1 - (intOf x).toNat)
          case atStart => exact ⟨0, Nat.zero_le _, rfl, HK⟩
          case round =>
            obtain ⟨k, hk, rfl, HJ⟩ := hrel
            clear HK x0 x1 x2 hcA hgB hgE
            obtain ⟨x0, x1, x2⟩ := HJ.out.cells
            obtain ⟨_, ⟨hcz, hgB, hgE⟩, hcH⟩ := hii.out _ HJ.out
            by_cases hkl : k < m + 1
            · obtain ⟨⟨xv, hxv⟩, hfz⟩ := hcz.at_ hkl
              have HN : Bx _ := ⟨HJ.out.set hcz hgB hgE (by decide) (by decide) (by decide) k (.int .i64 (-5))⟩
              have hkI2 : (k : Int) < (m : Int) + 1 := by omega
              clear HJ hcz
              go_wp2
              go_roundw
              case rel => exact ⟨k + 1, hkl, by go_num, HN⟩
              case measure => simp [intOf]; omega
            · have hke : k = m + 1 := by omega
              subst hke
              have hkI2 : ¬ (((m + 1 : Nat)) : Int) < (m : Int) + 1 := by omega
              clear hcz
              go_wp2
              go_roundw
              case rel => exact ⟨i + 1, hlt, by go_num, HJ⟩
              case measure => simp [intOf]; omega
    · have hie : i = s.length := by omega
      subst hie
      go_wp2
      go_loopw [5] (fun x wx => ∃ (k : Nat), k ≤ s.length + 1 ∧ x = .int .i64 k ∧ Bx (Wp W wx B E X ga s (.slice (some ⟨ga, 0, none⟩) (s.length + 1) ca) (.slice am s.length cm) (.slice ah s.length chh) gs)) (fun x _ => s.length + 1 - (intOf x).toNat)
      case atStart => exact ⟨0, Nat.zero_le _, rfl, HI⟩
      case round =>
        obtain ⟨k, hk, rfl, HK⟩ := hrel
        clear HI x0 x1 x2
        obtain ⟨x0, x1, x2⟩ := HK.out.cells
        by_cases hkl : k < s.length + 1
        · obtain ⟨hcz, hgB, hgE⟩ := HK.out.all
          have ht : wr.there ga (k * 4) 4 := hcz.there (by omega)
          obtain ⟨W8, hW8⟩ : ∃ W8, wr.setCells ga (k * 4) ag6.toList = W8 := ⟨_, rfl⟩
          have HN : Bx _ := ⟨Wp.sets hgB hgE (by decide) (by decide) (by decide) ag6.toList (k * 4) _ hcz HK.out⟩
          rw [hW8] at HN
          have hkI : (k : Int) < (s.length : Int) + 1 := by omega
          clear hcz HK
          go_wp2_with (refine wpList_put4 rfl (.tmp 59) (.tmp 58) rfl ga (k * 4) rfl rfl ht hW8 ?_)
          go_roundw
          case rel => exact ⟨k + 1, hkl, by go_num, HN⟩
          case measure => simp [intOf]; omega
        · have hke : k = s.length + 1 := by omega
          subst hke
          have hkI : ¬ (((s.length + 1 : Nat)) : Int) < (s.length : Int) + 1 := by omega
          have HB : Bx (Below B W wr ∧ ∀ y, E ≤ y → y < W.heap.size → wr.heap[y]? = W.heap[y]?) := ⟨HK.out.bel, HK.out.far⟩
          clear HK
          go_wp2
          (try simp only [Exit.inBlock, Exit.then])
          refine bodyPost_end (results_none rfl _ _ _) rfl ?_
          exact ⟨rfl, HB.out.1, fun y h1 h2 => HB.out.2 y h1 (by omega)⟩
end Go.Proofs.Ytjabdhmkibahlaa
