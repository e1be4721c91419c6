import Derived.Test.YtblhklbpcalglaaGreatDoorCRBetw
import Derived.Deep.RegionHeld
namespace Go.Proofs.YtblhklbpcalglaaGreatDoor
open Go.RowKit
set_option linter.unusedVariables false
set_option linter.unusedSimpArgs false
variable {w0 : World} {rb : Nat} {srcV tokV : Value} {TL : List Tok} {xs : List UInt8} {U : Nat → Prop}
def nmB (s : List PTok) : Bool := decide (kd s = 1 ∧ kd (tl s) = 50)
set_option maxRecDepth 100000 in
set_option maxHeartbeats 2000000 in
theorem namesNextS (hT : RT w0 rb srcV tokV TL xs) (hK : Kinds TL) {W : World} {s : List PTok} {ns : List Nd} (h : RSs w0 rb srcV tokV TL xs U W s ns) :
    Calls Tryz.prog 69 #[.pointer (some ⟨rb, 0, none⟩)] W fun e W' => e = .returned (.bool (nmB s)) ∧ Below W.heap.size W W' := by
  have hr := h.lt
  obtain ⟨i, rfl, hi, hS, hni, hU⟩ := h
  have HN : Bx (∀ W', Below W.heap.size W W' → Calls Tryz.prog 33 #[.pointer (some ⟨rb, 0, none⟩)] W' fun e w' => e = .returned (Go.Proofs.YtblhklbpcalglaaGreatDoor.tokV TL[i]) ∧ Below W'.heap.size W' w') := ⟨fun W' hb => rnext_any hT (hS.ext hb) hi⟩
  unfold Go.Proofs.YtblhklbpcalglaaGreatDoor.tokV at HN
  have hf0 := tok_f0
  by_cases h1 : TL[i].kind = 1
  · have hi1 : i + 1 < TL.length := adv hK hi (by omega)
    have hb : nmB (pts xs TL i) = decide (TL[i + 1].kind = 50) := by
      unfold nmB
      rw [pts_tl hi, pts_kd hi, pts_kd hi1]
      simp [h1]
    rw [hb]
    have hTx : Bx (∀ W', Below W.heap.size W W' → Calls Tryz.prog 32 #[.int .i64 (TL[i + 1].kind : Nat)] W' fun e w' => e = .returned (.string ⟨(textK (TL[i + 1].kind : Nat)).toArray⟩) ∧ W' = w') := ⟨fun W' hb => by
      have hl := laid_bel hT.laid hT.low (hS.ext hb).bel
      exact Text_any _ W' hl.words hl.signs⟩
    have heq := text_eqk (hK.ok (i + 1) hi1) 50 (by decide) [61] (by decide)
    have HF : Bx (∀ W', Below W.heap.size W W' → W'.cell? ⟨rb, 1, none⟩ = some tokV ∧ W'.cell? ⟨rb, 2, none⟩ = some (.int .i64 i) ∧ (∃ tb cap, tokV = .slice (some ⟨tb, 0, none⟩) TL.length cap ∧ TL.length ≤ cap ∧ W'.cell? ⟨tb, (i + 1) * 4, none⟩ = some (.int .i64 TL[i + 1].kind)) ∧ rb < W'.heap.size) := ⟨fun W' hb => by
      obtain ⟨nv, h1, h2⟩ := (hS.ext hb).rd
      obtain ⟨c0, c1, c2, c3, hlt⟩ := rd_cells h1
      obtain ⟨tb, cap, e1, e2, e3, e4, _⟩ := hT.tok (hS.ext hb).bel hi1
      exact ⟨c1, c2, ⟨tb, cap, e1, e3, e4⟩, hlt⟩⟩
    obtain ⟨_, _, ⟨tb, cap, htv, hcap, _⟩, _⟩ := HF.out W (Below.refl _ _)
    subst htv
    have hsm := hT.small
    have HFF : Bx (∀ W', Below W.heap.size W W' → W'.cell? ⟨rb, 1, none⟩ = some (.slice (some ⟨tb, 0, none⟩) TL.length cap) ∧ W'.cell? ⟨rb, 2, none⟩ = some (.int .i64 i) ∧ W'.cell? ⟨tb, (i + 1) * 4, none⟩ = some (.int .i64 TL[i + 1].kind) ∧ rb < W'.heap.size ∧ Below W.heap.size W W') := ⟨fun W' hb => by
      obtain ⟨c1, c2, ⟨tb', cap', e1, e3, e4⟩, hlt⟩ := HF.out W' hb
      simp at e1
      obtain ⟨rfl, rfl⟩ := e1
      exact ⟨c1, c2, e4, hlt, hb⟩⟩
    obtain ⟨tx, htx⟩ : ∃ tx, (⟨(textK (TL[i + 1].kind : Nat)).toArray⟩ : ByteArray) = tx := ⟨_, rfl⟩
    rw [htx] at heq hTx
    obtain ⟨k1, hk1⟩ : ∃ k1 : Nat, TL[i + 1].kind = k1 := ⟨_, rfl⟩
    rw [hk1] at heq hTx HFF
    rw [hk1]
    have hk : ((TL[i].kind : Nat) : Int) = 1 := by omega
    rw [hk] at HN
    generalize (TL[i].place : Int) = tp at *
    generalize (TL[i].len : Int) = tln at *
    generalize (TL[i].num : Int) = tnm at *
    have hbr : Below W.heap.size W W := Below.refl _ _
    have hw1 : IntKind.i64.wrap ((i : Int) + 1) = (i : Int) + 1 := by simp [IntKind.wrap, IntKind.bits, IntKind.signed]; omega
    have hb0 : (0 : Int) ≤ (i : Int) + 1 := by omega
    have hb1 : (i : Int) + 1 < (TL.length : Int) := by omega
    clear HF hS hT htx hk1 hb
    go_enter Tryz.func69, Tryz.ntmps69
    go_wp2
    go_region_held (fun w' => w'.cell? ⟨rb, 1, none⟩ = some (.slice (some ⟨tb, 0, none⟩) TL.length cap) ∧ w'.cell? ⟨rb, 2, none⟩ = some (.int .i64 i) ∧ w'.cell? ⟨tb, (i + 1) * 4, none⟩ = some (.int .i64 k1) ∧ rb < w'.heap.size ∧ Below W.heap.size W w')
      (first | exact HFF.out _ z1b | exact HFF.out _ hbr.drew)
      (first | (go_at_call 33; refine Calls.mono (HN.out _ hbr.drew) ?_; rintro e z1 ⟨rfl, hz1⟩; have z1b : Below W.heap.size W z1 := (hbr.drew).trans (hz1.mono (hbr.drew).size)) | (go_at_call 32; refine Calls.mono (hTx.out _ z1b) ?_; rintro e z2 ⟨rfl, rfl⟩))
    have HE : Bx (Below W.heap.size W z1) := ⟨z1b⟩
    go_wp2
    go_ret
    exact ⟨rfl, HE.out⟩
  · have hb : nmB (pts xs TL i) = false := by
      unfold nmB
      rw [pts_kd hi]
      simp [h1]
    rw [hb]
    have hk : (((TL[i].kind : Nat) : Int) == 1) = false := by simp; omega
    obtain ⟨k0, hk0⟩ : ∃ k0 : Int, ((TL[i].kind : Nat) : Int) = k0 := ⟨_, rfl⟩
    rw [hk0] at HN hk
    generalize (TL[i].place : Int) = tp at *
    generalize (TL[i].len : Int) = tln at *
    generalize (TL[i].num : Int) = tnm at *
    have hbr : Below W.heap.size W W := Below.refl _ _
    clear hS hT hb hk0
    go_enter Tryz.func69, Tryz.ntmps69
    go_wp2
    refine wp_region_any (by kernel_rfl) ?_
    try (change wpAny _ _ _ _ _ _ _ (World.drew _))
    refine wpAny_take (i := 0) (v := ?_) rfl (by decide +kernel) (by decide +kernel) (by decide +kernel) (fun _ _ _ h => h) (Or.inl ⟨by rfl, ?_⟩) ?_
    case refine_2 => intro w; go_simp; try rfl
    refine wpAny_ready (rs := [1]) (by decide +kernel) (by simp) ?_
    refine AllReady.cons rfl (fun KK hKK => ?_) AllReady.nil
    go_simp
    go_wp2_with (go_at_call 33; refine Calls.mono (HN.out _ hbr.drew) ?_; rintro e z1 ⟨rfl, hz1⟩; have HE : Bx (Below W.heap.size W z1) := ⟨(hbr.drew).trans (hz1.mono (hbr.drew).size)⟩; clear hz1)
    refine wpAny_take (i := 2) (v := ?_) rfl (by decide +kernel) (by decide +kernel) (by decide +kernel) (fun _ _ _ h => h) (Or.inl ⟨by rfl, ?_⟩) ?_
    case refine_2 => intro w; go_simp; try rfl
    refine wpAny_take (i := 3) (v := .bool false) rfl (by decide +kernel) (by decide +kernel) (by decide +kernel) (fun _ _ _ h => h) (Or.inl ⟨by rfl, ?_⟩) ?_
    · intro w; go_simp; try rfl
    refine wpAny_take (i := 4) (v := ?_) rfl (by decide +kernel) (by decide +kernel) (by decide +kernel) (fun _ _ _ h => h) (Or.inl ⟨by rfl, ?_⟩) ?_
    case refine_2 => intro w; go_simp; try rfl
    first | (refine wpAny_take (i := 5) (v := undef) rfl (by decide +kernel) (by decide +kernel) (by decide +kernel) (fun _ _ _ h => h) (Or.inr ⟨by kernel_rfl, rfl⟩) ?_) | (refine wpAny_ready (rs := [5]) (by decide +kernel) (by simp) ?_; refine AllReady.cons rfl (fun KK hKK => ?_) AllReady.nil; go_simp; refine hKK _ _ ?_; clear hKK KK)
    first | (refine wpAny_take (i := 6) (v := undef) rfl (by decide +kernel) (by decide +kernel) (by decide +kernel) (fun _ _ _ h => h) (Or.inr ⟨by kernel_rfl, rfl⟩) ?_) | (refine wpAny_ready (rs := [6]) (by decide +kernel) (by simp) ?_; refine AllReady.cons rfl (fun KK hKK => ?_) AllReady.nil; go_simp; refine hKK _ _ ?_; clear hKK KK)
    first | (refine wpAny_take (i := 7) (v := undef) rfl (by decide +kernel) (by decide +kernel) (by decide +kernel) (fun _ _ _ h => h) (Or.inr ⟨by kernel_rfl, rfl⟩) ?_) | (refine wpAny_ready (rs := [7]) (by decide +kernel) (by simp) ?_; refine AllReady.cons rfl (fun KK hKK => ?_) AllReady.nil; go_simp; refine hKK _ _ ?_; clear hKK KK)
    first | (refine wpAny_take (i := 8) (v := undef) rfl (by decide +kernel) (by decide +kernel) (by decide +kernel) (fun _ _ _ h => h) (Or.inr ⟨by kernel_rfl, rfl⟩) ?_) | (refine wpAny_ready (rs := [8]) (by decide +kernel) (by simp) ?_; refine AllReady.cons rfl (fun KK hKK => ?_) AllReady.nil; go_simp; refine hKK _ _ ?_; clear hKK KK)
    first | (refine wpAny_take (i := 9) (v := undef) rfl (by decide +kernel) (by decide +kernel) (by decide +kernel) (fun _ _ _ h => h) (Or.inr ⟨by kernel_rfl, rfl⟩) ?_) | (refine wpAny_ready (rs := [9]) (by decide +kernel) (by simp) ?_; refine AllReady.cons rfl (fun KK hKK => ?_) AllReady.nil; go_simp; refine hKK _ _ ?_; clear hKK KK)
    first | (refine wpAny_take (i := 10) (v := undef) rfl (by decide +kernel) (by decide +kernel) (by decide +kernel) (fun _ _ _ h => h) (Or.inr ⟨by kernel_rfl, rfl⟩) ?_) | (refine wpAny_ready (rs := [10]) (by decide +kernel) (by simp) ?_; refine AllReady.cons rfl (fun KK hKK => ?_) AllReady.nil; go_simp; refine hKK _ _ ?_; clear hKK KK)
    first | (refine wpAny_take (i := 11) (v := undef) rfl (by decide +kernel) (by decide +kernel) (by decide +kernel) (fun _ _ _ h => h) (Or.inr ⟨by kernel_rfl, rfl⟩) ?_) | (refine wpAny_ready (rs := [11]) (by decide +kernel) (by simp) ?_; refine AllReady.cons rfl (fun KK hKK => ?_) AllReady.nil; go_simp; refine hKK _ _ ?_; clear hKK KK)
    first | (refine wpAny_take (i := 12) (v := undef) rfl (by decide +kernel) (by decide +kernel) (by decide +kernel) (fun _ _ _ h => h) (Or.inr ⟨by kernel_rfl, rfl⟩) ?_) | (refine wpAny_ready (rs := [12]) (by decide +kernel) (by simp) ?_; refine AllReady.cons rfl (fun KK hKK => ?_) AllReady.nil; go_simp; refine hKK _ _ ?_; clear hKK KK)
    first | (refine wpAny_take (i := 13) (v := undef) rfl (by decide +kernel) (by decide +kernel) (by decide +kernel) (fun _ _ _ h => h) (Or.inr ⟨by kernel_rfl, rfl⟩) ?_) | (refine wpAny_ready (rs := [13]) (by decide +kernel) (by simp) ?_; refine AllReady.cons rfl (fun KK hKK => ?_) AllReady.nil; go_simp; refine hKK _ _ ?_; clear hKK KK)
    first | (refine wpAny_take (i := 14) (v := undef) rfl (by decide +kernel) (by decide +kernel) (by decide +kernel) (fun _ _ _ h => h) (Or.inr ⟨by kernel_rfl, rfl⟩) ?_) | (refine wpAny_ready (rs := [14]) (by decide +kernel) (by simp) ?_; refine AllReady.cons rfl (fun KK hKK => ?_) AllReady.nil; go_simp; refine hKK _ _ ?_; clear hKK KK)
    first | (refine wpAny_take (i := 15) (v := undef) rfl (by decide +kernel) (by decide +kernel) (by decide +kernel) (fun _ _ _ h => h) (Or.inr ⟨by kernel_rfl, rfl⟩) ?_) | (refine wpAny_ready (rs := [15]) (by decide +kernel) (by simp) ?_; refine AllReady.cons rfl (fun KK hKK => ?_) AllReady.nil; go_simp; refine hKK _ _ ?_; clear hKK KK)
    first | (refine wpAny_take (i := 16) (v := undef) rfl (by decide +kernel) (by decide +kernel) (by decide +kernel) (fun _ _ _ h => h) (Or.inr ⟨by kernel_rfl, rfl⟩) ?_) | (refine wpAny_ready (rs := [16]) (by decide +kernel) (by simp) ?_; refine AllReady.cons rfl (fun KK hKK => ?_) AllReady.nil; go_simp; refine hKK _ _ ?_; clear hKK KK)
    first | (refine wpAny_take (i := 17) (v := undef) rfl (by decide +kernel) (by decide +kernel) (by decide +kernel) (fun _ _ _ h => h) (Or.inr ⟨by kernel_rfl, rfl⟩) ?_) | (refine wpAny_ready (rs := [17]) (by decide +kernel) (by simp) ?_; refine AllReady.cons rfl (fun KK hKK => ?_) AllReady.nil; go_simp; refine hKK _ _ ?_; clear hKK KK)
    first | (refine wpAny_take (i := 18) (v := undef) rfl (by decide +kernel) (by decide +kernel) (by decide +kernel) (fun _ _ _ h => h) (Or.inr ⟨by kernel_rfl, rfl⟩) ?_) | (refine wpAny_ready (rs := [18]) (by decide +kernel) (by simp) ?_; refine AllReady.cons rfl (fun KK hKK => ?_) AllReady.nil; go_simp; refine hKK _ _ ?_; clear hKK KK)
    refine wpAny_take (i := 19) (v := .bool false) rfl (by decide +kernel) (by decide +kernel) (by decide +kernel) (fun _ _ _ h => h) (Or.inl ⟨by kernel_rfl, fun w => by kernel_rfl⟩) ?_
    refine wpAny_take (i := 20) (v := .bool false) rfl (by decide +kernel) (by decide +kernel) (by decide +kernel) (fun _ _ _ h => h) (Or.inl ⟨by kernel_rfl, fun w => by kernel_rfl⟩) ?_
    refine wpAny_done (by decide +kernel) ?_ _
    go_wp2
    refine bodyPost_ret (v := .bool false) (by kernel_rfl) rfl ⟨rfl, HE.out⟩
end Go.Proofs.YtblhklbpcalglaaGreatDoor
