import Derived.Test.YtblhklbpcalglaaGreatDoorCTabs
namespace Go.Proofs.YtblhklbpcalglaaGreatDoor
open Go.RowKit
set_option linter.unusedVariables false
set_option linter.unusedSimpArgs false
theorem below_bytes (w : World) (t : ByteArray) : Below w.heap.size w (Lib.bytesWorld w 5 t) :=
  ⟨rfl, rfl, rfl, by rw [Lib.bytesWorld_size]; omega, fun k hk => Lib.bytesWorld_at_old w 5 t k hk⟩
theorem Atoi_ok (l : List UInt8) (w : World) (hl : l.length ≤ 9223372036854775806) (hne : l ≠ []) (hd : allDig l = true) (hv : numVal l < 9223372036854775808) :
    Calls Tryz.prog 30 #[.string ⟨l.toArray⟩] w fun e w' => e = .returned (.tuple #[.int .i64 (numVal l), .nilIface]) ∧ Below w.heap.size w w' := by
  refine (Tryz.strconv_Atoi_ok ⟨l.toArray⟩ (by simpa [ByteArray.size] using hl) (numVal l) (atoi_ok l hne hd hv) w).mono ?_
  rintro e w' ⟨h1, h2⟩
  refine ⟨h1, ?_⟩
  rcases h2 with rfl | ⟨t, rfl⟩
  · exact Below.refl _ _
  · exact below_bytes w t
theorem Atoi_range (l : List UInt8) (w : World) (hl : l.length ≤ 281474976710656) (hne : l ≠ []) (hd : allDig l = true) (hv : ¬ numVal l < 9223372036854775808) (te : TypeId) (pe : Value) (hc : w.cell? ⟨3, 0, none⟩ = some (.iface te pe)) :
    Calls Tryz.prog 30 #[.string ⟨l.toArray⟩] w fun e w' => ∃ n N, e = .returned (.tuple #[.int .i64 n, .iface 70 (.pointer (some ⟨N, 0, none⟩))]) ∧ Below w.heap.size w w' := by
  refine (Tryz.strconv_Atoi_range ⟨l.toArray⟩ (by simpa [ByteArray.size] using hl) (atoi_range l hne hd hv) _ w hc (.inr ⟨te, pe, rfl⟩)).mono ?_
  rintro e w' ⟨N, h1, _, _, h2⟩
  exact ⟨_, N, h1, h2⟩
theorem bcell {W w1 : World} (hb : Below W.heap.size W w1) : (∀ b o, b < W.heap.size → w1.cell? ⟨b, o, none⟩ = W.cell? ⟨b, o, none⟩) ∧ (∀ b o, b < W.heap.size → w1.frozen? ⟨b, o, none⟩ = W.frozen? ⟨b, o, none⟩) :=
  ⟨fun b o h => hb.cell (p := ⟨b, o, none⟩) h, fun b o h => hb.frozen (p := ⟨b, o, none⟩) h⟩
theorem cut_len (xs : List UInt8) (k e : Nat) (h : e ≤ xs.length) : (cut xs k e).length = e - k := by
  unfold cut; simp; omega
theorem cut_dig (xs : List UInt8) (k : Nat) : allDig (cut xs k (spanTo digI xs k)) = true := by
  unfold cut spanTo
  rw [Nat.add_sub_cancel_left]
  exact allDig_span _
set_option maxHeartbeats 2000000 in
theorem number_ws (b o cap : Nat) (xs : List UInt8) (k E : Nat) (w : World) (c0 : Int) (hc0 : w.cell? ⟨b, o + k, none⟩ = some (.int .u8 c0)) (hb : b < w.heap.size) (hl : xs.length ≤ maxLen) (hk : k < E) (hE : E ≤ xs.length) (hcap : xs.length ≤ cap)
    (HS : Hid (∀ o', Calls Tryz.prog 16 #[.slice (some ⟨b, o, none⟩) xs.length cap, .int .i64 k, .func (.func 20) #[] #[]] (w.alloc o') fun e w' => e = .returned (.int .i64 E) ∧ w.alloc o' = w'))
    (cE : Int) (hlt : E < xs.length) (hcE : w.cell? ⟨b, o + E, none⟩ = some (.int .u8 cE)) (hws : wsI cE = true) :
    Calls Tryz.prog 21 #[.slice (some ⟨b, o, none⟩) xs.length cap, .int .i64 k] w fun e w' => e = .returned (.tuple #[tokV tok0, .int .i64 12]) ∧ Below w.heap.size w w' := by
  unfold maxLen at hl
  go_enter Tryz.func21, Tryz.ntmps21
  go_wp2_with (first | (go_at_call 16; refine Calls.mono (HS.out _) ?_; rintro e w' ⟨rfl, rfl⟩) | (go_at_call 18; refine (isWordStart_any _ _).mono ?_; rintro e w' ⟨rfl, rfl⟩))
  refine bodyPost_ret (v := .tuple #[tokV tok0, .int .i64 12]) (by simp [results, Tryz.results21, go_sem, tokV, tok0]) rfl ⟨rfl, ?_⟩
  exact (Below.refl _ _).alloc (Nat.le_refl _) _
set_option maxHeartbeats 2000000 in
theorem number_zero (b o cap : Nat) (xs : List UInt8) (k E : Nat) (w : World) (c0 : Int) (hc0 : w.cell? ⟨b, o + k, none⟩ = some (.int .u8 c0)) (hb : b < w.heap.size) (hl : xs.length ≤ maxLen) (hk : k < E) (hE : E ≤ xs.length) (hcap : xs.length ≤ cap)
    (HS : Hid (∀ o', Calls Tryz.prog 16 #[.slice (some ⟨b, o, none⟩) xs.length cap, .int .i64 k, .func (.func 20) #[] #[]] (w.alloc o') fun e w' => e = .returned (.int .i64 E) ∧ w.alloc o' = w'))
    (hG : xs.length ≤ E ∨ ∃ cE, E < xs.length ∧ w.cell? ⟨b, o + E, none⟩ = some (.int .u8 cE) ∧ wsI cE = false)
    (hz : (c0 == 48) = true) (h1 : 1 < E - k) :
    Calls Tryz.prog 21 #[.slice (some ⟨b, o, none⟩) xs.length cap, .int .i64 k] w fun e w' => e = .returned (.tuple #[tokV tok0, .int .i64 12]) ∧ Below w.heap.size w w' := by
  unfold maxLen at hl
  have hg : (1 : Int) < (E : Int) - (k : Int) := by omega
  rcases hG with hG | ⟨cE, hlt, hcE, hws⟩
  · have hx : ¬ (E : Int) < (xs.length : Int) := by omega
    go_enter Tryz.func21, Tryz.ntmps21
    go_wp2_with (first | (go_at_call 16; refine Calls.mono (HS.out _) ?_; rintro e w' ⟨rfl, rfl⟩) | (go_at_call 18; refine (isWordStart_any _ _).mono ?_; rintro e w' ⟨rfl, rfl⟩))
    refine bodyPost_ret (v := .tuple #[tokV tok0, .int .i64 12]) (by simp [results, Tryz.results21, go_sem, tokV, tok0]) rfl ⟨rfl, ?_⟩
    exact (Below.refl _ _).alloc (Nat.le_refl _) _
  · go_enter Tryz.func21, Tryz.ntmps21
    go_wp2_with (first | (go_at_call 16; refine Calls.mono (HS.out _) ?_; rintro e w' ⟨rfl, rfl⟩) | (go_at_call 18; refine (isWordStart_any _ _).mono ?_; rintro e w' ⟨rfl, rfl⟩))
    refine bodyPost_ret (v := .tuple #[tokV tok0, .int .i64 12]) (by simp [results, Tryz.results21, go_sem, tokV, tok0]) rfl ⟨rfl, ?_⟩
    exact (Below.refl _ _).alloc (Nat.le_refl _) _
set_option maxHeartbeats 2000000 in
theorem number_ok (b o cap : Nat) (xs : List UInt8) (k E : Nat) (w : World) (c0 : Int) (hc0 : w.cell? ⟨b, o + k, none⟩ = some (.int .u8 c0)) (hb : b < w.heap.size) (hl : xs.length ≤ maxLen) (hk : k < E) (hE : E ≤ xs.length) (hcap : xs.length ≤ cap)
    (HS : Hid (∀ o', Calls Tryz.prog 16 #[.slice (some ⟨b, o, none⟩) xs.length cap, .int .i64 k, .func (.func 20) #[] #[]] (w.alloc o') fun e w' => e = .returned (.int .i64 E) ∧ w.alloc o' = w'))
    (hcv : ∀ o', (convert 22 9 (.slice (some ⟨b, o + k, none⟩) (E - k) (cap - k))).run Tryz.prog (w.alloc o') = .ok (.string ⟨(cut xs k E).toArray⟩) (w.alloc o'))
    (v : Nat) (HA : Hid (∀ o', Calls Tryz.prog 30 #[.string ⟨(cut xs k E).toArray⟩] (w.alloc o') fun e w' => e = .returned (.tuple #[.int .i64 v, .nilIface]) ∧ Below (w.alloc o').heap.size (w.alloc o') w'))
    (hG : xs.length ≤ E ∨ ∃ cE, E < xs.length ∧ w.cell? ⟨b, o + E, none⟩ = some (.int .u8 cE) ∧ wsI cE = false)
    (hZ : (c0 == 48) = false ∨ (c0 == 48) = true ∧ E - k ≤ 1) :
    Calls Tryz.prog 21 #[.slice (some ⟨b, o, none⟩) xs.length cap, .int .i64 k] w fun e w' => e = .returned (.tuple #[tokV ⟨2, k, E - k, v⟩, .int .i64 0]) ∧ Below w.heap.size w w' := by
  have hsl := fun o' => Lib.run_slice_window (P := Tryz.prog) (w.alloc o') 22 5 Tryz.underlying22 sizeOf5 b o xs.length cap k E hk (by omega)
  unfold maxLen at hl
  have hsub : ((E - k : Nat) : Int) = (E : Int) - (k : Int) := by omega
  have HU : Hid _ := hsub
  clear hsub
  rcases hG with hG | ⟨cE, hlt, hcE, hws⟩ <;> rcases hZ with hz | ⟨hz, h1⟩
  · have hx : ¬ (E : Int) < (xs.length : Int) := by omega
    go_enter Tryz.func21, Tryz.ntmps21
    go_wp2_with (first | (go_at_call 16; refine Calls.mono (HS.out _) ?_; rintro e w' ⟨rfl, rfl⟩) | (go_at_call 18; refine (isWordStart_any _ _).mono ?_; rintro e w' ⟨rfl, rfl⟩) | (go_at_call 30; refine Calls.mono (HA.out _) ?_; rintro e w1 ⟨rfl, hb1⟩; obtain ⟨hcc, hff⟩ := bcell hb1; have hsz : w.heap.size < w1.heap.size := (by have := hb1.size; simp at this; omega)))
    refine bodyPost_ret (v := .tuple #[tokV ⟨2, k, E - k, v⟩, .int .i64 0]) (by simp [results, Tryz.results21, go_sem, tokV, HU.out, hcc, hsz]) rfl ⟨rfl, ?_⟩
    exact ((((((Below.refl _ _).alloc (Nat.le_refl _) _).trans (hb1.mono (by simp))).setCell (Nat.le_refl _) _).setCell (Nat.le_refl _) _).setCell (Nat.le_refl _) _).setCell (Nat.le_refl _) _
  · have hx : ¬ (E : Int) < (xs.length : Int) := by omega
    have hg : ¬ (1 : Int) < (E : Int) - (k : Int) := by omega
    go_enter Tryz.func21, Tryz.ntmps21
    go_wp2_with (first | (go_at_call 16; refine Calls.mono (HS.out _) ?_; rintro e w' ⟨rfl, rfl⟩) | (go_at_call 18; refine (isWordStart_any _ _).mono ?_; rintro e w' ⟨rfl, rfl⟩) | (go_at_call 30; refine Calls.mono (HA.out _) ?_; rintro e w1 ⟨rfl, hb1⟩; obtain ⟨hcc, hff⟩ := bcell hb1; have hsz : w.heap.size < w1.heap.size := (by have := hb1.size; simp at this; omega)))
    refine bodyPost_ret (v := .tuple #[tokV ⟨2, k, E - k, v⟩, .int .i64 0]) (by simp [results, Tryz.results21, go_sem, tokV, HU.out, hcc, hsz]) rfl ⟨rfl, ?_⟩
    exact ((((((Below.refl _ _).alloc (Nat.le_refl _) _).trans (hb1.mono (by simp))).setCell (Nat.le_refl _) _).setCell (Nat.le_refl _) _).setCell (Nat.le_refl _) _).setCell (Nat.le_refl _) _
  · go_enter Tryz.func21, Tryz.ntmps21
    go_wp2_with (first | (go_at_call 16; refine Calls.mono (HS.out _) ?_; rintro e w' ⟨rfl, rfl⟩) | (go_at_call 18; refine (isWordStart_any _ _).mono ?_; rintro e w' ⟨rfl, rfl⟩) | (go_at_call 30; refine Calls.mono (HA.out _) ?_; rintro e w1 ⟨rfl, hb1⟩; obtain ⟨hcc, hff⟩ := bcell hb1; have hsz : w.heap.size < w1.heap.size := (by have := hb1.size; simp at this; omega)))
    refine bodyPost_ret (v := .tuple #[tokV ⟨2, k, E - k, v⟩, .int .i64 0]) (by simp [results, Tryz.results21, go_sem, tokV, HU.out, hcc, hsz]) rfl ⟨rfl, ?_⟩
    exact ((((((Below.refl _ _).alloc (Nat.le_refl _) _).trans (hb1.mono (by simp))).setCell (Nat.le_refl _) _).setCell (Nat.le_refl _) _).setCell (Nat.le_refl _) _).setCell (Nat.le_refl _) _
  · have hg : ¬ (1 : Int) < (E : Int) - (k : Int) := by omega
    go_enter Tryz.func21, Tryz.ntmps21
    go_wp2_with (first | (go_at_call 16; refine Calls.mono (HS.out _) ?_; rintro e w' ⟨rfl, rfl⟩) | (go_at_call 18; refine (isWordStart_any _ _).mono ?_; rintro e w' ⟨rfl, rfl⟩) | (go_at_call 30; refine Calls.mono (HA.out _) ?_; rintro e w1 ⟨rfl, hb1⟩; obtain ⟨hcc, hff⟩ := bcell hb1; have hsz : w.heap.size < w1.heap.size := (by have := hb1.size; simp at this; omega)))
    refine bodyPost_ret (v := .tuple #[tokV ⟨2, k, E - k, v⟩, .int .i64 0]) (by simp [results, Tryz.results21, go_sem, tokV, HU.out, hcc, hsz]) rfl ⟨rfl, ?_⟩
    exact ((((((Below.refl _ _).alloc (Nat.le_refl _) _).trans (hb1.mono (by simp))).setCell (Nat.le_refl _) _).setCell (Nat.le_refl _) _).setCell (Nat.le_refl _) _).setCell (Nat.le_refl _) _
set_option maxHeartbeats 2000000 in
theorem number_range (b o cap : Nat) (xs : List UInt8) (k E : Nat) (w : World) (c0 : Int) (hc0 : w.cell? ⟨b, o + k, none⟩ = some (.int .u8 c0)) (hb : b < w.heap.size) (hl : xs.length ≤ maxLen) (hk : k < E) (hE : E ≤ xs.length) (hcap : xs.length ≤ cap)
    (HS : Hid (∀ o', Calls Tryz.prog 16 #[.slice (some ⟨b, o, none⟩) xs.length cap, .int .i64 k, .func (.func 20) #[] #[]] (w.alloc o') fun e w' => e = .returned (.int .i64 E) ∧ w.alloc o' = w'))
    (hcv : ∀ o', (convert 22 9 (.slice (some ⟨b, o + k, none⟩) (E - k) (cap - k))).run Tryz.prog (w.alloc o') = .ok (.string ⟨(cut xs k E).toArray⟩) (w.alloc o'))
    (HA : Hid (∀ o', Calls Tryz.prog 30 #[.string ⟨(cut xs k E).toArray⟩] (w.alloc o') fun e w' => ∃ n N, e = .returned (.tuple #[.int .i64 n, .iface 70 (.pointer (some ⟨N, 0, none⟩))]) ∧ Below (w.alloc o').heap.size (w.alloc o') w'))
    (hG : xs.length ≤ E ∨ ∃ cE, E < xs.length ∧ w.cell? ⟨b, o + E, none⟩ = some (.int .u8 cE) ∧ wsI cE = false)
    (hZ : (c0 == 48) = false ∨ (c0 == 48) = true ∧ E - k ≤ 1) :
    Calls Tryz.prog 21 #[.slice (some ⟨b, o, none⟩) xs.length cap, .int .i64 k] w fun e w' => e = .returned (.tuple #[tokV tok0, .int .i64 12]) ∧ Below w.heap.size w w' := by
  have hsl := fun o' => Lib.run_slice_window (P := Tryz.prog) (w.alloc o') 22 5 Tryz.underlying22 sizeOf5 b o xs.length cap k E hk (by omega)
  unfold maxLen at hl
  have hsub : ((E - k : Nat) : Int) = (E : Int) - (k : Int) := by omega
  have HU : Hid _ := hsub
  clear hsub
  rcases hG with hG | ⟨cE, hlt, hcE, hws⟩ <;> rcases hZ with hz | ⟨hz, h1⟩
  · have hx : ¬ (E : Int) < (xs.length : Int) := by omega
    go_enter Tryz.func21, Tryz.ntmps21
    go_wp2_with (first | (go_at_call 16; refine Calls.mono (HS.out _) ?_; rintro e w' ⟨rfl, rfl⟩) | (go_at_call 18; refine (isWordStart_any _ _).mono ?_; rintro e w' ⟨rfl, rfl⟩) | (go_at_call 30; refine Calls.mono (HA.out _) ?_; rintro e w1 ⟨n, N, rfl, hb1⟩; obtain ⟨hcc, hff⟩ := bcell hb1; have hsz : w.heap.size < w1.heap.size := (by have := hb1.size; simp at this; omega)))
    refine bodyPost_ret (v := .tuple #[tokV tok0, .int .i64 12]) (by simp [results, Tryz.results21, go_sem, tokV, tok0, hcc, hsz]) rfl ⟨rfl, ?_⟩
    exact ((((((Below.refl _ _).alloc (Nat.le_refl _) _).trans (hb1.mono (by simp))).setCell (Nat.le_refl _) _).setCell (Nat.le_refl _) _).setCell (Nat.le_refl _) _).setCell (Nat.le_refl _) _
  · have hx : ¬ (E : Int) < (xs.length : Int) := by omega
    have hg : ¬ (1 : Int) < (E : Int) - (k : Int) := by omega
    go_enter Tryz.func21, Tryz.ntmps21
    go_wp2_with (first | (go_at_call 16; refine Calls.mono (HS.out _) ?_; rintro e w' ⟨rfl, rfl⟩) | (go_at_call 18; refine (isWordStart_any _ _).mono ?_; rintro e w' ⟨rfl, rfl⟩) | (go_at_call 30; refine Calls.mono (HA.out _) ?_; rintro e w1 ⟨n, N, rfl, hb1⟩; obtain ⟨hcc, hff⟩ := bcell hb1; have hsz : w.heap.size < w1.heap.size := (by have := hb1.size; simp at this; omega)))
    refine bodyPost_ret (v := .tuple #[tokV tok0, .int .i64 12]) (by simp [results, Tryz.results21, go_sem, tokV, tok0, hcc, hsz]) rfl ⟨rfl, ?_⟩
    exact ((((((Below.refl _ _).alloc (Nat.le_refl _) _).trans (hb1.mono (by simp))).setCell (Nat.le_refl _) _).setCell (Nat.le_refl _) _).setCell (Nat.le_refl _) _).setCell (Nat.le_refl _) _
  · go_enter Tryz.func21, Tryz.ntmps21
    go_wp2_with (first | (go_at_call 16; refine Calls.mono (HS.out _) ?_; rintro e w' ⟨rfl, rfl⟩) | (go_at_call 18; refine (isWordStart_any _ _).mono ?_; rintro e w' ⟨rfl, rfl⟩) | (go_at_call 30; refine Calls.mono (HA.out _) ?_; rintro e w1 ⟨n, N, rfl, hb1⟩; obtain ⟨hcc, hff⟩ := bcell hb1; have hsz : w.heap.size < w1.heap.size := (by have := hb1.size; simp at this; omega)))
    refine bodyPost_ret (v := .tuple #[tokV tok0, .int .i64 12]) (by simp [results, Tryz.results21, go_sem, tokV, tok0, hcc, hsz]) rfl ⟨rfl, ?_⟩
    exact ((((((Below.refl _ _).alloc (Nat.le_refl _) _).trans (hb1.mono (by simp))).setCell (Nat.le_refl _) _).setCell (Nat.le_refl _) _).setCell (Nat.le_refl _) _).setCell (Nat.le_refl _) _
  · have hg : ¬ (1 : Int) < (E : Int) - (k : Int) := by omega
    go_enter Tryz.func21, Tryz.ntmps21
    go_wp2_with (first | (go_at_call 16; refine Calls.mono (HS.out _) ?_; rintro e w' ⟨rfl, rfl⟩) | (go_at_call 18; refine (isWordStart_any _ _).mono ?_; rintro e w' ⟨rfl, rfl⟩) | (go_at_call 30; refine Calls.mono (HA.out _) ?_; rintro e w1 ⟨n, N, rfl, hb1⟩; obtain ⟨hcc, hff⟩ := bcell hb1; have hsz : w.heap.size < w1.heap.size := (by have := hb1.size; simp at this; omega)))
    refine bodyPost_ret (v := .tuple #[tokV tok0, .int .i64 12]) (by simp [results, Tryz.results21, go_sem, tokV, tok0, hcc, hsz]) rfl ⟨rfl, ?_⟩
    exact ((((((Below.refl _ _).alloc (Nat.le_refl _) _).trans (hb1.mono (by simp))).setCell (Nat.le_refl _) _).setCell (Nat.le_refl _) _).setCell (Nat.le_refl _) _).setCell (Nat.le_refl _) _
theorem number_any (b o cap : Nat) (xs : List UInt8) (k : Nat) (w : World) (hs : Src w b o xs) (hb : b < w.heap.size) (hl : xs.length ≤ 65536) (hcap : xs.length ≤ cap) (hk : k < spanTo digI xs k)
    (te : TypeId) (pe : Value) (h3 : 3 < w.heap.size) (hv : w.cell? ⟨3, 0, none⟩ = some (.iface te pe)) :
    Calls Tryz.prog 21 #[.slice (some ⟨b, o, none⟩) xs.length cap, .int .i64 k] w fun e w' => e = .returned (.tuple #[tokV (numR xs k).1, .int .i64 (numR xs k).2]) ∧ Below w.heap.size w w' := by
  have hkl : k < xs.length := by
    rcases Nat.lt_or_ge k xs.length with h | h
    · exact h
    · rw [spanTo_end _ _ _ h] at hk; omega
  have hml : xs.length ≤ maxLen := by unfold maxLen; omega
  obtain ⟨_, hE2⟩ := spanTo_le digI xs k (by omega)
  have hbl : ∀ o', Below w.heap.size w (w.alloc o') := fun o' => (Below.refl _ _).alloc (Nat.le_refl _) _
  have hsp : Hid _ := fun o' => span36_any b o cap xs k (w.alloc o') (hs.below hb (hbl o')) hml (by omega)
  have hcv := fun o' => run_conv (w.alloc o') b o (cap - k) xs k (spanTo digI xs k) (hs.below hb (hbl o')) (by omega) hE2
  have hdg := cut_dig xs k
  have hln := cut_len xs k (spanTo digI xs k) hE2
  have hR : numR xs k = if spanTo digI xs k < xs.length ∧ wsI ((xs.getD (spanTo digI xs k) 0).toNat : Int) = true then (tok0, 12)
    else if ((xs.getD k 0).toNat : Int) = 48 ∧ 1 < spanTo digI xs k - k then (tok0, 12)
    else if numVal (cut xs k (spanTo digI xs k)) < 9223372036854775808 then (⟨2, k, spanTo digI xs k - k, numVal (cut xs k (spanTo digI xs k))⟩, 0)
    else (tok0, 12) := rfl
  have hc0 : w.cell? ⟨b, o + k, none⟩ = some (.int .u8 ((xs.getD k 0).toNat : Int)) := by
    rw [hs k hkl]; simp [List.getD, hkl]
  generalize spanTo digI xs k = E at *
  have hne : cut xs k E ≠ [] := by
    intro e; rw [e] at hln; simp at hln; omega
  have hcE : E < xs.length → w.cell? ⟨b, o + E, none⟩ = some (.int .u8 ((xs.getD E 0).toNat : Int)) := fun h => by
    rw [hs E h]; simp [List.getD, h]
  by_cases a1 : E < xs.length ∧ wsI ((xs.getD E 0).toNat : Int) = true
  · rw [if_pos a1] at hR
    rw [hR]
    exact number_ws b o cap xs k E w _ hc0 hb hml hk hE2 hcap hsp _ a1.1 (hcE a1.1) a1.2
  · rw [if_neg a1] at hR
    have hG : xs.length ≤ E ∨ ∃ cE, E < xs.length ∧ w.cell? ⟨b, o + E, none⟩ = some (.int .u8 cE) ∧ wsI cE = false := by
      by_cases h : E < xs.length
      · refine .inr ⟨_, h, hcE h, ?_⟩
        cases hw : wsI ((xs.getD E 0).toNat : Int)
        · rfl
        · exact absurd ⟨h, hw⟩ a1
      · exact .inl (by omega)
    by_cases a2 : ((xs.getD k 0).toNat : Int) = 48 ∧ 1 < E - k
    · rw [if_pos a2] at hR
      rw [hR]
      exact number_zero b o cap xs k E w _ hc0 hb hml hk hE2 hcap hsp hG (beq_iff_eq.2 a2.1) a2.2
    · rw [if_neg a2] at hR
      have hZ : (((xs.getD k 0).toNat : Int) == 48) = false ∨ (((xs.getD k 0).toNat : Int) == 48) = true ∧ E - k ≤ 1 := by
        cases hq : (((xs.getD k 0).toNat : Int) == 48)
        · exact .inl rfl
        · refine .inr ⟨rfl, ?_⟩
          rcases Nat.lt_or_ge 1 (E - k) with h | h
          · exact absurd ⟨beq_iff_eq.1 hq, h⟩ a2
          · exact h
      by_cases a3 : numVal (cut xs k E) < 9223372036854775808
      · rw [if_pos a3] at hR
        rw [hR]
        exact number_ok b o cap xs k E w _ hc0 hb hml hk hE2 hcap hsp hcv _ (fun o' => Atoi_ok _ _ (by omega) hne hdg a3) hG hZ
      · rw [if_neg a3] at hR
        rw [hR]
        exact number_range b o cap xs k E w _ hc0 hb hml hk hE2 hcap hsp hcv (fun o' => Atoi_range _ _ (by omega) hne hdg a3 te pe (by rw [(hbl o').cell h3]; exact hv)) hG hZ
end Go.Proofs.YtblhklbpcalglaaGreatDoor
