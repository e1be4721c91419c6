import Derived.Test.YtooondgaeoobkaaDoorReadsL
namespace Go.Proofs.YtooondgaeoobkaaDoor
open Go.RowKit
set_option linter.unusedVariables false
set_option linter.unusedSimpArgs false

/-! ### the two copies -/
theorem copy_src_run (W : World) (g n cap : Nat) (a : Option Addr) (src : List UInt8) (zs : List Value) (ty : TypeId) (hn : src.length = n) (hs : IsSrc W a cap src) (hg : Row5 W g zs) (hz : zs.length = n + 4) :
    ∃ W', (Builtin.copy_ #[26, 26] ty #[.slice (some ⟨g, 0, none⟩) (n + 4) (n + 4), .slice a n cap]).run Tryd.prog W = .ok (.int .i64 (n : Int)) W' ∧ Row5 W' g (bC src ++ zs.drop n) ∧ Below g W W' := by
  subst hn
  by_cases h0 : 0 < src.length
  · obtain ⟨b, o, rfl, hb, hc⟩ := hs.at_ h0
    have hr := run_copy_row (P := Tryd.prog) W 26 26 ty 5 g 0 (src.length + 4) (src.length + 4) ⟨b, o, none⟩ src.length cap _ 5 (bC src) Tryd.underlying26 (by kernel_rfl) hg.at_ (by rw [bC_len]; exact (Nat.min_eq_left (by omega)).symm) (by
      intro j u hu
      have hj : j < src.length := by
        rcases Nat.lt_or_ge j src.length with e | e
        · exact e
        · rw [List.getElem?_eq_none (by rw [bC_len]; exact e)] at hu; cases hu
      have e : (⟨b, o, none⟩ : Addr).add j = ⟨b, o + j, none⟩ := by unfold Addr.add; split <;> simp_all
      rw [e, hc j hj]
      unfold bC at hu
      simpa [hj] using hu) (by rw [bC_len]; simp; omega) (bC_one src)
    rw [bC_len] at hr
    refine ⟨_, hr, ⟨?_⟩, ⟨rfl, rfl, rfl, by simp [World.setRow], fun k hk => setRow_other W g k _ (by omega)⟩⟩
    rw [setRow_heap W g _ _ 5 _ hg.at_]
    simp
  · have hx : src = [] := List.eq_nil_of_length_eq_zero (by omega)
    subst hx
    have hr := run_copy_none (P := Tryd.prog) W 26 26 ty 5 (some ⟨g, 0, none⟩) a (0 + 4) (0 + 4) 0 cap Tryd.underlying26 (by kernel_rfl) rfl
    exact ⟨W, hr, ⟨by simpa [bC] using hg.at_⟩, Below.refl _ _⟩
theorem copy_xxxx_run (W : World) (g n : Nat) (src : List UInt8) (zs : List Value) (ty : TypeId) (hz : zs.length = 4) (hn : src.length = n) (hg : Row5 W g (bC src ++ zs)) :
    ∃ W', (Builtin.copy_ #[26, 9] ty #[.slice (some ⟨g, n, none⟩) 4 4, .string ⟨#[120, 120, 120, 120]⟩]).run Tryd.prog W = .ok (.int .i64 4) W' ∧ Row5 W' g (bC (src ++ x4)) ∧ Below g W W' := by
  have hr := Lib.run_copy_row_string (P := Tryd.prog) W 26 9 ty 5 g n 4 4 ⟨#[120, 120, 120, 120]⟩ _ 5 Tryd.underlying26 (by kernel_rfl) hg.at_ (Nat.le_refl _) (by show n + 4 ≤ _; simp [bC_len]; omega)
  have hl : (bC src).length = n := by rw [bC_len]; exact hn
  refine ⟨_, hr, ⟨?_⟩, ⟨rfl, rfl, rfl, by simp [World.setRow], fun k hk => setRow_other W g k _ (by omega)⟩⟩
  rw [setRow_heap W g _ _ 5 _ hg.at_]
  congr 2
  have e1 : List.take n (bC src ++ zs) = bC src := by rw [← hl]; exact List.take_left
  have e2 : List.drop (n + 4) (bC src ++ zs) = [] := List.drop_eq_nil_of_le (by simp [hl, hz])
  have e3 : (⟨#[120, 120, 120, 120]⟩ : ByteArray).size = 4 := rfl
  simp only [List.toList_toArray, e1, e3, e2, List.append_nil]
  rw [bC_append]
  rfl
/-- what is made, and both copies -/
theorem copies {w W1 W3 : World} {n : Nat} {src : List UInt8} {a : Option Addr} {cap : Nat} (hb1 : Below w.heap.size w W1) (hn : src.length = n) (hs : IsSrc w a cap src) (hm : n + 4 ≤ maxLen)
    (h3 : (W1.alloc (.cells #[.slice none 0 0, .slice none 0 0, .int .i64 0] 30)).grownBy W3 none) (ho : W3.ownsRow w.heap.size 5 1 (.slice (some ⟨W1.heap.size + 1, 0, none⟩) (n + 4) (n + 4)) (n + 4) (madeCells #[.int .u8 0] ((n + 4) * 1)).toList) :
    ∃ W4 W5, (∀ ty, (Builtin.copy_ #[26, 26] ty #[.slice (some ⟨W1.heap.size + 1, 0, none⟩) (n + 4) (n + 4), .slice a n cap]).run Tryd.prog W3 = .ok (.int .i64 (n : Int)) W4) ∧
      (∀ ty, (Builtin.copy_ #[26, 9] ty #[.slice (some ⟨W1.heap.size + 1, n, none⟩) 4 4, .string ⟨#[120, 120, 120, 120]⟩]).run Tryd.prog W4 = .ok (.int .i64 4) W5) ∧
      St w W5 W1.heap.size (W1.heap.size + 1) (.slice none 0 0) (.slice none 0 0) [] (src ++ x4) [] := by
  have hz := hb1.size
  have hb3 : Below w.heap.size w W3 := (hb1.alloc hz _).grown h3 (by simp; omega) (fun k hk => by cases hk)
  obtain ⟨W4, r4, q4, b4⟩ := copy_src_run W3 (W1.heap.size + 1) n cap a src _ 0 hn (hs.below hb3) (row5_made ho) (by simp)
  obtain ⟨W5, r5, q5, b5⟩ := copy_xxxx_run W4 (W1.heap.size + 1) n src _ 0 (by simp) hn q4
  exact ⟨W4, W5, fun ty => r4, fun ty => r5, st_start hb1 hn h3 b4 b5 q5 hm⟩

/-! ### blanks to pluses, and back -/
def swB (c : UInt8) : UInt8 := if c = 32 then 43 else if c = 43 then 32 else c
def swTo (src : List UInt8) (k : Nat) : List UInt8 := (src.take k).map swB ++ (src.drop k ++ x4)
theorem swTo_zero (src : List UInt8) : swTo src 0 = src ++ x4 := by simp [swTo]
theorem swTo_len (src : List UInt8) (k n : Nat) (hn : src.length = n) (hk : k ≤ n) : (swTo src k).length = n + 4 := by simp [swTo, x4]; omega
theorem swTo_at (src : List UInt8) (k : Nat) (hk : k < src.length) (h : k < (swTo src k).length) : (swTo src k)[k] = src[k] := by
  have e : (swTo src k)[k]? = some src[k] := by
    unfold swTo
    rw [List.getElem?_append_right (by simp; omega), List.getElem?_append_left (by simp; omega)]
    simp [Nat.min_eq_left (Nat.le_of_lt hk), hk]
  rw [List.getElem?_eq_getElem h] at e
  exact Option.some.inj e
theorem swTo_step (src : List UInt8) (k : Nat) (hk : k < src.length) : (swTo src k).set k (swB src[k]) = swTo src (k + 1) := by
  unfold swTo
  have hl : ((src.take k).map swB).length = k := by simp; omega
  rw [List.set_append_right _ _ (by omega), hl, Nat.sub_self, List.drop_eq_getElem_cons hk, List.cons_append, List.set_cons_zero, List.take_succ_eq_append_getElem hk, List.map_append, List.append_assoc]
  rfl
theorem swTo_take (src : List UInt8) (n : Nat) (hn : src.length = n) : (swTo src n).take n = src.map swB := by
  subst hn
  unfold swTo
  rw [List.take_append_of_le_length (by simp), List.take_length]
  rw [List.take_of_length_le (by simp)]
theorem swB_32 : swB 32 = 43 := rfl
theorem swB_43 : swB 43 = 32 := rfl

/-! ### what the calls answer -/
theorem scan_len (xs : List UInt8) : (scanAll xs).1.length ≤ 65536 := by
  by_cases h : (scanAll xs).2.2 = 0
  · have h1 := scan_few xs h
    have h2 := (scan_covers xs h).2
    omega
  · rw [(scan_fault xs h).1]
    simp
theorem scan13 (W : World) (a : Option Addr) (cap : Nat) (xs : List UInt8) (n : Nat) (t : List Tok) (f c : Nat) (hn : xs.length = n) (hs : IsSrc W a cap xs) (hL : Laid W) (hS : scanAll xs = (t, f, c)) :
    Calls Tryd.prog 13 #[.slice a n cap] W fun e w' => ∃ v, e = .returned (.tuple #[v, .agg #[.int .i64 f, .int .i64 c]]) ∧ w'.ownsRow W.heap.size 40 4 v t.length (toksC t) ∧ Below W.heap.size W w' := by
  subst hn
  have h := Scan_any a cap xs W hs hL
  rw [hS] at h
  exact h
theorem scan14 (W : World) (a : Option Addr) (cap : Nat) (xs : List UInt8) (n : Nat) (t : List Tok) (f c : Nat) (hn : xs.length = n) (hs : IsSrc W a cap xs) (hS : scanAll xs = (t, f, c)) :
    Calls Tryd.prog 14 #[.slice a n cap] W fun e w' => ∃ v, e = .returned (.tuple #[v, .agg #[.int .i64 f, .int .i64 c]]) ∧ w'.ownsRow W.heap.size 40 4 v t.length (toksC t) ∧ Below W.heap.size W w' := by
  subst hn
  have h := refScan_any a cap xs W hs
  rw [hS] at h
  exact h
theorem fault_at {W : World} {B b : Nat} {a c : Int} (h : (faultR b a c).ok W B) : b < W.heap.size ∧ W.cell? ⟨b, 0, none⟩ = some (.int .i64 a) ∧ W.cell? ⟨b, 1, none⟩ = some (.int .i64 c) ∧ ∀ j, W.frozen? ⟨b, j, none⟩ = false := by
  have ho : W.ownsRow B 34 1 (.slice (some ⟨b, 0, none⟩) 2 2) 2 [.int .i64 a, .int .i64 c] := h.own
  exact ⟨(ho.lt b rfl).2, ho.cellAt 0 (by decide), ho.cellAt 1 (by decide), fun j => own_frozen ho rfl j⟩
/-- where a row lies -/
structure Lies (v : Value) (lo hi : Nat) : Prop where
  at_ : ∀ g, v.ownBlock = some g → lo ≤ g ∧ g < hi
theorem Lies.apart {v u : Value} {lo hi lo' hi' : Nat} (h : Lies v lo hi) (h' : Lies u lo' hi') (hle : hi ≤ lo') : Apart v u := fun g h1 h2 => by
  have := h.at_ g h1
  have := h'.at_ g h2
  omega
theorem lies_of {W : World} {B : Nat} {e : TypeId} {s : Nat} {v : Value} {n : Nat} {xs : List Value} (h : W.ownsRow B e s v n xs) : Lies v B W.heap.size := ⟨fun g hg => h.lt g hg⟩
theorem alone4 {a b c d m1 m2 m3 m4 : Value} {l1 l2 l3 l4 : List Q4} {k0 k1 k2 k3 k4 k5 k6 k7 k8 k9 p1 p2 p3 p4 p5 p6 : Nat}
    (ha : Lies a k0 k1) (hb : Lies b k2 k3) (hc : Lies c k4 k5) (h1 : Lies m1 k6 k7) (h2 : Lies m2 k8 k9) (h3 : Lies m3 p1 p2) (hd : Lies d p3 p4) (h4 : Lies m4 p5 p6)
    (e1 : k1 ≤ k2 ∧ k2 ≤ k3) (e2 : k3 ≤ k4 ∧ k4 ≤ k5) (e3 : k5 ≤ k6 ∧ k6 ≤ k7) (e4 : k7 ≤ k8 ∧ k8 ≤ k9) (e5 : k9 ≤ p1 ∧ p1 ≤ p2) (e6 : p2 ≤ p3 ∧ p3 ≤ p4) (e7 : p4 ≤ p5) :
    Alone [⟨a, m1, l1⟩, ⟨b, m2, l2⟩, ⟨c, m3, l3⟩, ⟨d, m4, l4⟩] := by
  have ab := ha.apart hb (by omega)
  have ac := ha.apart hc (by omega)
  have ad := ha.apart hd (by omega)
  have bc := hb.apart hc (by omega)
  have bd := hb.apart hd (by omega)
  have cd := hc.apart hd (by omega)
  have n12 := h1.apart h2 (by omega)
  have n13 := h1.apart h3 (by omega)
  have n14 := h1.apart h4 (by omega)
  have n23 := h2.apart h3 (by omega)
  have n24 := h2.apart h4 (by omega)
  have n34 := h3.apart h4 (by omega)
  have a1 := ha.apart h1 (by omega)
  have a2 := ha.apart h2 (by omega)
  have a3 := ha.apart h3 (by omega)
  have a4 := ha.apart h4 (by omega)
  have b1 := hb.apart h1 (by omega)
  have b2 := hb.apart h2 (by omega)
  have b3 := hb.apart h3 (by omega)
  have b4 := hb.apart h4 (by omega)
  have c1 := hc.apart h1 (by omega)
  have c2 := hc.apart h2 (by omega)
  have c3 := hc.apart h3 (by omega)
  have c4 := hc.apart h4 (by omega)
  have d1 := (h1.apart hd (by omega)).symm
  have d2 := (h2.apart hd (by omega)).symm
  have d3 := (h3.apart hd (by omega)).symm
  have d4 := hd.apart h4 (by omega)
  intro k j hk hj
  match k, j, hk, hj with
  | 0, 0, _, _ => exact ⟨fun h => absurd rfl h, a1⟩
  | 0, 1, _, _ => exact ⟨fun _ => ⟨ab, n12⟩, a2⟩
  | 0, 2, _, _ => exact ⟨fun _ => ⟨ac, n13⟩, a3⟩
  | 0, 3, _, _ => exact ⟨fun _ => ⟨ad, n14⟩, a4⟩
  | 1, 0, _, _ => exact ⟨fun _ => ⟨ab.symm, n12.symm⟩, b1⟩
  | 1, 1, _, _ => exact ⟨fun h => absurd rfl h, b2⟩
  | 1, 2, _, _ => exact ⟨fun _ => ⟨bc, n23⟩, b3⟩
  | 1, 3, _, _ => exact ⟨fun _ => ⟨bd, n24⟩, b4⟩
  | 2, 0, _, _ => exact ⟨fun _ => ⟨ac.symm, n13.symm⟩, c1⟩
  | 2, 1, _, _ => exact ⟨fun _ => ⟨bc.symm, n23.symm⟩, c2⟩
  | 2, 2, _, _ => exact ⟨fun h => absurd rfl h, c3⟩
  | 2, 3, _, _ => exact ⟨fun _ => ⟨cd, n34⟩, c4⟩
  | 3, 0, _, _ => exact ⟨fun _ => ⟨ad.symm, n14.symm⟩, d1⟩
  | 3, 1, _, _ => exact ⟨fun _ => ⟨bd.symm, n24.symm⟩, d2⟩
  | 3, 2, _, _ => exact ⟨fun _ => ⟨cd.symm, n34.symm⟩, d3⟩
  | 3, 3, _, _ => exact ⟨fun h => absurd rfl h, d4⟩
  | k + 4, _, hk, _ => exact absurd hk (by simp)
  | 0, j + 4, _, hj => exact absurd hj (by simp)
  | 1, j + 4, _, hj => exact absurd hj (by simp)
  | 2, j + 4, _, hj => exact absurd hj (by simp)
  | 3, j + 4, _, hj => exact absurd hj (by simp)
end Go.Proofs.YtooondgaeoobkaaDoor
