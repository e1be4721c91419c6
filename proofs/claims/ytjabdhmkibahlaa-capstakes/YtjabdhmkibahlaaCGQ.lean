import Derived.Test.YtjabdhmkibahlaaCGV
import Derived.Test.YtjabdhmkibahlaaCShelfT
namespace Go.Proofs.Ytjabdhmkibahlaa
open Go.RowKit Go.MapKept Go.ChangeMaps Go.WideShapes Go.Sort Go.Shelf Go.Maps
set_option linter.unusedVariables false
set_option linter.unusedSimpArgs false

theorem sortsA (m : Nat) : AnyZI.SortsIn Try.prog Go.Proofs.Try.sortedA_ren Fence.wide m :=
  ⟨fun blk off cap ss W hH hblk hsz => callsIn_wide.2 (Go.Proofs.Try.slices_Sort_int blk off cap ss W hH hblk hsz),
   fun p cap W => callsIn_wide.2 (Go.Proofs.Try.slices_Sort_int_none p cap W)⟩
theorem keys_any (mb : Nat) (W : World) : Calls Try.prog 41 #[.map (some mb)] W fun e w' => e = .returned (.func (.func 60) #[] #[.pointer (some ⟨W.heap.size, 0, none⟩)]) ∧ w' = W.alloc (.cells #[.map (some mb)] 65) :=
  (callsIn_wide (n := 5)).1 (AnyZI.keys_in Go.Proofs.Try.keysA Fence.wide 5 trivial rfl (some mb) W)
theorem int_keys {W : World} {mb n : Nat} {D : DataW Value} (h : W.ownsMap Try.prog 3 Rw mb n D) : (intKeys D).Nodup ∧ (∀ x, x ∈ intKeys D ↔ I64 x ∧ Maps.has D (kI x) = true) ∧ (intKeys D).length ≤ n := by
  have hsz := h.size_le
  have hwf := intKeys_wf h Try.underlying3
  obtain ⟨es, hD, hpw, _⟩ := h.entries (Maps.int_keyed Try.underlying3)
  obtain ⟨es', hD', hko⟩ := h.keysOf
  obtain rfl : es = es' := by rw [hD] at hD'; simpa using hD'
  subst hD
  have hk : ∀ p ∈ es, ∃ x, p.1 = .int .i64 x := fun p hp => by
    obtain ⟨v, hv⟩ := hko p hp
    obtain ⟨x, _, hx, _⟩ := Maps.keyOf_i64 Try.underlying3 hv
    exact ⟨x, hx⟩
  refine ⟨?_, fun x => ?_, ?_⟩
  · show (es.map fun p => _root_.Go.intOf p.1).Nodup
    refine List.pairwise_map.2 (hpw.imp_of_mem fun {p q} hp' hq' hne e => hne ?_)
    obtain ⟨a, ha⟩ := hk p hp'
    obtain ⟨b, hb⟩ := hk q hq'
    rw [ha, hb] at e ⊢
    exact congrArg _ e
  · have h64 : x ∈ intKeys (.map es : DataW Value) → I64 x := fun hx => by
      have h5 : (decide (IntKind.i64.min ≤ x) && decide (x ≤ IntKind.i64.max)) = true := hwf x hx
      rw [Bool.and_eq_true, decide_eq_true_eq, decide_eq_true_eq] at h5
      exact ⟨h5.1, h5.2⟩
    have hm : x ∈ intKeys (.map es : DataW Value) ↔ Maps.has (.map es : DataW Value) (kI x) = true := by
      rw [Maps.has_eq, List.any_eq_true]
      show x ∈ (es.map fun p => _root_.Go.intOf p.1) ↔ _
      rw [List.mem_map]
      constructor
      · rintro ⟨p, hp', rfl⟩
        obtain ⟨a, ha⟩ := hk p hp'
        exact ⟨p, hp', by rw [ha]; simp [Lit.sameKey, _root_.Go.intOf, kI]⟩
      · rintro ⟨p, hp', hs⟩
        obtain ⟨a, ha⟩ := hk p hp'
        rw [ha] at hs
        exact ⟨p, hp', by rw [ha]; simpa [Lit.sameKey, _root_.Go.intOf, kI] using hs⟩
    exact ⟨fun hx => ⟨h64 hx, hm.1 hx⟩, fun hx => hm.2 hx.2⟩
  · show (es.map fun p => _root_.Go.intOf p.1).length ≤ n
    rw [List.length_map]
    exact hsz
/-- the channels of one that waits, in their order -/
theorem sorted_any (W : World) (mb n : Nat) (z : Value) (M : Int → Value) (hs : Int → Bool) (h : MpI W mb n z M hs) (hn : n ≤ 2147483647) (X : World) (hX : X = W.alloc (.cells #[.map (some mb)] 65)) :
    Calls Try.prog 40 #[.func (.func 60) #[] #[.pointer (some ⟨W.heap.size, 0, none⟩)]] X fun e w' => ∃ v L, e = .returned v ∧ w'.ownsRow X.heap.size 3 1 v L.length (rowC L) ∧ L.Pairwise (· < ·) ∧ (∀ k, k ∈ L ↔ I64 k ∧ hs k = true) ∧ L.length ≤ n ∧ Below X.heap.size X w' := by
  obtain ⟨D, h1, h2⟩ := h.ex
  have hbl := h1.lt
  have hsz := h1.size_le
  have hown : X.ownsMap Try.prog 3 Rw mb n D := by
    obtain ⟨es, clock, hb, Ft, hs, hD⟩ := h1
    exact ⟨es, clock, by rw [hX]; exact (Below.heap_alloc _ _ mb hbl).trans hb, Ft, hs, hD⟩
  have hseq : SeqGives Fence.wide 2 Try.prog 60 #[.pointer (some ⟨W.heap.size, 0, none⟩)] encZ (fun ss => ss.Perm (intKeys D)) (Maps.size D) X :=
    AnyZI.keys_gives (ρ := Go.Proofs.Try.keysA_ren) { Go.Proofs.Try.keysA with } Fence.wide _ trivial rfl (by omega) W.heap.size mb n D _ (by rw [hX]; simp) (by rw [hX]; simp) hown
  have cS := AnyZI.sorted_in Go.Proofs.Try.sortedA Fence.wide 5 trivial trivial trivial trivial rfl (by omega) (sortsA _) (enters_of Try.func59 (by kernel_rfl) rfl) 60 #[.pointer (some ⟨W.heap.size, 0, none⟩)] trivial (enters_of Try.func60 (by kernel_rfl) rfl) _ _ (by unfold maxLen; omega) (by omega) _ hseq
  change CallsIn _ _ Try.prog 40 _ _ _ at cS
  refine ((callsIn_wide (n := 5)).1 cS).mono ?_
  rintro e w' ⟨v, ss, rfl, hS, hrow, hnil, hb⟩
  have hmem : ∀ k, k ∈ srt ss ↔ I64 k ∧ hs k = true := fun k => by
    rw [srt_mem, hS.mem_iff, (int_keys h1).2.1]
    constructor
    · rintro ⟨x1, x2⟩; exact ⟨x1, by rw [← (h2 k x1).2]; exact x2⟩
    · rintro ⟨x1, x2⟩; exact ⟨x1, by rw [(h2 k x1).2]; exact x2⟩
  have hnd : ss.Nodup := hS.nodup_iff.2 (int_keys h1).1
  refine ⟨v, srt ss, rfl, by rw [srt_len]; exact hrow, ?_, hmem, ?_, hb⟩
  · have h3 := srt_le ss
    have h4 := srt_nod hnd
    exact (List.pairwise_and_iff.2 ⟨h3, h4⟩).imp (fun h => by have := h.1; have := h.2; omega)
  · rw [srt_len, hS.length_eq]
    exact (int_keys h1).2.2
end Go.Proofs.Ytjabdhmkibahlaa
