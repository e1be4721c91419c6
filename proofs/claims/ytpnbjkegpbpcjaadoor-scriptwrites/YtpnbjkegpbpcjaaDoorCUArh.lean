import Derived.Test.YtpnbjkegpbpcjaaDoorCUArg
namespace Go.Proofs.YtpnbjkegpbpcjaaDoor
open Go.ChangeShapes Go.WideShapes Go.ChangeAt Go.RowKit
set_option linter.unusedVariables false
set_option linter.unusedSimpArgs false

theorem bytesPk : Tryd.prog.bytesOf 39 = 24 := by kernel_rfl
set_option maxRecDepth 100000 in
/-- HOW MANY PICKS CAN COME IN -/
theorem script_reach {H : Type} {enc : TypeId × Value → H} {W : World} {base : Nat} {sp : Nat → Bool} {held : Bool} {m : Lm} {b : Bool} {a : Option Addr} {len cap : Nat} {d : DataW H} {p : List MemPlace} (h : ∃ fuel, DataW.trod enc Tryd.prog W base sp held fuel 31 (scV m b (.slice a len cap)).cells.toList = some (d, p)) (hw : ∀ n ∈ d.weights Tryd.prog 31, n ≤ reachBytes) : len ≤ 5864062014634 := by
  obtain ⟨fuel, hf⟩ := h
  have hf : DataW.trod enc Tryd.prog W base sp held fuel 31 [.int .i64 m.a, .int .i64 m.b, .int .i64 m.c, .int .i64 m.d, .int .i64 m.e, .int .i64 m.f, .int .i64 m.g, .bool b, .slice a len cap] = some (d, p) := by simpa [Value.cells] using hf
  obtain ⟨xs, n, hm, hy, hl, hlen, hx⟩ := DataW.trod_struct Tryd.underlying31 hf
  match xs, hlen with
  | [y0, y1, y2], _ =>
    have t2 : DataW.trod enc Tryd.prog W base sp held n 29 [.slice a len cap] = some y2 := by simpa [cellsPs, cellsBo, cellsLm] using hx 2 _ rfl
    injection hy with hy0 _
    have hw2 : ∀ n ∈ y2.1.weights Tryd.prog 29, n ≤ reachBytes := fun n hn => hw n (by rw [hy0]; simp only [List.map_cons, List.map_nil, DataW.weights, Tryd.underlying31, DataW.weightsEach]; simp [DataW.weightsEach, hn])
    rcases Go.Deep.open_slice Tryd.underlying29 t2 with ⟨hcs, _⟩ | ⟨x, l0, c0, k, n, D, Pl, hcs, hb, hl, hm, hmm, hx, _⟩
    · simp at hcs
      omega
    · simp at hcs
      obtain ⟨rfl, rfl, rfl⟩ := hcs
      rw [hx] at hw2
      simp only [DataW.weights, Tryd.underlying29] at hw2
      have h1 := hw2 _ List.mem_cons_self
      rw [bytesPk] at h1
      simp at h1
      have : reachBytes = 140737488351232 := rfl
      omega
end Go.Proofs.YtpnbjkegpbpcjaaDoor
