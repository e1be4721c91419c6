import Derived.Test.YtikijkpklneihaaCVSh
namespace Go.Proofs.Ytikijkpklneihaa
open Go.RowKit
set_option linter.unusedVariables false
set_option linter.unusedSimpArgs false

structure OneB (w W : World) (B : Nat) (x : V) (p : Option Addr) (c : Nat) : Prop where
  a : W.heap[w.heap.size]? = some (Obj.cells #[.int .i64 x.k, .int .i64 x.n, .slice p x.l.length c] 24)
  va : SlV W B p c x.l
  bel : Below w.heap.size w W
theorem OneB.next {w W W' : World} {B : Nat} {x : V} {p : Option Addr} {c : Nat} (h : OneB w W B x p c) (hB : B ≤ w.heap.size) (hb : Below W.heap.size W W') : OneB w W' B x p c :=
  ⟨keep_h hb h.a, h.va.lo (Lo.of (hb.mono (Nat.le_trans hB h.bel.size))), h.bel.trans (hb.mono h.bel.size)⟩
theorem OneB.start (w : World) (B : Nat) (x : V) (p : Option Addr) (c : Nat) (hx : SlV w B p c x.l) (hB : B ≤ w.heap.size) :
    OneB w (w.alloc (Obj.cells #[.int .i64 x.k, .int .i64 x.n, .slice p x.l.length c] 24)) B x p c :=
  ⟨World.alloc_heap_new _ _, hx.lo (Lo.of ((below1 _ _).mono hB)), below1 _ _⟩
end Go.Proofs.Ytikijkpklneihaa
