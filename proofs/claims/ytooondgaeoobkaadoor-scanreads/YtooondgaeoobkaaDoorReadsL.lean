import Derived.Test.YtooondgaeoobkaaDoorBookP
import Derived.Test.YtooondgaeoobkaaDoorRefX
import Derived.Test.YtooondgaeoobkaaDoorCovX
import Derived.Laws.CopyOwn
import Derived.Lib.BufferWrite
import Derived.OwnWalk
namespace Go.Proofs.YtooondgaeoobkaaDoor
open Go.RowKit
set_option linter.unusedVariables false
set_option linter.unusedSimpArgs false

/-! ### the bytes of the statement's own -/
def x4 : List UInt8 := [120, 120, 120, 120]
def bytesR (g : Nat) (ys : List UInt8) : Row := ⟨5, 1, .slice (some ⟨g, 0, none⟩) ys.length ys.length, ys.length, bC ys⟩
def faultR (g : Nat) (a c : Int) : Row := ⟨34, 1, .slice (some ⟨g, 0, none⟩) 2 2, 2, [.int .i64 a, .int .i64 c]⟩
theorem bC_len (ys : List UInt8) : (bC ys).length = ys.length := by unfold bC; simp
theorem bC_set (ys : List UInt8) (k : Nat) (c : UInt8) : bC (ys.set k c) = (bC ys).set k (.int .u8 (c.toNat : Int)) := by unfold bC; rw [List.map_set]

/-- all bytes of a slice, as a text -/
theorem conv_all (W : World) (a : Option Addr) (cap : Nat) (xs : List UInt8) (n : Nat) (hn : xs.length = n) (hs : IsSrc W a cap xs) : (convert 26 9 (.slice a n cap)).run Tryd.prog W = .ok (.string ⟨xs.toArray⟩) W := by
  subst hn
  by_cases h0 : 0 < xs.length
  · obtain ⟨b, o, rfl, hb, hc⟩ := hs.at_ h0
    have h := run_conv W b o cap xs 0 xs.length hc (Nat.zero_le _) (Nat.le_refl _)
    have e : cut xs 0 xs.length = xs := by unfold cut; simp
    rw [e] at h
    exact h
  · have hx : xs = [] := List.eq_nil_of_length_eq_zero (by omega)
    subst hx
    rw [run_convert_bytes_string W 26 9 5 a [].length cap Tryd.underlying26 Tryd.underlying5 Tryd.underlying9]
    cases a <;> (simp [Conv.bytesToString, loadCells, loadCellsFrom]; rfl)
theorem slice_h (W : World) (b o n cap h : Nat) (h2 : h ≤ cap) :
    (Instr.slice 26 (.slice (some ⟨b, o, none⟩) n cap) none (some (.int .i64 (h : Int))) none).run Tryd.prog W = .ok (.slice (some ⟨b, o, none⟩) h cap) W := by
  have ht' : Tryd.prog.underlying 26 = some (.slice (Tryd.prog.elem 26)) := by simp [Program.elem, Tryd.underlying26]
  have he : Tryd.prog.elem 26 = 5 := by simp [Program.elem, Tryd.underlying26]
  rw [run_slice_h W 26 _ _ _ ht' .i64 _ (by omega) (by omega), he, sizeOf5]
  by_cases hc : cap = 0
  · simp [Result.andThen, sliced, hc]
  · simp [Result.andThen, sliced, Addr.add, hc]
theorem slice_four (W : World) (g n : Nat) : (Instr.slice 26 (.slice (some ⟨g, 0, none⟩) (n + 4) (n + 4)) (some (.int .i64 (n : Int))) none none).run Tryd.prog W = .ok (.slice (some ⟨g, n, none⟩) 4 4) W := by
  have h := slice_l W g 0 (n + 4) (n + 4) n (by omega) (Nat.le_refl _)
  have e : slA g 0 (n + 4) n = some ⟨g, n, none⟩ := by unfold slA; rw [if_neg (by omega), Nat.zero_add]
  rw [e, Nat.add_sub_cancel_left] at h
  exact h

/-- where the statement stands: the book, its own bytes, and rows that it holds -/
structure St (w W : World) (h g0 : Nat) (vo vw : Value) (es : List Ent) (ys : List UInt8) (rs : List Row) : Prop where
  old : Below w.heap.size w W
  bk : Bk W w.heap.size h vo vw 0 es
  own : (bytesR g0 ys).ok W w.heap.size
  rows : ∀ r ∈ rs, r.ok W w.heap.size
  kinds : ∀ r ∈ rs, r.e = 34 ∨ r.e = 40
section
variable {w W W' : World} {h g0 : Nat} {vo vw : Value} {es : List Ent} {ys : List UInt8} {rs : List Row}
theorem St.size (S : St w W h g0 vo vw es ys rs) : w.heap.size ≤ W.heap.size := S.old.size
theorem St.next (S : St w W h g0 vo vw es ys rs) (hb : Below W.heap.size W W') : St w W' h g0 vo vw es ys rs :=
  ⟨S.old.trans (hb.mono S.size), S.bk.below hb, S.own.below hb, fun r hr => (S.rows r hr).below hb, S.kinds⟩
theorem St.add (S : St w W h g0 vo vw es ys rs) {B' : Nat} {v : Value} {l : List Tok} (hr : W.ownsRow B' 40 4 v l.length (toksC l)) (hB : w.heap.size ≤ B') : St w W h g0 vo vw es ys (⟨40, 4, v, (l.map tokQ).length, qsC (l.map tokQ)⟩ :: rs) := by
  refine ⟨S.old, S.bk, S.own, fun r h0 => ?_, fun r h0 => ?_⟩
  · rcases List.mem_cons.1 h0 with h0 | h0
    · subst h0
      exact ⟨owns_base (by rw [toksC_q] at hr; simpa using hr) hB⟩
    · exact S.rows r h0
  · rcases List.mem_cons.1 h0 with h0 | h0
    · subst h0; exact .inr rfl
    · exact S.kinds r h0
theorem fault_made (W : World) (B : Nat) (hB : B ≤ W.heap.size) (a c : Int) : (faultR W.heap.size a c).ok (W.alloc (.cells #[.int .i64 a, .int .i64 c] 34)) B :=
  ⟨⟨rfl, .inr ⟨W.heap.size, 2, _, rfl, hB, heap_alloc_new W _, Nat.le_refl _, by unfold maxLen; omega, rfl, rfl⟩⟩⟩
theorem St.fault (S : St w W h g0 vo vw es ys rs) (a c : Int) : St w (W.alloc (.cells #[.int .i64 a, .int .i64 c] 34)) h g0 vo vw es ys (faultR W.heap.size a c :: rs) := by
  refine ⟨S.old.alloc S.size _, S.bk.map fun r hr => ok_alloc hr _, ok_alloc S.own _, fun r h0 => ?_, fun r h0 => ?_⟩
  · rcases List.mem_cons.1 h0 with h0 | h0
    · subst h0
      exact fault_made W _ S.size a c
    · exact ok_alloc (S.rows r h0) _
  · rcases List.mem_cons.1 h0 with h0 | h0
    · subst h0; exact .inl rfl
    · exact S.kinds r h0
/-- a fault's place is written over -/
theorem St.refault {b : Nat} {a c : Int} (S : St w W h g0 vo vw es ys rs) (hf : (faultR b a c).ok W w.heap.size) (hr : ∀ r ∈ rs, r.v.ownBlock ≠ some b) (a' c' : Int) :
    St w ((W.setCell ⟨b, 0, none⟩ (.int .i64 a')).setCell ⟨b, 1, none⟩ (.int .i64 c')) h g0 vo vw es ys (faultR b a' c' :: rs) := by
  have ho : W.ownsRow w.heap.size 34 1 (.slice (some ⟨b, 0, none⟩) 2 2) 2 [.int .i64 a, .int .i64 c] := hf.own
  have hb := (ho.lt b rfl).1
  have K : ∀ r : Row, r.ok W w.heap.size → r.v.ownBlock ≠ some b → r.ok ((W.setCell ⟨b, 0, none⟩ (.int .i64 a')).setCell ⟨b, 1, none⟩ (.int .i64 c')) w.heap.size := fun r h0 h1 => (h0.set (a := ⟨b, 0, none⟩) h1 _).set (a := ⟨b, 1, none⟩) h1 _
  have K' : ∀ r : Row, r.ok W w.heap.size → r.e ≠ 34 → r.ok ((W.setCell ⟨b, 0, none⟩ (.int .i64 a')).setCell ⟨b, 1, none⟩ (.int .i64 c')) w.heap.size := fun r h0 h1 => K r h0 fun e => apart_kind h0.own ho h1 b e rfl
  refine ⟨(S.old.setCell hb _).setCell hb _, ⟨K' _ S.bk.book (show (30 : Nat) ≠ 34 by decide), K' _ S.bk.outs (show (31 : Nat) ≠ 34 by decide), K' _ S.bk.wants (show (31 : Nat) ≠ 34 by decide), fun e he => ⟨K' _ (S.bk.rows e he).1 (show (40 : Nat) ≠ 34 by decide), K' _ (S.bk.rows e he).2 (show (40 : Nat) ≠ 34 by decide)⟩, S.bk.apart, S.bk.small, S.bk.few⟩, K' _ S.own (show (5 : Nat) ≠ 34 by decide), fun r h0 => ?_, fun r h0 => ?_⟩
  · rcases List.mem_cons.1 h0 with h0 | h0
    · subst h0
      exact ⟨owns_set (owns_set ho 0 (by decide) _) 1 (by decide) _⟩
    · exact K r (S.rows r h0) (hr r h0)
  · rcases List.mem_cons.1 h0 with h0 | h0
    · subst h0; exact .inl rfl
    · exact S.kinds r h0
theorem St.kept {vo' vw' : Value} {es' : List Ent} (S : St w W h g0 vo vw es ys rs) (hK : Kept W W' w.heap.size) (hB : Bk W' w.heap.size h vo' vw' 0 es') : St w W' h g0 vo' vw' es' ys rs :=
  ⟨S.old.trans hK.old, hB, hK.rows _ S.own (show (5 : Nat) ≠ 30 by decide) (show (5 : Nat) ≠ 31 by decide), fun r hr => hK.rows r (S.rows r hr) (by rcases S.kinds r hr with e | e <;> rw [e] <;> decide) (by rcases S.kinds r hr with e | e <;> rw [e] <;> decide), S.kinds⟩
/-- a byte is written over -/
theorem St.byte (S : St w W h g0 vo vw es ys rs) (k : Nat) (hk : k < ys.length) (c : UInt8) : St w (W.setCell ⟨g0, k, none⟩ (.int .u8 (c.toNat : Int))) h g0 vo vw es (ys.set k c) rs := by
  have ho : W.ownsRow w.heap.size 5 1 (.slice (some ⟨g0, 0, none⟩) ys.length ys.length) ys.length (bC ys) := S.own.own
  have hb := (ho.lt g0 rfl).1
  have K : ∀ r : Row, r.ok W w.heap.size → r.e ≠ 5 → r.ok (W.setCell ⟨g0, k, none⟩ (.int .u8 (c.toNat : Int))) w.heap.size := fun r h0 h1 => h0.set (a := ⟨g0, k, none⟩) (fun e => apart_kind h0.own ho h1 g0 e rfl) _
  refine ⟨S.old.setCell hb _, ⟨K _ S.bk.book (show (30 : Nat) ≠ 5 by decide), K _ S.bk.outs (show (31 : Nat) ≠ 5 by decide), K _ S.bk.wants (show (31 : Nat) ≠ 5 by decide), fun e he => ⟨K _ (S.bk.rows e he).1 (show (40 : Nat) ≠ 5 by decide), K _ (S.bk.rows e he).2 (show (40 : Nat) ≠ 5 by decide)⟩, S.bk.apart, S.bk.small, S.bk.few⟩, ⟨?_⟩, fun r h0 => K r (S.rows r h0) (by rcases S.kinds r h0 with e | e <;> rw [e] <;> decide), S.kinds⟩
  have := owns_set ho k (by omega) (.int .u8 (c.toNat : Int))
  rw [← bC_set] at this
  simpa [bytesR] using this
/-- its bytes, read -/
theorem St.cell (S : St w W h g0 vo vw es ys rs) (k : Nat) (hk : k < ys.length) : W.cell? ⟨g0, k, none⟩ = some (.int .u8 (ys[k].toNat : Int)) ∧ W.frozen? ⟨g0, k, none⟩ = false ∧ g0 < W.heap.size := by
  have ho : W.ownsRow w.heap.size 5 1 (.slice (some ⟨g0, 0, none⟩) ys.length ys.length) ys.length (bC ys) := S.own.own
  refine ⟨?_, own_frozen ho rfl k, (ho.lt g0 rfl).2⟩
  rw [ho.cellAt k (by omega)]
  unfold bC
  simp [hk]
theorem St.src (S : St w W h g0 vo vw es ys rs) (n : Nat) (hn : n ≤ ys.length) : IsSrc W (some ⟨g0, 0, none⟩) ys.length (ys.take n) := by
  have ho : W.ownsRow w.heap.size 5 1 (.slice (some ⟨g0, 0, none⟩) ys.length ys.length) ys.length (bC ys) := S.own.own
  have hm : ys.length ≤ maxLen := by
    rcases ho.2 with ⟨e, _⟩ | ⟨g', c', cur, hv, _, _, h3, h4, _⟩
    · cases e
    · omega
  refine ⟨fun _ => ⟨g0, 0, rfl, (ho.lt g0 rfl).2, fun i hi => ?_⟩, by simp; omega, by simp; omega⟩
  have hi' : i < ys.length := by simp at hi; omega
  rw [Nat.zero_add, (S.cell i hi').1]
  simp
/-- the first n bytes, as a row -/
theorem St.part (S : St w W h g0 vo vw es ys rs) (n : Nat) (hn : n ≤ ys.length) : W.ownsRow w.heap.size 5 1 (.slice (some ⟨g0, 0, none⟩) n ys.length) n (bC (ys.take n)) := by
  have ho : W.ownsRow w.heap.size 5 1 (.slice (some ⟨g0, 0, none⟩) ys.length ys.length) ys.length (bC ys) := S.own.own
  refine ⟨by rw [bC_len]; simp; omega, ?_⟩
  rcases ho.2 with ⟨e, _⟩ | ⟨g', c', cur, hv, hb, hh, h3, h4, h5, h6⟩
  · cases e
  · injection hv with e1 e2 e3
    subst e3
    refine .inr ⟨g', ys.length, cur, by rw [e1], hb, hh, hn, h4, h5, ?_⟩
    have e4 : bC (ys.take n) = (bC ys).take n := by unfold bC; rw [List.map_take]
    rw [e4, ← h6, List.take_take]
    congr 1
    omega
end

/-- the bytes of the statement's own, as the second copy leaves them -/
structure Row5 (W : World) (g : Nat) (cs : List Value) : Prop where
  at_ : W.heap[g]? = some (.cells cs.toArray 5 (0, 0))
theorem row5_made {W : World} {B g N : Nat} (h : W.ownsRow B 5 1 (.slice (some ⟨g, 0, none⟩) N N) N (madeCells #[.int .u8 0] (N * 1)).toList) : Row5 W g (List.replicate N (.int .u8 0)) := by
  rcases h.2 with ⟨e, _⟩ | ⟨g', c', cur, hv, hb, hh, h3, h4, h5, h6⟩
  · cases e
  · injection hv with e1 e2 e3
    injection e1 with e1
    injection e1 with e1
    subst e1
    subst e3
    refine ⟨?_⟩
    rw [toList_madeCells_one] at h6
    have e7 : cur.toList = List.replicate N (.int .u8 0) := by
      rw [← List.take_of_length_le (l := cur.toList) (i := N * 1) (by simp; omega), h6]
      simp
    rw [← e7]
    simpa using hh
theorem copy_xxxx {ops : Array Oper} {rest : List Oper} {op : Oper} {a : Act} {Q : Exit → Act → World → Prop} {W : World} (hgd : op.guard = none) (d s : Operand)
    (ho : op.op = .call { callee := .builtin .copy, args := #[d, s], argTypes := #[26, 9] }) (g n : Nat) (src : List UInt8) (zs : List Value) (hz : zs.length = 4) (hn : src.length = n)
    (hd : a.eval d = .slice (some ⟨g, n, none⟩) 4 4) (hs : a.eval s = .string ⟨#[120, 120, 120, 120]⟩) (hg : Row5 W g (bC src ++ zs))
    (h : ∀ W', Row5 W' g (bC (src ++ x4)) → Below g W W' → W.heap.size = W'.heap.size → wpList Tryd.prog ops Q rest (a.put op.dst (goInt 4)) W') : wpList Tryd.prog ops Q (op :: rest) a W := by
  refine wpList_plain hgd fun K hK => ?_
  have hr := Lib.run_copy_row_string (P := Tryd.prog) W 26 9 op.type 5 g n 4 4 ⟨#[120, 120, 120, 120]⟩ _ 5 Tryd.underlying26 (by kernel_rfl) hg.at_ (Nat.le_refl _) (by show n + 4 ≤ _; simp [bC_len]; omega)
  have hl : (bC src).length = n := by rw [bC_len]; exact hn
  unfold Oper.wp execOp
  simp only [ho, resolve, invoke, builtin, Sem.run_bind, Sem.run_pure, Result.andThen_ok, List.map_toArray, List.map_cons, List.map_nil, hd, hs, hr]
  refine hK _ _ (h _ ⟨?_⟩ ⟨rfl, rfl, rfl, by simp [World.setRow], fun k hk => setRow_other W g k _ (by omega)⟩ (by simp [World.setRow]))
  rw [setRow_heap W g _ _ 5 _ hg.at_]
  congr 2
  have e1 : List.take n (bC src ++ zs) = bC src := by rw [← hl]; exact List.take_left
  have e2 : List.drop (n + 4) (bC src ++ zs) = [] := List.drop_eq_nil_of_le (by simp [hl, hz])
  have e3 : (⟨#[120, 120, 120, 120]⟩ : ByteArray).size = 4 := rfl
  simp only [List.toList_toArray, e1, e3, e2, List.append_nil]
  rw [bC_append]
  rfl

/-- the statement begins -/
theorem st_start {w W1 W3 W4 W5 : World} {n : Nat} {src : List UInt8} (hb1 : Below w.heap.size w W1) (hn : src.length = n)
    (h3 : (W1.alloc (.cells #[.slice none 0 0, .slice none 0 0, .int .i64 0] 30)).grownBy W3 none) (h4 : Below (W1.heap.size + 1) W3 W4) (h5 : Below (W1.heap.size + 1) W4 W5) (hr : Row5 W5 (W1.heap.size + 1) (bC (src ++ x4))) (hm : n + 4 ≤ maxLen) :
    St w W5 W1.heap.size (W1.heap.size + 1) (.slice none 0 0) (.slice none 0 0) [] (src ++ x4) [] := by
  have hz := hb1.size
  have hb3 : Below (W1.heap.size + 1) (W1.alloc (.cells #[.slice none 0 0, .slice none 0 0, .int .i64 0] 30)) W3 := (Below.refl _ _).grown h3 (by simp) (fun k hk => by cases hk)
  have hb5 := (hb3.trans h4).trans h5
  have hbk : (W1.alloc (.cells #[.slice none 0 0, .slice none 0 0, .int .i64 0] 30)).ownsRow w.heap.size 30 1 (.slice (some ⟨W1.heap.size, 0, none⟩) 3 3) 3 [.slice none 0 0, .slice none 0 0, .int .i64 0] :=
    ⟨rfl, .inr ⟨W1.heap.size, 3, _, rfl, hz, heap_alloc_new W1 _, Nat.le_refl _, by unfold maxLen; omega, rfl, rfl⟩⟩
  refine ⟨((hb1.alloc hz _).trans (hb5.mono (by omega))), ⟨⟨owns_below hbk (by simpa using hb5)⟩, ⟨World.ownsRow_nil _ _ _ _⟩, ⟨World.ownsRow_nil _ _ _ _⟩, fun e he => (by cases he), fun g hg => (by cases hg), fun e he => (by cases he), Nat.zero_le _⟩, ⟨?_⟩, fun r hr => (by cases hr), fun r hr => (by cases hr)⟩
  refine ⟨by simp [bytesR, bC_len], .inr ⟨W1.heap.size + 1, (src ++ x4).length, _, rfl, by omega, hr.at_, Nat.le_refl _, by simp [x4]; omega, by simp [bytesR, bC_len], ?_⟩⟩
  simp [bytesR, bC_len]
  rw [List.take_of_length_le (by rw [bC_len]; simp)]
end Go.Proofs.YtooondgaeoobkaaDoor
