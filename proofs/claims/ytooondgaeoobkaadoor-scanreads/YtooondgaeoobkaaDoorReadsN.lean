import Derived.Test.YtooondgaeoobkaaDoorReadsM
namespace Go.Proofs.YtooondgaeoobkaaDoor
open Go.RowKit
set_option linter.unusedVariables false
set_option linter.unusedSimpArgs false

theorem own_src {w W : World} {h g0 n : Nat} {vo vw : Value} {es : List Ent} {src : List UInt8} {rs : List Row} (S : St w W h g0 vo vw es (src ++ x4) rs) (hn : src.length = n) : IsSrc W (some ⟨g0, 0, none⟩) (n + 4) src := by
  have h := S.src n (by simp [x4]; omega)
  have e : (src ++ x4).length = n + 4 := by simp [x4, hn]
  rw [List.take_left' hn, e] at h
  exact h
theorem own_all {w W : World} {h g0 n : Nat} {vo vw : Value} {es : List Ent} {src : List UInt8} {rs : List Row} (S : St w W h g0 vo vw es (src ++ x4) rs) (hn : src.length = n) : IsSrc W (some ⟨g0, 0, none⟩) (n + 4) (src ++ x4) := by
  have e : (src ++ x4).length = n + 4 := by simp [x4, hn]
  have h := S.src (src ++ x4).length (Nat.le_refl _)
  rw [List.take_length, e] at h
  exact h
theorem own_sw {w W : World} {h g0 n : Nat} {vo vw : Value} {es : List Ent} {src : List UInt8} {rs : List Row} (S : St w W h g0 vo vw es (swTo src n) rs) (hn : src.length = n) : IsSrc W (some ⟨g0, 0, none⟩) (n + 4) (src.map swB) ∧ W.ownsRow w.heap.size 5 1 (.slice (some ⟨g0, 0, none⟩) n (n + 4)) n (bC (src.map swB)) := by
  have e := swTo_len src n n hn (Nat.le_refl _)
  have h1 := S.src n (by omega)
  have h2 := S.part n (by omega)
  rw [swTo_take src n hn, e] at h1 h2
  exact ⟨h1, h2⟩
theorem keep_row {w W : World} {h g0 : Nat} {vo vw : Value} {es : List Ent} {ys : List UInt8} {rs : List Row} (S : St w W h g0 vo vw es ys rs) (v u : Value) (t : List Tok) (hl : t.length ≤ 65536)
    (hv : (⟨40, 4, v, (t.map tokQ).length, qsC (t.map tokQ)⟩ : Row) ∈ rs) (hu : (⟨40, 4, u, (t.map tokQ).length, qsC (t.map tokQ)⟩ : Row) ∈ rs) (hf : es.length < 100) :
    Calls Tryd.prog 15 #[.pointer (some ⟨h, 0, none⟩), v, u] W fun e w' => e = .returned (.bool true) ∧ ∃ vo' vw' m, St w w' h g0 vo' vw' (es ++ [⟨v, m, t.map tokQ⟩]) ys rs ∧ Lies m W.heap.size w'.heap.size ∧ W.heap.size ≤ w'.heap.size := by
  refine (keep_any w.heap.size h vo vw v u 0 es (t.map tokQ) W S.bk (S.rows _ hv).own (S.rows _ hu).own (by simp; omega) hf).mono ?_
  rintro e w' ⟨rfl, vo', vw', m, hB, hK, hfr⟩
  refine ⟨rfl, vo', vw', m, S.kept hK hB, ⟨fun g hg => ⟨hfr g hg, ?_⟩⟩, hK.old.size⟩
  have := (hB.rows ⟨v, m, t.map tokQ⟩ (by simp)).2
  exact (this.own.lt g hg).2
theorem St.sub {w W : World} {h g0 : Nat} {vo vw : Value} {es : List Ent} {ys : List UInt8} {rs rs' : List Row} (S : St w W h g0 vo vw es ys rs) (hr : ∀ r ∈ rs', r ∈ rs) : St w W h g0 vo vw es ys rs' :=
  ⟨S.old, S.bk, S.own, fun r h0 => S.rows r (hr r h0), fun r h0 => S.kinds r (hr r h0)⟩
theorem St.copied {w W W' : World} {h g0 n : Nat} {vo vw v : Value} {es : List Ent} {ys : List UInt8} {rs : List Row} (S : St w W h g0 vo vw es ys rs) (hA : Appended (W.alloc (.cells #[] 5)) W' w.heap.size 5 1 (.slice (some ⟨W.heap.size, 0, none⟩) 0 0) n v) :
    St w W' h g0 vo vw es ys rs ∧ W.heap.size ≤ W'.heap.size := by
  have K : ∀ r : Row, r.ok W w.heap.size → r.ok W' w.heap.size := fun r hr => (hA.apart (ok_alloc hr _) (by
    intro g h1 h2
    have : W.heap.size = g := by simpa [Value.ownBlock] using h1
    have := (hr.own.lt g h2).2
    omega)).1
  exact ⟨⟨(S.old.alloc S.size _).trans hA.old, S.bk.map K, K _ S.own, fun r hr => K r (S.rows r hr), S.kinds⟩, by have := hA.old.size; simp at this; omega⟩
theorem src_own {W : World} {B n : Nat} {v : Value} {xs : List UInt8} (h : W.ownsRow B 5 1 v n (bC xs)) : ∃ x cp, v = .slice x n cp ∧ IsSrc W x cp xs := by
  have hl : xs.length = n := by have := h.1; rw [bC_len] at this; omega
  rcases h.2 with ⟨hv, h0⟩ | ⟨g, cap, cur, hv, hb, hg, hnc, hm, _⟩
  · exact ⟨none, 0, by rw [h0]; exact hv, ⟨fun h1 => by omega, by omega, by unfold maxLen; omega⟩⟩
  · refine ⟨_, cap, hv, ⟨fun h1 => ⟨g, 0, rfl, (Array.getElem?_eq_some_iff.1 hg).1, fun i hi => ?_⟩, by omega, by omega⟩⟩
    subst hv
    rw [Nat.zero_add, h.cellAt i (by omega)]
    unfold bC
    simp [hi]
theorem src_own2 {W : World} {B n c : Nat} {x : Option Addr} {xs : List UInt8} (h : W.ownsRow B 5 1 (.slice x n c) n (bC xs)) : IsSrc W x c xs := by
  obtain ⟨x', c', e, h'⟩ := src_own h
  simp only [Value.slice.injEq] at e
  obtain ⟨rfl, _, rfl⟩ := e
  exact h'
theorem again10 {w W : World} {h g0 b1 b2 : Nat} {vo vw : Value} {es : List Ent} {ys : List UInt8} {rx rT : Row} {a1 c1 a2 c2 : Int} (S : St w W h g0 vo vw es ys [rx, faultR b1 a1 c1, faultR b2 a2 c2]) (hx : rx.e = 40) (hne : b1 < b2) (hT : rT.ok W w.heap.size) (heT : rT.e = 5) (a' c' : Int) :
    St w ((W.setCell ⟨b1, 0, none⟩ (.int .i64 a')).setCell ⟨b1, 1, none⟩ (.int .i64 c')) h g0 vo vw es ys [faultR b1 a' c', rx, faultR b2 a2 c2] ∧ rT.ok ((W.setCell ⟨b1, 0, none⟩ (.int .i64 a')).setCell ⟨b1, 1, none⟩ (.int .i64 c')) w.heap.size := by
  have hf := S.rows (faultR b1 a1 c1) (by simp)
  have ho : W.ownsRow w.heap.size 34 1 (.slice (some ⟨b1, 0, none⟩) 2 2) 2 [.int .i64 a1, .int .i64 c1] := hf.own
  have hrx := S.rows rx (by simp)
  have nT : rT.v.ownBlock ≠ some b1 := fun e => apart_kind hT.own ho (by rw [heT]; decide) b1 e rfl
  refine ⟨(S.sub (rs' := [rx, faultR b2 a2 c2]) (by simp)).refault hf ?_ a' c', (hT.set (a := ⟨b1, 0, none⟩) nT _).set (a := ⟨b1, 1, none⟩) nT _⟩
  intro r hr
  rcases List.mem_cons.1 hr with hr | hr
  · subst hr
    exact fun e => apart_kind hrx.own ho (by rw [hx]; decide) b1 e rfl
  · have : r = faultR b2 a2 c2 := by simpa using hr
    subst this
    intro e
    have e' : b2 = b1 := by simpa [faultR, Value.ownBlock] using e
    omega
theorem again12 {w W : World} {h g0 b1 b2 : Nat} {vo vw : Value} {es : List Ent} {ys : List UInt8} {rx ry : Row} {a1 c1 a2 c2 : Int} (S : St w W h g0 vo vw es ys [ry, faultR b1 a1 c1, rx, faultR b2 a2 c2]) (hx : rx.e = 40) (hy : ry.e = 40) (hne : b1 < b2) (a' c' : Int) :
    St w ((W.setCell ⟨b2, 0, none⟩ (.int .i64 a')).setCell ⟨b2, 1, none⟩ (.int .i64 c')) h g0 vo vw es ys [faultR b2 a' c', ry, faultR b1 a1 c1, rx] := by
  have hf := S.rows (faultR b2 a2 c2) (by simp)
  have ho : W.ownsRow w.heap.size 34 1 (.slice (some ⟨b2, 0, none⟩) 2 2) 2 [.int .i64 a2, .int .i64 c2] := hf.own
  have hrx := S.rows rx (by simp)
  have hry := S.rows ry (by simp)
  refine (S.sub (rs' := [ry, faultR b1 a1 c1, rx]) (by intro r hr; simp at hr ⊢; rcases hr with hr | hr | hr <;> simp [hr])).refault hf ?_ a' c'
  intro r hr
  simp only [List.mem_cons, List.not_mem_nil, or_false] at hr
  rcases hr with hr | hr | hr
  · subst hr
    exact fun e => apart_kind hry.own ho (by rw [hy]; decide) b2 e rfl
  · subst hr
    intro e
    have e' : b1 = b2 := by simpa [faultR, Value.ownBlock] using e
    omega
  · subst hr
    exact fun e => apart_kind hrx.own ho (by rw [hx]; decide) b2 e rfl
theorem small4 {a b c d : Ent} (ha : a.l.length ≤ 70000) (hb : b.l.length ≤ 70000) (hc : c.l.length ≤ 70000) (hd : d.l.length ≤ 70000) : ∀ e ∈ [a, b, c, d], e.l.length ≤ 70000 := by
  intro e he
  simp only [List.mem_cons, List.not_mem_nil, or_false] at he
  rcases he with rfl | rfl | rfl | rfl <;> assumption

theorem swB_else (c : UInt8) (h1 : c ≠ 32) (h2 : c ≠ 43) : swB c = c := by unfold swB; rw [if_neg h1, if_neg h2]
theorem swTo_same (src : List UInt8) (k : Nat) (hk : k < src.length) (h1 : src[k] ≠ 32) (h2 : src[k] ≠ 43) : swTo src (k + 1) = swTo src k := by
  have hl : k < (swTo src k).length := by rw [swTo_len src k src.length rfl (by omega)]; omega
  rw [← swTo_step src k hk, swB_else _ h1 h2, ← swTo_at src k hk hl]
  simp
theorem byte_ne (c : UInt8) (z : Nat) (hz : z < 256) (h : c ≠ UInt8.ofNat z) : ((c.toNat : Int) == (z : Int)) = false := by
  rw [beq_eq_false_iff_ne]
  intro e
  apply h
  have : c.toNat = z := by omega
  rw [← this]
  simp
theorem str4 (src : List UInt8) : src ++ x4 = ((⟨src.toArray⟩ : ByteArray) ++ (⟨#[120, 120, 120, 120]⟩ : ByteArray)).toList := by
  have e : ((⟨src.toArray⟩ : ByteArray) ++ (⟨#[120, 120, 120, 120]⟩ : ByteArray)) = ⟨(src ++ x4).toArray⟩ := by
    apply Go.WideShapes.bytes_inj
    simp [x4]
  rw [e, ByteArray.toList_eq]
end Go.Proofs.YtooondgaeoobkaaDoor
