import Derived.Test.YtfdofdpfdimgiaaCGX
import Derived.Laws.Cover3
namespace Go.Proofs.Ytfdofdpfdimgiaa
open Go.RowKit Go.MapKept Go.ChangeMaps Go.WideShapes
set_option linter.unusedVariables false
set_option linter.unusedSimpArgs false

theorem Fr.refl (wb : Nat) (own : Nat → Option Lb) (W : World) : Fr wb own own W W := ⟨rfl, rfl, rfl, Nat.le_refl _, fun _ _ _ _ => rfl, fun _ h => .inl h⟩
theorem Fr.trans {wb : Nat} {o1 o2 o3 : Nat → Option Lb} {A B C : World} (h : Fr wb o1 o2 A B) (k : Fr wb o2 o3 B C) : Fr wb o1 o3 A C :=
  ⟨k.os.trans h.os, k.tape.trans h.tape, k.output.trans h.output, Nat.le_trans h.size k.size, fun b hb ho hw => (k.keep b (Nat.lt_of_lt_of_le hb h.size) (by
    cases hx : o2 b with
    | none => rfl
    | some l =>
      rcases h.new b (by rw [hx]; simp) with h1 | h1
      · exact absurd ho h1
      · omega) hw).trans (h.keep b hb ho hw), fun b hb => by
    rcases k.new b hb with h1 | h1
    · exact h.new b h1
    · exact .inr (Nat.le_trans h.size h1)⟩
theorem Fr.below {wb : Nat} {own : Nat → Option Lb} {A B : World} (h : Below A.heap.size A B) : Fr wb own own A B :=
  ⟨h.os, h.tape, h.output, h.size, fun b hb _ _ => h.block b hb, fun _ h => .inl h⟩
theorem Fr.low {w0 A B : World} {wb : Nat} {o1 o2 : Nat → Option Lb} (h : Fr wb o1 o2 A B) (hb : Below w0.heap.size w0 A) (hl : ∀ b, o1 b ≠ none → w0.heap.size ≤ b) (hw : w0.heap.size ≤ wb) : Below w0.heap.size w0 B :=
  ⟨h.os.trans hb.os, h.tape.trans hb.tape, h.output.trans hb.output, Nat.le_trans hb.size h.size, fun b hbl => (h.keep b (Nat.lt_of_lt_of_le hbl hb.size) (by
    cases hx : o1 b with
    | none => rfl
    | some l =>
      have := hl b (by rw [hx]; simp)
      omega) (by omega)).trans (hb.block b hbl)⟩
theorem neq_map (w : World) (m : Option Nat) : (binOp BinOp.neq 77 (Value.map m) (Value.map none)).run Try.prog w = .ok (.bool (!m.isNone)) w := by
  have h := run_equal_map_nil (P := Try.prog) (w := w) 77 _ _ m Try.underlying77
  simp [binOp, h, go_sem, Result.andThen]
theorem eql_map (w : World) (m : Option Nat) : (binOp BinOp.eql 77 (Value.map m) (Value.map none)).run Try.prog w = .ok (.bool m.isNone) w := by
  have h := run_equal_map_nil (P := Try.prog) (w := w) 77 _ _ m Try.underlying77
  simp [binOp, h, go_sem, Result.andThen]
def awk : Stc := ⟨true, false, false⟩
theorem infoI : (Try.prog.info? 3).map (fun i => (i.zero, i.size, i.bytes)) = some (some (.int .i64 0), 1, 8) := by kernel_rfl
/-- what join has made of who stood where -/
structure Jn (C : Int → Option Nat) (ids ids' : Int → Stc → List Int) (held : List Int) (k : Int) : Prop where
  yes : ∀ c, c ∈ held → C c ≠ none → ids' c awk = ids c awk ++ [k]
  no : ∀ c s, ¬ (s = awk ∧ c ∈ held ∧ C c ≠ none) → ids' c s = ids c s

set_option maxRecDepth 100000 in
set_option maxHeartbeats 8000000 in
theorem join_any (w0 W : World) (wb N : Nat) (C : Int → Option Nat) (V : Int → Stc → Value) (ids : Int → Stc → List Int) (own : Nat → Option Lb) (h : CrI W w0.heap.size wb N C V ids own) (hb : Below w0.heap.size w0 W) (k : Int)
    (hp : Option Addr) (hc : Nat) (held : List Int) (hh : IntsR w0 hp hc held) (hd : held.Pairwise (· < ·)) (hN : N + held.length < maxLen) (hL : ∀ c s, (ids c s).length ≤ 100000) :
    Calls Try.prog 61 #[.map (some wb), .int .i64 k, .slice hp held.length hc] W fun e w' => e = .returned (.tuple #[]) ∧ ∃ V' ids' own', CrI w' w0.heap.size wb (N + held.length) C V' ids' own' ∧ Fr wb own own' W w' ∧ Jn C ids ids' held k := by
  obtain ⟨i0, hi, iz0, iz1, iz2⟩ := info_parts infoI
  have hlc := hh.len
  have hcm := hh.max
  unfold maxLen at hcm
  obtain ⟨X, hX⟩ : ∃ X, W.alloc (.cells #[.bool true, .bool false, .bool false] 74) = X := ⟨_, rfl⟩
  have hbX : Below W.heap.size W X := by rw [← hX]; exact below1 _ _
  have hkX : X.heap[W.heap.size]? = some (.cells #[.bool true, .bool false, .bool false] 74 (0, 0)) := by rw [← hX]; exact World.alloc_heap_new _ _
  have hoX : own W.heap.size = none := by
    cases hx : own W.heap.size with
    | none => rfl
    | some l =>
      have := (h.low _ (by rw [hx]; simp)).2
      omega
  have hwX : W.heap.size ≠ wb := by have := h.map.lt; omega
  have HS : Bx (CrI X w0.heap.size wb N C V ids own ∧ Fr wb own own X X ∧ Jn C ids ids (held.take 0) k ∧ X.heap[W.heap.size]? = some (.cells #[.bool true, .bool false, .bool false] 74 (0, 0))) := ⟨h.below hbX, Fr.refl _ _ _, ⟨fun c hc => by simp at hc, fun c s _ => rfl⟩, hkX⟩
  have HLO : Bx ((∀ b, own b ≠ none → w0.heap.size ≤ b) ∧ w0.heap.size ≤ wb ∧ Below w0.heap.size w0 X ∧ Below W.heap.size W X) := ⟨fun b hb => (h.low b hb).1, h.wbB, hb.trans (hbX.mono hb.size), hbX⟩
  have HXE : Bx (W.alloc (.cells #[.bool true, .bool false, .bool false] 74) = X ∧ X.heap.size = W.heap.size + 1) := ⟨hX, by rw [← hX]; simp⟩
  have HH : Bx (IntsR w0 hp hc held) := ⟨hh⟩
  have HD : Bx (held.Pairwise (· < ·)) := ⟨hd⟩
  clear h hb hh hd hbX hkX hX
  go_enter Try.func61, Try.ntmps61
  go_wp2
  rw [HXE.out.1]
  go_loopg [13] (held.length + 1) (fun g v wr => ∃ i V' ids' own', g = held.length + 1 - i ∧ i ≤ held.length ∧ v = .int .i64 (i : Nat) ∧ Bx (CrI wr w0.heap.size wb (N + i) C V' ids' own' ∧ Fr wb own own' X wr ∧ Jn C ids ids' (held.take i) k ∧ wr.heap[W.heap.size]? = some (.cells #[.bool true, .bool false, .bool false] 74 (0, 0))))
  case atStart => exact ⟨0, V, ids, own, by simp, by omega, rfl, HS⟩
  case round =>
    obtain ⟨i, V', ids', own', hk, hil, rfl, HR⟩ := hrel
    clear HS
    by_cases hlt : i < held.length
    · obtain ⟨b, o, rfl, h64, hcl⟩ := HH.out.at_ i hlt
      have hbw : Below w0.heap.size w0 wr := HR.out.2.1.low HLO.out.2.2.1 HLO.out.1 HLO.out.2.1
      have c0 := hcl wr hbw
      have hmem : held[i] ∈ held := List.getElem_mem hlt
      have hnot : held[i] ∉ held.take i := fun hm => by
        obtain ⟨j, hj, e⟩ := List.mem_iff_getElem.1 hm
        simp at hj
        have := List.pairwise_iff_getElem.1 HD.out j i (by omega) hlt (by omega)
        simp at e
        omega
      have HT : Bx (∀ c, c ∈ held.take (i + 1) ↔ c ∈ held.take i ∨ c = held[i]) := ⟨fun c => by rw [List.take_succ_eq_append_getElem hlt, List.mem_append, List.mem_singleton]⟩
      have HNT : Bx (held[i] ∉ held.take i) := ⟨hnot⟩
      have H64 : Bx (I64 held[i]) := ⟨h64⟩
      clear hcl hmem hnot h64 HH HD
      generalize held[i] = cc at *
      have hlk := HR.out.1.map.look Try.underlying65 Try.zeroValue77 H64.out
      cases hC : C cc with
      | none =>
        simp only [hC] at hlk
        have HF : Bx (CrI wr w0.heap.size wb (N + (i + 1)) C V' ids' own' ∧ Fr wb own own' X wr ∧ Jn C ids ids' (held.take (i + 1)) k ∧ wr.heap[W.heap.size]? = some (.cells #[.bool true, .bool false, .bool false] 74 (0, 0))) := ⟨HR.out.1.mono (by omega), HR.out.2.1, ⟨fun c hc hcn => by
            rcases (HT.out c).1 hc with h1 | rfl
            · exact HR.out.2.2.1.yes c h1 hcn
            · exact absurd hC hcn, fun c s hn => HR.out.2.2.1.no c s (fun x => hn ⟨x.1, (HT.out c).2 (.inl x.2.1), x.2.2⟩)⟩, HR.out.2.2.2⟩
        have hnq := neq_map wr none
        simp only [Option.isNone_none, Bool.not_true] at hnq
        clear HR hC
        go_wp2
        go_roundg (held.length + 1 - (i + 1))
        case measure => omega
        case rel => exact ⟨i + 1, V', ids', own', rfl, by omega, by simp, HF⟩
      | some cb =>
        simp only [hC] at hlk
        have hnq := neq_map wr (some cb)
        simp only [Option.isNone_some, Bool.not_false] at hnq
        have hst := HR.out.2.2.2
        have d0 : wr.cell? ⟨W.heap.size, 0, none⟩ = some (.bool true) := cell_of hst rfl
        have d1 : wr.cell? ⟨W.heap.size, 1, none⟩ = some (.bool false) := cell_of hst rfl
        have d2 : wr.cell? ⟨W.heap.size, 2, none⟩ = some (.bool false) := cell_of hst rfl
        obtain ⟨st, X1, hme, hrow, hnew, hz1, hfin⟩ := HR.out.1.add hC awk k (by unfold maxLen at *; omega)
        have hold : ids' cc awk = ids cc awk := HR.out.2.2.1.no cc awk (fun x => HNT.out x.2.1)
        have hLc : (ids' cc awk).length ≤ 100000 := by rw [hold]; exact hL cc awk
        have hB : w0.heap.size ≤ X1.heap.size := by
          have := HR.out.1.map.lt
          have := HLO.out.2.1
          omega
        have HFN : Bx (∀ g cap w', w'.ownsRow w0.heap.size 3 1 (.slice (some ⟨g, 0, none⟩) ((ids' cc awk).length + 1) cap) ((ids' cc awk).length + 1) (rowC (ids' cc awk) ++ [.int .i64 k]) → X1.grownBy w' (V' cc awk).ownBlock → ((V' cc awk).ownBlock = some g ∨ g = wr.heap.size + 1) → g < w'.heap.size → ∃ w3, (Instr.entryStore 77 (.map (some cb)) (goInt st) (.slice (some ⟨g, 0, none⟩) ((ids' cc awk).length + 1) cap)).run Try.prog w' = .ok () w3 ∧ ∃ V2 ids2 own2, CrI w3 w0.heap.size wb (N + (i + 1)) C V2 ids2 own2 ∧ Fr wb own own2 X w3 ∧ Jn C ids ids2 (held.take (i + 1)) k ∧ w3.heap[W.heap.size]? = some (.cells #[.bool true, .bool false, .bool false] 74 (0, 0))) := ⟨fun g cap w' a1 a2 a3 a4 => by
          obtain ⟨w3, r3, c3, f3⟩ := hfin g cap w' a1 a2 a3 a4
          have hlst := (Array.getElem?_eq_some_iff.1 hst).1
          have ho' : own' W.heap.size = none := by
            cases hx : own' W.heap.size with
            | none => rfl
            | some l =>
              rcases HR.out.2.1.new W.heap.size (by rw [hx]; simp) with h1 | h1
              · exact absurd hoX h1
              · have := HXE.out.2
                omega
          refine ⟨w3, r3, _, _, _, by rw [← Nat.add_assoc]; exact c3, HR.out.2.1.trans f3, ⟨fun c hc hcn => ?_, fun c s hn => ?_⟩, (f3.keep W.heap.size hlst ho' hwX).trans hst⟩
          · by_cases e : c = cc
            · subst e; rw [upd2_same, hold]
            · rw [upd2_other _ _ _ _ e]
              rcases (HT.out c).1 hc with h1 | h1
              · exact HR.out.2.2.1.yes c h1 hcn
              · exact absurd h1 e
          · by_cases e : c = cc
            · subst e
              have e2 : s ≠ awk := fun x => hn ⟨x, (HT.out c).2 (.inr rfl), by rw [hC]; simp⟩
              rw [upd2_row _ _ _ e2]
              exact HR.out.2.2.1.no c s (fun x => e2 x.1)
            · rw [upd2_other _ _ _ _ e]
              exact HR.out.2.2.1.no c s (fun x => hn ⟨x.1, (HT.out c).2 (.inl x.2.1), x.2.2⟩)⟩
        have HOW : Bx _ := ⟨hrow⟩
        have HNW : Bx _ := ⟨hnew⟩
        rw [show stV awk = .agg #[.bool true, .bool false, .bool false] from rfl] at hme
        clear HR hC hst hfin hrow hnew hold HLO HT HNT
        generalize hids : ids' cc awk = iz at *
        generalize hV : V' cc awk = vz at *
        obtain ⟨sp, sc, rfl, hsc⟩ : ∃ sp sc, vz = .slice sp iz.length sc ∧ iz.length ≤ sc := by
          rcases HOW.out.2 with ⟨h1, h2⟩ | ⟨g, cap, cur, h1, _, _, h4, _⟩
          · exact ⟨none, 0, by rw [h1, h2], by omega⟩
          · exact ⟨_, cap, h1, h4⟩
        go_wp2_with (first | (at_builtin; (refine wpList_app _ rfl (.tmp 24) (.tmp 26) 45 rfl w0.heap.size 3 i0 (.int .i64 0) 1 8 Try.underlying45 hi iz0 iz1 iz2 rfl (by decide) (.slice sp iz.length sc) iz.length (rowC iz) rfl HOW.out ⟨wr.heap.size, 0, none⟩ 1 1 [.int .i64 k] rfl rfl (block_cells _ _ #[.int .i64 k] 3 HNW.out) (by simp [Value.oneCell']) (by decide) (by unfold maxLen; omega) (by omega) hB (wr.heap.size + 1) hz1 ?_; intro gg gcap w5 hown5 hgrow5 hgi5 hgl5; obtain ⟨w6, hes, V2, ids2, own2, hF⟩ := HFN.out gg gcap w5 hown5 hgrow5 hgi5 hgl5; have HF : Bx _ := ⟨hF⟩; simp only [goInt] at hes; clear hown5 hgrow5 hgi5 hF)))
        go_roundg (held.length + 1 - (i + 1))
        case measure => omega
        case rel => exact ⟨i + 1, V2, ids2, own2, rfl, by omega, by simp, HF⟩
    · have hie : i = held.length := by omega
      subst hie
      rw [List.take_length] at HR
      go_wp2
      go_end0
      exact ⟨rfl, V', ids', own', HR.out.1, (Fr.below HLO.out.2.2.2).trans HR.out.2.1, HR.out.2.2.1⟩
end Go.Proofs.Ytfdofdpfdimgiaa
