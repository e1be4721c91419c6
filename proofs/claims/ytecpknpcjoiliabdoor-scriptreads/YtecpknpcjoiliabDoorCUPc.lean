import Derived.Test.YtecpknpcjoiliabDoorCUPb
namespace Go.Proofs.YtecpknpcjoiliabDoor
open Go.RowKit
set_option linter.unusedVariables false
set_option linter.unusedSimpArgs false

theorem word_len (k : Int) : (shapeI k).1.length ≤ 5 := by
  unfold shapeI shapesT
  match k.toNat - 1 with
  | 0 => decide
  | 1 => decide
  | 2 => decide
  | 3 => decide
  | n + 4 => simp [noShape]
theorem pickT_len {p : Pk} (h : p.Wf) : (pickT p).length ≤ 48 := by
  have h1 := nums_le (pickN_wf h)
  have h2 := pickN_len p
  have h3 := ar_le p.kind
  have h4 := word_len p.kind
  unfold pickT lineT
  simp only [List.length_append, List.length_cons, List.length_nil]
  omega
theorem picks_len : ∀ {ps : List Pk}, (∀ p ∈ ps, p.Wf) → (ps.flatMap pickT).length ≤ 48 * ps.length
  | [], _ => by simp
  | p :: r, h => by
    have h1 := pickT_len (h p List.mem_cons_self)
    have h2 := picks_len fun q hq => h q (List.mem_cons_of_mem _ hq)
    simp only [List.flatMap_cons, List.length_append, List.length_cons]
    omega
theorem head_len {s : Sc} (h : s.Wf) : (headT s).length ≤ 200 := by
  have h1 := nums_le h.lim
  have e : (lmL s.lim).length = 7 := rfl
  have e2 : (if s.reap = true then reapW else keepW).length = 4 := by cases s.reap <;> rfl
  have e3 : limitsW.length = 6 := rfl
  have e4 : (numsT []).length = 0 := rfl
  unfold headT lineT
  simp only [List.length_append, List.length_cons, List.length_nil, e2, e3, e4]
  omega
theorem flat_take {ps : List Pk} {k : Nat} (h : k < ps.length) : (ps.take (k + 1)).flatMap pickT = (ps.take k).flatMap pickT ++ pickT ps[k] := by
  rw [List.take_succ_eq_append_getElem h, List.flatMap_append]
  simp
/-- what write answers, and leaves -/
def WrP (w : World) (s : Sc) (v er : Value) (w' : World) : Prop := Below w.heap.size w w' ∧ ((writeS s = (textS s, 0) ∧ er = .nilIface ∧ BO w' w.heap.size v (textS s)) ∨ ∃ c, writeS s = ([], c) ∧ c ≠ 0 ∧ er = wrV 0 c)
theorem BO.low {w : World} {B B' : Nat} {v : Value} {bs : List UInt8} (h : BO w B v bs) (hB : B' ≤ B) : BO w B' v bs := by
  obtain ⟨z1, z2⟩ := h
  refine ⟨z1, ?_⟩
  rcases z2 with z2 | ⟨g, cp, cur, q1, q2, q3⟩
  · exact .inl z2
  · exact .inr ⟨g, cp, cur, q1, by omega, q3⟩
theorem all_no {ps : List Pk} {k : Nat} (h : k < ps.length) (hf : fitK ps[k] = false) : ps.all fitK = false := by
  cases hq : ps.all fitK with
  | false => rfl
  | true =>
    rw [List.all_eq_true] at hq
    rw [hq _ (List.getElem_mem h)] at hf
    cases hf
set_option maxRecDepth 100000 in
set_option maxHeartbeats 8000000 in
theorem write_any (w : World) (hL : LW w) (s : Sc) (hw : s.Wf) (pa : Option Addr) (pc : Nat) (hp : PkV w w.heap.size pa s.picks) :
    Calls Tryd.prog 17 #[scV s.lim s.reap (.slice pa s.picks.length pc)] w fun e w' => ∃ v er, e = .returned (.tuple #[v, er]) ∧ Bx (WrP w s v er w') := by
  obtain ⟨m, rp, ps⟩ := s
  simp only at hp ⊢
  obtain ⟨w0, hw0⟩ : ∃ w0, w0 = w.alloc (.cells #[.int .i64 m.a, .int .i64 m.b, .int .i64 m.c, .int .i64 m.d, .int .i64 m.e, .int .i64 m.f, .int .i64 m.g, .bool rp, .slice pa ps.length pc] 31) := ⟨_, rfl⟩
  have hb0 : Below w.heap.size w w0 := by rw [hw0]; exact below1 w _
  have hs0 : w0.heap.size = w.heap.size + 1 := by rw [hw0]; simp
  have hsb : w0.heap[w.heap.size]? = some (.cells #[.int .i64 m.a, .int .i64 m.b, .int .i64 m.c, .int .i64 m.d, .int .i64 m.e, .int .i64 m.f, .int .i64 m.g, .bool rp, .slice pa ps.length pc] 31 (0, 0)) := by rw [hw0]; exact heap_newH _ _ _ rfl
  obtain ⟨B, hB⟩ : ∃ B, B = w0.heap.size := ⟨_, rfl⟩
  have hwB : w.heap.size ≤ B := by omega
  have hmax := hp.max
  unfold maxLen at hmax
  have HLW : Bx (∀ W, Below B w0 W → LW W) := ⟨fun W hb => hL.below (hb0.trans (hb.mono hwB))⟩
  have HPV : Bx (∀ W, Below B w0 W → PkV W B pa ps) := ⟨fun W hb => ((hp.below hb0).up hwB).below hb⟩
  have HPW : Bx (PowAt B w0) := ⟨fun w' hb => hL.pow w' (hb0.trans (hb.mono hwB))⟩
  have HCS : Bx (∀ W, Below B w0 W → W.cell? ⟨w.heap.size, 7, none⟩ = some (.bool rp) ∧ W.cell? ⟨w.heap.size, 8, none⟩ = some (.slice pa ps.length pc)) := ⟨fun W hb => by
    have e := hb.block w.heap.size (by omega)
    rw [hsb] at e
    exact ⟨cell_blk e rfl, cell_blk e rfl⟩⟩
  obtain ⟨Q0, hQ0⟩ : ∃ Q, Q = WrP w ⟨m, rp, ps⟩ := ⟨_, rfl⟩
  have HNO : Bx (∀ v c W, Below B w0 W → writeS ⟨m, rp, ps⟩ = ([], c) → c ≠ 0 → Q0 v (wrV 0 c) W) := ⟨fun v c W hb h1 h2 => by rw [hQ0]; exact ⟨hb0.trans (hb.mono hwB), Or.inr ⟨c, h1, h2, rfl⟩⟩⟩
  have HYE : Bx (∀ v W, KU B w0 W → fitS ⟨m, rp, ps⟩ = true → BO W B v (textS ⟨m, rp, ps⟩) → Q0 v .nilIface W) := ⟨fun v W hb h1 h2 => by rw [hQ0]; exact ⟨hb0.trans (hb.bel.mono hwB), Or.inl ⟨writeS_fit h1, rfl, h2.low hwB⟩⟩⟩
  rw [← hQ0]
  have c7 := (HCS.out w0 (Below.refl _ _)).1
  obtain ⟨d0, d1, d2, d3, d4, d5, d6, d7, d8⟩ := cells9 hsb
  by_cases hmany : ps.length ≤ 4096
  · have hBle : B ≤ w0.heap.size := by omega
    have HA1 : Bx (Calls Tryd.prog 27 #[.slice none 0 0, strV limitsW, .slice (some ⟨w0.heap.size + 1, 0, none⟩) 7 7] ((w0.alloc (.cells #[.int .i64 m.a, .int .i64 m.b, .int .i64 m.c, .int .i64 m.d, .int .i64 m.e, .int .i64 m.f, .int .i64 m.g] 28)).alloc (.cells #[.int .i64 m.a, .int .i64 m.b, .int .i64 m.c, .int .i64 m.d, .int .i64 m.e, .int .i64 m.f, .int .i64 m.g] 3)) fun e w' => ∃ v', e = .returned v' ∧ Bx (BO w' B v' (lineT limitsW (lmL m)) ∧ KU B w0 w')) := ⟨by
      obtain ⟨X, hX⟩ : ∃ X, X = (w0.alloc (.cells #[.int .i64 m.a, .int .i64 m.b, .int .i64 m.c, .int .i64 m.d, .int .i64 m.e, .int .i64 m.f, .int .i64 m.g] 28)).alloc (.cells #[.int .i64 m.a, .int .i64 m.b, .int .i64 m.c, .int .i64 m.d, .int .i64 m.e, .int .i64 m.f, .int .i64 m.g] 3) := ⟨_, rfl⟩
      have hbX : Below w0.heap.size w0 X := by rw [hX]; exact (below1 w0 _).alloc (by simp) _
      have hib : X.heap[w0.heap.size + 1]? = some (.cells #[.int .i64 m.a, .int .i64 m.b, .int .i64 m.c, .int .i64 m.d, .int .i64 m.e, .int .i64 m.f, .int .i64 m.g] 3 (0, 0)) := by rw [hX]; exact heap_newH _ _ _ (by simp)
      rw [← hX]
      have hi : IntsS X B (some ⟨w0.heap.size + 1, 0, none⟩) 7 (lmL m) := IntsS.head hib (by decide) (fun i h => by
        match i, h with
        | 0, _ => rfl
        | 1, _ => rfl
        | 2, _ => rfl
        | 3, _ => rfl
        | 4, _ => rfl
        | 5, _ => rfl
        | 6, _ => rfl) (show 7 ≤ maxLen by unfold maxLen; omega) (show 7 ≤ 7 by omega)
      have := addLine_any X B (.slice none 0 0) [] limitsW _ 7 (lmL m) (Nat.le_trans hBle hbX.size) (World.ownsRow_nil _ _ _ _) hi hw.lim (show 0 + 6 + 21 * 7 ≤ 140737488355326 by omega) (HPW.out.on (hbX.mono hBle))
      refine this.mono ?_
      rintro e w' ⟨v', rfl, H⟩
      exact ⟨v', rfl, ⟨by simpa using H.out.1, ((KU.refl B w0).below hBle hbX).trans H.out.2.ku⟩⟩⟩
    have HA2 : Bx (∀ w3 v3, BO w3 B v3 (lineT limitsW (lmL m)) ∧ KU B w0 w3 → Calls Tryd.prog 27 #[v3, strV (if rp then reapW else keepW), .slice none 0 0] w3 fun e w' => ∃ v', e = .returned v' ∧ Bx (BO w' B v' (headT ⟨m, rp, ps⟩) ∧ KU B w0 w')) := ⟨fun w3 v3 h => by
      have hi : IntsS w3 B none 0 [] := fun w' _ => intsV_nil _ _ _ _
      have h1 : (numsT (lmL m)).length ≤ 21 * (lmL m).length := nums_le hw.lim
      have e1 : (lmL m).length = 7 := rfl
      have e3 : limitsW.length = 6 := rfl
      have e2 : (if rp = true then reapW else keepW).length = 4 := by cases rp <;> rfl
      have hln : (lineT limitsW (lmL m)).length ≤ 160 := by unfold lineT; simp only [List.length_append, List.length_cons, List.length_nil]; omega
      refine (addLine_any w3 B v3 _ (if rp then reapW else keepW) none 0 [] (Nat.le_trans hBle h.2.size) h.1 hi (fun x hx => by cases hx) (by rw [e2]; simp; omega) (HPW.out.on h.2.bel)).mono ?_
      rintro e w' ⟨v', rfl, H⟩
      exact ⟨v', rfl, ⟨H.out.1, h.2.trans H.out.2.ku⟩⟩⟩
    have hhl := head_len hw
    have HPY : Bx (∀ wr vv (k : Nat) (hk : k < ps.length) o, BO wr B vv (headT ⟨m, rp, ps⟩ ++ (ps.take k).flatMap pickT) ∧ KU B w0 wr → fitK ps[k] = true → Calls Tryd.prog 28 #[vv, .agg #[.int .i64 ps[k].kind, .int .i64 ps[k].n, .int .i64 ps[k].v]] (wr.alloc o) fun e w' => ∃ v', e = .returned (.tuple #[v', .nilIface]) ∧ Bx (BO w' B v' (headT ⟨m, rp, ps⟩ ++ (ps.take (k + 1)).flatMap pickT) ∧ KU B w0 w')) := ⟨fun wr vv k hk o h hf => by
      have hku := h.2.alloc (Nat.le_trans hBle h.2.size) o
      have hpl := picks_len (ps := ps.take k) fun p hp => hw.picks p (List.mem_of_mem_take hp)
      rw [List.length_take] at hpl
      refine (addPick_yes (wr.alloc o) B vv _ ps[k] (hw.picks _ (List.getElem_mem hk)) hf (HLW.out _ hku.bel) (Nat.le_trans hBle hku.size) (h.1.alloc o) (by rw [List.length_append]; omega) (HPW.out.on hku.bel)).mono ?_
      rintro e w' ⟨v', rfl, H⟩
      exact ⟨v', rfl, ⟨by rw [flat_take hk, ← List.append_assoc]; exact H.out.1, hku.trans H.out.2.ku⟩⟩⟩
    have HPN : Bx (∀ wr vv (k : Nat) (hk : k < ps.length) o, BO wr B vv (headT ⟨m, rp, ps⟩ ++ (ps.take k).flatMap pickT) ∧ KU B w0 wr → fitK ps[k] = false → Calls Tryd.prog 28 #[vv, .agg #[.int .i64 ps[k].kind, .int .i64 ps[k].n, .int .i64 ps[k].v]] (wr.alloc o) fun e w' => e = .returned (.tuple #[.slice none 0 0, wrV 0 171]) ∧ Bx (Q0 (.slice none 0 0) (wrV 0 171) w')) := ⟨fun wr vv k hk o h hf => by
      have hku := h.2.alloc (Nat.le_trans hBle h.2.size) o
      have hpl := picks_len (ps := ps.take k) fun p hp => hw.picks p (List.mem_of_mem_take hp)
      rw [List.length_take] at hpl
      refine (addPick_bad (wr.alloc o) B vv _ ps[k] (hw.picks _ (List.getElem_mem hk)) hf (HLW.out _ hku.bel) (Nat.le_trans hBle hku.size) (h.1.alloc o) (by rw [List.length_append]; omega) (HPW.out.on hku.bel)).mono ?_
      rintro e w' ⟨rfl, H⟩
      refine ⟨rfl, ⟨HNO.out _ 171 w' (hku.bel.trans (H.out.mono (Nat.le_trans hBle hku.size))) ?_ (by decide)⟩⟩
      unfold writeS
      rw [if_pos hmany, if_neg (by rw [all_no hk hf]; decide)]⟩
    have hm2 : (ps.length : Int) ≤ 4096 := by omega
    obtain ⟨np, hnp⟩ : ∃ np, np = ps.length := ⟨_, rfl⟩
    have HFS : Bx ((∀ i (h : i < ps.length), fitK ps[i] = true) → fitS ⟨m, rp, ps⟩ = true) := ⟨fun h => by
      unfold fitS
      simp only [Bool.and_eq_true, decide_eq_true_eq, List.all_eq_true]
      refine ⟨hmany, fun p hp => ?_⟩
      obtain ⟨i, hi, rfl⟩ := List.getElem_of_mem hp
      exact h i hi⟩
    clear hQ0 hb0 hp hL hw hsb
    have HA1B : Bx (Calls Tryd.prog 27 #[.slice none 0 0, strV [108, 105, 109, 105, 116, 115], .slice (some ⟨w.heap.size + 1 + 1, 0, none⟩) 7 7] ((w0.alloc (.cells #[.int .i64 m.a, .int .i64 m.b, .int .i64 m.c, .int .i64 m.d, .int .i64 m.e, .int .i64 m.f, .int .i64 m.g] 28)).alloc (.cells #[.int .i64 m.a, .int .i64 m.b, .int .i64 m.c, .int .i64 m.d, .int .i64 m.e, .int .i64 m.f, .int .i64 m.g] 3)) fun e w' => ∃ v', e = .returned v' ∧ Bx (BO w' B v' (lineT limitsW (lmL m)) ∧ KU B w0 w')) := ⟨by have := HA1.out; rw [hs0] at this; exact this⟩
    have HR3 : Bx (∀ W, KU B w0 W → W.cell? ⟨w.heap.size, 7, none⟩ = some (.bool rp) ∧ W.cell? ⟨w.heap.size, 8, none⟩ = some (.slice pa ps.length pc)) := ⟨fun W h => HCS.out W h.bel⟩
    have hdec : decide ((4096 : Int) < (ps.length : Int)) = false := by simp; omega
    clear HA1 HCS HLW
    cases rp
    all_goals
      simp only [Bool.false_eq_true, if_false, if_true, keepW, reapW] at HA2
      go_enter Tryd.func17, Tryd.ntmps17
      go_wp2_with (first
        | (go_at_call 27; refine (HA2.out _ _ H1.out).mono ?_; rintro e w4 ⟨v4, rfl, H4⟩; obtain ⟨e7, e8⟩ := HR3.out _ H4.out.2)
        | (go_at_call 27; rw [← hw0]; refine HA1B.out.mono ?_; rintro e w3 ⟨v3, rfl, H1⟩; obtain ⟨g7, g8⟩ := HR3.out _ H1.out.2; clear HA1B))
    all_goals
      clear HA2 H1 g7 g8 hw0
      go_loopw [42, 5] (fun x v wr => ∃ (k : Nat) (vv : Value), k ≤ ps.length ∧ x = .int .i64 k ∧ vv = v ∧ Bx ((BO wr B vv (headT ⟨m, _, ps⟩ ++ (ps.take k).flatMap pickT) ∧ KU B w0 wr) ∧ ∀ i (h : i < k) (h2 : i < ps.length), fitK ps[i] = true)) (fun x _ _ => ps.length - (intOf x).toNat)
      case atStart => exact ⟨0, _, Nat.zero_le _, rfl, rfl, ⟨⟨by rw [List.take_zero, List.flatMap_nil, List.append_nil]; exact H4.out.1, H4.out.2⟩, fun i h => absurd h (by omega)⟩⟩
      case round =>
        obtain ⟨k, vv, hk, rfl, rfl, HS⟩ := hrel
        clear H4
        by_cases hlt : k < ps.length
        · obtain ⟨b, o, rfl, hbB, hc⟩ := (HPV.out wr HS.out.1.2.bel).at_ (by omega)
          obtain ⟨k0, k1, k2⟩ := hc k hlt
          cases hf : fitK ps[k]
          · have HP : Bx _ := ⟨HPN.out wr vv k hlt (.cells #[.int .i64 ps[k].kind, .int .i64 ps[k].n, .int .i64 ps[k].v] 39) HS.out.1 hf⟩
            clear hc HS hf HPY HPN HNO HYE HFS HPV
            generalize ps[k].kind = qk at *
            generalize ps[k].n = qn at *
            generalize ps[k].v = qv at *
            go_wp2_with (go_at_call 28; refine HP.out.mono ?_; rintro e w5 ⟨rfl, H5⟩)
            go_ret2
            exact ⟨_, _, rfl, H5⟩
          · have HP : Bx _ := ⟨HPY.out wr vv k hlt (.cells #[.int .i64 ps[k].kind, .int .i64 ps[k].n, .int .i64 ps[k].v] 39) HS.out.1 hf⟩
            have HFT : Bx (∀ i (h : i < k + 1) (h2 : i < ps.length), fitK ps[i] = true) := ⟨fun i h h2 => by
              by_cases e : i < k
              · exact HS.out.2 i e h2
              · have : i = k := by omega
                subst this
                exact hf⟩
            clear hc HS hf HPN HNO HYE HFS HPV HPY
            generalize ps[k].kind = qk at *
            generalize ps[k].n = qn at *
            generalize ps[k].v = qv at *
            go_wp2_with (go_at_call 28; refine HP.out.mono ?_; rintro e w5 ⟨v5, rfl, H5⟩)
            go_roundw
            case rel => exact ⟨k + 1, _, by omega, by go_num, rfl, ⟨H5.out, HFT.out⟩⟩
            case measure => simp [intOf]; omega
        · have hke : k = ps.length := by omega
          subst hke
          have HF : Bx _ := ⟨HYE.out vv wr HS.out.1.2 (HFS.out fun i h => HS.out.2 i h h) (by unfold textS; have := HS.out.1.1; rw [List.take_of_length_le (Nat.le_refl _)] at this; exact this)⟩
          clear HS HPY HPN HNO HYE HFS HPV
          go_wp2
          go_ret2
          exact ⟨_, _, rfl, HF⟩
  · have hm2 : (4096 : Int) < (ps.length : Int) := by omega
    have HF : Bx _ := ⟨HNO.out (.slice none 0 0) 172 w0 (Below.refl _ _) (by unfold writeS; rw [if_neg hmany]) (by decide)⟩
    clear hQ0 hb0 hp hL hw hsb
    go_enter Tryd.func17, Tryd.ntmps17
    go_wp2
    go_ret2
    exact ⟨_, _, rfl, by rw [← hw0]; exact HF⟩
end Go.Proofs.YtecpknpcjoiliabDoor
