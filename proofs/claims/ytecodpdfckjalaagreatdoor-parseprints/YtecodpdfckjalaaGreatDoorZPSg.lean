import Derived.Test.YtecodpdfckjalaaGreatDoorZTTks
import Derived.Test.YtecodpdfckjalaaGreatDoorZSignP
import Derived.Test.YtecodpdfckjalaaGreatDoorZScan
import Derived.Test.YtecodpdfckjalaaGreatDoorZTPlain
import Derived.Test.YtecodpdfckjalaaGreatDoorZTKfg
import Derived.WalkSmall
import Derived.Deep.RegionHeld
import Derived.Deep.QuietTactic
import Derived.BigQuiet
import Derived.WalkLawsBesides
set_option linter.unusedVariables false
set_option linter.unusedSimpArgs false
set_option maxHeartbeats 4000000
set_option maxRecDepth 100000
namespace Go.Proofs.YtecodpdfckjalaaGreatDoor
open Go.RowKit
attribute [local simp] txT_mk txs_nil txs_cons txs_app txs_len rowL_cons rowL_nil rowL_app innerL_one resL_nil resL_one nodeL_1 nodeL_2 nodeL_3 nodeL_4 nodeL_5 nodeL_6 nodeL_7 nodeL_11 nodeL_12 nodeL_13 nodeL_14 nodeL_15 nodeL_16 nodeL_17 nodeL_18 nodeL_19 nodeL_20 nodeL_21 nodeL_22 nodeL_23 nodeL_24 nodeL_25 nodeL_31 nodeL_32 nodeL_33 nodeL_34 nodeL_35 nodeL_36 nodeL_37 nodeL_38 nodeL_39 nodeL_40 nodeL_41 nodeL_42 nodeL_43 nodeL_44 nodeL_45 nodeL_46 txtK_10 txtK_11 txtK_12 txtK_13 txtK_14 txtK_15 txtK_16 txtK_17 txtK_18 txtK_19 txtK_20 txtK_21 txtK_22 txtK_23 txtK_24 txtK_25 txtK_26 txtK_27 txtK_28 txtK_29 txtK_30 txtK_40 txtK_41 txtK_42 txtK_43 txtK_44 txtK_45 txtK_46 txtK_47 txtK_48 txtK_49 txtK_50 txtK_51 txtK_52 txtK_53 txtK_54 txtK_55 txtK_56 txtK_57 txtK_58 txtK_59 txtK_60 txtK_61 txtK_62 txtK_63 txtK_64 txtK_65 txtK_66
theorem jq {k : Int} {p : Nat} {n : Int} {nm : List UInt8} {ks : List Tr} (h : 11 <= k /\ k <= 20) : exL 7 (.mk k p n nm ks) := by
 have e : aL k = true := by simp [aL]; omega
 refine ⟨e, ?_⟩
 show 7 <= dL k n
 unfold dL
 rw [if_neg (by omega), if_neg (by omega), if_neg (by omega), if_pos e]
 decide
theorem Ab {g : Rl -> List ax -> Res} (H : HH g) (s : List ax) (hs : GT s) : Sd s (Pr .primary) (body g .primary s) := by
 unfold body
 refine bV (fun h => ?_) (fun _ => bV (fun h => ?_) (fun _ => bV (fun h => ?_) (fun _ => bV (fun h => ?_) (fun _ => bV (fun h => ?_) (fun _ => bV (fun h => ?_) (fun _ => bV (fun h => ?_) (fun _ => bV (fun h => ?_) (fun _ => bV (fun h => ?_) (fun _ => ?_)))))))))
 ·exact gK hs h (by decide) (fun g1 => dw g1 (bf rfl (by decide) rfl rfl rfl trivial) ⟨_, rfl, jq (by decide), by simp only [txT_mk, nodeL_12, txtK_26]; decide⟩)
 ·exact gK hs h (by decide) (fun g1 => dw g1 (bf rfl (by decide) rfl rfl rfl trivial) ⟨_, rfl, jq (by decide), by simp only [txT_mk, nodeL_12, txtK_16]; decide⟩)
 ·refine aM hs (by decide) (fun g1 => aW (H (.parted .expr) _ trivial g1) (fun a s2 y g2 wa q => aM g2 (by decide) (fun g3 => ?_)))
  obtain ⟨hne, ha, rfl⟩ := q
  match a, hne, ha, wa with
  | [t], hne, ha, wa =>
   rw [if_pos (show ([t] : List Tr).length = 1 from rfl)]
   exact dw g3 (bf rfl (by decide) rfl rfl (fM (qh ..) (fV aL t (ha t List.mem_cons_self))) wa) ⟨_, rfl, jq (by decide), by simp⟩
  | t :: u :: a, hne, ha, wa =>
   rw [if_neg (show ¬ (t :: u :: a).length = 1 by simp)]
   exact dw g3 (bf rfl (by decide) rfl rfl (fM (qi ..) (tJ aL aL t u a (ha t List.mem_cons_self) (ha u (by simp)) (fun x hx => ha x (by simp [hx])))) wa) ⟨_, rfl, jq (by decide), by simp⟩
 ·refine aM hs (by decide) (fun g1 => aW (H (.parted .expr) _ trivial g1) (fun a s2 y g2 wa q => aM g2 (by decide) (fun g3 => ?_)))
  obtain ⟨hne, ha, rfl⟩ := q
  match a, hne, ha, wa with
  | t :: a, hne, ha, wa =>
   exact dw g3 (bf rfl (by decide) rfl rfl (fM (qj ..) (rD aL aL t a (ha t List.mem_cons_self) (fun x hx => ha x (by simp [hx])))) wa) ⟨_, rfl, jq (by decide), by simp⟩
 ·refine aM hs (by decide) (fun g1 => aM g1 (by decide) (fun g2 => aW (H (.operands 1) _ ⟨by decide, by decide⟩ g2) (fun a s3 y g3 wa q => aM g3 (by decide) (fun g4 => aW (H (.operands 1) _ ⟨by decide, by decide⟩ g4) (fun b s5 z g5 wb q5 => aM g5 (by decide) (fun g6 => ?_))))))
  obtain ⟨t, rfl, ht, rfl⟩ := q
  obtain ⟨u, rfl, hu, rfl⟩ := q5
  exact dw g6 (bf rfl (by decide) rfl rfl (fM (ql ..) (jB aL aL t u ht.1 hu.1)) (di wa wb)) ⟨_, rfl, jq (by decide), by simp [kV]⟩
 ·refine aM hs (by decide) (fun g1 => aM g1 (by decide) (fun g2 => aW (H (.operands 1) _ ⟨by decide, by decide⟩ g2) (fun a s3 y g3 wa q => aM g3 (by decide) (fun g4 => ?_))))
  obtain ⟨t, rfl, ht, rfl⟩ := q
  exact dw g4 (bf rfl (by decide) rfl rfl (fM (qm ..) (fV aL t ht.1)) wa) ⟨_, rfl, jq (by decide), by simp⟩
 ·refine aM hs (by decide) (fun g1 => aW (H .chanT _ trivial g1) (fun a s3 y g3 wa q => ?_))
  obtain ⟨t, rfl, ht, rfl⟩ := q
  exact dw g3 (bf rfl (by decide) rfl rfl (fM (qo ..) (fV (cu 6) t (by rw [ht]; rfl))) wa) ⟨_, rfl, jq (by decide), by simp⟩
 ·refine gJ (H .prog _ trivial hs) (fun a x wa q => ?_)
  obtain ⟨t, rfl, ht, rfl⟩ := q
  exact ⟨t, rfl, ⟨by rw [ht.1]; rfl, ht.2⟩, rfl⟩
 ·exact EM hs (fun n g1 => dw g1 (bf rfl (by decide) (by simp [bz]) rfl rfl trivial) ⟨_, rfl, jq (by decide), by simp⟩)
 ·exact jA hs (fun n hn g1 => dw g1 (bf rfl (by decide) rfl (jo hn (by decide)) rfl trivial) ⟨_, rfl, jq (by decide), by simp⟩)
theorem EP (b : List Tr) (hb : b = [] ∨ ∃ t, b = [t] /\ dZ t.kd = true) (a : List Tr) (ha : ∀ t ∈ a, t.kd = 42) (c : Tr) (hc : c.kd = 41) : aD Tr.kd 20 b.length (a ++ (b ++ [c])) = true := by
 have h42 : ∀ t ∈ a, (cu 42 ∘ Tr.kd) t = true := fun t ht => by simp [cu, ha t ht]
 refine fM (x := aV (cu 41 ∘ Tr.kd) (if (b.length : Int) = 1 then aV (dZ ∘ Tr.kd) (dn (cu 42 ∘ Tr.kd) (a ++ (b ++ [c]), false)) else dn (cu 42 ∘ Tr.kd) (a ++ (b ++ [c]), false))) (by simp [aF]) ?_
 unfold dn
 simp only
 rw [oh _ a _ h42]
 rcases hb with rfl | ⟨t, rfl, ht⟩
 ·rw [if_neg (by decide), List.nil_append, List.dropWhile_cons, if_neg (by simp [cu, hc])]
  exact fV (cu 41) c (by rw [hc]; rfl)
 ·have hn : ¬ (cu 42 ∘ Tr.kd) t = true := by
   simp [dZ] at ht
   simp [cu]
   omega
  rw [if_pos (show (([t] : List Tr).length : Int) = 1 from rfl), List.singleton_append, List.dropWhile_cons, if_neg hn]
  exact jB dZ (cu 41) t c ht (by rw [hc]; rfl)
theorem Br {s r : List ax} {nm : List UInt8} {a b c : List Tr} {y z v pre : List (List UInt8)} (hr : GT r) (hn : nm = [] /\ pre = [] ∨ bR nm = true /\ pre = [nm]) (wa : WTs a) (wb : WTs b) (wc : WTs c) (qa : Pr (.listed .param) a y) (qb : Pr .result b z) (qc : Pr .block c v) : Sd r (fun ts x => Pr .prog ts (dA 23 :: (pre ++ (y ++ (z ++ (v ++ x)))))) (mk1 20 s b.length nm (a ++ (b ++ c)) r) := by
 obtain ⟨ha, rfl⟩ := qa
 obtain ⟨t, rfl, ht, rfl⟩ := qc
 have hm : nz 20 nm = true := tK (by rcases hn with h | h; exact Or.inl h.1; exact Or.inr h.1) (by decide)
 have hp : (if nm = [] then [] else [nm]) = pre := by
  rcases hn with ⟨rfl, rfl⟩ | ⟨h, rfl⟩
  ·rfl
  ·rw [if_neg (Bq h)]
 have hb : b = [] ∨ ∃ t, b = [t] /\ dZ t.kd = true := by
  rcases qb with ⟨h, _⟩ | ⟨t, h1, h2, _⟩
  ·exact Or.inl h
  ·exact Or.inr ⟨t, h1, h2⟩
 refine dw hr (bf rfl (by decide) ?_ hm (EP b hb a ha t ht) (di wa (di wb wc))) ⟨_, rfl, ⟨rfl, (jq (by decide)).2⟩, ?_⟩
 ·rcases hb with rfl | ⟨t, rfl, _⟩ <;> rfl
 ·rw [txT_mk, nodeL_20, hp]
  have e := txs_len a
  rcases qb with ⟨rfl, rfl⟩ | ⟨u, rfl, hu, rfl⟩
  ·simp only [txs_app, txs_cons, txs_nil, List.length_append, List.length_cons, List.length_nil]
   generalize txs a = A at *
   have e1 : A.length + (0 + (0 + 1)) - 1 = A.length := by omega
   have e2 : A.length - (((0 : Nat) : Int)).toNat = A.length := by simp
   simp only [List.nil_append, List.length_cons, List.length_nil]
   rw [show A.length + (0 + (0 + 1)) - 1 = A.length by omega, e2]
   simp [List.take_append, List.drop_append]
  ·simp only [txs_app, txs_cons, txs_nil, List.length_append, List.length_cons, List.length_nil]
   generalize txs a = A at *
   have e1 : A.length + (0 + 1 + (0 + 1)) - 1 = A.length + 1 := by omega
   have e2 : A.length + 1 - (((0 + 1 : Nat) : Int)).toNat = A.length := by simp
   rw [e1, e2]
   simp [List.take_append, List.drop_append, List.drop_of_length_le]
theorem Gy {g : Rl -> List ax -> Res} (H : HH g) (s : List ax) (hs : GT s) : Sd s (Pr .prog) (body g .prog s) := by
 unfold body
 refine aM hs (by decide) (fun g1 => bV (fun h => ?_) (fun _ => ?_))
 ·exact jA g1 (fun n hn g2 => aW (H (.listed .param) _ trivial g2) (fun a s3 y g3 wa qa => aW (H .result _ trivial g3) (fun b s4 z g4 wb qb => aW (H .block _ trivial g4) (fun c s5 v g5 wc qc => Br (pre := [n]) g5 (Or.inr ⟨hn, rfl⟩) wa wb wc qa qb qc))))
 ·exact aW (H (.listed .param) _ trivial g1) (fun a s3 y g3 wa qa => aW (H .result _ trivial g3) (fun b s4 z g4 wb qb => aW (H .block _ trivial g4) (fun c s5 v g5 wc qc => Br (pre := []) g5 (Or.inl ⟨rfl, rfl⟩) wa wb wc qa qb qc)))
theorem EQ {g : Rl -> List ax -> Res} (H : HH g) (s : List ax) (hs : GT s) : Sd s (Pr .param) (body g .param s) := by
 unfold body
 refine jA hs (fun n hn g1 => aM g1 (by decide) (fun g2 => aW (H .typ _ trivial g2) (fun a s3 y g3 wa q => ?_)))
 obtain ⟨t, rfl, ht, rfl⟩ := q
 exact dw g3 (bf rfl (by decide) rfl (jo hn (by decide)) (fM (qD ..) (fV dZ t ht)) wa) ⟨_, rfl, rfl, by simp⟩
theorem I8 {g : Rl -> List ax -> Res} (H : HH g) (s : List ax) (hs : GT s) : Sd s (Pr .tyn) (body g .tyn s) := by
 unfold body
 refine aM hs (by decide) (fun g0 => jA g0 (fun n hn g1 => aM g1 (by decide) (fun g2 => aW (H .typ _ trivial g2) (fun a s3 y g3 wa q => aM g3 (by decide) (fun g4 => ?_)))))
 obtain ⟨t, rfl, ht, rfl⟩ := q
 exact dw g4 (bf rfl (by decide) rfl (jo hn (by decide)) (fM (qF ..) (fV dZ t ht)) wa) ⟨_, rfl, rfl, by simp⟩
theorem ER {g : Rl -> List ax -> Res} (H : HH g) (s : List ax) (hs : GT s) : Sd s (Pr .block) (body g .block s) := by
 unfold body
 refine aM hs (by decide) (fun g1 => aW (H .stmts _ trivial g1) (fun a s2 y g2 wa q => ?_))
 obtain ⟨ha, rfl⟩ := q
 exact dw g2 (bf rfl (by decide) rfl rfl (fM (qC ..) (jK gM a ha)) wa) ⟨_, rfl, rfl, by simp⟩
theorem nD {p : Tr -> Prop} {t : Tr} {b : List Tr} (ht : p t) (hb : ∀ u ∈ b, p u) : ∀ u ∈ [t] ++ b, p u := fun u hu => by
 rcases List.mem_append.1 hu with h | h
 ·rw [List.mem_singleton.1 h]; exact ht
 ·exact hb u h
theorem ES {g : Rl -> List ax -> Res} (H : HH g) (s : List ax) (hs : GT s) : Sd s (Pr .stmts) (body g .stmts s) := by
 unfold body
 refine bV (fun h => gK hs h (by decide) (fun g1 => iW g1 trivial ⟨by simp, by simp⟩)) (fun _ => aW (H .stmt _ trivial hs) (fun a s1 y g1 wa q => aW (H .stmts _ trivial g1) (fun b s2 z g2 wb qb => ?_)))
 obtain ⟨t, rfl, ht, rfl⟩ := q
 obtain ⟨hb, rfl⟩ := qb
 exact iW g2 (di wa wb) ⟨nD ht hb, by simp⟩
theorem Gz {g : Rl -> List ax -> Res} (H : HH g) (s : List ax) (hs : GT s) : Sd s (Pr .arms) (body g .arms s) := by
 unfold body
 refine bV (fun h => gK hs h (by decide) (fun g1 => iW g1 trivial ⟨by simp, by simp⟩)) (fun _ => aW (H .arm _ trivial hs) (fun a s1 y g1 wa q => aW (H .arms _ trivial g1) (fun b s2 z g2 wb qb => ?_)))
 obtain ⟨t, rfl, ht, rfl⟩ := q
 obtain ⟨hb, rfl⟩ := qb
 exact iW g2 (di wa wb) ⟨nD ht hb, by simp⟩
theorem ET {g : Rl -> List ax -> Res} (H : HH g) (s : List ax) (hs : GT s) : Sd s (Pr .types) (body g .types s) := by
 unfold body
 refine bV (fun h => aW (H .tyn _ trivial hs) (fun a s1 y g1 wa q => aW (H .types _ trivial g1) (fun b s2 z g2 wb qb => ?_))) (fun _ => iW hs trivial ⟨by simp, by simp⟩)
 obtain ⟨t, rfl, ht, rfl⟩ := q
 obtain ⟨hb, rfl⟩ := qb
 exact iW g2 (di wa wb) ⟨nD ht hb, by simp⟩
theorem GA {g : Rl -> List ax -> Res} (H : HH g) (s : List ax) (hs : GT s) : Sd s (Pr .tops) (body g .tops s) := by
 unfold body
 refine bV (fun _ => iW hs trivial ⟨by simp, by simp⟩) (fun h => aW (H .stmt _ trivial hs) (fun a s1 y g1 wa q => aW (H .tops _ trivial g1) (fun b s2 z g2 wb qb => ?_)))
 obtain ⟨t, rfl, ht, rfl⟩ := q
 obtain ⟨hb, rfl⟩ := qb
 exact iW g2 (di wa wb) ⟨nD ht hb, by simp⟩
theorem Ac {g : Rl -> List ax -> Res} (H : HH g) (s : List ax) (hs : GT s) : Sd s (Pr .program) (body g .program s) := by
 unfold body
 refine aW (H .types _ trivial hs) (fun a s1 y g1 wa qa => aW (H .tops _ trivial g1) (fun b s2 z g2 wb qb => ?_))
 obtain ⟨ha, rfl⟩ := qa
 obtain ⟨hb, rfl⟩ := qb
 refine iW g2 (og.2 (bf rfl (by decide) ?_ rfl ?_ (di wa wb))) ⟨_, rfl, rfl, by simp⟩
 ·simp [bz]
  omega
 ·refine fM (qG ..) ?_
  rw [Int.toNat_natCast, xD (cu 45 ∘ Tr.kd) a b (fun t ht => by simp [cu, ha t ht])]
  exact jK gM b hb
attribute [local simp] txT_mk txs_nil txs_cons txs_app txs_len rowL_cons rowL_nil rowL_app innerL_one resL_nil resL_one nodeL_1 nodeL_2 nodeL_3 nodeL_4 nodeL_5 nodeL_6 nodeL_7 nodeL_11 nodeL_12 nodeL_13 nodeL_14 nodeL_15 nodeL_16 nodeL_17 nodeL_18 nodeL_19 nodeL_20 nodeL_21 nodeL_22 nodeL_23 nodeL_24 nodeL_25 nodeL_31 nodeL_32 nodeL_33 nodeL_34 nodeL_35 nodeL_36 nodeL_37 nodeL_38 nodeL_39 nodeL_40 nodeL_41 nodeL_42 nodeL_43 nodeL_44 nodeL_45 nodeL_46 txtK_10 txtK_11 txtK_12 txtK_13 txtK_14 txtK_15 txtK_16 txtK_17 txtK_18 txtK_19 txtK_20 txtK_21 txtK_22 txtK_23 txtK_24 txtK_25 txtK_26 txtK_27 txtK_28 txtK_29 txtK_30 txtK_40 txtK_41 txtK_42 txtK_43 txtK_44 txtK_45 txtK_46 txtK_47 txtK_48 txtK_49 txtK_50 txtK_51 txtK_52 txtK_53 txtK_54 txtK_55 txtK_56 txtK_57 txtK_58 txtK_59 txtK_60 txtK_61 txtK_62 txtK_63 txtK_64 txtK_65 txtK_66
theorem EU (p q : Int -> Bool) (t u : Tr) (h : p t.kd = true) (h2 : q u.kd = true) : fB (ik (q ∘ Tr.kd) (aV (p ∘ Tr.kd) ([t, u], false))) = true := by simp [fB, aV, ik, gW, took, h, h2]
theorem CV (p q : Int -> Bool) (t : Tr) (h : p t.kd = true) : fB (ik (q ∘ Tr.kd) (aV (p ∘ Tr.kd) ([t], false))) = true := by simp [fB, aV, ik, gW, took, h]
theorem EW (q : Int -> Bool) (u : Tr) (h2 : q u.kd = true) : fB (ik (q ∘ Tr.kd) ([u], false)) = true := by simp [fB, ik, gW, h2]
theorem xH (p q r : Int -> Bool) (t u v : Tr) (h : p t.kd = true) (h2 : q u.kd = true) (h3 : r v.kd = true) : fB (ik (r ∘ Tr.kd) (aV (q ∘ Tr.kd) (aV (p ∘ Tr.kd) ([t, u, v], false)))) = true := by simp [fB, aV, ik, gW, took, h, h2, h3]
theorem CW (p q r : Int -> Bool) (t u : Tr) (h : p t.kd = true) (h2 : q u.kd = true) : fB (ik (r ∘ Tr.kd) (aV (q ∘ Tr.kd) (aV (p ∘ Tr.kd) ([t, u], false)))) = true := by simp [fB, aV, ik, gW, took, h, h2]
theorem GD {g : Rl -> List ax -> Res} (H : HH g) (s : List ax) (hs : GT s) : Sd s (Pr .stmt) (body g .stmt s) := by
 unfold body
 refine bV (fun h => ?_) (fun _ => bV (fun h => ?_) (fun _ => bV (fun h => ?_) (fun _ => bV (fun h => ?_) (fun _ => bV (fun h => ?_) (fun _ => bV (fun h => ?_) (fun _ => bV (fun h => ?_) (fun _ => bV (fun h => ?_) (fun _ => ?_))))))))
 ·refine aM hs (by decide) (fun g1 => jA g1 (fun n hn g2 => aM g2 (by decide) (fun g3 => aW (H (.operands 1) _ ⟨by decide, by decide⟩ g3) (fun a s4 y g4 wa q => aM g4 (by decide) (fun g5 => ?_)))))
  obtain ⟨t, rfl, ht, rfl⟩ := q
  exact dw g5 (bf rfl (by decide) rfl (jo hn (by decide)) (fM (qw ..) (fV aL t ht.1)) wa) ⟨_, rfl, rfl, by simp⟩
 ·refine aM hs (by decide) (fun g1 => jA g1 (fun n hn g2 => aM g2 (by decide) (fun g3 => aW (H .typ _ trivial g3) (fun a s4 y g4 wa q => bV (fun h => aM g4 (by decide) (fun g5 => aW (H (.operands 1) _ ⟨by decide, by decide⟩ g5) (fun b s6 z g6 wb qb => aM g6 (by decide) (fun g7 => ?_)))) (fun _ => aM g4 (by decide) (fun g5 => ?_))))))
  ·obtain ⟨t, rfl, ht, rfl⟩ := q
   obtain ⟨u, rfl, hu, rfl⟩ := qb
   exact dw g7 (bf rfl (by decide) rfl (jo hn (by decide)) (fM (jW ..) (EU dZ aL t u ht hu.1)) (di wa wb)) ⟨_, rfl, rfl, by simp⟩
  ·obtain ⟨t, rfl, ht, rfl⟩ := q
   exact dw g5 (bf rfl (by decide) rfl (jo hn (by decide)) (fM (jW ..) (CV dZ aL t ht)) wa) ⟨_, rfl, rfl, by simp⟩
 ·refine gJ (H .branch _ trivial hs) (fun a x wa q => ?_)
  obtain ⟨t, rfl, ht, rfl⟩ := q
  exact ⟨t, rfl, by simp only [ht]; rfl, rfl⟩
 ·refine aM hs (by decide) (fun g1 => aW (H (.operands 1) _ ⟨by decide, by decide⟩ g1) (fun a s2 y g2 wa q => aW (H .block _ trivial g2) (fun b s3 z g3 wb qb => ?_)))
  obtain ⟨t, rfl, ht, rfl⟩ := q
  obtain ⟨u, rfl, hu, rfl⟩ := qb
  exact dw g3 (bf rfl (by decide) rfl rfl (fM (qy ..) (jB aL (cu 41) t u ht.1 (by rw [hu]; rfl))) (di wa wb)) ⟨_, rfl, rfl, by simp⟩
 ·refine aM hs (by decide) (fun g1 => bV (fun h => aM g1 (by decide) (fun g2 => ?_)) (fun _ => aW (H (.operands 1) _ ⟨by decide, by decide⟩ g1) (fun a s2 y g2 wa q => aM g2 (by decide) (fun g3 => ?_))))
  ·exact dw g2 (bf rfl (by decide) rfl rfl rfl trivial) ⟨_, rfl, rfl, by simp⟩
  ·obtain ⟨t, rfl, ht, rfl⟩ := q
   exact dw g3 (bf rfl (by decide) rfl rfl (fM (qz ..) (EW aL t ht.1)) wa) ⟨_, rfl, rfl, by simp⟩
 ·refine aM hs (by decide) (fun g1 => aW (H (.operands 1) _ ⟨by decide, by decide⟩ g1) (fun a s2 y g2 wa q => aM g2 (by decide) (fun g3 => ?_)))
  obtain ⟨t, rfl, ht, rfl⟩ := q
  exact dw g3 (bf rfl (by decide) rfl rfl (fM (qA ..) (fV aL t ht.1)) wa) ⟨_, rfl, rfl, by simp⟩
 ·refine aM hs (by decide) (fun g1 => aM g1 (by decide) (fun g2 => aW (H .arms _ trivial g2) (fun a s3 y g3 wa q => ?_)))
  obtain ⟨ha, rfl⟩ := q
  exact dw g3 (bf rfl (by decide) rfl rfl (fM (qB ..) (jK pK a ha)) wa) ⟨_, rfl, rfl, by simp⟩
 ·refine gJ (H .block _ trivial hs) (fun a x wa q => ?_)
  obtain ⟨t, rfl, ht, rfl⟩ := q
  exact ⟨t, rfl, by simp only [ht]; rfl, rfl⟩
 ·refine aW (H (.operands 1) _ ⟨by decide, by decide⟩ hs) (fun a s1 y g1 wa q => ?_)
  obtain ⟨t, rfl, ht, rfl⟩ := q
  refine bV (fun h => ?_) (fun _ => bV (fun h => ?_) (fun _ => ?_))
  ·refine aM g1 (by decide) (fun g2 => aW (H (.operands 1) _ ⟨by decide, by decide⟩ g2) (fun b s3 z g3 wb qb => aM g3 (by decide) (fun g4 => ?_)))
   obtain ⟨u, rfl, hu, rfl⟩ := qb
   exact dw g4 (bf rfl (by decide) rfl rfl (fM (l7 ..) (jB aL aL t u ht.1 hu.1)) (di wa wb)) ⟨_, rfl, rfl, by simp⟩
  ·refine aM g1 (by decide) (fun g2 => aW (H (.operands 1) _ ⟨by decide, by decide⟩ g2) (fun b s3 z g3 wb qb => aM g3 (by decide) (fun g4 => ?_)))
   obtain ⟨u, rfl, hu, rfl⟩ := qb
   exact dw g4 (bf rfl (by decide) rfl rfl (fM (mf ..) (jB aL aL t u ht.1 hu.1)) (di wa wb)) ⟨_, rfl, rfl, by simp⟩
  ·exact aM g1 (by decide) (fun g2 => dw g2 (bf rfl (by decide) rfl rfl (fM (qx ..) (fV aL t ht.1)) wa) ⟨_, rfl, rfl, by simp⟩)
theorem CX {g : Rl -> List ax -> Res} (H : HH g) (s : List ax) (hs : GT s) : Sd s (Pr .branch) (body g .branch s) := by
 unfold body
 refine aM hs (by decide) (fun g1 => aW (H (.operands 1) _ ⟨by decide, by decide⟩ g1) (fun a s2 y g2 wa q => aW (H .block _ trivial g2) (fun b s3 z g3 wb qb => ?_)))
 obtain ⟨t, rfl, ht, rfl⟩ := q
 obtain ⟨u, rfl, hu, rfl⟩ := qb
 refine bV (fun h => aM g3 (by decide) (fun g4 => bV (fun h => aW (H .branch _ trivial g4) (fun c s5 v g5 wc qc => ?_)) (fun _ => aW (H .block _ trivial g4) (fun c s5 v g5 wc qc => ?_)))) (fun _ => ?_)
 ·obtain ⟨r, rfl, hr, rfl⟩ := qc
  exact dw g5 (bf rfl (by decide) rfl rfl (fM (ji ..) (xH aL (cu 41) kF t u r ht.1 (by rw [hu]; rfl) (by rw [hr]; rfl))) (di wa (di wb wc))) ⟨_, rfl, rfl, by simp⟩
 ·obtain ⟨r, rfl, hr, rfl⟩ := qc
  exact dw g5 (bf rfl (by decide) rfl rfl (fM (ji ..) (xH aL (cu 41) kF t u r ht.1 (by rw [hu]; rfl) (by rw [hr]; rfl))) (di wa (di wb wc))) ⟨_, rfl, rfl, by simp⟩
 ·exact dw g3 (bf rfl (by decide) rfl rfl (fM (ji ..) (CW aL (cu 41) kF t u ht.1 (by rw [hu]; rfl))) (di wa wb)) ⟨_, rfl, rfl, by simp⟩
theorem Bt {p : Nat} {nm : List UInt8} {t u : Tr} (hn : nm = [] ∨ bR nm = true) (ht : exL 6 t) (hu : u.kd = 41) (wt : WT t) (wu : WT u) : WT (.mk 43 p 0 nm [t, u]) := by
 rw [WT, WTs, WTs, WTs]
 exact ⟨⟨rfl, rfl, tK hn (by decide), fM (qE ..) (jB aL (cu 41) t u ht.1 (by rw [hu]; rfl)), ⟨ht.2, EN u, trivial⟩, fun e => absurd e (by decide)⟩, wt, wu, trivial⟩
theorem GG {s : List ax} {P Q : List Tr -> List (List UInt8) -> Prop} {r : Res} {k : List Tr -> List ax -> Res} (h : Sd s Q r) (hk : ∀ a s' y, X s = y ++ X s' -> GT s' -> WTs a -> Q a y -> Sd s' (fun ts x => P ts (y ++ x)) (k a s')) : Sd s P (aB r k) := by
 cases r with
 | ok a s' =>
  obtain ⟨y, h1, h2, h3, h4⟩ := h
  have := hk a s' y h1 h2 h3 h4
  show Sd s P (k a s')
  cases hq : k a s' with
  | ok ts s2 =>
   rw [hq] at this
   obtain ⟨x, g1, g2, g3, g4⟩ := this
   exact ⟨y ++ x, by rw [h1, g1, List.append_assoc], g2, g3, g4⟩
  | err s2 => trivial
  | out => trivial
 | err s' => trivial
 | out => trivial
theorem EY {s s' : List ax} {t : Tr} (hs : GT s) (hk : ¬ kd s = 65) (wt : WT t) (e : X s = txT t ++ X s') : zZ [t] = false := by
 rw [zZ]
 cases hb : CG t with
 | false => rfl
 | true =>
  obtain ⟨r, hr⟩ := xF t.size t (Nat.le_refl _) wt hb
  rw [hr] at e
  cases s with
  | nil => simp [X] at e
  | cons a s =>
   simp only [X, List.map_cons, List.cons_append, List.cons.injEq] at e
   exact absurd ((hs a List.mem_cons_self).recv e.1) hk
theorem I9 {g : Rl -> List ax -> Res} (H : HH g) (s : List ax) (hs : GT s) : Sd s (Pr .arm) (body g .arm s) := by
 unfold body
 refine aM hs (by decide) (fun g1 => bV (fun h => ?_) (fun h65 => bV (fun h => ?_) (fun _ => ?_)))
 ·refine aM g1 (by decide) (fun g2 => aW (H .unary _ trivial g2) (fun a s3 y g3 wa q => aW (H .block _ trivial g3) (fun b s4 z g4 wb qb => ?_)))
  obtain ⟨t, rfl, ht, rfl⟩ := q
  obtain ⟨u, rfl, hu, rfl⟩ := qb
  exact dw g4 (Bt (Or.inl rfl) ht hu (og.1 wa) (og.1 wb)) ⟨_, rfl, rfl, by simp⟩
 ·refine jA g1 (fun n hn g2 => aM g2 (by decide) (fun g3 => aM g3 (by decide) (fun g4 => aW (H .unary _ trivial g4) (fun a s3 y g5 wa q => aW (H .block _ trivial g5) (fun b s4 z g6 wb qb => ?_)))))
  obtain ⟨t, rfl, ht, rfl⟩ := q
  obtain ⟨u, rfl, hu, rfl⟩ := qb
  exact dw g6 (Bt (Or.inr hn) ht hu (og.1 wa) (og.1 wb)) ⟨_, rfl, rfl, by simp [Bq hn]⟩
 ·refine GG (H (.operands 1) _ ⟨by decide, by decide⟩ g1) (fun a s2 y ex g2 wa q => aM g2 (by decide) (fun g3 => aW (H (.operands 1) _ ⟨by decide, by decide⟩ g3) (fun b s4 z g4 wb qb => aW (H .block _ trivial g4) (fun c s5 v g5 wc qc => ?_))))
  obtain ⟨t, rfl, ht, rfl⟩ := q
  obtain ⟨u, rfl, hu, rfl⟩ := qb
  obtain ⟨r, rfl, hr, rfl⟩ := qc
  have hb := EY g1 h65 (og.1 wa) ex
  refine dw g5 ?_ ⟨_, rfl, rfl, by simp⟩
  rw [WT]
  exact ⟨⟨rfl, rfl, rfl, fM (jX ..) (CP aL aL (cu 41) t u r ht.1 hu.1 (by rw [hr]; rfl)), rC 44 0 (oV (by decide) 0) _ 0, fun _ => hb⟩, di wa (di wb wc)⟩
theorem GH {g : Rl -> List ax -> Res} (H : HH g) (r : Rl) (s : List ax) (hr : WrS r) (hs : GT s) : Sd s (Pr r) (body g r s) := by
 cases r with
 | typ => exact I1 H s hs
 | chanT => exact Gw H s hs
 | parted o => exact CR H o s hs
 | listed o => exact CS H o s hs
 | result => exact CU H s hs
 | operands n => exact xG H n hr s hs
 | ops a b c => exact I7 H a b c hr s hs
 | unary => exact EO H s hs
 | postf => exact Aa H s hs
 | post k => exact Gx H k hr s hs
 | primary => exact Ab H s hs
 | prog => exact Gy H s hs
 | param => exact EQ H s hs
 | block => exact ER H s hs
 | stmts => exact ES H s hs
 | stmt => exact GD H s hs
 | branch => exact CX H s hs
 | arms => exact Gz H s hs
 | arm => exact I9 H s hs
 | tyn => exact I8 H s hs
 | types => exact ET H s hs
 | tops => exact GA H s hs
 | program => exact Ac H s hs
theorem Im : ∀ (f : Nat) (r : Rl) (s : List ax), WrS r -> GT s -> Sd s (Pr r) (pF f r s)
 | 0, _, _, _, _ => trivial
 | f + 1, r, s, hr, hs => GH (Im f) r s hr hs
theorem tL (k : Int) (h : au k ≠ []) : (DW (au k) : Int) = k := by
 have hw : ∀ i : Fin 21, DW (eF.getD i []) = 10 + i := by decide
 have hs : ∀ i : Fin 27, DW (bW.getD i []) = 40 + i := by decide
 unfold au at h ⊢
 by_cases h1 : 10 <= k /\ k < 31
 ·rw [if_pos h1]
  have := hw ⟨(k - 10).toNat, by omega⟩
  simp only at this
  rw [this]
  omega
 ·rw [if_neg h1] at h ⊢
  by_cases h2 : 40 <= k /\ k < 67
  ·rw [if_pos h2]
   have := hs ⟨(k - 40).toNat, by omega⟩
   simp only at this
   rw [this]
   omega
  ·rw [if_neg h2] at h
   exact absurd rfl h
theorem xI (k : Int) (w : World) (ht : TabAt w 1 eF) (hs : TabAt w 0 bW) :
  Calls Tryz.prog 83 #[.int .i64 k] w fun e w' => e = .returned (.string ⟨(au k).toArray⟩) /\ w = w' := by
 by_cases h1 : 10 <= k /\ k < 31
 ·obtain ⟨j, rfl⟩ : ∃ j : Nat, k = 10 + (j : Int) := ⟨(k - 10).toNat, by omega⟩
  have hj : j < 21 := by omega
  have HK : Hid (au (10 + (j : Int)) = eF.getD j []) := by
   unfold au Hid; rw [if_pos h1, show (10 + (j : Int) - 10).toNat = j by omega]
  have hc := ht j hj
  obtain ⟨h2, h3⟩ := h1
  go_enter Tryz.func83, Tryz.ntmps83
  go_wp2
  go_ret
  exact ⟨by rw [HK.out]; rfl, rfl⟩
 ·by_cases h2 : 40 <= k /\ k < 67
  ·obtain ⟨j, rfl⟩ : ∃ j : Nat, k = 40 + (j : Int) := ⟨(k - 40).toNat, by omega⟩
   have hj : j < 27 := by omega
   have HK : Hid (au (40 + (j : Int)) = bW.getD j []) := by
    unfold au Hid; rw [if_neg h1, if_pos h2, show (40 + (j : Int) - 40).toNat = j by omega]
   have hc := hs j hj
   have h4 : decide (40 + (j : Int) < 31) = false := by simp; omega
   have h5 : (10 : Int) <= 40 + (j : Int) := by omega
   clear h1
   obtain ⟨h2, h3⟩ := h2
   go_enter Tryz.func83, Tryz.ntmps83
   go_wp2
   go_ret
   exact ⟨by rw [HK.out]; rfl, rfl⟩
  ·have HK : Hid (au k = []) := by unfold au Hid; rw [if_neg h1, if_neg h2]
   by_cases a1 : k < 10
   ·go_enter Tryz.func83, Tryz.ntmps83
    go_wp2
    go_ret
    exact ⟨by rw [HK.out]; rfl, rfl⟩
   ·by_cases a2 : k < 40
    ·have a3 : 31 <= k := by omega
     clear h1 h2
     go_enter Tryz.func83, Tryz.ntmps83
     go_wp2
     go_ret
     exact ⟨by rw [HK.out]; rfl, rfl⟩
    ·have a3 : 67 <= k := by omega
     clear h1 h2
     go_enter Tryz.func83, Tryz.ntmps83
     go_wp2
     go_ret
     exact ⟨by rw [HK.out]; rfl, rfl⟩

end Go.Proofs.YtecodpdfckjalaaGreatDoor
namespace Go.Proofs.YtecodpdfckjalaaGreatDoor
def pS (t : ax) : ax := ⟨t.kind, 0, t.num, t.name⟩
end Go.Proofs.YtecodpdfckjalaaGreatDoor
namespace Go.Proofs.YtecodpdfckjalaaGreatDoor
open Go.RowKit
theorem Ad {w : World} {B : Nat} {e : TypeId} {s : Nat} {v : Value} {n : Nat} {cs : List Value} (h : w.ownsRow B e s v n cs) (hn : 0 < n) :
  ∃ g cap, v = .slice (some ⟨g, 0, none⟩) n cap /\ B <= g /\ g < w.heap.size /\ n <= cap /\ ∀ i, i < cs.length -> w.cell? ⟨g, i, none⟩ = cs[i]? := by
 obtain ⟨h1, h2⟩ := h
 rcases h2 with ⟨_, h2⟩ | ⟨g, cap, cur, hv, hg, hh, hc, hm, hz, ht⟩
 ·omega
 ·refine ⟨g, cap, hv, hg, ?_, hc, fun i hi => ?_⟩
  ·rcases Nat.lt_or_ge g w.heap.size with hlt | hge
   ·exact hlt
   ·rw [Array.getElem?_eq_none hge] at hh; cases hh
  ·rw [cell_of_row w g i cur e (0, 0) hh, ← ht, List.getElem?_take_of_lt (by omega)]
   simp
theorem CY {w : World} {B : Nat} {e : TypeId} {s : Nat} {v : Value} {cs : List Value} (h : w.ownsRow B e s v 0 cs) : ∃ a cap, v = .slice a 0 cap := by
 obtain ⟨h1, h2⟩ := h
 rcases h2 with ⟨h2, _⟩ | ⟨g, cap, cur, hv, hg, hh, hc, hm, hz, ht⟩
 ·exact ⟨_, _, h2⟩
 ·exact ⟨_, _, hv⟩
theorem xJ : ∀ (l : List Tok) (j : Nat) (h : j < l.length), (dF l)[j * 4]? = some (.int .i64 l[j].kind) /\ (dF l)[j * 4 + 1]? = some (.int .i64 l[j].place) /\ (dF l)[j * 4 + 2]? = some (.int .i64 l[j].len) /\ (dF l)[j * 4 + 3]? = some (.int .i64 l[j].num)
 | t :: r, 0, h => ⟨rfl, rfl, rfl, rfl⟩
 | t :: r, j + 1, h => by
  have ih := xJ r j (by simpa using h)
  have e : ∀ i, (dF (t :: r))[i + 4]? = (dF r)[i]? := fun i => rfl
  rw [show (j + 1) * 4 = j * 4 + 4 by omega, show j * 4 + 4 + 1 = j * 4 + 1 + 4 by omega, show j * 4 + 4 + 2 = j * 4 + 2 + 4 by omega, show j * 4 + 4 + 3 = j * 4 + 3 + 4 by omega, e, e, e, e]
  exact ih
structure xK (w : World) (g : Nat) (l : List Tok) : Prop where
 lt : g < w.heap.size
 at_ : ∀ j (h : j < l.length), w.cell? ⟨g, j * 4, none⟩ = some (.int .i64 l[j].kind) /\ w.cell? ⟨g, j * 4 + 1, none⟩ = some (.int .i64 l[j].place) /\ w.cell? ⟨g, j * 4 + 2, none⟩ = some (.int .i64 l[j].len) /\ w.cell? ⟨g, j * 4 + 3, none⟩ = some (.int .i64 l[j].num)
theorem xK.later {w w' : World} {g : Nat} {l : List Tok} (h : xK w g l) (hb : Below w.heap.size w w') : xK w' g l := by
 refine ⟨by have := hb.size; have := h.lt; omega, fun j hj => ?_⟩
 obtain ⟨a, b, c, d⟩ := h.at_ j hj
 exact ⟨by rw [hb.cell h.lt]; exact a, by rw [hb.cell h.lt]; exact b, by rw [hb.cell h.lt]; exact c, by rw [hb.cell h.lt]; exact d⟩
theorem uP {w : World} {B : Nat} {v : Value} {l : List Tok} (h : w.ownsRow B 62 4 v l.length (dF l)) (hn : 0 < l.length) :
  ∃ g cap, v = .slice (some ⟨g, 0, none⟩) l.length cap /\ B <= g /\ l.length <= cap /\ xK w g l := by
 obtain ⟨g, cap, hv, h1, h2, h3, hc⟩ := Ad h hn
 refine ⟨g, cap, hv, h1, h3, h2, fun j hj => ?_⟩
 have hl := BX l
 obtain ⟨a, b, c, d⟩ := xJ l j hj
 exact ⟨by rw [hc _ (by omega)]; exact a, by rw [hc _ (by omega)]; exact b, by rw [hc _ (by omega)]; exact c, by rw [hc _ (by omega)]; exact d⟩
theorem aU {w : World} {x : Nat} {o : Obj} (h : w.heap[x]? = some o) : x < w.heap.size := by
 rcases Nat.lt_or_ge x w.heap.size with hlt | hge
 ·exact hlt
 ·rw [Array.getElem?_eq_none hge] at h; cases h
def rdO (ae aa : Value) (i : Nat) (nv : Value) : Obj := .cells #[ae, aa, .int .i64 i, nv] 74 (0, 0)
def ndC (n : Nd) (k : Option Addr × Nat) : List Value := [.int .i64 n.kind, .int .i64 n.pos, .slice k.1 n.kids.length k.2, .string n.name, .int .i64 n.num]
def ol : List Nd -> List (Option Addr × Nat) -> List Value
 | n :: r, k :: q => ndC n k ++ ol r q
 | _, _ => []
def bJ (xs : List Int) : List Value := xs.map fun x => Value.int .i64 x
def aN (W : World) (rb : Nat) (v : Value) (xs : List Int) : Prop := W.ownsRow (rb + 1) 3 1 v xs.length (bJ xs)
structure eH (U : Nat -> Prop) (W : World) (rb : Nat) (nv : Value) (ns : List Nd) : Prop where
 ex : ∃ ks : List (Option Addr × Nat), ks.length = ns.length /\ W.ownsRow (rb + 1) 44 5 nv ns.length (ol ns ks) /\ ∀ j (h : j < ns.length) (h' : j < ks.length), aN W rb (.slice ks[j].1 ns[j].kids.length ks[j].2) ns[j].kids /\ ∀ g, ks[j].1 = some ⟨g, 0, none⟩ -> ¬ U g
def bZ (W : World) (rb : Nat) : Option Nat :=
 match W.heap[rb]? with
 | some (.cells c _ _) => (c.getD 3 undef).ownBlock
 | _ => none
theorem fD {W : World} {rb : Nat} {ae aa nv : Value} {i : Nat} (h : W.heap[rb]? = some (rdO ae aa i nv)) : bZ W rb = nv.ownBlock := by
 unfold bZ
 rw [h]
 rfl
structure af (rb : Nat) (W W' : World) : Prop where
 size : W.heap.size <= W'.heap.size
 same : ∀ x, x < W.heap.size -> rb < x -> bZ W rb ≠ some x -> W'.heap[x]? = W.heap[x]?
 own : bZ W' rb = bZ W rb ∨ ∃ g, bZ W' rb = some g /\ W.heap.size <= g
theorem af.refl (rb : Nat) (W : World) : af rb W W := ⟨Nat.le_refl _, fun _ _ _ _ => rfl, .inl rfl⟩
theorem af.trans {rb : Nat} {W W1 W2 : World} (h1 : af rb W W1) (h2 : af rb W1 W2) : af rb W W2 := by
 have hz := h1.size
 refine ⟨Nat.le_trans hz h2.size, fun x hx hr ho => ?_, ?_⟩
 ·rw [h2.same x (by omega) hr ?_, h1.same x hx hr ho]
  rcases h1.own with e | ⟨g, e, hg⟩
  ·rw [e]; exact ho
  ·rw [e]
   intro e2
   simp only [Option.some.injEq] at e2
   omega
 ·rcases h2.own with e | ⟨g, e, hg⟩
  ·rw [e]; exact h1.own
  ·exact .inr ⟨g, e, by omega⟩
theorem af.heap {rb : Nat} {W W' : World} (h : W'.heap = W.heap) : af rb W W' := ⟨by rw [h]; exact Nat.le_refl _, fun x _ _ _ => by rw [h], .inl (by unfold bZ; rw [h])⟩
theorem af.ext {rb : Nat} {W W' : World} (hr : rb < W.heap.size) (hb : Below W.heap.size W W') : af rb W W' := ⟨hb.size, fun x hx _ _ => hb.block x hx, .inl (by unfold bZ; rw [hb.block rb hr])⟩
theorem af.alloc {rb : Nat} {W : World} (hr : rb < W.heap.size) (o : Obj) : af rb W (W.alloc o) := af.ext hr (ah W o)
theorem kX {W : World} {B : Nat} {e : TypeId} {s : Nat} {v : Value} {n : Nat} {cs : List Value} (h : W.ownsRow B e s v n cs) {x : Nat} (hx : v.ownBlock = some x) : ∃ cur, W.heap[x]? = some (.cells cur e (0, 0)) := by
 rcases h.2 with ⟨h2, _⟩ | ⟨g, cap, cur, hv, hg, hh, hr⟩
 ·rw [h2] at hx
  simp [Value.ownBlock] at hx
 ·rw [hv] at hx
  simp [Value.ownBlock] at hx
  subst hx
  exact ⟨cur, hh⟩
structure RS (w0 : World) (rb : Nat) (ae aa : Value) (U : Nat -> Prop) (W : World) (i : Nat) (ns : List Nd) : Prop where
 rd : ∃ nv, W.heap[rb]? = some (rdO ae aa i nv) /\ eH U W rb nv ns
 bel : Below rb w0 W
theorem RS.lt {w0 : World} {rb : Nat} {ae aa : Value} {U : Nat -> Prop} {W : World} {i : Nat} {ns : List Nd} (h : RS w0 rb ae aa U W i ns) : rb < W.heap.size := by
 obtain ⟨nv, h1, _⟩ := h.rd
 exact aU h1
theorem RS.own {w0 : World} {rb : Nat} {ae aa : Value} {U : Nat -> Prop} {W : World} {i : Nat} {ns : List Nd} (h : RS w0 rb ae aa U W i ns) {x : Nat} (hx : bZ W rb = some x) : ∃ cur, W.heap[x]? = some (.cells cur 44 (0, 0)) := by
 obtain ⟨nv, h1, h2⟩ := h.rd
 obtain ⟨ks, _, k2, _⟩ := h2.ex
 rw [fD h1] at hx
 exact kX k2 hx
theorem RS.ints {w0 : World} {rb : Nat} {ae aa : Value} {U : Nat -> Prop} {W W' : World} {i : Nat} {ns : List Nd} (hS : RS w0 rb ae aa U W i ns) {v : Value} {xs : List Int} (h : aN W rb v xs) (hk : af rb W W') : aN W' rb v xs := by
 obtain ⟨h1, h2⟩ := h
 refine ⟨h1, ?_⟩
 rcases h2 with h2 | ⟨g, cap, cur, hv, hg, hh, hr⟩
 ·exact .inl h2
 ·refine .inr ⟨g, cap, cur, hv, hg, ?_, hr⟩
  rw [hk.same g (aU hh) (by omega) (fun e => ?_)]
  ·exact hh
  ·obtain ⟨cur2, h3⟩ := hS.own e
   rw [hh] at h3
   simp only [Option.some.injEq, Obj.cells.injEq] at h3
   exact absurd h3.2.1 (by decide)
theorem bK {W W' : World} {B : Nat} {e : TypeId} {s : Nat} {v : Value} {n : Nat} {cs : List Value} (h : W.ownsRow B e s v n cs) (hb : Below W.heap.size W W') : W'.ownsRow B e s v n cs := by
 obtain ⟨h1, h2⟩ := h
 refine ⟨h1, ?_⟩
 rcases h2 with h2 | ⟨g, cap, cur, hv, hg, hh, hr⟩
 ·exact .inl h2
 ·exact .inr ⟨g, cap, cur, hv, hg, by rw [hb.block g (aU hh)]; exact hh, hr⟩
theorem RS.ext {w0 : World} {rb : Nat} {ae aa : Value} {U : Nat -> Prop} {W W' : World} {i : Nat} {ns : List Nd} (h : RS w0 rb ae aa U W i ns) (hb : Below W.heap.size W W') : RS w0 rb ae aa U W' i ns := by
 obtain ⟨nv, h1, h2⟩ := h.rd
 have hlt := aU h1
 obtain ⟨ks, k1, k2, k3⟩ := h2.ex
 exact ⟨⟨nv, by rw [hb.block rb hlt]; exact h1, ⟨ks, k1, bK k2 hb, fun j hj hj' => ⟨bK (k3 j hj hj').1 hb, (k3 j hj hj').2⟩⟩⟩, h.bel.trans (hb.mono (by omega))⟩
theorem RS.drewN {w0 : World} {rb : Nat} {ae aa : Value} {U : Nat -> Prop} {W : World} {i : Nat} {ns : List Nd} (h : RS w0 rb ae aa U W i ns) (k : Nat) : RS w0 rb ae aa U (W.drewN k) i ns :=
 h.ext (below_drewN (Below.refl _ _) k)
structure RT (w0 : World) (rb : Nat) (ae aa : Value) (TL : List Tok) (xs : List UInt8) : Prop where
 toks : ∃ tb cap, aa = .slice (some ⟨tb, 0, none⟩) TL.length cap /\ tb < rb /\ TL.length <= cap /\ xK w0 tb TL
 laid : Laid w0
 low : 6 < rb
 small : TL.length <= 65537
 src : 0 < xs.length -> ∃ b o cap, ae = .slice (some ⟨b, o, none⟩) xs.length cap /\ b < rb /\ xs.length <= cap /\ Src w0 b o xs
 len : xs.length <= 65536
 inb : ∀ i (h : i < TL.length), TL[i].kind ≠ 0 -> 1 <= TL[i].len /\ TL[i].place + TL[i].len <= xs.length
theorem gI {W : World} {rb : Nat} {ae aa nv : Value} {i : Nat} (h : W.heap[rb]? = some (rdO ae aa i nv)) : W.cell? ⟨rb, 0, none⟩ = some ae /\ W.cell? ⟨rb, 1, none⟩ = some aa /\ W.cell? ⟨rb, 2, none⟩ = some (.int .i64 i) /\ W.cell? ⟨rb, 3, none⟩ = some nv /\ rb < W.heap.size := by
 refine ⟨?_, ?_, ?_, ?_, aU h⟩ <;> simp [World.cell?, h, rdO]
theorem RT.tok {w0 : World} {rb : Nat} {ae aa : Value} {TL : List Tok} {xs : List UInt8} (h : RT w0 rb ae aa TL xs) {W : World} (hb : Below rb w0 W) {i : Nat} (hi : i < TL.length) :
  ∃ tb cap, aa = .slice (some ⟨tb, 0, none⟩) TL.length cap /\ tb < rb /\ TL.length <= cap /\ W.cell? ⟨tb, i * 4, none⟩ = some (.int .i64 TL[i].kind) /\ W.cell? ⟨tb, i * 4 + 1, none⟩ = some (.int .i64 TL[i].place) /\ W.cell? ⟨tb, i * 4 + 2, none⟩ = some (.int .i64 TL[i].len) /\ W.cell? ⟨tb, i * 4 + 3, none⟩ = some (.int .i64 TL[i].num) := by
 obtain ⟨tb, cap, e, h1, h2, h3⟩ := h.toks
 obtain ⟨q0, q1, q2, q3⟩ := h3.at_ i hi
 have hc : ∀ k, W.cell? ⟨tb, k, none⟩ = w0.cell? ⟨tb, k, none⟩ := fun k => hb.cell (p := ⟨tb, k, none⟩) h1
 exact ⟨tb, cap, e, h1, h2, by rw [hc]; exact q0, by rw [hc]; exact q1, by rw [hc]; exact q2, by rw [hc]; exact q3⟩
theorem xL {w0 W : World} {rb : Nat} (h : Laid w0) (hr : 6 < rb) (hb : Below rb w0 W) : Laid W := by
 have hs := h.size
 have hz := hb.size
 have hc : ∀ g k, g < 7 -> W.cell? ⟨g, k, none⟩ = w0.cell? ⟨g, k, none⟩ := fun g k hg => hb.cell (p := ⟨g, k, none⟩) (by show g < rb; omega)
 refine ⟨fun i hi => ?_, fun i hi => ?_, ?_, by omega⟩
 ·rw [hc _ _ (by decide)]; exact h.words i hi
 ·rw [hc _ _ (by decide)]; exact h.signs i hi
 ·obtain ⟨te, pe, hh⟩ := h.range
  exact ⟨te, pe, by rw [hc _ _ (by decide)]; exact hh⟩
theorem iB {w0 : World} {rb : Nat} {ae aa : Value} {U : Nat -> Prop} {TL : List Tok} {xs : List UInt8} (hT : RT w0 rb ae aa TL xs) {W : World} {i : Nat} {ns : List Nd} (hS : RS w0 rb ae aa U W i ns) (hi : i < TL.length) :
  Calls Tryz.prog 84 #[.pointer (some ⟨rb, 0, none⟩)] W fun e W' => e = .returned (Go.Proofs.YtecodpdfckjalaaGreatDoor.aa TL[i]) /\ Below W.heap.size W W' := by
 obtain ⟨nv, hr, _⟩ := hS.rd
 obtain ⟨c0, c1, c2, c3, hlt⟩ := gI hr
 obtain ⟨tb, cap, rfl, h1, h2, q0, q1, q2, q3⟩ := hT.tok hS.bel hi
 have hsm := hT.small
 have htb : tb < W.heap.size := by omega
 generalize TL[i] = t at *
 generalize TL.length = n at *
 clear hS hT hr
 go_enter Tryz.func84, Tryz.ntmps84
 go_wp2
 go_region
 all_goals
  go_wp2
  refine bodyPost_ret (v := Go.Proofs.YtecodpdfckjalaaGreatDoor.aa t) (by simp [results, Tryz.results84, go_sem, Go.Proofs.YtecodpdfckjalaaGreatDoor.aa]) rfl ⟨rfl, ?_⟩
  exact ((Below.refl _ _).alloc (Nat.le_refl _) _).drew
end Go.Proofs.YtecodpdfckjalaaGreatDoor
namespace Go.Proofs.YtecodpdfckjalaaGreatDoor
open Go.RowKit
variable {w0 : World} {rb : Nat} {ae aa : Value} {TL : List Tok} {xs : List UInt8} {U : Nat -> Prop}
theorem mE (W : World) (a b c d : Value) : (Instr.field 62 (.agg #[a, b, c, d]) 0).run Tryz.prog W = .ok a W := by
 simp [Instr.field, go_sem, Tryz.underlying62, asAgg]
theorem dB (W : World) (a b c d : Value) : (Instr.field 62 (.agg #[a, b, c, d]) 1).run Tryz.prog W = .ok b W := by
 simp [Instr.field, go_sem, Tryz.underlying62, asAgg]
theorem Ja (W : World) (a b c d : Value) : (Instr.field 62 (.agg #[a, b, c, d]) 2).run Tryz.prog W = .ok c W := by
 simp [Instr.field, go_sem, Tryz.underlying62, asAgg]
theorem Jb (W : World) (a b c d : Value) : (Instr.field 62 (.agg #[a, b, c, d]) 3).run Tryz.prog W = .ok d W := by
 simp [Instr.field, go_sem, Tryz.underlying62, asAgg]
theorem RS.upd {W W' : World} {i i' : Nat} {ns : List Nd} (h : RS w0 rb ae aa U W i ns) (hz : W.heap.size <= W'.heap.size) (hx : ∀ x, x < W.heap.size -> x ≠ rb -> W'.heap[x]? = W.heap[x]?) (hr : ∀ nv, W.heap[rb]? = some (rdO ae aa i nv) -> W'.heap[rb]? = some (rdO ae aa i' nv)) (hb : Below rb w0 W') :
  RS w0 rb ae aa U W' i' ns /\ af rb W W' := by
 obtain ⟨nv, h1, h2⟩ := h.rd
 have hk : af rb W W' := ⟨hz, fun x hx1 hxr _ => hx x hx1 (by omega), .inl (by rw [fD (hr nv h1), fD h1])⟩
 obtain ⟨ks, k1, k2, k3⟩ := h2.ex
 refine ⟨⟨⟨nv, hr nv h1, ⟨ks, k1, ?_, fun j hj hj' => ⟨h.ints (k3 j hj hj').1 hk, (k3 j hj hj').2⟩⟩⟩, hb⟩, hk⟩
 obtain ⟨q1, q2⟩ := k2
 refine ⟨q1, ?_⟩
 rcases q2 with q2 | ⟨g, cap, cur, hv, hg, hh, hr⟩
 ·exact .inl q2
 ·exact .inr ⟨g, cap, cur, hv, hg, by rw [hx g (aU hh) (by omega)]; exact hh, hr⟩
def stepW (rb : Nat) (W : World) (i : Nat) : World := W.setCell ⟨rb, 2, none⟩ (.int .i64 ((i + 1 : Nat) : Int))
theorem RS.step {W : World} {i : Nat} {ns : List Nd} (h : RS w0 rb ae aa U W i ns) : RS w0 rb ae aa U (stepW rb W i) (i + 1) ns /\ af rb W (stepW rb W i) := by
 refine h.upd (by simp [stepW]) (fun x hx hne => ?_) (fun nv hr => ?_) (Below.setCell (p := ⟨rb, 2, none⟩) h.bel (Nat.le_refl _) _)
 ·unfold stepW
  exact heap_setCell_other W ⟨rb, 2, none⟩ x _ (by show x ≠ rb; omega)
 ·unfold stepW
  rw [heap_setCell_same W rb 2 _ 74 _ hr]
  rfl
theorem om (hT : RT w0 rb ae aa TL xs) {W : World} {i : Nat} {ns : List Nd} (hS : RS w0 rb ae aa U W i ns) (hi : i < TL.length) :
  Calls Tryz.prog 66 #[.pointer (some ⟨rb, 0, none⟩)] W fun e W' => e = .returned (.string ⟨(au (TL[i].kind : Nat)).toArray⟩) /\ Below W.heap.size W W' := by
 have HN : Bx _ := ⟨iB hT hS hi⟩
 have HL : Bx (∀ W', Below W.heap.size W W' -> Calls Tryz.prog 83 #[.int .i64 (TL[i].kind : Nat)] W' fun e w' => e = .returned (.string ⟨(au (TL[i].kind : Nat)).toArray⟩) /\ W' = w') := ⟨fun W' hb => by
  have hl := xL hT.laid hT.low (hS.ext hb).bel
  exact xI _ W' hl.words hl.signs⟩
 unfold Go.Proofs.YtecodpdfckjalaaGreatDoor.aa at HN
 generalize au (TL[i].kind : Nat) = tx at *
 generalize TL[i] = t at *
 have hf0 := mE
 clear hS hT
 go_enter Tryz.func66, Tryz.ntmps66
 go_wp2_with (first
  | (go_at_call 84; refine Calls.mono HN.out ?_; rintro e W1 ⟨rfl, b1⟩)
  | (go_at_call 83; refine Calls.mono (HL.out _ b1) ?_; rintro e W2 ⟨rfl, rfl⟩))
 go_ret
 exact ⟨rfl, b1⟩
theorem CZ (hT : RT w0 rb ae aa TL xs) {W : World} {i : Nat} {ns : List Nd} (hS : RS w0 rb ae aa U W i ns) (hi : i < TL.length) :
  Calls Tryz.prog 68 #[.pointer (some ⟨rb, 0, none⟩)] W fun e W' => e = .returned (.bool (decide (i + 1 = TL.length))) /\ Below W.heap.size W W' := by
 obtain ⟨nv, hr, _⟩ := hS.rd
 obtain ⟨c0, c1, c2, c3, hlt⟩ := gI hr
 obtain ⟨tb, cap, rfl, h1, h2, hx⟩ := hT.tok hS.bel hi
 have hsm := hT.small
 clear hx
 have he : decide (i + 1 = TL.length) = ((i : Int) == (TL.length : Int) - 1) := by
  by_cases h : i + 1 = TL.length
  ·rw [decide_eq_true h]; symm; rw [beq_iff_eq]; omega
  ·rw [decide_eq_false h]; symm; rw [beq_eq_false_iff_ne]; omega
 rw [he]
 clear hS hT hr he
 generalize TL.length = n at *
 go_enter Tryz.func68, Tryz.ntmps68
 go_wp2
 go_quiet (fail)
 go_wp2
 go_ret
 exact ⟨rfl, below_drewN (Below.refl _ _) _⟩
theorem tN {x : List UInt8} {s : ByteArray} : ((⟨x.toArray⟩ : ByteArray).toList == s.toList) = decide (x = s.data.toList) := by
 rw [ByteArray.toList_eq, ByteArray.toList_eq]
 by_cases h : x = s.data.toList
 ·rw [decide_eq_true h, beq_iff_eq, h]
 ·rw [decide_eq_false h, beq_eq_false_iff_ne]
  exact h
theorem Bu (hT : RT w0 rb ae aa TL xs) {W : World} {i : Nat} {ns : List Nd} (hS : RS w0 rb ae aa U W i ns) (hi : i < TL.length) (s : ByteArray) (hs : ¬ au (TL[i].kind : Nat) = s.data.toList) :
  Calls Tryz.prog 102 #[.pointer (some ⟨rb, 0, none⟩), .string s] W fun e W' => e = .returned (.bool false) /\ Below W.heap.size W W' := by
 have HN : Bx _ := ⟨om hT hS hi⟩
 have hb : ((⟨(au (TL[i].kind : Nat)).toArray⟩ : ByteArray).toList == s.toList) = false := by rw [tN]; exact decide_eq_false hs
 generalize (⟨(au (TL[i].kind : Nat)).toArray⟩ : ByteArray) = tx at *
 clear hS hT hs
 go_enter Tryz.func102, Tryz.ntmps102
 go_wp2_with (first
  | (go_at_call 66; refine Calls.mono HN.out ?_; rintro e W1 ⟨rfl, b1⟩))
 go_ret
 exact ⟨rfl, b1⟩
theorem xM (hT : RT w0 rb ae aa TL xs) {W : World} {i : Nat} {ns : List Nd} (hS : RS w0 rb ae aa U W i ns) (hi : i < TL.length) (s : ByteArray) (hs : au (TL[i].kind : Nat) = s.data.toList) :
  Calls Tryz.prog 102 #[.pointer (some ⟨rb, 0, none⟩), .string s] W fun e W' => e = .returned (.bool true) /\ RS w0 rb ae aa U W' (i + 1) ns /\ af rb W W' := by
 have HN : Bx _ := ⟨om hT hS hi⟩
 have hb : ((⟨(au (TL[i].kind : Nat)).toArray⟩ : ByteArray).toList == s.toList) = true := by rw [tN]; exact decide_eq_true hs
 have HC : Bx (∀ W1, Below W.heap.size W W1 -> ∃ nv, W1.heap[rb]? = some (rdO ae aa i nv)) := ⟨fun W1 b => by
  obtain ⟨nv, h, _⟩ := (hS.ext b).rd
  exact ⟨nv, h⟩⟩
 have HE : Bx (∀ W1, Below W.heap.size W W1 -> RS w0 rb ae aa U (stepW rb W1 i) (i + 1) ns /\ af rb W (stepW rb W1 i)) := ⟨fun W1 b => by
  obtain ⟨h1, h2⟩ := (hS.ext b).step
  exact ⟨h1, (af.ext hS.lt b).trans h2⟩⟩
 have hsm := hT.small
 generalize (⟨(au (TL[i].kind : Nat)).toArray⟩ : ByteArray) = tx at *
 clear hS hT hs
 generalize TL.length = n at *
 go_enter Tryz.func102, Tryz.ntmps102
 go_wp2_with (first
  | (go_at_call 66; refine Calls.mono HN.out ?_; rintro e W1 ⟨rfl, b1⟩; obtain ⟨nv, hr⟩ := HC.out W1 b1; obtain ⟨c0, c1, c2, c3, hlt⟩ := gI hr; have hfz : W1.frozen? ⟨rb, 2, none⟩ = false := (by simp [World.frozen?, hr, rdO]); clear hr))
 go_ret
 exact ⟨rfl, HE.out _ b1⟩
end Go.Proofs.YtecodpdfckjalaaGreatDoor
namespace Go.Proofs.YtecodpdfckjalaaGreatDoor
open Go.RowKit
variable {w0 : World} {rb : Nat} {ae aa : Value} {TL : List Tok} {xs : List UInt8} {U : Nat -> Prop}
def aj (p : Nat) : Ending := .panicked [{ v := .iface 30 (.agg #[.int .i64 p, .int .i64 30]), recovered := false }]
theorem rE (hT : RT w0 rb ae aa TL xs) {W : World} {i : Nat} {ns : List Nd} (hS : RS w0 rb ae aa U W i ns) (hi : i < TL.length) :
  Calls Tryz.prog 103 #[.pointer (some ⟨rb, 0, none⟩)] W fun e W' => e = aj TL[i].place /\ Below rb w0 W' := by
 have HN : Bx _ := ⟨iB hT hS hi⟩
 have HE : Bx (∀ W1, Below W.heap.size W W1 -> Below rb w0 W1) := ⟨fun W1 b => (hS.ext b).bel⟩
 unfold Go.Proofs.YtecodpdfckjalaaGreatDoor.aa at HN
 have hf1 := dB
 generalize TL[i] = t at *
 clear hS hT
 go_enter Tryz.func103, Tryz.ntmps103
 go_wp2_with (first
  | (go_at_call 84; refine Calls.mono HN.out ?_; rintro e W1 ⟨rfl, b1⟩))
 exact ⟨rfl, rfl, HE.out _ b1⟩
theorem EZ (hT : RT w0 rb ae aa TL xs) {W : World} {i : Nat} {ns : List Nd} (hS : RS w0 rb ae aa U W i ns) (hi : i < TL.length) (s : ByteArray) (hs : au (TL[i].kind : Nat) = s.data.toList) :
  Calls Tryz.prog 85 #[.pointer (some ⟨rb, 0, none⟩), .string s] W fun e W' => e = .returned (.int .i64 TL[i].place) /\ RS w0 rb ae aa U W' (i + 1) ns /\ af rb W W' := by
 have HN : Bx _ := ⟨iB hT hS hi⟩
 have HK : Bx (∀ W1, Below W.heap.size W W1 -> _) := ⟨fun W1 b => xM hT (hS.ext b) hi s hs⟩
 have hrW := hS.lt
 unfold Go.Proofs.YtecodpdfckjalaaGreatDoor.aa at HN
 have hf1 := dB
 generalize TL[i] = t at *
 clear hS hT hs
 go_enter Tryz.func85, Tryz.ntmps85
 go_wp2_with (first
  | (go_at_call 84; refine Calls.mono HN.out ?_; rintro e W1 ⟨rfl, b1⟩)
  | (go_at_call 102; refine Calls.mono (HK.out _ b1) ?_; rintro e W2 ⟨rfl, q1, q2⟩))
 go_ret
 exact ⟨rfl, q1, (af.ext hrW b1).trans q2⟩
theorem GI (hT : RT w0 rb ae aa TL xs) {W : World} {i : Nat} {ns : List Nd} (hS : RS w0 rb ae aa U W i ns) (hi : i < TL.length) (s : ByteArray) (hs : ¬ au (TL[i].kind : Nat) = s.data.toList) :
  Calls Tryz.prog 85 #[.pointer (some ⟨rb, 0, none⟩), .string s] W fun e W' => e = aj TL[i].place /\ Below rb w0 W' := by
 have HN : Bx _ := ⟨iB hT hS hi⟩
 have HK : Bx (∀ W1, Below W.heap.size W W1 -> _) := ⟨fun W1 b => Bu hT (hS.ext b) hi s hs⟩
 have HR : Bx (∀ W1, Below W.heap.size W W1 -> _) := ⟨fun W1 b => rE hT (hS.ext b) hi⟩
 unfold Go.Proofs.YtecodpdfckjalaaGreatDoor.aa at HN
 have hf1 := dB
 generalize TL[i] = t at *
 clear hS hT hs
 go_enter Tryz.func85, Tryz.ntmps85
 go_wp2_with (first
  | (go_at_call 84; refine Calls.mono HN.out ?_; rintro e W1 ⟨rfl, b1⟩)
  | (go_at_call 102; refine Calls.mono (HK.out _ b1) ?_; rintro e W2 ⟨rfl, b2⟩; have b3 := b1.trans (b2.mono b1.size))
  | (go_at_call 103; refine Calls.mono (HR.out _ b3) ?_; rintro e W3 ⟨rfl, b4⟩; unfold aj))
 exact ⟨rfl, rfl, b4⟩
end Go.Proofs.YtecodpdfckjalaaGreatDoor
