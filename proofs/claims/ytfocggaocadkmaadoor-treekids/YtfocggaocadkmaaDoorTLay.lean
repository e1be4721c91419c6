import Derived.Test.YtfocggaocadkmaaDoorTB
namespace Go.Proofs.YtfocggaocadkmaaDoor
open Go.RowKit
set_option linter.unusedVariables false
set_option linter.unusedSimpArgs false

/-- a token behind what stands there -/
def putT (bs t : List UInt8) : List UInt8 := if bs.length = 0 then t else bs ++ (32 :: t)
def layT (bs : List UInt8) (ts : List (List UInt8)) : List UInt8 := ts.foldl putT bs
theorem layT_nil (bs : List UInt8) : layT bs [] = bs := rfl
theorem layT_cons (bs t : List UInt8) (ts : List (List UInt8)) : layT bs (t :: ts) = layT (putT bs t) ts := rfl
theorem layT_append (bs : List UInt8) (a b : List (List UInt8)) : layT bs (a ++ b) = layT (layT bs a) b := by
  unfold layT; rw [List.foldl_append]
theorem putT_len (bs t : List UInt8) : bs.length ≤ (putT bs t).length ∧ t.length ≤ (putT bs t).length := by
  unfold putT
  split <;> simp <;> omega
theorem layT_len : ∀ (ts : List (List UInt8)) (bs : List UInt8), bs.length ≤ (layT bs ts).length
  | [], bs => Nat.le_refl _
  | t :: r, bs => by
    rw [layT_cons]
    exact Nat.le_trans (putT_len bs t).1 (layT_len r _)

/-- a row of texts -/
def strsO (ts : List (List UInt8)) : Obj := .cells (ts.map fun t => Value.string ⟨t.toArray⟩).toArray 9 (0, 0)

set_option maxRecDepth 100000 in
set_option maxHeartbeats 2000000 in
theorem lay_any (B b tb cap : Nat) (lv : Value) (ts : List (List UInt8)) (bs : List UInt8) (w : World) (h : PB w B b lv bs) (ht : w.heap[tb]? = some (strsO ts)) (hne : ∀ t ∈ ts, t ≠ []) (hlen : (layT bs ts).length ≤ 140737488355328) (hl : ts.length ≤ 100) (htb : tb ≠ b) :
    Calls Tryd.prog 48 #[.pointer (some ⟨b, 0, none⟩), .slice (some ⟨tb, 0, none⟩) ts.length cap] w fun e w' => e = .returned (.tuple #[]) ∧ PB w' B b lv (layT bs ts) ∧ Below B w w' ∧ Keep w w' b := by
  have HP : Bx _ := ⟨h⟩
  have HT : Bx _ := ⟨ht⟩
  clear h ht
  go_enter Tryd.func48, Tryd.ntmps48
  go_wp2
  go_loopw [8] (fun x wr => ∃ p : Nat, ∃ cs : List UInt8, p ≤ ts.length ∧ x = .int .i64 p ∧ Bx (PB wr B b lv cs ∧ wr.heap[tb]? = some (strsO ts) ∧ (Below B w wr ∧ Keep w wr b) ∧ layT bs ts = layT cs (ts.drop p))) (fun x _ => ts.length - (intOf x).toNat)
  case atStart => exact ⟨0, bs, Nat.zero_le _, rfl, ⟨HP.out, HT.out, ⟨Below.refl _ _, Keep.refl _ _⟩, rfl⟩⟩
  case round =>
    obtain ⟨p, cs, hp, rfl, HR⟩ := hrel
    by_cases hlt : p < ts.length
    · have hd : ts.drop p = ts[p] :: ts.drop (p + 1) := List.drop_eq_getElem_cons hlt
      have hc : wr.cell? ⟨tb, p, none⟩ = some (.string ⟨ts[p].toArray⟩) := by
        simp [World.cell?, HR.out.2.1, strsO, hlt]
      have htn := hne ts[p] (List.getElem_mem hlt)
      have hle := HR.out.2.2.2
      rw [hd, layT_cons] at hle
      generalize ts[p] = t at *
      have hl2 := layT_len (ts.drop (p + 1)) (putT cs t)
      rw [← hle] at hl2
      obtain ⟨hl3, hl4⟩ := putT_len cs t
      have hblt : b < wr.heap.size := by
        obtain ⟨q, v, _, hbk, _⟩ := HR.out.1.ex
        exact heap_lt hbk
      have HL : Bx _ := ⟨Len_any B b lv cs wr HR.out.1⟩
      have HE : Bx _ := ⟨hle⟩
      clear hd hle
      by_cases h0 : cs.length = 0
      · have hput : putT cs t = cs ++ t := by unfold putT; rw [if_pos h0, List.eq_nil_of_length_eq_zero h0]; rfl
        rw [hput] at HE hl2
        simp only [List.length_append] at hl2
        have hgt : ¬ (0 : Int) < (cs.length : Int) := by omega
        have HS : Bx _ := ⟨WriteString_any B b lv cs t wr HR.out.1 (by have := layT_len (ts.drop (p + 1)) (cs ++ t); rw [← HE.out] at this; simp at this; omega) htn⟩
        clear hput hl3 hl4 hl2
        go_wp2_with (first | (go_at_call 70; refine Calls.mono HL.out ?_; rintro e w' ⟨rfl, rfl⟩) | (go_at_call 72; refine Calls.mono HS.out ?_; rintro e w2 ⟨r, rfl, hp2, hk2, hb2⟩))
        go_roundw
        case rel => exact ⟨p + 1, cs ++ t, by omega, by go_num, ⟨hp2, hk2 tb _ _ _ HR.out.2.1 (by decide) htb, ⟨HR.out.2.2.1.1.trans hb2, HR.out.2.2.1.2.trans hk2⟩, HE.out⟩⟩
        case measure => simp [intOf]; omega
      · have hput : putT cs t = cs ++ [32] ++ t := by unfold putT; rw [if_neg h0]; simp
        rw [hput] at HE hl2
        simp only [List.length_append, List.length_cons, List.length_nil] at hl2
        have hgt : (0 : Int) < (cs.length : Int) := by omega
        have hb1 : cs.length + 1 + t.length ≤ 140737488355328 := by
          have := layT_len (ts.drop (p + 1)) (cs ++ [32] ++ t); rw [← HE.out] at this; simp at this; omega
        have HW : Bx _ := ⟨WriteByte_any B b lv cs 32 wr HR.out.1 (by omega)⟩
        have HS : Bx (∀ w', PB w' B b lv (cs ++ [32]) → Calls Tryd.prog 72 #[.pointer (some ⟨b, 1, none⟩), .string ⟨t.toArray⟩] w' fun e w'' => ∃ r, e = .returned r ∧ PB w'' B b lv (cs ++ [32] ++ t) ∧ Keep w' w'' b ∧ Below B w' w'') := ⟨fun w' hp' => WriteString_any B b lv (cs ++ [32]) t w' hp' (by simp; omega) htn⟩
        have HR2 : Bx _ := ⟨HR.out.2.1⟩
        clear hput hl3 hl4 hl2
        go_wp2_with (first | (go_at_call 70; refine Calls.mono HL.out ?_; rintro e w' ⟨rfl, rfl⟩) | (go_at_call 71; refine Calls.mono HW.out ?_; rintro e w1 ⟨rfl, hp1, hk1, hb1⟩; have hz1 := hb1.size) | (go_at_call 72; refine Calls.mono (HS.out _ hp1) ?_; rintro e w2 ⟨r, rfl, hp2, hk2, hb2⟩))
        go_roundw
        case rel => exact ⟨p + 1, cs ++ [32] ++ t, by omega, by go_num, ⟨hp2, hk2 tb _ _ _ (hk1 tb _ _ _ HR2.out (by decide) htb) (by decide) htb, ⟨HR.out.2.2.1.1.trans (hb1.trans hb2), HR.out.2.2.1.2.trans (hk1.trans hk2)⟩, HE.out⟩⟩
        case measure => simp [intOf]; omega
    · have HE : Bx (layT bs ts = cs) := ⟨by rw [HR.out.2.2.2, List.drop_eq_nil_of_le (by omega)]; rfl⟩
      go_wp2
      go_end0
      exact ⟨rfl, by rw [HE.out]; exact HR.out.1, HR.out.2.2.1.1, HR.out.2.2.1.2⟩
end Go.Proofs.YtfocggaocadkmaaDoor
