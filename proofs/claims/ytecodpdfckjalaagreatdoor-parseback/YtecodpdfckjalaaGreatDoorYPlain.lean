import Derived.Test.YtecodpdfckjalaaGreatDoorChecked
import Derived.WalkKit
import Derived.WalkSpells
import Derived.WalkLawsBesides
import Derived.Lib.SlBytesRow
import Derived.Laws.ResultCell
set_option linter.unusedVariables false
set_option linter.unusedSimpArgs false
set_option maxHeartbeats 4000000
set_option maxRecDepth 100000
namespace Go.Proofs.YtecodpdfckjalaaGreatDoor
def il (c : Int) : Bool := c == 9 || c == 10 || c == 13 || c == 32
def jS (c : Int) : Bool := c != 10
def wsI (c : Int) : Bool := (decide (97 <= c) && decide (c <= 122)) || (decide (65 <= c) && decide (c <= 90)) || c == 95
def cO (c : Int) : Bool := decide (48 <= c) && decide (c <= 57)
def wbI (c : Int) : Bool := wsI c || cO c
def gy (p : Int -> Bool) : List UInt8 -> Nat
 | [] => 0
 | b :: r => if p b.toNat then gy p r + 1 else 0
theorem wz (p : Int -> Bool) : ∀ l : List UInt8, gy p l <= l.length
 | [] => Nat.le_refl _
 | b :: r => by
  have := wz p r
  simp only [gy, List.length_cons]
  split <;> omega
def gz : Bool -> List UInt8 -> Nat
 | _, [] => 0
 | true, b :: r => if jS b.toNat then gz true r + 1 else gz false r + 1
 | false, b :: r => if il b.toNat then gz false r + 1 else if (b.toNat : Int) == 35 then gz true r + 1 else 0
theorem kG : ∀ (t : Bool) (l : List UInt8), gz t l <= l.length
 | _, [] => by simp [gz]
 | true, b :: r => by
  have h1 := kG true r
  have h2 := kG false r
  simp only [gz, List.length_cons]
  split <;> omega
 | false, b :: r => by
  have h1 := kG true r
  have h2 := kG false r
  simp only [gz, List.length_cons]
  split
  ·omega
  ·split <;> omega
theorem tL : ∀ l : List UInt8, gz true l = gy jS l + gz false (l.drop (gy jS l))
 | [] => by simp [gz, gy]
 | b :: r => by
  by_cases h : jS (b.toNat : Int) = true
  ·have ih := tL r
   simp only [gz, gy, h, if_true, List.drop_succ_cons]
   omega
  ·have h10 : il (b.toNat : Int) = true := by
    simp only [jS, bne_iff_ne, ne_eq, Decidable.not_not] at h
    rw [h]; rfl
   simp [gz, gy, h, h10]
theorem drop_at (xs : List UInt8) (k : Nat) (h : k < xs.length) : xs.drop k = xs[k] :: xs.drop (k + 1) := List.drop_eq_getElem_cons h
def aJ (p : Int -> Bool) (xs : List UInt8) (k : Nat) : Nat := k + gy p (xs.drop k)
def bL (xs : List UInt8) (k : Nat) : Nat := k + gz false (xs.drop k)
theorem eQ (p : Int -> Bool) (xs : List UInt8) (k : Nat) (h : k <= xs.length) : k <= aJ p xs k /\ aJ p xs k <= xs.length := by
 have := wz p (xs.drop k)
 simp only [List.length_drop] at this
 unfold aJ
 omega
theorem iG (xs : List UInt8) (k : Nat) (h : k <= xs.length) : k <= bL xs k /\ bL xs k <= xs.length := by
 have := kG false (xs.drop k)
 simp only [List.length_drop] at this
 unfold bL
 omega
theorem fJ (p : Int -> Bool) (xs : List UInt8) (k : Nat) (h : k < xs.length) (hp : p (xs[k].toNat : Int) = true) : aJ p xs k = aJ p xs (k + 1) := by
 unfold aJ
 rw [drop_at xs k h]
 simp only [gy, hp, if_true]
 omega
theorem nZ (p : Int -> Bool) (xs : List UInt8) (k : Nat) (h : k < xs.length) (hp : p (xs[k].toNat : Int) = false) : aJ p xs k = k := by
 unfold aJ
 rw [drop_at xs k h]
 simp [gy, hp]
theorem jl (p : Int -> Bool) (xs : List UInt8) (k : Nat) (h : xs.length <= k) : aJ p xs k = k := by
 unfold aJ
 rw [List.drop_eq_nil_of_le h]
 simp [gy]
theorem uN (xs : List UInt8) (k : Nat) (h : k < xs.length) (hp : il (xs[k].toNat : Int) = true) : bL xs k = bL xs (k + 1) := by
 unfold bL
 rw [drop_at xs k h]
 simp only [gz, hp, if_true]
 omega
theorem yg (xs : List UInt8) (k : Nat) (h : k < xs.length) (hp : il (xs[k].toNat : Int) = false) (hr : ((xs[k].toNat : Int) == 35) = true) : bL xs k = bL xs (aJ jS xs k) := by
 have hre : jS (xs[k].toNat : Int) = true := by
  simp only [beq_iff_eq] at hr
  rw [hr]; rfl
 rw [fJ jS xs k h hre]
 unfold bL aJ
 rw [drop_at xs k h]
 simp only [gz, hp, hr, if_true, tL, Bool.false_eq_true, if_false, List.drop_drop]
 omega
theorem Bu (xs : List UInt8) (k : Nat) (h : k < xs.length) (hp : il (xs[k].toNat : Int) = false) (hr : ((xs[k].toNat : Int) == 35) = false) : bL xs k = k := by
 unfold bL
 rw [drop_at xs k h]
 simp [gz, hp, hr]
theorem pV (xs : List UInt8) (k : Nat) (h : xs.length <= k) : bL xs k = k := by
 unfold bL
 rw [List.drop_eq_nil_of_le h]
 simp [gz]
theorem sQ (xs : List UInt8) (k : Nat) (h : k < xs.length) (hr : ((xs[k].toNat : Int) == 35) = true) : k < aJ jS xs k := by
 have hre : jS (xs[k].toNat : Int) = true := by
  simp only [beq_iff_eq] at hr
  rw [hr]; rfl
 rw [fJ jS xs k h hre]
 have := (eQ jS xs (k + 1) (by omega)).1
 omega
end Go.Proofs.YtecodpdfckjalaaGreatDoor
namespace Go.Proofs.YtecodpdfckjalaaGreatDoor
open Go.RowKit
theorem gp {k : IntKind} {a b : Int} (h : a = b) : Ending.returned (.int k a) = .returned (.int k b) := by rw [h]
theorem mU (c : Int) (w : World) : Calls Tryz.prog 60 #[.int .u8 c] w fun e w' => e = .returned (.bool (jS c)) /\ w = w' := by
  go_enter Tryz.func60, Tryz.ntmps60
  go_wp2
  go_ret
  exact ⟨rfl, rfl⟩
theorem gY (c : Int) (w : World) : Calls Tryz.prog 63 #[.int .u8 c] w fun e w' => e = .returned (.bool (cO c)) /\ w = w' := by
  unfold cO
  by_cases h1 : 48 <= c
  · go_enter Tryz.func63, Tryz.ntmps63
    go_wp2
    go_ret
    exact ⟨by simp [h1], rfl⟩
  · have h2 : decide (48 <= c) = false := by simpa using h1
    rw [h2]
    go_enter Tryz.func63, Tryz.ntmps63
    go_wp2
    go_ret
    exact ⟨by simp, rfl⟩
theorem kH (c : Int) (w : World) : Calls Tryz.prog 58 #[.int .u8 c] w fun e w' => e = .returned (.bool (il c)) /\ w = w' := by
  unfold il
  cases h1 : (c == 9)
  · cases h2 : (c == 10)
    · cases h3 : (c == 13)
      · go_enter Tryz.func58, Tryz.ntmps58
        go_wp2
        go_ret
        exact ⟨by simp, rfl⟩
      · go_enter Tryz.func58, Tryz.ntmps58
        go_wp2
        go_ret
        exact ⟨by simp, rfl⟩
    · go_enter Tryz.func58, Tryz.ntmps58
      go_wp2
      go_ret
      exact ⟨by simp, rfl⟩
  · go_enter Tryz.func58, Tryz.ntmps58
    go_wp2
    go_ret
    exact ⟨by simp, rfl⟩
theorem bi (c : Int) (w : World) : Calls Tryz.prog 61 #[.int .u8 c] w fun e w' => e = .returned (.bool (wsI c)) /\ w = w' := by
  unfold wsI
  cases h1 : decide (97 <= c) <;> cases h2 : decide (c <= 122) <;> cases h3 : decide (65 <= c) <;> cases h4 : decide (c <= 90) <;>
    (go_enter Tryz.func61, Tryz.ntmps61
     go_wp2
     go_ret
     exact ⟨by simp, rfl⟩)
theorem kI (c : Int) (w : World) : Calls Tryz.prog 79 #[.int .u8 c] w fun e w' => e = .returned (.bool (wbI c)) /\ w = w' := by
  unfold wbI
  cases h1 : wsI c
  · go_enter Tryz.func79, Tryz.ntmps79
    go_wp2_with (first | (go_at_call 61; refine (bi _ _).mono ?_; rintro e w' ⟨rfl, rfl⟩) | (go_at_call 63; refine (gY _ _).mono ?_; rintro e w' ⟨rfl, rfl⟩))
    go_ret
    exact ⟨by simp, rfl⟩
  · go_enter Tryz.func79, Tryz.ntmps79
    go_wp2_with (first | (go_at_call 61; refine (bi _ _).mono ?_; rintro e w' ⟨rfl, rfl⟩) | (go_at_call 63; refine (gY _ _).mono ?_; rintro e w' ⟨rfl, rfl⟩))
    go_ret
    exact ⟨by simp, rfl⟩
def Src (w : World) (b o : Nat) (xs : List UInt8) : Prop := ∀ i (h : i < xs.length), w.cell? ⟨b, o + i, none⟩ = some (.int .u8 (xs[i].toNat : Int))
theorem yh (b o cap : Nat) (xs : List UInt8) (k : Nat) (w : World) (hs : Src w b o xs) (hl : xs.length <= maxLen) (hk : k <= xs.length) :
    Calls Tryz.prog 59 #[.slice (some ⟨b, o, none⟩) xs.length cap, .int .i64 k, .func (.func 60) #[] #[]] w fun e w' => e = .returned (.int .i64 (aJ jS xs k)) /\ w = w' := by
  unfold maxLen at hl
  go_enter Tryz.func59, Tryz.ntmps59
  go_wp2
  go_loop [1] (fun i => ∃ j : Nat, j <= xs.length /\ i = .int .i64 j /\ Hid (aJ jS xs k = aJ jS xs j)) (fun i => xs.length - (intOf i).toNat)
  case atStart => exact ⟨k, hk, rfl, rfl⟩
  case round =>
    obtain ⟨j, hj, rfl, H⟩ := hrel
    by_cases hlt : j < xs.length
    · have hc := hs j hlt
      cases hb : jS (xs[j].toNat : Int)
      · go_wp2_with (first | (go_at_call 60; refine (mU _ _).mono ?_; rintro e w' ⟨rfl, rfl⟩))
        go_ret
        exact ⟨gp (by rw [H.out, nZ _ _ _ hlt hb]), rfl⟩
      · go_wp2_with (first | (go_at_call 60; refine (mU _ _).mono ?_; rintro e w' ⟨rfl, rfl⟩))
        go_round
        case rel => exact ⟨j + 1, by omega, by go_num, by rw [H.out]; exact fJ _ _ _ hlt hb⟩
        case measure => simp [intOf]; omega
    · go_wp2
      go_ret
      exact ⟨gp (by rw [H.out, jl _ _ _ (by omega)]), rfl⟩
theorem yj (b o cap : Nat) (xs : List UInt8) (k : Nat) (w : World) (hs : Src w b o xs) (hl : xs.length <= maxLen) (hk : k <= xs.length) :
    Calls Tryz.prog 59 #[.slice (some ⟨b, o, none⟩) xs.length cap, .int .i64 k, .func (.func 63) #[] #[]] w fun e w' => e = .returned (.int .i64 (aJ cO xs k)) /\ w = w' := by
  unfold maxLen at hl
  go_enter Tryz.func59, Tryz.ntmps59
  go_wp2
  go_loop [1] (fun i => ∃ j : Nat, j <= xs.length /\ i = .int .i64 j /\ Hid (aJ cO xs k = aJ cO xs j)) (fun i => xs.length - (intOf i).toNat)
  case atStart => exact ⟨k, hk, rfl, rfl⟩
  case round =>
    obtain ⟨j, hj, rfl, H⟩ := hrel
    by_cases hlt : j < xs.length
    · have hc := hs j hlt
      cases hb : cO (xs[j].toNat : Int)
      · go_wp2_with (first | (go_at_call 63; refine (gY _ _).mono ?_; rintro e w' ⟨rfl, rfl⟩))
        go_ret
        exact ⟨gp (by rw [H.out, nZ _ _ _ hlt hb]), rfl⟩
      · go_wp2_with (first | (go_at_call 63; refine (gY _ _).mono ?_; rintro e w' ⟨rfl, rfl⟩))
        go_round
        case rel => exact ⟨j + 1, by omega, by go_num, by rw [H.out]; exact fJ _ _ _ hlt hb⟩
        case measure => simp [intOf]; omega
    · go_wp2
      go_ret
      exact ⟨gp (by rw [H.out, jl _ _ _ (by omega)]), rfl⟩
theorem yl (b o cap : Nat) (xs : List UInt8) (k : Nat) (w : World) (hs : Src w b o xs) (hl : xs.length <= maxLen) (hk : k <= xs.length) :
    Calls Tryz.prog 59 #[.slice (some ⟨b, o, none⟩) xs.length cap, .int .i64 k, .func (.func 79) #[] #[]] w fun e w' => e = .returned (.int .i64 (aJ wbI xs k)) /\ w = w' := by
  unfold maxLen at hl
  go_enter Tryz.func59, Tryz.ntmps59
  go_wp2
  go_loop [1] (fun i => ∃ j : Nat, j <= xs.length /\ i = .int .i64 j /\ Hid (aJ wbI xs k = aJ wbI xs j)) (fun i => xs.length - (intOf i).toNat)
  case atStart => exact ⟨k, hk, rfl, rfl⟩
  case round =>
    obtain ⟨j, hj, rfl, H⟩ := hrel
    by_cases hlt : j < xs.length
    · have hc := hs j hlt
      cases hb : wbI (xs[j].toNat : Int)
      · go_wp2_with (first | (go_at_call 79; refine (kI _ _).mono ?_; rintro e w' ⟨rfl, rfl⟩))
        go_ret
        exact ⟨gp (by rw [H.out, nZ _ _ _ hlt hb]), rfl⟩
      · go_wp2_with (first | (go_at_call 79; refine (kI _ _).mono ?_; rintro e w' ⟨rfl, rfl⟩))
        go_round
        case rel => exact ⟨j + 1, by omega, by go_num, by rw [H.out]; exact fJ _ _ _ hlt hb⟩
        case measure => simp [intOf]; omega
    · go_wp2
      go_ret
      exact ⟨gp (by rw [H.out, jl _ _ _ (by omega)]), rfl⟩
theorem wB (b o cap : Nat) (xs : List UInt8) (k : Nat) (w : World) (hs : Src w b o xs) (hl : xs.length <= maxLen) (hk : k <= xs.length) :
    Calls Tryz.prog 35 #[.slice (some ⟨b, o, none⟩) xs.length cap, .int .i64 k] w fun e w' => e = .returned (.int .i64 (bL xs k)) /\ w = w' := by
  have hl0 := hl
  unfold maxLen at hl
  go_enter Tryz.func35, Tryz.ntmps35
  go_wp2
  go_loop [1] (fun i => ∃ j : Nat, j <= xs.length /\ i = .int .i64 j /\ Hid (bL xs k = bL xs j)) (fun i => xs.length - (intOf i).toNat)
  case atStart => exact ⟨k, hk, rfl, rfl⟩
  case round =>
    obtain ⟨j, hj, rfl, H⟩ := hrel
    by_cases hlt : j < xs.length
    · have hc := hs j hlt
      cases hb : il (xs[j].toNat : Int)
      · cases hr : ((xs[j].toNat : Int) == 35)
        · go_wp2_with (first | (go_at_call 58; refine (kH _ _).mono ?_; rintro e w' ⟨rfl, rfl⟩))
          go_ret
          exact ⟨gp (by rw [H.out, Bu _ _ hlt hb hr]), rfl⟩
        · have hgt := sQ xs j hlt hr
          have hle := (eQ jS xs j hj).2
          go_wp2_with (first | (go_at_call 58; refine (kH _ _).mono ?_; rintro e w' ⟨rfl, rfl⟩) | (go_at_call 59; refine (yh _ _ _ _ _ _ hs hl0 hj).mono ?_; rintro e w' ⟨rfl, rfl⟩))
          go_round
          case rel => exact ⟨aJ jS xs j, hle, rfl, by rw [H.out]; exact yg _ _ hlt hb hr⟩
          case measure => simp [intOf]; omega
      · go_wp2_with (first | (go_at_call 58; refine (kH _ _).mono ?_; rintro e w' ⟨rfl, rfl⟩))
        go_round
        case rel => exact ⟨j + 1, by omega, by go_num, by rw [H.out]; exact uN _ _ hlt hb⟩
        case measure => simp [intOf]; omega
    · go_wp2
      go_ret
      exact ⟨gp (by rw [H.out, pV _ _ (by omega)]), rfl⟩
theorem skip_none (a : Option Addr) (cap : Nat) (w : World) :
    Calls Tryz.prog 35 #[.slice a 0 cap, .int .i64 0] w fun e w' => e = .returned (.int .i64 0) /\ w = w' := by
  go_enter Tryz.func35, Tryz.ntmps35
  go_wp2
  go_loop [1] (fun i => i = .int .i64 0) (fun _ => 0)
  case atStart => rfl
  case round =>
    subst hrel
    go_wp2
    go_ret
    exact ⟨rfl, rfl⟩
def fK : List (List UInt8) := [[97, 114, 114, 97, 121], [98, 101, 103, 105, 110], [98, 111, 111, 108], [99, 97, 115, 101], [99, 104, 97, 110], [101, 108, 115, 101], [102, 97, 108, 115, 101], [102, 105, 108, 108], [105, 102], [105, 110, 116], [108, 101, 110], [109, 97, 107, 101], [111, 102], [112, 114, 111, 103], [114, 101, 116, 117, 114, 110], [115, 101, 108, 101, 99, 116], [116, 114, 117, 101], [116, 121, 112, 101], [118, 97, 108], [118, 97, 114], [119, 104, 105, 108, 101]]
def dL : List (List UInt8) := [[40], [41], [91], [93], [123], [125], [44], [59], [58], [46], [61], [61, 61], [33, 61], [60], [60, 61], [62], [62, 61], [43], [45], [42], [47], [37], [38, 38], [124, 124], [33], [60, 45], [60, 45, 61]]
def TabAt (w : World) (g : Nat) (T : List (List UInt8)) : Prop := ∀ i, i < T.length -> w.cell? ⟨g, i, none⟩ = some (.string ⟨(T.getD i []).toArray⟩)
def dx : List (List UInt8) -> Nat -> List UInt8 -> Nat
 | [], _, _ => 0
 | x :: r, n, t => if x == t then n else dx r (n + 1) t
theorem uO (T : List (List UInt8)) (j n : Nat) (t : List UInt8) (h : j < T.length) (hq : (T[j]?.getD [] == t) = true) : dx (T.drop j) n t = n := by
 rw [List.drop_eq_getElem_cons h]
 rw [List.getElem?_eq_getElem h, Option.getD_some] at hq
 simp only [dx, hq, if_true]
theorem wC (T : List (List UInt8)) (j n : Nat) (t : List UInt8) (h : j < T.length) (hq : (T[j]?.getD [] == t) = false) : dx (T.drop j) n t = dx (T.drop (j + 1)) (n + 1) t := by
 rw [List.drop_eq_getElem_cons h]
 rw [List.getElem?_eq_getElem h, Option.getD_some] at hq
 simp only [dx, hq, Bool.false_eq_true, if_false]
theorem oK : ∀ (T : List (List UInt8)) (n : Nat) (t : List UInt8), dx T n t <= n + T.length
 | [], n, t => by simp [dx]
 | x :: r, n, t => by
  have := oK r (n + 1) t
  simp only [dx, List.length_cons]
  split <;> omega
def iE (t : List UInt8) : Nat := dx fK 10 t
def Ld (t : List UInt8) : Nat := dx dL 40 t
def Dt (t : List UInt8) : Nat := if iE t = 0 then Ld t else iE t
theorem Du (t : List UInt8) : iE t <= 31 := oK fK 10 t
theorem uP (s : ByteArray) (w : World) (ht : TabAt w 1 fK) :
  Calls Tryz.prog 80 #[.string s] w fun e w' => e = .returned (.int .i64 (iE s.toList)) /\ w = w' := by
 go_enter Tryz.func80, Tryz.ntmps80
 go_wp2
 go_loop [4] (fun i => ∃ j : Nat, j <= 21 /\ i = .int .i64 j /\ Hid (iE s.toList = dx (fK.drop j) (10 + j) s.toList)) (fun i => 21 - (intOf i).toNat)
 case atStart => exact ⟨0, by omega, rfl, rfl⟩
 case round =>
  obtain ⟨j, hj, rfl, H⟩ := hrel
  by_cases hlt : j < 21
  ·have hc := ht j hlt
   cases hq : (fK[j]?.getD [] == s.toList)
   ·have HQ : Hid (iE s.toList = dx (fK.drop (j + 1)) (10 + (j + 1)) s.toList) := by
     have := wC fK j (10 + j) s.toList hlt hq
     exact H.out.trans this
    go_wp2
    go_round
    case rel => exact ⟨j + 1, by omega, by go_num, HQ⟩
    case measure => simp [intOf]; omega
   ·have HQ : Hid (iE s.toList = 10 + j) := H.out.trans (uO fK j (10 + j) s.toList hlt hq)
    go_wp2
    go_ret
    exact ⟨gp (by rw [HQ.out]; omega), rfl⟩
  ·have HQ : Hid (iE s.toList = 0) := H.out.trans (by rw [List.drop_eq_nil_of_le (show fK.length <= j from Nat.le_of_not_lt hlt)]; rfl)
   go_wp2
   go_ret
   exact ⟨gp (by rw [HQ.out]; rfl), rfl⟩
def ax (k : Int) : List UInt8 := if 10 <= k /\ k < 31 then fK.getD (k - 10).toNat [] else if 40 <= k /\ k < 67 then dL.getD (k - 40).toNat [] else []
structure Tok where
 kind : Nat
 place : Nat
 len : Nat
 num : Nat
def sS (t : Tok) : List Value := [.int .i64 t.kind, .int .i64 t.place, .int .i64 t.len, .int .i64 t.num]
def aa (t : Tok) : Value := .agg #[.int .i64 t.kind, .int .i64 t.place, .int .i64 t.len, .int .i64 t.num]
def gM : Tok := ⟨0, 0, 0, 0⟩
def iZ (xs : List UInt8) (k : Nat) : Tok × Nat :=
 if iE ((xs.drop k).take (aJ wbI xs k - k)) ≠ 0 then (⟨iE ((xs.drop k).take (aJ wbI xs k - k)), k, aJ wbI xs k - k, 0⟩, 0)
 else if 32 < aJ wbI xs k - k then (gM, 13) else (⟨1, k, aJ wbI xs k - k, 0⟩, 0)
theorem sizeOf5 (w : World) : (Go.sizeOf 5).run Tryz.prog w = .ok 1 w := by kernel_rfl
theorem Src.below {w w' : World} {b o : Nat} {xs : List UInt8} (h : Src w b o xs) (hb : b < w.heap.size) (hw : Below w.heap.size w w') : Src w' b o xs := fun i hi => by
 rw [hw.cell hb]; exact h i hi
def cut (xs : List UInt8) (k e : Nat) : List UInt8 := (xs.drop k).take (e - k)
theorem pW (w : World) (b o cap : Nat) (xs : List UInt8) (k e : Nat) (hs : Src w b o xs) (hk : k <= e) (he : e <= xs.length) :
  (convert 33 9 (.slice (some ⟨b, o + k, none⟩) (e - k) cap)).run Tryz.prog w = .ok (.string ⟨(cut xs k e).toArray⟩) w := by
 have hc : Lib.Bytes w b o ⟨xs.toArray⟩ := fun i hi => by
  have := hs i (by simpa [ByteArray.size] using hi)
  rw [this]; rfl
 rw [Lib.run_convert_window (P := Tryz.prog) w 33 5 9 Tryz.underlying33 Tryz.underlying5 Tryz.underlying9 b o ⟨xs.toArray⟩ hc k (e - k) cap (by simp [ByteArray.size]; omega)]
 congr 2
 apply Go.WideShapes.bytes_inj
 rw [Lib.extract_data]
 simp only [cut]
 congr 1
 omega
theorem TabAt.below {w w' : World} {g : Nat} {T : List (List UInt8)} (h : TabAt w g T) (hb : g < w.heap.size) (hw : Below w.heap.size w w') : TabAt w' g T := fun i hi => by
 rw [hw.cell hb]; exact h i hi
theorem ym (l : List UInt8) (w : World) (ht : TabAt w 1 fK) :
  Calls Tryz.prog 80 #[.string ⟨l.toArray⟩] w fun e w' => e = .returned (.int .i64 (iE l)) /\ w = w' := by
 have h := uP ⟨l.toArray⟩ w ht
 rw [ByteArray.toList_eq] at h
 exact h
theorem Dv (b o cap : Nat) (xs : List UInt8) (k E K : Nat) (w : World) (hl : xs.length <= maxLen) (hk : k < E) (hE : E <= xs.length) (hcap : xs.length <= cap)
  (HS : Hid (∀ o', Calls Tryz.prog 59 #[.slice (some ⟨b, o, none⟩) xs.length cap, .int .i64 k, .func (.func 79) #[] #[]] (w.alloc o') fun e w' => e = .returned (.int .i64 E) /\ w.alloc o' = w'))
  (HW : Hid (∀ o', Calls Tryz.prog 80 #[.string ⟨(cut xs k E).toArray⟩] (w.alloc o') fun e w' => e = .returned (.int .i64 K) /\ w.alloc o' = w'))
  (hcv : ∀ o', (convert 33 9 (.slice (some ⟨b, o + k, none⟩) (E - k) (cap - k))).run Tryz.prog (w.alloc o') = .ok (.string ⟨(cut xs k E).toArray⟩) (w.alloc o')) (_hK : K <= 31) (h0 : K ≠ 0) :
  Calls Tryz.prog 62 #[.slice (some ⟨b, o, none⟩) xs.length cap, .int .i64 k] w fun e w' => e = .returned (.tuple #[aa ⟨K, k, E - k, 0⟩, .int .i64 0]) /\ Below w.heap.size w w' := by
 have hsl := fun o' => Lib.run_slice_window (P := Tryz.prog) (w.alloc o') 33 5 Tryz.underlying33 sizeOf5 b o xs.length cap k E hk (by omega)
 unfold maxLen at hl
 have hsub : ((E - k : Nat) : Int) = (E : Int) - (k : Int) := by omega
 have HU : Hid _ := hsub
 clear hsub
 have hne : ((K : Int) != 0) = true := by rw [bne_iff_ne]; omega
 go_enter Tryz.func62, Tryz.ntmps62
 go_wp2_with (first | (go_at_call 59; refine Calls.mono (HS.out _) ?_; rintro e w' ⟨rfl, rfl⟩) | (go_at_call 80; refine Calls.mono (HW.out _) ?_; rintro e w' ⟨rfl, rfl⟩))
 refine bodyPost_ret (v := .tuple #[aa ⟨K, k, E - k, 0⟩, .int .i64 0]) (by simp [results, Tryz.results62, go_sem, aa, HU.out]) rfl ⟨rfl, ?_⟩
 exact ((Below.refl _ _).alloc (Nat.le_refl _) _).alloc (by simp) _
theorem Bv (b o cap : Nat) (xs : List UInt8) (k E K : Nat) (w : World) (hl : xs.length <= maxLen) (hk : k < E) (hE : E <= xs.length) (hcap : xs.length <= cap)
  (HS : Hid (∀ o', Calls Tryz.prog 59 #[.slice (some ⟨b, o, none⟩) xs.length cap, .int .i64 k, .func (.func 79) #[] #[]] (w.alloc o') fun e w' => e = .returned (.int .i64 E) /\ w.alloc o' = w'))
  (HW : Hid (∀ o', Calls Tryz.prog 80 #[.string ⟨(cut xs k E).toArray⟩] (w.alloc o') fun e w' => e = .returned (.int .i64 K) /\ w.alloc o' = w'))
  (hcv : ∀ o', (convert 33 9 (.slice (some ⟨b, o + k, none⟩) (E - k) (cap - k))).run Tryz.prog (w.alloc o') = .ok (.string ⟨(cut xs k E).toArray⟩) (w.alloc o')) (_hK : K <= 31) (h0 : K = 0) (h32 : 32 < E - k) :
  Calls Tryz.prog 62 #[.slice (some ⟨b, o, none⟩) xs.length cap, .int .i64 k] w fun e w' => e = .returned (.tuple #[aa gM, .int .i64 13]) /\ Below w.heap.size w w' := by
 have hsl := fun o' => Lib.run_slice_window (P := Tryz.prog) (w.alloc o') 33 5 Tryz.underlying33 sizeOf5 b o xs.length cap k E hk (by omega)
 unfold maxLen at hl
 have hsub : ((E - k : Nat) : Int) = (E : Int) - (k : Int) := by omega
 have HU : Hid _ := hsub
 clear hsub
 have hne : ((K : Int) != 0) = false := by rw [h0]; rfl
 clear h0
 have hg : (32 : Int) < (E : Int) - (k : Int) := by omega
 go_enter Tryz.func62, Tryz.ntmps62
 go_wp2_with (first | (go_at_call 59; refine Calls.mono (HS.out _) ?_; rintro e w' ⟨rfl, rfl⟩) | (go_at_call 80; refine Calls.mono (HW.out _) ?_; rintro e w' ⟨rfl, rfl⟩))
 refine bodyPost_ret (v := .tuple #[aa gM, .int .i64 13]) (by simp [results, Tryz.results62, go_sem, aa, gM]) rfl ⟨rfl, ?_⟩
 exact ((Below.refl _ _).alloc (Nat.le_refl _) _).alloc (by simp) _
theorem Bw (b o cap : Nat) (xs : List UInt8) (k E K : Nat) (w : World) (hl : xs.length <= maxLen) (hk : k < E) (hE : E <= xs.length) (hcap : xs.length <= cap)
  (HS : Hid (∀ o', Calls Tryz.prog 59 #[.slice (some ⟨b, o, none⟩) xs.length cap, .int .i64 k, .func (.func 79) #[] #[]] (w.alloc o') fun e w' => e = .returned (.int .i64 E) /\ w.alloc o' = w'))
  (HW : Hid (∀ o', Calls Tryz.prog 80 #[.string ⟨(cut xs k E).toArray⟩] (w.alloc o') fun e w' => e = .returned (.int .i64 K) /\ w.alloc o' = w'))
  (hcv : ∀ o', (convert 33 9 (.slice (some ⟨b, o + k, none⟩) (E - k) (cap - k))).run Tryz.prog (w.alloc o') = .ok (.string ⟨(cut xs k E).toArray⟩) (w.alloc o')) (_hK : K <= 31) (h0 : K = 0) (h32 : ¬ 32 < E - k) :
  Calls Tryz.prog 62 #[.slice (some ⟨b, o, none⟩) xs.length cap, .int .i64 k] w fun e w' => e = .returned (.tuple #[aa ⟨1, k, E - k, 0⟩, .int .i64 0]) /\ Below w.heap.size w w' := by
 have hsl := fun o' => Lib.run_slice_window (P := Tryz.prog) (w.alloc o') 33 5 Tryz.underlying33 sizeOf5 b o xs.length cap k E hk (by omega)
 unfold maxLen at hl
 have hsub : ((E - k : Nat) : Int) = (E : Int) - (k : Int) := by omega
 have HU : Hid _ := hsub
 clear hsub
 have hne : ((K : Int) != 0) = false := by rw [h0]; rfl
 clear h0
 have hg : ¬ (32 : Int) < (E : Int) - (k : Int) := by omega
 go_enter Tryz.func62, Tryz.ntmps62
 go_wp2_with (first | (go_at_call 59; refine Calls.mono (HS.out _) ?_; rintro e w' ⟨rfl, rfl⟩) | (go_at_call 80; refine Calls.mono (HW.out _) ?_; rintro e w' ⟨rfl, rfl⟩))
 refine bodyPost_ret (v := .tuple #[aa ⟨1, k, E - k, 0⟩, .int .i64 0]) (by simp [results, Tryz.results62, go_sem, aa, HU.out]) rfl ⟨rfl, ?_⟩
 exact ((Below.refl _ _).alloc (Nat.le_refl _) _).alloc (by simp) _
theorem Dw (b o cap : Nat) (xs : List UInt8) (k : Nat) (w : World) (hs : Src w b o xs) (hb : b < w.heap.size) (hl : xs.length <= maxLen) (hcap : xs.length <= cap) (hk : k < aJ wbI xs k) (ht : TabAt w 1 fK) (h0 : 1 < w.heap.size) :
  Calls Tryz.prog 62 #[.slice (some ⟨b, o, none⟩) xs.length cap, .int .i64 k] w fun e w' => e = .returned (.tuple #[aa (iZ xs k).1, .int .i64 (iZ xs k).2]) /\ Below w.heap.size w w' := by
 have hkl : k <= xs.length := by
  rcases Nat.lt_or_ge xs.length k with h | h
  ·rw [jl _ _ _ (by omega)] at hk; omega
  ·exact h
 obtain ⟨_, hE2⟩ := eQ wbI xs k hkl
 have hbl : ∀ o', Below w.heap.size w (w.alloc o') := fun o' => (Below.refl _ _).alloc (Nat.le_refl _) _
 have hsp : Hid _ := fun o' => yl b o cap xs k (w.alloc o') (hs.below hb (hbl o')) hl hkl
 have hcv := fun o' => pW (w.alloc o') b o (cap - k) xs k (aJ wbI xs k) (hs.below hb (hbl o')) (by omega) hE2
 have hw : Hid _ := fun o' => ym (cut xs k (aJ wbI xs k)) (w.alloc o') (ht.below h0 (hbl o'))
 have hle := Du (cut xs k (aJ wbI xs k))
 have hR : iZ xs k = if iE (cut xs k (aJ wbI xs k)) ≠ 0 then (⟨iE (cut xs k (aJ wbI xs k)), k, aJ wbI xs k - k, 0⟩, 0)
  else if 32 < aJ wbI xs k - k then (gM, 13) else (⟨1, k, aJ wbI xs k - k, 0⟩, 0) := rfl
 by_cases hz : iE (cut xs k (aJ wbI xs k)) = 0
 ·rw [if_neg (by omega)] at hR
  by_cases h32 : 32 < aJ wbI xs k - k
  ·rw [if_pos h32] at hR
   rw [hR]
   exact Bv b o cap xs k _ _ w hl hk hE2 hcap hsp hw hcv hle hz h32
  ·rw [if_neg h32] at hR
   rw [hR]
   exact Bw b o cap xs k _ _ w hl hk hE2 hcap hsp hw hcv hle hz h32
 ·rw [if_pos hz] at hR
  rw [hR]
  exact Dv b o cap xs k _ _ w hl hk hE2 hcap hsp hw hcv hle hz
end Go.Proofs.YtecodpdfckjalaaGreatDoor
