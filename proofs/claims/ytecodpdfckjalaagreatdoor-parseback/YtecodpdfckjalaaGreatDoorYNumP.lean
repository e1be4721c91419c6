import Derived.Test.YtecodpdfckjalaaGreatDoorYPlain
import Derived.Lib.AtoiAll
import Derived.Shelf.Small.Wraps
import Derived.Shelf.LaysM
import Derived.Shelf.Strconv.Itoa3
import Derived.Shelf.LaysC
import Derived.Shelf.Strconv.AtoiAll
import Derived.Shelf.Bytes.SlSmallAll
import Derived.Test.YtecodpdfckjalaaGreatDoorProg
set_option linter.unusedVariables false
set_option linter.unusedSimpArgs false
set_option maxHeartbeats 4000000
set_option maxRecDepth 100000
namespace Go.Proofs.YtecodpdfckjalaaGreatDoor
open Go.RowKit
def eY (acc : Nat) : List UInt8 -> Nat
 | [] => acc
 | c :: r => eY (acc * 10 + (c.toNat - 48)) r
def fq (l : List UInt8) : Nat := eY 0 l
def gW : List UInt8 -> Bool
 | [] => true
 | c :: r => cO c.toNat && gW r
theorem yn (l : List UInt8) : ∀ acc : Nat, acc <= eY acc l := by
 induction l with
 | nil => intro acc; exact Nat.le_refl _
 | cons c r ih =>
  intro acc
  have := ih (acc * 10 + (c.toNat - 48))
  show acc <= eY (acc * 10 + (c.toNat - 48)) r
  generalize eY (acc * 10 + (c.toNat - 48)) r = z at *
  omega
theorem wD (l : List UInt8) : ∀ acc : Nat, gW l = true -> eY acc l < 18446744073709551616 -> Lib.parseUint10 acc l = .ok (eY acc l) := by
 induction l with
 | nil => intro acc _ _; rfl
 | cons c r ih =>
  intro acc hd h
  simp only [gW, cO, Bool.and_eq_true, decide_eq_true_eq] at hd
  obtain ⟨⟨h1, h2⟩, h3⟩ := hd
  have hs : eY acc (c :: r) = eY (acc * 10 + (c.toNat - 48)) r := rfl
  rw [hs] at h ⊢
  have hge := yn r (acc * 10 + (c.toNat - 48))
  have ih' := ih (acc * 10 + (c.toNat - 48)) h3 h
  have e1 : 48 <= c.toNat /\ c.toNat <= 57 := by omega
  have e2 : ¬ 1844674407370955162 <= acc := by omega
  have e3 : ¬ 18446744073709551616 <= acc * 10 + (c.toNat - 48) := by omega
  rw [Lib.parseUint10, if_pos e1, if_neg e2, if_neg e3]
  exact ih'
theorem wE (l : List UInt8) : ∀ acc : Nat, gW l = true -> acc < 18446744073709551616 -> 18446744073709551616 <= eY acc l -> Lib.parseUint10 acc l = .range := by
 induction l with
 | nil =>
  intro acc _ h1 h2
  have e : eY acc [] = acc := rfl
  rw [e] at h2
  omega
 | cons c r ih =>
  intro acc hd h0 h
  simp only [gW, cO, Bool.and_eq_true, decide_eq_true_eq] at hd
  obtain ⟨⟨h1, h2⟩, h3⟩ := hd
  have hs : eY acc (c :: r) = eY (acc * 10 + (c.toNat - 48)) r := rfl
  rw [hs] at h
  have e1 : 48 <= c.toNat /\ c.toNat <= 57 := by omega
  rw [Lib.parseUint10, if_pos e1]
  by_cases e2 : 1844674407370955162 <= acc
  ·rw [if_pos e2]
  ·by_cases e3 : 18446744073709551616 <= acc * 10 + (c.toNat - 48)
   ·rw [if_neg e2, if_pos e3]
   ·rw [if_neg e2, if_neg e3]
    exact ih _ h3 (by omega) h
theorem FM (l : List UInt8) (hne : l ≠ []) (hd : gW l = true) (hv : fq l < 9223372036854775808) : Lib.atoiAll l = .ok (fq l : Int) := by
 cases l with
 | nil => exact absurd rfl hne
 | cons c r =>
  have hp := wD (c :: r) 0 hd (by unfold fq at hv; omega)
  have hd' := hd
  simp only [gW, cO, Bool.and_eq_true, decide_eq_true_eq] at hd'
  obtain ⟨⟨h1, h2⟩, _⟩ := hd'
  have n43 : ¬ (c.toNat = 43 ∨ c.toNat = 45) := by omega
  have n45 : ¬ c.toNat = 45 := by omega
  have hm : Lib.parseMag (c :: r) = .ok (fq (c :: r)) := by
   unfold Lib.parseMag; rw [if_neg (by simp)]; exact hp
  have hsel : (if c.toNat = 43 ∨ c.toNat = 45 then r else c :: r) = c :: r := if_neg n43
  unfold Lib.atoiAll
  dsimp only
  rw [hsel, hm]
  dsimp only
  generalize fq (c :: r) = z at *
  rw [if_neg (by omega), if_neg (by omega), if_neg n45]
theorem yo (l : List UInt8) (hne : l ≠ []) (hd : gW l = true) (hv : ¬ fq l < 9223372036854775808) : Lib.atoiAll l = .range := by
 cases l with
 | nil => exact absurd rfl hne
 | cons c r =>
  have hd' := hd
  simp only [gW, cO, Bool.and_eq_true, decide_eq_true_eq] at hd'
  obtain ⟨⟨h1, h2⟩, _⟩ := hd'
  have n43 : ¬ (c.toNat = 43 ∨ c.toNat = 45) := by omega
  have n45 : ¬ c.toNat = 45 := by omega
  by_cases b : fq (c :: r) < 18446744073709551616
  ·have hp := wD (c :: r) 0 hd b
   have hm : Lib.parseMag (c :: r) = .ok (fq (c :: r)) := by
    unfold Lib.parseMag; rw [if_neg (by simp)]; exact hp
   have hsel : (if c.toNat = 43 ∨ c.toNat = 45 then r else c :: r) = c :: r := if_neg n43
   unfold Lib.atoiAll
   dsimp only
   rw [hsel, hm]
   dsimp only
   generalize fq (c :: r) = z at *
   rw [if_pos ⟨n45, by omega⟩]
  ·have hp := wE (c :: r) 0 hd (by omega) (by unfold fq at b; omega)
   have hm : Lib.parseMag (c :: r) = .range := by
    unfold Lib.parseMag; rw [if_neg (by simp)]; exact hp
   have hsel : (if c.toNat = 43 ∨ c.toNat = 45 then r else c :: r) = c :: r := if_neg n43
   unfold Lib.atoiAll
   dsimp only
   rw [hsel, hm]
theorem oL : ∀ l : List UInt8, gW (l.take (gy cO l)) = true
 | [] => rfl
 | c :: r => by
  by_cases h : cO (c.toNat : Int) = true
  ·simp [gy, h, gW, oL r]
  ·simp [gy, h, gW]
def kJ (xs : List UInt8) (k : Nat) : Tok × Nat :=
 if aJ cO xs k < xs.length /\ wsI ((xs.getD (aJ cO xs k) 0).toNat : Int) = true then (gM, 12)
 else if ((xs.getD k 0).toNat : Int) = 48 /\ 1 < aJ cO xs k - k then (gM, 12)
 else if fq (cut xs k (aJ cO xs k)) < 9223372036854775808 then (⟨2, k, aJ cO xs k - k, fq (cut xs k (aJ cO xs k))⟩, 0)
 else (gM, 12)
end Go.Proofs.YtecodpdfckjalaaGreatDoor
namespace Go.Proofs.YtecodpdfckjalaaGreatDoor
open Go.Shelf
/-
 DERIVED: THE SHELF's CONTRACTS AT THIS DUMP, IN PLAIN WORDS (tools/lay-plain.mjs out of 'TryzShelfS.lean', which tools/lay-shelf.mjs wrote): THE SAME DECLARATIONS UNDER THE SAME NAMES: 'import', 'namespace', 'open', 'def', 'theorem' AND NOTHING ELSE: no command of the shelf's: FOR A HAND-IN. Each laying: the table of numbers ('.._ren') and one theorem, a field a fact of the dump's own or the kernel's comparison; each contract: ONE APPLICATION.
-/
def Tryz.lays121_ren : Go.Shelf.Ren := ⟨fun | 121 => 54 | 214 => 78 | n => n, fun | 4 => 4 | 9 => 9 | n => n, fun | n => n⟩
theorem Tryz.lays121 : Go.Proofs.Lays.n121 Tryz.prog Tryz.lays121_ren := {
 mixed := by kernel_rfl
 f121 := Tryz.func54.trans (congrArg some (by kernel_rfl))
 f214 := Tryz.func78.trans (congrArg some (by kernel_rfl))
 t4 := Tryz.underlying4
 a4 := Tryz.isAgg4
 z4 := Tryz.sizeOf4
 v4 := Tryz.zeroValue4
 t9 := Tryz.underlying9
 a9 := Tryz.isAgg9
 z9 := Tryz.sizeOf9
 v9 := Tryz.zeroValue9 }
open Go.RowKit in
theorem Tryz.strconv_FormatBool (b : Bool) (w : World) :
  Calls Tryz.prog 54 #[.bool b] w fun e w' => e = .returned (.string ⟨(Lib.formatBool b).toArray⟩) /\ w' = w := Any.strconv_FormatBool Tryz.lays121 b w
def Tryz.laysM171_ren : Go.Shelf.Ren := ⟨fun | 171 => 53 | 243 => 77 | 246 => 98 | 283 => 113 | 284 => 114 | 285 => 115 | 286 => 116 | 129 => 129 | 317 => 128 | 318 => 130 | 319 => 131 | 320 => 132 | 337 => 138 | 338 => 139 | n => n, fun | 3 => 3 | 9 => 9 | 2 => 2 | 4 => 4 | 171 => 114 | 0 => 0 | 53 => 115 | 37 => 33 | 5 => 5 | 173 => 118 | 212 => 130 | 51 => 131 | 20 => 20 | 213 => 132 | 46 => 133 | 232 => 145 | 233 => 146 | n => n, fun | 17 => 2 | 18 => 5 | 19 => 6 | n => n⟩
theorem Tryz.laysM171 : Go.Proofs.LaysM.n171 Tryz.prog Tryz.laysM171_ren := {
 mixed := by kernel_rfl
 f129 := Tryz.func129.trans (congrArg some (by kernel_rfl))
 f171 := Tryz.func53.trans (congrArg some (by kernel_rfl))
 f243 := Tryz.func77.trans (congrArg some (by kernel_rfl))
 f246 := Tryz.func98.trans (congrArg some (by kernel_rfl))
 f283 := Tryz.func113.trans (congrArg some (by kernel_rfl))
 f284 := Tryz.func114.trans (congrArg some (by kernel_rfl))
 f285 := Tryz.func115.trans (congrArg some (by kernel_rfl))
 f286 := Tryz.func116.trans (congrArg some (by kernel_rfl))
 f317 := Tryz.func128.trans (congrArg some (by kernel_rfl))
 f318 := Tryz.func130.trans (congrArg some (by kernel_rfl))
 f319 := Tryz.func131.trans (congrArg some (by kernel_rfl))
 f320 := Tryz.func132.trans (congrArg some (by kernel_rfl))
 f337 := Tryz.func138.trans (congrArg some (by kernel_rfl))
 f338 := Tryz.func139.trans (congrArg some (by kernel_rfl))
 t0 := Tryz.underlying0
 a0 := Tryz.isAgg0
 z0 := Tryz.sizeOf0
 v0 := Tryz.zeroValue0
 t2 := Tryz.underlying2
 a2 := Tryz.isAgg2
 z2 := Tryz.sizeOf2
 v2 := Tryz.zeroValue2
 t3 := Tryz.underlying3
 a3 := Tryz.isAgg3
 z3 := Tryz.sizeOf3
 v3 := Tryz.zeroValue3
 t4 := Tryz.underlying4
 a4 := Tryz.isAgg4
 z4 := Tryz.sizeOf4
 v4 := Tryz.zeroValue4
 t5 := Tryz.underlying5
 a5 := Tryz.isAgg5
 z5 := Tryz.sizeOf5
 v5 := Tryz.zeroValue5
 t9 := Tryz.underlying9
 a9 := Tryz.isAgg9
 z9 := Tryz.sizeOf9
 v9 := Tryz.zeroValue9
 t20 := Tryz.underlying20
 a20 := Tryz.isAgg20
 z20 := Tryz.sizeOf20
 v20 := Tryz.zeroValue20
 t37 := Tryz.underlying33
 a37 := Tryz.isAgg33
 z37 := Tryz.sizeOf33
 v37 := Tryz.zeroValue33
 t46 := Tryz.underlying133
 a46 := Tryz.isAgg133
 z46 := Tryz.sizeOf133
 v46 := Tryz.zeroValue133
 t51 := Tryz.underlying131
 a51 := Tryz.isAgg131
 z51 := Tryz.sizeOf131
 v51 := Tryz.zeroValue131
 t53 := Tryz.underlying115
 a53 := Tryz.isAgg115
 z53 := Tryz.sizeOf115
 v53 := Tryz.zeroValue115
 t171 := Tryz.underlying114
 a171 := Tryz.isAgg114
 z171 := Tryz.sizeOf114
 v171 := Tryz.zeroValue114
 t173 := Tryz.underlying118
 a173 := Tryz.isAgg118
 z173 := Tryz.sizeOf118
 v173 := Tryz.zeroValue118
 t212 := Tryz.underlying130
 a212 := Tryz.isAgg130
 z212 := Tryz.sizeOf130
 v212 := Tryz.zeroValue130
 t213 := Tryz.underlying132
 a213 := Tryz.isAgg132
 z213 := Tryz.sizeOf132
 t232 := Tryz.underlying145
 a232 := Tryz.isAgg145
 z232 := Tryz.sizeOf145
 v232 := Tryz.zeroValue145
 t233 := Tryz.underlying146
 a233 := Tryz.isAgg146
 z233 := Tryz.sizeOf146
 v233 := Tryz.zeroValue146
 g17 := by kernel_rfl
 g18 := by kernel_rfl
 g19 := by kernel_rfl
 i0 := by kernel_rfl
 i2 := by kernel_rfl
 i3 := by kernel_rfl
 i4 := by kernel_rfl
 i5 := by kernel_rfl
 i9 := by kernel_rfl
 i20 := by kernel_rfl
 i37 := by kernel_rfl
 i46 := by kernel_rfl
 i51 := by kernel_rfl
 i53 := by kernel_rfl
 i171 := by kernel_rfl
 i173 := by kernel_rfl
 i212 := by kernel_rfl
 i232 := by kernel_rfl
 i233 := by kernel_rfl
 m17 := by kernel_rfl
 m18 := by kernel_rfl
 m19 := by kernel_rfl }
open Go.RowKit Go.Sort Go.Lib in
theorem Tryz.strconv_Itoa (n : Int) (h0 : -9223372036854775808 <= n) (h1 : n <= 9223372036854775807) (w : World) (htab : Lib.TabIs Tryz.prog w "internal/strconv.uint64pow10" .u64 Lib.pow10Tab) :
  Calls Tryz.prog 53 #[.int .i64 n] w fun e w' => e = .returned (.string ⟨(Lib.itoa n).toArray⟩) /\ ∃ k os, w' = grow (w.drewN k) os := Any.strconv_Itoa Tryz.laysM171 n h0 h1 w htab
def Tryz.laysC172_ren : Go.Shelf.Ren := ⟨fun | 172 => 81 | 244 => 99 | 245 => 100 | 247 => 117 | 279 => 118 | 280 => 119 | 281 => 120 | 282 => 121 | 287 => 133 | 316 => 134 | 171 => 53 | 205 => 135 | 321 => 140 | 322 => 141 | 243 => 77 | 246 => 98 | 283 => 113 | 284 => 114 | 285 => 115 | 286 => 116 | 129 => 129 | 317 => 128 | 318 => 130 | 319 => 131 | 320 => 132 | 337 => 138 | 338 => 139 | n => n, fun | 9 => 9 | 3 => 3 | 75 => 99 | 76 => 101 | 4 => 4 | 5 => 5 | 167 => 120 | 37 => 33 | 0 => 0 | 85 => 121 | 2 => 2 | 168 => 123 | 53 => 115 | 175 => 135 | 46 => 133 | 210 => 138 | 127 => 69 | 145 => 144 | 143 => 142 | 21 => 21 | 171 => 114 | 173 => 118 | 212 => 130 | 51 => 131 | 20 => 20 | 213 => 132 | 232 => 145 | 233 => 146 | 80 => 55 | n => n, fun | 15 => 3 | 16 => 4 | 17 => 2 | 18 => 5 | 19 => 6 | n => n⟩
theorem Tryz.laysC172 : Go.Proofs.LaysC.n172 Tryz.prog Tryz.laysC172_ren := {
 mixed := by kernel_rfl
 f129 := Tryz.func129.trans (congrArg some (by kernel_rfl))
 f171 := Tryz.func53.trans (congrArg some (by kernel_rfl))
 f172 := Tryz.func81.trans (congrArg some (by kernel_rfl))
 f205 := Tryz.func135.trans (congrArg some (by kernel_rfl))
 f243 := Tryz.func77.trans (congrArg some (by kernel_rfl))
 f244 := Tryz.func99.trans (congrArg some (by kernel_rfl))
 f245 := Tryz.func100.trans (congrArg some (by kernel_rfl))
 f246 := Tryz.func98.trans (congrArg some (by kernel_rfl))
 f247 := Tryz.func117.trans (congrArg some (by kernel_rfl))
 f279 := Tryz.func118.trans (congrArg some (by kernel_rfl))
 f280 := Tryz.func119.trans (congrArg some (by kernel_rfl))
 f281 := Tryz.func120.trans (congrArg some (by kernel_rfl))
 f282 := Tryz.func121.trans (congrArg some (by kernel_rfl))
 f283 := Tryz.func113.trans (congrArg some (by kernel_rfl))
 f284 := Tryz.func114.trans (congrArg some (by kernel_rfl))
 f285 := Tryz.func115.trans (congrArg some (by kernel_rfl))
 f286 := Tryz.func116.trans (congrArg some (by kernel_rfl))
 f287 := Tryz.func133.trans (congrArg some (by kernel_rfl))
 f316 := Tryz.func134.trans (congrArg some (by kernel_rfl))
 f317 := Tryz.func128.trans (congrArg some (by kernel_rfl))
 f318 := Tryz.func130.trans (congrArg some (by kernel_rfl))
 f319 := Tryz.func131.trans (congrArg some (by kernel_rfl))
 f320 := Tryz.func132.trans (congrArg some (by kernel_rfl))
 f321 := Tryz.func140.trans (congrArg some (by kernel_rfl))
 f322 := Tryz.func141.trans (congrArg some (by kernel_rfl))
 f337 := Tryz.func138.trans (congrArg some (by kernel_rfl))
 f338 := Tryz.func139.trans (congrArg some (by kernel_rfl))
 t0 := Tryz.underlying0
 a0 := Tryz.isAgg0
 z0 := Tryz.sizeOf0
 v0 := Tryz.zeroValue0
 t2 := Tryz.underlying2
 a2 := Tryz.isAgg2
 z2 := Tryz.sizeOf2
 v2 := Tryz.zeroValue2
 t3 := Tryz.underlying3
 a3 := Tryz.isAgg3
 z3 := Tryz.sizeOf3
 v3 := Tryz.zeroValue3
 t4 := Tryz.underlying4
 a4 := Tryz.isAgg4
 z4 := Tryz.sizeOf4
 v4 := Tryz.zeroValue4
 t5 := Tryz.underlying5
 a5 := Tryz.isAgg5
 z5 := Tryz.sizeOf5
 v5 := Tryz.zeroValue5
 t9 := Tryz.underlying9
 a9 := Tryz.isAgg9
 z9 := Tryz.sizeOf9
 v9 := Tryz.zeroValue9
 t20 := Tryz.underlying20
 a20 := Tryz.isAgg20
 z20 := Tryz.sizeOf20
 v20 := Tryz.zeroValue20
 t21 := Tryz.underlying21
 a21 := Tryz.isAgg21
 z21 := Tryz.sizeOf21
 v21 := Tryz.zeroValue21
 t37 := Tryz.underlying33
 a37 := Tryz.isAgg33
 z37 := Tryz.sizeOf33
 v37 := Tryz.zeroValue33
 t46 := Tryz.underlying133
 a46 := Tryz.isAgg133
 z46 := Tryz.sizeOf133
 v46 := Tryz.zeroValue133
 t51 := Tryz.underlying131
 a51 := Tryz.isAgg131
 z51 := Tryz.sizeOf131
 v51 := Tryz.zeroValue131
 t53 := Tryz.underlying115
 a53 := Tryz.isAgg115
 z53 := Tryz.sizeOf115
 v53 := Tryz.zeroValue115
 t75 := Tryz.underlying99
 a75 := Tryz.isAgg99
 z75 := Tryz.sizeOf99
 v75 := Tryz.zeroValue99
 t76 := Tryz.underlying101
 a76 := Tryz.isAgg101
 z76 := Tryz.sizeOf101
 v76 := Tryz.zeroValue101
 t85 := Tryz.underlying121
 a85 := Tryz.isAgg121
 z85 := Tryz.sizeOf121
 v85 := Tryz.zeroValue121
 t127 := Tryz.underlying69
 a127 := Tryz.isAgg69
 z127 := Tryz.sizeOf69
 v127 := Tryz.zeroValue69
 t143 := Tryz.underlying142
 a143 := Tryz.isAgg142
 z143 := Tryz.sizeOf142
 v143 := Tryz.zeroValue142
 t145 := Tryz.underlying144
 a145 := Tryz.isAgg144
 z145 := Tryz.sizeOf144
 v145 := Tryz.zeroValue144
 t167 := Tryz.underlying120
 a167 := Tryz.isAgg120
 z167 := Tryz.sizeOf120
 v167 := Tryz.zeroValue120
 t168 := Tryz.underlying123
 a168 := Tryz.isAgg123
 z168 := Tryz.sizeOf123
 v168 := Tryz.zeroValue123
 t171 := Tryz.underlying114
 a171 := Tryz.isAgg114
 z171 := Tryz.sizeOf114
 v171 := Tryz.zeroValue114
 t173 := Tryz.underlying118
 a173 := Tryz.isAgg118
 z173 := Tryz.sizeOf118
 v173 := Tryz.zeroValue118
 t175 := Tryz.underlying135
 a175 := Tryz.isAgg135
 z175 := Tryz.sizeOf135
 v175 := Tryz.zeroValue135
 t210 := Tryz.underlying138
 a210 := Tryz.isAgg138
 z210 := Tryz.sizeOf138
 v210 := Tryz.zeroValue138
 t212 := Tryz.underlying130
 a212 := Tryz.isAgg130
 z212 := Tryz.sizeOf130
 v212 := Tryz.zeroValue130
 t213 := Tryz.underlying132
 a213 := Tryz.isAgg132
 z213 := Tryz.sizeOf132
 t232 := Tryz.underlying145
 a232 := Tryz.isAgg145
 z232 := Tryz.sizeOf145
 v232 := Tryz.zeroValue145
 t233 := Tryz.underlying146
 a233 := Tryz.isAgg146
 z233 := Tryz.sizeOf146
 v233 := Tryz.zeroValue146
 g15 := by kernel_rfl
 g16 := by kernel_rfl
 g17 := by kernel_rfl
 g18 := by kernel_rfl
 g19 := by kernel_rfl
 t80 := Tryz.underlying55
 a80 := Tryz.isAgg55
 z80 := Tryz.sizeOf55
 v80 := Tryz.zeroValue55
 i0 := by kernel_rfl
 i2 := by kernel_rfl
 i3 := by kernel_rfl
 i4 := by kernel_rfl
 i5 := by kernel_rfl
 i9 := by kernel_rfl
 i20 := by kernel_rfl
 i21 := by kernel_rfl
 i37 := by kernel_rfl
 i46 := by kernel_rfl
 i51 := by kernel_rfl
 i53 := by kernel_rfl
 i75 := by kernel_rfl
 i76 := by kernel_rfl
 i80 := by kernel_rfl
 i85 := by kernel_rfl
 i127 := by kernel_rfl
 i143 := by kernel_rfl
 i145 := by kernel_rfl
 i167 := by kernel_rfl
 i168 := by kernel_rfl
 i171 := by kernel_rfl
 i173 := by kernel_rfl
 i175 := by kernel_rfl
 i210 := by kernel_rfl
 i212 := by kernel_rfl
 i232 := by kernel_rfl
 i233 := by kernel_rfl
 m15 := by kernel_rfl
 m16 := by kernel_rfl
 m17 := by kernel_rfl
 m18 := by kernel_rfl
 m19 := by kernel_rfl
 c0 := by kernel_rfl
 c2 := by kernel_rfl
 c3 := by kernel_rfl
 c4 := by kernel_rfl
 c5 := by kernel_rfl
 c9 := by kernel_rfl
 c20 := by kernel_rfl
 c21 := by kernel_rfl
 c37 := by kernel_rfl
 c46 := by kernel_rfl
 c51 := by kernel_rfl
 c53 := by kernel_rfl
 c75 := by kernel_rfl
 c76 := by kernel_rfl
 c80 := by kernel_rfl
 c85 := by kernel_rfl
 c127 := by kernel_rfl
 c143 := by kernel_rfl
 c145 := by kernel_rfl
 c167 := by kernel_rfl
 c168 := by kernel_rfl
 c171 := by kernel_rfl
 c173 := by kernel_rfl
 c175 := by kernel_rfl
 c210 := by kernel_rfl
 c212 := by kernel_rfl
 c213 := by kernel_rfl
 c232 := by kernel_rfl
 c233 := by kernel_rfl }
open Go.RowKit in
theorem Tryz.strconv_Atoi_ok (s : ByteArray) (hmax : s.size <= 9223372036854775806) (v : Int) (h : Lib.atoiAll s.data.toList = .ok v) (w : World) :
  Calls Tryz.prog 81 #[.string s] w fun e w' => e = .returned (.tuple #[.int .i64 v, .nilIface]) /\ (w' = w ∨ ∃ t, w' = Lib.bytesWorld w 5 t) := Any.strconv_Atoi_ok Tryz.laysC172 s hmax v h w
open Go.RowKit in
theorem Tryz.strconv_Atoi_range (s : ByteArray) (hlim : s.size <= 281474976710656) (h : Lib.atoiAll s.data.toList = .range) (ev : Value) (w : World) (hv : w.cell? ⟨4, 0, none⟩ = some ev) (hev : ev = .nilIface ∨ ∃ te pe, ev = .iface te pe) :
  Calls Tryz.prog 81 #[.string s] w fun e w' => ∃ N, e = .returned (.tuple #[.int .i64 (Lib.atoiSat s.data.toList), .iface 123 (.pointer (some ⟨N, 0, none⟩))]) /\ w.heap.size <= N /\ w'.heap[N]? = some (.cells #[.string ⟨#[65, 116, 111, 105]⟩, .string s, ev] 138 (0, 0)) /\ Below w.heap.size w w' := Any.strconv_Atoi_range Tryz.laysC172 s hlim h ev w hv hev
def Tryz.laysnb116_ren : Go.Shelf.Ren := ⟨fun | 116 => 82 | 115 => 101 | n => n, fun | 37 => 33 | 4 => 4 | 3 => 3 | 9 => 9 | 5 => 5 | n => n, fun | n => n⟩
theorem Tryz.laysnb116 : Go.Proofs.Lays.nb116 Tryz.prog Tryz.laysnb116_ren := {
 mixed := by kernel_rfl
 f115 := Tryz.func101.trans (congrArg some (by kernel_rfl))
 f116 := Tryz.func82.trans (congrArg some (by kernel_rfl))
 t3 := Tryz.underlying3
 a3 := Tryz.isAgg3
 z3 := Tryz.sizeOf3
 v3 := Tryz.zeroValue3
 t4 := Tryz.underlying4
 a4 := Tryz.isAgg4
 z4 := Tryz.sizeOf4
 v4 := Tryz.zeroValue4
 t9 := Tryz.underlying9
 a9 := Tryz.isAgg9
 z9 := Tryz.sizeOf9
 v9 := Tryz.zeroValue9
 t37 := Tryz.underlying33
 a37 := Tryz.isAgg33
 z37 := Tryz.sizeOf33
 v37 := Tryz.zeroValue33
 t5 := Tryz.underlying5
 a5 := Tryz.isAgg5
 z5 := Tryz.sizeOf5
 v5 := Tryz.zeroValue5 }
theorem Tryz.bytes_HasPrefix_all (p1 p2 : Option Addr) (n c m d : Nat) (xs ys : List Int) (w : World) (hx : xs.length = n) (hy : ys.length = m) (hnc : n <= c) (h1 : Lib.BytesIn w p1 n xs) (h2 : Lib.BytesIn w p2 m ys) :
  Calls Tryz.prog 82 #[.slice p1 n c, .slice p2 m d] w fun e w' => e = .returned (.bool (Lib.hasPrefix (Lib.bytesOf xs) (Lib.bytesOf ys))) /\ w' = w := Any.bytes_HasPrefix_all Tryz.laysnb116 p1 p2 n c m d xs ys w hx hy hnc h1 h2
end Go.Proofs.YtecodpdfckjalaaGreatDoor
namespace Go.Proofs.YtecodpdfckjalaaGreatDoor
open Go.RowKit
theorem gB (w : World) (t : ByteArray) : Below w.heap.size w (Lib.bytesWorld w 5 t) :=
 ⟨rfl, rfl, rfl, by rw [Lib.bytesWorld_size]; omega, fun k hk => Lib.bytesWorld_at_old w 5 t k hk⟩
theorem FN (l : List UInt8) (w : World) (hl : l.length <= 9223372036854775806) (hne : l ≠ []) (hd : gW l = true) (hv : fq l < 9223372036854775808) :
  Calls Tryz.prog 81 #[.string ⟨l.toArray⟩] w fun e w' => e = .returned (.tuple #[.int .i64 (fq l), .nilIface]) /\ Below w.heap.size w w' := by
 refine (Tryz.strconv_Atoi_ok ⟨l.toArray⟩ (by simpa [ByteArray.size] using hl) (fq l) (FM l hne hd hv) w).mono ?_
 rintro e w' ⟨h1, h2⟩
 refine ⟨h1, ?_⟩
 rcases h2 with rfl | ⟨t, rfl⟩
 ·exact Below.refl _ _
 ·exact gB w t
theorem yt (l : List UInt8) (w : World) (hl : l.length <= 281474976710656) (hne : l ≠ []) (hd : gW l = true) (hv : ¬ fq l < 9223372036854775808) (te : TypeId) (pe : Value) (hc : w.cell? ⟨4, 0, none⟩ = some (.iface te pe)) :
  Calls Tryz.prog 81 #[.string ⟨l.toArray⟩] w fun e w' => ∃ n N, e = .returned (.tuple #[.int .i64 n, .iface 123 (.pointer (some ⟨N, 0, none⟩))]) /\ Below w.heap.size w w' := by
 refine (Tryz.strconv_Atoi_range ⟨l.toArray⟩ (by simpa [ByteArray.size] using hl) (yo l hne hd hv) _ w hc (.inr ⟨te, pe, rfl⟩)).mono ?_
 rintro e w' ⟨N, h1, _, _, h2⟩
 exact ⟨_, N, h1, h2⟩
theorem kK {W w1 : World} (hb : Below W.heap.size W w1) : (∀ b o, b < W.heap.size -> w1.cell? ⟨b, o, none⟩ = W.cell? ⟨b, o, none⟩) /\ (∀ b o, b < W.heap.size -> w1.frozen? ⟨b, o, none⟩ = W.frozen? ⟨b, o, none⟩) :=
 ⟨fun b o h => hb.cell (p := ⟨b, o, none⟩) h, fun b o h => hb.frozen (p := ⟨b, o, none⟩) h⟩
theorem FO (xs : List UInt8) (k e : Nat) (h : e <= xs.length) : (cut xs k e).length = e - k := by
 unfold cut; simp; omega
theorem FP (xs : List UInt8) (k : Nat) : gW (cut xs k (aJ cO xs k)) = true := by
 unfold cut aJ
 rw [Nat.add_sub_cancel_left]
 exact oL _
theorem Bz (b o cap : Nat) (xs : List UInt8) (k E : Nat) (w : World) (c0 : Int) (hc0 : w.cell? ⟨b, o + k, none⟩ = some (.int .u8 c0)) (hb : b < w.heap.size) (hl : xs.length <= maxLen) (hk : k < E) (hE : E <= xs.length) (hcap : xs.length <= cap)
  (HS : Hid (∀ o', Calls Tryz.prog 59 #[.slice (some ⟨b, o, none⟩) xs.length cap, .int .i64 k, .func (.func 63) #[] #[]] (w.alloc o') fun e w' => e = .returned (.int .i64 E) /\ w.alloc o' = w'))
  (cE : Int) (hlt : E < xs.length) (hcE : w.cell? ⟨b, o + E, none⟩ = some (.int .u8 cE)) (hws : wsI cE = true) :
  Calls Tryz.prog 64 #[.slice (some ⟨b, o, none⟩) xs.length cap, .int .i64 k] w fun e w' => e = .returned (.tuple #[aa gM, .int .i64 12]) /\ Below w.heap.size w w' := by
 unfold maxLen at hl
 go_enter Tryz.func64, Tryz.ntmps64
 go_wp2_with (first | (go_at_call 59; refine Calls.mono (HS.out _) ?_; rintro e w' ⟨rfl, rfl⟩) | (go_at_call 61; refine (bi _ _).mono ?_; rintro e w' ⟨rfl, rfl⟩))
 refine bodyPost_ret (v := .tuple #[aa gM, .int .i64 12]) (by simp [results, Tryz.results64, go_sem, aa, gM]) rfl ⟨rfl, ?_⟩
 exact (Below.refl _ _).alloc (Nat.le_refl _) _
theorem wF (b o cap : Nat) (xs : List UInt8) (k E : Nat) (w : World) (c0 : Int) (hc0 : w.cell? ⟨b, o + k, none⟩ = some (.int .u8 c0)) (hb : b < w.heap.size) (hl : xs.length <= maxLen) (hk : k < E) (hE : E <= xs.length) (hcap : xs.length <= cap)
  (HS : Hid (∀ o', Calls Tryz.prog 59 #[.slice (some ⟨b, o, none⟩) xs.length cap, .int .i64 k, .func (.func 63) #[] #[]] (w.alloc o') fun e w' => e = .returned (.int .i64 E) /\ w.alloc o' = w'))
  (hG : xs.length <= E ∨ ∃ cE, E < xs.length /\ w.cell? ⟨b, o + E, none⟩ = some (.int .u8 cE) /\ wsI cE = false)
  (hz : (c0 == 48) = true) (h1 : 1 < E - k) :
  Calls Tryz.prog 64 #[.slice (some ⟨b, o, none⟩) xs.length cap, .int .i64 k] w fun e w' => e = .returned (.tuple #[aa gM, .int .i64 12]) /\ Below w.heap.size w w' := by
 unfold maxLen at hl
 have hg : (1 : Int) < (E : Int) - (k : Int) := by omega
 rcases hG with hG | ⟨cE, hlt, hcE, hws⟩
 ·have hx : ¬ (E : Int) < (xs.length : Int) := by omega
  go_enter Tryz.func64, Tryz.ntmps64
  go_wp2_with (first | (go_at_call 59; refine Calls.mono (HS.out _) ?_; rintro e w' ⟨rfl, rfl⟩) | (go_at_call 61; refine (bi _ _).mono ?_; rintro e w' ⟨rfl, rfl⟩))
  refine bodyPost_ret (v := .tuple #[aa gM, .int .i64 12]) (by simp [results, Tryz.results64, go_sem, aa, gM]) rfl ⟨rfl, ?_⟩
  exact (Below.refl _ _).alloc (Nat.le_refl _) _
 ·go_enter Tryz.func64, Tryz.ntmps64
  go_wp2_with (first | (go_at_call 59; refine Calls.mono (HS.out _) ?_; rintro e w' ⟨rfl, rfl⟩) | (go_at_call 61; refine (bi _ _).mono ?_; rintro e w' ⟨rfl, rfl⟩))
  refine bodyPost_ret (v := .tuple #[aa gM, .int .i64 12]) (by simp [results, Tryz.results64, go_sem, aa, gM]) rfl ⟨rfl, ?_⟩
  exact (Below.refl _ _).alloc (Nat.le_refl _) _
theorem BA (b o cap : Nat) (xs : List UInt8) (k E : Nat) (w : World) (c0 : Int) (hc0 : w.cell? ⟨b, o + k, none⟩ = some (.int .u8 c0)) (hb : b < w.heap.size) (hl : xs.length <= maxLen) (hk : k < E) (hE : E <= xs.length) (hcap : xs.length <= cap)
  (HS : Hid (∀ o', Calls Tryz.prog 59 #[.slice (some ⟨b, o, none⟩) xs.length cap, .int .i64 k, .func (.func 63) #[] #[]] (w.alloc o') fun e w' => e = .returned (.int .i64 E) /\ w.alloc o' = w'))
  (hcv : ∀ o', (convert 33 9 (.slice (some ⟨b, o + k, none⟩) (E - k) (cap - k))).run Tryz.prog (w.alloc o') = .ok (.string ⟨(cut xs k E).toArray⟩) (w.alloc o'))
  (v : Nat) (HA : Hid (∀ o', Calls Tryz.prog 81 #[.string ⟨(cut xs k E).toArray⟩] (w.alloc o') fun e w' => e = .returned (.tuple #[.int .i64 v, .nilIface]) /\ Below (w.alloc o').heap.size (w.alloc o') w'))
  (hG : xs.length <= E ∨ ∃ cE, E < xs.length /\ w.cell? ⟨b, o + E, none⟩ = some (.int .u8 cE) /\ wsI cE = false)
  (hZ : (c0 == 48) = false ∨ (c0 == 48) = true /\ E - k <= 1) :
  Calls Tryz.prog 64 #[.slice (some ⟨b, o, none⟩) xs.length cap, .int .i64 k] w fun e w' => e = .returned (.tuple #[aa ⟨2, k, E - k, v⟩, .int .i64 0]) /\ Below w.heap.size w w' := by
 have hsl := fun o' => Lib.run_slice_window (P := Tryz.prog) (w.alloc o') 33 5 Tryz.underlying33 sizeOf5 b o xs.length cap k E hk (by omega)
 unfold maxLen at hl
 have hsub : ((E - k : Nat) : Int) = (E : Int) - (k : Int) := by omega
 have HU : Hid _ := hsub
 clear hsub
 rcases hG with hG | ⟨cE, hlt, hcE, hws⟩ <;> rcases hZ with hz | ⟨hz, h1⟩
 ·have hx : ¬ (E : Int) < (xs.length : Int) := by omega
  go_enter Tryz.func64, Tryz.ntmps64
  go_wp2_with (first | (go_at_call 59; refine Calls.mono (HS.out _) ?_; rintro e w' ⟨rfl, rfl⟩) | (go_at_call 61; refine (bi _ _).mono ?_; rintro e w' ⟨rfl, rfl⟩) | (go_at_call 81; refine Calls.mono (HA.out _) ?_; rintro e w1 ⟨rfl, hb1⟩; obtain ⟨hcc, hff⟩ := kK hb1; have hsz : w.heap.size < w1.heap.size := (by have := hb1.size; simp at this; omega)))
  refine bodyPost_ret (v := .tuple #[aa ⟨2, k, E - k, v⟩, .int .i64 0]) (by simp [results, Tryz.results64, go_sem, aa, HU.out, hcc, hsz]) rfl ⟨rfl, ?_⟩
  exact ((((((Below.refl _ _).alloc (Nat.le_refl _) _).trans (hb1.mono (by simp))).setCell (Nat.le_refl _) _).setCell (Nat.le_refl _) _).setCell (Nat.le_refl _) _).setCell (Nat.le_refl _) _
 ·have hx : ¬ (E : Int) < (xs.length : Int) := by omega
  have hg : ¬ (1 : Int) < (E : Int) - (k : Int) := by omega
  go_enter Tryz.func64, Tryz.ntmps64
  go_wp2_with (first | (go_at_call 59; refine Calls.mono (HS.out _) ?_; rintro e w' ⟨rfl, rfl⟩) | (go_at_call 61; refine (bi _ _).mono ?_; rintro e w' ⟨rfl, rfl⟩) | (go_at_call 81; refine Calls.mono (HA.out _) ?_; rintro e w1 ⟨rfl, hb1⟩; obtain ⟨hcc, hff⟩ := kK hb1; have hsz : w.heap.size < w1.heap.size := (by have := hb1.size; simp at this; omega)))
  refine bodyPost_ret (v := .tuple #[aa ⟨2, k, E - k, v⟩, .int .i64 0]) (by simp [results, Tryz.results64, go_sem, aa, HU.out, hcc, hsz]) rfl ⟨rfl, ?_⟩
  exact ((((((Below.refl _ _).alloc (Nat.le_refl _) _).trans (hb1.mono (by simp))).setCell (Nat.le_refl _) _).setCell (Nat.le_refl _) _).setCell (Nat.le_refl _) _).setCell (Nat.le_refl _) _
 ·go_enter Tryz.func64, Tryz.ntmps64
  go_wp2_with (first | (go_at_call 59; refine Calls.mono (HS.out _) ?_; rintro e w' ⟨rfl, rfl⟩) | (go_at_call 61; refine (bi _ _).mono ?_; rintro e w' ⟨rfl, rfl⟩) | (go_at_call 81; refine Calls.mono (HA.out _) ?_; rintro e w1 ⟨rfl, hb1⟩; obtain ⟨hcc, hff⟩ := kK hb1; have hsz : w.heap.size < w1.heap.size := (by have := hb1.size; simp at this; omega)))
  refine bodyPost_ret (v := .tuple #[aa ⟨2, k, E - k, v⟩, .int .i64 0]) (by simp [results, Tryz.results64, go_sem, aa, HU.out, hcc, hsz]) rfl ⟨rfl, ?_⟩
  exact ((((((Below.refl _ _).alloc (Nat.le_refl _) _).trans (hb1.mono (by simp))).setCell (Nat.le_refl _) _).setCell (Nat.le_refl _) _).setCell (Nat.le_refl _) _).setCell (Nat.le_refl _) _
 ·have hg : ¬ (1 : Int) < (E : Int) - (k : Int) := by omega
  go_enter Tryz.func64, Tryz.ntmps64
  go_wp2_with (first | (go_at_call 59; refine Calls.mono (HS.out _) ?_; rintro e w' ⟨rfl, rfl⟩) | (go_at_call 61; refine (bi _ _).mono ?_; rintro e w' ⟨rfl, rfl⟩) | (go_at_call 81; refine Calls.mono (HA.out _) ?_; rintro e w1 ⟨rfl, hb1⟩; obtain ⟨hcc, hff⟩ := kK hb1; have hsz : w.heap.size < w1.heap.size := (by have := hb1.size; simp at this; omega)))
  refine bodyPost_ret (v := .tuple #[aa ⟨2, k, E - k, v⟩, .int .i64 0]) (by simp [results, Tryz.results64, go_sem, aa, HU.out, hcc, hsz]) rfl ⟨rfl, ?_⟩
  exact ((((((Below.refl _ _).alloc (Nat.le_refl _) _).trans (hb1.mono (by simp))).setCell (Nat.le_refl _) _).setCell (Nat.le_refl _) _).setCell (Nat.le_refl _) _).setCell (Nat.le_refl _) _
theorem uQ (b o cap : Nat) (xs : List UInt8) (k E : Nat) (w : World) (c0 : Int) (hc0 : w.cell? ⟨b, o + k, none⟩ = some (.int .u8 c0)) (hb : b < w.heap.size) (hl : xs.length <= maxLen) (hk : k < E) (hE : E <= xs.length) (hcap : xs.length <= cap)
  (HS : Hid (∀ o', Calls Tryz.prog 59 #[.slice (some ⟨b, o, none⟩) xs.length cap, .int .i64 k, .func (.func 63) #[] #[]] (w.alloc o') fun e w' => e = .returned (.int .i64 E) /\ w.alloc o' = w'))
  (hcv : ∀ o', (convert 33 9 (.slice (some ⟨b, o + k, none⟩) (E - k) (cap - k))).run Tryz.prog (w.alloc o') = .ok (.string ⟨(cut xs k E).toArray⟩) (w.alloc o'))
  (HA : Hid (∀ o', Calls Tryz.prog 81 #[.string ⟨(cut xs k E).toArray⟩] (w.alloc o') fun e w' => ∃ n N, e = .returned (.tuple #[.int .i64 n, .iface 123 (.pointer (some ⟨N, 0, none⟩))]) /\ Below (w.alloc o').heap.size (w.alloc o') w'))
  (hG : xs.length <= E ∨ ∃ cE, E < xs.length /\ w.cell? ⟨b, o + E, none⟩ = some (.int .u8 cE) /\ wsI cE = false)
  (hZ : (c0 == 48) = false ∨ (c0 == 48) = true /\ E - k <= 1) :
  Calls Tryz.prog 64 #[.slice (some ⟨b, o, none⟩) xs.length cap, .int .i64 k] w fun e w' => e = .returned (.tuple #[aa gM, .int .i64 12]) /\ Below w.heap.size w w' := by
 have hsl := fun o' => Lib.run_slice_window (P := Tryz.prog) (w.alloc o') 33 5 Tryz.underlying33 sizeOf5 b o xs.length cap k E hk (by omega)
 unfold maxLen at hl
 have hsub : ((E - k : Nat) : Int) = (E : Int) - (k : Int) := by omega
 have HU : Hid _ := hsub
 clear hsub
 rcases hG with hG | ⟨cE, hlt, hcE, hws⟩ <;> rcases hZ with hz | ⟨hz, h1⟩
 ·have hx : ¬ (E : Int) < (xs.length : Int) := by omega
  go_enter Tryz.func64, Tryz.ntmps64
  go_wp2_with (first | (go_at_call 59; refine Calls.mono (HS.out _) ?_; rintro e w' ⟨rfl, rfl⟩) | (go_at_call 61; refine (bi _ _).mono ?_; rintro e w' ⟨rfl, rfl⟩) | (go_at_call 81; refine Calls.mono (HA.out _) ?_; rintro e w1 ⟨n, N, rfl, hb1⟩; obtain ⟨hcc, hff⟩ := kK hb1; have hsz : w.heap.size < w1.heap.size := (by have := hb1.size; simp at this; omega)))
  refine bodyPost_ret (v := .tuple #[aa gM, .int .i64 12]) (by simp [results, Tryz.results64, go_sem, aa, gM, hcc, hsz]) rfl ⟨rfl, ?_⟩
  exact ((((((Below.refl _ _).alloc (Nat.le_refl _) _).trans (hb1.mono (by simp))).setCell (Nat.le_refl _) _).setCell (Nat.le_refl _) _).setCell (Nat.le_refl _) _).setCell (Nat.le_refl _) _
 ·have hx : ¬ (E : Int) < (xs.length : Int) := by omega
  have hg : ¬ (1 : Int) < (E : Int) - (k : Int) := by omega
  go_enter Tryz.func64, Tryz.ntmps64
  go_wp2_with (first | (go_at_call 59; refine Calls.mono (HS.out _) ?_; rintro e w' ⟨rfl, rfl⟩) | (go_at_call 61; refine (bi _ _).mono ?_; rintro e w' ⟨rfl, rfl⟩) | (go_at_call 81; refine Calls.mono (HA.out _) ?_; rintro e w1 ⟨n, N, rfl, hb1⟩; obtain ⟨hcc, hff⟩ := kK hb1; have hsz : w.heap.size < w1.heap.size := (by have := hb1.size; simp at this; omega)))
  refine bodyPost_ret (v := .tuple #[aa gM, .int .i64 12]) (by simp [results, Tryz.results64, go_sem, aa, gM, hcc, hsz]) rfl ⟨rfl, ?_⟩
  exact ((((((Below.refl _ _).alloc (Nat.le_refl _) _).trans (hb1.mono (by simp))).setCell (Nat.le_refl _) _).setCell (Nat.le_refl _) _).setCell (Nat.le_refl _) _).setCell (Nat.le_refl _) _
 ·go_enter Tryz.func64, Tryz.ntmps64
  go_wp2_with (first | (go_at_call 59; refine Calls.mono (HS.out _) ?_; rintro e w' ⟨rfl, rfl⟩) | (go_at_call 61; refine (bi _ _).mono ?_; rintro e w' ⟨rfl, rfl⟩) | (go_at_call 81; refine Calls.mono (HA.out _) ?_; rintro e w1 ⟨n, N, rfl, hb1⟩; obtain ⟨hcc, hff⟩ := kK hb1; have hsz : w.heap.size < w1.heap.size := (by have := hb1.size; simp at this; omega)))
  refine bodyPost_ret (v := .tuple #[aa gM, .int .i64 12]) (by simp [results, Tryz.results64, go_sem, aa, gM, hcc, hsz]) rfl ⟨rfl, ?_⟩
  exact ((((((Below.refl _ _).alloc (Nat.le_refl _) _).trans (hb1.mono (by simp))).setCell (Nat.le_refl _) _).setCell (Nat.le_refl _) _).setCell (Nat.le_refl _) _).setCell (Nat.le_refl _) _
 ·have hg : ¬ (1 : Int) < (E : Int) - (k : Int) := by omega
  go_enter Tryz.func64, Tryz.ntmps64
  go_wp2_with (first | (go_at_call 59; refine Calls.mono (HS.out _) ?_; rintro e w' ⟨rfl, rfl⟩) | (go_at_call 61; refine (bi _ _).mono ?_; rintro e w' ⟨rfl, rfl⟩) | (go_at_call 81; refine Calls.mono (HA.out _) ?_; rintro e w1 ⟨n, N, rfl, hb1⟩; obtain ⟨hcc, hff⟩ := kK hb1; have hsz : w.heap.size < w1.heap.size := (by have := hb1.size; simp at this; omega)))
  refine bodyPost_ret (v := .tuple #[aa gM, .int .i64 12]) (by simp [results, Tryz.results64, go_sem, aa, gM, hcc, hsz]) rfl ⟨rfl, ?_⟩
  exact ((((((Below.refl _ _).alloc (Nat.le_refl _) _).trans (hb1.mono (by simp))).setCell (Nat.le_refl _) _).setCell (Nat.le_refl _) _).setCell (Nat.le_refl _) _).setCell (Nat.le_refl _) _
theorem yu (b o cap : Nat) (xs : List UInt8) (k : Nat) (w : World) (hs : Src w b o xs) (hb : b < w.heap.size) (hl : xs.length <= 65536) (hcap : xs.length <= cap) (hk : k < aJ cO xs k)
  (te : TypeId) (pe : Value) (h3 : 4 < w.heap.size) (hv : w.cell? ⟨4, 0, none⟩ = some (.iface te pe)) :
  Calls Tryz.prog 64 #[.slice (some ⟨b, o, none⟩) xs.length cap, .int .i64 k] w fun e w' => e = .returned (.tuple #[aa (kJ xs k).1, .int .i64 (kJ xs k).2]) /\ Below w.heap.size w w' := by
 have hkl : k < xs.length := by
  rcases Nat.lt_or_ge k xs.length with h | h
  ·exact h
  ·rw [jl _ _ _ h] at hk; omega
 have hml : xs.length <= maxLen := by unfold maxLen; omega
 obtain ⟨_, hE2⟩ := eQ cO xs k (by omega)
 have hbl : ∀ o', Below w.heap.size w (w.alloc o') := fun o' => (Below.refl _ _).alloc (Nat.le_refl _) _
 have hsp : Hid _ := fun o' => yj b o cap xs k (w.alloc o') (hs.below hb (hbl o')) hml (by omega)
 have hcv := fun o' => pW (w.alloc o') b o (cap - k) xs k (aJ cO xs k) (hs.below hb (hbl o')) (by omega) hE2
 have hdg := FP xs k
 have hln := FO xs k (aJ cO xs k) hE2
 have hR : kJ xs k = if aJ cO xs k < xs.length /\ wsI ((xs.getD (aJ cO xs k) 0).toNat : Int) = true then (gM, 12)
  else if ((xs.getD k 0).toNat : Int) = 48 /\ 1 < aJ cO xs k - k then (gM, 12)
  else if fq (cut xs k (aJ cO xs k)) < 9223372036854775808 then (⟨2, k, aJ cO xs k - k, fq (cut xs k (aJ cO xs k))⟩, 0)
  else (gM, 12) := rfl
 have hc0 : w.cell? ⟨b, o + k, none⟩ = some (.int .u8 ((xs.getD k 0).toNat : Int)) := by
  rw [hs k hkl]; simp [List.getD, hkl]
 generalize aJ cO xs k = E at *
 have hne : cut xs k E ≠ [] := by
  intro e; rw [e] at hln; simp at hln; omega
 have hcE : E < xs.length -> w.cell? ⟨b, o + E, none⟩ = some (.int .u8 ((xs.getD E 0).toNat : Int)) := fun h => by
  rw [hs E h]; simp [List.getD, h]
 by_cases a1 : E < xs.length /\ wsI ((xs.getD E 0).toNat : Int) = true
 ·rw [if_pos a1] at hR
  rw [hR]
  exact Bz b o cap xs k E w _ hc0 hb hml hk hE2 hcap hsp _ a1.1 (hcE a1.1) a1.2
 ·rw [if_neg a1] at hR
  have hG : xs.length <= E ∨ ∃ cE, E < xs.length /\ w.cell? ⟨b, o + E, none⟩ = some (.int .u8 cE) /\ wsI cE = false := by
   by_cases h : E < xs.length
   ·refine .inr ⟨_, h, hcE h, ?_⟩
    cases hw : wsI ((xs.getD E 0).toNat : Int)
    ·rfl
    ·exact absurd ⟨h, hw⟩ a1
   ·exact .inl (by omega)
  by_cases a2 : ((xs.getD k 0).toNat : Int) = 48 /\ 1 < E - k
  ·rw [if_pos a2] at hR
   rw [hR]
   exact wF b o cap xs k E w _ hc0 hb hml hk hE2 hcap hsp hG (beq_iff_eq.2 a2.1) a2.2
  ·rw [if_neg a2] at hR
   have hZ : (((xs.getD k 0).toNat : Int) == 48) = false ∨ (((xs.getD k 0).toNat : Int) == 48) = true /\ E - k <= 1 := by
    cases hq : (((xs.getD k 0).toNat : Int) == 48)
    ·exact .inl rfl
    ·refine .inr ⟨rfl, ?_⟩
     rcases Nat.lt_or_ge 1 (E - k) with h | h
     ·exact absurd ⟨beq_iff_eq.1 hq, h⟩ a2
     ·exact h
   by_cases a3 : fq (cut xs k E) < 9223372036854775808
   ·rw [if_pos a3] at hR
    rw [hR]
    exact BA b o cap xs k E w _ hc0 hb hml hk hE2 hcap hsp hcv _ (fun o' => FN _ _ (by omega) hne hdg a3) hG hZ
   ·rw [if_neg a3] at hR
    rw [hR]
    exact uQ b o cap xs k E w _ hc0 hb hml hk hE2 hcap hsp hcv (fun o' => yt _ _ (by omega) hne hdg a3 te pe (by rw [(hbl o').cell h3]; exact hv)) hG hZ
def dh : List (List UInt8) -> Nat -> Nat × Nat -> List UInt8 -> Nat × Nat
 | [], _, acc, _ => acc
 | s :: r, n, acc, l => dh r (n + 1) (if acc.2 < s.length /\ s.isPrefixOf l = true then (n, s.length) else acc) l
def jm (l : List UInt8) : Nat × Nat := dh dL 40 (0, 0) l
def iq (xs : List UInt8) (k : Nat) : Tok × Nat :=
 if (jm (xs.drop k)).2 = 0 then (gM, 11) else (⟨(jm (xs.drop k)).1, k, (jm (xs.drop k)).2, 0⟩, 0)
theorem lT (T : List (List UInt8)) (j n : Nat) (acc : Nat × Nat) (l : List UInt8) (h : j < T.length) :
  dh (T.drop j) n acc l = dh (T.drop (j + 1)) (n + 1) (if acc.2 < (T.getD j []).length /\ (T.getD j []).isPrefixOf l = true then (n, (T.getD j []).length) else acc) l := by
 rw [List.drop_eq_getElem_cons h]
 simp only [dh, List.getD, List.getElem?_eq_getElem h, Option.getD_some]
theorem uR (T : List (List UInt8)) (j n : Nat) (acc : Nat × Nat) (l : List UInt8) (h : j < T.length) (h1 : acc.2 < (T.getD j []).length) (h2 : (T.getD j []).isPrefixOf l = true) :
  dh (T.drop j) n acc l = dh (T.drop (j + 1)) (n + 1) (n, (T.getD j []).length) l := by
 rw [lT T j n acc l h, if_pos ⟨h1, h2⟩]
theorem wG (T : List (List UInt8)) (j n : Nat) (acc : Nat × Nat) (l : List UInt8) (h : j < T.length) (h1 : ¬ (acc.2 < (T.getD j []).length /\ (T.getD j []).isPrefixOf l = true)) :
  dh (T.drop j) n acc l = dh (T.drop (j + 1)) (n + 1) acc l := by
 rw [lT T j n acc l h, if_neg h1]
def kL (l : List UInt8) : List Int := l.map fun c => (c.toNat : Int)
theorem pX (l : List UInt8) : Lib.bytesOf (kL l) = l := by
 unfold Lib.bytesOf kL
 rw [List.map_map]
 conv => rhs; rw [← List.map_id l]
 apply List.map_congr_left
 intro x _
 simp
theorem uS (W : World) (b o k c d : Nat) (xs s : List UInt8) (hs : Src W b o xs) (hb : b < W.heap.size) (hk : k <= xs.length) (hc : xs.length - k <= c) :
  Calls Tryz.prog 82 #[.slice (some ⟨b, o + k, none⟩) (xs.length - k) c, .slice (some ⟨W.heap.size, 0, none⟩) s.length d] (Lib.bytesWorld W 5 ⟨s.toArray⟩)
   fun e w' => e = .returned (.bool (s.isPrefixOf (xs.drop k))) /\ Lib.bytesWorld W 5 ⟨s.toArray⟩ = w' := by
 refine (Tryz.bytes_HasPrefix_all (some ⟨b, o + k, none⟩) (some ⟨W.heap.size, 0, none⟩) (xs.length - k) c s.length d (kL (xs.drop k)) (kL s) _ (by simp [kL]) (by simp [kL]) hc ?_ ?_).mono ?_
 ·intro hn
  refine ⟨b, o + k, rfl, fun i hi => ?_⟩
  rw [Lib.bytesWorld_old _ _ _ _ hb, Nat.add_assoc, hs (k + i) (by omega)]
  have hi' : k + i < xs.length := by omega
  simp [kL, List.getD, hi']
 ·intro hn
  refine ⟨W.heap.size, 0, rfl, fun i hi => ?_⟩
  rw [Nat.zero_add, Lib.bytesWorld_cell _ _ _ _ (by simpa [ByteArray.size] using hi)]
  simp [kL, List.getD, hi]
 ·rintro e w' ⟨h1, h2⟩
  rw [pX, pX] at h1
  exact ⟨h1, h2.symm⟩
theorem mf (s : ByteArray) (W : World) : (convert 9 33 (.string s)).run Tryz.prog W = .ok (.slice (some ⟨W.heap.size, 0, none⟩) s.size (grownCap W s.size 0 5)) (Lib.bytesWorld W 5 s) :=
 Lib.run_convert_string_bytes (P := Tryz.prog) W 9 33 5 s Tryz.underlying9 Tryz.underlying33 Tryz.underlying5
theorem yw (W : World) (b o n cap k : Nat) (hk : k < n) (hc : n <= cap) :
  (Instr.slice 33 (.slice (some ⟨b, o, none⟩) n cap) (some (.int .i64 (k : Int))) none none).run Tryz.prog W = .ok (.slice (some ⟨b, o + k, none⟩) (n - k) (cap - k)) W := by
 have ht' : Tryz.prog.underlying 33 = some (.slice (Tryz.prog.elem 33)) := by simp [Program.elem, Tryz.underlying33]
 have he : Tryz.prog.elem 33 = 5 := by simp [Program.elem, Tryz.underlying33]
 rw [run_slice_l W 33 _ _ _ ht' .i64 _ (by omega) (by omega), he, sizeOf5]
 have hne : ¬ cap = k := by omega
 by_cases h0 : k = 0
 ·subst h0
  simp [Result.andThen, sliced, Addr.add, hne]
 ·simp [Result.andThen, sliced, Addr.add, hne, h0]
end Go.Proofs.YtecodpdfckjalaaGreatDoor
