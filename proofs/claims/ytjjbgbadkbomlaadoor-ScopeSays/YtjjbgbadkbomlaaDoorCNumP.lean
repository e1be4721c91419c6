import Derived.Test.YtjjbgbadkbomlaaDoorCTabs
import Derived.Lib.AtoiAll
import Derived.Shelf.LaysM
import Derived.Shelf.Strconv.Itoa3
import Derived.Shelf.LaysC
import Derived.Shelf.Strconv.AtoiAll
import Derived.Shelf.Bytes.SlSmallAll
import Derived.Test.YtjjbgbadkbomlaaDoorProg
namespace Go.Proofs.YtjjbgbadkbomlaaDoor
open Go.RowKit
set_option linter.unusedVariables false
set_option linter.unusedSimpArgs false

/-- what digits spell, behind a number -/
def numFrom (acc : Nat) : List UInt8 → Nat
  | [] => acc
  | c :: r => numFrom (acc * 10 + (c.toNat - 48)) r
def numVal (l : List UInt8) : Nat := numFrom 0 l
def allDig : List UInt8 → Bool
  | [] => true
  | c :: r => digI c.toNat && allDig r

theorem numFrom_ge (l : List UInt8) : ∀ acc : Nat, acc ≤ numFrom acc l := by
  induction l with
  | nil => intro acc; exact Nat.le_refl _
  | cons c r ih =>
    intro acc
    have := ih (acc * 10 + (c.toNat - 48))
    show acc ≤ numFrom (acc * 10 + (c.toNat - 48)) r
    generalize numFrom (acc * 10 + (c.toNat - 48)) r = z at *
    omega

theorem parse_ok (l : List UInt8) : ∀ acc : Nat, allDig l = true → numFrom acc l < 18446744073709551616 → Lib.parseUint10 acc l = .ok (numFrom acc l) := by
  induction l with
  | nil => intro acc _ _; rfl
  | cons c r ih =>
    intro acc hd h
    simp only [allDig, digI, Bool.and_eq_true, decide_eq_true_eq] at hd
    obtain ⟨⟨h1, h2⟩, h3⟩ := hd
    have hs : numFrom acc (c :: r) = numFrom (acc * 10 + (c.toNat - 48)) r := rfl
    rw [hs] at h ⊢
    have hge := numFrom_ge r (acc * 10 + (c.toNat - 48))
    have ih' := ih (acc * 10 + (c.toNat - 48)) h3 h
    have e1 : 48 ≤ c.toNat ∧ c.toNat ≤ 57 := by omega
    have e2 : ¬ 1844674407370955162 ≤ acc := by omega
    have e3 : ¬ 18446744073709551616 ≤ acc * 10 + (c.toNat - 48) := by omega
    rw [Lib.parseUint10, if_pos e1, if_neg e2, if_neg e3]
    exact ih'

theorem parse_range (l : List UInt8) : ∀ acc : Nat, allDig l = true → acc < 18446744073709551616 → 18446744073709551616 ≤ numFrom acc l → Lib.parseUint10 acc l = .range := by
  induction l with
  | nil =>
    intro acc _ h1 h2
    have e : numFrom acc [] = acc := rfl
    rw [e] at h2
    omega
  | cons c r ih =>
    intro acc hd h0 h
    simp only [allDig, digI, Bool.and_eq_true, decide_eq_true_eq] at hd
    obtain ⟨⟨h1, h2⟩, h3⟩ := hd
    have hs : numFrom acc (c :: r) = numFrom (acc * 10 + (c.toNat - 48)) r := rfl
    rw [hs] at h
    have e1 : 48 ≤ c.toNat ∧ c.toNat ≤ 57 := by omega
    rw [Lib.parseUint10, if_pos e1]
    by_cases e2 : 1844674407370955162 ≤ acc
    · rw [if_pos e2]
    · by_cases e3 : 18446744073709551616 ≤ acc * 10 + (c.toNat - 48)
      · rw [if_neg e2, if_pos e3]
      · rw [if_neg e2, if_neg e3]
        exact ih _ h3 (by omega) h

theorem atoi_ok (l : List UInt8) (hne : l ≠ []) (hd : allDig l = true) (hv : numVal l < 9223372036854775808) : Lib.atoiAll l = .ok (numVal l : Int) := by
  cases l with
  | nil => exact absurd rfl hne
  | cons c r =>
    have hp := parse_ok (c :: r) 0 hd (by unfold numVal at hv; omega)
    have hd' := hd
    simp only [allDig, digI, Bool.and_eq_true, decide_eq_true_eq] at hd'
    obtain ⟨⟨h1, h2⟩, _⟩ := hd'
    have n43 : ¬ (c.toNat = 43 ∨ c.toNat = 45) := by omega
    have n45 : ¬ c.toNat = 45 := by omega
    have hm : Lib.parseMag (c :: r) = .ok (numVal (c :: r)) := by
      unfold Lib.parseMag; rw [if_neg (by simp)]; exact hp
    have hsel : (if c.toNat = 43 ∨ c.toNat = 45 then r else c :: r) = c :: r := if_neg n43
    unfold Lib.atoiAll
    dsimp only
    rw [hsel, hm]
    dsimp only
    generalize numVal (c :: r) = z at *
    rw [if_neg (by omega), if_neg (by omega), if_neg n45]

theorem atoi_range (l : List UInt8) (hne : l ≠ []) (hd : allDig l = true) (hv : ¬ numVal l < 9223372036854775808) : Lib.atoiAll l = .range := by
  cases l with
  | nil => exact absurd rfl hne
  | cons c r =>
    have hd' := hd
    simp only [allDig, digI, Bool.and_eq_true, decide_eq_true_eq] at hd'
    obtain ⟨⟨h1, h2⟩, _⟩ := hd'
    have n43 : ¬ (c.toNat = 43 ∨ c.toNat = 45) := by omega
    have n45 : ¬ c.toNat = 45 := by omega
    by_cases b : numVal (c :: r) < 18446744073709551616
    · have hp := parse_ok (c :: r) 0 hd b
      have hm : Lib.parseMag (c :: r) = .ok (numVal (c :: r)) := by
        unfold Lib.parseMag; rw [if_neg (by simp)]; exact hp
      have hsel : (if c.toNat = 43 ∨ c.toNat = 45 then r else c :: r) = c :: r := if_neg n43
      unfold Lib.atoiAll
      dsimp only
      rw [hsel, hm]
      dsimp only
      generalize numVal (c :: r) = z at *
      rw [if_pos ⟨n45, by omega⟩]
    · have hp := parse_range (c :: r) 0 hd (by omega) (by unfold numVal at b; omega)
      have hm : Lib.parseMag (c :: r) = .range := by
        unfold Lib.parseMag; rw [if_neg (by simp)]; exact hp
      have hsel : (if c.toNat = 43 ∨ c.toNat = 45 then r else c :: r) = c :: r := if_neg n43
      unfold Lib.atoiAll
      dsimp only
      rw [hsel, hm]

theorem allDig_span : ∀ l : List UInt8, allDig (l.take (spanL digI l)) = true
  | [] => rfl
  | c :: r => by
    by_cases h : digI (c.toNat : Int) = true
    · simp [spanL, h, allDig, allDig_span r]
    · simp [spanL, h, allDig]

/-- the number that stands at k -/
def numR (xs : List UInt8) (k : Nat) : Tok × Nat :=
  if spanTo digI xs k < xs.length ∧ wsI ((xs.getD (spanTo digI xs k) 0).toNat : Int) = true then (tok0, 12)
  else if ((xs.getD k 0).toNat : Int) = 48 ∧ 1 < spanTo digI xs k - k then (tok0, 12)
  else if numVal (cut xs k (spanTo digI xs k)) < 9223372036854775808 then (⟨2, k, spanTo digI xs k - k, numVal (cut xs k (spanTo digI xs k))⟩, 0)
  else (tok0, 12)
end Go.Proofs.YtjjbgbadkbomlaaDoor
/-
  DERIVED: THE SHELF's CONTRACTS AT THIS DUMP, IN PLAIN WORDS (tools/lay-plain.mjs out of 'TrydShelfS.lean', which tools/lay-shelf.mjs wrote): THE SAME DECLARATIONS UNDER THE SAME NAMES: 'import', 'namespace', 'open', 'def', 'theorem' AND NOTHING ELSE: no command of the shelf's: FOR A HAND-IN. Each laying: the table of numbers ('.._ren') and one theorem, a field a fact of the dump's own or the kernel's comparison; each contract: ONE APPLICATION.
-/
namespace Go.Proofs
open Go.Shelf
def Tryd.laysC172_ren : Go.Shelf.Ren := ⟨fun | 172 => 76 | 244 => 78 | 245 => 79 | 247 => 81 | 279 => 82 | 280 => 83 | 281 => 84 | 282 => 85 | 287 => 86 | 316 => 87 | 171 => 89 | 205 => 88 | 321 => 90 | 322 => 91 | 243 => 92 | 246 => 93 | 283 => 94 | 284 => 95 | 285 => 96 | 286 => 97 | 129 => 99 | 317 => 98 | 318 => 100 | 319 => 101 | 320 => 102 | 337 => 103 | 338 => 104 | n => n, fun | 9 => 9 | 3 => 3 | 75 => 96 | 76 => 97 | 4 => 4 | 5 => 5 | 167 => 103 | 37 => 86 | 0 => 0 | 85 => 104 | 2 => 2 | 168 => 106 | 53 => 109 | 175 => 110 | 46 => 112 | 210 => 115 | 127 => 119 | 145 => 122 | 143 => 120 | 21 => 21 | 171 => 124 | 173 => 127 | 212 => 130 | 51 => 131 | 20 => 20 | 213 => 132 | 232 => 135 | 233 => 136 | 80 => 137 | n => n, fun | 15 => 2 | 16 => 3 | 17 => 4 | 18 => 5 | 19 => 6 | n => n⟩
theorem Tryd.laysC172 : Go.Proofs.LaysC.n172 Tryd.prog Tryd.laysC172_ren := {
  mixed := by kernel_rfl
  f129 := Tryd.func99.trans (congrArg some (by kernel_rfl))
  f171 := Tryd.func89.trans (congrArg some (by kernel_rfl))
  f172 := Tryd.func76.trans (congrArg some (by kernel_rfl))
  f205 := Tryd.func88.trans (congrArg some (by kernel_rfl))
  f243 := Tryd.func92.trans (congrArg some (by kernel_rfl))
  f244 := Tryd.func78.trans (congrArg some (by kernel_rfl))
  f245 := Tryd.func79.trans (congrArg some (by kernel_rfl))
  f246 := Tryd.func93.trans (congrArg some (by kernel_rfl))
  f247 := Tryd.func81.trans (congrArg some (by kernel_rfl))
  f279 := Tryd.func82.trans (congrArg some (by kernel_rfl))
  f280 := Tryd.func83.trans (congrArg some (by kernel_rfl))
  f281 := Tryd.func84.trans (congrArg some (by kernel_rfl))
  f282 := Tryd.func85.trans (congrArg some (by kernel_rfl))
  f283 := Tryd.func94.trans (congrArg some (by kernel_rfl))
  f284 := Tryd.func95.trans (congrArg some (by kernel_rfl))
  f285 := Tryd.func96.trans (congrArg some (by kernel_rfl))
  f286 := Tryd.func97.trans (congrArg some (by kernel_rfl))
  f287 := Tryd.func86.trans (congrArg some (by kernel_rfl))
  f316 := Tryd.func87.trans (congrArg some (by kernel_rfl))
  f317 := Tryd.func98.trans (congrArg some (by kernel_rfl))
  f318 := Tryd.func100.trans (congrArg some (by kernel_rfl))
  f319 := Tryd.func101.trans (congrArg some (by kernel_rfl))
  f320 := Tryd.func102.trans (congrArg some (by kernel_rfl))
  f321 := Tryd.func90.trans (congrArg some (by kernel_rfl))
  f322 := Tryd.func91.trans (congrArg some (by kernel_rfl))
  f337 := Tryd.func103.trans (congrArg some (by kernel_rfl))
  f338 := Tryd.func104.trans (congrArg some (by kernel_rfl))
  t0 := Tryd.underlying0
  a0 := Tryd.isAgg0
  z0 := Tryd.sizeOf0
  v0 := Tryd.zeroValue0
  t2 := Tryd.underlying2
  a2 := Tryd.isAgg2
  z2 := Tryd.sizeOf2
  v2 := Tryd.zeroValue2
  t3 := Tryd.underlying3
  a3 := Tryd.isAgg3
  z3 := Tryd.sizeOf3
  v3 := Tryd.zeroValue3
  t4 := Tryd.underlying4
  a4 := Tryd.isAgg4
  z4 := Tryd.sizeOf4
  v4 := Tryd.zeroValue4
  t5 := Tryd.underlying5
  a5 := Tryd.isAgg5
  z5 := Tryd.sizeOf5
  v5 := Tryd.zeroValue5
  t9 := Tryd.underlying9
  a9 := Tryd.isAgg9
  z9 := Tryd.sizeOf9
  v9 := Tryd.zeroValue9
  t20 := Tryd.underlying20
  a20 := Tryd.isAgg20
  z20 := Tryd.sizeOf20
  v20 := Tryd.zeroValue20
  t21 := Tryd.underlying21
  a21 := Tryd.isAgg21
  z21 := Tryd.sizeOf21
  v21 := Tryd.zeroValue21
  t37 := Tryd.underlying86
  a37 := Tryd.isAgg86
  z37 := Tryd.sizeOf86
  v37 := Tryd.zeroValue86
  t46 := Tryd.underlying112
  a46 := Tryd.isAgg112
  z46 := Tryd.sizeOf112
  v46 := Tryd.zeroValue112
  t51 := Tryd.underlying131
  a51 := Tryd.isAgg131
  z51 := Tryd.sizeOf131
  v51 := Tryd.zeroValue131
  t53 := Tryd.underlying109
  a53 := Tryd.isAgg109
  z53 := Tryd.sizeOf109
  v53 := Tryd.zeroValue109
  t75 := Tryd.underlying96
  a75 := Tryd.isAgg96
  z75 := Tryd.sizeOf96
  v75 := Tryd.zeroValue96
  t76 := Tryd.underlying97
  a76 := Tryd.isAgg97
  z76 := Tryd.sizeOf97
  v76 := Tryd.zeroValue97
  t85 := Tryd.underlying104
  a85 := Tryd.isAgg104
  z85 := Tryd.sizeOf104
  v85 := Tryd.zeroValue104
  t127 := Tryd.underlying119
  a127 := Tryd.isAgg119
  z127 := Tryd.sizeOf119
  v127 := Tryd.zeroValue119
  t143 := Tryd.underlying120
  a143 := Tryd.isAgg120
  z143 := Tryd.sizeOf120
  v143 := Tryd.zeroValue120
  t145 := Tryd.underlying122
  a145 := Tryd.isAgg122
  z145 := Tryd.sizeOf122
  v145 := Tryd.zeroValue122
  t167 := Tryd.underlying103
  a167 := Tryd.isAgg103
  z167 := Tryd.sizeOf103
  v167 := Tryd.zeroValue103
  t168 := Tryd.underlying106
  a168 := Tryd.isAgg106
  z168 := Tryd.sizeOf106
  v168 := Tryd.zeroValue106
  t171 := Tryd.underlying124
  a171 := Tryd.isAgg124
  z171 := Tryd.sizeOf124
  v171 := Tryd.zeroValue124
  t173 := Tryd.underlying127
  a173 := Tryd.isAgg127
  z173 := Tryd.sizeOf127
  v173 := Tryd.zeroValue127
  t175 := Tryd.underlying110
  a175 := Tryd.isAgg110
  z175 := Tryd.sizeOf110
  v175 := Tryd.zeroValue110
  t210 := Tryd.underlying115
  a210 := Tryd.isAgg115
  z210 := Tryd.sizeOf115
  v210 := Tryd.zeroValue115
  t212 := Tryd.underlying130
  a212 := Tryd.isAgg130
  z212 := Tryd.sizeOf130
  v212 := Tryd.zeroValue130
  t213 := Tryd.underlying132
  a213 := Tryd.isAgg132
  z213 := Tryd.sizeOf132
  t232 := Tryd.underlying135
  a232 := Tryd.isAgg135
  z232 := Tryd.sizeOf135
  v232 := Tryd.zeroValue135
  t233 := Tryd.underlying136
  a233 := Tryd.isAgg136
  z233 := Tryd.sizeOf136
  v233 := Tryd.zeroValue136
  g15 := by kernel_rfl
  g16 := by kernel_rfl
  g17 := by kernel_rfl
  g18 := by kernel_rfl
  g19 := by kernel_rfl
  t80 := Tryd.underlying137
  a80 := Tryd.isAgg137
  z80 := Tryd.sizeOf137
  v80 := Tryd.zeroValue137
  i0 := by kernel_rfl
  i2 := by kernel_rfl
  i3 := by kernel_rfl
  i4 := by kernel_rfl
  i5 := by kernel_rfl
  i9 := by kernel_rfl
  i20 := by kernel_rfl
  i21 := by kernel_rfl
  i37 := by kernel_rfl
  i46 := by kernel_rfl
  i51 := by kernel_rfl
  i53 := by kernel_rfl
  i75 := by kernel_rfl
  i76 := by kernel_rfl
  i80 := by kernel_rfl
  i85 := by kernel_rfl
  i127 := by kernel_rfl
  i143 := by kernel_rfl
  i145 := by kernel_rfl
  i167 := by kernel_rfl
  i168 := by kernel_rfl
  i171 := by kernel_rfl
  i173 := by kernel_rfl
  i175 := by kernel_rfl
  i210 := by kernel_rfl
  i212 := by kernel_rfl
  i232 := by kernel_rfl
  i233 := by kernel_rfl
  m15 := by kernel_rfl
  m16 := by kernel_rfl
  m17 := by kernel_rfl
  m18 := by kernel_rfl
  m19 := by kernel_rfl
  c0 := by kernel_rfl
  c2 := by kernel_rfl
  c3 := by kernel_rfl
  c4 := by kernel_rfl
  c5 := by kernel_rfl
  c9 := by kernel_rfl
  c20 := by kernel_rfl
  c21 := by kernel_rfl
  c37 := by kernel_rfl
  c46 := by kernel_rfl
  c51 := by kernel_rfl
  c53 := by kernel_rfl
  c75 := by kernel_rfl
  c76 := by kernel_rfl
  c80 := by kernel_rfl
  c85 := by kernel_rfl
  c127 := by kernel_rfl
  c143 := by kernel_rfl
  c145 := by kernel_rfl
  c167 := by kernel_rfl
  c168 := by kernel_rfl
  c171 := by kernel_rfl
  c173 := by kernel_rfl
  c175 := by kernel_rfl
  c210 := by kernel_rfl
  c212 := by kernel_rfl
  c213 := by kernel_rfl
  c232 := by kernel_rfl
  c233 := by kernel_rfl }
open Go.RowKit in
/-- strconv.Atoi, AT EVERY STRING THAT SPELLS AN int ('Lib.atoiAll .. = .ok v'; of whatever length: leading zeros count): v, AND NO ERROR. The world: as it was, or with the one new row that '[]byte(..)' lays. (LAID: no walk: one application.) -/
theorem Tryd.strconv_Atoi_ok (s : ByteArray) (hmax : s.size ≤ 9223372036854775806) (v : Int) (h : Lib.atoiAll s.data.toList = .ok v) (w : World) :
    Calls Tryd.prog 76 #[.string s] w fun e w' => e = .returned (.tuple #[.int .i64 v, .nilIface]) ∧ (w' = w ∨ ∃ t, w' = Lib.bytesWorld w 5 t) := Any.strconv_Atoi_ok Tryd.laysC172 s hmax v h w
open Go.RowKit in
/-- strconv.Atoi, AT EVERY NUMERAL THAT NO int HOLDS ('.range'): THE GREATEST OR THE LEAST int, BY THE SIGN ('Lib.atoiSat'), AND AN ERROR THAT IS NOT nil: a *NumError in a new block N: {Func: "Atoi", Num: s's bytes, Err: what the variable ErrRange holds}. Of what was there nothing has turned. (LAID: no walk: one application.) -/
theorem Tryd.strconv_Atoi_range (s : ByteArray) (hlim : s.size ≤ 281474976710656) (h : Lib.atoiAll s.data.toList = .range) (ev : Value) (w : World) (hv : w.cell? ⟨3, 0, none⟩ = some ev) (hev : ev = .nilIface ∨ ∃ te pe, ev = .iface te pe) :
    Calls Tryd.prog 76 #[.string s] w fun e w' => ∃ N, e = .returned (.tuple #[.int .i64 (Lib.atoiSat s.data.toList), .iface 106 (.pointer (some ⟨N, 0, none⟩))]) ∧ w.heap.size ≤ N ∧ w'.heap[N]? = some (.cells #[.string ⟨#[65, 116, 111, 105]⟩, .string s, ev] 115 (0, 0)) ∧ Below w.heap.size w w' := Any.strconv_Atoi_range Tryd.laysC172 s hlim h ev w hv hev
def Tryd.laysnb116_ren : Go.Shelf.Ren := ⟨fun | 116 => 77 | 115 => 80 | n => n, fun | 37 => 86 | 4 => 4 | 3 => 3 | 9 => 9 | 5 => 5 | n => n, fun | n => n⟩
theorem Tryd.laysnb116 : Go.Proofs.Lays.nb116 Tryd.prog Tryd.laysnb116_ren := {
  mixed := by kernel_rfl
  f115 := Tryd.func80.trans (congrArg some (by kernel_rfl))
  f116 := Tryd.func77.trans (congrArg some (by kernel_rfl))
  t3 := Tryd.underlying3
  a3 := Tryd.isAgg3
  z3 := Tryd.sizeOf3
  v3 := Tryd.zeroValue3
  t4 := Tryd.underlying4
  a4 := Tryd.isAgg4
  z4 := Tryd.sizeOf4
  v4 := Tryd.zeroValue4
  t9 := Tryd.underlying9
  a9 := Tryd.isAgg9
  z9 := Tryd.sizeOf9
  v9 := Tryd.zeroValue9
  t37 := Tryd.underlying86
  a37 := Tryd.isAgg86
  z37 := Tryd.sizeOf86
  v37 := Tryd.zeroValue86
  t5 := Tryd.underlying5
  a5 := Tryd.isAgg5
  z5 := Tryd.sizeOf5
  v5 := Tryd.zeroValue5 }
/-- bytes.HasPrefix: WHOLE: each argument nil, or of no byte at whatever address, or at an address with its cells. (LAID: no walk: one application.) -/
theorem Tryd.bytes_HasPrefix_all (p1 p2 : Option Addr) (n c m d : Nat) (xs ys : List Int) (w : World) (hx : xs.length = n) (hy : ys.length = m) (hnc : n ≤ c) (h1 : Lib.BytesIn w p1 n xs) (h2 : Lib.BytesIn w p2 m ys) :
    Calls Tryd.prog 77 #[.slice p1 n c, .slice p2 m d] w fun e w' => e = .returned (.bool (Lib.hasPrefix (Lib.bytesOf xs) (Lib.bytesOf ys))) ∧ w' = w := Any.bytes_HasPrefix_all Tryd.laysnb116 p1 p2 n c m d xs ys w hx hy hnc h1 h2
end Go.Proofs
namespace Go.Proofs.YtjjbgbadkbomlaaDoor
open Go.RowKit
set_option linter.unusedVariables false
set_option linter.unusedSimpArgs false

theorem below_bytes (w : World) (t : ByteArray) : Below w.heap.size w (Lib.bytesWorld w 5 t) :=
  ⟨rfl, rfl, rfl, by rw [Lib.bytesWorld_size]; omega, fun k hk => Lib.bytesWorld_at_old w 5 t k hk⟩

theorem Atoi_ok (l : List UInt8) (w : World) (hl : l.length ≤ 9223372036854775806) (hne : l ≠ []) (hd : allDig l = true) (hv : numVal l < 9223372036854775808) :
    Calls Tryd.prog 76 #[.string ⟨l.toArray⟩] w fun e w' => e = .returned (.tuple #[.int .i64 (numVal l), .nilIface]) ∧ Below w.heap.size w w' := by
  refine (Tryd.strconv_Atoi_ok ⟨l.toArray⟩ (by simpa [ByteArray.size] using hl) (numVal l) (atoi_ok l hne hd hv) w).mono ?_
  rintro e w' ⟨h1, h2⟩
  refine ⟨h1, ?_⟩
  rcases h2 with rfl | ⟨t, rfl⟩
  · exact Below.refl _ _
  · exact below_bytes w t

theorem Atoi_range (l : List UInt8) (w : World) (hl : l.length ≤ 281474976710656) (hne : l ≠ []) (hd : allDig l = true) (hv : ¬ numVal l < 9223372036854775808) (te : TypeId) (pe : Value) (hc : w.cell? ⟨3, 0, none⟩ = some (.iface te pe)) :
    Calls Tryd.prog 76 #[.string ⟨l.toArray⟩] w fun e w' => ∃ n N, e = .returned (.tuple #[.int .i64 n, .iface 106 (.pointer (some ⟨N, 0, none⟩))]) ∧ Below w.heap.size w w' := by
  refine (Tryd.strconv_Atoi_range ⟨l.toArray⟩ (by simpa [ByteArray.size] using hl) (atoi_range l hne hd hv) _ w hc (.inr ⟨te, pe, rfl⟩)).mono ?_
  rintro e w' ⟨N, h1, _, _, h2⟩
  exact ⟨_, N, h1, h2⟩

theorem bcell {W w1 : World} (hb : Below W.heap.size W w1) : (∀ b o, b < W.heap.size → w1.cell? ⟨b, o, none⟩ = W.cell? ⟨b, o, none⟩) ∧ (∀ b o, b < W.heap.size → w1.frozen? ⟨b, o, none⟩ = W.frozen? ⟨b, o, none⟩) :=
  ⟨fun b o h => hb.cell (p := ⟨b, o, none⟩) h, fun b o h => hb.frozen (p := ⟨b, o, none⟩) h⟩

theorem cut_len (xs : List UInt8) (k e : Nat) (h : e ≤ xs.length) : (cut xs k e).length = e - k := by
  unfold cut; simp; omega
theorem cut_dig (xs : List UInt8) (k : Nat) : allDig (cut xs k (spanTo digI xs k)) = true := by
  unfold cut spanTo
  rw [Nat.add_sub_cancel_left]
  exact allDig_span _

set_option maxHeartbeats 2000000 in
theorem number_ws (b o cap : Nat) (xs : List UInt8) (k E : Nat) (w : World) (c0 : Int) (hc0 : w.cell? ⟨b, o + k, none⟩ = some (.int .u8 c0)) (hb : b < w.heap.size) (hl : xs.length ≤ maxLen) (hk : k < E) (hE : E ≤ xs.length) (hcap : xs.length ≤ cap)
    (HS : Hid (∀ o', Calls Tryd.prog 67 #[.slice (some ⟨b, o, none⟩) xs.length cap, .int .i64 k, .func (.func 71) #[] #[]] (w.alloc o') fun e w' => e = .returned (.int .i64 E) ∧ w.alloc o' = w'))
    (cE : Int) (hlt : E < xs.length) (hcE : w.cell? ⟨b, o + E, none⟩ = some (.int .u8 cE)) (hws : wsI cE = true) :
    Calls Tryd.prog 72 #[.slice (some ⟨b, o, none⟩) xs.length cap, .int .i64 k] w fun e w' => e = .returned (.tuple #[tokV tok0, .int .i64 12]) ∧ Below w.heap.size w w' := by
  unfold maxLen at hl
  go_enter Tryd.func72, Tryd.ntmps72
  go_wp2_with (first | (go_at_call 67; refine Calls.mono (HS.out _) ?_; rintro e w' ⟨rfl, rfl⟩) | (go_at_call 69; refine (isWordStart_any _ _).mono ?_; rintro e w' ⟨rfl, rfl⟩))
  refine bodyPost_ret (v := .tuple #[tokV tok0, .int .i64 12]) (by simp [results, Tryd.results72, go_sem, tokV, tok0]) rfl ⟨rfl, ?_⟩
  exact (Below.refl _ _).alloc (Nat.le_refl _) _

set_option maxHeartbeats 2000000 in
theorem number_zero (b o cap : Nat) (xs : List UInt8) (k E : Nat) (w : World) (c0 : Int) (hc0 : w.cell? ⟨b, o + k, none⟩ = some (.int .u8 c0)) (hb : b < w.heap.size) (hl : xs.length ≤ maxLen) (hk : k < E) (hE : E ≤ xs.length) (hcap : xs.length ≤ cap)
    (HS : Hid (∀ o', Calls Tryd.prog 67 #[.slice (some ⟨b, o, none⟩) xs.length cap, .int .i64 k, .func (.func 71) #[] #[]] (w.alloc o') fun e w' => e = .returned (.int .i64 E) ∧ w.alloc o' = w'))
    (hG : xs.length ≤ E ∨ ∃ cE, E < xs.length ∧ w.cell? ⟨b, o + E, none⟩ = some (.int .u8 cE) ∧ wsI cE = false)
    (hz : (c0 == 48) = true) (h1 : 1 < E - k) :
    Calls Tryd.prog 72 #[.slice (some ⟨b, o, none⟩) xs.length cap, .int .i64 k] w fun e w' => e = .returned (.tuple #[tokV tok0, .int .i64 12]) ∧ Below w.heap.size w w' := by
  unfold maxLen at hl
  have hg : (1 : Int) < (E : Int) - (k : Int) := by omega
  rcases hG with hG | ⟨cE, hlt, hcE, hws⟩
  · have hx : ¬ (E : Int) < (xs.length : Int) := by omega
    go_enter Tryd.func72, Tryd.ntmps72
    go_wp2_with (first | (go_at_call 67; refine Calls.mono (HS.out _) ?_; rintro e w' ⟨rfl, rfl⟩) | (go_at_call 69; refine (isWordStart_any _ _).mono ?_; rintro e w' ⟨rfl, rfl⟩))
    refine bodyPost_ret (v := .tuple #[tokV tok0, .int .i64 12]) (by simp [results, Tryd.results72, go_sem, tokV, tok0]) rfl ⟨rfl, ?_⟩
    exact (Below.refl _ _).alloc (Nat.le_refl _) _
  · go_enter Tryd.func72, Tryd.ntmps72
    go_wp2_with (first | (go_at_call 67; refine Calls.mono (HS.out _) ?_; rintro e w' ⟨rfl, rfl⟩) | (go_at_call 69; refine (isWordStart_any _ _).mono ?_; rintro e w' ⟨rfl, rfl⟩))
    refine bodyPost_ret (v := .tuple #[tokV tok0, .int .i64 12]) (by simp [results, Tryd.results72, go_sem, tokV, tok0]) rfl ⟨rfl, ?_⟩
    exact (Below.refl _ _).alloc (Nat.le_refl _) _

set_option maxHeartbeats 2000000 in
theorem number_ok (b o cap : Nat) (xs : List UInt8) (k E : Nat) (w : World) (c0 : Int) (hc0 : w.cell? ⟨b, o + k, none⟩ = some (.int .u8 c0)) (hb : b < w.heap.size) (hl : xs.length ≤ maxLen) (hk : k < E) (hE : E ≤ xs.length) (hcap : xs.length ≤ cap)
    (HS : Hid (∀ o', Calls Tryd.prog 67 #[.slice (some ⟨b, o, none⟩) xs.length cap, .int .i64 k, .func (.func 71) #[] #[]] (w.alloc o') fun e w' => e = .returned (.int .i64 E) ∧ w.alloc o' = w'))
    (hcv : ∀ o', (convert 86 9 (.slice (some ⟨b, o + k, none⟩) (E - k) (cap - k))).run Tryd.prog (w.alloc o') = .ok (.string ⟨(cut xs k E).toArray⟩) (w.alloc o'))
    (v : Nat) (HA : Hid (∀ o', Calls Tryd.prog 76 #[.string ⟨(cut xs k E).toArray⟩] (w.alloc o') fun e w' => e = .returned (.tuple #[.int .i64 v, .nilIface]) ∧ Below (w.alloc o').heap.size (w.alloc o') w'))
    (hG : xs.length ≤ E ∨ ∃ cE, E < xs.length ∧ w.cell? ⟨b, o + E, none⟩ = some (.int .u8 cE) ∧ wsI cE = false)
    (hZ : (c0 == 48) = false ∨ (c0 == 48) = true ∧ E - k ≤ 1) :
    Calls Tryd.prog 72 #[.slice (some ⟨b, o, none⟩) xs.length cap, .int .i64 k] w fun e w' => e = .returned (.tuple #[tokV ⟨2, k, E - k, v⟩, .int .i64 0]) ∧ Below w.heap.size w w' := by
  have hsl := fun o' => Lib.run_slice_window (P := Tryd.prog) (w.alloc o') 86 5 Tryd.underlying86 sizeOf5 b o xs.length cap k E hk (by omega)
  unfold maxLen at hl
  have hsub : ((E - k : Nat) : Int) = (E : Int) - (k : Int) := by omega
  have HU : Hid _ := hsub
  clear hsub
  rcases hG with hG | ⟨cE, hlt, hcE, hws⟩ <;> rcases hZ with hz | ⟨hz, h1⟩
  · have hx : ¬ (E : Int) < (xs.length : Int) := by omega
    go_enter Tryd.func72, Tryd.ntmps72
    go_wp2_with (first | (go_at_call 67; refine Calls.mono (HS.out _) ?_; rintro e w' ⟨rfl, rfl⟩) | (go_at_call 69; refine (isWordStart_any _ _).mono ?_; rintro e w' ⟨rfl, rfl⟩) | (go_at_call 76; refine Calls.mono (HA.out _) ?_; rintro e w1 ⟨rfl, hb1⟩; obtain ⟨hcc, hff⟩ := bcell hb1; have hsz : w.heap.size < w1.heap.size := (by have := hb1.size; simp at this; omega)))
    refine bodyPost_ret (v := .tuple #[tokV ⟨2, k, E - k, v⟩, .int .i64 0]) (by simp [results, Tryd.results72, go_sem, tokV, HU.out, hcc, hsz]) rfl ⟨rfl, ?_⟩
    exact ((((((Below.refl _ _).alloc (Nat.le_refl _) _).trans (hb1.mono (by simp))).setCell (Nat.le_refl _) _).setCell (Nat.le_refl _) _).setCell (Nat.le_refl _) _).setCell (Nat.le_refl _) _
  · have hx : ¬ (E : Int) < (xs.length : Int) := by omega
    have hg : ¬ (1 : Int) < (E : Int) - (k : Int) := by omega
    go_enter Tryd.func72, Tryd.ntmps72
    go_wp2_with (first | (go_at_call 67; refine Calls.mono (HS.out _) ?_; rintro e w' ⟨rfl, rfl⟩) | (go_at_call 69; refine (isWordStart_any _ _).mono ?_; rintro e w' ⟨rfl, rfl⟩) | (go_at_call 76; refine Calls.mono (HA.out _) ?_; rintro e w1 ⟨rfl, hb1⟩; obtain ⟨hcc, hff⟩ := bcell hb1; have hsz : w.heap.size < w1.heap.size := (by have := hb1.size; simp at this; omega)))
    refine bodyPost_ret (v := .tuple #[tokV ⟨2, k, E - k, v⟩, .int .i64 0]) (by simp [results, Tryd.results72, go_sem, tokV, HU.out, hcc, hsz]) rfl ⟨rfl, ?_⟩
    exact ((((((Below.refl _ _).alloc (Nat.le_refl _) _).trans (hb1.mono (by simp))).setCell (Nat.le_refl _) _).setCell (Nat.le_refl _) _).setCell (Nat.le_refl _) _).setCell (Nat.le_refl _) _
  · go_enter Tryd.func72, Tryd.ntmps72
    go_wp2_with (first | (go_at_call 67; refine Calls.mono (HS.out _) ?_; rintro e w' ⟨rfl, rfl⟩) | (go_at_call 69; refine (isWordStart_any _ _).mono ?_; rintro e w' ⟨rfl, rfl⟩) | (go_at_call 76; refine Calls.mono (HA.out _) ?_; rintro e w1 ⟨rfl, hb1⟩; obtain ⟨hcc, hff⟩ := bcell hb1; have hsz : w.heap.size < w1.heap.size := (by have := hb1.size; simp at this; omega)))
    refine bodyPost_ret (v := .tuple #[tokV ⟨2, k, E - k, v⟩, .int .i64 0]) (by simp [results, Tryd.results72, go_sem, tokV, HU.out, hcc, hsz]) rfl ⟨rfl, ?_⟩
    exact ((((((Below.refl _ _).alloc (Nat.le_refl _) _).trans (hb1.mono (by simp))).setCell (Nat.le_refl _) _).setCell (Nat.le_refl _) _).setCell (Nat.le_refl _) _).setCell (Nat.le_refl _) _
  · have hg : ¬ (1 : Int) < (E : Int) - (k : Int) := by omega
    go_enter Tryd.func72, Tryd.ntmps72
    go_wp2_with (first | (go_at_call 67; refine Calls.mono (HS.out _) ?_; rintro e w' ⟨rfl, rfl⟩) | (go_at_call 69; refine (isWordStart_any _ _).mono ?_; rintro e w' ⟨rfl, rfl⟩) | (go_at_call 76; refine Calls.mono (HA.out _) ?_; rintro e w1 ⟨rfl, hb1⟩; obtain ⟨hcc, hff⟩ := bcell hb1; have hsz : w.heap.size < w1.heap.size := (by have := hb1.size; simp at this; omega)))
    refine bodyPost_ret (v := .tuple #[tokV ⟨2, k, E - k, v⟩, .int .i64 0]) (by simp [results, Tryd.results72, go_sem, tokV, HU.out, hcc, hsz]) rfl ⟨rfl, ?_⟩
    exact ((((((Below.refl _ _).alloc (Nat.le_refl _) _).trans (hb1.mono (by simp))).setCell (Nat.le_refl _) _).setCell (Nat.le_refl _) _).setCell (Nat.le_refl _) _).setCell (Nat.le_refl _) _

set_option maxHeartbeats 2000000 in
theorem number_range (b o cap : Nat) (xs : List UInt8) (k E : Nat) (w : World) (c0 : Int) (hc0 : w.cell? ⟨b, o + k, none⟩ = some (.int .u8 c0)) (hb : b < w.heap.size) (hl : xs.length ≤ maxLen) (hk : k < E) (hE : E ≤ xs.length) (hcap : xs.length ≤ cap)
    (HS : Hid (∀ o', Calls Tryd.prog 67 #[.slice (some ⟨b, o, none⟩) xs.length cap, .int .i64 k, .func (.func 71) #[] #[]] (w.alloc o') fun e w' => e = .returned (.int .i64 E) ∧ w.alloc o' = w'))
    (hcv : ∀ o', (convert 86 9 (.slice (some ⟨b, o + k, none⟩) (E - k) (cap - k))).run Tryd.prog (w.alloc o') = .ok (.string ⟨(cut xs k E).toArray⟩) (w.alloc o'))
    (HA : Hid (∀ o', Calls Tryd.prog 76 #[.string ⟨(cut xs k E).toArray⟩] (w.alloc o') fun e w' => ∃ n N, e = .returned (.tuple #[.int .i64 n, .iface 106 (.pointer (some ⟨N, 0, none⟩))]) ∧ Below (w.alloc o').heap.size (w.alloc o') w'))
    (hG : xs.length ≤ E ∨ ∃ cE, E < xs.length ∧ w.cell? ⟨b, o + E, none⟩ = some (.int .u8 cE) ∧ wsI cE = false)
    (hZ : (c0 == 48) = false ∨ (c0 == 48) = true ∧ E - k ≤ 1) :
    Calls Tryd.prog 72 #[.slice (some ⟨b, o, none⟩) xs.length cap, .int .i64 k] w fun e w' => e = .returned (.tuple #[tokV tok0, .int .i64 12]) ∧ Below w.heap.size w w' := by
  have hsl := fun o' => Lib.run_slice_window (P := Tryd.prog) (w.alloc o') 86 5 Tryd.underlying86 sizeOf5 b o xs.length cap k E hk (by omega)
  unfold maxLen at hl
  have hsub : ((E - k : Nat) : Int) = (E : Int) - (k : Int) := by omega
  have HU : Hid _ := hsub
  clear hsub
  rcases hG with hG | ⟨cE, hlt, hcE, hws⟩ <;> rcases hZ with hz | ⟨hz, h1⟩
  · have hx : ¬ (E : Int) < (xs.length : Int) := by omega
    go_enter Tryd.func72, Tryd.ntmps72
    go_wp2_with (first | (go_at_call 67; refine Calls.mono (HS.out _) ?_; rintro e w' ⟨rfl, rfl⟩) | (go_at_call 69; refine (isWordStart_any _ _).mono ?_; rintro e w' ⟨rfl, rfl⟩) | (go_at_call 76; refine Calls.mono (HA.out _) ?_; rintro e w1 ⟨n, N, rfl, hb1⟩; obtain ⟨hcc, hff⟩ := bcell hb1; have hsz : w.heap.size < w1.heap.size := (by have := hb1.size; simp at this; omega)))
    refine bodyPost_ret (v := .tuple #[tokV tok0, .int .i64 12]) (by simp [results, Tryd.results72, go_sem, tokV, tok0, hcc, hsz]) rfl ⟨rfl, ?_⟩
    exact ((((((Below.refl _ _).alloc (Nat.le_refl _) _).trans (hb1.mono (by simp))).setCell (Nat.le_refl _) _).setCell (Nat.le_refl _) _).setCell (Nat.le_refl _) _).setCell (Nat.le_refl _) _
  · have hx : ¬ (E : Int) < (xs.length : Int) := by omega
    have hg : ¬ (1 : Int) < (E : Int) - (k : Int) := by omega
    go_enter Tryd.func72, Tryd.ntmps72
    go_wp2_with (first | (go_at_call 67; refine Calls.mono (HS.out _) ?_; rintro e w' ⟨rfl, rfl⟩) | (go_at_call 69; refine (isWordStart_any _ _).mono ?_; rintro e w' ⟨rfl, rfl⟩) | (go_at_call 76; refine Calls.mono (HA.out _) ?_; rintro e w1 ⟨n, N, rfl, hb1⟩; obtain ⟨hcc, hff⟩ := bcell hb1; have hsz : w.heap.size < w1.heap.size := (by have := hb1.size; simp at this; omega)))
    refine bodyPost_ret (v := .tuple #[tokV tok0, .int .i64 12]) (by simp [results, Tryd.results72, go_sem, tokV, tok0, hcc, hsz]) rfl ⟨rfl, ?_⟩
    exact ((((((Below.refl _ _).alloc (Nat.le_refl _) _).trans (hb1.mono (by simp))).setCell (Nat.le_refl _) _).setCell (Nat.le_refl _) _).setCell (Nat.le_refl _) _).setCell (Nat.le_refl _) _
  · go_enter Tryd.func72, Tryd.ntmps72
    go_wp2_with (first | (go_at_call 67; refine Calls.mono (HS.out _) ?_; rintro e w' ⟨rfl, rfl⟩) | (go_at_call 69; refine (isWordStart_any _ _).mono ?_; rintro e w' ⟨rfl, rfl⟩) | (go_at_call 76; refine Calls.mono (HA.out _) ?_; rintro e w1 ⟨n, N, rfl, hb1⟩; obtain ⟨hcc, hff⟩ := bcell hb1; have hsz : w.heap.size < w1.heap.size := (by have := hb1.size; simp at this; omega)))
    refine bodyPost_ret (v := .tuple #[tokV tok0, .int .i64 12]) (by simp [results, Tryd.results72, go_sem, tokV, tok0, hcc, hsz]) rfl ⟨rfl, ?_⟩
    exact ((((((Below.refl _ _).alloc (Nat.le_refl _) _).trans (hb1.mono (by simp))).setCell (Nat.le_refl _) _).setCell (Nat.le_refl _) _).setCell (Nat.le_refl _) _).setCell (Nat.le_refl _) _
  · have hg : ¬ (1 : Int) < (E : Int) - (k : Int) := by omega
    go_enter Tryd.func72, Tryd.ntmps72
    go_wp2_with (first | (go_at_call 67; refine Calls.mono (HS.out _) ?_; rintro e w' ⟨rfl, rfl⟩) | (go_at_call 69; refine (isWordStart_any _ _).mono ?_; rintro e w' ⟨rfl, rfl⟩) | (go_at_call 76; refine Calls.mono (HA.out _) ?_; rintro e w1 ⟨n, N, rfl, hb1⟩; obtain ⟨hcc, hff⟩ := bcell hb1; have hsz : w.heap.size < w1.heap.size := (by have := hb1.size; simp at this; omega)))
    refine bodyPost_ret (v := .tuple #[tokV tok0, .int .i64 12]) (by simp [results, Tryd.results72, go_sem, tokV, tok0, hcc, hsz]) rfl ⟨rfl, ?_⟩
    exact ((((((Below.refl _ _).alloc (Nat.le_refl _) _).trans (hb1.mono (by simp))).setCell (Nat.le_refl _) _).setCell (Nat.le_refl _) _).setCell (Nat.le_refl _) _).setCell (Nat.le_refl _) _

theorem number_any (b o cap : Nat) (xs : List UInt8) (k : Nat) (w : World) (hs : Src w b o xs) (hb : b < w.heap.size) (hl : xs.length ≤ 65536) (hcap : xs.length ≤ cap) (hk : k < spanTo digI xs k)
    (te : TypeId) (pe : Value) (h3 : 3 < w.heap.size) (hv : w.cell? ⟨3, 0, none⟩ = some (.iface te pe)) :
    Calls Tryd.prog 72 #[.slice (some ⟨b, o, none⟩) xs.length cap, .int .i64 k] w fun e w' => e = .returned (.tuple #[tokV (numR xs k).1, .int .i64 (numR xs k).2]) ∧ Below w.heap.size w w' := by
  have hkl : k < xs.length := by
    rcases Nat.lt_or_ge k xs.length with h | h
    · exact h
    · rw [spanTo_end _ _ _ h] at hk; omega
  have hml : xs.length ≤ maxLen := by unfold maxLen; omega
  obtain ⟨_, hE2⟩ := spanTo_le digI xs k (by omega)
  have hbl : ∀ o', Below w.heap.size w (w.alloc o') := fun o' => (Below.refl _ _).alloc (Nat.le_refl _) _
  have hsp : Hid _ := fun o' => span36_any b o cap xs k (w.alloc o') (hs.below hb (hbl o')) hml (by omega)
  have hcv := fun o' => run_conv (w.alloc o') b o (cap - k) xs k (spanTo digI xs k) (hs.below hb (hbl o')) (by omega) hE2
  have hdg := cut_dig xs k
  have hln := cut_len xs k (spanTo digI xs k) hE2
  have hR : numR xs k = if spanTo digI xs k < xs.length ∧ wsI ((xs.getD (spanTo digI xs k) 0).toNat : Int) = true then (tok0, 12)
    else if ((xs.getD k 0).toNat : Int) = 48 ∧ 1 < spanTo digI xs k - k then (tok0, 12)
    else if numVal (cut xs k (spanTo digI xs k)) < 9223372036854775808 then (⟨2, k, spanTo digI xs k - k, numVal (cut xs k (spanTo digI xs k))⟩, 0)
    else (tok0, 12) := rfl
  have hc0 : w.cell? ⟨b, o + k, none⟩ = some (.int .u8 ((xs.getD k 0).toNat : Int)) := by
    rw [hs k hkl]; simp [List.getD, hkl]
  generalize spanTo digI xs k = E at *
  have hne : cut xs k E ≠ [] := by
    intro e; rw [e] at hln; simp at hln; omega
  have hcE : E < xs.length → w.cell? ⟨b, o + E, none⟩ = some (.int .u8 ((xs.getD E 0).toNat : Int)) := fun h => by
    rw [hs E h]; simp [List.getD, h]
  by_cases a1 : E < xs.length ∧ wsI ((xs.getD E 0).toNat : Int) = true
  · rw [if_pos a1] at hR
    rw [hR]
    exact number_ws b o cap xs k E w _ hc0 hb hml hk hE2 hcap hsp _ a1.1 (hcE a1.1) a1.2
  · rw [if_neg a1] at hR
    have hG : xs.length ≤ E ∨ ∃ cE, E < xs.length ∧ w.cell? ⟨b, o + E, none⟩ = some (.int .u8 cE) ∧ wsI cE = false := by
      by_cases h : E < xs.length
      · refine .inr ⟨_, h, hcE h, ?_⟩
        cases hw : wsI ((xs.getD E 0).toNat : Int)
        · rfl
        · exact absurd ⟨h, hw⟩ a1
      · exact .inl (by omega)
    by_cases a2 : ((xs.getD k 0).toNat : Int) = 48 ∧ 1 < E - k
    · rw [if_pos a2] at hR
      rw [hR]
      exact number_zero b o cap xs k E w _ hc0 hb hml hk hE2 hcap hsp hG (beq_iff_eq.2 a2.1) a2.2
    · rw [if_neg a2] at hR
      have hZ : (((xs.getD k 0).toNat : Int) == 48) = false ∨ (((xs.getD k 0).toNat : Int) == 48) = true ∧ E - k ≤ 1 := by
        cases hq : (((xs.getD k 0).toNat : Int) == 48)
        · exact .inl rfl
        · refine .inr ⟨rfl, ?_⟩
          rcases Nat.lt_or_ge 1 (E - k) with h | h
          · exact absurd ⟨beq_iff_eq.1 hq, h⟩ a2
          · exact h
      by_cases a3 : numVal (cut xs k E) < 9223372036854775808
      · rw [if_pos a3] at hR
        rw [hR]
        exact number_ok b o cap xs k E w _ hc0 hb hml hk hE2 hcap hsp hcv _ (fun o' => Atoi_ok _ _ (by omega) hne hdg a3) hG hZ
      · rw [if_neg a3] at hR
        rw [hR]
        exact number_range b o cap xs k E w _ hc0 hb hml hk hE2 hcap hsp hcv (fun o' => Atoi_range _ _ (by omega) hne hdg a3 te pe (by rw [(hbl o').cell h3]; exact hv)) hG hZ
end Go.Proofs.YtjjbgbadkbomlaaDoor
