import Derived.Test.YtpgobebibjeglaaDoorCPP
import Derived.Test.YtpgobebibjeglaaDoorCTTx
import Derived.Test.YtpgobebibjeglaaDoorCTPlain
namespace Go.Proofs.YtpgobebibjeglaaDoor
open Go.RowKit
set_option linter.unusedVariables false
set_option linter.unusedSimpArgs false

/-! ### the tree of a node, and its tokens -/
def treeF (l : List Nd) : Nat → Nat → Tr
  | 0, _ => .mk 0 0 0 [] []
  | f + 1, j => .mk (ndN l j).kind 0 (ndN l j).num (ndN l j).name.data.toList ((kidsN l j).map (treeF l f))
def treeG (l : List Nd) (j : Nat) : Tr := treeF l (j + 1) j
theorem treeF_fuel {l : List Nd} {n : Nat} (hk : ∀ j, j < n → ∀ k ∈ kidsN l j, k < j) : ∀ (f f' j : Nat), j < n → j < f → j < f' → treeF l f j = treeF l f' j
  | 0, _, j, _, h, _ => by omega
  | f + 1, 0, j, _, _, h => by omega
  | f + 1, f' + 1, j, hn, h1, h2 => by
    have e : (kidsN l j).map (treeF l f) = (kidsN l j).map (treeF l f') := by
      apply List.map_congr_left
      intro k hm
      have := hk j hn k hm
      exact treeF_fuel hk f f' k (by omega) (by omega) (by omega)
    rw [treeF, treeF, e]
theorem treeG_eq {l : List Nd} {n : Nat} (hk : ∀ j, j < n → ∀ k ∈ kidsN l j, k < j) {j : Nat} (hj : j < n) :
    treeG l j = .mk (ndN l j).kind 0 (ndN l j).num (ndN l j).name.data.toList ((kidsN l j).map (treeG l)) := by
  have e : (kidsN l j).map (treeF l j) = (kidsN l j).map (treeG l) := by
    apply List.map_congr_left
    intro k hm
    have := hk j hj k hm
    exact treeF_fuel hk j (k + 1) k (by omega) (by omega) (by omega)
  unfold treeG
  rw [treeF, e]
  rfl
def tokP (t : List UInt8) : PTok := ⟨(nextR t 0).1.kind, 0, (nextR t 0).1.num, t⟩
def tkk (l : List Nd) (k : Nat) : List PTok := (textG l k).map tokP
def tkR (l : List Nd) (ks : List Nat) : List PTok := ks.flatMap (tkk l)
def tkI (l : List Nd) (ks : List Nat) : List PTok := (innerT (textG l) ks).map tokP
theorem map_row (l : List Nd) (ks : List Nat) : (rowT (textG l) ks).map tokP = tkR l ks := by
  unfold rowT tkR tkk
  rw [List.map_flatMap]
theorem map_inner (l : List Nd) (ks : List Nat) : (innerT (textG l) ks).map tokP = tkI l ks := rfl
theorem tkI_nil (l : List Nd) : tkI l [] = [] := rfl
theorem tkI_one (l : List Nd) (k : Nat) : tkI l [k] = tkk l k := by simp [tkI, innerT, tkk]
theorem tkI_more (l : List Nd) (k k' : Nat) (r : List Nat) : tkI l (k :: k' :: r) = tkk l k ++ tokP [44] :: tkI l (k' :: r) := by simp [tkI, innerT, tkk]
theorem tkR_nil (l : List Nd) : tkR l [] = [] := rfl
theorem tkR_cons (l : List Nd) (k : Nat) (r : List Nat) : tkR l (k :: r) = tkk l k ++ tkR l r := by simp [tkR]

def lev (l : List Nd) (k : Nat) : Int := levelI (ndN l k).kind (ndN l k).num
def nameF (kd : Int) (nm : List UInt8) : Bool :=
  if kd = 20 ∨ kd = 43 then nm.isEmpty || nameOk nm
  else if kd = 3 ∨ kd = 13 ∨ kd = 31 ∨ kd = 32 ∨ kd = 42 ∨ kd = 45 then nameOk nm
  else nm.isEmpty
theorem nameFitsJ_eq' (k : Int) (nm : ByteArray) : nameFitsI k nm = nameF k nm.data.toList := by
  unfold nameFitsI nameF emptyB
  rw [ByteArray.toList_eq]
/-- what is known of the node j -/
structure NodeF (l : List Nd) (j : Nat) (kd num : Int) (nm : List UInt8) (ks : List Nat) : Prop where
  tok : tkk l j = (nodeT (textG l) kd num nm ks).map tokP
  tree : treeG l j = .mk kd 0 num nm (ks.map (treeG l))
  kind : kdN l j = kd
  lv : lev l j = levelI kd num
  numF : numFitsI kd num ks.length = true
  i64 : I64 num
  name : nameF kd nm = true
  fit : kidsFitI (kdN l) kd num ks = true
  levs : ∀ i (h : i < ks.length), wantedI kd num i ≤ lev l ks[i]
  beg : kd = 44 → beginsI l (l.length + 1) (ks.getD 0 0 : Nat) = false
  sub : ∀ f, 22 ≤ kd → kd ≤ 25 → beginsI l (f + 1) j = beginsI l f (ks.getD 0 0 : Nat)
  own : ∀ f, ¬ (22 ≤ kd ∧ kd ≤ 25) → beginsI l (f + 1) j = (kd == 21 && num == 3)
  low : ∀ k ∈ ks, k < j
  lt : j < l.length

theorem levels_at {l : List Nd} {n : Nd} : ∀ (ks : List Nat) (p : Nat), levelsGo l n p (ks.map fun k : Nat => (k : Int)) = true → ∀ i (h : i < ks.length), wantedI n.kind n.num (p + i) ≤ lev l ks[i]
  | k :: r, p, hg, i, h => by
    rw [List.map_cons, levelsGo] at hg
    split at hg
    · cases hg
    · rename_i hn
      match i with
      | 0 =>
        have : ¬ lev l k < wantedI n.kind n.num p := hn
        simp only [List.getElem_cons_zero, Nat.add_zero]
        omega
      | i + 1 =>
        have := levels_at r (p + 1) hg i (by simpa using h)
        rw [show p + 1 + i = p + (i + 1) by omega] at this
        simpa using this
theorem node_f {l : List Nd} (hok : (checkAll l).2 = 0) (hw : ∀ j, j < l.length → I64 (ndN l j).num) {j : Nat} (hj : j < l.length) : NodeF l j (ndN l j).kind (ndN l j).num (ndN l j).name.data.toList (kidsN l j) := by
  obtain ⟨hall, _, _⟩ := ok_all hok
  have hlow : ∀ j, j < l.length → ∀ k ∈ kidsN l j, k < j := fun j hj => (hall j hj).low
  have h := hall j hj
  have hnat : (kidsN l j).map (fun k : Nat => (k : Int)) = (ndN l j).kids := h.nat
  have hlen : (ndN l j).kids.length = (kidsN l j).length := by simp [kidsN]
  have hnum := h.num
  rw [hlen] at hnum
  have hlv := h.lev
  unfold levelsFitI at hlv
  rw [Bool.and_eq_true] at hlv
  have hget : (ndN l j).kids.getD 0 0 = ((kidsN l j).getD 0 0 : Nat) := by
    rw [← hnat]
    cases kidsN l j <;> rfl
  refine ⟨?_, treeG_eq hlow hj, rfl, rfl, hnum, hw j hj, ?_, h.fit, ?_, ?_, ?_, ?_, hlow j hj, hj⟩
  · unfold tkk
    rw [textG_eq hlow hj]
  · have := h.name
    rw [nameFitsJ_eq'] at this
    exact this
  · intro i hi
    have h1 := hlv.1
    rw [← hnat] at h1
    have := levels_at (kidsN l j) 0 h1 i hi
    rw [Nat.zero_add] at this
    exact this
  · intro hk
    have h2 := hlv.2
    rw [hk, hget] at h2
    simpa using h2
  · intro f h1 h2
    rw [beginsI, ndAt_nat, if_pos ⟨h1, h2⟩, hget]
  · intro f hn
    rw [beginsI, ndAt_nat, if_neg hn]
end Go.Proofs.YtpgobebibjeglaaDoor
namespace Go.Proofs.YtpgobebibjeglaaDoor
open Go.RowKit
set_option linter.unusedVariables false
set_option linter.unusedSimpArgs false

theorem k10 : (tokP [97, 114, 114, 97, 121]).kind = 10 := by kernel_rfl
theorem k11 : (tokP [98, 101, 103, 105, 110]).kind = 11 := by kernel_rfl
theorem k12 : (tokP [98, 111, 111, 108]).kind = 12 := by kernel_rfl
theorem k13 : (tokP [99, 97, 115, 101]).kind = 13 := by kernel_rfl
theorem k14 : (tokP [99, 104, 97, 110]).kind = 14 := by kernel_rfl
theorem k15 : (tokP [101, 108, 115, 101]).kind = 15 := by kernel_rfl
theorem k16 : (tokP [102, 97, 108, 115, 101]).kind = 16 := by kernel_rfl
theorem k17 : (tokP [102, 105, 108, 108]).kind = 17 := by kernel_rfl
theorem k18 : (tokP [105, 102]).kind = 18 := by kernel_rfl
theorem k19 : (tokP [105, 110, 116]).kind = 19 := by kernel_rfl
theorem k20 : (tokP [108, 101, 110]).kind = 20 := by kernel_rfl
theorem k21 : (tokP [109, 97, 107, 101]).kind = 21 := by kernel_rfl
theorem k22 : (tokP [111, 102]).kind = 22 := by kernel_rfl
theorem k23 : (tokP [112, 114, 111, 103]).kind = 23 := by kernel_rfl
theorem k24 : (tokP [114, 101, 116, 117, 114, 110]).kind = 24 := by kernel_rfl
theorem k25 : (tokP [115, 101, 108, 101, 99, 116]).kind = 25 := by kernel_rfl
theorem k26 : (tokP [116, 114, 117, 101]).kind = 26 := by kernel_rfl
theorem k27 : (tokP [116, 121, 112, 101]).kind = 27 := by kernel_rfl
theorem k28 : (tokP [118, 97, 108]).kind = 28 := by kernel_rfl
theorem k29 : (tokP [118, 97, 114]).kind = 29 := by kernel_rfl
theorem k30 : (tokP [119, 104, 105, 108, 101]).kind = 30 := by kernel_rfl
theorem k40 : (tokP [40]).kind = 40 := by kernel_rfl
theorem k41 : (tokP [41]).kind = 41 := by kernel_rfl
theorem k42 : (tokP [91]).kind = 42 := by kernel_rfl
theorem k43 : (tokP [93]).kind = 43 := by kernel_rfl
theorem k44 : (tokP [123]).kind = 44 := by kernel_rfl
theorem k45 : (tokP [125]).kind = 45 := by kernel_rfl
theorem k46 : (tokP [44]).kind = 46 := by kernel_rfl
theorem k47 : (tokP [59]).kind = 47 := by kernel_rfl
theorem k48 : (tokP [58]).kind = 48 := by kernel_rfl
theorem k49 : (tokP [46]).kind = 49 := by kernel_rfl
theorem k50 : (tokP [61]).kind = 50 := by kernel_rfl
theorem k51 : (tokP [61, 61]).kind = 51 := by kernel_rfl
theorem k52 : (tokP [33, 61]).kind = 52 := by kernel_rfl
theorem k53 : (tokP [60]).kind = 53 := by kernel_rfl
theorem k54 : (tokP [60, 61]).kind = 54 := by kernel_rfl
theorem k55 : (tokP [62]).kind = 55 := by kernel_rfl
theorem k56 : (tokP [62, 61]).kind = 56 := by kernel_rfl
theorem k57 : (tokP [43]).kind = 57 := by kernel_rfl
theorem k58 : (tokP [45]).kind = 58 := by kernel_rfl
theorem k59 : (tokP [42]).kind = 59 := by kernel_rfl
theorem k60 : (tokP [47]).kind = 60 := by kernel_rfl
theorem k61 : (tokP [37]).kind = 61 := by kernel_rfl
theorem k62 : (tokP [38, 38]).kind = 62 := by kernel_rfl
theorem k63 : (tokP [124, 124]).kind = 63 := by kernel_rfl
theorem k64 : (tokP [33]).kind = 64 := by kernel_rfl
theorem k65 : (tokP [60, 45]).kind = 65 := by kernel_rfl
theorem k66 : (tokP [60, 45, 61]).kind = 66 := by kernel_rfl

theorem kname {nm : List UInt8} (h : nameOk nm = true) : (tokP nm).kind = 1 := by
  unfold tokP
  rw [(nameOk_next h).1]
theorem knum {n : Int} (h0 : 0 ≤ n) (h : I64 n) : (tokP (Lib.itoa n)).kind = 2 ∧ ((tokP (Lib.itoa n)).num : Int) = n := by
  unfold tokP
  rw [itoa_next h0 h]
  exact ⟨rfl, by simp only; omega⟩
def stopB (c : Nat) : Bool := c != 40 && c != 42 && c != 49 && c != 48 && betw c == 0
def Stop (s : List PTok) : Prop := kd s ≠ 40 ∧ kd s ≠ 42 ∧ kd s ≠ 49 ∧ kd s ≠ 48
def End (s : List PTok) : Prop := stopB (kd s) = true
theorem end_of {t : PTok} {r : List PTok} {c : Nat} (h : t.kind = c) (hb : stopB c = true) : End (t :: r) := by
  show stopB t.kind = true
  rw [h]
  exact hb
theorem End.stop {s : List PTok} (h : End s) : Stop s ∧ betw (kd s) = 0 := by
  unfold End stopB at h
  simp only [Bool.and_eq_true, bne_iff_ne, ne_eq, beq_iff_eq] at h
  obtain ⟨⟨⟨⟨h1, h2⟩, h3⟩, h4⟩, h5⟩ := h
  exact ⟨⟨h1, h2, h3, h4⟩, h5⟩
def startE (c : Nat) : Bool := c == 58 || c == 64 || c == 65 || c == 26 || c == 16 || c == 40 || c == 42 || c == 17 || c == 20 || c == 21 || c == 23 || c == 2 || c == 1
def startS (c : Nat) : Bool := c == 28 || c == 29 || c == 18 || c == 30 || c == 24 || c == 11 || c == 25 || c == 44 || startE c
theorem startE_ne {c : Nat} (h : startE c = true) : c ≠ 28 ∧ c ≠ 29 ∧ c ≠ 18 ∧ c ≠ 30 ∧ c ≠ 24 ∧ c ≠ 11 ∧ c ≠ 25 ∧ c ≠ 44 ∧ c ≠ 15 ∧ c ≠ 45 ∧ c ≠ 47 ∧ c ≠ 41 ∧ c ≠ 43 ∧ c ≠ 27 := by
  unfold startE at h
  simp only [Bool.or_eq_true, beq_iff_eq] at h
  omega
theorem startS_ne {c : Nat} (h : startS c = true) : c ≠ 15 ∧ c ≠ 45 ∧ c ≠ 27 := by
  unfold startS startE at h
  simp only [Bool.or_eq_true, beq_iff_eq] at h
  omega
def mostA (l : List Nd) (k : Nat) : Int := if kdN l k = 22 then (if lev l k = 3 then 2 else lev l k) else 5
/-- the first tokens of an expression -/
structure FstE (l : List Nd) (k : Nat) : Prop where
  ex : ∃ t r, tkk l k = t :: r ∧ startE t.kind = true ∧ (7 ≤ lev l k → t.kind ≠ 58 ∧ t.kind ≠ 64 ∧ t.kind ≠ 65) ∧ (t.kind = 65 → ∀ f, k < f → beginsI l f k = true) ∧ (t.kind = 1 → r = [] ∨ ∃ u r', r = u :: r' ∧ u.kind ≠ 50)
/-- THE NODE'S TOKENS ARE READ AS ITS TREE -/
structure Comp (l : List Nd) (k : Nat) : Prop where
  typ : typI (kdN l k) = true → ∀ rest, kd rest ≠ 48 → P .typ (tkk l k ++ rest) [treeG l k] rest
  fT : typI (kdN l k) = true → ∃ t r, tkk l k = t :: r ∧ t.kind ≠ 41
  chan : kdN l k = 6 → ∀ rest, kd rest ≠ 48 → P .chanT (tkk l k ++ rest) [treeG l k] rest
  post : 7 ≤ lev l k → ∀ rest a s', kd rest ≠ 48 → P (.post [treeG l k]) rest a s' → P .postf (tkk l k ++ rest) a s'
  un : 6 ≤ lev l k → ∀ rest, Stop rest → P .unary (tkk l k ++ rest) [treeG l k] rest
  ops : 1 ≤ lev l k → ∀ least rest a s', least ≤ lev l k → Stop rest → (kdN l k = 22 → binLevelI (betw (kd rest)) ≤ lev l k) → P (.ops least [treeG l k] (mostA l k)) rest a s' → P (.operands least) (tkk l k ++ rest) a s'
  pos : exprI (kdN l k) = true → 1 ≤ lev l k
  fst : exprI (kdN l k) = true → FstE l k
  par : kdN l k = 42 → (∀ rest, kd rest ≠ 48 → P .param (tkk l k ++ rest) [treeG l k] rest) ∧ ∃ t r, tkk l k = t :: r ∧ t.kind = 1
  blk : kdN l k = 41 → (∀ rest, P .block (tkk l k ++ rest) [treeG l k] rest) ∧ ∃ t r, tkk l k = t :: r ∧ t.kind = 44
  br : kdN l k = 36 → (∀ rest, kd rest ≠ 15 → P .branch (tkk l k ++ rest) [treeG l k] rest) ∧ ∃ t r, tkk l k = t :: r ∧ t.kind = 18
  st : statI (kdN l k) = true → (∀ rest, kd rest ≠ 15 → P .stmt (tkk l k ++ rest) [treeG l k] rest) ∧ ∃ t r, tkk l k = t :: r ∧ startS t.kind = true
  arm : armI (kdN l k) = true → (∀ rest, P .arm (tkk l k ++ rest) [treeG l k] rest) ∧ ∃ t r, tkk l k = t :: r ∧ t.kind = 13
  tyn : kdN l k = 45 → (∀ rest, P .tyn (tkk l k ++ rest) [treeG l k] rest) ∧ ∃ t r, tkk l k = t :: r ∧ t.kind = 27

theorem expr_ok {l : List Nd} {k : Nat} (h : Comp l k) (he : exprI (kdN l k) = true) {rest : List PTok} (hr : End rest) : P (.operands 1) (tkk l k ++ rest) [treeG l k] rest := by
  obtain ⟨h1, h2⟩ := hr.stop
  have hp := h.pos he
  have e0 : binLevelI (betw (kd rest)) = 0 := by rw [h2]; rfl
  exact h.ops hp 1 rest _ _ hp h1 (fun _ => by omega) (I_ops0 (.inl (by omega)))
theorem kd_app {t : PTok} {r s : List PTok} {x : List PTok} (h : x = t :: r) : kd (x ++ s) = t.kind := by rw [h]; rfl
theorem ex_un {l : List Nd} {j : Nat} (h6 : 6 ≤ lev l j) (hk : kdN l j ≠ 22) (hu : ∀ rest, Stop rest → P .unary (tkk l j ++ rest) [treeG l j] rest) :
    ∀ least rest a s', least ≤ lev l j → Stop rest → (kdN l j = 22 → binLevelI (betw (kd rest)) ≤ lev l j) → P (.ops least [treeG l j] (mostA l j)) rest a s' → P (.operands least) (tkk l j ++ rest) a s' := by
  intro least rest a s' _ hs _ h
  have e : mostA l j = 5 := by unfold mostA; rw [if_neg hk]
  rw [e] at h
  exact I_operands (hu rest hs) h
theorem ex_post {l : List Nd} {j : Nat} (hp : ∀ rest a s', kd rest ≠ 48 → P (.post [treeG l j]) rest a s' → P .postf (tkk l j ++ rest) a s') (hf : ∃ t r, tkk l j = t :: r ∧ t.kind ≠ 58 ∧ t.kind ≠ 64 ∧ t.kind ≠ 65) :
    ∀ rest, Stop rest → P .unary (tkk l j ++ rest) [treeG l j] rest := by
  intro rest hs
  obtain ⟨t, r, e, h1, h2, h3⟩ := hf
  have hk := kd_app (s := rest) e
  exact I_un0 (by omega) (by omega) (by omega) (hp rest _ _ hs.2.2.2 (I_post0 hs.1 hs.2.1 hs.2.2.1))

/-! ### lists -/
theorem parted_ok {l : List Nd} (o : One) : ∀ (ks : List Nat), ks ≠ [] → (∀ k ∈ ks, ∀ rest, kd rest = 46 ∨ kd rest = 41 ∨ kd rest = 43 → P (.of o) (tkk l k ++ rest) [treeG l k] rest) → ∀ rest, kd rest = 41 ∨ kd rest = 43 → P (.parted o) (tkI l ks ++ rest) (ks.map (treeG l)) rest
  | [], hne, _, _, _ => absurd rfl hne
  | [k], _, h, rest, hr => by
    rw [tkI_one]
    exact I_part1 (h k List.mem_cons_self rest (.inr hr)) (by omega)
  | k :: k' :: r, _, h, rest, hr => by
    rw [tkI_more, List.append_assoc, List.cons_append]
    have ih := parted_ok o (k' :: r) (by simp) (fun x hx => h x (List.mem_cons_of_mem _ hx)) rest hr
    have hk : kd (tokP [44] :: (tkI l (k' :: r) ++ rest)) = 46 := k46
    exact I_part2 k46 (h k List.mem_cons_self _ (.inl hk)) ih
theorem tkI_first {l : List Nd} {k : Nat} {r : List Nat} {t : PTok} {z : List PTok} (h : tkk l k = t :: z) (s : List PTok) : kd (tkI l (k :: r) ++ s) = t.kind := by
  cases r with
  | nil => rw [tkI_one]; exact kd_app h
  | cons k' r => rw [tkI_more, List.append_assoc]; exact kd_app h
theorem listed_ok {l : List Nd} (o : One) (ks : List Nat) (h : ∀ k ∈ ks, ∀ rest, kd rest = 46 ∨ kd rest = 41 ∨ kd rest = 43 → P (.of o) (tkk l k ++ rest) [treeG l k] rest) (hf : ∀ k ∈ ks, ∃ t r, tkk l k = t :: r ∧ t.kind ≠ 41) (rest : List PTok) :
    P (.listed o) (tokP [40] :: (tkI l ks ++ tokP [41] :: rest)) (ks.map (treeG l)) rest := by
  match ks, h, hf with
  | [], _, _ => exact I_list0 k40 k41
  | k :: r, h, hf =>
    obtain ⟨t, z, e, ht⟩ := hf k List.mem_cons_self
    exact I_list1 k40 k41 (by rw [tkI_first e]; exact ht) (parted_ok o (k :: r) (by simp) h _ (.inl k41))
theorem typ_of {l : List Nd} {ks : List Nat} (IH : ∀ k ∈ ks, Comp l k) (ht : ∀ k ∈ ks, typI (kdN l k) = true) : ∀ k ∈ ks, ∀ rest, kd rest = 46 ∨ kd rest = 41 ∨ kd rest = 43 → P (.of .typ) (tkk l k ++ rest) [treeG l k] rest :=
  fun k hk rest hr => (IH k hk).typ (ht k hk) rest (by omega)
theorem expr_of {l : List Nd} {ks : List Nat} (IH : ∀ k ∈ ks, Comp l k) (ht : ∀ k ∈ ks, exprI (kdN l k) = true) : ∀ k ∈ ks, ∀ rest, kd rest = 46 ∨ kd rest = 41 ∨ kd rest = 43 → P (.of .expr) (tkk l k ++ rest) [treeG l k] rest :=
  fun k hk rest hr => expr_ok (IH k hk) (ht k hk) (by unfold End; rcases hr with h | h | h <;> rw [h] <;> rfl)
theorem expr_first {l : List Nd} {ks : List Nat} (IH : ∀ k ∈ ks, Comp l k) (ht : ∀ k ∈ ks, exprI (kdN l k) = true) : ∀ k ∈ ks, ∃ t r, tkk l k = t :: r ∧ t.kind ≠ 41 := fun k hk => by
  obtain ⟨t, r, e, h1, _⟩ := ((IH k hk).fst (ht k hk)).ex
  have := startE_ne h1
  exact ⟨t, r, e, by omega⟩
theorem stmts_ok {l : List Nd} : ∀ (ks : List Nat), (∀ k ∈ ks, Comp l k) → (∀ k ∈ ks, statI (kdN l k) = true) → ∀ rest, P .stmts (tkR l ks ++ tokP [125] :: rest) (ks.map (treeG l)) rest
  | [], _, _, rest => I_stmts0 k45
  | k :: r, IH, ht, rest => by
    have ih := stmts_ok r (fun x hx => IH x (List.mem_cons_of_mem _ hx)) (fun x hx => ht x (List.mem_cons_of_mem _ hx)) rest
    obtain ⟨h1, t, z, e, hs⟩ := (IH k List.mem_cons_self).st (ht k List.mem_cons_self)
    have hn := startS_ne hs
    rw [tkR_cons, List.append_assoc]
    have hk := kd_app (s := tkR l r ++ tokP [125] :: rest) e
    refine I_stmts1 (by omega) (h1 _ ?_) ih
    cases r with
    | nil =>
      show kd (tokP [125] :: rest) ≠ 15
      have : kd (tokP [125] :: rest) = 45 := k45
      omega
    | cons k' r =>
      obtain ⟨_, t', z', e', hs'⟩ := (IH k' (by simp)).st (ht k' (by simp))
      have hn' := startS_ne hs'
      rw [tkR_cons, List.append_assoc, kd_app e']
      omega
theorem arms_ok {l : List Nd} : ∀ (ks : List Nat), (∀ k ∈ ks, Comp l k) → (∀ k ∈ ks, armI (kdN l k) = true) → ∀ rest, P .arms (tkR l ks ++ tokP [125] :: rest) (ks.map (treeG l)) rest
  | [], _, _, rest => I_arms0 k45
  | k :: r, IH, ht, rest => by
    have ih := arms_ok r (fun x hx => IH x (List.mem_cons_of_mem _ hx)) (fun x hx => ht x (List.mem_cons_of_mem _ hx)) rest
    obtain ⟨h1, t, z, e, hs⟩ := (IH k List.mem_cons_self).arm (ht k List.mem_cons_self)
    rw [tkR_cons, List.append_assoc]
    have hk := kd_app (s := tkR l r ++ tokP [125] :: rest) e
    exact I_arms1 (by omega) (h1 _) ih
theorem tops_ok {l : List Nd} (eof : PTok) (he : eof.kind = 0) : ∀ (ks : List Nat), (∀ k ∈ ks, Comp l k) → (∀ k ∈ ks, statI (kdN l k) = true) → P .tops (tkR l ks ++ [eof]) (ks.map (treeG l)) [eof]
  | [], _, _ => I_tops0 (by simp [tkR_nil])
  | k :: r, IH, ht => by
    have ih := tops_ok eof he r (fun x hx => IH x (List.mem_cons_of_mem _ hx)) (fun x hx => ht x (List.mem_cons_of_mem _ hx))
    obtain ⟨h1, t, z, e, hs⟩ := (IH k List.mem_cons_self).st (ht k List.mem_cons_self)
    rw [tkR_cons, List.append_assoc]
    refine I_tops1 (by rw [e]; simp; omega) (h1 _ ?_) ih
    cases r with
    | nil =>
      show kd [eof] ≠ 15
      have : kd [eof] = eof.kind := rfl
      omega
    | cons k' r =>
      obtain ⟨_, t', z', e', hs'⟩ := (IH k' (by simp)).st (ht k' (by simp))
      have hn' := startS_ne hs'
      rw [tkR_cons, List.append_assoc, kd_app e']
      omega
theorem types_ok {l : List Nd} {rest : List PTok} (hr : kd rest ≠ 27) : ∀ (ks : List Nat), (∀ k ∈ ks, Comp l k) → (∀ k ∈ ks, kdN l k = 45) → P .types (tkR l ks ++ rest) (ks.map (treeG l)) rest
  | [], _, _ => I_types0 hr
  | k :: r, IH, ht => by
    have ih := types_ok hr r (fun x hx => IH x (List.mem_cons_of_mem _ hx)) (fun x hx => ht x (List.mem_cons_of_mem _ hx))
    obtain ⟨h1, t, z, e, hs⟩ := (IH k List.mem_cons_self).tyn (ht k List.mem_cons_self)
    rw [tkR_cons, List.append_assoc]
    have hk := kd_app (s := tkR l r ++ rest) e
    exact I_types1 (by omega) (h1 _) ih
end Go.Proofs.YtpgobebibjeglaaDoor
namespace Go.Proofs.YtpgobebibjeglaaDoor
open Go.RowKit
set_option linter.unusedVariables false
set_option linter.unusedSimpArgs false

theorem comp_1 {l : List Nd} {j : Nat} {num : Int} {nm : List UInt8} {ks : List Nat} (F : NodeF l j 1 num nm ks) (IH : ∀ x ∈ ks, Comp l x) : Comp l j := by
  obtain rfl : num = 0 := by simpa using (show (num == 0) = true from F.numF)
  obtain rfl : nm = [] := List.isEmpty_iff.1 (show nm.isEmpty = true from F.name)
  obtain rfl := fit0 (show fitS (ks, false) = true from F.fit)
  have ht : tkk l j = [tokP [105, 110, 116]] := by
    rw [F.tok, nodeT_1]
    simp only [List.map_append, List.map_cons, List.map_nil, map_row, map_inner, tkR_cons, tkR_nil, tkI_one, tkI_more, List.append_nil, List.cons_append, List.nil_append, List.append_assoc, List.take_succ_cons, List.take_zero, List.drop_succ_cons, List.drop_zero]
  have ha : treeG l j = .mk 1 0 0 [] [] := F.tree
  refine ⟨?_, ?_, ?_, ?_, ?_, ?_, ?_, ?_, ?_, ?_, ?_, ?_, ?_, ?_⟩
  · intro _ rest hr; rw [ha, ht]; exact I_int k19
  · exact fun _ => ⟨_, _, ht, by rw [k19]; decide⟩
  · intro h; rw [F.kind] at h; exact absurd h (by decide)
  · intro h; rw [F.lv] at h; exact absurd (show (7 : Int) ≤ 0 from h) (by decide)
  · intro h; rw [F.lv] at h; exact absurd (show (6 : Int) ≤ 0 from h) (by decide)
  · intro h; rw [F.lv] at h; exact absurd (show (1 : Int) ≤ 0 from h) (by decide)
  · intro h; rw [F.kind] at h; exact absurd h (by decide)
  · intro h; rw [F.kind] at h; exact absurd h (by decide)
  · intro h; rw [F.kind] at h; exact absurd h (by decide)
  · intro h; rw [F.kind] at h; exact absurd h (by decide)
  · intro h; rw [F.kind] at h; exact absurd h (by decide)
  · intro h; rw [F.kind] at h; exact absurd h (by decide)
  · intro h; rw [F.kind] at h; exact absurd h (by decide)
  · intro h; rw [F.kind] at h; exact absurd h (by decide)

theorem comp_2 {l : List Nd} {j : Nat} {num : Int} {nm : List UInt8} {ks : List Nat} (F : NodeF l j 2 num nm ks) (IH : ∀ x ∈ ks, Comp l x) : Comp l j := by
  obtain rfl : num = 0 := by simpa using (show (num == 0) = true from F.numF)
  obtain rfl : nm = [] := List.isEmpty_iff.1 (show nm.isEmpty = true from F.name)
  obtain rfl := fit0 (show fitS (ks, false) = true from F.fit)
  have ht : tkk l j = [tokP [98, 111, 111, 108]] := by
    rw [F.tok, nodeT_2]
    simp only [List.map_append, List.map_cons, List.map_nil, map_row, map_inner, tkR_cons, tkR_nil, tkI_one, tkI_more, List.append_nil, List.cons_append, List.nil_append, List.append_assoc, List.take_succ_cons, List.take_zero, List.drop_succ_cons, List.drop_zero]
  have ha : treeG l j = .mk 2 0 0 [] [] := F.tree
  refine ⟨?_, ?_, ?_, ?_, ?_, ?_, ?_, ?_, ?_, ?_, ?_, ?_, ?_, ?_⟩
  · intro _ rest hr; rw [ha, ht]; exact I_bool k12
  · exact fun _ => ⟨_, _, ht, by rw [k12]; decide⟩
  · intro h; rw [F.kind] at h; exact absurd h (by decide)
  · intro h; rw [F.lv] at h; exact absurd (show (7 : Int) ≤ 0 from h) (by decide)
  · intro h; rw [F.lv] at h; exact absurd (show (6 : Int) ≤ 0 from h) (by decide)
  · intro h; rw [F.lv] at h; exact absurd (show (1 : Int) ≤ 0 from h) (by decide)
  · intro h; rw [F.kind] at h; exact absurd h (by decide)
  · intro h; rw [F.kind] at h; exact absurd h (by decide)
  · intro h; rw [F.kind] at h; exact absurd h (by decide)
  · intro h; rw [F.kind] at h; exact absurd h (by decide)
  · intro h; rw [F.kind] at h; exact absurd h (by decide)
  · intro h; rw [F.kind] at h; exact absurd h (by decide)
  · intro h; rw [F.kind] at h; exact absurd h (by decide)
  · intro h; rw [F.kind] at h; exact absurd h (by decide)

theorem comp_3 {l : List Nd} {j : Nat} {num : Int} {nm : List UInt8} {ks : List Nat} (F : NodeF l j 3 num nm ks) (IH : ∀ x ∈ ks, Comp l x) : Comp l j := by
  obtain rfl : num = 0 := by simpa using (show (num == 0) = true from F.numF)
  have hnm : nameOk nm = true := F.name
  have kn := kname hnm
  obtain rfl := fit0 (show fitS (ks, false) = true from F.fit)
  have ht : tkk l j = [tokP nm] := by
    rw [F.tok, nodeT_3]
    simp only [List.map_append, List.map_cons, List.map_nil, map_row, map_inner, tkR_cons, tkR_nil, tkI_one, tkI_more, List.append_nil, List.cons_append, List.nil_append, List.append_assoc, List.take_succ_cons, List.take_zero, List.drop_succ_cons, List.drop_zero]
  have ha : treeG l j = .mk 3 0 0 nm [] := F.tree
  refine ⟨?_, ?_, ?_, ?_, ?_, ?_, ?_, ?_, ?_, ?_, ?_, ?_, ?_, ?_⟩
  · intro _ rest hr; rw [ha, ht]; exact I_tname kn
  · exact fun _ => ⟨_, _, ht, by rw [kn]; decide⟩
  · intro h; rw [F.kind] at h; exact absurd h (by decide)
  · intro h; rw [F.lv] at h; exact absurd (show (7 : Int) ≤ 0 from h) (by decide)
  · intro h; rw [F.lv] at h; exact absurd (show (6 : Int) ≤ 0 from h) (by decide)
  · intro h; rw [F.lv] at h; exact absurd (show (1 : Int) ≤ 0 from h) (by decide)
  · intro h; rw [F.kind] at h; exact absurd h (by decide)
  · intro h; rw [F.kind] at h; exact absurd h (by decide)
  · intro h; rw [F.kind] at h; exact absurd h (by decide)
  · intro h; rw [F.kind] at h; exact absurd h (by decide)
  · intro h; rw [F.kind] at h; exact absurd h (by decide)
  · intro h; rw [F.kind] at h; exact absurd h (by decide)
  · intro h; rw [F.kind] at h; exact absurd h (by decide)
  · intro h; rw [F.kind] at h; exact absurd h (by decide)

theorem comp_4 {l : List Nd} {j : Nat} {num : Int} {nm : List UInt8} {ks : List Nat} (F : NodeF l j 4 num nm ks) (IH : ∀ x ∈ ks, Comp l x) : Comp l j := by
  obtain rfl : num = 0 := by simpa using (show (num == 0) = true from F.numF)
  obtain rfl : nm = [] := List.isEmpty_iff.1 (show nm.isEmpty = true from F.name)
  have hfit := F.fit
  unfold kidsFitI at hfit
  rw [kidsRun_4] at hfit
  obtain ⟨k0, h0, rfl⟩ := fit1 hfit
  have ht : tkk l j = tokP [97, 114, 114, 97, 121] :: tokP [111, 102] :: tkk l k0 := by
    rw [F.tok, nodeT_4]
    simp only [List.map_append, List.map_cons, List.map_nil, map_row, map_inner, tkR_cons, tkR_nil, tkI_one, tkI_more, List.append_nil, List.cons_append, List.nil_append, List.append_assoc, List.take_succ_cons, List.take_zero, List.drop_succ_cons, List.drop_zero]
  have ha : treeG l j = .mk 4 0 0 [] [treeG l k0] := F.tree
  refine ⟨?_, ?_, ?_, ?_, ?_, ?_, ?_, ?_, ?_, ?_, ?_, ?_, ?_, ?_⟩
  · intro _ rest hr; rw [ha, ht]; exact I_array k10 k22 ((IH k0 (by simp)).typ h0 rest hr)
  · exact fun _ => ⟨_, _, ht, by rw [k10]; decide⟩
  · intro h; rw [F.kind] at h; exact absurd h (by decide)
  · intro h; rw [F.lv] at h; exact absurd (show (7 : Int) ≤ 0 from h) (by decide)
  · intro h; rw [F.lv] at h; exact absurd (show (6 : Int) ≤ 0 from h) (by decide)
  · intro h; rw [F.lv] at h; exact absurd (show (1 : Int) ≤ 0 from h) (by decide)
  · intro h; rw [F.kind] at h; exact absurd h (by decide)
  · intro h; rw [F.kind] at h; exact absurd h (by decide)
  · intro h; rw [F.kind] at h; exact absurd h (by decide)
  · intro h; rw [F.kind] at h; exact absurd h (by decide)
  · intro h; rw [F.kind] at h; exact absurd h (by decide)
  · intro h; rw [F.kind] at h; exact absurd h (by decide)
  · intro h; rw [F.kind] at h; exact absurd h (by decide)
  · intro h; rw [F.kind] at h; exact absurd h (by decide)

theorem comp_6 {l : List Nd} {j : Nat} {num : Int} {nm : List UInt8} {ks : List Nat} (F : NodeF l j 6 num nm ks) (IH : ∀ x ∈ ks, Comp l x) : Comp l j := by
  obtain rfl : num = 0 := by simpa using (show (num == 0) = true from F.numF)
  obtain rfl : nm = [] := List.isEmpty_iff.1 (show nm.isEmpty = true from F.name)
  have hfit := F.fit
  unfold kidsFitI at hfit
  rw [kidsRun_6] at hfit
  obtain ⟨k0, h0, rfl⟩ := fit1 hfit
  have ht : tkk l j = tokP [99, 104, 97, 110] :: tokP [111, 102] :: tkk l k0 := by
    rw [F.tok, nodeT_6]
    simp only [List.map_append, List.map_cons, List.map_nil, map_row, map_inner, tkR_cons, tkR_nil, tkI_one, tkI_more, List.append_nil, List.cons_append, List.nil_append, List.append_assoc, List.take_succ_cons, List.take_zero, List.drop_succ_cons, List.drop_zero]
  have ha : treeG l j = .mk 6 0 0 [] [treeG l k0] := F.tree
  have hc : ∀ rest, kd rest ≠ 48 → P .chanT (tkk l j ++ rest) [treeG l j] rest := fun rest hr => by rw [ha, ht]; exact I_chanT k14 k22 ((IH k0 (by simp)).typ h0 rest hr)
  refine ⟨?_, ?_, ?_, ?_, ?_, ?_, ?_, ?_, ?_, ?_, ?_, ?_, ?_, ?_⟩
  · intro _ rest hr; have := hc rest hr; rw [ht] at this ⊢; exact I_chan k14 this
  · exact fun _ => ⟨_, _, ht, by rw [k14]; decide⟩
  · exact fun _ => hc
  · intro h; rw [F.lv] at h; exact absurd (show (7 : Int) ≤ 0 from h) (by decide)
  · intro h; rw [F.lv] at h; exact absurd (show (6 : Int) ≤ 0 from h) (by decide)
  · intro h; rw [F.lv] at h; exact absurd (show (1 : Int) ≤ 0 from h) (by decide)
  · intro h; rw [F.kind] at h; exact absurd h (by decide)
  · intro h; rw [F.kind] at h; exact absurd h (by decide)
  · intro h; rw [F.kind] at h; exact absurd h (by decide)
  · intro h; rw [F.kind] at h; exact absurd h (by decide)
  · intro h; rw [F.kind] at h; exact absurd h (by decide)
  · intro h; rw [F.kind] at h; exact absurd h (by decide)
  · intro h; rw [F.kind] at h; exact absurd h (by decide)
  · intro h; rw [F.kind] at h; exact absurd h (by decide)

theorem comp_5 {l : List Nd} {j : Nat} {num : Int} {nm : List UInt8} {ks : List Nat} (F : NodeF l j 5 num nm ks) (IH : ∀ x ∈ ks, Comp l x) : Comp l j := by
  obtain rfl : num = 0 := by simpa using (show (num == 0) = true from F.numF)
  obtain rfl : nm = [] := List.isEmpty_iff.1 (show nm.isEmpty = true from F.name)
  have hfit := F.fit
  unfold kidsFitI at hfit
  rw [kidsRun_5] at hfit
  obtain ⟨k0, k1, r, h0, h1, h2, rfl⟩ := fit2M hfit
  have ht : tkk l j = tokP [40] :: (tkk l k0 ++ tokP [44] :: (tkI l (k1 :: r) ++ [tokP [41]])) := by
    rw [F.tok, nodeT_5]
    simp only [List.map_append, List.map_cons, List.map_nil, map_row, map_inner, tkR_cons, tkR_nil, tkI_one, tkI_more, List.append_nil, List.cons_append, List.nil_append, List.append_assoc, List.take_succ_cons, List.take_zero, List.drop_succ_cons, List.drop_zero]
  have ha : treeG l j = .mk 5 0 0 [] ([treeG l k0] ++ (k1 :: r).map (treeG l)) := F.tree
  refine ⟨?_, ?_, ?_, ?_, ?_, ?_, ?_, ?_, ?_, ?_, ?_, ?_, ?_, ?_⟩
  · intro _ rest hr; rw [ha]; simp only [ht, List.append_assoc, List.cons_append, List.nil_append]
    refine I_tuple k40 k46 k41 ((IH k0 (by simp)).typ h0 _ (by show (tokP [44]).kind ≠ 48; rw [k46]; decide)) (parted_ok .typ (k1 :: r) (by simp) (typ_of (fun x hx => IH x (List.mem_cons_of_mem _ hx)) (fun x hx => ?_)) _ (.inl k41))
    rcases List.mem_cons.1 hx with rfl | hx
    · exact h1
    · exact h2 x hx
  · exact fun _ => ⟨_, _, ht, by rw [k40]; decide⟩
  · intro h; rw [F.kind] at h; exact absurd h (by decide)
  · intro h; rw [F.lv] at h; exact absurd (show (7 : Int) ≤ 0 from h) (by decide)
  · intro h; rw [F.lv] at h; exact absurd (show (6 : Int) ≤ 0 from h) (by decide)
  · intro h; rw [F.lv] at h; exact absurd (show (1 : Int) ≤ 0 from h) (by decide)
  · intro h; rw [F.kind] at h; exact absurd h (by decide)
  · intro h; rw [F.kind] at h; exact absurd h (by decide)
  · intro h; rw [F.kind] at h; exact absurd h (by decide)
  · intro h; rw [F.kind] at h; exact absurd h (by decide)
  · intro h; rw [F.kind] at h; exact absurd h (by decide)
  · intro h; rw [F.kind] at h; exact absurd h (by decide)
  · intro h; rw [F.kind] at h; exact absurd h (by decide)
  · intro h; rw [F.kind] at h; exact absurd h (by decide)

theorem comp_7 {l : List Nd} {j : Nat} {num : Int} {nm : List UInt8} {ks : List Nat} (F : NodeF l j 7 num nm ks) (IH : ∀ x ∈ ks, Comp l x) : Comp l j := by
  obtain rfl : nm = [] := List.isEmpty_iff.1 (show nm.isEmpty = true from F.name)
  have hfit := F.fit
  unfold kidsFitI at hfit
  rw [kidsRun_7] at hfit
  have hty := fitM hfit
  have hnum : (num == 0 || (num == 1 && decide (0 < ks.length))) = true := F.numF
  simp only [Bool.or_eq_true, Bool.and_eq_true, beq_iff_eq, decide_eq_true_eq] at hnum
  have key : (∀ rest, kd rest ≠ 48 → P .typ (tkk l j ++ rest) [treeG l j] rest) ∧ ∃ t r, tkk l j = t :: r ∧ t.kind ≠ 41 := by
    rcases hnum with rfl | ⟨rfl, h0⟩
    · have ht : tkk l j = tokP [112, 114, 111, 103] :: tokP [40] :: (tkI l ks ++ [tokP [41]]) := by
        rw [F.tok, nodeT_7]
        simp [resT, map_inner]
      have ha : treeG l j = .mk 7 0 0 [] (ks.map (treeG l) ++ []) := by rw [F.tree, List.append_nil]
      refine ⟨fun rest hr => ?_, _, _, ht, by rw [k23]; decide⟩
      rw [ha]
      simp only [ht, List.append_assoc, List.cons_append, List.nil_append]
      exact I_tprog k23 (listed_ok .typ ks (typ_of IH hty) (fun k hk => (IH k hk).fT (hty k hk)) rest) (I_res0 hr)
    · obtain ⟨pp, kr, rfl⟩ : ∃ pp kr, ks = pp ++ [kr] := ⟨ks.dropLast, ks.getLast (by intro e; rw [e] at h0; simp at h0), (List.dropLast_concat_getLast _).symm⟩
      have ht : tkk l j = tokP [112, 114, 111, 103] :: tokP [40] :: (tkI l pp ++ tokP [41] :: tokP [58] :: tkk l kr) := by
        rw [F.tok, nodeT_7]
        simp [resT, map_inner, map_row, tkR_cons, tkR_nil]
      have ha : treeG l j = .mk 7 0 1 [] (pp.map (treeG l) ++ [treeG l kr]) := by rw [F.tree]; simp
      refine ⟨fun rest hr => ?_, _, _, ht, by rw [k23]; decide⟩
      rw [ha]
      simp only [ht, List.append_assoc, List.cons_append, List.nil_append]
      exact I_tprog k23 (listed_ok .typ pp (typ_of (fun x hx => IH x (by simp [hx])) (fun x hx => hty x (by simp [hx]))) (fun k hk => (IH k (by simp [hk])).fT (hty k (by simp [hk]))) _) (I_res1 k48 ((IH kr (by simp)).typ (hty kr (by simp)) rest hr))
  refine ⟨fun _ => key.1, fun _ => key.2, ?_, ?_, ?_, ?_, ?_, ?_, ?_, ?_, ?_, ?_, ?_, ?_⟩
  · intro h; rw [F.kind] at h; exact absurd h (by decide)
  · intro h; rw [F.lv] at h; exact absurd (show (7 : Int) ≤ 0 from h) (by decide)
  · intro h; rw [F.lv] at h; exact absurd (show (6 : Int) ≤ 0 from h) (by decide)
  · intro h; rw [F.lv] at h; exact absurd (show (1 : Int) ≤ 0 from h) (by decide)
  · intro h; rw [F.kind] at h; exact absurd h (by decide)
  · intro h; rw [F.kind] at h; exact absurd h (by decide)
  · intro h; rw [F.kind] at h; exact absurd h (by decide)
  · intro h; rw [F.kind] at h; exact absurd h (by decide)
  · intro h; rw [F.kind] at h; exact absurd h (by decide)
  · intro h; rw [F.kind] at h; exact absurd h (by decide)
  · intro h; rw [F.kind] at h; exact absurd h (by decide)
  · intro h; rw [F.kind] at h; exact absurd h (by decide)

theorem comp_prim {l : List Nd} {j : Nat} {kd0 num : Int} {nm : List UInt8} {ks : List Nat} (F : NodeF l j kd0 num nm ks) (he : exprI kd0 = true) (h8 : levelI kd0 num = 8) (h22 : kd0 ≠ 22) (hnr : ¬ (22 ≤ kd0 ∧ kd0 ≤ 25)) (hp : ∀ rest, kd rest ≠ 48 → P .primary (tkk l j ++ rest) [treeG l j] rest)
    (hf : ∃ t r, tkk l j = t :: r ∧ startE t.kind = true ∧ t.kind ≠ 58 ∧ t.kind ≠ 64 ∧ t.kind ≠ 65 ∧ (t.kind = 1 → r = [])) : Comp l j := by
  have hr : 11 ≤ kd0 ∧ kd0 ≤ 25 := by unfold exprI at he; simpa using he
  have hlv : lev l j = 8 := F.lv.trans h8
  have hkd := F.kind
  obtain ⟨t, r, e, h1, h2, h3, h4, h5⟩ := hf
  have hpost : ∀ rest a s', kd rest ≠ 48 → P (.post [treeG l j]) rest a s' → P .postf (tkk l j ++ rest) a s' := fun rest a s' hr h => I_postfix (hp rest hr) h
  have hun := ex_post hpost ⟨t, r, e, h2, h3, h4⟩
  refine ⟨?_, ?_, ?_, fun _ => hpost, fun _ => hun, fun _ => ex_un (by omega) (by omega) hun, fun _ => by omega, fun _ => ⟨t, r, e, h1, fun _ => ⟨h2, h3, h4⟩, fun h => absurd h h4, fun h => .inl (h5 h)⟩, ?_, ?_, ?_, ?_, ?_, ?_⟩
  · intro h; unfold typI at h; simp at h; omega
  · intro h; unfold typI at h; simp at h; omega
  · intro h; omega
  · intro h; omega
  · intro h; omega
  · intro h; omega
  · intro h; unfold statI at h; simp at h; omega
  · intro h; unfold armI at h; simp at h; omega
  · intro h; omega

theorem comp_11 {l : List Nd} {j : Nat} {num : Int} {nm : List UInt8} {ks : List Nat} (F : NodeF l j 11 num nm ks) (IH : ∀ x ∈ ks, Comp l x) : Comp l j := by
  obtain rfl : nm = [] := List.isEmpty_iff.1 (show nm.isEmpty = true from F.name)
  obtain rfl := fit0 (show fitS (ks, false) = true from F.fit)
  have h0 : 0 ≤ num := of_decide_eq_true (show decide (0 ≤ num) = true from F.numF)
  have hk := knum h0 F.i64
  have ht : tkk l j = [tokP (Lib.itoa num)] := by
    rw [F.tok, nodeT_11]
    simp only [List.map_append, List.map_cons, List.map_nil, map_row, map_inner, tkR_cons, tkR_nil, tkI_one, tkI_more, List.append_nil, List.cons_append, List.nil_append, List.append_assoc, List.take_succ_cons, List.take_zero, List.drop_succ_cons, List.drop_zero]
  have ha : treeG l j = .mk 11 0 ((tokP (Lib.itoa num)).num : Nat) [] [] := by rw [F.tree, hk.2]; rfl
  have kq := hk.1
  refine comp_prim F rfl rfl (by decide) (by decide) (fun rest hr => ?_) ⟨_, _, ht, by rw [kq]; rfl, by omega, by omega, by omega, by intro h; omega⟩
  rw [ha]
  simp only [ht, List.append_assoc, List.cons_append, List.nil_append]
  exact I_numE hk.1

theorem comp_12 {l : List Nd} {j : Nat} {num : Int} {nm : List UInt8} {ks : List Nat} (F : NodeF l j 12 num nm ks) (IH : ∀ x ∈ ks, Comp l x) : Comp l j := by
  obtain rfl : nm = [] := List.isEmpty_iff.1 (show nm.isEmpty = true from F.name)
  obtain rfl := fit0 (show fitS (ks, false) = true from F.fit)
  have hnum : (num == 0 || num == 1) = true := F.numF
  simp only [Bool.or_eq_true, beq_iff_eq] at hnum
  rcases hnum with rfl | rfl
  · have ht : tkk l j = [tokP [102, 97, 108, 115, 101]] := by rw [F.tok, nodeT_12]; rfl
    have ha : treeG l j = .mk 12 0 0 [] [] := F.tree
    have kq := k16
    refine comp_prim F rfl rfl (by decide) (by decide) (fun rest hr => ?_) ⟨_, _, ht, by rw [kq]; rfl, by omega, by omega, by omega, by intro h; omega⟩
    rw [ha, ht]
    exact I_false k16
  · have ht : tkk l j = [tokP [116, 114, 117, 101]] := by rw [F.tok, nodeT_12]; rfl
    have ha : treeG l j = .mk 12 0 1 [] [] := F.tree
    have kq := k26
    refine comp_prim F rfl rfl (by decide) (by decide) (fun rest hr => ?_) ⟨_, _, ht, by rw [kq]; rfl, by omega, by omega, by omega, by intro h; omega⟩
    rw [ha, ht]
    exact I_true k26

theorem comp_13 {l : List Nd} {j : Nat} {num : Int} {nm : List UInt8} {ks : List Nat} (F : NodeF l j 13 num nm ks) (IH : ∀ x ∈ ks, Comp l x) : Comp l j := by
  obtain rfl : num = 0 := by simpa using (show (num == 0) = true from F.numF)
  have hnm : nameOk nm = true := F.name
  have kn := kname hnm
  obtain rfl := fit0 (show fitS (ks, false) = true from F.fit)
  have ht : tkk l j = [tokP nm] := by
    rw [F.tok, nodeT_13]
    simp only [List.map_append, List.map_cons, List.map_nil, map_row, map_inner, tkR_cons, tkR_nil, tkI_one, tkI_more, List.append_nil, List.cons_append, List.nil_append, List.append_assoc, List.take_succ_cons, List.take_zero, List.drop_succ_cons, List.drop_zero]
  have ha : treeG l j = .mk 13 0 0 nm [] := F.tree
  have kq := kn
  refine comp_prim F rfl rfl (by decide) (by decide) (fun rest hr => ?_) ⟨_, _, ht, by rw [kq]; rfl, by omega, by omega, by omega, fun _ => rfl⟩
  rw [ha]
  simp only [ht, List.append_assoc, List.cons_append, List.nil_append]
  exact I_nameE kn

theorem comp_14 {l : List Nd} {j : Nat} {num : Int} {nm : List UInt8} {ks : List Nat} (F : NodeF l j 14 num nm ks) (IH : ∀ x ∈ ks, Comp l x) : Comp l j := by
  obtain rfl : num = 0 := by simpa using (show (num == 0) = true from F.numF)
  obtain rfl : nm = [] := List.isEmpty_iff.1 (show nm.isEmpty = true from F.name)
  have hfit := F.fit
  unfold kidsFitI at hfit
  rw [kidsRun_14] at hfit
  obtain ⟨k0, h0, rfl⟩ := fit1 hfit
  have ht : tkk l j = tokP [40] :: (tkk l k0 ++ [tokP [41]]) := by
    rw [F.tok, nodeT_14]
    simp only [List.map_append, List.map_cons, List.map_nil, map_row, map_inner, tkR_cons, tkR_nil, tkI_one, tkI_more, List.append_nil, List.cons_append, List.nil_append, List.append_assoc, List.take_succ_cons, List.take_zero, List.drop_succ_cons, List.drop_zero]
  have ha : treeG l j = .mk 14 0 0 [] [treeG l k0] := F.tree
  have kq := k40
  refine comp_prim F rfl rfl (by decide) (by decide) (fun rest hr => ?_) ⟨_, _, ht, by rw [kq]; rfl, by omega, by omega, by omega, by intro h; omega⟩
  rw [ha]
  simp only [ht, List.append_assoc, List.cons_append, List.nil_append]
  exact I_paren k40 k41 (I_part1 (expr_ok (IH k0 (by simp)) h0 (end_of k41 rfl)) (by show (tokP [41]).kind ≠ 46; rw [k41]; decide))

theorem comp_15 {l : List Nd} {j : Nat} {num : Int} {nm : List UInt8} {ks : List Nat} (F : NodeF l j 15 num nm ks) (IH : ∀ x ∈ ks, Comp l x) : Comp l j := by
  obtain rfl : num = 0 := by simpa using (show (num == 0) = true from F.numF)
  obtain rfl : nm = [] := List.isEmpty_iff.1 (show nm.isEmpty = true from F.name)
  have hfit := F.fit
  unfold kidsFitI at hfit
  rw [kidsRun_15] at hfit
  obtain ⟨k0, k1, r, h0, h1, h2, rfl⟩ := fit2M hfit
  have ht : tkk l j = tokP [40] :: (tkI l (k0 :: k1 :: r) ++ [tokP [41]]) := by
    rw [F.tok, nodeT_15]
    simp only [List.map_append, map_inner, List.append_assoc]
    rfl
  have ha : treeG l j = .mk (if ((k0 :: k1 :: r).map (treeG l)).length = 1 then 14 else 15) 0 0 [] ((k0 :: k1 :: r).map (treeG l)) := by
    rw [if_neg (by simp)]
    exact F.tree
  have kq := k40
  refine comp_prim F rfl rfl (by decide) (by decide) (fun rest hr => ?_) ⟨_, _, ht, by rw [kq]; rfl, by omega, by omega, by omega, by intro h; omega⟩
  rw [ha]
  simp only [ht, List.append_assoc, List.cons_append, List.nil_append]
  exact I_paren k40 k41 (parted_ok .expr (k0 :: k1 :: r) (by simp) (expr_of IH (fun x hx => by rcases List.mem_cons.1 hx with rfl | hx; exact h0; rcases List.mem_cons.1 hx with rfl | hx; exact h1; exact h2 x hx)) _ (.inl k41))

theorem comp_16 {l : List Nd} {j : Nat} {num : Int} {nm : List UInt8} {ks : List Nat} (F : NodeF l j 16 num nm ks) (IH : ∀ x ∈ ks, Comp l x) : Comp l j := by
  obtain rfl : num = 0 := by simpa using (show (num == 0) = true from F.numF)
  obtain rfl : nm = [] := List.isEmpty_iff.1 (show nm.isEmpty = true from F.name)
  have hfit := F.fit
  unfold kidsFitI at hfit
  rw [kidsRun_16] at hfit
  obtain ⟨k0, r, h0, h2, rfl⟩ := fit1M hfit
  have ht : tkk l j = tokP [91] :: (tkI l (k0 :: r) ++ [tokP [93]]) := by
    rw [F.tok, nodeT_16]
    simp [map_inner]
  have ha : treeG l j = .mk 16 0 0 [] ((k0 :: r).map (treeG l)) := F.tree
  have kq := k42
  refine comp_prim F rfl rfl (by decide) (by decide) (fun rest hr => ?_) ⟨_, _, ht, by rw [kq]; rfl, by omega, by omega, by omega, by intro h; omega⟩
  rw [ha]
  simp only [ht, List.append_assoc, List.cons_append, List.nil_append]
  exact I_arr k42 k43 (parted_ok .expr (k0 :: r) (by simp) (expr_of IH (fun x hx => by rcases List.mem_cons.1 hx with rfl | hx; exact h0; exact h2 x hx)) _ (.inr k43))

theorem comp_17 {l : List Nd} {j : Nat} {num : Int} {nm : List UInt8} {ks : List Nat} (F : NodeF l j 17 num nm ks) (IH : ∀ x ∈ ks, Comp l x) : Comp l j := by
  obtain rfl : num = 0 := by simpa using (show (num == 0) = true from F.numF)
  obtain rfl : nm = [] := List.isEmpty_iff.1 (show nm.isEmpty = true from F.name)
  have hfit := F.fit
  unfold kidsFitI at hfit
  rw [kidsRun_17] at hfit
  obtain ⟨k0, k1, h0, h1, rfl⟩ := fit2 hfit
  have ht : tkk l j = tokP [102, 105, 108, 108] :: tokP [40] :: (tkk l k0 ++ tokP [44] :: (tkk l k1 ++ [tokP [41]])) := by
    rw [F.tok, nodeT_17]
    simp only [List.map_append, List.map_cons, List.map_nil, map_row, map_inner, tkR_cons, tkR_nil, tkI_one, tkI_more, List.append_nil, List.cons_append, List.nil_append, List.append_assoc, List.take_succ_cons, List.take_zero, List.drop_succ_cons, List.drop_zero]
  have ha : treeG l j = .mk 17 0 0 [] ([treeG l k0] ++ [treeG l k1]) := F.tree
  have kq := k17
  refine comp_prim F rfl rfl (by decide) (by decide) (fun rest hr => ?_) ⟨_, _, ht, by rw [kq]; rfl, by omega, by omega, by omega, by intro h; omega⟩
  rw [ha]
  simp only [ht, List.append_assoc, List.cons_append, List.nil_append]
  exact I_fill k17 k40 k46 k41 (expr_ok (IH k0 (by simp)) h0 (end_of k46 rfl)) (expr_ok (IH k1 (by simp)) h1 (end_of k41 rfl))

theorem comp_18 {l : List Nd} {j : Nat} {num : Int} {nm : List UInt8} {ks : List Nat} (F : NodeF l j 18 num nm ks) (IH : ∀ x ∈ ks, Comp l x) : Comp l j := by
  obtain rfl : num = 0 := by simpa using (show (num == 0) = true from F.numF)
  obtain rfl : nm = [] := List.isEmpty_iff.1 (show nm.isEmpty = true from F.name)
  have hfit := F.fit
  unfold kidsFitI at hfit
  rw [kidsRun_18] at hfit
  obtain ⟨k0, h0, rfl⟩ := fit1 hfit
  have ht : tkk l j = tokP [108, 101, 110] :: tokP [40] :: (tkk l k0 ++ [tokP [41]]) := by
    rw [F.tok, nodeT_18]
    simp only [List.map_append, List.map_cons, List.map_nil, map_row, map_inner, tkR_cons, tkR_nil, tkI_one, tkI_more, List.append_nil, List.cons_append, List.nil_append, List.append_assoc, List.take_succ_cons, List.take_zero, List.drop_succ_cons, List.drop_zero]
  have ha : treeG l j = .mk 18 0 0 [] [treeG l k0] := F.tree
  have kq := k20
  refine comp_prim F rfl rfl (by decide) (by decide) (fun rest hr => ?_) ⟨_, _, ht, by rw [kq]; rfl, by omega, by omega, by omega, by intro h; omega⟩
  rw [ha]
  simp only [ht, List.append_assoc, List.cons_append, List.nil_append]
  exact I_len k20 k40 k41 (expr_ok (IH k0 (by simp)) h0 (end_of k41 rfl))

theorem comp_19 {l : List Nd} {j : Nat} {num : Int} {nm : List UInt8} {ks : List Nat} (F : NodeF l j 19 num nm ks) (IH : ∀ x ∈ ks, Comp l x) : Comp l j := by
  obtain rfl : num = 0 := by simpa using (show (num == 0) = true from F.numF)
  obtain rfl : nm = [] := List.isEmpty_iff.1 (show nm.isEmpty = true from F.name)
  have hfit := F.fit
  unfold kidsFitI at hfit
  rw [kidsRun_19] at hfit
  obtain ⟨k0, h0, rfl⟩ := fit1 hfit
  have h6 : kdN l k0 = 6 := by simpa [justI] using h0
  have ht : tkk l j = tokP [109, 97, 107, 101] :: tkk l k0 := by
    rw [F.tok, nodeT_19]
    simp only [List.map_append, List.map_cons, List.map_nil, map_row, map_inner, tkR_cons, tkR_nil, tkI_one, tkI_more, List.append_nil, List.cons_append, List.nil_append, List.append_assoc, List.take_succ_cons, List.take_zero, List.drop_succ_cons, List.drop_zero]
  have ha : treeG l j = .mk 19 0 0 [] [treeG l k0] := F.tree
  have kq := k21
  refine comp_prim F rfl rfl (by decide) (by decide) (fun rest hr => ?_) ⟨_, _, ht, by rw [kq]; rfl, by omega, by omega, by omega, by intro h; omega⟩
  rw [ha]
  simp only [ht, List.append_assoc, List.cons_append, List.nil_append]
  exact I_make k21 ((IH k0 (by simp)).chan h6 rest hr)

theorem par_of {l : List Nd} {ks : List Nat} (IH : ∀ k ∈ ks, Comp l k) (ht : ∀ k ∈ ks, kdN l k = 42) : ∀ k ∈ ks, ∀ rest, kd rest = 46 ∨ kd rest = 41 ∨ kd rest = 43 → P (.of .param) (tkk l k ++ rest) [treeG l k] rest :=
  fun k hk rest hr => ((IH k hk).par (ht k hk)).1 rest (by omega)
theorem par_first {l : List Nd} {ks : List Nat} (IH : ∀ k ∈ ks, Comp l k) (ht : ∀ k ∈ ks, kdN l k = 42) : ∀ k ∈ ks, ∃ t r, tkk l k = t :: r ∧ t.kind ≠ 41 := fun k hk => by
  obtain ⟨_, t, r, e, h1⟩ := (IH k hk).par (ht k hk)
  exact ⟨t, r, e, by omega⟩
theorem nameOk_nil {nm : List UInt8} (h : nameOk nm = true) : nm ≠ [] := by
  intro e
  subst e
  have := (nameOk_next h).2.2.2.1
  simp at this
/-- a prog, by its parameters, its result, its block -/
theorem prog_ok {l : List Nd} {pp rr : List Nat} {kz : Nat} {nm : List UInt8} (hn : nm = [] ∨ nameOk nm = true) (hp : ∀ k ∈ pp, Comp l k) (hpk : ∀ k ∈ pp, kdN l k = 42) (hz : Comp l kz) (hzk : kdN l kz = 41) (hr : rr = [] ∨ ∃ kr, rr = [kr] ∧ Comp l kr ∧ typI (kdN l kr) = true) (rest : List PTok) :
    P .prog (tokP [112, 114, 111, 103] :: ((if nm = [] then [] else [tokP nm]) ++ tokP [40] :: (tkI l pp ++ tokP [41] :: ((resT (textG l) rr).map tokP ++ (tkk l kz ++ rest))))) [.mk 20 0 rr.length nm (pp.map (treeG l) ++ (rr.map (treeG l) ++ [treeG l kz]))] rest := by
  obtain ⟨hb, t, r, e, ht⟩ := hz.blk hzk
  have hbk := kd_app (s := rest) e
  have hl := listed_ok .param pp (par_of hp hpk) (par_first hp hpk) ((resT (textG l) rr).map tokP ++ (tkk l kz ++ rest))
  have hres : P .result ((resT (textG l) rr).map tokP ++ (tkk l kz ++ rest)) (rr.map (treeG l)) (tkk l kz ++ rest) := by
    rcases hr with rfl | ⟨kr, rfl, hc, hk⟩
    · exact I_res0 (by show kd (tkk l kz ++ rest) ≠ 48; omega)
    · have : (resT (textG l) [kr]).map tokP = tokP [58] :: tkk l kr := by simp [resT, map_row, tkR_cons, tkR_nil]
      rw [this]
      exact I_res1 k48 (hc.typ hk _ (by omega))
  have hlen : (rr.map (treeG l)).length = rr.length := by simp
  rcases hn with rfl | hn
  · have := I_prog0 k23 (by show (tokP [40]).kind ≠ 1; rw [k40]; decide) hl hres (hb rest)
    rw [hlen] at this
    exact this
  · rw [if_neg (nameOk_nil hn)]
    have := I_prog1 k23 (kname hn) hl hres (hb rest)
    rw [hlen] at this
    exact this
theorem comp_20 {l : List Nd} {j : Nat} {num : Int} {nm : List UInt8} {ks : List Nat} (F : NodeF l j 20 num nm ks) (IH : ∀ x ∈ ks, Comp l x) : Comp l j := by
  have hn : nm = [] ∨ nameOk nm = true := by
    have := F.name
    have : (nm.isEmpty || nameOk nm) = true := this
    rw [Bool.or_eq_true, List.isEmpty_iff] at this
    exact this
  have hnum : (num == 0 || num == 1) = true := F.numF
  simp only [Bool.or_eq_true, beq_iff_eq] at hnum
  have hfit := F.fit
  unfold kidsFitI at hfit
  have hm : (if nm = [] then ([] : List (List UInt8)) else [nm]).map tokP = if nm = [] then [] else [tokP nm] := by split <;> rfl
  rcases hnum with rfl | rfl
  · rw [kidsRun_20n _ _ _ (by decide)] at hfit
    obtain ⟨pp, kz, h0, h1, rfl⟩ := fitM1 hfit
    have ht : tkk l j = tokP [112, 114, 111, 103] :: ((if nm = [] then [] else [tokP nm]) ++ tokP [40] :: (tkI l pp ++ tokP [41] :: ((resT (textG l) []).map tokP ++ tkk l kz))) := by
      rw [F.tok, nodeT_20]
      simp only [List.map_append, hm]
      simp [map_inner, map_row, tkR_cons, tkR_nil]
    have ha : treeG l j = .mk 20 0 (([] : List Nat).length : Nat) nm (pp.map (treeG l) ++ (([] : List Nat).map (treeG l) ++ [treeG l kz])) := by rw [F.tree]; simp
    have kq := k23
    refine comp_prim F rfl rfl (by decide) (by decide) (fun rest hr => ?_) ⟨_, _, ht, by rw [kq]; rfl, by omega, by omega, by omega, by intro h; omega⟩
    rw [ha]
    simp only [ht, List.append_assoc, List.cons_append, List.nil_append]
    exact I_progE k23 (prog_ok hn (fun x hx => IH x (by simp [hx])) (fun x hx => by simpa [justI] using h0 x hx) (IH kz (by simp)) (by simpa [justI] using h1) (.inl rfl) rest)
  · rw [kidsRun_20y _ _ _ rfl] at hfit
    obtain ⟨pp, kr, kz, h0, h2, h1, rfl⟩ := fitM2 hfit
    have ed : (pp ++ [kr, kz]).drop (pp.length + 1) = [kz] := by rw [List.drop_append]; simp
    have et : (pp ++ [kr, kz]).take (pp.length + 1) = pp ++ [kr] := by rw [List.take_append, List.take_of_length_le (by omega)]; simp
    have ht : tkk l j = tokP [112, 114, 111, 103] :: ((if nm = [] then [] else [tokP nm]) ++ tokP [40] :: (tkI l pp ++ tokP [41] :: ((resT (textG l) [kr]).map tokP ++ tkk l kz))) := by
      rw [F.tok, nodeT_20]
      simp only [List.map_append, hm]
      simp [map_inner, map_row, tkR_cons, tkR_nil, ed, et]
    have ha : treeG l j = .mk 20 0 (([kr] : List Nat).length : Nat) nm (pp.map (treeG l) ++ (([kr] : List Nat).map (treeG l) ++ [treeG l kz])) := by rw [F.tree]; simp
    have kq := k23
    refine comp_prim F rfl rfl (by decide) (by decide) (fun rest hr => ?_) ⟨_, _, ht, by rw [kq]; rfl, by omega, by omega, by omega, by intro h; omega⟩
    rw [ha]
    simp only [ht, List.append_assoc, List.cons_append, List.nil_append]
    exact I_progE k23 (prog_ok hn (fun x hx => IH x (by simp [hx])) (fun x hx => by simpa [justI] using h0 x hx) (IH kz (by simp)) (by simpa [justI] using h1) (.inr ⟨kr, rfl, IH kr (by simp), h2⟩) rest)

end Go.Proofs.YtpgobebibjeglaaDoor
