import Derived.Test.YteinpijbdgcehaaCOM
namespace Go.Proofs.Yteinpijbdgcehaa
open Go.RowKit
set_option linter.unusedVariables false
set_option linter.unusedSimpArgs false

/-- numbers in memory -/
structure NumsIn (W : World) (Pr : Nat → Prop) (p : Option Addr) (c : Nat) (l : List Nat) : Prop where
  len : l.length ≤ c
  max : c ≤ maxLen
  at_ : ∀ i (h : i < l.length), ∃ b o, p = some ⟨b, o, none⟩ ∧ Pr b ∧ W.cell? ⟨b, o + i, none⟩ = some (.int .i64 l[i])
theorem NumsIn.keep {Pr : Nat → Prop} {w W : World} {p : Option Addr} {c : Nat} {l : List Nat} (h : NumsIn w Pr p c l) (k : Kpt Pr w W) : NumsIn W Pr p c l :=
  ⟨h.len, h.max, fun i hi => by obtain ⟨b, o, e, hb, h1⟩ := h.at_ i hi; exact ⟨b, o, e, hb, (k.cell hb).trans h1⟩⟩
theorem NumsIn.mono {Pr Pr' : Nat → Prop} {w : World} {p : Option Addr} {c : Nat} {l : List Nat} (h : NumsIn w Pr p c l) (k : ∀ b, Pr b → Pr' b) : NumsIn w Pr' p c l :=
  ⟨h.len, h.max, fun i hi => by obtain ⟨b, o, e, hb, h1⟩ := h.at_ i hi; exact ⟨b, o, e, k b hb, h1⟩⟩
/-- the places of all arms of a process that receive on a channel -/
structure OGr where
  id : Int
  places : List Nat
  gp : Option Addr
  gc : Nat
def grpV (g : OGr) : Value := .agg #[.int .i64 g.id, .slice g.gp g.places.length g.gc]
structure GrpAt (W : World) (Pr : Nat → Prop) (b o : Nat) (g : OGr) : Prop where
  c0 : W.cell? ⟨b, o, none⟩ = some (.int .i64 g.id)
  c1 : W.cell? ⟨b, o + 1, none⟩ = some (.slice g.gp g.places.length g.gc)
  nums : NumsIn W Pr g.gp g.gc g.places
structure GrpsIn (W : World) (Pr : Nat → Prop) (p : Option Addr) (c : Nat) (l : List OGr) : Prop where
  len : l.length ≤ c
  max : c ≤ maxLen
  at_ : ∀ i (h : i < l.length), ∃ b o, p = some ⟨b, o, none⟩ ∧ Pr b ∧ GrpAt W Pr b (o + i * 2) l[i]
theorem GrpsIn.keep {Pr : Nat → Prop} {w W : World} {p : Option Addr} {c : Nat} {l : List OGr} (h : GrpsIn w Pr p c l) (k : Kpt Pr w W) : GrpsIn W Pr p c l :=
  ⟨h.len, h.max, fun i hi => by obtain ⟨b, o, e, hb, h1⟩ := h.at_ i hi; exact ⟨b, o, e, hb, ⟨(k.cell hb).trans h1.c0, (k.cell hb).trans h1.c1, h1.nums.keep k⟩⟩⟩
theorem GrpsIn.mono {Pr Pr' : Nat → Prop} {w : World} {p : Option Addr} {c : Nat} {l : List OGr} (h : GrpsIn w Pr p c l) (k : ∀ b, Pr b → Pr' b) : GrpsIn w Pr' p c l :=
  ⟨h.len, h.max, fun i hi => by obtain ⟨b, o, e, hb, h1⟩ := h.at_ i hi; exact ⟨b, o, e, k b hb, ⟨h1.c0, h1.c1, h1.nums.mono k⟩⟩⟩
end Go.Proofs.Yteinpijbdgcehaa
