import Derived.Test.YtijdcplffmdijaaDoorCDKv
import Derived.Test.YtijdcplffmdijaaDoorCDFj
namespace Go.Proofs.YtijdcplffmdijaaDoor
open Go.RowKit
set_option linter.unusedVariables false
set_option linter.unusedSimpArgs false

theorem RW.kpB {P : Nat → TypeId → Prop} {e : TypeId} {s B E : Nat} {T : Nat → Nat} {w w' : World} {l : Sl} (h : RW e s B E T w l) (hk : Kp P w w') (hp : ∀ g t, B ≤ g → g < E → P g t) : RW e s B E T w' l := by
  have hr := h.row
  obtain ⟨⟨xs, h1⟩, h2⟩ := h
  exact ⟨⟨xs, owns_on h1 hk fun g hg => hp g _ (hr g hg).1 (hr g hg).2⟩, h2⟩
theorem RW.cell_kpB {P : Nat → TypeId → Prop} {e : TypeId} {s B E g i : Nat} {T : Nat → Nat} {w w' : World} {l : Sl} (h : RW e s B E T w l) (hk : Kp P w w') (hp : ∀ g t, B ≤ g → g < E → P g t) (ha : l.a = some ⟨g, 0, none⟩) : w'.cell? ⟨g, i, none⟩ = w.cell? ⟨g, i, none⟩ := by
  obtain ⟨cur, h1, h2, h3, h4, _⟩ := h.form (own_a ha)
  exact World.cell?_of_block (a := ⟨g, i, none⟩) (hk.blk g _ _ _ h4 (hp g _ h2 h3))
theorem IM.kpB {P : Nat → TypeId → Prop} {L : Nat → Nat} {B E : Nat} {mark : Int} {m : Prop} {w w' : World} {l : Sl} (h : IM L B E mark m w l) (hk : Kp P w w') (hp : ∀ g t, B ≤ g → g < E → P g t) : IM L B E mark m w' l :=
  ⟨h.1.kpB hk hp, fun hm k hkk g hg => by rw [h.1.cell_kpB hk hp hg]; exact h.2 hm k hkk g hg⟩
/-- what lies between B and E stays: all of it stays -/
theorem SpS.fr {P : Nat → TypeId → Prop} {L K : Nat → Nat} {B E : Nat} {mark : Int} {tl pl : Sl} {tk pk : Nat → Sl} {ik : Nat → Nat → Sl} {mt mp : Nat → Prop} {mi : Nat → Nat → Prop} {w w' : World} (h : SpS L K B E mark tl pl tk pk ik mt mp mi w) (hk : Kp P w w') (hp : ∀ g t, B ≤ g → g < E → P g t) : SpS L K B E mark tl pl tk pk ik mt mp mi w' := by
  refine ⟨h.tr.kpB hk hp, h.pr.kpB hk hp, fun j hj g hg => ?_, fun j hj g hg => ?_⟩
  · obtain ⟨q1, q2, q3⟩ := h.ty j hj g hg
    exact ⟨by rw [h.tr.cell_kpB hk hp hg]; exact q1, q2.kpB hk hp, fun x => by rw [h.tr.cell_kpB hk hp hg]; exact q3 x⟩
  · obtain ⟨q1, q2, q3⟩ := h.pg j hj g hg
    refine ⟨by rw [h.pr.cell_kpB hk hp hg]; exact q1, ⟨q2.1.kpB hk hp, fun k hkk c hc => ?_⟩, fun x => by rw [h.pr.cell_kpB hk hp hg]; exact q3 x⟩
    obtain ⟨r1, r2, r3⟩ := q2.2 k hkk c hc
    exact ⟨by rw [q2.1.cell_kpB hk hp hc]; exact r1, r2.kpB hk hp, fun x => by rw [q2.1.cell_kpB hk hp hc]; exact r3 x⟩
def slOf (o : Option Value) : Sl := match o with
  | some (.slice a n c) => ⟨a, n, c⟩
  | _ => ⟨none, 0, 0⟩
def slAt (w : World) (a : Option Addr) (i : Nat) : Sl := match a with
  | some ad => slOf (w.cell? ⟨ad.block, i, none⟩)
  | none => ⟨none, 0, 0⟩
theorem slAt_is {w : World} {a b : Option Addr} {g i n c : Nat} (ha : a = some ⟨g, 0, none⟩) (hc : w.cell? ⟨g, i, none⟩ = some (.slice b n c)) : slAt w a i = ⟨b, n, c⟩ := by
  subst ha
  show slOf (w.cell? ⟨g, i, none⟩) = _
  rw [hc]
  rfl
/-- a unit that is small -/
def Sm (u : CUn) : Prop := (u.types.length ≤ 1099511627776 ∧ u.progs.length ≤ 1099511627776) ∧ (∀ t ∈ u.types, t.kids.length ≤ 1099511627776) ∧ ∀ p ∈ u.progs, p.code.length ≤ 1099511627776 ∧ ∀ i ∈ p.code, i.list.length ≤ 1099511627776
theorem sumF_mem {α : Type} (f : α → Nat) : ∀ {l : List α} {x : α}, x ∈ l → f x ≤ sumF f l
  | y :: l, x, h => by
    rw [sumF]
    rcases List.mem_cons.1 h with rfl | h
    · omega
    · have := sumF_mem f h
      omega
theorem sm_read (t : List UInt8) (ht : t.length ≤ 1073741824) : Sm (readU t).1 := by
  rcases print_read t with ⟨_, _, h3, h4, _⟩ | ⟨_, _, h⟩
  · have hc := unC_text h4
    rw [h3] at hc
    generalize (readU t).1 = u at *
    unfold unC at hc
    have l1 := sumF_len tyC (fun x => by unfold tyC; omega) u.types
    have l2 := sumF_len pgC (fun x => by unfold pgC; omega) u.progs
    refine ⟨⟨by omega, by omega⟩, fun t ht => ?_, fun p hp => ?_⟩
    · have := sumF_mem tyC ht
      unfold tyC at this hc
      omega
    · have h1 := sumF_mem pgC hp
      have h2 : pgC p = 100 + sumF inC p.code := rfl
      have h3 := sumF_len inC (fun x => by unfold inC; omega) p.code
      refine ⟨by omega, fun i hi => ?_⟩
      have h4 := sumF_mem inC hi
      have h5 : inC i = 60 + 21 * i.list.length := rfl
      omega
  · rw [h]
    exact ⟨⟨by simp, by simp⟩, ⟨fun t h => (List.not_mem_nil h).elim, fun p h => (List.not_mem_nil h).elim⟩⟩
theorem im_of {L : Nat → Nat} {B : Nat} {mark : Int} {w : World} {a : Option Addr} {c : Nat} {ks : List Int} (h : IOw L B w a c ks) (hn : ks.length ≤ 1099511627776) : IM L B w.heap.size mark False w ⟨a, ks.length, c⟩ :=
  ⟨⟨⟨_, h.1⟩, fun g hg => ⟨h.2 g hg, (owns_block h.1 hg).2⟩, hn⟩, fun x => x.elim⟩
theorem SpS.of {w : World} {B : Nat} {mark : Int} {pa ta : Option Addr} {pc tc : Nat} {u : CUn} (h : UO w B (.slice pa u.progs.length pc) (.slice ta u.types.length tc) u) (hs : Sm u) : ∃ L K tk pk ik, SpS L K B w.heap.size mark ⟨ta, u.types.length, tc⟩ ⟨pa, u.progs.length, pc⟩ tk pk ik (fun _ => False) (fun _ => False) (fun _ _ => False) w := by
  obtain ⟨L, K, h1, h2⟩ := h
  obtain ⟨a1, c1, e1, r1⟩ := h1.row tyG_len (E := fun b o t => ∃ ka kc, w.cell? ⟨b, o + 1, none⟩ = some (.slice ka t.kids.length kc) ∧ IOw L B w ka kc t.kids) (fun b o t c hT hc => by
    obtain ⟨ka, kc, rfl, hi⟩ := hT
    exact ⟨ka, kc, hc 1 (by omega), hi⟩)
  obtain ⟨a2, c2, e2, r2⟩ := h2.row pgG_len (E := fun b o p => ∃ ca cc, w.cell? ⟨b, o + 4, none⟩ = some (.slice ca p.code.length cc) ∧ OwnL (InG (IOw L B)) w B 28 4 (.slice ca p.code.length cc) p.code ∧ ∀ g, (Value.slice ca p.code.length cc).ownBlock = some g → g < w.heap.size ∧ K g = p.code.length) (fun b o p c hT hc => by
    obtain ⟨v, rfl, hi, hk⟩ := hT
    obtain ⟨cs, _, ho⟩ := hi.ex
    obtain ⟨ca, cc, rfl⟩ := owns_slice ho
    exact ⟨ca, cc, hc 4 (by omega), hi, hk⟩)
  injection e1 with e1 _ e3
  injection e2 with e2 _ e4
  subst e1 e2 e3 e4
  obtain ⟨tcs, _, ot⟩ := h1.ex
  obtain ⟨pcs, _, op⟩ := h2.ex
  obtain ⟨tk, htk⟩ : ∃ tk : Nat → Sl, ∀ j, tk j = slAt w ta (j * 3 + 1) := ⟨_, fun _ => rfl⟩
  obtain ⟨pk, hpk⟩ : ∃ pk : Nat → Sl, ∀ j, pk j = slAt w pa (j * 5 + 4) := ⟨_, fun _ => rfl⟩
  obtain ⟨ik, hik⟩ : ∃ ik : Nat → Nat → Sl, ∀ j k, ik j k = slAt w (pk j).a (k * 4 + 3) := ⟨_, fun _ _ => rfl⟩
  refine ⟨L, K, tk, pk, ik, ⟨⟨_, ot⟩, fun g hg => ⟨rfl, (owns_block ot hg).2⟩, hs.1.1⟩, ⟨⟨_, op⟩, fun g hg => ⟨rfl, (owns_block op hg).2⟩, hs.1.2⟩, fun j hj g hg => ?_, fun j hj g hg => ?_⟩
  · have hj' : j < u.types.length := hj
    have hg' : ta = some ⟨g, 0, none⟩ := hg
    obtain ⟨b, o, e, _, hE⟩ := r1.at_ (by omega)
    rw [hg'] at e
    injection e with e
    injection e with eb eo
    subst eb eo
    obtain ⟨ka, kc, hc, hi⟩ := hE j hj'
    rw [Nat.zero_add] at hc
    have ht : tk j = ⟨ka, (u.types[j]).kids.length, kc⟩ := by
      rw [htk]
      exact slAt_is hg' hc
    rw [ht]
    exact ⟨hc, im_of hi (hs.2.1 _ (List.getElem_mem hj')), fun x => x.elim⟩
  · have hj' : j < u.progs.length := hj
    have hg' : pa = some ⟨g, 0, none⟩ := hg
    obtain ⟨b, o, e, _, hE⟩ := r2.at_ (by omega)
    rw [hg'] at e
    injection e with e
    injection e with eb eo
    subst eb eo
    obtain ⟨ca, cc, hc, hi, hk⟩ := hE j hj'
    rw [Nat.zero_add] at hc
    have ht : pk j = ⟨ca, (u.progs[j]).code.length, cc⟩ := by
      rw [hpk]
      exact slAt_is hg' hc
    obtain ⟨ics, _, oi⟩ := hi.ex
    have hsm := hs.2.2 _ (List.getElem_mem hj')
    rw [ht]
    refine ⟨hc, ⟨⟨⟨_, oi⟩, fun g hg => ⟨(hk g hg).2, (hk g hg).1⟩, hsm.1⟩, fun k hkk c hcc => ?_⟩, fun x => x.elim⟩
    have hkk' : k < (u.progs[j]).code.length := hkk
    have hcc' : ca = some ⟨c, 0, none⟩ := hcc
    obtain ⟨a3, c3, e3, r3⟩ := hi.row inG_len (E := fun b o t => ∃ ka kc, w.cell? ⟨b, o + 3, none⟩ = some (.slice ka t.list.length kc) ∧ IOw L B w ka kc t.list) (fun b o t c hT hc => by
      obtain ⟨ka, kc, rfl, hi⟩ := hT
      exact ⟨ka, kc, hc 3 (by omega), hi⟩)
    injection e3 with e3 _ e4
    subst e3 e4
    obtain ⟨b, o, e, _, hE3⟩ := r3.at_ (by omega)
    rw [hcc'] at e
    injection e with e
    injection e with eb eo
    subst eb eo
    obtain ⟨ka, kc, hc3, hi3⟩ := hE3 k hkk'
    rw [Nat.zero_add] at hc3
    have hti : ik j k = ⟨ka, ((u.progs[j]).code[k]).list.length, kc⟩ := by
      rw [hik, ht]
      exact slAt_is hcc' hc3
    rw [hti]
    exact ⟨hc3, im_of hi3 (hsm.2 _ (List.getElem_mem hkk')), fun x => x.elim⟩
end Go.Proofs.YtijdcplffmdijaaDoor
namespace Go.Proofs.YtijdcplffmdijaaDoor
open Go.RowKit
set_option linter.unusedVariables false
set_option linter.unusedSimpArgs false

/-- the five boxes -/
structure Bxs (E1 E2 E3 E4 E5 : Nat) (o1 o2 o3 o4 o5 : Array Value) (Y : World) : Prop where
  a : Y.heap[E1]? = some (.cells o1 36 (0, 0))
  b : Y.heap[E2]? = some (.cells o2 36 (0, 0))
  c : Y.heap[E3]? = some (.cells o3 36 (0, 0))
  d : Y.heap[E4]? = some (.cells o4 36 (0, 0))
  e : Y.heap[E5]? = some (.cells o5 36 (0, 0))
theorem Bxs.to {E1 E2 E3 E4 E5 : Nat} {o1 o2 o3 o4 o5 : Array Value} {Y Y' : World} (h : Bxs E1 E2 E3 E4 E5 o1 o2 o3 o4 o5 Y) (hk : ∀ x, x = E1 ∨ x = E2 ∨ x = E3 ∨ x = E4 ∨ x = E5 → Y'.heap[x]? = Y.heap[x]?) : Bxs E1 E2 E3 E4 E5 o1 o2 o3 o4 o5 Y' :=
  ⟨(hk _ (.inl rfl)).trans h.a, (hk _ (.inr (.inl rfl))).trans h.b, (hk _ (.inr (.inr (.inl rfl)))).trans h.c, (hk _ (.inr (.inr (.inr (.inl rfl))))).trans h.d, (hk _ (.inr (.inr (.inr (.inr rfl))))).trans h.e⟩
theorem Bxs.below {E1 E2 E3 E4 E5 : Nat} {o1 o2 o3 o4 o5 : Array Value} {Y Y' : World} (h : Bxs E1 E2 E3 E4 E5 o1 o2 o3 o4 o5 Y) (hb : Below Y.heap.size Y Y') : Bxs E1 E2 E3 E4 E5 o1 o2 o3 o4 o5 Y' :=
  ⟨below_heap hb h.a, below_heap hb h.b, below_heap hb h.c, below_heap hb h.d, below_heap hb h.e⟩
/-- a unit that was answered, and is to be written over -/
def Ov (B E : Nat) (mark : Int) (m : Prop) (pa ta : Option Addr) (np pc nt tc : Nat) (Y : World) : Prop := ∃ L K tk pk ik, SpS L K B E mark ⟨ta, nt, tc⟩ ⟨pa, np, pc⟩ tk pk ik (fun _ => m) (fun _ => m) (fun _ _ => m) Y
theorem Ov.fr {P : Nat → TypeId → Prop} {B E : Nat} {mark : Int} {m : Prop} {pa ta : Option Addr} {np pc nt tc : Nat} {Y Y' : World} (h : Ov B E mark m pa ta np pc nt tc Y) (hk : Kp P Y Y') (hp : ∀ g t, B ≤ g → g < E → P g t) : Ov B E mark m pa ta np pc nt tc Y' := by
  obtain ⟨L, K, tk, pk, ik, h⟩ := h
  exact ⟨L, K, tk, pk, ik, h.fr hk hp⟩
theorem Ov.spoil {B E : Nat} {mark : Int} {pa ta : Option Addr} {np pc nt tc : Nat} {Y : World} (h : Ov B E mark False pa ta np pc nt tc Y) (hm : -1000 ≤ mark ∧ mark ≤ 1000) (hBE : B ≤ Y.heap.size) (hE : E ≤ Y.heap.size) : Calls Tryd.prog 29 #[.agg #[.slice pa np pc, .slice ta nt tc], .int .i64 mark] Y fun e w' => e = .returned (.tuple #[]) ∧ Bx (Ov B E mark True pa ta np pc nt tc w' ∧ SpF B E Y w') := by
  obtain ⟨L, K, tk, pk, ik, h⟩ := h
  refine (spoil_any Y L K B E mark hm ta pa nt tc np pc tk pk ik h hBE hE).mono ?_
  rintro e w' ⟨rfl, h⟩
  exact ⟨rfl, ⟨⟨L, K, tk, pk, ik, h.out.1⟩, h.out.2⟩⟩
theorem Ov.marked {B E : Nat} {mark : Int} {pa ta : Option Addr} {np pc nt tc : Nat} {Y : World} (h : Ov B E mark True pa ta np pc nt tc Y) : Calls Tryd.prog 30 #[.agg #[.slice pa np pc, .slice ta nt tc], .int .i64 mark] Y fun e w' => e = .returned (.bool true) ∧ Below Y.heap.size Y w' := by
  obtain ⟨L, K, tk, pk, ik, h⟩ := h
  exact marked_yes Y L K B E mark ta pa nt tc np pc tk pk ik h
/-- behind the five readings: a and b are to be written over, c and want stay -/
structure Ph (w : World) (B1 E1 B2 E2 B3 B4 : Nat) (mA mB : Prop) (u v : CUn) (pa ta pb tb pc tc pd td : Option Addr) (ka la kb lb kc lc kd ld : Nat) (Y : World) : Prop where
  bel : Below w.heap.size w Y
  sa : Ov B1 E1 (-3) mA pa ta u.progs.length ka u.types.length la Y
  sb : Ov B2 E2 (-4) mB pb tb v.progs.length kb v.types.length lb Y
  uc : UO Y B3 (.slice pc u.progs.length kc) (.slice tc u.types.length lc) u
  rw_ : RU Y B4 (.slice pd u.progs.length kd) (.slice td u.types.length ld) u
  o0 : w.heap.size ≤ B1
  o1 : B1 ≤ E1 + 1
  o7 : w.heap.size ≤ E1
  o2 : E1 < B2
  o3 : B2 ≤ E2 + 1
  o4 : E2 < B3
  o5 : E2 < B4
  o6 : E2 < Y.heap.size
theorem Ph.below {w : World} {B1 E1 B2 E2 B3 B4 : Nat} {mA mB : Prop} {u v : CUn} {pa ta pb tb pc tc pd td : Option Addr} {ka la kb lb kc lc kd ld : Nat} {Y Y' : World} (h : Ph w B1 E1 B2 E2 B3 B4 mA mB u v pa ta pb tb pc tc pd td ka la kb lb kc lc kd ld Y) (hb : Below Y.heap.size Y Y') : Ph w B1 E1 B2 E2 B3 B4 mA mB u v pa ta pb tb pc tc pd td ka la kb lb kc lc kd ld Y' := by
  have hk : Kp (fun _ _ => True) Y Y' := Kp.of hb
  have hu : ∀ B x, B ≤ x → x < Y.heap.size → Y'.heap[x]? = Y.heap[x]? := fun B x _ hx => hb.block x hx
  exact ⟨h.bel.trans (hb.mono h.bel.size), h.sa.fr hk fun _ _ _ _ => trivial, h.sb.fr hk fun _ _ _ _ => trivial, h.uc.up hb.size (hu _), h.rw_.up hb.size (hu _), h.o0, h.o1, h.o7, h.o2, h.o3, h.o4, h.o5, Nat.lt_of_lt_of_le h.o6 hb.size⟩
theorem Ph.a {w : World} {B1 E1 B2 E2 B3 B4 : Nat} {mA mB : Prop} {u v : CUn} {pa ta pb tb pc tc pd td : Option Addr} {ka la kb lb kc lc kd ld : Nat} {Y Y' : World} (h : Ph w B1 E1 B2 E2 B3 B4 mA mB u v pa ta pb tb pc tc pd td ka la kb lb kc lc kd ld Y) (hf : SpF B1 E1 Y Y') (ha : Ov B1 E1 (-3) True pa ta u.progs.length ka u.types.length la Y') : Ph w B1 E1 B2 E2 B3 B4 True mB u v pa ta pb tb pc tc pd td ka la kb lb kc lc kd ld Y' := by
  have hs := hf.bel.size
  have o0 := h.o0
  have o1 := h.o1
  have o7 := h.o7
  have o2 := h.o2
  have o3 := h.o3
  have o4 := h.o4
  have o5 := h.o5
  have hk : Kp (fun b _ => E1 ≤ b) Y Y' := kp_up hs hf.up
  exact ⟨h.bel.trans (hf.bel.mono o0), ha, h.sb.fr hk fun g _ h1 _ => by omega, h.uc.up hs fun x h1 h2 => hf.up x (by omega) h2, h.rw_.up hs fun x h1 h2 => hf.up x (by omega) h2, o0, o1, h.o7, o2, o3, o4, o5, Nat.lt_of_lt_of_le h.o6 hs⟩
theorem Ph.b {w : World} {B1 E1 B2 E2 B3 B4 : Nat} {mA mB : Prop} {u v : CUn} {pa ta pb tb pc tc pd td : Option Addr} {ka la kb lb kc lc kd ld : Nat} {Y Y' : World} (h : Ph w B1 E1 B2 E2 B3 B4 mA mB u v pa ta pb tb pc tc pd td ka la kb lb kc lc kd ld Y) (hf : SpF B2 E2 Y Y') (hb : Ov B2 E2 (-4) True pb tb v.progs.length kb v.types.length lb Y') : Ph w B1 E1 B2 E2 B3 B4 mA True u v pa ta pb tb pc tc pd td ka la kb lb kc lc kd ld Y' := by
  have hs := hf.bel.size
  have o0 := h.o0
  have o1 := h.o1
  have o7 := h.o7
  have o2 := h.o2
  have o3 := h.o3
  have o4 := h.o4
  have o5 := h.o5
  have hk : Kp (fun b _ => b < B2) Y Y' := ⟨hs, fun b c t fz hx hp => hf.bel.block b hp⟩
  exact ⟨h.bel.trans (hf.bel.mono (by omega)), h.sa.fr hk fun g _ _ h2 => by omega, hb, h.uc.up hs fun x h1 h2 => hf.up x (by omega) h2, h.rw_.up hs fun x h1 h2 => hf.up x (by omega) h2, o0, o1, h.o7, o2, o3, o4, o5, Nat.lt_of_lt_of_le h.o6 hs⟩
theorem Ph.same {w : World} {B1 E1 B2 E2 B3 B4 : Nat} {mA mB : Prop} {u v : CUn} {pa ta pb tb pc tc pd td : Option Addr} {ka la kb lb kc lc kd ld : Nat} {Y : World} (h : Ph w B1 E1 B2 E2 B3 B4 mA mB u v pa ta pb tb pc tc pd td ka la kb lb kc lc kd ld Y) : Calls Tryd.prog 28 #[.agg #[.slice pc u.progs.length kc, .slice tc u.types.length lc], .agg #[.slice pd u.progs.length kd, .slice td u.types.length ld]] Y fun e w' => e = .returned (.bool true) ∧ Below Y.heap.size Y w' :=
  sameUnit_yes Y u pc tc pd td kc lc kd ld h.uc.unit h.rw_.unit
end Go.Proofs.YtijdcplffmdijaaDoor
namespace Go.Proofs.YtijdcplffmdijaaDoor
open Go.RowKit
set_option linter.unusedVariables false
set_option linter.unusedSimpArgs false

theorem cells5 {E1 E2 E3 E4 E5 : Nat} {p1 q1 p2 q2 p3 q3 p4 q4 p5 q5 : Value} {Y : World} (h : Bxs E1 E2 E3 E4 E5 #[p1, q1] #[p2, q2] #[p3, q3] #[p4, q4] #[p5, q5] Y) :
    (Y.cell? ⟨E1, 0, none⟩ = some p1 ∧ Y.cell? ⟨E1, 1, none⟩ = some q1 ∧ E1 < Y.heap.size) ∧ (Y.cell? ⟨E2, 0, none⟩ = some p2 ∧ Y.cell? ⟨E2, 1, none⟩ = some q2 ∧ E2 < Y.heap.size) ∧ (Y.cell? ⟨E3, 0, none⟩ = some p3 ∧ Y.cell? ⟨E3, 1, none⟩ = some q3 ∧ E3 < Y.heap.size) ∧ (Y.cell? ⟨E4, 0, none⟩ = some p4 ∧ Y.cell? ⟨E4, 1, none⟩ = some q4 ∧ E4 < Y.heap.size) ∧ (Y.cell? ⟨E5, 0, none⟩ = some p5 ∧ Y.cell? ⟨E5, 1, none⟩ = some q5 ∧ E5 < Y.heap.size) :=
  ⟨⟨cell_blk h.a rfl, cell_blk h.a rfl, (Array.getElem?_eq_some_iff.1 h.a).1⟩, ⟨cell_blk h.b rfl, cell_blk h.b rfl, (Array.getElem?_eq_some_iff.1 h.b).1⟩, ⟨cell_blk h.c rfl, cell_blk h.c rfl, (Array.getElem?_eq_some_iff.1 h.c).1⟩, ⟨cell_blk h.d rfl, cell_blk h.d rfl, (Array.getElem?_eq_some_iff.1 h.d).1⟩, ⟨cell_blk h.e rfl, cell_blk h.e rfl, (Array.getElem?_eq_some_iff.1 h.e).1⟩⟩
set_option maxRecDepth 100000 in
set_option maxHeartbeats 8000000 in
theorem parses_walk (w : World) (hL : LW w) (text other : List UInt8) (ht : text.length ≤ 1073741824) (ho : other.length ≤ 1073741824) :
    Calls Tryd.prog 6 #[strV text, strV other] w fun e w' => e = .returned (.bool true) ∧ Below w.heap.size w w' := by
  have S1 := sm_read text ht
  have S2 := sm_read other ho
  have HP : Bx (∀ X t, t.length ≤ 1073741824 → Below w.heap.size w X → Calls Tryd.prog 26 #[strV t] X (ParO X (readU t))) := ⟨fun X t ht hX => Parse_own X (hL.below hX) t (by omega)⟩
  have HR : Bx (∀ X t, t.length ≤ 1073741824 → Below w.heap.size w X → Calls Tryd.prog 27 #[strV t] X (ParR X (readU t))) := ⟨fun X t ht hX => rParse_any X t (by omega)⟩
  have HS : Bx (Calls Tryd.prog 9 #[] w fun e w' => e = .returned (.bool true) ∧ Bx (Below w.heap.size w w')) := ⟨(shown_any w hL).mono fun e w' h => ⟨h.1, ⟨h.2⟩⟩⟩
  have t1 : Bx (∀ X, Below w.heap.size w X → Calls Tryd.prog 26 #[strV text] X (ParO X (readU text))) := ⟨fun X hX => HP.out X text ht hX⟩
  have t2 : Bx (∀ X, Below w.heap.size w X → Calls Tryd.prog 26 #[strV other] X (ParO X (readU other))) := ⟨fun X hX => HP.out X other ho hX⟩
  have t4 : Bx (∀ X, Below w.heap.size w X → Calls Tryd.prog 27 #[strV text] X (ParR X (readU text))) := ⟨fun X hX => HR.out X text ht hX⟩
  have t5 : Bx (∀ X, Below w.heap.size w X → Calls Tryd.prog 27 #[strV other] X (ParR X (readU other))) := ⟨fun X hX => HR.out X other ho hX⟩
  clear HP HR ht ho hL
  generalize readU text = r1 at *
  generalize readU other = r2 at *
  obtain ⟨u, n1, x1⟩ := r1
  obtain ⟨v, n2, x2⟩ := r2
  unfold ParO at t1 t2
  unfold ParR at t4 t5
  simp only [] at S1 S2 t1 t2 t4 t5
  have t3 := t1
  have SM1 : Bx _ := ⟨S1⟩
  have SM2 : Bx _ := ⟨S2⟩
  clear S1 S2
  obtain ⟨np, hnp⟩ : ∃ n, u.progs.length = n := ⟨_, rfl⟩
  obtain ⟨nt, hnt⟩ : ∃ n, u.types.length = n := ⟨_, rfl⟩
  obtain ⟨mp, hmp⟩ : ∃ n, v.progs.length = n := ⟨_, rfl⟩
  obtain ⟨mt, hmt⟩ : ∃ n, v.types.length = n := ⟨_, rfl⟩
  rw [hnp, hnt] at t1 t3 t4
  rw [hmp, hmt] at t2 t5
  have NM : Bx ((u.progs.length = np ∧ u.types.length = nt) ∧ v.progs.length = mp ∧ v.types.length = mt) := ⟨⟨hnp, hnt⟩, hmp, hmt⟩
  clear hnp hnt hmp hmt
  show Calls Tryd.prog 6 #[.string ⟨text.toArray⟩, .string ⟨other.toArray⟩] w _
  go_enter Tryd.func6, Tryd.ntmps6
  go_wp2_with (first
    | (go_at_call 9; refine HS.out.mono ?_; clear HS; rintro e w0 ⟨rfl, H0⟩)
    | (go_at_call 26; refine (t1.out _ H0.out).mono ?_; clear t1; rintro e w1 ⟨pa, ka, ta, la, rfl, H1⟩
       obtain ⟨E1, hE1⟩ : ∃ E, w1.heap.size = E := ⟨_, rfl⟩
       obtain ⟨X1, hX1⟩ : ∃ X, w1.alloc (.cells #[.slice pa np ka, .slice ta nt la] 36) = X := ⟨_, rfl⟩
       have G1 : Bx (Below w.heap.size w X1 ∧ Below w1.heap.size w1 X1 ∧ X1.heap[E1]? = some (.cells #[.slice pa np ka, .slice ta nt la] 36 (0, 0)) ∧ E1 < X1.heap.size) := ⟨by
         have b1 : Below w1.heap.size w1 X1 := by rw [← hX1]; exact below1 w1 _
         have i1 : X1.heap[E1]? = some (.cells #[.slice pa np ka, .slice ta nt la] 36 (0, 0)) := by rw [← hX1]; exact heap_newH w1 _ E1 hE1
         have b2 : Below w.heap.size w w1 := (H0.out).trans (H1.out.2.mono (H0.out).size)
         exact ⟨b2.trans (b1.mono b2.size), b1, i1, (Array.getElem?_eq_some_iff.1 i1).1⟩⟩
       have JE1 : Bx _ := ⟨hE1⟩)
    | (go_at_call 26; refine (t2.out _ G1.out.1).mono ?_; clear t2; rintro e w2 ⟨pb, kb, tb, lb, rfl, H2⟩
       obtain ⟨E2, hE2⟩ : ∃ E, w2.heap.size = E := ⟨_, rfl⟩
       obtain ⟨X2, hX2⟩ : ∃ X, w2.alloc (.cells #[.slice pb mp kb, .slice tb mt lb] 36) = X := ⟨_, rfl⟩
       have G2 : Bx (Below w.heap.size w X2 ∧ Below w2.heap.size w2 X2 ∧ X2.heap[E2]? = some (.cells #[.slice pb mp kb, .slice tb mt lb] 36 (0, 0)) ∧ E2 < X2.heap.size) := ⟨by
         have b1 : Below w2.heap.size w2 X2 := by rw [← hX2]; exact below1 w2 _
         have i1 : X2.heap[E2]? = some (.cells #[.slice pb mp kb, .slice tb mt lb] 36 (0, 0)) := by rw [← hX2]; exact heap_newH w2 _ E2 hE2
         have b2 : Below w.heap.size w w2 := (G1.out.1).trans (H2.out.2.mono (G1.out.1).size)
         exact ⟨b2.trans (b1.mono b2.size), b1, i1, (Array.getElem?_eq_some_iff.1 i1).1⟩⟩
       have JE2 : Bx _ := ⟨hE2⟩)
    | (go_at_call 26; refine (t3.out _ G2.out.1).mono ?_; clear t3; rintro e w3 ⟨pc, kc, tc, lc, rfl, H3⟩
       obtain ⟨E3, hE3⟩ : ∃ E, w3.heap.size = E := ⟨_, rfl⟩
       obtain ⟨X3, hX3⟩ : ∃ X, w3.alloc (.cells #[.slice pc np kc, .slice tc nt lc] 36) = X := ⟨_, rfl⟩
       have G3 : Bx (Below w.heap.size w X3 ∧ Below w3.heap.size w3 X3 ∧ X3.heap[E3]? = some (.cells #[.slice pc np kc, .slice tc nt lc] 36 (0, 0)) ∧ E3 < X3.heap.size) := ⟨by
         have b1 : Below w3.heap.size w3 X3 := by rw [← hX3]; exact below1 w3 _
         have i1 : X3.heap[E3]? = some (.cells #[.slice pc np kc, .slice tc nt lc] 36 (0, 0)) := by rw [← hX3]; exact heap_newH w3 _ E3 hE3
         have b2 : Below w.heap.size w w3 := (G2.out.1).trans (H3.out.2.mono (G2.out.1).size)
         exact ⟨b2.trans (b1.mono b2.size), b1, i1, (Array.getElem?_eq_some_iff.1 i1).1⟩⟩
       have JE3 : Bx _ := ⟨hE3⟩)
    | (go_at_call 27; refine (t4.out _ G3.out.1).mono ?_; clear t4; rintro e w4 ⟨pd, kd, td, ld, rfl, H4⟩
       obtain ⟨E4, hE4⟩ : ∃ E, w4.heap.size = E := ⟨_, rfl⟩
       obtain ⟨X4, hX4⟩ : ∃ X, w4.alloc (.cells #[.slice pd np kd, .slice td nt ld] 36) = X := ⟨_, rfl⟩
       have G4 : Bx (Below w.heap.size w X4 ∧ Below w4.heap.size w4 X4 ∧ X4.heap[E4]? = some (.cells #[.slice pd np kd, .slice td nt ld] 36 (0, 0)) ∧ E4 < X4.heap.size) := ⟨by
         have b1 : Below w4.heap.size w4 X4 := by rw [← hX4]; exact below1 w4 _
         have i1 : X4.heap[E4]? = some (.cells #[.slice pd np kd, .slice td nt ld] 36 (0, 0)) := by rw [← hX4]; exact heap_newH w4 _ E4 hE4
         have b2 : Below w.heap.size w w4 := (G3.out.1).trans (H4.out.2.mono (G3.out.1).size)
         exact ⟨b2.trans (b1.mono b2.size), b1, i1, (Array.getElem?_eq_some_iff.1 i1).1⟩⟩
       have JE4 : Bx _ := ⟨hE4⟩)
    | (go_at_call 27; refine (t5.out _ G4.out.1).mono ?_; clear t5; rintro e w5 ⟨pe, ke, te, le, rfl, H5⟩
       obtain ⟨E5, hE5⟩ : ∃ E, w5.heap.size = E := ⟨_, rfl⟩
       obtain ⟨X5, hX5⟩ : ∃ X, w5.alloc (.cells #[.slice pe mp ke, .slice te mt le] 36) = X := ⟨_, rfl⟩
       have G5 : Bx (Below w.heap.size w X5 ∧ Below w5.heap.size w5 X5 ∧ X5.heap[E5]? = some (.cells #[.slice pe mp ke, .slice te mt le] 36 (0, 0)) ∧ E5 < X5.heap.size) := ⟨by
         have b1 : Below w5.heap.size w5 X5 := by rw [← hX5]; exact below1 w5 _
         have i1 : X5.heap[E5]? = some (.cells #[.slice pe mp ke, .slice te mt le] 36 (0, 0)) := by rw [← hX5]; exact heap_newH w5 _ E5 hE5
         have b2 : Below w.heap.size w w5 := (G4.out.1).trans (H5.out.2.mono (G4.out.1).size)
         exact ⟨b2.trans (b1.mono b2.size), b1, i1, (Array.getElem?_eq_some_iff.1 i1).1⟩⟩
       have JE5 : Bx _ := ⟨hE5⟩
       have AL : Bx (∃ B1 B2 B3 B4, (Ph w B1 E1 B2 E2 B3 B4 False False u v pa ta pb tb pc tc pd td ka la kb lb kc lc kd ld X5 ∧ Bxs E1 E2 E3 E4 E5 #[.slice pa np ka, .slice ta nt la] #[.slice pb mp kb, .slice tb mt lb] #[.slice pc np kc, .slice tc nt lc] #[.slice pd np kd, .slice td nt ld] #[.slice pe mp ke, .slice te mt le] X5 ∧ E1 < E2 ∧ E2 < E3 ∧ E3 < E4 ∧ E4 < E5) ∧ (∀ Y, Below X5.heap.size X5 Y → (Calls Tryd.prog 28 #[.agg #[.slice pa np ka, .slice ta nt la], .agg #[.slice pd np kd, .slice td nt ld]] Y fun e w' => e = .returned (.bool true) ∧ Below Y.heap.size Y w') ∧ (Calls Tryd.prog 28 #[.agg #[.slice pb mp kb, .slice tb mt lb], .agg #[.slice pe mp ke, .slice te mt le]] Y fun e w' => e = .returned (.bool true) ∧ Below Y.heap.size Y w') ∧ (Calls Tryd.prog 28 #[.agg #[.slice pc np kc, .slice tc nt lc], .agg #[.slice pd np kd, .slice td nt ld]] Y fun e w' => e = .returned (.bool true) ∧ Below Y.heap.size Y w'))) := ⟨by
         obtain ⟨⟨rfl, rfl⟩, rfl, rfl⟩ := NM.out
         obtain ⟨g1, i1, j1, l1⟩ := G1.out
         obtain ⟨g2, i2, j2, l2⟩ := G2.out
         obtain ⟨g3, i3, j3, l3⟩ := G3.out
         obtain ⟨g4, i4, j4, l4⟩ := G4.out
         obtain ⟨g5, i5, j5, l5⟩ := G5.out
         have k12 : Below X1.heap.size X1 X2 := H2.out.2.trans (i2.mono H2.out.2.size)
         have k23 : Below X2.heap.size X2 X3 := H3.out.2.trans (i3.mono H3.out.2.size)
         have k34 : Below X3.heap.size X3 X4 := H4.out.2.trans (i4.mono H4.out.2.size)
         have k45 : Below X4.heap.size X4 X5 := H5.out.2.trans (i5.mono H5.out.2.size)
         have k35 : Below X3.heap.size X3 X5 := k34.trans (k45.mono k34.size)
         have k25 : Below X2.heap.size X2 X5 := k23.trans (k35.mono k23.size)
         have k15 : Below X1.heap.size X1 X5 := k12.trans (k25.mono k12.size)
         obtain ⟨La, Ka, ta', pa', ia', sa⟩ := SpS.of (mark := -3) H1.out.1 SM1.out
         obtain ⟨Lb, Kb, tb', pb', ib', sb⟩ := SpS.of (mark := -4) H2.out.1 SM2.out
         have sa5 := (sa.below i1).below k15
         have sb5 := (sb.below i2).below k25
         rw [JE1.out] at sa5
         rw [JE2.out] at sb5
         have z0 := H0.out.size
         have z1 := H1.out.2.size
         have z2 := H2.out.2.size
         have z3 := H3.out.2.size
         have z4 := H4.out.2.size
         have z5 := H5.out.2.size
         have f1 := JE1.out
         have f2 := JE2.out
         have f3 := JE3.out
         have f4 := JE4.out
         have f5 := JE5.out
         have v25 := k25.size
         have ua := (H1.out.1.below i1).below k15
         have ub := (H2.out.1.below i2).below k25
         have uc := (H3.out.1.below i3).below k35
         have rd := (H4.out.1.up i4.size (fun x _ hx => i4.block x hx)).up k45.size (fun x _ hx => k45.block x hx)
         have re := H5.out.1.up i5.size (fun x _ hx => i5.block x hx)
         refine ⟨w0.heap.size + 1, X1.heap.size + 1, X2.heap.size + 1, X3.heap.size + 1, ⟨⟨g5, ⟨La, Ka, ta', pa', ia', sa5⟩, ⟨Lb, Kb, tb', pb', ib', sb5⟩, uc, rd, by omega, by omega, by omega, by omega, by omega, by omega, by omega, by omega⟩, ⟨below_heap k15 j1, below_heap k25 j2, below_heap k35 j3, below_heap k45 j4, j5⟩, by omega, by omega, by omega, by omega⟩, fun Y hY => ⟨?_, ?_, ?_⟩⟩
         · exact sameUnit_yes Y u pa ta pd td ka la kd ld (ua.below hY).unit (rd.up hY.size (fun x _ hx => hY.block x hx)).unit
         · exact sameUnit_yes Y v pb tb pe te kb lb ke le (ub.below hY).unit (re.up hY.size (fun x _ hx => hY.block x hx)).unit
         · exact sameUnit_yes Y u pc tc pd td kc lc kd ld (uc.below hY).unit (rd.up hY.size (fun x _ hx => hY.block x hx)).unit⟩
       obtain ⟨B1, B2, B3, B4, al5, co5⟩ := AL.out
       have A5 : Bx _ := ⟨al5⟩
       have CO : Bx _ := ⟨co5⟩
       have m1 : Bx True := ⟨trivial⟩
       have m2 : Bx True := ⟨trivial⟩
       have m3 : Bx True := ⟨trivial⟩
       have m4 : Bx True := ⟨trivial⟩
       have m5 : Bx True := ⟨trivial⟩
       have m6 : Bx True := ⟨trivial⟩
       have m7 : Bx True := ⟨trivial⟩
       have D5 : Bx (Below X5.heap.size X5 X5) := ⟨Below.refl _ _⟩
       obtain ⟨⟨a0, a1, a2⟩, ⟨b0, b1, b2⟩, ⟨c0, c1, c2⟩, ⟨d0, d1, d2⟩, ⟨e0, e1, e2⟩⟩ := cells5 al5.2.1
       clear AL al5 co5 G1 G2 G3 G4 G5 H1 H2 H3 H4 H5 SM1 SM2 JE1 JE2 JE3 JE4 JE5)
    | (go_at_call 28; have := m1; clear m1 this; refine ((CO.out _ D5.out).1).mono ?_; rintro e w6 ⟨rfl, hb6⟩
       have D6 : Bx (Below X5.heap.size X5 w6) := ⟨D5.out.trans (hb6.mono D5.out.size)⟩
       have A6 : Bx _ := ⟨(⟨A5.out.1.below hb6, A5.out.2.1.below hb6, A5.out.2.2⟩ : Ph w B1 E1 B2 E2 B3 B4 False False u v pa ta pb tb pc tc pd td ka la kb lb kc lc kd ld w6 ∧ Bxs E1 E2 E3 E4 E5 #[.slice pa np ka, .slice ta nt la] #[.slice pb mp kb, .slice tb mt lb] #[.slice pc np kc, .slice tc nt lc] #[.slice pd np kd, .slice td nt ld] #[.slice pe mp ke, .slice te mt le] w6 ∧ E1 < E2 ∧ E2 < E3 ∧ E3 < E4 ∧ E4 < E5)⟩
       clear a0 a1 a2 b0 b1 b2 c0 c1 c2 d0 d1 d2 e0 e1 e2
       obtain ⟨⟨a0, a1, a2⟩, ⟨b0, b1, b2⟩, ⟨c0, c1, c2⟩, ⟨d0, d1, d2⟩, ⟨e0, e1, e2⟩⟩ := cells5 A6.out.2.1
       clear hb6 A5 D5)
    | (go_at_call 28; have := m2; clear m2 this; refine ((CO.out _ D6.out).2.1).mono ?_; rintro e w7 ⟨rfl, hb7⟩
       have D7 : Bx (Below X5.heap.size X5 w7) := ⟨D6.out.trans (hb7.mono D6.out.size)⟩
       have A7 : Bx _ := ⟨(⟨A6.out.1.below hb7, A6.out.2.1.below hb7, A6.out.2.2⟩ : Ph w B1 E1 B2 E2 B3 B4 False False u v pa ta pb tb pc tc pd td ka la kb lb kc lc kd ld w7 ∧ Bxs E1 E2 E3 E4 E5 #[.slice pa np ka, .slice ta nt la] #[.slice pb mp kb, .slice tb mt lb] #[.slice pc np kc, .slice tc nt lc] #[.slice pd np kd, .slice td nt ld] #[.slice pe mp ke, .slice te mt le] w7 ∧ E1 < E2 ∧ E2 < E3 ∧ E3 < E4 ∧ E4 < E5)⟩
       clear a0 a1 a2 b0 b1 b2 c0 c1 c2 d0 d1 d2 e0 e1 e2
       obtain ⟨⟨a0, a1, a2⟩, ⟨b0, b1, b2⟩, ⟨c0, c1, c2⟩, ⟨d0, d1, d2⟩, ⟨e0, e1, e2⟩⟩ := cells5 A7.out.2.1
       clear hb7 A6 D6)
    | (go_at_call 28; have := m3; clear m3 this; refine ((CO.out _ D7.out).2.2).mono ?_; rintro e w8 ⟨rfl, hb8⟩
       have D8 : Bx (Below X5.heap.size X5 w8) := ⟨D7.out.trans (hb8.mono D7.out.size)⟩
       have A8 : Bx _ := ⟨(⟨A7.out.1.below hb8, A7.out.2.1.below hb8, A7.out.2.2⟩ : Ph w B1 E1 B2 E2 B3 B4 False False u v pa ta pb tb pc tc pd td ka la kb lb kc lc kd ld w8 ∧ Bxs E1 E2 E3 E4 E5 #[.slice pa np ka, .slice ta nt la] #[.slice pb mp kb, .slice tb mt lb] #[.slice pc np kc, .slice tc nt lc] #[.slice pd np kd, .slice td nt ld] #[.slice pe mp ke, .slice te mt le] w8 ∧ E1 < E2 ∧ E2 < E3 ∧ E3 < E4 ∧ E4 < E5)⟩
       clear a0 a1 a2 b0 b1 b2 c0 c1 c2 d0 d1 d2 e0 e1 e2
       obtain ⟨⟨a0, a1, a2⟩, ⟨b0, b1, b2⟩, ⟨c0, c1, c2⟩, ⟨d0, d1, d2⟩, ⟨e0, e1, e2⟩⟩ := cells5 A8.out.2.1
       clear hb8 A7 D7)
    | (go_at_call 29; have := m4; clear m4 this; refine (by obtain ⟨⟨rfl, rfl⟩, rfl, rfl⟩ := NM.out; exact A8.out.1.sa.spoil (by omega) (by have := A8.out.1.o1; have := A8.out.1.o2; have := A8.out.1.o3; have := A8.out.1.o6; omega) (by have := A8.out.1.o2; have := A8.out.1.o3; have := A8.out.1.o6; omega) : Calls Tryd.prog 29 #[.agg #[.slice pa np ka, .slice ta nt la], .int .i64 (-3)] w8 (fun e w' => e = .returned (.tuple #[]) ∧ Bx (Ov B1 E1 (-3) True pa ta u.progs.length ka u.types.length la w' ∧ SpF B1 E1 w8 w'))).mono ?_; rintro e w9 ⟨rfl, h9⟩
       have A9 : Bx _ := ⟨(⟨A8.out.1.a h9.out.2 h9.out.1, A8.out.2.1.to (fun x hx => h9.out.2.up x (by have := A8.out.2.2; omega) (by omega)), A8.out.2.2⟩ : Ph w B1 E1 B2 E2 B3 B4 True False u v pa ta pb tb pc tc pd td ka la kb lb kc lc kd ld w9 ∧ Bxs E1 E2 E3 E4 E5 #[.slice pa np ka, .slice ta nt la] #[.slice pb mp kb, .slice tb mt lb] #[.slice pc np kc, .slice tc nt lc] #[.slice pd np kd, .slice td nt ld] #[.slice pe mp ke, .slice te mt le] w9 ∧ E1 < E2 ∧ E2 < E3 ∧ E3 < E4 ∧ E4 < E5)⟩
       clear a0 a1 a2 b0 b1 b2 c0 c1 c2 d0 d1 d2 e0 e1 e2
       obtain ⟨⟨a0, a1, a2⟩, ⟨b0, b1, b2⟩, ⟨c0, c1, c2⟩, ⟨d0, d1, d2⟩, ⟨e0, e1, e2⟩⟩ := cells5 A9.out.2.1
       clear h9 A8 D8 CO)
    | (go_at_call 29; refine (by obtain ⟨⟨rfl, rfl⟩, rfl, rfl⟩ := NM.out; exact A9.out.1.sb.spoil (by omega) (by have := A9.out.1.o3; have := A9.out.1.o6; omega) (by have := A9.out.1.o6; omega) : Calls Tryd.prog 29 #[.agg #[.slice pb mp kb, .slice tb mt lb], .int .i64 (-4)] w9 (fun e w' => e = .returned (.tuple #[]) ∧ Bx (Ov B2 E2 (-4) True pb tb v.progs.length kb v.types.length lb w' ∧ SpF B2 E2 w9 w'))).mono ?_; rintro e w10 ⟨rfl, h10⟩
       have A10 : Bx _ := ⟨(⟨A9.out.1.b h10.out.2 h10.out.1, A9.out.2.1.to (fun x hx => by
         have o2 := A9.out.1.o2
         have o := A9.out.2.2
         rcases Nat.lt_or_ge x E2 with h | h
         · exact h10.out.2.bel.block x (by omega)
         · exact h10.out.2.up x h (by omega)), A9.out.2.2⟩ : Ph w B1 E1 B2 E2 B3 B4 True True u v pa ta pb tb pc tc pd td ka la kb lb kc lc kd ld w10 ∧ Bxs E1 E2 E3 E4 E5 #[.slice pa np ka, .slice ta nt la] #[.slice pb mp kb, .slice tb mt lb] #[.slice pc np kc, .slice tc nt lc] #[.slice pd np kd, .slice td nt ld] #[.slice pe mp ke, .slice te mt le] w10 ∧ E1 < E2 ∧ E2 < E3 ∧ E3 < E4 ∧ E4 < E5)⟩
       clear a0 a1 a2 b0 b1 b2 c0 c1 c2 d0 d1 d2 e0 e1 e2
       obtain ⟨⟨a0, a1, a2⟩, ⟨b0, b1, b2⟩, ⟨c0, c1, c2⟩, ⟨d0, d1, d2⟩, ⟨e0, e1, e2⟩⟩ := cells5 A10.out.2.1
       clear h10 A9)
    | (go_at_call 28; have := m5; clear m5 this; refine (by obtain ⟨⟨rfl, rfl⟩, rfl, rfl⟩ := NM.out; exact A10.out.1.same : Calls Tryd.prog 28 #[.agg #[.slice pc np kc, .slice tc nt lc], .agg #[.slice pd np kd, .slice td nt ld]] w10 (fun e w' => e = .returned (.bool true) ∧ Below w10.heap.size w10 w')).mono ?_; rintro e w11 ⟨rfl, hb11⟩
       have A11 : Bx _ := ⟨(⟨A10.out.1.below hb11, A10.out.2.1.below hb11, A10.out.2.2⟩ : Ph w B1 E1 B2 E2 B3 B4 True True u v pa ta pb tb pc tc pd td ka la kb lb kc lc kd ld w11 ∧ Bxs E1 E2 E3 E4 E5 #[.slice pa np ka, .slice ta nt la] #[.slice pb mp kb, .slice tb mt lb] #[.slice pc np kc, .slice tc nt lc] #[.slice pd np kd, .slice td nt ld] #[.slice pe mp ke, .slice te mt le] w11 ∧ E1 < E2 ∧ E2 < E3 ∧ E3 < E4 ∧ E4 < E5)⟩
       clear a0 a1 a2 b0 b1 b2 c0 c1 c2 d0 d1 d2 e0 e1 e2
       obtain ⟨⟨a0, a1, a2⟩, ⟨b0, b1, b2⟩, ⟨c0, c1, c2⟩, ⟨d0, d1, d2⟩, ⟨e0, e1, e2⟩⟩ := cells5 A11.out.2.1
       clear hb11 A10)
    | (go_at_call 30; have := m6; clear m6 this; refine (by obtain ⟨⟨rfl, rfl⟩, rfl, rfl⟩ := NM.out; exact A11.out.1.sa.marked : Calls Tryd.prog 30 #[.agg #[.slice pa np ka, .slice ta nt la], .int .i64 (-3)] w11 (fun e w' => e = .returned (.bool true) ∧ Below w11.heap.size w11 w')).mono ?_; rintro e w12 ⟨rfl, hb12⟩
       have A12 : Bx _ := ⟨(⟨A11.out.1.below hb12, A11.out.2.1.below hb12, A11.out.2.2⟩ : Ph w B1 E1 B2 E2 B3 B4 True True u v pa ta pb tb pc tc pd td ka la kb lb kc lc kd ld w12 ∧ Bxs E1 E2 E3 E4 E5 #[.slice pa np ka, .slice ta nt la] #[.slice pb mp kb, .slice tb mt lb] #[.slice pc np kc, .slice tc nt lc] #[.slice pd np kd, .slice td nt ld] #[.slice pe mp ke, .slice te mt le] w12 ∧ E1 < E2 ∧ E2 < E3 ∧ E3 < E4 ∧ E4 < E5)⟩
       clear a0 a1 a2 b0 b1 b2 c0 c1 c2 d0 d1 d2 e0 e1 e2
       obtain ⟨⟨a0, a1, a2⟩, ⟨b0, b1, b2⟩, ⟨c0, c1, c2⟩, ⟨d0, d1, d2⟩, ⟨e0, e1, e2⟩⟩ := cells5 A12.out.2.1
       clear hb12 A11)
    | (go_at_call 30; refine (by obtain ⟨⟨rfl, rfl⟩, rfl, rfl⟩ := NM.out; exact A12.out.1.sb.marked : Calls Tryd.prog 30 #[.agg #[.slice pb mp kb, .slice tb mt lb], .int .i64 (-4)] w12 (fun e w' => e = .returned (.bool true) ∧ Below w12.heap.size w12 w')).mono ?_; rintro e w13 ⟨rfl, hb13⟩
       have A13 : Bx _ := ⟨A12.out.1.bel.trans (hb13.mono A12.out.1.bel.size)⟩
       clear a0 a1 a2 b0 b1 b2 c0 c1 c2 d0 d1 d2 e0 e1 e2
       clear hb13 A12))
  go_ret
  exact ⟨rfl, A13.out⟩
end Go.Proofs.YtijdcplffmdijaaDoor
