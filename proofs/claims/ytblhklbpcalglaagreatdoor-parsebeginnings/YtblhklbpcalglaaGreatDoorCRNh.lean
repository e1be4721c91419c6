import Derived.Test.YtblhklbpcalglaaGreatDoorCRPr4
import Derived.Test.YtblhklbpcalglaaGreatDoorCRShw
import Derived.Test.YtblhklbpcalglaaGreatDoorCQR
import Derived.Test.YtblhklbpcalglaaGreatDoorCNext
import Derived.Test.YtblhklbpcalglaaGreatDoorCQL
namespace Go.Proofs.YtblhklbpcalglaaGreatDoor
open Go.RowKit
set_option linter.unusedVariables false
set_option linter.unusedSimpArgs false
mutual
def Tr.ht : Tr → Nat
  | .mk _ _ _ _ ks => hts ks + 1
def hts : List Tr → Nat
  | [] => 0
  | t :: r => max t.ht (hts r)
end
mutual
def hl : Tr → List Nat
  | .mk _ _ _ _ ks => hls ks ++ [hts ks + 1]
def hls : List Tr → List Nat
  | [] => []
  | t :: r => hl t ++ hls r
end
mutual
theorem hl_len : ∀ (t : Tr), (hl t).length = t.size
  | .mk k p n nm ks => by
    rw [hl, Tr.size, List.length_append, hls_len ks]
    rfl
theorem hls_len : ∀ (ts : List Tr), (hls ts).length = sizes ts
  | [] => rfl
  | t :: r => by
    rw [hls, sizes, List.length_append, hl_len t, hls_len r]
end
mutual
theorem hl_le : ∀ (t : Tr), ∀ h ∈ hl t, h ≤ t.ht
  | .mk k p n nm ks, h, hh => by
    rw [hl] at hh
    rw [Tr.ht]
    rcases List.mem_append.1 hh with hh | hh
    · have := hls_le ks h hh
      omega
    · have := List.mem_singleton.1 hh
      omega
theorem hls_le : ∀ (ts : List Tr), ∀ h ∈ hls ts, h ≤ hts ts
  | [], h, hh => by simp [hls] at hh
  | t :: r, h, hh => by
    rw [hls] at hh
    rw [hts]
    rcases List.mem_append.1 hh with hh | hh
    · have := hl_le t h hh
      omega
    · have := hls_le r h hh
      omega
end
mutual
theorem ht_size : ∀ (t : Tr), t.ht ≤ t.size
  | .mk k p n nm ks => by
    have := hts_sizes ks
    rw [Tr.ht, Tr.size]
    omega
theorem hts_sizes : ∀ (ts : List Tr), hts ts ≤ sizes ts
  | [] => Nat.le_refl _
  | t :: r => by
    have h1 := ht_size t
    have h2 := hts_sizes r
    rw [hts, sizes]
    omega
end
theorem hl_last (t : Tr) : ∃ r, hl t = r ++ [t.ht] := by
  cases t with
  | mk k p n nm ks => exact ⟨hls ks, by rw [hl, Tr.ht]⟩
theorem top_ends : ∀ (ks : List Tr) (A : List Nat) (t : Nat), topGo (A ++ hls ks) (ends ks A.length) t = max t (hts ks)
  | [], A, t => by simp [ends, topGo, hts]
  | x :: r, A, t => by
    obtain ⟨q, hq⟩ := hl_last x
    have hz := hl_len x
    have hp := size_pos x
    have ih := top_ends r (A ++ hl x) (max t x.ht)
    rw [List.length_append, hz] at ih
    rw [ends, topGo, hls, hts, ← List.append_assoc]
    have e1 : ((A ++ hl x) ++ hls r).getD (((A.length + x.size - 1 : Nat) : Int)).toNat 0 = x.ht := by
      have hql : q.length + 1 = x.size := by rw [← hz, hq]; simp
      rw [Int.toNat_natCast, show A.length + x.size - 1 = A.length + q.length by omega, hq, List.getD_eq_getElem?_getD, List.append_assoc, List.getElem?_append_right (by omega), show A.length + q.length - A.length = q.length by omega, List.append_assoc, List.getElem?_append_right (by omega)]
      simp
    rw [if_pos ⟨by omega, by simp only [List.length_append, hz]; omega⟩, e1, ih]
    omega
mutual
theorem hg_flat : ∀ (t : Tr) (A B : List Nd) (hs : List Nat) (n : Nat), hs.length = A.length → heightsGo (A ++ flat t A.length ++ B) (t.size + n) hs = heightsGo (A ++ flat t A.length ++ B) n (hs ++ hl t)
  | .mk k p m nm ks, A, B, hs, n, hh => by
    have ih := hg_flats ks A ([⟨k, p, ends ks A.length, ⟨nm.toArray⟩, m⟩] ++ B) hs (n + 1) hh
    simp only [flat, Tr.size, hl] at ih ⊢
    have e : ∀ (X Y Z : List Nd), A ++ (X ++ Y) ++ Z = A ++ X ++ (Y ++ Z) := fun X Y Z => by simp [List.append_assoc]
    rw [e, show sizes ks + 1 + n = sizes ks + (n + 1) by omega, ih, heightsGo]
    congr 1
    rw [List.append_assoc]
    congr 1
    have hlen : (hs ++ hls ks).length = (A ++ flats ks A.length).length := by simp [hls_len, flats_len, hh]
    have en : ndN (A ++ flats ks A.length ++ ([⟨k, p, ends ks A.length, ⟨nm.toArray⟩, m⟩] ++ B)) (hs ++ hls ks).length = ⟨k, p, ends ks A.length, ⟨nm.toArray⟩, m⟩ := by
      rw [hlen]
      unfold ndN
      rw [List.getD_eq_getElem?_getD, List.getElem?_append_right (Nat.le_refl _)]
      simp
    rw [en]
    simp only
    rw [← hh, top_ends ks hs 0]
    simp
theorem hg_flats : ∀ (ts : List Tr) (A B : List Nd) (hs : List Nat) (n : Nat), hs.length = A.length → heightsGo (A ++ flats ts A.length ++ B) (sizes ts + n) hs = heightsGo (A ++ flats ts A.length ++ B) n (hs ++ hls ts)
  | [], A, B, hs, n, hh => by simp [flats, sizes, hls]
  | t :: r, A, B, hs, n, hh => by
    have i1 := hg_flat t A (flats r (A.length + t.size) ++ B) hs (sizes r + n) hh
    have i2 := hg_flats r (A ++ flat t A.length) B (hs ++ hl t) n (by simp [hl_len, flat_len, hh])
    have e1 : (A ++ flat t A.length).length = A.length + t.size := by simp [flat_len]
    rw [e1] at i2
    have e : A ++ flats (t :: r) A.length ++ B = A ++ flat t A.length ++ (flats r (A.length + t.size) ++ B) := by rw [flats]; simp [List.append_assoc]
    have e' : A ++ flat t A.length ++ flats r (A.length + t.size) ++ B = A ++ flat t A.length ++ (flats r (A.length + t.size) ++ B) := by simp [List.append_assoc]
    rw [e'] at i2
    rw [e, sizes, hls, show t.size + sizes r + n = t.size + (sizes r + n) by omega, i1, i2, List.append_assoc hs]
end
theorem heights_flats (ts : List Tr) : heightsL (flats ts 0) = hls ts := by
  have h := hg_flats ts [] [] [] 0 rfl
  simp only [List.nil_append, List.append_nil, List.length_nil, Nat.add_zero] at h
  unfold heightsL
  rw [flats_len, h]
  rfl
theorem hi_none (l : List Nd) (nest : Int) : ∀ (hs : List Nat) (i : Nat), (∀ h ∈ hs, (h : Int) ≤ nest) → hiGo l nest hs i = (0, 0)
  | [], i, _ => rfl
  | h :: r, i, hh => by
    have := hh h (List.mem_cons_self ..)
    rw [hiGo, if_neg (by omega)]
    exact hi_none l nest r (i + 1) (fun x hx => hh x (List.mem_cons_of_mem _ hx))
theorem hi_some (l : List Nd) (nest : Int) : ∀ (hs : List Nat) (i : Nat), (∃ h ∈ hs, nest < (h : Int)) → (hiGo l nest hs i).2 = 31
  | [], i, ⟨h, hm, _⟩ => by simp at hm
  | h :: r, i, ⟨x, hm, hx⟩ => by
    rw [hiGo]
    split
    · rfl
    · rename_i hn
      rcases List.mem_cons.1 hm with rfl | hm
      · exact absurd hx hn
      · exact hi_some l nest r (i + 1) ⟨x, hm, hx⟩
theorem hi_exists (l : List Nd) (nest : Int) : ∀ (hs : List Nat) (i : Nat), (hiGo l nest hs i).2 ≠ 0 → ∃ h ∈ hs, nest < (h : Int)
  | [], i, e => by simp [hiGo] at e
  | h :: r, i, e => by
    rw [hiGo] at e
    split at e
    · rename_i hn
      exact ⟨h, List.mem_cons_self .., hn⟩
    · obtain ⟨x, hx, hy⟩ := hi_exists l nest r (i + 1) e
      exact ⟨x, List.mem_cons_of_mem _ hx, hy⟩
theorem program_one {f : Nat} {s s' : List PTok} {ts : List Tr} (h : pF (f + 1) .program s = .ok ts s') : ∃ t, ts = [t] := by
  simp only [pF, body] at h
  match h1 : pF f .types s with
  | .out => rw [h1] at h; simp [andT] at h
  | .err _ => rw [h1] at h; simp [andT] at h
  | .ok a s1 =>
    rw [h1] at h
    simp only [andT] at h
    match h2 : pF f .tops s1 with
    | .out => rw [h2] at h; simp at h
    | .err _ => rw [h2] at h; simp at h
    | .ok b s2 =>
      rw [h2] at h
      simp only [Res.ok.injEq] at h
      exact ⟨_, h.1.symm⟩
end Go.Proofs.YtblhklbpcalglaaGreatDoor
namespace Go.Proofs.YtblhklbpcalglaaGreatDoor
open Go.RowKit
set_option linter.unusedVariables false
set_option linter.unusedSimpArgs false
theorem parse_empty (xs : List UInt8) (nest : Int) (h : (parseR xs nest).2.2 ≠ 0) : (parseR xs nest).1 = [] := by
  unfold parseR at h ⊢
  by_cases h0 : (scanAll xs).2.2 = 0
  · rw [if_neg (fun h => h h0)] at h ⊢
    match hR : pF (parseF (scanAll xs).1.length + 1) .program (pts xs (withEnd (scanAll xs).1 xs.length) 0) with
    | .out => rfl
    | .err s' => rfl
    | .ok ts s' =>
      rw [hR] at h
      simp only at h ⊢
      split at h
      · rename_i h1
        rw [if_pos h1]
      · simp at h
  · rw [if_pos h0]
theorem parse_good (xs : List UInt8) (nest : Int) (h : (parseR xs nest).2.2 = 0) : (scanAll xs).2.2 = 0 ∧ ∃ t s', pF (parseF (scanAll xs).1.length + 1) .program (pts xs (withEnd (scanAll xs).1 xs.length) 0) = .ok [t] s' ∧ parseR xs nest = (flats [t] 0, 0, 0) ∧ hiGo (flats [t] 0) nest (heightsL (flats [t] 0)) 0 = (0, 0) := by
  unfold parseR at h ⊢
  by_cases h0 : (scanAll xs).2.2 = 0
  · rw [if_neg (fun h => h h0)] at h ⊢
    refine ⟨h0, ?_⟩
    have hne := parse_ne xs h0
    match hR : pF (parseF (scanAll xs).1.length + 1) .program (pts xs (withEnd (scanAll xs).1 xs.length) 0) with
    | .out => exact absurd hR hne
    | .err s' => rw [hR] at h; simp at h
    | .ok ts s' =>
      obtain ⟨t, rfl⟩ := program_one hR
      rw [hR] at h
      simp only at h ⊢
      split at h
      · rename_i h1
        exact absurd h h1
      · rename_i h1
        rw [if_neg h1]
        refine ⟨t, s', rfl, rfl, ?_⟩
        exact hi_zero _ _ _ _ (by simpa using h1)
  · rw [if_pos h0] at h
    exact absurd h (by simp only; omega)
theorem parse_wf (xs : List UInt8) (nest : Int) : (∀ n ∈ (parseR xs nest).1, NdWf n) ∧ (parseR xs nest).1.length ≤ 200000 ∧ ∀ n ∈ (parseR xs nest).1, n.kids.length ≤ 200000 := by
  by_cases h : (parseR xs nest).2.2 = 0
  · obtain ⟨h0, t, s', hR, e, _⟩ := parse_good xs nest h
    rw [e]
    exact read_in xs h0 _ [t] s' hR
  · rw [parse_empty xs nest h]
    exact ⟨fun n hn => by simp at hn, by simp, fun n hn => by simp at hn⟩
def ParX (w : World) (R : List Nd × Int × Int) (e : Ending) (w' : World) : Prop :=
  ∃ a cap, e = .returned (.tuple #[.slice a R.1.length cap, .agg #[.int .i64 R.2.1, .int .i64 R.2.2]]) ∧ Below w.heap.size w w' ∧ IsNodes w' w'.heap.size a cap R.1
theorem Parse_x (w : World) (hL : Laid w) (h7 : 7 ≤ w.heap.size) (a : Option Addr) (cap : Nat) (xs : List UInt8) (hs : IsSrc w a cap xs) (nest : Int) :
    Calls Tryz.prog 5 #[.slice a xs.length cap, .int .i64 nest] w (ParX w (parseR xs nest)) := by
  refine Calls.mono (Parse_any w hL h7 a cap xs hs nest) ?_
  rintro e w' ⟨nv, rfl, hb, h1, h2⟩
  by_cases h : (parseR xs nest).2.2 = 0
  · obtain ⟨rb, _, hno⟩ := h2 h
    obtain ⟨g1, g2, g3⟩ := parse_wf xs nest
    obtain ⟨a', c', rfl, hn⟩ := nodes_in hno g1 g2 g3
    exact ⟨a', c', rfl, hb, hn⟩
  · have e0 := parse_empty xs nest h
    refine ⟨none, 0, ?_, hb, ?_⟩
    · rw [h1 h, e0]; rfl
    · rw [e0]; exact ⟨fun h => absurd h (by simp), Nat.le_refl _⟩
end Go.Proofs.YtblhklbpcalglaaGreatDoor
namespace Go.Proofs.YtblhklbpcalglaaGreatDoor
open Go.RowKit
set_option linter.unusedVariables false
set_option linter.unusedSimpArgs false
theorem tl_le (s : List PTok) : (tl s).length ≤ s.length := by cases s <;> simp [tl]
theorem err_same {f : Nat} {pre S T : List PTok} (hh : hd S = hd T) (hS : 2 ≤ S.length) (hT : 2 ≤ T.length) (h : pF f .program (pre ++ S) = .err S) : pF f .program (pre ++ T) = .err T := by
  have h2 : Two S T (fun _ => True) (fun s => s.length < S.length) (fun _ => True) := by
    refine ⟨fun p _ => ?_, fun p _ => ?_, fun p _ h0 => ?_, fun s hs h0 => ?_, fun s _ _ => trivial⟩
    · cases p with
      | nil => exact hh
      | cons x q => rfl
    · constructor <;> intro h <;> simp at h <;> omega
    · cases p with
      | nil =>
        refine .inr ⟨?_, trivial⟩
        show (tl ([] ++ S)).length < S.length
        cases S with
        | nil => simp at hS
        | cons x q => simp [tl]
      | cons x q => exact .inl ⟨q, trivial, rfl, rfl⟩
    · have h3 := tl_le s
      have h4 : s.length < S.length := hs
      show (tl s).length < S.length
      omega
  have := pF_rel h2 f .program pre trivial trivial
  rw [h] at this
  rcases this with e | ⟨a, p, _, e, _⟩ | ⟨p, _, e1, e2⟩ | ⟨e, _⟩
  · cases e
  · cases e
  · injection e1 with e1
    have hp : p = [] := by
      have := congrArg List.length e1
      simp at this
      exact this
    subst hp
    exact e2
  · simp only [ZR] at e
    omega
theorem err_ahead {f : Nat} {pre S : List PTok} {eof : PTok} (he : eof.kind = 0) (hS : S ≠ []) (h : pF f .program (pre ++ S) = .err S) : ZR (fun t => t = [eof]) (pF f .program (pre ++ [eof])) := by
  have hJ : ∀ s : List PTok, s = [eof] → kd s ≠ 0 → tl s = [eof] := fun s hs h0 => by
    subst hs
    exact absurd he h0
  cases pre with
  | nil => exact pF_zr hJ f .program _ trivial rfl
  | cons x q =>
    have h2 : Two S [eof] (fun p => p ≠ []) (fun _ => True) (fun t => t = [eof]) := by
      refine ⟨fun p hp => ?_, fun p hp => ?_, fun p hp h0 => ?_, fun s _ _ => trivial, hJ⟩
      · cases p with
        | nil => exact absurd rfl hp
        | cons x q => rfl
      · cases p with
        | nil => exact absurd rfl hp
        | cons x q =>
          have h0 : 0 < S.length := List.length_pos_iff.2 hS
          have e1 : (x :: q ++ S).length = q.length + 1 + S.length := by simp; omega
          have e2 : (x :: q ++ [eof]).length = q.length + 2 := by simp
          rw [e1, e2]
          constructor <;> intro h <;> omega
      · cases p with
        | nil => exact absurd rfl hp
        | cons x q =>
          cases q with
          | nil => exact .inr ⟨trivial, rfl⟩
          | cons y r => exact .inl ⟨y :: r, by simp, rfl, rfl⟩
    have := pF_rel h2 f .program (x :: q) trivial (by simp)
    rw [h] at this
    rcases this with e | ⟨a, p, _, e, _⟩ | ⟨p, hp, e1, e2⟩ | ⟨_, e⟩
    · cases e
    · cases e
    · injection e1 with e1
      have : p = [] := by
        have := congrArg List.length e1
        simp at this
        exact this
      exact absurd this hp
    · exact e
theorem err_drop {f : Nat} {s u : List PTok} {n : Nat} (hn : s.length = n + 1) (hl : kd (s.drop n) = 0) (h : pF f .program s = .err u) : ∃ i, i ≤ n ∧ u = s.drop i := by
  have hI : ∀ v : List PTok, (∃ i, i ≤ n ∧ v = s.drop i) → kd v ≠ 0 → ∃ i, i ≤ n ∧ tl v = s.drop i := fun v ⟨i, hi, e⟩ h0 => by
    subst e
    refine ⟨i + 1, ?_, by simp [tl]⟩
    by_cases hin : i = n
    · subst hin; exact absurd hl h0
    · omega
  have := pF_zr hI f .program s trivial ⟨0, Nat.zero_le _, rfl⟩
  rw [h] at this
  exact this
structure BegR (xs : List UInt8) (toks : List Tok) (at_ : Nat) (i : Nat) : Prop where
  lt : i < toks.length
  only : ∀ j (h : j < toks.length), toks[j].place = at_ → j = i
  pl : (toks.getD i ⟨0, 0, 0, 0⟩).place = at_
  len : 1 ≤ (toks.getD i ⟨0, 0, 0, 0⟩).len
  le : at_ + (toks.getD i ⟨0, 0, 0, 0⟩).len ≤ xs.length
  long : ∀ z, (scanAll (xs.take (at_ + (toks.getD i ⟨0, 0, 0, 0⟩).len) ++ 32 :: z)).2.2 = 0 → parseR (xs.take (at_ + (toks.getD i ⟨0, 0, 0, 0⟩).len) ++ 32 :: z) 65536 = ([], (at_ : Int), 30)
  ahead : (parseR (xs.take at_) 65536).2.2 = 0 ∨ ((parseR (xs.take at_) 65536).2.2 = 30 ∧ (parseR (xs.take at_) 65536).2.1 = (at_ : Int))
theorem covers_apart (xs : List UInt8) : ∀ (l : List Tok) (k : Nat), Covers xs k l → ∀ u ∈ l, k ≤ u.place ∧ 1 ≤ u.len
  | [], k, _, u, hu => by cases hu
  | t :: r, k, h, u, hu => by
    obtain ⟨q1, q2, q3, q4⟩ := h
    have hlen := nextR_len xs t.place q2 (by rw [q3])
    rw [q3] at hlen
    simp only at hlen
    have hk : k ≤ t.place := by
      have : k ≤ skipTo xs k := by unfold skipTo; omega
      omega
    rcases List.mem_cons.1 hu with rfl | hu
    · exact ⟨hk, hlen.1⟩
    · have := covers_apart xs r _ q4 u hu
      exact ⟨by omega, this.2⟩
theorem covers_rise (xs : List UInt8) (t : Tok) (rest : List Tok) : ∀ (pre : List Tok) (k : Nat), Covers xs k (pre ++ t :: rest) → ∀ u ∈ pre, u.place + u.len ≤ t.place
  | [], k, _, u, hu => by cases hu
  | v :: r, k, h, u, hu => by
    obtain ⟨q1, q2, q3, q4⟩ := h
    rcases List.mem_cons.1 hu with rfl | hu
    · exact (covers_apart xs _ _ q4 t (by simp)).1
    · exact covers_rise xs t rest r _ q4 u hu
theorem begins_plain (xs : List UInt8) (hs : (scanAll xs).2.2 = 0) (at_ : Nat) (hp : parseR xs 65536 = ([], (at_ : Int), 30)) (hlt : at_ < xs.length) : ∃ i, BegR xs (scanAll xs).1 at_ i := by
  obtain ⟨hc, hl⟩ := scan_covers xs hs
  obtain ⟨okt, hlen, hfew⟩ := scan_okts xs hs
  have hne := parse_ne xs hs
  unfold parseR at hp
  rw [if_neg (fun h => h hs)] at hp
  match hR : pF (parseF (scanAll xs).1.length + 1) .program (pts xs (withEnd (scanAll xs).1 xs.length) 0) with
  | .out => exact absurd hR hne
  | .ok ts s' =>
    rw [hR] at hp
    simp only at hp
    split at hp
    · rename_i h1
      obtain ⟨x, hx, hy⟩ := hi_exists _ _ _ _ h1
      have h31 := hi_some (flats ts 0) 65536 (heightsL (flats ts 0)) 0 ⟨x, hx, hy⟩
      have := congrArg (fun q => q.2.2) hp
      simp only at this
      rw [h31] at this
      exact absurd this (by decide)
    · have := congrArg (fun q => q.2.2) hp
      simp at this
  | .err u =>
    rw [hR] at hp
    have hpl : ((hd u).place : Int) = (at_ : Int) := congrArg (fun q => q.2.1) hp
    generalize htk : (scanAll xs).1 = toks at *
    have hlast : kd ((pts xs (withEnd toks xs.length) 0).drop toks.length) = 0 := by
      simp [pts, withEnd, kd, hd, ptok]
    obtain ⟨i, hi, hu⟩ := err_drop hlen hlast hR
    have hin : i < toks.length := by
      by_cases he : i = toks.length
      · subst he
        subst hu
        have : (hd ((pts xs (withEnd toks xs.length) 0).drop toks.length)).place = xs.length := by simp [pts, withEnd, hd, ptok]
        omega
      · omega
    have hget : toks.getD i ⟨0, 0, 0, 0⟩ = toks[i] := by simp [List.getD, hin]
    have hdr : (pts xs (withEnd toks xs.length) 0).drop i = ptok xs toks[i] :: (pts xs (withEnd toks xs.length) 0).drop (i + 1) := by
      rw [List.drop_eq_getElem_cons (by omega)]
      congr 1
      simp only [pts, withEnd, List.drop_zero, List.map_append, List.map_cons, List.map_nil]
      rw [List.getElem_append_left (by simpa using hin)]
      simp
    have hplace : toks[i].place = at_ := by
      rw [hu, hdr] at hpl
      simp only [hd, List.headD_cons, ptok] at hpl
      omega
    have hsplit : toks = toks.take i ++ toks[i] :: toks.drop (i + 1) := by rw [← List.drop_eq_getElem_cons hin, List.take_append_drop]
    have hsp : pts xs (withEnd toks xs.length) 0 = (pts xs (withEnd toks xs.length) 0).take i ++ u := by rw [hu, List.take_append_drop]
    have hpre : (pts xs (withEnd toks xs.length) 0).take i = (toks.take i).map (ptok xs) := by
      simp only [pts, withEnd, List.drop_zero]
      rw [← List.map_take, List.take_append_of_le_length (by omega)]
    have hc' := hc
    rw [hsplit] at hc'
    have hall := covers_all xs toks 0 hc i hin
    have hrise := covers_rise xs toks[i] _ _ 0 hc'
    have hul : 2 ≤ u.length := by rw [hu, List.length_drop, hlen]; omega
    have hptok : ∀ (e : Nat) (z : List UInt8) (v : Tok), v.place + v.len ≤ e → e ≤ xs.length → ptok (xs.take e ++ z) v = ptok xs v := fun e z v hv he => by
      unfold ptok
      rw [cut_ends (xs.take e) z v.place (v.place + v.len) (by omega) (by rw [List.length_take]; omega), cut_take xs _ _ e hv]
    have hmap : ∀ (e : Nat) (z : List UInt8), toks[i].place ≤ e → e ≤ xs.length → (toks.take i).map (ptok (xs.take e ++ z)) = (toks.take i).map (ptok xs) := fun e z h1 h2 => List.map_congr_left (fun v hv => hptok e z v (by have := hrise v hv; omega) h2)
    rw [hsp, hpre] at hR
    have hrise2 : ∀ j (h : j < toks.length), i < j → toks[i].place < toks[j].place := fun j hj hij => by
      have hs2 : toks = toks.take j ++ toks[j] :: toks.drop (j + 1) := by rw [← List.drop_eq_getElem_cons hj, List.take_append_drop]
      have hc2 := hc
      rw [hs2] at hc2
      have := covers_rise xs toks[j] _ _ 0 hc2 toks[i] (List.mem_take_iff_getElem.2 ⟨i, by omega, rfl⟩)
      have := hall.2.1
      omega
    have honly : ∀ j (h : j < toks.length), toks[j].place = at_ → j = i := fun j hj he => by
      by_cases h1 : j < i
      · have := hrise toks[j] (List.mem_take_iff_getElem.2 ⟨j, by omega, rfl⟩)
        have := (covers_all xs toks 0 hc j hj).2.1
        omega
      · by_cases h2 : i < j
        · have := hrise2 j hj h2
          omega
        · omega
    refine ⟨i, hin, honly, by rw [hget]; exact hplace, by rw [hget]; exact hall.2.1, by rw [hget, ← hplace]; exact hall.2.2, fun z hz => ?_, ?_⟩
    · rw [hget, ← hplace] at hz ⊢
      obtain ⟨hc2, hl2⟩ := scan_covers _ hz
      have hne2 := parse_ne _ hz
      obtain ⟨rest2, hl2e⟩ := covers_behind xs z toks[i] _ (toks[i].place + toks[i].len) rfl hall.2.2 (toks.take i) 0 _ hc' (fun v hv => by have := hrise v hv; omega) hc2
      unfold parseR
      rw [if_neg (fun h => h hz)]
      generalize hys : xs.take (toks[i].place + toks[i].len) ++ 32 :: z = ys at *
      have e1 : pts ys (withEnd (scanAll ys).1 ys.length) 0 = (toks.take i).map (ptok xs) ++ (ptok xs toks[i] :: (rest2 ++ [(⟨0, ys.length, 0, 0⟩ : Tok)]).map (ptok ys)) := by
        have m1 := hmap (toks[i].place + toks[i].len) (32 :: z) (by omega) hall.2.2
        have m2 := hptok (toks[i].place + toks[i].len) (32 :: z) toks[i] (by omega) hall.2.2
        rw [hys] at m1 m2
        rw [hl2e]
        simp only [pts, withEnd, List.drop_zero, List.map_append, List.map_cons, List.append_assoc, List.cons_append, m1, m2]
      have hT := err_same (T := ptok xs toks[i] :: (rest2 ++ [(⟨0, ys.length, 0, 0⟩ : Tok)]).map (ptok ys)) (by rw [hu, hdr]; rfl) hul (by simp) hR
      rw [e1] at hne2 ⊢
      rw [pF_one hne2 (by rw [hT]; exact fun e => by cases e), hT]
      simp only [hd, List.headD_cons, ptok]
    · have hcA := covers_ahead xs toks[i] _ (toks.take i) 0 (Nat.zero_le _) hc' hrise
      rw [hplace] at hcA
      have hylen : (xs.take at_).length = at_ := by rw [List.length_take]; omega
      have hsA := covers_scan _ _ hcA (by omega)
      have hz : (scanAll (xs.take at_)).2.2 = 0 := by rw [hsA]
      have hne2 := parse_ne _ hz
      have hwl := pF_wl (parseF (scanAll (xs.take at_)).1.length + 1) .program _ trivial (scan_okts _ hz).1 (by have := scan_okts _ hz; omega)
      have hil := covers_len _ _ 0 (Nat.zero_le _) hcA
      unfold parseR
      rw [if_neg (fun h => h hz)]
      rw [hsA] at hne2 hwl ⊢
      simp only at hne2 hwl ⊢
      have htl : (toks.take i).length = i := by rw [List.length_take]; omega
      have e1 : pts (xs.take at_) (withEnd (toks.take i) (xs.take at_).length) 0 = (toks.take i).map (ptok xs) ++ [ptok (xs.take at_) ⟨0, (xs.take at_).length, 0, 0⟩] := by
        have m1 := hmap at_ [] (by omega) (by omega)
        rw [List.append_nil] at m1
        simp only [pts, withEnd, List.drop_zero, List.map_append, List.map_cons, List.map_nil, m1]
      rw [e1] at hne2 hwl ⊢
      have hA := err_ahead (eof := ptok (xs.take at_) ⟨0, (xs.take at_).length, 0, 0⟩) rfl (by intro e; rw [e] at hul; simp at hul) hR
      have hfu : pF (parseF (toks.take i).length + 1) .program ((toks.take i).map (ptok xs) ++ [ptok (xs.take at_) ⟨0, (xs.take at_).length, 0, 0⟩]) = pF (parseF toks.length + 1) .program ((toks.take i).map (ptok xs) ++ [ptok (xs.take at_) ⟨0, (xs.take at_).length, 0, 0⟩]) := by
        rcases pF_lf (show parseF (toks.take i).length + 1 ≤ parseF toks.length + 1 by unfold parseF; omega) .program ((toks.take i).map (ptok xs) ++ [ptok (xs.take at_) ⟨0, (xs.take at_).length, 0, 0⟩]) with e | e
        · exact absurd e hne2
        · exact e
      rw [← hfu] at hA
      clear hfu
      generalize pF (parseF (toks.take i).length + 1) .program ((toks.take i).map (ptok xs) ++ [ptok (xs.take at_) ⟨0, (xs.take at_).length, 0, 0⟩]) = R at *
      match R, hA, hne2, hwl with
      | .out, _, h, _ => exact absurd rfl h
      | .err t, h, _, _ =>
        have : t = _ := h
        subst this
        refine .inr ⟨rfl, ?_⟩
        simp only [hd, List.headD_cons, ptok, hylen]
      | .ok ts t, h, _, hw =>
        have : t = _ := h
        subst this
        obtain ⟨_, _, hz3⟩ := hw
        simp only [exR, slR, List.length_append, List.length_map, List.length_cons, List.length_nil] at hz3
        have hh : hts ts ≤ 65536 := by
          have := hts_sizes ts
          omega
        have hno := hi_none (flats ts 0) 65536 (hls ts) 0 (fun x hx => by have := hls_le ts x hx; omega)
        left
        simp only
        rw [heights_flats, hno, if_neg (fun h => h rfl)]
theorem parse_err (xs : List UInt8) (nest : Int) (hs : (scanAll xs).2.2 = 0) (h : (parseR xs nest).2.2 = 30) : ∃ at_ : Nat, parseR xs nest = ([], (at_ : Int), 30) := by
  unfold parseR at h ⊢
  rw [if_neg (fun h => h hs)] at h ⊢
  match hR : pF (parseF (scanAll xs).1.length + 1) .program (pts xs (withEnd (scanAll xs).1 xs.length) 0) with
  | .out => rw [hR] at h; simp at h
  | .err u => exact ⟨_, rfl⟩
  | .ok ts u =>
    rw [hR] at h
    simp only at h
    split at h
    · rename_i h1
      obtain ⟨x, hx, hy⟩ := hi_exists _ _ _ _ h1
      rw [show (([] : List Nd), hiGo (flats ts 0) nest (heightsL (flats ts 0)) 0).2.2 = 31 from hi_some _ _ _ _ ⟨x, hx, hy⟩] at h
      exact absurd h (by decide)
    · simp at h
end Go.Proofs.YtblhklbpcalglaaGreatDoor
