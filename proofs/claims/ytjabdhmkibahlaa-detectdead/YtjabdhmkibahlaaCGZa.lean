import Derived.Test.YtjabdhmkibahlaaCGR
namespace Go.Proofs.Ytjabdhmkibahlaa
open Go.RowKit Go.MapKept Go.ChangeMaps Go.WideShapes
set_option linter.unusedVariables false
set_option linter.unusedSimpArgs false

/-- who stands where, at the end -/
structure Cz (f : Int → Ag) (hs : Int → Bool) (C : Int → Option Nat) (ids : Int → Stc → List Int) : Prop where
  mem : ∀ c s k, k ∈ ids c s ↔ (hs k = true ∧ I64 k) ∧ (onI (f k).arms c = true ∧ waitI (f k).arms c = s ∨ s = awk ∧ (f k).awake = true ∧ c ∈ (f k).held ∧ C c ≠ none)
  nod : ∀ c s, (ids c s).Nodup
  has : ∀ c, C c ≠ none ↔ ∃ k, (hs k = true ∧ I64 k) ∧ onI (f k).arms c = true
def BcPost (w0 : World) (f : Int → Ag) (hs : Int → Bool) (e : Ending) (w' : World) : Prop := ∃ wb N C V ids own, e = .returned (.map (some wb)) ∧ CrI w' w0.heap.size wb N C V ids own ∧ Below w0.heap.size w0 w' ∧ Cz f hs C ids
structure Fine (f : Int → Ag) (hs : Int → Bool) (ks : List Int) : Prop where
  keys : ∀ k, hs k = true → k ∈ ks
  few : ks.length ≤ 4097
  arms : ∀ k, (f k).arms.length ≤ 2147483647
  held : ∀ k, (f k).held.length ≤ 2147483647
  ris : ∀ k, (f k).awake = true → (f k).held.Pairwise (· < ·)
theorem on_64 {w : World} {p : Option Addr} {c : Nat} {l : List Hd} (h : HdsR w p c l) {d : Int} (hd : onI l d = true) : I64 d := by
  unfold onI at hd
  obtain ⟨x, hx, he⟩ := List.any_eq_true.1 hd
  obtain ⟨i, hi, rfl⟩ := List.mem_iff_getElem.1 hx
  obtain ⟨_, _, _, h1, _⟩ := h.at_ i hi
  simp at he
  rw [← he.2]
  exact h1

/-- who stands where, while those that are awake join -/
structure Cj (f : Int → Ag) (hs : Int → Bool) (C : Int → Option Nat) (ids : Int → Stc → List Int) (left : Int → Bool) : Prop where
  mem : ∀ c s k, k ∈ ids c s ↔ (hs k = true ∧ I64 k) ∧ (onI (f k).arms c = true ∧ waitI (f k).arms c = s ∨ s = awk ∧ left k = false ∧ (f k).awake = true ∧ c ∈ (f k).held ∧ C c ≠ none)
  nod : ∀ c s, (ids c s).Nodup
  has : ∀ c, C c ≠ none ↔ ∃ k, (hs k = true ∧ I64 k) ∧ onI (f k).arms c = true
theorem wait_awk (l : List Hd) (c : Int) : waitI l c ≠ awk := fun e => by
  have := waitF_awake c l st0 rfl
  rw [show waitF c st0 l = awk from e] at this
  cases this
theorem Cj.join {f : Int → Ag} {hs : Int → Bool} {C : Int → Option Nat} {ids ids' : Int → Stc → List Int} {left : Int → Bool} (h : Cj f hs C ids left) {k0 : Int} (h64 : I64 k0) (hhs : hs k0 = true) (hlf : left k0 = true) (haw : (f k0).awake = true) (hj : Jn C ids ids' (f k0).held k0) : Cj f hs C ids' (fun d => left d && !(d == k0)) := by
  have hnot : ∀ c, k0 ∉ ids c awk := fun c hm => by
    rcases ((h.mem c awk k0).1 hm).2 with ⟨_, h1⟩ | ⟨_, h1, _⟩
    · exact wait_awk _ _ h1
    · rw [hlf] at h1; cases h1
  refine ⟨fun c s k => ?_, fun c s => ?_, h.has⟩
  · by_cases e : s = awk ∧ c ∈ (f k0).held ∧ C c ≠ none
    · obtain ⟨rfl, h1, h2⟩ := e
      rw [hj.yes c h1 h2, List.mem_append, List.mem_singleton, h.mem]
      constructor
      · rintro (⟨h3, h4 | ⟨_, h5, h6⟩⟩ | rfl)
        · exact ⟨h3, .inl h4⟩
        · exact ⟨h3, .inr ⟨rfl, by rw [h5]; rfl, h6⟩⟩
        · exact ⟨⟨hhs, h64⟩, .inr ⟨rfl, by simp, haw, h1, h2⟩⟩
      · rintro ⟨h3, h4 | ⟨_, h5, h6⟩⟩
        · exact .inl ⟨h3, .inl h4⟩
        · by_cases e2 : k = k0
          · exact .inr e2
          · exact .inl ⟨h3, .inr ⟨rfl, by simpa [e2] using h5, h6⟩⟩
    · rw [hj.no c s e, h.mem]
      constructor
      · rintro ⟨h3, h4 | ⟨h5, h6, h7⟩⟩
        · exact ⟨h3, .inl h4⟩
        · exact ⟨h3, .inr ⟨h5, by rw [h6]; rfl, h7⟩⟩
      · rintro ⟨h3, h4 | ⟨h5, h6, h7⟩⟩
        · exact ⟨h3, .inl h4⟩
        · by_cases e2 : k = k0
          · subst e2
            exact absurd ⟨h5, h7.2.1, h7.2.2⟩ e
          · exact ⟨h3, .inr ⟨h5, by simpa [e2] using h6, h7⟩⟩
  · by_cases e : s = awk ∧ c ∈ (f k0).held ∧ C c ≠ none
    · obtain ⟨rfl, h1, h2⟩ := e
      rw [hj.yes c h1 h2]
      refine List.nodup_append.2 ⟨h.nod _ _, by simp, fun a ha b hb => ?_⟩
      rw [List.mem_singleton] at hb
      subst hb
      rintro rfl
      exact hnot c ha
    · rw [hj.no c s e]; exact h.nod _ _
theorem Cj.skip {f : Int → Ag} {hs : Int → Bool} {C : Int → Option Nat} {ids : Int → Stc → List Int} {left : Int → Bool} (h : Cj f hs C ids left) {k0 : Int} (haw : (f k0).awake = false) : Cj f hs C ids (fun d => left d && !(d == k0)) := by
  refine ⟨fun c s k => ?_, h.nod, h.has⟩
  rw [h.mem]
  constructor
  · rintro ⟨h3, h4 | ⟨h5, h6, h7⟩⟩
    · exact ⟨h3, .inl h4⟩
    · exact ⟨h3, .inr ⟨h5, by rw [h6]; rfl, h7⟩⟩
  · rintro ⟨h3, h4 | ⟨h5, h6, h7⟩⟩
    · exact ⟨h3, .inl h4⟩
    · by_cases e2 : k = k0
      · subst e2; rw [haw] at h7; cases h7.1
      · exact ⟨h3, .inr ⟨h5, by simpa [e2] using h6, h7⟩⟩
theorem bnd1 {N g h : Nat} (h1 : N + g * 4294967296 ≤ 8194 * 4294967296) (h2 : h ≤ 2147483647) : N + h < maxLen :=
  Nat.lt_of_le_of_lt (Nat.add_le_add (Nat.le_trans (Nat.le_add_right _ _) h1) h2) (by decide)
set_option maxRecDepth 100000 in
theorem bnd2 {N g c h : Nat} (h1 : N + g * 4294967296 ≤ 8194 * 4294967296) (h2 : h ≤ 2147483647) (h3 : c < g) : N + h + c * 4294967296 ≤ 8194 * 4294967296 := by
  have a : h ≤ 4294967296 := Nat.le_trans h2 (by decide)
  have b : (c + 1) * 4294967296 ≤ g * 4294967296 := Nat.mul_le_mul_right _ h3
  rw [Nat.succ_mul] at b
  refine Nat.le_trans ?_ h1
  rw [Nat.add_assoc]
  refine Nat.add_le_add_left ?_ N
  rw [Nat.add_comm]
  exact Nat.le_trans (Nat.add_le_add_left a _) b
set_option maxRecDepth 100000 in
theorem bnd3 {N g c : Nat} (h1 : N + g * 4294967296 ≤ 8194 * 4294967296) (h3 : c < g) : N + c * 4294967296 ≤ 8194 * 4294967296 := bnd2 (h := 0) h1 (Nat.zero_le _) h3
set_option maxRecDepth 100000 in
theorem bnd4 {N g c n : Nat} (h1 : N + g * 4294967296 ≤ 4097 * 4294967296) (h2 : c ≤ n) (h3 : n ≤ 4097) : N + c * 4294967296 ≤ 8194 * 4294967296 :=
  Nat.le_trans (Nat.add_le_add (Nat.le_trans (Nat.le_add_right _ _) h1) (Nat.mul_le_mul_right _ (Nat.le_trans h2 h3))) (by decide)
theorem cj_len {f : Int → Ag} {hs : Int → Bool} {C : Int → Option Nat} {ids : Int → Stc → List Int} {left : Int → Bool} {ks : List Int} (h : Cj f hs C ids left) (hf : Fine f hs ks) (c : Int) (s : Stc) : (ids c s).length ≤ 100000 := by
  have := nod_len (h.nod c s) (ks := ks) (fun x hx => hf.keys x ((h.mem c s x).1 hx).1.1)
  have := hf.few
  omega
/-- the round of the loop within: one is entered at one channel -/
theorem enter_at {w0 w5 : World} {mb r nW : Nat} {M : Int → Value} {hs left : Int → Bool} {cnt2 wb N2 : Nat} {C2 : Int → Option Nat} {V2 : Int → Stc → Value} {ids2 : Int → Stc → List Int} {own2 : Nat → Option Lb} {m2 r2 n2 g : Nat} {left2 : Int → Bool} {cnt5 : Nat} {f : Int → Ag} {ks : List Int} {k0 c0 : Int}
    (hct : Ct f C2 ids2 (fun k c => (hs k = true ∧ I64 k) ∧ left k = false ∧ onI (f k).arms c = true ∨ k = k0 ∧ onI (f k0).arms c = true ∧ left2 c = false))
    (h : In2 w0 w5 mb r nW M hs (fun d => left d && !(d == k0)) cnt2 wb N2 C2 V2 ids2 own2 m2 r2 n2 (f k0).arms (fun d => left2 d && !(d == c0)) cnt5) (hf : Fine f hs ks) (h64 : I64 k0) (hlf : left k0 = true) (hhs : hs k0 = true) (h64c : I64 c0) (hlc : left2 c0 = true) (honc : onI (f k0).arms c0 = true)
    (hN : N2 + 2 * g + cnt2 * 4294967296 ≤ 4097 * 4294967296) (hlt : cnt5 < g) :
    let Z := w5.alloc (.cells #[.bool (waitI (f k0).arms c0).awake, .bool (waitI (f k0).arms c0).sends, .bool (waitI (f k0).arms c0).recvs] 72)
    let FIN : World → Prop := fun w3 => ∃ C' V' ids' own', In2 w0 w3 mb r nW M hs (fun d => left d && !(d == k0)) cnt2 wb (N2 + 2) C' V' ids' own' m2 r2 n2 (f k0).arms (fun d => left2 d && !(d == c0)) cnt5 ∧ N2 + 2 + 2 * cnt5 + cnt2 * 4294967296 ≤ 4097 * 4294967296 ∧ Ct f C' ids' (fun k c => (hs k = true ∧ I64 k) ∧ left k = false ∧ onI (f k).arms c = true ∨ k = k0 ∧ onI (f k0).arms c = true ∧ (left2 c && !(c == c0)) = false)
    ((Instr.lookup 63 (.map (some wb)) (.int .i64 c0) false).run Try.prog Z = .ok (.map none) Z ∧ (binOp BinOp.eql 75 (Value.map none) (Value.map none)).run Try.prog Z = .ok (.bool true) Z ∧
      ∃ w6, (Instr.mapUpdate 63 (.map (some wb)) (.int .i64 c0) (.map (some Z.heap.size))).run Try.prog (Z.alloc (.map #[] 0)) = .ok () w6 ∧ (Instr.lookup 63 (.map (some wb)) (.int .i64 c0) false).run Try.prog w6 = .ok (.map (some Z.heap.size)) w6 ∧
        (w6.cell? ⟨w5.heap.size, 0, none⟩ = some (.bool (waitI (f k0).arms c0).awake) ∧ w6.cell? ⟨w5.heap.size, 1, none⟩ = some (.bool (waitI (f k0).arms c0).sends) ∧ w6.cell? ⟨w5.heap.size, 2, none⟩ = some (.bool (waitI (f k0).arms c0).recvs)) ∧ Bx (AddF w0 w6 Z.heap.size (waitI (f k0).arms c0) k0 FIN)) ∨
    (∃ cb, (Instr.lookup 63 (.map (some wb)) (.int .i64 c0) false).run Try.prog Z = .ok (.map (some cb)) Z ∧ (binOp BinOp.eql 75 (Value.map (some cb)) (Value.map none)).run Try.prog Z = .ok (.bool false) Z ∧
        (Z.cell? ⟨w5.heap.size, 0, none⟩ = some (.bool (waitI (f k0).arms c0).awake) ∧ Z.cell? ⟨w5.heap.size, 1, none⟩ = some (.bool (waitI (f k0).arms c0).sends) ∧ Z.cell? ⟨w5.heap.size, 2, none⟩ = some (.bool (waitI (f k0).arms c0).recvs)) ∧ Bx (AddF w0 Z cb (waitI (f k0).arms c0) k0 FIN)) := by
  intro Z FIN
  have hZ := h.below (below1 w5 (.cells #[.bool (waitI (f k0).arms c0).awake, .bool (waitI (f k0).arms c0).sends, .bool (waitI (f k0).arms c0).recvs] 72))
  have hwl := h.in1.cr.map.lt
  refine hZ.enter hct h64c ?_ (by unfold maxLen; omega) (ks := ks) (fun k c hp => ?_) (by have := hf.few; omega) (g := w5.heap.size) (World.alloc_heap_new _ _) ⟨by simp, ?_, by omega⟩ FIN (fun w3 C' V' ids' own' hi hc => ⟨C', V', ids', own', hi, by omega, hc.ext (fun k c => ?_)⟩)
  · rintro (⟨_, h1, _⟩ | ⟨_, _, h1⟩)
    · rw [hlf] at h1; cases h1
    · rw [hlc] at h1; cases h1
  · rcases hp with ⟨h1, _⟩ | ⟨rfl, _⟩
    · exact hf.keys k h1.1
    · exact hf.keys k hhs
  · cases hx : own2 w5.heap.size with
    | none => rfl
    | some l =>
      have := (h.in1.cr.low _ (by rw [hx]; simp)).2
      omega
  · constructor
    · rintro (h1 | ⟨rfl, h1, h2⟩)
      · exact .inl (.inl h1)
      · by_cases e : c = c0
        · exact .inr ⟨rfl, e⟩
        · exact .inl (.inr ⟨rfl, h1, by simpa [e] using h2⟩)
    · rintro ((h1 | ⟨rfl, h1, h2⟩) | ⟨rfl, rfl⟩)
      · exact .inl h1
      · exact .inr ⟨rfl, h1, by rw [h2]; rfl⟩
      · exact .inr ⟨rfl, honc, by simp⟩

set_option maxRecDepth 100000 in
set_option maxHeartbeats 16000000 in
theorem byChannel_any (w0 : World) (mb nW : Nat) (M : Int → Value) (hs : Int → Bool) (f : Int → Ag) (ks : List Int) (hm : MpI w0 mb nW zV M hs) (hv : WhoV w0 f M) (hn : nW ≤ 4097) (hf : Fine f hs ks) :
    Calls Try.prog 38 #[.map (some mb)] w0 (BcPost w0 f hs) := by
  obtain ⟨i0, hi, iz0, iz1, iz2⟩ := info_parts infoI
  have hmm := @run_makeMap Try.prog
  obtain ⟨X, hX⟩ : ∃ X, w0.alloc (.map #[] 0) = X := ⟨_, rfl⟩
  have hbX : Below w0.heap.size w0 X := by rw [← hX]; exact below1 _ _
  have hcX : CrI X w0.heap.size w0.heap.size 0 (fun _ => none) (fun _ _ => nV) (fun _ _ => []) (fun _ => none) := by rw [← hX]; exact cr_new w0
  have hzX : X.heap.size = w0.heap.size + 1 := by rw [← hX]; simp
  have HM : Bx (MpI X mb nW zV M hs) := ⟨hm.below hbX⟩
  have HC : Bx (CrI X w0.heap.size w0.heap.size 0 (fun _ => none) (fun _ _ => nV) (fun _ _ => []) (fun _ => none) ∧ Below w0.heap.size w0 X ∧ X.heap.size = w0.heap.size + 1 ∧ mb < w0.heap.size) := ⟨hcX, hbX, hzX, hm.lt⟩
  have HXE : Bx (w0.alloc (.map #[] 0) = X) := ⟨hX⟩
  have HV : Bx (WhoV w0 f M) := ⟨hv⟩
  have HF : Bx (Fine f hs ks) := ⟨hf⟩
  clear hm hv hf hbX hcX hX
  have T1 : Bx True := ⟨trivial⟩
  go_enter Try.func38, Try.ntmps38
  go_wp2_with (first | (at_range; clear T1; rw [HXE.out]; refine rangeI rfl (.tmp 11) 61 53 rfl Try.underlying61 mb nW zV M hs rfl HM.out ?_; intro w1 cnt hcnt hrg hb1 hz1; have HR1 : Bx _ := ⟨hrg⟩; have HB1 : Bx _ := ⟨hb1⟩; clear hrg hb1))
  obtain ⟨r, hr⟩ : ∃ r, X.heap.size = r := ⟨_, rfl⟩
  rw [hr] at HR1 hz1 ⊢
  have HI : Bx (In1 w0 w1 mb r nW M hs hs cnt w0.heap.size 0 (fun _ => none) (fun _ _ => nV) (fun _ _ => []) (fun _ => none) ∧ 0 + cnt * 4294967296 ≤ 4097 * 4294967296 ∧ Ct f (fun _ => none) (fun _ _ => []) (fun k c => (hs k = true ∧ I64 k) ∧ hs k = false ∧ onI (f k).arms c = true)) := by
    have hl := HC.out
    refine ⟨⟨HR1.out, hl.1.below HB1.out, hl.2.1.trans (HB1.out.mono hl.2.1.size), ⟨by omega, rfl, by omega⟩, ⟨by omega, rfl, by omega⟩⟩, by omega, ⟨fun c s k => ?_, fun c s => List.nodup_nil, fun c => ?_⟩⟩
    · constructor
      · intro h; cases h
      · rintro ⟨⟨⟨h1, _⟩, h2, _⟩, _⟩; rw [h1] at h2; cases h2
    · constructor
      · intro h; exact absurd rfl h
      · rintro ⟨k, ⟨h1, _⟩, h2, _⟩; rw [h1] at h2; cases h2
  have hrw : w0.heap.size < r := by omega
  clear HR1 HB1
  go_frame
  go_loopg [] cnt (fun g wr => ∃ (left : Int → Bool) (N : Nat) (C : Int → Option Nat) (V : Int → Stc → Value) (ids : Int → Stc → List Int) (own : Nat → Option Lb), Bx (In1 w0 wr mb r nW M hs left g w0.heap.size N C V ids own ∧ N + g * 4294967296 ≤ 4097 * 4294967296 ∧ Ct f C ids (fun k c => (hs k = true ∧ I64 k) ∧ left k = false ∧ onI (f k).arms c = true)))
  case atStart => exact ⟨_, _, _, _, _, _, HI⟩
  case round =>
    obtain ⟨left, N, C, V, ids, own, HR⟩ := hrel
    clear HI
    have hN0 := HR.out.2.1
    go_wp2_with (first
      | (at_next; refine nextA rfl (.tmp 12) rfl rfl f HV.out (by omega) HR.out.1 (fun hdn => ?_) (fun k0 w2 cnt2 ap ac hp hc h64 hlf hhs I2 hlt2 rM hen => ?_); rotate_left 1; (have n0 : ∀ j u, #[Value.int .i64 (f k0).id, .bool (f k0).awake, .slice ap (f k0).arms.length ac, .slice hp (f k0).held.length hc][j]? = some u → (w2.alloc (.cells #[.int .i64 (f k0).id, .bool (f k0).awake, .slice ap (f k0).arms.length ac, .slice hp (f k0).held.length hc] 53)).cell? ⟨w2.heap.size, j, none⟩ = some u := (fun j u hj => cell_of (World.alloc_heap_new _ _) hj); have n00 := n0 0 _ rfl; have n01 := n0 1 _ rfl; have n02 := n0 2 _ rfl; have n03 := n0 3 _ rfl; clear n0))
      | (go_at_call 39; refine Calls.mono (waiting_any _ (f k0) ap hp ac hc (rM.out.later (I2.out.bel.trans ((below1 _ _).mono I2.out.bel.size)))) ?_; rintro e w3 ⟨m2, n2, rfl, hmp2, hn2, hm2, hb3⟩; have I3 : Bx (In1 w0 w3 mb r nW M hs (fun d => left d && !(d == k0)) cnt2 w0.heap.size N C V ids own ∧ MpI w3 m2 n2 (stV st0) (fun c => stV (waitI (f k0).arms c)) (onI (f k0).arms) ∧ n2 ≤ (f k0).arms.length ∧ w2.heap.size ≤ m2) := ⟨(I2.out.below (below1 _ _)).below hb3, hmp2, hn2, (by simp at hm2; omega)⟩; clear hmp2 hn2 hm2 hb3 n00 n01 n02 n03 hen)
      | (at_range; refine rangeI rfl (.tmp 19) 65 72 rfl Try.underlying65 m2 n2 (stV st0) (fun c => stV (waitI (f k0).arms c)) (onI (f k0).arms) rfl I3.out.2.1 ?_; intro w4 cnt4 hcnt4 hrg4 hb4 hz4; have R4 : Bx _ := ⟨hrg4⟩; have B4 : Bx _ := ⟨hb4⟩; clear hrg4 hb4)
      | (at_range; refine rangeI rfl (.tmp 43) 61 53 rfl Try.underlying61 mb nW zV M hs rfl HR.out.1.rg.map ?_; intro w5 cnt5 hcnt5 hrg5 hb5 hz5; have R5 : Bx _ := ⟨hrg5⟩; have B5 : Bx _ := ⟨hb5⟩; clear hrg5 hb5))
    · obtain ⟨r2, hr2⟩ : ∃ r2, w3.heap.size = r2 := ⟨_, rfl⟩
      rw [hr2] at R4 hz4 ⊢
      have HN4 : N + 2 * cnt4 + cnt2 * 4294967296 ≤ 4097 * 4294967296 := by
        have h1 := HR.out.2.1
        have h2 := HF.out.arms k0
        have h3 := I3.out.2.2.1
        omega
      have J0 : Bx (In2 w0 w4 mb r nW M hs (fun d => left d && !(d == k0)) cnt2 w0.heap.size N C V ids own m2 r2 n2 (f k0).arms (onI (f k0).arms) cnt4 ∧ N + 2 * cnt4 + cnt2 * 4294967296 ≤ 4097 * 4294967296 ∧ Ct f C ids (fun k c => (hs k = true ∧ I64 k) ∧ left k = false ∧ onI (f k).arms c = true ∨ k = k0 ∧ onI (f k0).arms c = true ∧ onI (f k0).arms c = false)) := by
        have h4 := I3.out.1.below B4.out
        have hmb := h4.o1
        have hrr := h4.o2
        have hl3 := I3.out.1.o1.lt
        have hl4 := I3.out.1.o2.lt
        have hm2l := I3.out.2.1.lt
        have hw2 := I2.out.o1.lt
        have hw3 := I2.out.o2.lt
        have hlow := I3.out.1.cr.low
        have hm2g := I3.out.2.2.2
        have hw0 := I2.out.bel.size
        have hown : ∀ b, w2.heap.size ≤ b → own b = none := fun b hb => by
          cases hx : own b with
          | none => rfl
          | some l =>
            have := (I2.out.cr.low b (by rw [hx]; simp)).2
            omega
        have hwbl := I2.out.cr.map.lt
        refine ⟨⟨h4, R4.out, ⟨by omega, hown m2 hm2g, by omega⟩, ⟨by omega, hown r2 (by omega), by omega⟩, by omega, by omega, by omega⟩, HN4, HR.out.2.2.ext (fun k c => ?_)⟩
        constructor
        · rintro (h | ⟨_, h1, h2⟩)
          · exact h
          · rw [h1] at h2; cases h2
        · exact fun h => .inl h
      clear I3 R4 B4 I2
      go_frame
      go_loopg [] cnt4 (fun g wr => ∃ (left2 : Int → Bool) (N2 : Nat) (C2 : Int → Option Nat) (V2 : Int → Stc → Value) (ids2 : Int → Stc → List Int) (own2 : Nat → Option Lb), Bx (In2 w0 wr mb r nW M hs (fun d => left d && !(d == k0)) cnt2 w0.heap.size N2 C2 V2 ids2 own2 m2 r2 n2 (f k0).arms left2 g ∧ N2 + 2 * g + cnt2 * 4294967296 ≤ 4097 * 4294967296 ∧ Ct f C2 ids2 (fun k c => (hs k = true ∧ I64 k) ∧ left k = false ∧ onI (f k).arms c = true ∨ k = k0 ∧ onI (f k0).arms c = true ∧ left2 c = false)))
      case atStart => exact ⟨_, _, _, _, _, _, J0⟩
      case round =>
        obtain ⟨left2, N2, C2, V2, ids2, own2, HQ⟩ := hrel
        clear J0 HR
        go_wp2_with (first
          | (at_next; refine nextS rfl (.tmp 20) rfl rfl HQ.out.1 (fun hdn2 => ?_) (fun c0 w5 cnt5 h64c hlc honc I5 hlt5 hen5 => ?_); rotate_left 1; (rcases enter_at (w5 := w5) HQ.out.2.2 I5.out HF.out h64 hlf hhs h64c hlc honc HQ.out.2.1 hlt5 with ⟨hlk, heq, w6, hmu, hlk6, ⟨q0, q1, q2⟩, hadd⟩ | ⟨cb, hlk, heq, ⟨q0, q1, q2⟩, hadd⟩ <;> (obtain ⟨st, X1, sp, sc, iz, hme, hiz, HOW, HNW, hz1, hB1, HFN⟩ := hadd.out; clear hadd; (try simp only [World.size_alloc] at hmu hlk6); (try simp only [World.size_alloc] at HNW hz1 HFN hme))))
          | (at_builtin; (refine wpList_app _ rfl (.tmp 37) (.tmp 39) 45 rfl w0.heap.size 3 i0 (.int .i64 0) 1 8 Try.underlying45 hi iz0 iz1 iz2 rfl (by decide) (.slice sp iz.length sc) iz.length (rowC iz) rfl HOW.out ⟨_, 0, none⟩ 1 1 [.int .i64 k0] rfl rfl (block_cells _ _ #[.int .i64 k0] 3 HNW.out) (by simp [Value.oneCell']) (by decide) (by unfold maxLen; omega) (by omega) hB1 _ hz1 ?_; intro gg gcap w7 hown7 hgrow7 hgi7 hgl7; obtain ⟨w8, hes, hF8⟩ := HFN.out gg gcap w7 hown7 hgrow7 hgi7 hgl7; clear hown7 hgrow7 hgi7 HFN)))
        · obtain ⟨C', V', ids', own', k1, k2, k3⟩ := hF8.out
          go_roundg cnt5
          case measure => omega
          case rel => exact ⟨_, N2 + 2, C', V', ids', own', ⟨k1, k2, k3⟩⟩
        · obtain ⟨C', V', ids', own', k1, k2, k3⟩ := hF8.out
          go_roundg cnt5
          case measure => omega
          case rel => exact ⟨_, N2 + 2, C', V', ids', own', ⟨k1, k2, k3⟩⟩
        · have HE : Bx (In1 w0 wr mb r nW M hs (fun d => left d && !(d == k0)) cnt2 w0.heap.size N2 C2 V2 ids2 own2 ∧ N2 + cnt2 * 4294967296 ≤ 4097 * 4294967296 ∧ Ct f C2 ids2 (fun k c => (hs k = true ∧ I64 k) ∧ (left k && !(k == k0)) = false ∧ onI (f k).arms c = true)) := by
            have hb := HQ.out.2.1
            refine ⟨HQ.out.1.in1, by omega, HQ.out.2.2.ext (fun k c => ?_)⟩
            constructor
            · rintro ⟨h1, h2, h3⟩
              by_cases e : k = k0
              · subst e
                exact .inr ⟨rfl, h3, hdn2 c (on_64 rM.out.arms h3)⟩
              · exact .inl ⟨h1, by simpa [e] using h2, h3⟩
            · rintro (⟨h1, h2, h3⟩ | ⟨rfl, h1, _⟩)
              · exact ⟨h1, by rw [h2]; rfl, h3⟩
              · exact ⟨⟨hhs, h64⟩, by simp, h1⟩
          go_roundg cnt2
          case measure => omega
          case rel => exact ⟨_, N2, C2, V2, ids2, own2, HE⟩
    · have hCt : Ct f C ids (fun k c => (hs k = true ∧ I64 k) ∧ onI (f k).arms c = true) := HR.out.2.2.ext (fun k c => ⟨fun h => ⟨h.1, hdn k h.1.2, h.2⟩, fun h => ⟨h.1, h.2.2⟩⟩)
      obtain ⟨r5, hr5⟩ : ∃ r5, wr.heap.size = r5 := ⟨_, rfl⟩
      rw [hr5] at R5 hz5 ⊢
      have K0 : Bx (In1 w0 w5 mb r5 nW M hs hs cnt5 w0.heap.size N C V ids own ∧ N + cnt5 * 4294967296 ≤ 8194 * 4294967296 ∧ Cj f hs C ids hs) := by
        have h1 := HR.out.1
        have hl1 := h1.o1.lt
        have hwl := h1.cr.map.lt
        have hne : w0.heap.size ≠ r5 := by rw [← hr5]; exact Nat.ne_of_lt hwl
        refine ⟨⟨R5.out, h1.cr.below B5.out, h1.bel.trans (B5.out.mono h1.bel.size), h1.o1.grow B5.out.size, ⟨by rw [hz5]; exact Nat.lt_succ_self _, ?_, fun e => hne e.symm⟩⟩, bnd4 HR.out.2.1 hcnt5 hn, ⟨fun c s k => ?_, hCt.nod, fun c => ?_⟩⟩
        · cases hx : own r5 with
          | none => rfl
          | some l =>
            have := (h1.cr.low r5 (by rw [hx]; simp)).2
            rw [hr5] at this
            exact absurd this (Nat.lt_irrefl _)
        · rw [hCt.mem]
          constructor
          · rintro ⟨⟨h2, h3⟩, h4⟩; exact ⟨h2, .inl ⟨h3, h4⟩⟩
          · rintro ⟨h2, ⟨h3, h4⟩ | ⟨_, h3, _⟩⟩
            · exact ⟨⟨h2, h3⟩, h4⟩
            · rw [h2.1] at h3; cases h3
        · exact hCt.has c
      have hr5w : w0.heap.size ≤ r5 := by rw [← hr5]; exact HR.out.1.bel.size
      clear R5 B5 hCt HR
      go_frame
      go_loopg [] cnt5 (fun g wr => ∃ (left3 : Int → Bool) (N3 : Nat) (V3 : Int → Stc → Value) (ids3 : Int → Stc → List Int) (own3 : Nat → Option Lb), Bx (In1 w0 wr mb r5 nW M hs left3 g w0.heap.size N3 C V3 ids3 own3 ∧ N3 + g * 4294967296 ≤ 8194 * 4294967296 ∧ Cj f hs C ids3 left3))
      case atStart => exact ⟨_, _, _, _, _, K0⟩
      case round =>
        obtain ⟨left3, N3, V3, ids3, own3, HQ⟩ := hrel
        clear K0
        go_wp2_with (first
          | (at_next; refine nextA rfl (.tmp 44) rfl rfl f HV.out hr5w HQ.out.1 (fun hdn3 => ?_) (fun k0 w6 cnt6 ap ac hp hc h64 hlf hhs I6 hlt6 rM hen => ?_); rotate_left 1; (have n0 : ∀ j u, #[Value.int .i64 (f k0).id, .bool (f k0).awake, .slice ap (f k0).arms.length ac, .slice hp (f k0).held.length hc][j]? = some u → (w6.alloc (.cells #[.int .i64 (f k0).id, .bool (f k0).awake, .slice ap (f k0).arms.length ac, .slice hp (f k0).held.length hc] 53)).cell? ⟨w6.heap.size, j, none⟩ = some u := (fun j u hj => cell_of (World.alloc_heap_new _ _) hj); have n01 := n0 1 _ rfl; have n03 := n0 3 _ rfl; clear n0; cases haw : (f k0).awake <;> (rw [haw] at n01 n03 hen)))
          | (go_at_call 57; refine Calls.mono (join_any w0 _ w0.heap.size N3 C V3 ids3 own3 (I6.out.below (below1 _ _)).cr (I6.out.below (below1 _ _)).bel k0 hp hc (f k0).held rM.out.held (HF.out.ris k0 haw) (bnd1 HQ.out.2.1 (HF.out.held k0)) (fun c s => cj_len HQ.out.2.2 HF.out c s)) ?_; rintro e w7 ⟨rfl, V', ids', own', hc7, hf7, hj7⟩; have I7 : Bx (In1 w0 w7 mb r5 nW M hs (fun d => left3 d && !(d == k0)) cnt6 w0.heap.size (N3 + (f k0).held.length) C V' ids' own' ∧ N3 + (f k0).held.length + cnt6 * 4294967296 ≤ 8194 * 4294967296 ∧ Cj f hs C ids' (fun d => left3 d && !(d == k0))) := ⟨(I6.out.below (below1 _ _)).fr hc7 hf7, bnd2 HQ.out.2.1 (HF.out.held k0) hlt6, HQ.out.2.2.join h64 hhs hlf haw hj7⟩; clear hc7 hf7 hj7))
        · have I7 : Bx (In1 w0 _ mb r5 nW M hs (fun d => left3 d && !(d == k0)) cnt6 w0.heap.size N3 C V3 ids3 own3 ∧ N3 + cnt6 * 4294967296 ≤ 8194 * 4294967296 ∧ Cj f hs C ids3 (fun d => left3 d && !(d == k0))) := ⟨I6.out.below (below1 _ (.cells #[.int .i64 (f k0).id, .bool false, .slice ap (f k0).arms.length ac, .slice hp (f k0).held.length hc] 53)), bnd3 HQ.out.2.1 hlt6, HQ.out.2.2.skip haw⟩
          go_roundg cnt6
          case measure => omega
          case rel => exact ⟨_, N3, V3, ids3, own3, I7⟩
        · go_roundg cnt6
          case measure => omega
          case rel => exact ⟨_, _, V', ids', own', I7⟩
        · go_ret
          refine ⟨w0.heap.size, N3, C, V3, ids3, own3, rfl, HQ.out.1.cr, HQ.out.1.bel, ⟨fun c s k => ?_, HQ.out.2.2.nod, HQ.out.2.2.has⟩⟩
          rw [HQ.out.2.2.mem]
          constructor
          · rintro ⟨h1, h2 | ⟨h2, _, h3⟩⟩
            · exact ⟨h1, .inl h2⟩
            · exact ⟨h1, .inr ⟨h2, h3⟩⟩
          · rintro ⟨h1, h2 | ⟨h2, h3⟩⟩
            · exact ⟨h1, .inl h2⟩
            · exact ⟨h1, .inr ⟨h2, hdn3 k h1.2, h3⟩⟩
end Go.Proofs.Ytjabdhmkibahlaa
