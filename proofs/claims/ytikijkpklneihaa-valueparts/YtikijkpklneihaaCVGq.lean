import Derived.Test.YtikijkpklneihaaCVGp
import Derived.Test.YtikijkpklneihaaCVMk
namespace Go.Proofs.Ytikijkpklneihaa
open Go.RowKit
set_option linter.unusedVariables false
set_option linter.unusedSimpArgs false

def GrowP (w : World) (lo : Nat) (ov wv : Value) (m s : Nat) (ov' wv' : Value) (w' : World) : Prop := ∃ m' L', Gr w' lo ov' wv' m' L' ∧ m' ≤ m + s ∧ GF w w' ov wv ov' wv'
/-- each list of a tree grows, and what it must read as -/
def GrowT (x : V) : Prop := ∀ (w : World) (ρ : Gh) (id : Nat) (q : List Nat) (p : Option Addr) (c : Nat) (k1 n1 n : Int) (lo : Nat) (ov wv : Value) (m : Nat) (L : Nat → List V), TrV w ρ id q x p c → id % 2 = 0 → (∀ b, ρ b ≠ none → b < lo) → lo ≤ w.heap.size → Gr w lo ov wv m L → 0 ≤ n → n + x.sz ≤ 1099511627776 → m + x.sz ≤ 50000000 → x.sz ≤ 1000000 →
  Calls Try.prog 27 #[agV k1 n1 p x.l.length c, .int .i64 n, ov, wv] w fun e w' => ∃ ov' wv', e = .returned (.tuple #[ov', wv']) ∧ Bx (GrowP w lo ov wv m x.sz ov' wv' w')
/-- in the midst -/
structure GS (w1 wr : World) (lo : Nat) (ov wv : Value) (m s : Nat) (oi wi : Value) : Prop where
  ex : ∃ m' L', Gr wr lo oi wi m' L' ∧ m' ≤ m + s
  fr : GF w1 wr ov wv oi wi
theorem GS.tree {w1 wr : World} {lo m s : Nat} {ov wv oi wi : Value} (h : GS w1 wr lo ov wv m s oi wi) {L : Nat → List V} (h0 : Gr w1 lo ov wv m L) (hlo : lo ≤ w1.heap.size) {ρ : Gh} {id : Nat} {q : List Nat} {x : V} {p : Option Addr} {c : Nat} (ht : TrV w1 ρ id q x p c) (hρ : ∀ b, ρ b ≠ none → b < lo) : TrV wr ρ id q x p c :=
  TrV.keep x ht fun b hb hu => by
    obtain ⟨s', hs⟩ := hu
    have := hρ b (by rw [hs]; simp)
    exact h.fr.blk b hb (fun e => by have := (h0.o.own.1 b e).1; omega) fun e => by have := (h0.w.own.1 b e).1; omega

set_option maxRecDepth 100000 in
set_option maxHeartbeats 8000000 in
theorem grow_rec (x : V) (ih : ∀ y : V, y.sz < x.sz → GrowT y) : GrowT x := by
  intro w ρ id q p c k1 n1 n lo ov wv m L ht hid hρ hlo hG hn0 hnm hms hsz6
  obtain ⟨H, hH⟩ : ∃ H, w.heap.size = H := ⟨_, rfl⟩
  obtain ⟨w1, hw1⟩ : ∃ w1, w.alloc (.cells #[.int .i64 k1, .int .i64 n1, .slice p x.l.length c] 24) = w1 := ⟨_, rfl⟩
  have b1 : Below w.heap.size w w1 := by rw [← hw1]; exact below1 _ _
  have s1 : w1.heap.size = H + 1 := by rw [← hw1, ← hH]; simp
  have qa : w1.heap[w.heap.size]? = some (.cells #[.int .i64 k1, .int .i64 n1, .slice p x.l.length c] 24 (0, 0)) := by rw [← hw1]; exact World.alloc_heap_new _ _
  have hG1 : Gr w1 lo ov wv m L := hG.next hlo b1
  have ht1 : TrV w1 ρ id q x p c := TrV.keep x ht fun b hb _ => b1.block b hb
  have HS0 : Bx (GS w1 w1 lo ov wv m (szs (x.l.take 0)) ov wv) := ⟨⟨⟨m, L, hG1, by omega⟩, GF.refl _ _ _⟩⟩
  obtain ⟨y0, y1, y2, _, _, _, yl⟩ := c3 qa
  have hlen := szs_len x.l
  have hsz := V.sz_eq x
  have hcap := (TrV.iff.1 ht).1.1
  have HIH : Bx _ := ⟨ih⟩
  have HT : Bx (∀ wr oi wi s, GS w1 wr lo ov wv m s oi wi → TrV wr ρ id q x p c ∧ wr.heap[H]? = some (.cells #[.int .i64 k1, .int .i64 n1, .slice p x.l.length c] 24 (0, 0)) ∧ lo ≤ wr.heap.size) := ⟨fun wr oi wi s h => ⟨h.tree hG1 (by omega) ht1 hρ, by
    rw [h.fr.blk H (by omega) (fun e => by have := (hG.o.own.1 H e).2; omega) (fun e => by have := (hG.w.own.1 H e).2; omega), ← hH]
    exact qa, by have := h.fr.size; omega⟩⟩
  have HB1 : Bx (GF w w1 ov wv ov wv) := ⟨GF.below _ _ b1⟩
  have HP : Bx (id % 2 = 0 ∧ (∀ b, ρ b ≠ none → b < lo)) := ⟨hid, hρ⟩
  have HSZ : Bx (∀ j (h : j < x.l.length), x.l[j].sz < x.sz ∧ szs (x.l.take (j + 1)) = szs (x.l.take j) + x.l[j].sz ∧ szs (x.l.take (j + 1)) + 1 ≤ x.sz ∧ (j : Int) + 1 + x.l[j].sz ≤ x.sz) := ⟨fun j hj => by
    have h3 : szs (x.l.take j) + (x.l[j].sz + szs (x.l.drop (j + 1))) = szs x.l := by
      conv => rhs; rw [← List.take_append_drop j x.l, szs_append, List.drop_eq_getElem_cons hj]
      simp [szs]
    have h4 := szs_len (x.l.take j)
    rw [List.length_take_of_le (by omega)] at h4
    have h5 : szs (x.l.take (j + 1)) = szs (x.l.take j) + x.l[j].sz := by
      rw [List.take_succ_eq_append_getElem hj, szs_append]
      simp [szs]
    omega⟩
  have HTOT : Bx (szs (x.l.take x.l.length) + 1 = x.sz) := ⟨by rw [List.take_length]; omega⟩
  have hl31 : x.l.length ≤ 1000000 := by omega
  have HMS : Bx (m + x.sz ≤ 50000000 ∧ x.sz ≤ 1000000) := ⟨hms, hsz6⟩
  have HNM : Bx (n + x.sz ≤ 1099511627776) := ⟨hnm⟩
  have hN : n ≤ 1099511627776 := by omega
  clear ht hG hG1 ht1 qa b1 hid hρ hlo ih hms hsz hlen hnm hsz6
  rw [hH] at y0 y1 y2 yl
  go_enter Try.func27, Try.ntmps27
  go_wp2
  go_loopg [2, 3, 10] (x.l.length + 1) (fun f v2 v3 v10 wr => ∃ (i : Nat) (oi wi : Value), f = x.l.length + 1 - i ∧ i ≤ x.l.length ∧ v10 = .int .i64 i ∧ oi = v2 ∧ wi = v3 ∧ Bx (GS w1 wr lo ov wv m (szs (x.l.take i)) oi wi))
  case atStart => exact ⟨0, ov, wv, by simp, Nat.zero_le _, rfl, rfl, rfl, HS0⟩
  case round =>
    clear HS0 y0 y1 y2 yl hw1
    obtain ⟨i, oi, wi, hf, hi, rfl, rfl, rfl, HS⟩ := hrel
    obtain ⟨hT, hbx, hlw⟩ := HT.out _ _ _ _ HS.out
    obtain ⟨y0, y1, y2, _, _, _, yl⟩ := c3 hbx
    by_cases hlt : i < x.l.length
    · have hlx : i < x.l.length := hlt
      obtain ⟨z1, z2, z3⟩ := TrV.iff.1 hT
      rcases z3 with ⟨z3, _⟩ | ⟨b, rfl, z5, z6, z7⟩
      · exfalso
        rw [z3] at hlt
        simp at hlt
      · have g := z7.get i hlt
        rw [Nat.zero_add] at g
        obtain ⟨p', c', d2, tk⟩ := g.c2
        have d0 := g.c0
        have d1 := g.c1
        have hbl := z6.lt
        have hsz1 := HSZ.out i hlx
        have hkI : (i : Int) < (x.l.length : Int) := by omega
        have hw1 : IntKind.i64.wrap (n + (i : Int)) = n + i := by rw [IntKind.wrap_i64]; omega
        have hw2 : IntKind.i64.wrap (n + (i : Int) + 1) = n + i + 1 := by rw [IntKind.wrap_i64]; omega
        obtain ⟨m', L', hGi, hmi⟩ := HS.out.ex
        have hnm := HNM.out
        have hms := HMS.out
        have HC : Bx _ := ⟨HIH.out x.l[i] hsz1.1 wr ρ id (i :: q) p' c' x.l[i].k x.l[i].n (n + i + 1) lo oi wi m' L' tk HP.out.1 HP.out.2 hlw hGi (by omega) (by omega) (by omega) (by omega)⟩
        have HN : Bx (∀ o2 w2 X, GrowP wr lo oi wi m' x.l[i].sz o2 w2 X → GS w1 X lo ov wv m (szs (x.l.take (i + 1))) o2 w2) := ⟨fun o2 w2 X hX => by
          obtain ⟨m2, L2, a1, a2, a3⟩ := hX
          exact ⟨⟨m2, L2, a1, by omega⟩, HS.out.fr.trans a3⟩⟩
        clear hT hbx z1 z2 z5 z6 z7 g tk hsz1 hGi hmi HIH hnm hms HS
        generalize x.l[i].k = xk at *
        generalize x.l[i].n = xn at *
        go_wp2_with (first
          | (go_at_call 27; refine Calls.mono HC.out ?_; rintro e X ⟨o2, w2, rfl, HX⟩; have HN2 : Bx _ := ⟨HN.out o2 w2 X HX.out⟩; clear HX HN HC))
        go_roundg (x.l.length + 1 - (i + 1))
        case measure => omega
        case rel => exact ⟨i + 1, o2, w2, rfl, by omega, by go_num, rfl, rfl, HN2⟩
    · obtain rfl : i = x.l.length := by omega
      obtain ⟨hcl, cs, hr, htl⟩ := hT.tls HP.out.1 HP.out.2
      subst hcl
      obtain ⟨mv, W3, r3, hT0⟩ := T2.start (n := -n - 7000) htl hlw (by omega) hr.one
      obtain ⟨m', L', hGi, hmi⟩ := HS.out.ex
      have htot := HTOT.out
      have hms := HMS.out
      have hI : I64 (-n - 7000) := ⟨by omega, by omega⟩
      have HR : Bx (∀ lv mv W k, T2 wr W lv mv p x.l cs (-n - 7000) k → k < 9 → ∃ lv' W3 mv' W5, (∀ ty, (Builtin.append_ #[22, 22] ty #[lv, .slice (some ⟨W.heap.size, 0, none⟩) 1 1]).run Try.prog (W.alloc (.cells #[.int .i64 0, .int .i64 (-n - 7000), .slice none 0 0] 24)) = .ok lv' W3) ∧ (∀ ty, (Builtin.append_ #[22, 22] ty #[mv, .slice (some ⟨W3.heap.size, 0, none⟩) 1 1]).run Try.prog (W3.alloc (.cells #[.int .i64 0, .int .i64 (-n - 7000), .slice none 0 0] 24)) = .ok mv' W5) ∧ T2 wr W5 lv' mv' p x.l cs (-n - 7000) (k + 1)) := ⟨fun lv mv W k h hk => h.round htl hlw (by omega) hk⟩
      have HE : Bx (∀ lv mv W, T2 wr W lv mv p x.l cs (-n - 7000) 9 → ∃ la ln lc ma mn mc ov' W3 wv' W5, lv = .slice la ln lc ∧ mv = .slice ma mn mc ∧ (∀ ty, (Builtin.append_ #[45, 45] ty #[oi, .slice (some ⟨W.heap.size, 0, none⟩) 1 1]).run Try.prog (W.alloc (.cells #[lv] 22)) = .ok ov' W3) ∧ (∀ ty, (Builtin.append_ #[45, 45] ty #[wi, .slice (some ⟨W3.heap.size, 0, none⟩) 1 1]).run Try.prog (W3.alloc (.cells #[mv] 22)) = .ok wv' W5) ∧ GrowP w lo ov wv m x.sz ov' wv' W5) := ⟨fun lv mv W h => by
        obtain ⟨g, c, g', c', e1, e2, e3, e4⟩ := h.fin hr hlw hI
        have hs := h.bel.size
        obtain ⟨ov', W3, wv', W5, f1, f2, f3, f4⟩ := (hGi.next hlw h.bel).snoc (by omega) (by omega) e3 e4
        subst e1 e2
        exact ⟨_, _, _, _, _, _, ov', W3, wv', W5, rfl, rfl, f1, f2, ⟨m' + 1, _, f3, by omega, HB1.out.trans (HS.out.fr.trans ((GF.below _ _ h.bel).trans f4))⟩⟩⟩
      have HT0 : Bx _ := ⟨hT0⟩
      have hw3 : IntKind.i64.wrap (-n) = -n := by rw [IntKind.wrap_i64]; omega
      have hw4 : IntKind.i64.wrap (-n - 7000) = -n - 7000 := by rw [IntKind.wrap_i64]; omega
      clear hT hbx hr htl hT0 hGi hmi htot hms hI HT HP HSZ HTOT HMS HNM HIH HB1
      go_wp2_with (first
        | (at_builtin; refine wpList_appI rfl (.tmp 38) (.tmp 39) 22 rfl rfl rfl r3 ?_; clear r3))
      have hl9 : x.l.length ≤ 1000000 := hl31
      obtain ⟨lv0, hlv0⟩ : ∃ lv0, Value.slice p x.l.length x.l.length = lv0 := ⟨_, rfl⟩
      rw [hlv0] at HT0
      rw [hlv0]
      clear hlv0 y0 y1 y2 yl hlw
      go_loopg [11, 12, 13] 9 (fun f v11 v12 v13 wq => ∃ (k : Nat) (lv mw : Value), f = 9 - k ∧ k ≤ 9 ∧ v13 = .int .i64 k ∧ lv = v11 ∧ mw = v12 ∧ Bx (T2 wr wq lv mw p x.l cs (-n - 7000) k))
      case atStart => exact ⟨0, _, _, by simp, Nat.zero_le _, by go_num, rfl, rfl, HT0⟩
      case round =>
        clear HT0
        obtain ⟨k, lv, mw, hf, hk, rfl, rfl, rfl, HS2⟩ := hrel
        by_cases hk9 : k < 9
        · obtain ⟨lv', W3', mv', W5, e3, e5, hT5⟩ := HR.out _ _ _ k HS2.out hk9
          have HT5 : Bx _ := ⟨hT5⟩
          have hkI : (k : Int) < 9 := by omega
          clear hT5 HS2 HR HE
          go_wp2_with (first
            | (at_builtin; refine wpList_appI rfl (.tmp 45) (.tmp 50) 22 rfl rfl rfl e3 ?_; clear e3)
            | (at_builtin; refine wpList_appI rfl (.tmp 52) (.tmp 57) 22 rfl rfl rfl e5 ?_; clear e5))
          go_roundg (9 - (k + 1))
          case measure => omega
          case rel => exact ⟨k + 1, _, _, rfl, by omega, by go_num, rfl, rfl, HT5⟩
        · obtain rfl : k = 9 := by omega
          obtain ⟨la, ln, lc, ma, mn, mc, ov', W3', wv', W5, rfl, rfl, e3, e5, hGP⟩ := HE.out _ _ _ HS2.out
          have HGP : Bx _ := ⟨hGP⟩
          clear hGP HS2 HR HE
          go_wp2_with (first
            | (at_builtin; refine wpList_appI rfl (.tmp 59) (.tmp 61) 45 rfl rfl rfl e3 ?_; clear e3)
            | (at_builtin; refine wpList_appI rfl (.tmp 63) (.tmp 65) 45 rfl rfl rfl e5 ?_; clear e5))
          go_ret2
          exact ⟨_, _, rfl, HGP⟩
theorem grow_any (x : V) : GrowT x := by
  have key : ∀ N : Nat, ∀ y : V, y.sz ≤ N → GrowT y := by
    intro N
    induction N with
    | zero => intro y h; have := y.sz_pos; omega
    | succ N ih => intro y h; exact grow_rec y fun z hz => ih z (by omega)
  exact key x.sz x (Nat.le_refl _)
end Go.Proofs.Ytikijkpklneihaa
