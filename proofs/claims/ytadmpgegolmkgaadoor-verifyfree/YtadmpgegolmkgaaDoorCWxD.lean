import Derived.Test.YtadmpgegolmkgaaDoorCWxA
import Derived.Test.YtadmpgegolmkgaaDoorCWhA
namespace Go.Proofs.YtadmpgegolmkgaaDoor
open Go.RowKit
set_option linter.unusedVariables false
set_option linter.unusedSimpArgs false

/-- a unit that was lent -/
structure LtU (W : World) (B : Nat) (pa ta : Option Addr) (pc tc : Nat) (u : CUn) (G : List (Nat × Nat)) (C : List PG) : Prop where
  tlen : G.length = u.types.length
  tall : W.ownsRow B 49 3 (.slice ta u.types.length tc) u.types.length (tyC u.types G)
  tkid : ∀ i (h1 : i < u.types.length) (h2 : i < G.length), KidAt W B G[i].1 G[i].2 u.types[i].kids
  len : C.length = u.progs.length
  all : W.ownsRow B 40 5 (.slice pa u.progs.length pc) u.progs.length (pgL u.progs C)
  cod : ∀ i (h1 : i < u.progs.length) (h2 : i < C.length), CodeAt W B C[i].1.1 C[i].1.2 u.progs[i].code C[i].2
  ord : ∀ i j (hi : i < C.length) (hj : j < C.length), i < j → C[i].1.1 < C[j].1.1
theorem LtU.later {W W' : World} {B : Nat} {pa ta : Option Addr} {pc tc : Nat} {u : CUn} {G : List (Nat × Nat)} {C : List PG} (h : LtU W B pa ta pc tc u G C) (hb : ∀ y, B ≤ y → y < W.heap.size → W'.heap[y]? = W.heap[y]?) : LtU W' B pa ta pc tc u G C :=
  ⟨h.tlen, owns_same h.tall hb, fun i h1 h2 => (h.tkid i h1 h2).later (hb _ (h.tkid i h1 h2).base (h.tkid i h1 h2).lt) (Nat.le_refl _), h.len, owns_same h.all hb, fun i h1 h2 => (h.cod i h1 h2).later (fun y cs t _ hy hq => hb y hy (heap_lt hq)) (Nat.le_refl _), h.ord⟩
def LentP (w : World) (u : CUn) (e : Ending) (w' : World) : Prop := ∃ pa ta pc tc, e = .returned (unV u pa pc ta tc) ∧ Bx (Below w.heap.size w w' ∧ ∃ B G C, w.heap.size ≤ B ∧ LtU w' B pa ta pc tc u G C)
set_option maxRecDepth 100000 in
set_option maxHeartbeats 8000000 in
theorem lent_any (w : World) (u : CUn) (pa ta : Option Addr) (pc tc : Nat) (hu : UnIn w w.heap.size pa pc ta tc u) (hk : UnK u) (hpn : u.progs.length ≤ 2147483647) (hcn : ∀ p ∈ u.progs, p.code.length ≤ 2147483647) :
    Calls Tryd.prog 8 #[unV u pa pc ta tc] w (LentP w u) := by
  obtain ⟨Q, hQ⟩ : ∃ Q, Q = LentP w u := ⟨_, rfl⟩
  have HQ : Bx (∀ e w' pa ta pc tc, e = .returned (.agg #[.slice pa u.progs.length pc, .slice ta u.types.length tc]) → Below w.heap.size w w' → (∃ B G C, w.heap.size ≤ B ∧ LtU w' B pa ta pc tc u G C) → Q e w') := ⟨fun e w' pa ta pc tc h1 h2 h3 => by rw [hQ]; exact ⟨pa, ta, pc, tc, h1, ⟨h2, h3⟩⟩⟩
  rw [← hQ]
  clear hQ
  obtain ⟨H, hH⟩ : ∃ H, w.heap.size = H := ⟨_, rfl⟩
  obtain ⟨w1, hw1⟩ : ∃ w1, w.alloc (.cells #[.slice pa u.progs.length pc, .slice ta u.types.length tc] 25) = w1 := ⟨_, rfl⟩
  have b1 : Below H w w1 := by rw [← hw1, ← hH]; exact below1 w _
  have q1 : w1.heap[H]? = some (.cells #[.slice pa u.progs.length pc, .slice ta u.types.length tc] 25 (0, 0)) := by rw [← hw1]; exact heap_newH _ _ _ hH
  have s1 : w1.heap.size = H + 1 := by rw [← hw1]; simp [hH]
  obtain ⟨w2, hw2⟩ : ∃ w2, w1.alloc (.cells #[.slice none 0 0, .slice none 0 0] 25) = w2 := ⟨_, rfl⟩
  have b2 : Below (H + 1) w1 w2 := by rw [← hw2, ← s1]; exact below1 w1 _
  have s2 : w2.heap.size = H + 2 := by rw [← hw2]; simp [s1]
  obtain ⟨w3, hw3⟩ : ∃ w3, w2.alloc (.cells #[.slice none 0 0, .slice none 0 0] 25) = w3 := ⟨_, rfl⟩
  have b3 : Below (H + 2) w2 w3 := by rw [← hw3, ← s2]; exact below1 w2 _
  have s3 : w3.heap.size = H + 3 := by rw [← hw3]; simp [s2]
  have q3 : w3.heap[H + 2]? = some (.cells #[.slice none 0 0, .slice none 0 0] 25 (0, 0)) := by rw [← hw3]; exact heap_newH _ _ _ s2
  have hb3 : Below H w w3 := b1.trans ((b2.mono (by omega)).trans (b3.mono (by omega)))
  have u0 : w1.cell? ⟨H, 0, none⟩ = some (.slice pa u.progs.length pc) := cell_blk q1 rfl
  have u1 : w1.cell? ⟨H, 1, none⟩ = some (.slice ta u.types.length tc) := cell_blk q1 rfl
  have qh3 := (b3.block H (by omega)).trans ((b2.block H (by omega)).trans q1)
  have u2 : w3.cell? ⟨H, 0, none⟩ = some (.slice pa u.progs.length pc) := cell_blk qh3 rfl
  have u3 : w3.cell? ⟨H, 1, none⟩ = some (.slice ta u.types.length tc) := cell_blk qh3 rfl
  have hb13 : Below w2.heap.size w2 w3 := by rw [s2]; exact b3
  have qh2 : w2.heap[H + 1]? = some (.cells #[.slice none 0 0, .slice none 0 0] 25 (0, 0)) := by rw [← hw2]; exact heap_newH _ _ _ s1
  have HU : Bx (∀ X, Below w2.heap.size w2 X → X.cell? ⟨H, 0, none⟩ = some (.slice pa u.progs.length pc) ∧ X.cell? ⟨H, 1, none⟩ = some (.slice ta u.types.length tc) ∧ H < X.heap.size ∧ Below w.heap.size w X ∧ X.heap[H + 1]? = some (.cells #[.slice none 0 0, .slice none 0 0] 25 (0, 0))) := ⟨fun X hX => by
    have hq := (hX.block H (by omega)).trans ((b2.block H (by omega)).trans q1)
    exact ⟨cell_blk hq rfl, cell_blk hq rfl, heap_lt hq, by rw [hH]; exact b1.trans ((b2.mono (by omega)).trans (hX.mono (by omega))), (hX.block _ (by omega)).trans qh2⟩⟩
  have HT0 : Bx (∃ G, TsM w2 w3 (H + 2) (H + 3) (.slice none 0 0) (.slice none 0 0) (u.types.take 0) G) := ⟨[], ⟨hb13, q3, ⟨by omega, by omega, by omega⟩, by simp, ⟨by simp [tyC], .inl ⟨rfl, by simp⟩⟩, fun i h1 h2 => by simp at h2⟩⟩
  have HTC : Bx (∀ k (hk : k < u.types.length), _) := ⟨fun k hk => ty_cells hu.types hk⟩
  have HPC : Bx (∀ k (hk : k < u.progs.length), _) := ⟨fun k hk => prog_cells hu.progs hk⟩
  have HKB : Bx (∀ k (h : k < u.types.length), u.types[k].kids.length ≤ 2147483647) := ⟨fun k h => by
    have := sumK_at (l := u.types) h
    have h2 : sumK (u.types.drop k) ≤ sumK u.types := by
      unfold sumK
      conv => rhs; rw [← List.take_append_drop k u.types]
      rw [List.map_append, List.sum_append]
      omega
    have := hk.ty
    omega⟩
  have htl : u.types.length ≤ 2147483647 := by have := hk.ty; omega
  have htcap := hu.types.cap
  have hpcap := hu.progs.cap
  have HKK : Bx (UnK u) := ⟨hk⟩
  have HCI : Bx (∀ (cl : List CIn) (ca : Option Addr) (cc : Nat), Row (InAt w w.heap.size) w.heap.size 4 ca cc cl → ∀ i (hi : i < cl.length), _) := ⟨fun cl ca cc hci i hi => ins_cells hci hi⟩
  clear hu hk b1 q1 b2 b3 q3 hb3 qh3 hb13 qh2
  unfold unV
  go_enter Tryd.func8, Tryd.ntmps8
  go_wp2
  obtain ⟨O, hO⟩ : ∃ O, H + 2 = O := ⟨_, rfl⟩
  obtain ⟨B, hB⟩ : ∃ B, H + 3 = B := ⟨_, rfl⟩
  rw [hO, hB] at HT0
  rw [hO]
  go_loopg [16] (u.types.length + 1) (fun f v16 wr => ∃ (k : Nat) (va : Value), f = u.types.length + 1 - k ∧ k ≤ u.types.length ∧ v16 = .int .i64 k ∧ Bx (∃ G, TsM w2 wr O B (.slice none 0 0) va (u.types.take k) G))
  case atStart => exact ⟨0, _, by simp, Nat.zero_le _, rfl, HT0⟩
  case round =>
    clear HT0
    obtain ⟨k, va, hf, hkl, rfl, HI⟩ := hrel
    obtain ⟨G, hI⟩ := HI.out
    clear HI
    by_cases hlt : k < u.types.length
    · obtain ⟨b, o, ka, kc, rfl, hb, hks, HC⟩ := HTC.out k hlt
      obtain ⟨uc0, uc1, hHl, hbw, _⟩ := HU.out wr hI.bel
      obtain ⟨c0, c1, c2⟩ := HC.out wr hbw
      have htake : u.types.take (k + 1) = u.types.take k ++ [u.types[k]] := List.take_succ_eq_append_getElem hlt
      have hkb := HKB.out k hlt
      have hbl : b < wr.heap.size := by have := hbw.size; omega
      obtain ⟨W2, W3, W4, W5, gv, cv, v2, g, c, RA⟩ := hI.push wr.heap.size rfl u.types[k] ka kc ((hks.below hbw).up (by omega)) hkb (by rw [List.length_take]; omega)
      rw [show (u.types.take k).length = k by rw [List.length_take]; omega] at RA
      obtain ⟨d1, l1, r2, r3, cp, d3, f3, l3, w4, e4, o4, r5, o5, st⟩ := RA
      obtain ⟨p0, p1, p2⟩ : W4.cell? ⟨wr.heap.size, 0, none⟩ = some (.int .i64 u.types[k].kind) ∧ W4.cell? ⟨wr.heap.size, 1, none⟩ = some (.slice (some ⟨g, 0, none⟩) u.types[k].kids.length c) ∧ W4.cell? ⟨wr.heap.size, 2, none⟩ = some (.bool u.types[k].res) := ⟨cell_blk e4 rfl, cell_blk e4 rfl, cell_blk e4 rfl⟩
      have m4 : W4.cell? ⟨O, 1, none⟩ = some va := cell_blk o4 rfl
      have m5 : W5.cell? ⟨O, 1, none⟩ = some va := cell_blk o5 rfl
      have n5 : W5.frozen? ⟨O, 1, none⟩ = false := frz_blk o5
      have z4 : wr.heap.size < W4.heap.size := heap_lt e4
      have z5 : O < W4.heap.size := heap_lt o4
      have z6 : O < W5.heap.size := heap_lt o5
      have HN : Bx (∃ G, TsM w2 (W5.setCell ⟨O, 1, none⟩ (.slice (some ⟨gv, 0, none⟩) (k + 1) cv)) O B (.slice none 0 0) (.slice (some ⟨gv, 0, none⟩) (k + 1) cv) (u.types.take (k + 1)) G) := ⟨_, by rw [htake]; exact st⟩
      have hkI : (k : Int) < (u.types.length : Int) := by omega
      clear hI HC htake st o4 o5 e4 HTC HKB hks
      generalize u.types[k] = t at *
      go_wp2_with (first
        | (at_builtin; refine wpList_appI rfl (.const (.slice none 0 0)) (.tmp 21) 32 rfl rfl rfl r2 ?_)
        | (at_builtin; refine wpList_appI rfl (.tmp 22) (.tmp 23) 32 rfl rfl rfl r3 ?_)
        | (at_builtin; refine wpList_appI rfl (.tmp 32) (.tmp 34) 23 rfl rfl rfl r5 ?_))
      go_roundg (u.types.length + 1 - (k + 1))
      case measure => omega
      case rel => exact ⟨k + 1, _, rfl, by omega, by go_num, HN⟩
    · obtain rfl : k = u.types.length := by omega
      obtain ⟨uc0, uc1, hHl, hbw, _⟩ := HU.out wr hI.bel
      rw [List.take_of_length_le (Nat.le_refl _)] at hI
      have HP0 : Bx (∃ C, PgM w2 wr O B (.slice none 0 0) va u.types G (u.progs.take 0) C) := ⟨[], hI.progs⟩
      clear hI HTC HKB
      go_wp2
      obtain ⟨wA, rfl⟩ : ∃ X, X = wr := ⟨_, rfl⟩
      go_loopg [41] (u.progs.length + 1) (fun f v41 wr => ∃ (k : Nat) (vp : Value), f = u.progs.length + 1 - k ∧ k ≤ u.progs.length ∧ v41 = .int .i64 k ∧ Bx (∃ C, PgM w2 wr O B vp va u.types G (u.progs.take k) C))
      case atStart => exact ⟨0, _, by simp, Nat.zero_le _, rfl, HP0⟩
      case round =>
        clear HP0
        obtain ⟨k, vp, hf2, hkl2, rfl, HI⟩ := hrel
        obtain ⟨C, hI⟩ := HI.out
        clear HI
        by_cases hlt2 : k < u.progs.length
        · obtain ⟨b, o, ca, cc, rfl, hb, hci, HC⟩ := HPC.out k hlt2
          obtain ⟨uc0, uc1, hHl, hbw, _⟩ := HU.out wr hI.bel
          obtain ⟨c0, c1, c2, c3, c4⟩ := HC.out wr hbw
          have htake : u.progs.take (k + 1) = u.progs.take k ++ [u.progs[k]] := List.take_succ_eq_append_getElem hlt2
          have hbl : b < wr.heap.size := by have := hbw.size; omega
          have hkI : (k : Int) < (u.progs.length : Int) := by omega
          have hpm := List.getElem_mem hlt2
          have hcl := hcn _ hpm
          have HLS : Bx (∀ x ∈ u.progs[k].code, x.list.length ≤ 2147483647) := ⟨HKK.out.ls _ hpm⟩
          have HIN := HCI.out u.progs[k].code ca cc hci
          obtain ⟨W1, hW1⟩ : ∃ W1, wr.alloc (.cells #[.int .i64 u.progs[k].params, .int .i64 u.progs[k].slots, .int .i64 u.progs[k].caps, .bool u.progs[k].res, .slice ca u.progs[k].code.length cc] 40) = W1 := ⟨_, rfl⟩
          have HIM : Bx (PgM w2 wr O B vp va u.types G (u.progs.take k) C ∧ u.progs.take (k + 1) = u.progs.take k ++ [u.progs[k]] ∧ wr.alloc (.cells #[.int .i64 u.progs[k].params, .int .i64 u.progs[k].slots, .int .i64 u.progs[k].caps, .bool u.progs[k].res, .slice ca u.progs[k].code.length cc] 40) = W1) := ⟨hI, htake, hW1⟩
          have q1 : W1.heap[wr.heap.size]? = some (.cells #[.int .i64 u.progs[k].params, .int .i64 u.progs[k].slots, .int .i64 u.progs[k].caps, .bool u.progs[k].res, .slice ca u.progs[k].code.length cc] 40 (0, 0)) := by rw [← hW1]; exact heap_newH _ _ _ rfl
          have d4 : W1.cell? ⟨wr.heap.size, 4, none⟩ = some (.slice ca u.progs[k].code.length cc) := cell_blk q1 rfl
          have hW1s : W1.heap.size = wr.heap.size + 1 := by rw [← hW1]; simp
          have hbw1 : Bx (Below w.heap.size w W1) := ⟨by rw [← hW1]; exact hbw.trans ((below1 wr _).mono (by have := hbw.size; omega))⟩
          have HIB : Bx _ := ⟨HIN⟩
          have hccap := hci.cap
          have HK0 : Bx (∃ K, CdM W1 W1 (.slice none 0 0) (u.progs[k].code.take 0) K) := ⟨[], ⟨Below.refl _ _, rfl, ⟨by simp [inC], .inl ⟨rfl, by simp⟩⟩, fun i h1 => by simp at h1⟩⟩
          clear hI htake HC hci HIN q1 hpm
          generalize u.progs[k] = p at *
          go_wp2
          obtain ⟨wB, rfl⟩ : ∃ X, X = wr := ⟨_, rfl⟩
          go_loopg [9, 48] (p.code.length + 1) (fun f v9 v48 wr => ∃ (i : Nat), f = p.code.length + 1 - i ∧ i ≤ p.code.length ∧ v48 = .int .i64 i ∧ Bx (∃ K, CdM W1 wr v9 (p.code.take i) K))
          case atStart => exact ⟨0, by simp, Nat.zero_le _, rfl, HK0⟩
          case round =>
            clear HK0
            obtain ⟨i, hf3, hil, rfl, HJ⟩ := hrel
            obtain ⟨K, hJ⟩ := HJ.out
            clear HJ
            have hbw3 := hbw1.out.trans (hJ.bel.mono hbw1.out.size)
            by_cases hlt3 : i < p.code.length
            · obtain ⟨b', o', ka, kc, rfl, hb', hks, HC⟩ := HIB.out i hlt3
              obtain ⟨e0, e1, e2, e3⟩ := HC.out wr hbw3
              have htake : p.code.take (i + 1) = p.code.take i ++ [p.code[i]] := List.take_succ_eq_append_getElem hlt3
              have hbl' : b' < wr.heap.size := by have := hbw3.size; omega
              have hiI : (i : Int) < (p.code.length : Int) := by omega
              have hxl := HLS.out _ (List.getElem_mem hlt3)
              obtain ⟨W2, W3, W4, W5, gv, cv, v2, g, c, RA⟩ := hJ.push wr.heap.size rfl p.code[i] ka kc ((hks.below hbw3).up hbw1.out.size) hxl (by rw [List.length_take]; omega)
              rw [show (p.code.take i).length = i by rw [List.length_take]; omega] at RA
              obtain ⟨k1, l1, r2, r3, cp, k3, f3, l3, w4, e4, r5, st⟩ := RA
              obtain ⟨p0, p1, p2, p3⟩ : W4.cell? ⟨wr.heap.size, 0, none⟩ = some (.int .i64 p.code[i].op) ∧ W4.cell? ⟨wr.heap.size, 1, none⟩ = some (.int .i64 p.code[i].a) ∧ W4.cell? ⟨wr.heap.size, 2, none⟩ = some (.int .i64 p.code[i].b) ∧ W4.cell? ⟨wr.heap.size, 3, none⟩ = some (.slice (some ⟨g, 0, none⟩) p.code[i].list.length c) := ⟨cell_blk e4 rfl, cell_blk e4 rfl, cell_blk e4 rfl, cell_blk e4 rfl⟩
              have z4 : wr.heap.size < W4.heap.size := heap_lt e4
              have HN : Bx (∃ K, CdM W1 W5 (.slice (some ⟨gv, 0, none⟩) (i + 1) cv) (p.code.take (i + 1)) K) := ⟨_, by rw [htake]; exact st⟩
              clear hJ HC htake st e4 hks HIB HIM HLS hbw3
              generalize p.code[i] = x at *
              go_wp2_with (first
                | (at_builtin; refine wpList_appI rfl (.const (.slice none 0 0)) (.tmp 53) 32 rfl rfl rfl r2 ?_)
                | (at_builtin; refine wpList_appI rfl (.tmp 54) (.tmp 55) 32 rfl rfl rfl r3 ?_)
                | (at_builtin; refine wpList_appI rfl (.tmp 63) (.tmp 65) 38 rfl rfl rfl r5 ?_))
              go_roundg (p.code.length + 1 - (i + 1))
              case measure => omega
              case rel => exact ⟨i + 1, rfl, by omega, by go_num, HN⟩
            · obtain rfl : i = p.code.length := by omega
              rw [List.take_of_length_le (Nat.le_refl _)] at hJ
              obtain ⟨gv, cv, W5, r5, hcp, hb5, hCo⟩ := hJ.last hcl
              obtain ⟨hI, htake, hW1⟩ := HIM.out
              obtain ⟨W6, W7, gp, cp, RA⟩ := hI.push wB.heap.size rfl p ca cc gv cv K hW1 hb5 hCo (by rw [List.length_take]; omega)
              rw [show (u.progs.take k).length = k by rw [List.length_take]; omega] at RA
              obtain ⟨m4, m5, l5, w6, e6, o6, r7, o7, st⟩ := RA
              obtain ⟨p0, p1, p2, p3, p4⟩ : W6.cell? ⟨wB.heap.size, 0, none⟩ = some (.int .i64 p.params) ∧ W6.cell? ⟨wB.heap.size, 1, none⟩ = some (.int .i64 p.slots) ∧ W6.cell? ⟨wB.heap.size, 2, none⟩ = some (.int .i64 p.caps) ∧ W6.cell? ⟨wB.heap.size, 3, none⟩ = some (.bool p.res) ∧ W6.cell? ⟨wB.heap.size, 4, none⟩ = some (.slice (some ⟨gv, 0, none⟩) p.code.length cv) := ⟨cell_blk e6 rfl, cell_blk e6 rfl, cell_blk e6 rfl, cell_blk e6 rfl, cell_blk e6 rfl⟩
              have n6 : W6.cell? ⟨O, 0, none⟩ = some vp := cell_blk o6 rfl
              have n7 : W7.cell? ⟨O, 0, none⟩ = some vp := cell_blk o7 rfl
              have n8 : W7.frozen? ⟨O, 0, none⟩ = false := frz_blk o7
              have z4 : wB.heap.size < W6.heap.size := heap_lt e6
              have z5 : O < W6.heap.size := heap_lt o6
              have z6 : O < W7.heap.size := heap_lt o7
              have HN : Bx (∃ C, PgM w2 (W7.setCell ⟨O, 0, none⟩ (.slice (some ⟨gp, 0, none⟩) (k + 1) cp)) O B (.slice (some ⟨gp, 0, none⟩) (k + 1) cp) va u.types G (u.progs.take (k + 1)) C) := ⟨_, by rw [htake]; exact st⟩
              clear hJ hb5 hCo hI htake hW1 st e6 o6 o7 HIB HIM HLS hbw3
              go_wp2_with (first
                | (at_builtin; refine wpList_appI rfl (.tmp 68) (.tmp 70) 38 rfl rfl rfl r5 ?_)
                | (at_builtin; refine wpList_appI rfl (.tmp 79) (.tmp 81) 22 rfl rfl rfl r7 ?_))
              go_roundg (u.progs.length + 1 - (k + 1))
              case measure => omega
              case rel => exact ⟨k + 1, _, rfl, by omega, by go_num, HN⟩
        · obtain rfl : k = u.progs.length := by omega
          obtain ⟨_, _, _, hbw, hh1⟩ := HU.out wr hI.bel
          have n0 : wr.cell? ⟨O, 0, none⟩ = some vp := cell_blk hI.out rfl
          have n1 : wr.cell? ⟨O, 1, none⟩ = some va := cell_blk hI.out rfl
          have n2 : wr.cell? ⟨H + 1, 0, none⟩ = some (.slice none 0 0) := cell_blk hh1 rfl
          have n3 : wr.cell? ⟨H + 1, 1, none⟩ = some (.slice none 0 0) := cell_blk hh1 rfl
          have z5 : O < wr.heap.size := heap_lt hI.out
          have z6 : H + 1 < wr.heap.size := heap_lt hh1
          have n4 : ∀ i, wr.frozen? ⟨H + 1, i, none⟩ = false := fun i => frz_blk hh1
          obtain ⟨pa', pc', rfl⟩ := owns_slice hI.all
          obtain ⟨ta', tc', rfl⟩ := owns_slice hI.tall
          rw [List.take_of_length_le (Nat.le_refl _)] at hI
          have hBX : Bx (Below w.heap.size w ((wr.setCell ⟨H + 1, 0, none⟩ (.slice pa' u.progs.length pc')).setCell ⟨H + 1, 1, none⟩ (.slice ta' u.types.length tc'))) := ⟨(hbw.setCell (p := ⟨H + 1, 0, none⟩) (by show w.heap.size ≤ H + 1; omega) _).setCell (p := ⟨H + 1, 1, none⟩) (by show w.heap.size ≤ H + 1; omega) _⟩
          have hLT : Bx (∃ B G C, w.heap.size ≤ B ∧ LtU ((wr.setCell ⟨H + 1, 0, none⟩ (.slice pa' u.progs.length pc')).setCell ⟨H + 1, 1, none⟩ (.slice ta' u.types.length tc')) B pa' ta' pc' tc' u G C) := ⟨B, G, C, by omega, LtU.later (W := wr) ⟨hI.tlen, hI.tall, hI.tkid, hI.len, hI.all, hI.cod, hI.ord⟩ fun y hy _ => by
            rw [Below.heap_setCell _ ⟨H + 1, 1, none⟩ _ y (by show y ≠ H + 1; omega), Below.heap_setCell _ ⟨H + 1, 0, none⟩ _ y (by show y ≠ H + 1; omega)]⟩
          have kb : ((wr.setCell ⟨H + 1, 0, none⟩ (.slice pa' u.progs.length pc')).setCell ⟨H + 1, 1, none⟩ (.slice ta' u.types.length tc')).heap[H + 1]? = some (.cells #[.slice pa' u.progs.length pc', .slice ta' u.types.length tc'] 25 (0, 0)) := by
            have a1 := Lib.heap_setCell_same (i := 0) hh1 (.slice pa' u.progs.length pc')
            have a2 := Lib.heap_setCell_same (i := 1) a1 (.slice ta' u.types.length tc')
            simpa using a2
          clear hI hh1
          go_wp2
          try simp only [Exit.inBlock, Exit.then]
          refine bodyPost_ret (results_cell_row rfl _ _ (H + 1) 25 _ (0, 0) _ rfl kb Tryd.underlying25 rfl (by kernel_rfl)) rfl ?_
          exact HQ.out _ _ _ _ _ _ rfl hBX.out hLT.out
end Go.Proofs.YtadmpgegolmkgaaDoor
