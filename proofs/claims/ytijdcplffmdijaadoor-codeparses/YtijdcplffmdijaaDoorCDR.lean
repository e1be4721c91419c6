import Derived.Test.YtijdcplffmdijaaDoorCDM
import Derived.Deep.RegionHeld3
import Derived.Lib.SlBytesRow
import Derived.Lib.BufferRead
namespace Go.Proofs.YtijdcplffmdijaaDoor
open Go.RowKit
set_option linter.unusedVariables false
set_option linter.unusedSimpArgs false

/-- words with numbers that were written out just now -/
theorem words_new (w0 W : World) (B H : Nat) (V : Value) (cs wd : List UInt8) (ks : List Int) (vs : Array Value) (hH : W.heap.size = H) (hB : B ≤ w0.heap.size) (hk : KU B w0 W) (hbo : BO W B V cs) (hvs : vs.toList = ks.map (Value.int .i64)) (hw : ∀ k ∈ ks, I64 k)
    (hl : cs.length + wd.length + 21 * ks.length ≤ 140737488355327) (hm : ks.length ≤ maxLen) (ht : PowAt B w0) :
    Calls Tryd.prog 37 #[V, strV wd, .slice (some ⟨H, 0, none⟩) ks.length ks.length] (W.alloc (.cells vs 3)) fun e w' => ∃ v', e = .returned v' ∧ Bx (BO w' B v' (cs ++ (wd ++ numsT ks)) ∧ KU B w0 w' ∧ KU B W w') := by
  subst hH
  have hBW := Nat.le_trans hB hk.size
  have hk2 : KU B W (W.alloc (.cells vs 3)) := (KU.refl _ _).alloc hBW _
  refine (words_any (W.alloc (.cells vs 3)) B V cs wd (some ⟨W.heap.size, 0, none⟩) ks.length ks (Nat.le_trans hBW hk2.size) (hbo.alloc _) (IntsS.new (ks := ks) (heap_new _ _) hvs hm) hw hl (ht.on (hk.trans hk2).bel)).mono ?_
  rintro e w' ⟨v', h1, h2⟩
  exact ⟨v', h1, ⟨h2.out.1, (hk.trans hk2).trans h2.out.2.ku, hk2.trans h2.out.2.ku⟩⟩
theorem words_newD (w0 W : World) (B H : Nat) (V : Value) (cs wd : List UInt8) (ks : List Int) (vs : Array Value) (hH : W.heap.size = H) (hB : B ≤ w0.heap.size) (hk : KU B w0 W) (hbo : BO W B V cs) (hvs : vs.toList = ks.map (Value.int .i64)) (hw : ∀ k ∈ ks, I64 k)
    (hl : cs.length + wd.length + 21 * ks.length ≤ 140737488355327) (hm : ks.length ≤ maxLen) (ht : PowAt B w0) :
    Calls Tryd.prog 37 #[V, strV wd, .slice (some ⟨H, 0, none⟩) ks.length ks.length] (W.alloc (.cells vs 3)).drew fun e w' => ∃ v', e = .returned v' ∧ Bx (BO w' B v' (cs ++ (wd ++ numsT ks)) ∧ KU B w0 w' ∧ KU B W w') := by
  subst hH
  have hBW := Nat.le_trans hB hk.size
  have hk2 : KU B W (W.alloc (.cells vs 3)).drew := ((KU.refl _ _).alloc hBW _).drew
  refine (words_any (W.alloc (.cells vs 3)).drew B V cs wd (some ⟨W.heap.size, 0, none⟩) ks.length ks (Nat.le_trans hBW hk2.size) (hbo.alloc _).drew (IntsS.new (ks := ks) (heap_new _ _) hvs hm) hw hl (ht.on (hk.trans hk2).bel)).mono ?_
  rintro e w' ⟨v', h1, h2⟩
  exact ⟨v', h1, ⟨h2.out.1, (hk.trans hk2).trans h2.out.2.ku, hk2.trans h2.out.2.ku⟩⟩
theorem numbers_on (w0 W : World) (B : Nat) (V : Value) (cs : List UInt8) (a : Option Addr) (cap : Nat) (ks : List Int) (hB : B ≤ w0.heap.size) (hk : KU B w0 W) (hbo : BO W B V cs) (hi : IntsV w0 B a cap ks) (hw : ∀ k ∈ ks, I64 k) (hl : cs.length + 21 * ks.length ≤ 140737488355327) (ht : PowAt B w0) :
    Calls Tryd.prog 39 #[V, .slice a ks.length cap] W fun e w' => ∃ v', e = .returned v' ∧ Bx (BO w' B v' (cs ++ numsT ks) ∧ KU B w0 w' ∧ KU B W w') :=
  (numbers_any W B V cs a cap ks (Nat.le_trans hB hk.size) hbo ((IntsS.of hi hB).on hk) hw hl (ht.on hk.bel)).mono fun e w' ⟨v', h1, h2⟩ => ⟨v', h1, ⟨h2.out.1, hk.trans h2.out.2.ku, h2.out.2.ku⟩⟩
/-- a line feed behind them -/
theorem nl_push {w0 W : World} {B N : Nat} {V : Value} {T : List UInt8} (hB : B ≤ w0.heap.size) (hN : T.length = N) (hk : KU B w0 W) (hbo : BO W B V T) : (W.alloc (.cells #[.int .u8 10] 5)).ownsRow B 5 1 V N (Lib.byteCells T) ∧ B ≤ W.heap.size ∧
    ∀ g2 cp2 w8, (W.alloc (.cells #[.int .u8 10] 5)).grownBy w8 V.ownBlock → w8.ownsRow B 5 1 (.slice (some ⟨g2, 0, none⟩) (N + 1) cp2) (N + 1) (Lib.byteCells T ++ [.int .u8 10]) → BO w8 B (.slice (some ⟨g2, 0, none⟩) (N + 1) cp2) (T ++ [10]) ∧ KU B w0 w8 ∧ KU B W w8 := by
  subst hN
  have hBW := Nat.le_trans hB hk.size
  refine ⟨(hbo.alloc _).own, hBW, fun g2 cp2 w8 hg ho => ?_⟩
  have h1 := hbo.push (c := 10) (KU.refl B W) hBW hg ho
  exact ⟨h1.1, hk.trans h1.2, h1.2⟩
theorem heap_newH (w : World) (o : Obj) (H : Nat) (h : w.heap.size = H) : (w.alloc o).heap[H]? = some o := by subst h; exact heap_new w o
/-- words at a world where the numbers lie written out -/
theorem words_at (w0 X : World) (B H : Nat) (V : Value) (cs wd : List UInt8) (ks : List Int) (vs : Array Value) (hh : X.heap[H]? = some (.cells vs 3 (0, 0))) (hB : B ≤ w0.heap.size) (hk : KU B w0 X) (hbo : BO X B V cs) (hvs : vs.toList = ks.map (Value.int .i64)) (hw : ∀ k ∈ ks, I64 k)
    (hl : cs.length + wd.length + 21 * ks.length ≤ 140737488355327) (hm : ks.length ≤ maxLen) (ht : PowAt B w0) :
    Calls Tryd.prog 37 #[V, strV wd, .slice (some ⟨H, 0, none⟩) ks.length ks.length] X fun e w' => ∃ v', e = .returned v' ∧ Bx (BO w' B v' (cs ++ (wd ++ numsT ks)) ∧ KV B V v' X w') :=
  words_any X B V cs wd (some ⟨H, 0, none⟩) ks.length ks (Nat.le_trans hB hk.size) hbo (IntsS.new (ks := ks) hh hvs hm) hw hl (ht.on hk.bel)
theorem nl_grow {W w8 : World} {B N : Nat} {V : Value} {T : List UInt8} {g2 cp2 : Nat} (hBW : B ≤ W.heap.size) (hN : T.length = N) (hbo : BO W B V T) (hg : W.grownBy w8 V.ownBlock) (ho : w8.ownsRow B 5 1 (.slice (some ⟨g2, 0, none⟩) (N + 1) cp2) (N + 1) (Lib.byteCells T ++ [.int .u8 10])) :
    BO w8 B (.slice (some ⟨g2, 0, none⟩) (N + 1) cp2) (T ++ [10]) ∧ KU B W w8 := by
  subst hN
  refine ⟨?_, (KU.refl B W).grown hBW hbo hg⟩
  unfold BO
  rw [Lib.byteCells_append, List.length_append]
  exact ho
theorem pg_get {w wr : World} {B k : Nat} {ta : Option Addr} {tc : Nat} {l : List CPg} (h : Row (PgAt w B) B 5 ta tc l) (hb : Below B w wr) (hk : k < l.length) : ∃ b o ca cc, ta = some ⟨b, o, none⟩ ∧ wr.cell? ⟨b, o + k * 5, none⟩ = some (.int .i64 l[k].params) ∧ wr.cell? ⟨b, o + k * 5 + 1, none⟩ = some (.int .i64 l[k].slots) ∧ wr.cell? ⟨b, o + k * 5 + 2, none⟩ = some (.int .i64 l[k].caps) ∧ wr.cell? ⟨b, o + k * 5 + 3, none⟩ = some (.bool l[k].res) ∧ wr.cell? ⟨b, o + k * 5 + 4, none⟩ = some (.slice ca l[k].code.length cc) ∧ Row (InAt w B) B 4 ca cc l[k].code := by
  obtain ⟨b, o, rfl, hlt, hj⟩ := h.at_ (by omega)
  obtain ⟨ka, kc, h0, h1, h2, h3, h4, h5⟩ := (hj k hk).ex
  have hc : ∀ i, wr.cell? ⟨b, i, none⟩ = w.cell? ⟨b, i, none⟩ := fun i => hb.cell (p := ⟨b, i, none⟩) hlt
  exact ⟨b, o, ka, kc, rfl, by rw [hc]; exact h0, by rw [hc]; exact h1, by rw [hc]; exact h2, by rw [hc]; exact h3, by rw [hc]; exact h4, h5⟩
theorem in_get {w wr : World} {B k : Nat} {ta : Option Addr} {tc : Nat} {l : List CIn} (h : Row (InAt w B) B 4 ta tc l) (hb : Below B w wr) (hk : k < l.length) : ∃ b o ka kc, ta = some ⟨b, o, none⟩ ∧ wr.cell? ⟨b, o + k * 4, none⟩ = some (.int .i64 l[k].op) ∧ wr.cell? ⟨b, o + k * 4 + 1, none⟩ = some (.int .i64 l[k].a) ∧ wr.cell? ⟨b, o + k * 4 + 2, none⟩ = some (.int .i64 l[k].b) ∧ wr.cell? ⟨b, o + k * 4 + 3, none⟩ = some (.slice ka l[k].list.length kc) ∧ IntsV w B ka kc l[k].list := by
  obtain ⟨b, o, rfl, hlt, hj⟩ := h.at_ (by omega)
  obtain ⟨ka, kc, h0, h1, h2, h3, h4⟩ := (hj k hk).ex
  have hc : ∀ i, wr.cell? ⟨b, i, none⟩ = w.cell? ⟨b, i, none⟩ := fun i => hb.cell (p := ⟨b, i, none⟩) hlt
  exact ⟨b, o, ka, kc, rfl, by rw [hc]; exact h0, by rw [hc]; exact h1, by rw [hc]; exact h2, by rw [hc]; exact h3, h4⟩
/-- bytes as a text -/
theorem BO.str {w : World} {B : Nat} {v : Value} {bs : List UInt8} (h : BO w B v bs) : (convert 68 9 v).run Tryd.prog w = .ok (strV bs) w := by
  rcases h.own.2 with ⟨rfl, hn⟩ | ⟨g, cap, cur, rfl, hB, hg, q1, q2, q3, q4⟩
  · have : bs = [] := List.eq_nil_of_length_eq_zero hn
    subst this
    exact Lib.run_convert_nil_bytes w 68 9 5 0 Tryd.underlying68 Tryd.underlying5 Tryd.underlying9
  · have hsz : (⟨bs.toArray⟩ : ByteArray).size = bs.length := by simp [ByteArray.size]
    have hc : Lib.Bytes w g 0 ⟨bs.toArray⟩ := fun i hi => by
      rw [hsz] at hi
      rw [Nat.zero_add]
      refine cell_blk hg ?_
      have e := congrArg (·[i]?) q4
      simp only [Lib.byteCells, List.getElem?_map] at e
      rw [List.getElem?_take_of_lt (by omega), Array.getElem?_toList, List.getElem?_eq_getElem hi] at e
      rw [e]
      rfl
    have := Lib.run_convert_whole (P := Tryd.prog) w 68 5 9 Tryd.underlying68 Tryd.underlying5 Tryd.underlying9 g 0 ⟨bs.toArray⟩ hc cap
    rw [hsz] at this
    exact this
theorem ty_get {w wr : World} {B k : Nat} {ta : Option Addr} {tc : Nat} {l : List CTy} (h : Row (TyAt w B) B 3 ta tc l) (hb : Below B w wr) (hk : k < l.length) : ∃ b o ka kc, ta = some ⟨b, o, none⟩ ∧ wr.cell? ⟨b, o + k * 3, none⟩ = some (.int .i64 l[k].kind) ∧ wr.cell? ⟨b, o + k * 3 + 1, none⟩ = some (.slice ka l[k].kids.length kc) ∧ wr.cell? ⟨b, o + k * 3 + 2, none⟩ = some (.bool l[k].res) ∧ IntsV w B ka kc l[k].kids := by
  obtain ⟨b, o, rfl, hlt, hj⟩ := h.at_ (by omega)
  obtain ⟨ka, kc, h0, h1, h2, h3⟩ := (hj k hk).ex
  have hc : ∀ i, wr.cell? ⟨b, i, none⟩ = w.cell? ⟨b, i, none⟩ := fun i => hb.cell (p := ⟨b, i, none⟩) hlt
  exact ⟨b, o, ka, kc, rfl, by rw [hc]; exact h0, by rw [hc]; exact h1, by rw [hc]; exact h2, h3⟩

set_option maxRecDepth 100000 in
set_option maxHeartbeats 4000000 in
theorem Print_any (w : World) (u : CUn) (pa : Option Addr) (pc : Nat) (ta : Option Addr) (tc : Nat) (hu : UnIn w w.heap.size pa pc ta tc u) (hwf : u.Wf) (hs : Shp w) (ht : Lib.TabBelow Tryd.prog w.heap.size w "internal/strconv.uint64pow10" .u64 Lib.pow10Tab) (hc : unC u ≤ 140737488355000) :
    Calls Tryd.prog 22 #[unV u pa pc ta tc] w fun e w' => e = .returned (.tuple #[strV (if fitU u then unitT u else []), .int .i64 (if fitU u then 0 else 80)]) ∧ Below w.heap.size w w' := by
  obtain ⟨w0, hw0⟩ : ∃ w0, w0 = w.alloc (.cells #[.slice pa u.progs.length pc, .slice ta u.types.length tc] 36) := ⟨_, rfl⟩
  obtain ⟨B, hB⟩ : ∃ B, B = w0.heap.size := ⟨_, rfl⟩
  have hb0 : Below w.heap.size w w0 := by rw [hw0]; exact below1 w _
  have hwB : w.heap.size ≤ B := by rw [hB]; exact hb0.size
  have HU : Bx (UnIn w0 B pa pc ta tc u) := ⟨hu.below hb0 hwB⟩
  have HT : Bx (PowAt B w0) := ⟨fun w' hb => ht w' (hb0.trans (hb.mono hwB))⟩
  have HSH : Bx (∀ W, Below B w0 W → Shp W) := ⟨fun W hb => hs.below (hb0.trans (hb.mono hwB))⟩
  have HEND : Bx (∀ W, KU B w0 W → Below w.heap.size w W) := ⟨fun W hk => hb0.trans (hk.bel.mono hwB)⟩
  have HWF : Bx u.Wf := ⟨hwf⟩
  have hBle : B ≤ w0.heap.size := by omega
  have pmax := hu.progs.max
  have tmax := hu.types.max
  unfold maxLen at pmax tmax
  have d0 : w0.cell? ⟨w.heap.size, 0, none⟩ = some (.slice pa u.progs.length pc) := by rw [hw0]; simp [go_sem]
  have d1 : w0.cell? ⟨w.heap.size, 1, none⟩ = some (.slice ta u.types.length tc) := by rw [hw0]; simp [go_sem]
  have HC1 : Bx (∀ W, KU B w0 W → W.cell? ⟨w.heap.size, 0, none⟩ = some (.slice pa u.progs.length pc)) := ⟨fun W hk => by rw [hk.bel.cell (p := ⟨w.heap.size, 0, none⟩) (by rw [hB, hw0]; simp)]; exact d0⟩
  have hq0 : w.heap.size < w0.heap.size := by rw [hw0]; simp
  obtain ⟨j0, ji, jz0, jz1, jz2⟩ := info_parts infoU8
  obtain ⟨RS, hRS⟩ : ∃ RS, RS = (if fitU u then unitT u else []) := ⟨_, rfl⟩
  obtain ⟨RE, hRE⟩ : ∃ RE : Int, RE = (if fitU u then 0 else 80) := ⟨_, rfl⟩
  rw [← hRS, ← hRE]
  have HR0 : Bx (fitU u = false → RS = [] ∧ RE = 80) := ⟨fun h => by rw [hRS, hRE, h]; exact ⟨rfl, rfl⟩⟩
  have HR1 : Bx (fitU u = true → RS = unitT u ∧ RE = 0) := ⟨fun h => by rw [hRS, hRE, h]; exact ⟨rfl, rfl⟩⟩
  clear hu hwf hs ht hb0 hRS hRE
  go_enter Tryd.func22, Tryd.ntmps22
  go_wp2
  rw [← hw0]
  go_loopw [14, 4] (fun x v wr => ∃ (k : Nat) (vv : Value), k ≤ u.types.length ∧ x = .int .i64 k ∧ vv = v ∧ Bx (BO wr B vv ((u.types.take k).flatMap typeT) ∧ KU B w0 wr)) (fun x _ _ => u.types.length - (intOf x).toNat)
  case atStart => exact ⟨0, _, Nat.zero_le _, rfl, rfl, ⟨World.ownsRow_nil _ _ _ _, KU.refl _ _⟩⟩
  case round =>
    obtain ⟨k, vv, hk, rfl, rfl, HS⟩ := hrel
    by_cases hlt : k < u.types.length
    · have hsz := HS.out.2.size
      obtain ⟨b, o, ka, kc, rfl, c0, c1, c2, hkk⟩ := ty_get HU.out.types HS.out.2.bel hlt
      have hwt := HWF.out.types u.types[k] (List.getElem_mem hlt)
      have hsum := sumF_take tyC u.types k hlt
      have hfl := flat_le tyC typeT (u.types.take k) fun t ht => type_len (HWF.out.types t (List.mem_of_mem_take ht))
      have hft := flat_take typeT u.types k hlt
      have hcc : sumF tyC u.types ≤ 140737488355000 := by unfold unC at hc; omega
      have hkm := hkk.max
      unfold maxLen at hkm
      generalize hT : (u.types.take k).flatMap typeT = T at *
      generalize ht : u.types[k] = t at *
      have hTl : T.length + 50 + 21 * t.kids.length ≤ 140737488355000 := by have e : tyC t = 50 + 21 * t.kids.length := rfl; omega
      have K1 : KU B w0 (wr.alloc (.cells #[.int .i64 t.kind, .slice ka t.kids.length kc, .bool t.res] 54)) := HS.out.2.alloc (by omega) _
      have B1 : BO (wr.alloc (.cells #[.int .i64 t.kind, .slice ka t.kids.length kc, .bool t.res] 54)) B vv T := HS.out.1.alloc _
      have HWD : Bx _ := ⟨words_newD w0 (wr.alloc (.cells #[.int .i64 t.kind, .slice ka t.kids.length kc, .bool t.res] 54)) B (wr.heap.size + 1) vv T typeW [t.kind, bitI t.res] #[.int .i64 t.kind, .int .i64 (bitI t.res)] (by simp) hBle K1 B1 rfl (fun k hk => by
        simp only [List.mem_cons, List.not_mem_nil, or_false] at hk
        rcases hk with rfl | rfl
        · exact hwt.kind
        · exact bit64 _) (by have e : typeW.length = 4 := rfl; simp only [List.length_cons, List.length_nil]; omega) (by simp [maxLen]) HT.out⟩
      have z0 : (wr.alloc (.cells #[.int .i64 t.kind, .slice ka t.kids.length kc, .bool t.res] 54)).cell? ⟨wr.heap.size, 0, none⟩ = some (.int .i64 t.kind) := cell_blk (heap_new _ _) rfl
      have z2 : (wr.alloc (.cells #[.int .i64 t.kind, .slice ka t.kids.length kc, .bool t.res] 54)).cell? ⟨wr.heap.size, 2, none⟩ = some (.bool t.res) := cell_blk (heap_new _ _) rfl
      have G : Bx (∀ W, KU B (wr.alloc (.cells #[.int .i64 t.kind, .slice ka t.kids.length kc, .bool t.res] 54)) W → W.cell? ⟨wr.heap.size, 0, none⟩ = some (.int .i64 t.kind) ∧ W.cell? ⟨wr.heap.size, 1, none⟩ = some (.slice ka t.kids.length kc) ∧ W.cell? ⟨wr.heap.size, 2, none⟩ = some (.bool t.res) ∧ wr.heap.size < W.heap.size) := ⟨fun W hk => by
        have e1 := hk.block (heap_new wr (.cells #[.int .i64 t.kind, .slice ka t.kids.length kc, .bool t.res] 54)) (fun c fz e => by injection e with _ e; exact absurd e (by decide))
        exact ⟨cell_blk e1 rfl, cell_blk e1 rfl, cell_blk e1 rfl, (Array.getElem?_eq_some_iff.1 e1).1⟩⟩
      have HNM : Bx (∀ W V, KU B w0 W → BO W B V (T ++ (typeW ++ numsT [t.kind, bitI t.res])) → Calls Tryd.prog 39 #[V, .slice ka t.kids.length kc] W fun e w' => ∃ v', e = .returned v' ∧ Bx (BO w' B v' (T ++ (typeW ++ numsT [t.kind, bitI t.res]) ++ numsT t.kids) ∧ KU B w0 w' ∧ KU B W w')) := ⟨fun W V hk hbo => numbers_on w0 W B V _ ka kc t.kids hBle hk hbo hkk hwt.kids (by
        have e : typeW.length = 4 := rfl
        have := nums_one hwt.kind
        have := nums_one (bit64 t.res)
        rw [show numsT [t.kind, bitI t.res] = numsT [t.kind] ++ numsT [bitI t.res] from nums_app [t.kind] [bitI t.res]]
        simp only [List.length_append]
        omega) HT.out⟩
      have HTT : Bx (T ++ (typeW ++ numsT [t.kind, bitI t.res]) ++ numsT t.kids ++ [10] = (u.types.take (k + 1)).flatMap typeT) := ⟨by
        rw [hft]
        unfold typeT
        rw [show t.kind :: bitI t.res :: t.kids = [t.kind, bitI t.res] ++ t.kids from rfl, nums_app]
        simp only [List.append_assoc]⟩
      have HTL : Bx ((T ++ (typeW ++ numsT [t.kind, bitI t.res]) ++ numsT t.kids).length ≤ 140737488355000) := ⟨by
        have := type_len hwt
        have e : (T ++ (typeW ++ numsT [t.kind, bitI t.res]) ++ numsT t.kids ++ [10]).length = (T ++ typeT t).length := by rw [HTT.out, hft]
        rw [List.length_append, @List.length_append _ T (typeT t)] at e
        unfold tyC at this
        simp only [List.length_cons, List.length_nil] at e
        omega⟩
      have HK1 : Bx _ := ⟨K1⟩
      clear hT ht hfl hsum hft hcc HS B1 hkk hwt K1 hw0
      go_wp2_with fail
      go_region_held (fun w' => w'.cell? ⟨wr.heap.size, 0, none⟩ = some (.int .i64 t.kind) ∧ w'.cell? ⟨wr.heap.size, 2, none⟩ = some (.bool t.res))
        (first | exact ⟨z0, z2⟩ | exact ⟨q0, q2⟩ | go_keep)
        (first | (go_at_call 38; refine (bit_any _ _).mono ?_; rintro e w' ⟨rfl, rfl⟩) | (go_at_call 37; refine HWD.out.mono ?_; rintro e w4 ⟨v4, rfl, H4⟩; obtain ⟨q0, q1, q2, q3⟩ := G.out _ H4.out.2.2))
      have HK4 : Bx (KU B w0 w4 ∧ BO w4 B v4 (T ++ (typeW ++ numsT [t.kind, bitI t.res]))) := ⟨H4.out.2.1, H4.out.1⟩
      clear H4 G q0 q2 z0 z2 HWD
      generalize hT5 : T ++ (typeW ++ numsT [t.kind, bitI t.res]) ++ numsT t.kids = T5 at *
      obtain ⟨N, hN⟩ : ∃ N, T5.length = N := ⟨_, rfl⟩
      have hNl : N ≤ 140737488355000 := by rw [← hN]; exact HTL.out
      clear hT5 HTL
      go_wp2_with (first
        | (go_at_call 39; refine (HNM.out _ _ HK4.out.1 HK4.out.2).mono ?_; rintro e w5 ⟨v5, rfl, H5⟩; obtain ⟨p1, p2, p3⟩ := nl_push hBle hN H5.out.2.1 H5.out.1; have PB : Bx _ := ⟨p3⟩; have PB1 : Bx _ := ⟨p1⟩; clear p3 p1 H5)
        | (at_builtin; refine wpList_append_lies _ rfl (.tmp 29) (.tmp 30) 68 rfl B 5 j0 (.int .u8 0) 1 1 Tryd.underlying68 ji jz0 jz1 jz2 rfl (by decide) v5 N (Lib.byteCells T5) rfl PB1.out ⟨w5.heap.size, 0, none⟩ 1 1 [.int .u8 10] rfl rfl (u8_news _ _ rfl _) (u8_one _) (by decide) (by unfold maxLen; omega) (by omega) (by simp; omega) (w5.heap.size + 1) (by simp) ?_; intro gg cg w8 hown hgrow hat hlt8; have LN := PB.out gg cg w8 hgrow hown; have LNB : Bx _ := ⟨LN⟩; clear hgrow hat hown LN))
      go_roundw
      case rel => exact ⟨k + 1, _, by omega, by go_num, rfl, ⟨by rw [← HTT.out]; exact LNB.out.1, LNB.out.2.1⟩⟩
      case measure => simp [intOf]; omega
    · have hke : k = u.types.length := by omega
      subst hke
      rw [List.take_of_length_le (Nat.le_refl _)] at HS
      have HS0 : Bx _ := HS
      have y0 := HC1.out _ HS.out.2
      have hTL := flat_le tyC typeT u.types fun t ht => type_len (HWF.out.types t ht)
      have hTL2 : (u.types.flatMap typeT).length + sumF pgC u.progs ≤ 140737488355000 := by unfold unC at hc; omega
      generalize hTT : u.types.flatMap typeT = TT at *
      clear hTL HS
      go_wp2
      go_loopw [36, 4] (fun x v wr => ∃ (k : Nat) (vv : Value), k ≤ u.progs.length ∧ x = .int .i64 k ∧ vv = v ∧ Bx (BO wr B vv (TT ++ (u.progs.take k).flatMap progT) ∧ KU B w0 wr ∧ (u.progs.take k).all fitP = true)) (fun x _ _ => u.progs.length - (intOf x).toNat)
      case atStart => exact ⟨0, _, Nat.zero_le _, rfl, rfl, ⟨by rw [List.take_zero, List.flatMap_nil, List.append_nil]; exact HS0.out.1, HS0.out.2, rfl⟩⟩
      case round =>
        obtain ⟨k, v3, hk2, rfl, rfl, HS⟩ := hrel
        clear HS0 y0
        by_cases hlt2 : k < u.progs.length
        · have hsz := HS.out.2.1.size
          obtain ⟨b, o, ca, cc, rfl, c0, c1, c2, c3, c4, hcd⟩ := pg_get HU.out.progs HS.out.2.1.bel hlt2
          have hwp := HWF.out.progs u.progs[k] (List.getElem_mem hlt2)
          have hsum := sumF_take pgC u.progs k hlt2
          have hfl := flat_le pgC progT (u.progs.take k) fun t ht => prog_len (HWF.out.progs t (List.mem_of_mem_take ht))
          have hft := flat_take progT u.progs k hlt2
          have hcm := hcd.max
          unfold maxLen at hcm
          have hall : (u.progs.take (k + 1)).all fitP = ((u.progs.take k).all fitP && fitP u.progs[k]) := by
            rw [List.take_succ_eq_append_getElem hlt2, List.all_append]
            simp
          have hbad : fitP u.progs[k] = false → fitU u = false := fun h => by
            unfold fitU
            rw [List.all_eq_false]
            exact ⟨u.progs[k], List.getElem_mem hlt2, by rw [h]; simp⟩
          generalize hT : TT ++ (u.progs.take k).flatMap progT = T at *
          generalize hp : u.progs[k] = p at *
          have hTl : T.length + 100 + sumF inC p.code ≤ 140737488355000 := by
            have e : pgC p = 100 + sumF inC p.code := rfl
            rw [← hT, List.length_append]
            omega
          obtain ⟨H, hH⟩ : ∃ H, wr.heap.size = H := ⟨_, rfl⟩
          have K1 : KU B w0 (wr.alloc (.cells #[.int .i64 p.params, .int .i64 p.slots, .int .i64 p.caps, .bool p.res, .slice ca p.code.length cc] 57)) := HS.out.2.1.alloc (by omega) _
          have B1 : BO (wr.alloc (.cells #[.int .i64 p.params, .int .i64 p.slots, .int .i64 p.caps, .bool p.res, .slice ca p.code.length cc] 57)) B v3 T := HS.out.1.alloc _
          have hown3 : ∀ g, v3.ownBlock = some g → g < H := fun g hg => by rw [← hH]; exact (owns_block HS.out.1 hg).2
          have hks : ∀ x ∈ [p.params, p.slots, p.caps, bitI p.res], I64 x := fun x hx => by
            simp only [List.mem_cons, List.not_mem_nil, or_false] at hx
            rcases hx with rfl | rfl | rfl | rfl
            · exact hwp.params
            · exact hwp.slots
            · exact hwp.caps
            · exact bit64 _
          have hkl : T.length + progW.length + 21 * 4 ≤ 140737488355327 := by
            have e : progW.length = 4 := rfl
            omega
          have HWA : Bx _ := ⟨words_at w0 (((wr.alloc (.cells #[.int .i64 p.params, .int .i64 p.slots, .int .i64 p.caps, .bool p.res, .slice ca p.code.length cc] 57)).alloc (.cells #[.int .u8 10] 5)).alloc (.cells #[.int .i64 p.params, .int .i64 p.slots, .int .i64 p.caps, .int .i64 (bitI p.res)] 3)).drew B (H + 2) v3 T progW [p.params, p.slots, p.caps, bitI p.res] #[.int .i64 p.params, .int .i64 p.slots, .int .i64 p.caps, .int .i64 (bitI p.res)] (heap_newH ((wr.alloc (.cells #[.int .i64 p.params, .int .i64 p.slots, .int .i64 p.caps, .bool p.res, .slice ca p.code.length cc] 57)).alloc (.cells #[.int .u8 10] 5)) (.cells #[.int .i64 p.params, .int .i64 p.slots, .int .i64 p.caps, .int .i64 (bitI p.res)] 3) (H + 2) (by simp; omega)) hBle ((K1.alloc (by simp; omega) _).alloc (by simp; omega) _).drew ((B1.alloc _).alloc _).drew rfl hks hkl (by simp [maxLen]) HT.out⟩
          have HWB : Bx _ := ⟨words_at w0 (((wr.alloc (.cells #[.int .i64 p.params, .int .i64 p.slots, .int .i64 p.caps, .bool p.res, .slice ca p.code.length cc] 57)).alloc (.cells #[.int .i64 p.params, .int .i64 p.slots, .int .i64 p.caps, .int .i64 (bitI p.res)] 3)).alloc (.cells #[.int .u8 10] 5)).drew B (H + 1) v3 T progW [p.params, p.slots, p.caps, bitI p.res] #[.int .i64 p.params, .int .i64 p.slots, .int .i64 p.caps, .int .i64 (bitI p.res)] (below_heap (below1 ((wr.alloc (.cells #[.int .i64 p.params, .int .i64 p.slots, .int .i64 p.caps, .bool p.res, .slice ca p.code.length cc] 57)).alloc (.cells #[.int .i64 p.params, .int .i64 p.slots, .int .i64 p.caps, .int .i64 (bitI p.res)] 3)) (.cells #[.int .u8 10] 5)) (heap_newH (wr.alloc (.cells #[.int .i64 p.params, .int .i64 p.slots, .int .i64 p.caps, .bool p.res, .slice ca p.code.length cc] 57)) (.cells #[.int .i64 p.params, .int .i64 p.slots, .int .i64 p.caps, .int .i64 (bitI p.res)] 3) (H + 1) (by simp; omega))) hBle ((K1.alloc (by simp; omega) _).alloc (by simp; omega) _).drew ((B1.alloc _).alloc _).drew rfl hks hkl (by simp [maxLen]) HT.out⟩
          have HWC : Bx _ := ⟨words_at w0 ((wr.alloc (.cells #[.int .i64 p.params, .int .i64 p.slots, .int .i64 p.caps, .bool p.res, .slice ca p.code.length cc] 57)).alloc (.cells #[.int .i64 p.params, .int .i64 p.slots, .int .i64 p.caps, .int .i64 (bitI p.res)] 3)).drew B (H + 1) v3 T progW [p.params, p.slots, p.caps, bitI p.res] #[.int .i64 p.params, .int .i64 p.slots, .int .i64 p.caps, .int .i64 (bitI p.res)] (heap_newH (wr.alloc (.cells #[.int .i64 p.params, .int .i64 p.slots, .int .i64 p.caps, .bool p.res, .slice ca p.code.length cc] 57)) (.cells #[.int .i64 p.params, .int .i64 p.slots, .int .i64 p.caps, .int .i64 (bitI p.res)] 3) (H + 1) (by simp; omega)) hBle (K1.alloc (by simp; omega) _).drew (B1.alloc _).drew rfl hks hkl (by simp [maxLen]) HT.out⟩
          have YA : Bx (∀ v4 w4, KV B v3 v4 (((wr.alloc (.cells #[.int .i64 p.params, .int .i64 p.slots, .int .i64 p.caps, .bool p.res, .slice ca p.code.length cc] 57)).alloc (.cells #[.int .u8 10] 5)).alloc (.cells #[.int .i64 p.params, .int .i64 p.slots, .int .i64 p.caps, .int .i64 (bitI p.res)] 3)).drew w4 → w4.heap[H + 1]? = some (.cells #[.int .u8 10] 5 (0, 0)) ∧ KU B (wr.alloc (.cells #[.int .i64 p.params, .int .i64 p.slots, .int .i64 p.caps, .bool p.res, .slice ca p.code.length cc] 57)) w4) := ⟨fun v4 w4 hv => ⟨by
              rw [hv.blk (H + 1) (by simp; omega) (fun e => by have := hown3 _ e; omega)]
              exact below_heap (below1 ((wr.alloc (.cells #[.int .i64 p.params, .int .i64 p.slots, .int .i64 p.caps, .bool p.res, .slice ca p.code.length cc] 57)).alloc (.cells #[.int .u8 10] 5)) (.cells #[.int .i64 p.params, .int .i64 p.slots, .int .i64 p.caps, .int .i64 (bitI p.res)] 3)) (heap_newH (wr.alloc (.cells #[.int .i64 p.params, .int .i64 p.slots, .int .i64 p.caps, .bool p.res, .slice ca p.code.length cc] 57)) (.cells #[.int .u8 10] 5) (H + 1) (by simp; omega)), ((((KU.refl B (wr.alloc (.cells #[.int .i64 p.params, .int .i64 p.slots, .int .i64 p.caps, .bool p.res, .slice ca p.code.length cc] 57))).alloc (by simp; omega) _).alloc (by simp; omega) _).drew).trans hv.ku⟩⟩
          have YB : Bx (∀ v4 w4, KV B v3 v4 (((wr.alloc (.cells #[.int .i64 p.params, .int .i64 p.slots, .int .i64 p.caps, .bool p.res, .slice ca p.code.length cc] 57)).alloc (.cells #[.int .i64 p.params, .int .i64 p.slots, .int .i64 p.caps, .int .i64 (bitI p.res)] 3)).alloc (.cells #[.int .u8 10] 5)).drew w4 → w4.heap[H + 2]? = some (.cells #[.int .u8 10] 5 (0, 0)) ∧ KU B (wr.alloc (.cells #[.int .i64 p.params, .int .i64 p.slots, .int .i64 p.caps, .bool p.res, .slice ca p.code.length cc] 57)) w4) := ⟨fun v4 w4 hv => ⟨by
              rw [hv.blk (H + 2) (by simp; omega) (fun e => by have := hown3 _ e; omega)]
              exact heap_newH ((wr.alloc (.cells #[.int .i64 p.params, .int .i64 p.slots, .int .i64 p.caps, .bool p.res, .slice ca p.code.length cc] 57)).alloc (.cells #[.int .i64 p.params, .int .i64 p.slots, .int .i64 p.caps, .int .i64 (bitI p.res)] 3)) (.cells #[.int .u8 10] 5) (H + 2) (by simp; omega), ((((KU.refl B (wr.alloc (.cells #[.int .i64 p.params, .int .i64 p.slots, .int .i64 p.caps, .bool p.res, .slice ca p.code.length cc] 57))).alloc (by simp; omega) _).alloc (by simp; omega) _).drew).trans hv.ku⟩⟩
          have YC : Bx (∀ v4 w4, KV B v3 v4 ((wr.alloc (.cells #[.int .i64 p.params, .int .i64 p.slots, .int .i64 p.caps, .bool p.res, .slice ca p.code.length cc] 57)).alloc (.cells #[.int .i64 p.params, .int .i64 p.slots, .int .i64 p.caps, .int .i64 (bitI p.res)] 3)).drew w4 → KU B (wr.alloc (.cells #[.int .i64 p.params, .int .i64 p.slots, .int .i64 p.caps, .bool p.res, .slice ca p.code.length cc] 57)) w4) := ⟨fun v4 w4 hv => ((((KU.refl B (wr.alloc (.cells #[.int .i64 p.params, .int .i64 p.slots, .int .i64 p.caps, .bool p.res, .slice ca p.code.length cc] 57))).alloc (by simp; omega) _)).drew).trans hv.ku⟩
          obtain ⟨XA, eA⟩ : ∃ X, X = (((wr.alloc (.cells #[.int .i64 p.params, .int .i64 p.slots, .int .i64 p.caps, .bool p.res, .slice ca p.code.length cc] 57)).alloc (.cells #[.int .u8 10] 5)).alloc (.cells #[.int .i64 p.params, .int .i64 p.slots, .int .i64 p.caps, .int .i64 (bitI p.res)] 3)).drew := ⟨_, rfl⟩
          obtain ⟨XB, eB⟩ : ∃ X, X = (((wr.alloc (.cells #[.int .i64 p.params, .int .i64 p.slots, .int .i64 p.caps, .bool p.res, .slice ca p.code.length cc] 57)).alloc (.cells #[.int .i64 p.params, .int .i64 p.slots, .int .i64 p.caps, .int .i64 (bitI p.res)] 3)).alloc (.cells #[.int .u8 10] 5)).drew := ⟨_, rfl⟩
          obtain ⟨XC, eC⟩ : ∃ X, X = ((wr.alloc (.cells #[.int .i64 p.params, .int .i64 p.slots, .int .i64 p.caps, .bool p.res, .slice ca p.code.length cc] 57)).alloc (.cells #[.int .i64 p.params, .int .i64 p.slots, .int .i64 p.caps, .int .i64 (bitI p.res)] 3)).drew := ⟨_, rfl⟩
          rw [← eA] at HWA YA
          rw [← eB] at HWB YB
          rw [← eC] at HWC YC
          have EA : Bx ((((wr.alloc (.cells #[.int .i64 p.params, .int .i64 p.slots, .int .i64 p.caps, .bool p.res, .slice ca p.code.length cc] 57)).alloc (.cells #[.int .u8 10] 5)).alloc (.cells #[.int .i64 p.params, .int .i64 p.slots, .int .i64 p.caps, .int .i64 (bitI p.res)] 3)).drew = XA) := ⟨eA.symm⟩
          have EB : Bx ((((wr.alloc (.cells #[.int .i64 p.params, .int .i64 p.slots, .int .i64 p.caps, .bool p.res, .slice ca p.code.length cc] 57)).alloc (.cells #[.int .i64 p.params, .int .i64 p.slots, .int .i64 p.caps, .int .i64 (bitI p.res)] 3)).alloc (.cells #[.int .u8 10] 5)).drew = XB) := ⟨eB.symm⟩
          have EC : Bx (((wr.alloc (.cells #[.int .i64 p.params, .int .i64 p.slots, .int .i64 p.caps, .bool p.res, .slice ca p.code.length cc] 57)).alloc (.cells #[.int .i64 p.params, .int .i64 p.slots, .int .i64 p.caps, .int .i64 (bitI p.res)] 3)).drew = XC) := ⟨eC.symm⟩
          clear eA eB eC
          have G : Bx (∀ W, KU B (wr.alloc (.cells #[.int .i64 p.params, .int .i64 p.slots, .int .i64 p.caps, .bool p.res, .slice ca p.code.length cc] 57)) W → (W.cell? ⟨H, 0, none⟩ = some (.int .i64 p.params) ∧ W.cell? ⟨H, 1, none⟩ = some (.int .i64 p.slots) ∧ W.cell? ⟨H, 2, none⟩ = some (.int .i64 p.caps) ∧ W.cell? ⟨H, 3, none⟩ = some (.bool p.res)) ∧ W.cell? ⟨H, 4, none⟩ = some (.slice ca p.code.length cc) ∧ H < W.heap.size ∧ B ≤ W.heap.size) := ⟨fun W hk => by
            have e1 := hk.block (heap_newH wr (.cells #[.int .i64 p.params, .int .i64 p.slots, .int .i64 p.caps, .bool p.res, .slice ca p.code.length cc] 57) H hH) (fun c fz e => by injection e with _ e; exact absurd e (by decide))
            have := hk.size
            exact ⟨⟨cell_blk e1 rfl, cell_blk e1 rfl, cell_blk e1 rfl, cell_blk e1 rfl⟩, cell_blk e1 rfl, (Array.getElem?_eq_some_iff.1 e1).1, by simp at this; omega⟩⟩
          obtain ⟨N, hN⟩ : ∃ N, (T ++ (progW ++ numsT [p.params, p.slots, p.caps, bitI p.res])).length = N := ⟨_, rfl⟩
          have hNl : N ≤ 140737488355000 := by
            have := nums_le hks
            have e : progW.length = 4 := rfl
            rw [← hN, List.length_append, List.length_append]
            simp only [List.length_cons, List.length_nil] at this
            omega
          have HHT : Bx (T ++ (progW ++ numsT [p.params, p.slots, p.caps, bitI p.res]) ++ [10] = T ++ headT p) := ⟨by unfold headT; simp only [List.append_assoc]⟩
          generalize hT4 : T ++ (progW ++ numsT [p.params, p.slots, p.caps, bitI p.res]) = T4 at *
          have HKK : Bx _ := ⟨K1⟩
          obtain ⟨⟨z0, z1, z2, z3⟩, z4, z5, z6⟩ := G.out _ (KU.refl _ _)
          subst hH
          have HALL : Bx ((u.progs.take k).all fitP = true) := ⟨HS.out.2.2⟩
          clear hfl hsum hks hkl B1 hown3 HS hT4 K1
          go_wp2_with fail
          go_region_held3 (fun w' => w'.cell? ⟨wr.heap.size, 0, none⟩ = some (.int .i64 p.params) ∧ w'.cell? ⟨wr.heap.size, 1, none⟩ = some (.int .i64 p.slots) ∧ w'.cell? ⟨wr.heap.size, 2, none⟩ = some (.int .i64 p.caps) ∧ w'.cell? ⟨wr.heap.size, 3, none⟩ = some (.bool p.res))
            (first | exact ⟨z0, z1, z2, z3⟩ | exact Q8.out | exact Q4.out | go_keep)
            (first
              | (go_at_call 38; refine (bit_any _ _).mono ?_; rintro e w' ⟨rfl, rfl⟩)
              | (go_at_call 37; rw [EA.out]; refine HWA.out.mono ?_; rintro e w4 ⟨v4, rfl, H4⟩; have Y4 := YA.out v4 w4 H4.out.2; obtain ⟨Q40, _, _, hB4⟩ := G.out w4 Y4.2; have Q4 : Bx _ := ⟨Q40⟩; have N4 : Bx _ := ⟨World.news_of_block Y4.1⟩; have K4 : Bx _ := ⟨Y4.2⟩; clear Y4 Q40)
              | (go_at_call 37; rw [EB.out]; refine HWB.out.mono ?_; rintro e w4 ⟨v4, rfl, H4⟩; have Y4 := YB.out v4 w4 H4.out.2; obtain ⟨Q40, _, _, hB4⟩ := G.out w4 Y4.2; have Q4 : Bx _ := ⟨Q40⟩; have N4 : Bx _ := ⟨World.news_of_block Y4.1⟩; have K4 : Bx _ := ⟨Y4.2⟩; clear Y4 Q40)
              | (go_at_call 37; rw [EC.out]; refine HWC.out.mono ?_; rintro e w4 ⟨v4, rfl, H4⟩; have Y4 := YC.out v4 w4 H4.out.2; obtain ⟨Q40, _, _, hB4⟩ := G.out w4 Y4; have Q4 : Bx _ := ⟨Q40⟩; have K4 : Bx _ := ⟨Y4⟩; clear Y4 Q40)
              | (refine step_append_lies _ (by rfl) (.tmp 51) (.tmp 52) 68 (by rfl) B 5 j0 (.int .u8 0) 1 1 Tryd.underlying68 ji jz0 jz1 jz2 rfl (by decide) v4 N (Lib.byteCells T4) (by simp [Act.eval, Act.put]) (by rw [← hN]; exact H4.out.1.own) ⟨wr.heap.size + 1, 0, none⟩ 1 1 [.int .u8 10] (by simp [Act.eval, Act.put]) rfl N4.out (u8_one _) (by decide) (by unfold maxLen; omega) (by omega) hB4 w4.heap.size rfl ?_; intro gg cg w8 hown hgrow hat hlt8; have E8 := nl_grow hB4 hN H4.out.1 hgrow hown; have K8 := K4.out.trans E8.2; obtain ⟨Q80, q4, q5, _⟩ := G.out w8 K8; have Q8 : Bx _ := ⟨Q80⟩; have H8 : Bx (BO w8 B (.slice (some ⟨gg, 0, none⟩) (N + 1) cg) (T ++ headT p) ∧ KU B w0 w8) := ⟨by rw [← HHT.out]; exact E8.1, HKK.out.trans K8⟩; clear hown hgrow hat E8 K8 Q80)
              | (refine step_append_lies _ (by rfl) (.tmp 51) (.tmp 52) 68 (by rfl) B 5 j0 (.int .u8 0) 1 1 Tryd.underlying68 ji jz0 jz1 jz2 rfl (by decide) v4 N (Lib.byteCells T4) (by simp [Act.eval, Act.put]) (by rw [← hN]; exact H4.out.1.own) ⟨wr.heap.size + 2, 0, none⟩ 1 1 [.int .u8 10] (by simp [Act.eval, Act.put]) rfl N4.out (u8_one _) (by decide) (by unfold maxLen; omega) (by omega) hB4 w4.heap.size rfl ?_; intro gg cg w8 hown hgrow hat hlt8; have E8 := nl_grow hB4 hN H4.out.1 hgrow hown; have K8 := K4.out.trans E8.2; obtain ⟨Q80, q4, q5, _⟩ := G.out w8 K8; have Q8 : Bx _ := ⟨Q80⟩; have H8 : Bx (BO w8 B (.slice (some ⟨gg, 0, none⟩) (N + 1) cg) (T ++ headT p) ∧ KU B w0 w8) := ⟨by rw [← HHT.out]; exact E8.1, HKK.out.trans K8⟩; clear hown hgrow hat E8 K8 Q80)
              | (refine step_append_lies _ (by rfl) (.tmp 51) (.tmp 52) 68 (by rfl) B 5 j0 (.int .u8 0) 1 1 Tryd.underlying68 ji jz0 jz1 jz2 rfl (by decide) v4 N (Lib.byteCells T4) (by simp [Act.eval, Act.put]) (by rw [← hN]; exact (H4.out.1.alloc (.cells #[.int .u8 10] 5)).own) ⟨w4.heap.size, 0, none⟩ 1 1 [.int .u8 10] (by simp [Act.eval, Act.put]) rfl (u8_news _ _ rfl _) (u8_one _) (by decide) (by unfold maxLen; omega) (by omega) (by simp; omega) (w4.heap.size + 1) (by simp) ?_; intro gg cg w8 hown hgrow hat hlt8; have E8 := nl_grow (by simp; omega) hN (H4.out.1.alloc (.cells #[.int .u8 10] 5)) hgrow hown; have K8 := (K4.out.alloc hB4 (.cells #[.int .u8 10] 5)).trans E8.2; obtain ⟨Q80, q4, q5, _⟩ := G.out w8 K8; have Q8 : Bx _ := ⟨Q80⟩; have H8 : Bx (BO w8 B (.slice (some ⟨gg, 0, none⟩) (N + 1) cg) (T ++ headT p) ∧ KU B w0 w8) := ⟨by rw [← HHT.out]; exact E8.1, HKK.out.trans K8⟩; clear hown hgrow hat E8 K8 Q80))
          all_goals
            clear Q4 H4 K4 Q8 YA YB YC HWA HWB HWC EA EB EC G HHT HKK
            clear z0 z1 z2 z3 z4 z5 z6
            go_wp2
            go_loopw [57, 4] (fun x v wq => ∃ (j : Nat) (vq : Value), j ≤ p.code.length ∧ x = .int .i64 j ∧ vq = v ∧ Bx (BO wq B vq (T ++ headT p ++ (p.code.take j).flatMap insT) ∧ KU B w0 wq ∧ (p.code.take j).all fitI = true)) (fun x _ _ => p.code.length - (intOf x).toNat)
            case atStart => exact ⟨0, _, Nat.zero_le _, rfl, rfl, ⟨by rw [List.take_zero, List.flatMap_nil, List.append_nil]; exact H8.out.1, H8.out.2, rfl⟩⟩
            case round =>
              obtain ⟨j, vq, hj, rfl, rfl, HQ⟩ := hrel
              clear H8
              by_cases hltj : j < p.code.length
              · have hszq := HQ.out.2.1.size
                obtain ⟨b2, o2, ka, kc, rfl, d0', d1', d2', d3', hkk⟩ := in_get hcd HQ.out.2.1.bel hltj
                have hwn := hwp.code p.code[j] (List.getElem_mem hltj)
                have hsumj := sumF_take inC p.code j hltj
                have hflj := flat_le inC insT (p.code.take j) fun t ht => ins_len (hwp.code t (List.mem_of_mem_take ht))
                have hftj := flat_take insT p.code j hltj
                have hhl := head_len hwp
                have hallj : (p.code.take (j + 1)).all fitI = ((p.code.take j).all fitI && fitI p.code[j]) := by
                  rw [List.take_succ_eq_append_getElem hltj, List.all_append]
                  simp
                have hbadj : fitI p.code[j] = false → fitP p = false := fun h => by
                  unfold fitP
                  rw [List.all_eq_false]
                  exact ⟨p.code[j], List.getElem_mem hltj, by rw [h]; simp⟩
                have hnm := name_len p.code[j].op
                generalize hTQ : T ++ headT p ++ (p.code.take j).flatMap insT = TQ at *
                generalize hn : p.code[j] = n at *
                have hTQl : TQ.length + 60 + 21 * n.list.length ≤ 140737488355000 := by
                  have e : inC n = 60 + 21 * n.list.length := rfl
                  rw [← hTQ, List.length_append, List.length_append]
                  omega
                have K1 : KU B w0 (wr.alloc (.cells #[.int .i64 n.op, .int .i64 n.a, .int .i64 n.b, .slice ka n.list.length kc] 28)) := HQ.out.2.1.alloc (by omega) _
                have B1 : BO (wr.alloc (.cells #[.int .i64 n.op, .int .i64 n.a, .int .i64 n.b, .slice ka n.list.length kc] 28)) B vq TQ := HQ.out.1.alloc _
                have HF := fits_any (wr.alloc (.cells #[.int .i64 n.op, .int .i64 n.a, .int .i64 n.b, .slice ka n.list.length kc] 28)) n ka kc (HSH.out _ K1.bel) hwn
                cases hf : fitI n
                · have hU := hbad (hbadj hf)
                  rw [hf] at HF
                  have HE : Bx (∀ w5, Below (wr.alloc (.cells #[.int .i64 n.op, .int .i64 n.a, .int .i64 n.b, .slice ka n.list.length kc] 28)).heap.size (wr.alloc (.cells #[.int .i64 n.op, .int .i64 n.a, .int .i64 n.b, .slice ka n.list.length kc] 28)) w5 → Below w.heap.size w w5) := ⟨fun w5 hb5 => HEND.out _ (K1.below (by simp; omega) hb5)⟩
                  have HU0 : Bx _ := ⟨hU⟩
                  clear hTQ hn hflj hsumj hftj hbadj hallj hU K1 B1
                  go_wp2_with (go_at_call 40; refine HF.mono ?_; rintro e w5 ⟨rfl, hb5⟩)
                  go_ret2
                  exact ⟨by rw [(HR0.out HU0.out).1, (HR0.out HU0.out).2]; rfl, HE.out _ hb5⟩
                · rw [hf] at HF
                  have HI : Bx (∀ w5, Below (wr.alloc (.cells #[.int .i64 n.op, .int .i64 n.a, .int .i64 n.b, .slice ka n.list.length kc] 28)).heap.size (wr.alloc (.cells #[.int .i64 n.op, .int .i64 n.a, .int .i64 n.b, .slice ka n.list.length kc] 28)) w5 → Calls Tryd.prog 41 #[vq, insV n ka kc] w5 fun e w' => ∃ v', e = .returned v' ∧ Bx (BO w' B v' (TQ ++ (nameI n.op ++ numsT (numsI n))) ∧ KU B w0 w')) := ⟨fun w5 hb5 => by
                    have K5 : KU B w0 w5 := K1.below (by simp; omega) hb5
                    refine (instruction_any w5 B vq TQ n ka kc (Nat.le_trans hBle K5.size) (B1.below hb5) (HSH.out _ K5.bel) ((IntsS.of hkk hBle).on K5) hwn (by omega) hnm (HT.out.on K5.bel)).mono ?_
                    rintro e w' ⟨v', h1, h2⟩
                    exact ⟨v', h1, ⟨h2.out.1, K5.trans h2.out.2⟩⟩⟩
                  have G5 : Bx (∀ w5, Below (wr.alloc (.cells #[.int .i64 n.op, .int .i64 n.a, .int .i64 n.b, .slice ka n.list.length kc] 28)).heap.size (wr.alloc (.cells #[.int .i64 n.op, .int .i64 n.a, .int .i64 n.b, .slice ka n.list.length kc] 28)) w5 → (w5.cell? ⟨wr.heap.size, 0, none⟩ = some (.int .i64 n.op) ∧ w5.cell? ⟨wr.heap.size, 1, none⟩ = some (.int .i64 n.a) ∧ w5.cell? ⟨wr.heap.size, 2, none⟩ = some (.int .i64 n.b) ∧ w5.cell? ⟨wr.heap.size, 3, none⟩ = some (.slice ka n.list.length kc)) ∧ wr.heap.size < w5.heap.size) := ⟨fun w5 hb5 => by
                    have e1 := below_heap hb5 (heap_new wr (.cells #[.int .i64 n.op, .int .i64 n.a, .int .i64 n.b, .slice ka n.list.length kc] 28))
                    exact ⟨⟨cell_blk e1 rfl, cell_blk e1 rfl, cell_blk e1 rfl, cell_blk e1 rfl⟩, (Array.getElem?_eq_some_iff.1 e1).1⟩⟩
                  obtain ⟨N6, hN6⟩ : ∃ N, (TQ ++ (nameI n.op ++ numsT (numsI n))).length = N := ⟨_, rfl⟩
                  have hNl6 : N6 ≤ 140737488355000 := by
                    have := ins_len hwn
                    unfold insT inC at this
                    rw [← hN6, List.length_append]
                    simp only [List.length_append, List.length_cons, List.length_nil] at this ⊢
                    omega
                  have HTT : Bx (TQ ++ (nameI n.op ++ numsT (numsI n)) ++ [10] = T ++ headT p ++ (p.code.take (j + 1)).flatMap insT) := ⟨by
                    rw [hftj, ← List.append_assoc (T ++ headT p), hTQ]
                    unfold insT
                    simp only [List.append_assoc]⟩
                  have HAL : Bx ((p.code.take (j + 1)).all fitI = true) := ⟨by rw [hallj, hf, HQ.out.2.2]; rfl⟩
                  generalize hT6 : TQ ++ (nameI n.op ++ numsT (numsI n)) = T6 at *
                  clear hTQ hn hflj hsumj hftj hbadj hallj K1 B1 hT6 HQ hf hTQl hnm hkk hwn
                  go_wp2_with (first
                    | (go_at_call 40; refine HF.mono ?_; rintro e w5 ⟨rfl, hb5⟩; obtain ⟨⟨g0, g1, g2, g3⟩, g4⟩ := G5.out _ hb5; have HB5 : Bx _ := ⟨hb5⟩; clear hb5)
                    | (go_at_call 41; refine (HI.out _ HB5.out).mono ?_; rintro e w6 ⟨v6, rfl, H6⟩; obtain ⟨p1, p2, p3⟩ := nl_push hBle hN6 H6.out.2 H6.out.1; have PB : Bx _ := ⟨p3⟩; have PB1 : Bx _ := ⟨p1⟩; clear p3 p1 H6)
                    | (at_builtin; refine wpList_append_lies _ rfl (.tmp 66) (.tmp 67) 68 rfl B 5 j0 (.int .u8 0) 1 1 Tryd.underlying68 ji jz0 jz1 jz2 rfl (by decide) v6 N6 (Lib.byteCells T6) rfl PB1.out ⟨w6.heap.size, 0, none⟩ 1 1 [.int .u8 10] rfl rfl (u8_news _ _ rfl _) (u8_one _) (by decide) (by unfold maxLen; omega) (by omega) (by simp; omega) (w6.heap.size + 1) (by simp) ?_; intro gg cg w8 hown hgrow hat hlt8; have LN := PB.out gg cg w8 hgrow hown; have LNB : Bx _ := ⟨LN⟩; clear hgrow hat hown LN))
                  go_roundw
                  case rel => exact ⟨j + 1, _, by omega, by go_num, rfl, ⟨by rw [← HTT.out]; exact LNB.out.1, LNB.out.2.1, HAL.out⟩⟩
                  case measure => simp [intOf]; omega
              · have hje : j = p.code.length := by omega
                subst hje
                have HF : Bx (BO wr B vq (TT ++ (u.progs.take (k + 1)).flatMap progT) ∧ KU B w0 wr ∧ (u.progs.take (k + 1)).all fitP = true) := ⟨by
                  have h1 := HQ.out.1
                  rw [List.take_of_length_le (Nat.le_refl _)] at h1
                  rw [hft, ← List.append_assoc, hT]
                  unfold progT
                  rw [← List.append_assoc]
                  exact h1, HQ.out.2.1, by
                  have h3 := HQ.out.2.2
                  rw [List.take_of_length_le (Nat.le_refl _)] at h3
                  rw [hall, HALL.out]
                  exact h3⟩
                clear HQ
                go_wp2
                go_roundw
                case rel => exact ⟨k + 1, _, by omega, by go_num, rfl, HF⟩
                case measure => simp [intOf]; omega
        · have hke : k = u.progs.length := by omega
          subst hke
          have h1 := HS.out.1
          have h3 := HS.out.2.2
          rw [List.take_of_length_le (Nat.le_refl _)] at h1 h3
          have hR := HR1.out h3
          have hU : TT ++ u.progs.flatMap progT = unitT u := by unfold unitT; rw [hTT]
          rw [hU, ← hR.1] at h1
          have hcv := h1.str
          have HE : Bx _ := ⟨HEND.out _ HS.out.2.1⟩
          have HRE : Bx _ := ⟨hR.2⟩
          clear h1 h3 hR hU HS
          go_wp2
          go_ret2
          exact ⟨by rw [HRE.out]; rfl, HE.out⟩
end Go.Proofs.YtijdcplffmdijaaDoor
