import Derived.Test.YtjabdhmkibahlaaCRfK
import Derived.Test.YtjabdhmkibahlaaCHD
import Derived.Test.YtjabdhmkibahlaaCHE
import Derived.Test.YtjabdhmkibahlaaCHF
import Derived.Test.YtjabdhmkibahlaaCHG
import Derived.Test.YtjabdhmkibahlaaCGFn
import Derived.Test.YtjabdhmkibahlaaCGNt
import Derived.Test.YtjabdhmkibahlaaCGHbM
namespace Go.Proofs.Ytjabdhmkibahlaa
open Go.RowKit
set_option linter.unusedVariables false
set_option linter.unusedSimpArgs false

theorem Links_all (w : World) (p : Option Addr) (c : Nat) (s : List Ag) (h : AgsR w p c s) (ht : totA s ≤ 2147483647) :
    Calls Try.prog 11 #[.slice p s.length c] w fun e w' => ∃ v, e = .returned v ∧ w'.ownsRow w.heap.size 24 3 v (linksI s).length (lksC (linksI s)) ∧ Below w.heap.size w w' := by
  cases hok : stOk s with
  | true => exact Links_yes w p c s h (few_of ht) hok (links_len hok ht)
  | false =>
    refine (Links_no w p c s h ht hok).mono ?_
    rintro e w' ⟨rfl, hb⟩
    have : linksI s = [] := by unfold linksI; rw [hok]; rfl
    exact ⟨_, rfl, by rw [this]; exact ⟨rfl, .inl ⟨rfl, rfl⟩⟩, hb⟩
theorem Lent.lt {W : World} {B : Nat} {s : List Ag} {va vm vh : Value} {gs : List Gh} (h : Lent W B s va vm vh gs) : B ≤ W.heap.size := by
  rcases h.all.2 with ⟨_, q⟩ | ⟨g, cap, cur, q, hB, hg, _⟩
  · omega
  · have := heap_lt hg; omega
theorem all_snoc {α : Type} {P : α → Prop} {cs : List α} {x : α} (h : ∀ y ∈ cs, P y) (hx : P x) : ∀ y ∈ cs ++ [x], P y := fun y hy => by
  rcases List.mem_append.1 hy with hy | hy
  · exact h y hy
  · simp at hy; rw [hy]; exact hx
theorem links_all_len (s : List Ag) (ht : totA s ≤ 2147483647) : (linksI s).length ≤ 5000000000000 := by
  cases hok : stOk s with
  | true => exact links_len hok ht
  | false =>
    have : linksI s = [] := by unfold linksI; rw [hok]; rfl
    rw [this]; simp
theorem links_all_64 {w : World} {p : Option Addr} {c : Nat} {s : List Ag} (h : AgsR w p c s) : ∀ l ∈ linksI s, Lk64 l := by
  cases hok : stOk s with
  | true => exact links_64 h hok
  | false =>
    have : linksI s = [] := by unfold linksI; rw [hok]; rfl
    rw [this]; simp
/-- what is asked of agents that were lent: E: where the variable x lies; WL: the world behind lend -/
structure Dn (W : World) (E ga ca B : Nat) (p : Option Addr) (c : Nat) (s : List Ag) (l : Lk) (vm vh : Value) (f : Bool) : Prop where
  cells : ∀ Y, Below W.heap.size W Y → Y.cell? ⟨E, 0, none⟩ = some (.slice (some ⟨ga, 0, none⟩) (s.length + 1) ca) ∧ Y.cell? ⟨E, 1, none⟩ = some vm ∧ Y.cell? ⟨E, 2, none⟩ = some vh
  chk : ∀ Y, Below W.heap.size W Y → Calls Try.prog 9 #[.slice (some ⟨ga, 0, none⟩) s.length ca] Y fun e w' => e = .returned (.int .i64 (chkI s)) ∧ Below Y.heap.size Y w'
  fit : ∀ Y, Below W.heap.size W Y → Calls Try.prog 10 #[.slice (some ⟨ga, 0, none⟩) s.length ca, .agg #[.int .i64 l.waker, .int .i64 l.woken, .int .i64 l.chan]] Y fun e w' => e = .returned (.bool f) ∧ Below Y.heap.size Y w'
  lnk : ∀ Y, Below W.heap.size W Y → Calls Try.prog 11 #[.slice (some ⟨ga, 0, none⟩) s.length ca] Y fun e w' => ∃ v, e = .returned v ∧ w'.ownsRow Y.heap.size 24 3 v (linksI s).length (lksC (linksI s)) ∧ Below Y.heap.size Y w'
  rlnk : ∀ Y, Below W.heap.size W Y → Calls Try.prog 12 #[.slice p s.length c] Y fun e w' => ∃ v, e = .returned v ∧ w'.ownsRow Y.heap.size 24 3 v (linksI s).length (lksC (linksI s)) ∧ Below Y.heap.size Y w'
  rchk : ∀ Y, Below W.heap.size W Y → Calls Try.prog 13 #[.slice p s.length c] Y fun e w' => e = .returned (.int .i64 (chkI s)) ∧ Below Y.heap.size Y w'
  rfit : ∀ Y, Below W.heap.size W Y → Calls Try.prog 14 #[.slice p s.length c, .agg #[.int .i64 l.waker, .int .i64 l.woken, .int .i64 l.chan]] Y fun e w' => e = .returned (.bool f) ∧ Below Y.heap.size Y w'
  still : ∀ Y, Below W.heap.size W Y → Calls Try.prog 16 #[.agg #[.slice (some ⟨ga, 0, none⟩) (s.length + 1) ca, vm, vh], .slice p s.length c] Y fun e w' => e = .returned (.bool true) ∧ Below Y.heap.size Y w'
  wipe : ∀ Y, Below W.heap.size W Y → Calls Try.prog 17 #[.agg #[.slice (some ⟨ga, 0, none⟩) (s.length + 1) ca, vm, vh]] Y fun e w' => e = .returned (.tuple #[]) ∧ Below B Y w' ∧ ∀ y, W.heap.size ≤ y → y < Y.heap.size → w'.heap[y]? = Y.heap[y]?
  same : ∀ Y v v', Y.ownsRow W.heap.size 24 3 v (linksI s).length (lksC (linksI s)) → Y.ownsRow W.heap.size 24 3 v' (linksI s).length (lksC (linksI s)) → Calls Try.prog 15 #[v, v'] Y fun e w' => e = .returned (.bool true) ∧ Below Y.heap.size Y w'
  cap : s.length + 1 ≤ ca ∧ ca ≤ maxLen
theorem dn_of {w W0 W1 W : World} {p : Option Addr} {c : Nat} {s : List Ag} {l : Lk} (h : AgsR w p c s) (ht : totA s ≤ 2147483647) (h64 : Lk64 l) (hb0 : Below w.heap.size w W0) (hb1 : Below W0.heap.size W0 W1) {va vm vh : Value} {gs : List Gh} (hL : Lent W1 (W0.heap.size + 2) s va vm vh gs) (hlt : W0.heap.size + 2 ≤ W1.heap.size) (hW : W1.alloc (lnX va vm vh) = W) :
    ∃ ga ca, va = .slice (some ⟨ga, 0, none⟩) (s.length + 1) ca ∧ Dn W W1.heap.size ga ca (W0.heap.size + 2) p c s l vm vh (stOk s && fitsF (whoI s) l) := by
  obtain ⟨ga, ca, rfl, hc1, hc2, _, hgl, hra, _⟩ := hL.read h.a64
  have hbW : Below W1.heap.size W1 W := by rw [← hW]; exact below1 _ _
  have hE : W.heap[W1.heap.size]? = some (lnX (.slice (some ⟨ga, 0, none⟩) (s.length + 1) ca) vm vh) := by rw [← hW]; exact heap_newH _ _ _ rfl
  have hbw : Below w.heap.size w W := blz hb0 (blz hb1 hbW)
  have hll : ∀ i (h : i < s.length), s[i].arms.length ≤ 2147483647 ∧ s[i].held.length ≤ 2147483647 := fun i hi => by have := arm_totA s i hi; omega
  have hsl := len_totA s
  have hraW : AgsR W (some ⟨ga, 0, none⟩) ca s := hra.later hbW
  have hW1 : ∀ Y, Below W.heap.size W Y → Below W1.heap.size W1 Y := fun Y hY => blz hbW hY
  refine ⟨ga, ca, rfl, ⟨fun Y hY => ?_, fun Y hY => Check_any Y _ _ s (hraW.later hY) (few_of ht), fun Y hY => Fits_all Y _ _ s l (hraW.later hY) (few_of ht) h64, fun Y hY => Links_all Y _ _ s (hraW.later hY) ht, fun Y hY => rLinks_any Y p c s (h.later (blz hbw hY)) ht, fun Y hY => rcheck_any Y p c s (h.later (blz hbw hY)), fun Y hY => ?_, fun Y hY => still_any W1 Y _ s _ _ _ gs hL (hW1 Y hY) p c (h.later (blz hbw hY)) (by omega) hll, fun Y hY => ?_, fun Y v v' h1 h2 => ?_, hc1, hc2⟩⟩
  · have e := (hY.block _ (heap_lt hE)).trans hE
    exact ⟨cell_blk e rfl, cell_blk e rfl, cell_blk e rfl⟩
  · refine (rFits_any Y p c s l (h.later (blz hbw hY)) h64).mono ?_
    rintro e w' ⟨rfl, hb⟩
    refine ⟨?_, hb⟩
    cases hok : stOk s with
    | false => rfl
    | true => rw [rf_fits hok]
  · refine (wipe_any W1 Y _ s _ _ _ gs hL hlt (hW1 Y hY) (by omega) hll).mono ?_
    rintro e w' ⟨rfl, h1, h2⟩
    exact ⟨rfl, h1, fun y hy hl => h2 y (by have := hbW.size; omega) hl⟩
  · obtain ⟨p1, c1, rfl, r1⟩ := lks_read h1 (links_all_64 h)
    obtain ⟨p2, c2, rfl, r2⟩ := lks_read h2 (links_all_64 h)
    refine (sameLinks_yes Y p1 p2 c1 c2 _ r1 r2).mono ?_
    rintro e w' ⟨rfl, k, rfl⟩
    exact ⟨rfl, below_drewN (Below.refl _ _) k⟩
theorem rnd3 {W0 W Y Z : World} {B go co gw cw : Nat} {cs : List (List Lk)} {os ws : List Value} (hk : Bk W0 B go co gw cw cs cs os ws) (hn : cs.length ≤ 100) (hB : B ≤ W0.heap.size) (hb : Below W0.heap.size W0 W) {x : List Lk} {vo vw : Value} {M : Nat} (hWM : W.heap.size ≤ M) (ho : Y.ownsRow W.heap.size 24 3 vo x.length (lksC x)) (hol : ∀ g, vo.ownBlock = some g → g < M) (hw : Y.ownsRow M 24 3 vw x.length (lksC x)) (hY : Below W.heap.size W Y) (hz1 : Below (W0.heap.size + 2) Y Z) (hz2 : ∀ y, W.heap.size ≤ y → y < Y.heap.size → Z.heap[y]? = Y.heap[y]?) :
    ∃ W1 W2 go' co' gw' cw', Add Z W1 W2 go co gw cw go' co' gw' cw' cs x vo vw B os ws := by
  have hbZ : Below W0.heap.size W0 Z := hb.trans ((hY.mono hb.size).trans (hz1.mono (by omega)))
  have hkZ := hk.later hbZ
  have hs := hbZ.size
  have hsW := hb.size
  have hoZ : Z.ownsRow W.heap.size 24 3 vo x.length (lksC x) := owns_same ho hz2
  have hwZ : Z.ownsRow M 24 3 vw x.length (lksC x) := owns_same hw fun g h1 h2 => hz2 g (by omega) h2
  have old : ∀ {v : Value} {l : List Lk}, W0.ownsRow B 24 3 v l.length (lksC l) → ∀ g, v.ownBlock = some g → g < W0.heap.size := fun hv g hg => (owns_block hv hg).2
  have oB : ∀ j (h : j < os.length) g, os[j].ownBlock = some g → g < W0.heap.size := fun j h g hg => old (hk.row j (by have := hk.lo; omega) h) g hg
  have wB : ∀ j (h : j < ws.length) g, ws[j].ownBlock = some g → g < W0.heap.size := fun j h g hg => old (hk.wrow j (by have := hk.lw; omega) h) g hg
  refine hkZ.add (by omega) hn x vo vw (own_low hoZ (by omega)) (own_low hwZ (by omega)) (fun j h g h1 h2 => ?_) (fun j h g h1 h2 => ?_) (fun j h g h1 h2 => ?_) (fun g h1 h2 => ?_)
  · have := oB j h g h2; have := (owns_block ho h1).1; omega
  · have := wB j h g h2; have := (owns_block ho h1).1; omega
  · have := oB j h g h2; have := (owns_block hw h1).1; omega
  · have := hol g h1; have := (owns_block hw h2).1; omega
end Go.Proofs.Ytjabdhmkibahlaa
