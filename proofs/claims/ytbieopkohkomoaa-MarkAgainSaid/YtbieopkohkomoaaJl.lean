/- Contracts of functions of the program and of the reference, and plain facts: a part of a proof. Own text. -/
import Derived.Test.YtbieopkohkomoaaJk
set_option linter.unusedVariables false
set_option linter.unusedSimpArgs false
set_option linter.unusedSectionVars false
namespace Go.Proofs.Ytbieopkohkomoaa
open Go Go.RowKit
set_option maxHeartbeats 400000
set_option maxRecDepth 100000

theorem rise64 : (List.range 64).all (fun k => riseB (chK k 6) (-1)) = true := by kernel_rfl
theorem ch_rise {k : Nat} (h : k < 64) : riseB (chK k 6) (-1) = true := List.all_eq_true.1 rise64 k (List.mem_range.2 h)
theorem len_all : (List.range 64).all (fun i => (List.range 64).all fun j => !decide (rk i ≤ rk j) || decide ((chK i 6).length ≤ (chK j 6).length)) = true := by kernel_rfl
theorem len_rk {i j : Nat} (hi : i < 64) (hj : j < 64) (h : rk i ≤ rk j) : (chK i 6).length ≤ (chK j 6).length := by
  have := List.all_eq_true.1 (List.all_eq_true.1 len_all i (List.mem_range.2 hi)) j (List.mem_range.2 hj)
  simpa [h] using this
/-- What Look names, where all places together settle. -/
theorem look_spec {rs : List Rd} (h : settleB rs (chK ((63 : Nat) : Int) 6) = true) : ∃ i : Nat, i < 64 ∧ lookL rs = chK i 6 ∧ settleB rs (chK i 6) = true ∧ ∀ j : Nat, j < 64 → (chK j 6).length < (chK i 6).length → settleB rs (chK j 6) = false := by
  unfold lookL
  rw [look_same]
  rcases lk_spec (settleB rs) 64 (Nat.le_refl _) with ⟨_, h2⟩ | ⟨i, hi, h1, h2, h3⟩
  · have := h2 63 (by omega)
    rw [h] at this; cases this
  · refine ⟨i, hi, by rw [h2]; rfl, h1, fun j hj hl => ?_⟩
    cases hp : settleB rs (chK j 6)
    · rfl
    · have := len_rk hi hj (h3 j hj hp)
      omega

theorem band_comm_dec : ∀ a b : Fin 32, band a.val b.val = band b.val a.val := by decide +kernel
theorem band_comm {a b : Int} (ha : st a) (hb : st b) : band a b = band b a := by
  obtain ⟨f, rfl, _⟩ := st_fin ha
  obtain ⟨g, rfl, _⟩ := st_fin hb
  exact band_comm_dec f g
theorem miss_dec : ∀ (a x : Fin 32) (s : Fin 5), mis a.val (2 ^ s.val) = 0 → mis x.val a.val = 1 → mis x.val (2 ^ s.val) = 1 := by decide +kernel
theorem miss_one {a x y : Int} (ha : st a) (hx : st x) (hy : one1 y) (h1 : mis a y = 0) (h2 : mis x a = 1) : mis x y = 1 := by
  obtain ⟨f, rfl, _⟩ := st_fin ha
  obtain ⟨g, rfl, _⟩ := st_fin hx
  obtain ⟨s, hs, rfl⟩ := hy
  exact miss_dec f g ⟨s, hs⟩ h1 h2
theorem mis_1 {a b : Int} : mis a b = 1 ↔ (band a b == 0) = true := by
  unfold mis
  constructor
  · intro h; split at h
    · assumption
    · omega
  · intro h; rw [if_pos h]
theorem mis_0 {a b : Int} : mis a b = 0 ↔ (band a b == 0) = false := by
  unfold mis
  constructor
  · intro h; split at h
    · omega
    · rename_i hn; simpa using hn
  · intro h; rw [if_neg (by rw [h]; simp)]
theorem mis_comm {a b : Int} (ha : st a) (hb : st b) : mis a b = mis b a := by unfold mis; rw [band_comm ha hb]

theorem row_at (w0 w1 w2 w3 w4 : Int) (g : Giv) (k : Nat) : g6 (rowOf w0 w1 w2 w3 w4 g).r0 (rowOf w0 w1 w2 w3 w4 g).r1 (rowOf w0 w1 w2 w3 w4 g).r2 (rowOf w0 w1 w2 w3 w4 g).r3 (rowOf w0 w1 w2 w3 w4 g).r4 (rowOf w0 w1 w2 w3 w4 g).r5 k = wf w0 w1 w2 w3 w4 g k := rfl
theorem rdF_at (f : Nat → Int) (k : Nat) (h : k < 6) : g6 (rdF f).r0 (rdF f).r1 (rdF f).r2 (rdF f).r3 (rdF f).r4 (rdF f).r5 k = f k := by
  rcases (by omega : k = 0 ∨ k = 1 ∨ k = 2 ∨ k = 3 ∨ k = 4 ∨ k = 5) with rfl | rfl | rfl | rfl | rfl | rfl <;> rfl
theorem meet_no {a b : Rd} {l : List Int} {k : Nat} (hk : (k : Int) ∈ l) (h : mis (g6 a.r0 a.r1 a.r2 a.r3 a.r4 a.r5 k) (g6 b.r0 b.r1 b.r2 b.r3 b.r4 b.r5 k) = 1) : meetAll a b l = false := by
  unfold meetAll
  rw [List.all_eq_false]
  refine ⟨_, hk, ?_⟩
  unfold meetB
  have := mis_1.1 h
  simp only [beq_iff_eq] at this
  rw [this]; simp
theorem meet_yes {a b : Rd} {l : List Int} (hl : ∀ x ∈ l, 0 ≤ x ∧ x < 6) (h : ∀ k : Nat, k < 6 → (k : Int) ∈ l → mis (g6 a.r0 a.r1 a.r2 a.r3 a.r4 a.r5 k) (g6 b.r0 b.r1 b.r2 b.r3 b.r4 b.r5 k) = 0) : meetAll a b l = true := by
  unfold meetAll
  rw [List.all_eq_true]
  intro x hx
  obtain ⟨x0, x6⟩ := hl x hx
  obtain ⟨k, rfl⟩ := Int.eq_ofNat_of_zero_le x0
  have := mis_0.1 (h k (by omega) hx)
  unfold meetB
  simp only [beq_eq_false_iff_ne] at this
  simpa using this
theorem meet_not {a b : Rd} {l : List Int} (hl : ∀ x ∈ l, 0 ≤ x ∧ x < 6) (h : meetAll a b l = false) : ∃ k : Nat, k < 6 ∧ (k : Int) ∈ l ∧ mis (g6 a.r0 a.r1 a.r2 a.r3 a.r4 a.r5 k) (g6 b.r0 b.r1 b.r2 b.r3 b.r4 b.r5 k) = 1 := by
  unfold meetAll at h
  rw [List.all_eq_false] at h
  obtain ⟨x, hx, hm⟩ := h
  obtain ⟨x0, x6⟩ := hl x hx
  obtain ⟨k, rfl⟩ := Int.eq_ofNat_of_zero_le x0
  refine ⟨k, by omega, hx, mis_1.2 ?_⟩
  unfold meetB at hm
  simpa using hm
/-- Settled: each two. -/
theorem settle_pair {w0 w1 w2 w3 w4 : Int} {P : List Giv} {l : List Int} : settleB (rowsOf w0 w1 w2 w3 w4 P) l = true ↔ P.Pairwise fun a b => meetAll (rowOf w0 w1 w2 w3 w4 b) (rowOf w0 w1 w2 w3 w4 a) l = false := by
  have hlen : (rowsOf w0 w1 w2 w3 w4 P).length = P.length := by simp [rowsOf]
  have hget : ∀ k (hk : k < P.length), (rowsOf w0 w1 w2 w3 w4 P)[k]? = some (rowOf w0 w1 w2 w3 w4 P[k]) := fun k hk => by simp [rowsOf, hk]
  rw [List.pairwise_iff_getElem]
  constructor
  · intro h i j hi hj hij
    have h1 := allK_at h j (by rw [hlen]; exact hj)
    rw [settleAt_some (hget j hj), List.all_eq_true] at h1
    have := h1 (rowOf w0 w1 w2 w3 w4 P[i]) (by
      rw [List.mem_take_iff_getElem]
      exact ⟨i, by rw [hlen]; omega, by simp [rowsOf]⟩)
    simpa using this
  · intro h
    refine allK_all fun k hk => ?_
    rw [hlen] at hk
    rw [settleAt_some (hget k hk), List.all_eq_true]
    intro b hb
    rw [List.mem_take_iff_getElem] at hb
    obtain ⟨i, hi, rfl⟩ := hb
    rw [hlen] at hi
    have := h i k (by omega) hk (by omega)
    simp only [rowsOf, List.getElem_map]
    simpa using this
theorem sum_some {f : Nat → Int} (hf : ∀ j, 0 ≤ f j ∧ f j ≤ 1) : ∀ n, 0 < sumK f n → ∃ j, j < n ∧ f j = 1
  | 0, h => by simp [sumK] at h
  | n + 1, h => by
    simp only [sumK] at h
    by_cases h1 : f n = 1
    · exact ⟨n, by omega, h1⟩
    · have := hf n
      obtain ⟨j, hj, he⟩ := sum_some hf n (by omega)
      exact ⟨j, by omega, he⟩
/-- All places together settle. -/
theorem settle_all {w0 w1 w2 w3 w4 F : Int} {gs : List Giv} (h : okB w0 w1 w2 w3 w4 F gs = true) (rs : List Rd) : settleB (rowsOf w0 w1 w2 w3 w4 (possG w0 w1 w2 w3 w4 F rs gs)) (chK ((63 : Nat) : Int) 6) = true := by
  obtain ⟨hw, hF, _⟩ := okB_F h
  rw [settle_pair, possG_filter]
  refine List.Pairwise.filter _ ?_
  refine (List.Pairwise.and_mem.1 (ok_pair h)).imp fun {a b} ⟨ha, hb, _, hd⟩ => ?_
  obtain ⟨k, hk, hm⟩ := sum_some (fun j => mis_bd (wf w0 w1 w2 w3 w4 a j) (wf w0 w1 w2 w3 w4 b j)) 6 (by unfold cst at hd; omega)
  have sa := wf_st hw (okB_at h a ha) k hk
  have sb := wf_st hw (okB_at h b hb) k hk
  refine meet_no (k := k) ?_ (by rw [row_at, row_at, mis_comm sb sa]; exact hm)
  rw [show chK ((63 : Nat) : Int) 6 = [0, 1, 2, 3, 4, 5] by kernel_rfl]
  simp only [List.mem_cons, List.mem_nil_iff, or_false]
  omega
theorem keepG_filter (w0 w1 w2 w3 w4 : Int) (s : Rd) (l : List Int) : ∀ P : List Giv, keepG w0 w1 w2 w3 w4 s l P = P.filter fun g => meetAll (rowOf w0 w1 w2 w3 w4 g) s l
  | [] => rfl
  | g :: r => by
    rw [keepG, keepG_filter]
    rw [List.filter_cons]

section
variable {w0 w1 w2 w3 w4 F : Int} {gs : List Giv} {g : Giv} {f t : Nat → Int} {l : List Int}
/-- One is left. -/
theorem left_one (h : okB w0 w1 w2 w3 w4 F gs = true) (hl : ∀ x ∈ l, 0 ≤ x ∧ x < 6) (hs : settleB (rowsOf w0 w1 w2 w3 w4 (possG w0 w1 w2 w3 w4 F [rdF f] gs)) l = true) (hg : g ∈ possG w0 w1 w2 w3 w4 F [rdF f] gs)
    (ht : ∀ k, k < 6 → one1 (t k)) (hz : ∀ k, k < 6 → mis (wf w0 w1 w2 w3 w4 g k) (t k) = 0) : keepG w0 w1 w2 w3 w4 (rdF t) l (possG w0 w1 w2 w3 w4 F [rdF f] gs) = [g] := by
  obtain ⟨hw, _, _⟩ := okB_F h
  have hsub : ∀ x ∈ possG w0 w1 w2 w3 w4 F [rdF f] gs, x ∈ gs := fun x hx => by rw [possG_filter] at hx; exact (List.mem_filter.1 hx).1
  have hp := List.Pairwise.and_mem.1 (settle_pair.1 hs)
  rw [keepG_filter]
  refine filter_single _ hp hg (meet_yes hl fun k hk _ => by rw [row_at, rdF_at t k hk]; exact hz k hk) fun x hx => ?_
  have sg := wf_st hw (okB_at h g (hsub g hg))
  rcases hx with ⟨_, hxm, hd⟩ | ⟨hxm, _, hd⟩
  · obtain ⟨k, hk, hkl, hm⟩ := meet_not hl hd
    rw [row_at, row_at] at hm
    refine meet_no (k := k) hkl ?_
    rw [row_at, rdF_at t k hk]
    exact miss_one (sg k hk) (wf_st hw (okB_at h x (hsub x hxm)) k hk) (ht k hk) (hz k hk) hm
  · obtain ⟨k, hk, hkl, hm⟩ := meet_not hl hd
    rw [row_at, row_at] at hm
    have sx := wf_st hw (okB_at h x (hsub x hxm)) k hk
    refine meet_no (k := k) hkl ?_
    rw [row_at, rdF_at t k hk]
    exact miss_one (sg k hk) sx (ht k hk) (hz k hk) (by rw [mis_comm sx (sg k hk)]; exact hm)
theorem left_has (hl : ∀ x ∈ l, 0 ≤ x ∧ x < 6) (hg : g ∈ possG w0 w1 w2 w3 w4 F [rdF f] gs) (hz : ∀ k, k < 6 → mis (wf w0 w1 w2 w3 w4 g k) (t k) = 0) : hasL (own (keepG w0 w1 w2 w3 w4 (rdF t) l (possG w0 w1 w2 w3 w4 F [rdF f] gs))) g.o = true := by
  rw [keepG_filter]
  exact hasL_own (List.mem_filter.2 ⟨hg, meet_yes hl fun k hk _ => by rw [row_at, rdF_at t k hk]; exact hz k hk⟩)
theorem lookE_F (h : okB w0 w1 w2 w3 w4 F gs = true) (hf : ∀ k, k < 6 → st (f k)) (ht : ∀ k, k < 6 → st (t k)) (hr : riseB l (-1) = true) : lookE w0 w1 w2 w3 w4 F gs (rdF f) (rdF t) l = 0 ∧ lookG w0 w1 w2 w3 w4 F gs (rdF f) (rdF t) l = keepG w0 w1 w2 w3 w4 (rdF t) l (possG w0 w1 w2 w3 w4 F [rdF f] gs) := by
  have h3 : lookE3 w0 w1 w2 w3 w4 F gs (rdF f) (rdF t) = 0 := by unfold lookE3; rw [h, rdF_ok hf, rdF_ok ht]; rfl
  have := lookE_0 h3 hr
  exact ⟨this, by unfold lookG; rw [if_pos this]⟩
end

/-- Nothing can be told at a place. -/
theorem any_dec : ∀ a : Fin 32, a.val ≠ 0 → mis a.val 31 = 0 := by decide +kernel
theorem cst_any {a f : Nat → Int} (ha : ∀ k, k < 6 → st (a k)) (k : Nat) : cst a (updF f k 31) ≤ cst a f := by
  refine sumK_mono 6 fun j hj => ?_
  unfold updF
  split
  · obtain ⟨x, hx, hne⟩ := st_fin (ha j hj)
    rw [hx, any_dec x hne]
    exact (mis_bd _ _).1
  · exact Int.le_refl _
def anyK (p : List Int) (f : Nat → Int) : Nat → Nat → Int
  | 0 => f
  | j + 1 => updF (anyK p f j) (atL p (j : Int) % 6).toNat 31
theorem anyK_st {f : Nat → Int} (hf : ∀ k, k < 6 → st (f k)) (p : List Int) : ∀ j k, k < 6 → st (anyK p f j k)
  | 0, k, hk => hf k hk
  | j + 1, k, hk => by
    rw [anyK]; unfold updF
    split
    · exact ⟨by decide, by decide⟩
    · exact anyK_st hf p j k hk
theorem anyK_cst {a f : Nat → Int} (ha : ∀ k, k < 6 → st (a k)) (p : List Int) : ∀ j, cst a (anyK p f j) ≤ cst a f
  | 0 => Int.le_refl _
  | j + 1 => Int.le_trans (cst_any ha _) (anyK_cst ha p j)
/-- More signs at each place. -/
def wideV (p : List Int) (x : Int) (j : Nat) : Int := bits BinOp.or IntKind.i64 x (atL p ((j : Int) + 1) % 32)
def wideK (p : List Int) (f : Nat → Int) (k : Nat) : Nat → Int := fun j => if j < k then wideV p (f j) j else f j
theorem wideK_put (p : List Int) (f : Nat → Int) (k : Nat) : wideK p f (k + 1) = updF (wideK p f k) k (wideV p (f k) k) := by
  funext j; unfold wideK updF
  by_cases h : j = k
  · subst h; simp
  · rw [if_neg h]
    dsimp only
    by_cases h2 : j < k
    · rw [if_pos h2, if_pos (by omega)]
    · rw [if_neg h2, if_neg (by omega)]
theorem wideK_0 (p : List Int) (f : Nat → Int) : wideK p f 0 = f := by funext j; simp [wideK]
theorem wide_ok {x : Int} (h : st x) (p : List Int) (j : Nat) : st (wideV p x j) ∧ ∀ a, st a → mis a x = 0 → mis a (wideV p x j) = 0 := by
  unfold wideV
  have g0 := Int.emod_nonneg (atL p ((j : Int) + 1)) (by decide : (32 : Int) ≠ 0)
  have g1 := Int.emod_lt_of_pos (atL p ((j : Int) + 1)) (by decide : (0 : Int) < 32)
  obtain ⟨b, hb⟩ := Int.eq_ofNat_of_zero_le g0
  obtain ⟨fx, rfl, hne⟩ := st_fin h
  rw [hb]
  refine ⟨or_st_dec fx ⟨b, by omega⟩ hne, fun a ha h0 => ?_⟩
  obtain ⟨fa, rfl, _⟩ := st_fin ha
  have := or_mis_dec fa fx ⟨b, by omega⟩
  have h2 := mis_bd fa.val (bits BinOp.or IntKind.i64 fx.val ((⟨b, by omega⟩ : Fin 32).val))
  rw [h0] at this
  exact Int.le_antisymm this h2.1
end Go.Proofs.Ytbieopkohkomoaa

