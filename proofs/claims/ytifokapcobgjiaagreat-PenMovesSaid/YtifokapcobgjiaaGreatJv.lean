/- Contracts of functions of the program and of the reference, and plain facts: a part of a proof. Own text. -/
import Derived.Test.YtifokapcobgjiaaGreatJn
import Derived.Test.YtifokapcobgjiaaGreatJq
set_option linter.unusedVariables false
set_option linter.unusedSimpArgs false
set_option linter.unusedSectionVars false
namespace Go.Proofs.YtifokapcobgjiaaGreat
open Go Go.RowKit
set_option maxRecDepth 100000

/-- One of the first m, another one, stands in a pen and must stand apart. -/
def clashA (K : List Kd) (l p : List Int) (i : Nat) (q : Int) : Nat → Bool
  | 0 => false
  | m + 1 => clashA K l p i q m || (!(m == i) && (decide (p.getD m 0 = q) && aptB K (l.getD m 0) (l.getD i 0)))
theorem clashA_iff {K : List Kd} {l p : List Int} {i : Nat} {q : Int} : ∀ m, clashA K l p i q m = true ↔ ∃ j, j < m ∧ j ≠ i ∧ p.getD j 0 = q ∧ aptB K (l.getD j 0) (l.getD i 0) = true
  | 0 => by simp [clashA]
  | m + 1 => by
    rw [clashA, Bool.or_eq_true, clashA_iff m]
    simp only [Bool.and_eq_true, Bool.not_eq_true', beq_eq_false_iff_ne, ne_eq, decide_eq_true_eq]
    constructor
    · rintro (⟨j, h1, h2⟩ | ⟨h1, h2, h3⟩)
      · exact ⟨j, by omega, h2⟩
      · exact ⟨m, by omega, h1, h2, h3⟩
    · rintro ⟨j, h1, h2, h3, h4⟩
      by_cases e : j = m
      · subst e; exact .inr ⟨h2, h3, h4⟩
      · exact .inl ⟨j, by omega, h2, h3, h4⟩
theorem fitK_all {K : List Kd} {l p : List Int} {i : Nat} : ∀ m, fitK K l p i (p.getD i 0) m = if clashA K l p i (p.getD i 0) m = true then none else some ((kdD K (l.getD i 0)).r + sumQ K l p (p.getD i 0) m - if i < m then (kdD K (l.getD i 0)).r else 0)
  | 0 => by rw [fitK, clashA, sumQ]; simp
  | m + 1 => by
    rw [fitK, fitK_all m, clashA, sumQ]
    by_cases h : clashA K l p i (p.getD i 0) m = true
    · rw [if_pos h, h]; simp
    · have h' : clashA K l p i (p.getD i 0) m = false := by simpa using h
      rw [if_neg h, h', Bool.false_or]
      dsimp only
      by_cases e : m = i
      · subst e
        rw [if_pos (show (p.getD m 0 != p.getD m 0 || m == m) = true by simp), if_neg (show ¬ (!(m == m) && (decide (p.getD m 0 = p.getD m 0) && aptB K (l.getD m 0) (l.getD m 0))) = true by simp), if_neg (show ¬ m < m by omega), if_pos (rfl : p.getD m 0 = p.getD m 0), if_pos (show m < m + 1 by omega)]
        congr 1; omega
      · have e2 : (m == i) = false := by simpa using e
        rw [e2]
        by_cases hp : p.getD m 0 = p.getD i 0
        · rw [if_neg (by rw [hp]; simp), hp, decide_eq_true rfl]
          by_cases ha : aptB K (l.getD m 0) (l.getD i 0) = true
          · rw [if_pos ha, ha]; rfl
          · have ha' : aptB K (l.getD m 0) (l.getD i 0) = false := by simpa using ha
            rw [if_neg ha, ha']
            rw [if_neg (show ¬ ((!false && (true && false)) = true) by simp), if_pos (rfl : p.getD i 0 = p.getD i 0)]
            congr 1
            by_cases hi : i < m
            · rw [if_pos hi, if_pos (show i < m + 1 by omega)]; omega
            · rw [if_neg hi, if_neg (show ¬ i < m + 1 by omega)]; omega
        · rw [if_pos (show (p.getD m 0 != p.getD i 0 || false) = true by rw [Bool.or_false, bne_iff_ne]; exact hp), decide_eq_false hp, if_neg hp]
          rw [if_neg (show ¬ ((!false && (false && aptB K (l.getD m 0) (l.getD i 0))) = true) by simp)]
          congr 1
          by_cases hi : i < m
          · rw [if_pos hi, if_pos (show i < m + 1 by omega)]; omega
          · rw [if_neg hi, if_neg (show ¬ i < m + 1 by omega)]; omega
theorem isPlK_iff {P : List Int} {K : List Kd} {l p : List Int} {i : Nat} (hi : i < p.length) : isPlK P K l p i = true ↔ inB (p.getD i 0) 0 ((P.length : Int) - 1) = true ∧ clashA K l p i (p.getD i 0) p.length = false ∧ sumQ K l p (p.getD i 0) p.length ≤ P.getD (p.getD i 0).toNat 0 := by
  unfold isPlK fitS
  rw [Bool.and_eq_true, fitK_all]
  refine and_congr_right fun _ => ?_
  cases h : clashA K l p i (p.getD i 0) p.length
  · rw [if_neg (by simp), if_pos hi]
    dsimp only
    rw [decide_eq_true_eq]
    constructor
    · intro h; exact ⟨rfl, by omega⟩
    · intro h; have := h.2; omega
  · rw [if_pos rfl]; simp
theorem sumQ_mono {K : List Kd} {l p : List Int} {q : Int} (hK : ksOk K = true) : ∀ j m, sumQ K l p q m ≤ sumQ K l p q (m + j)
  | 0, m => Int.le_refl _
  | j + 1, m => by
    rw [← Nat.add_assoc, sumQ]
    have := sumQ_mono (l := l) (p := p) (q := q) hK j m
    have := kdD_in hK (l.getD (m + j) 0)
    split <;> omega
theorem anyQ_iff {l p : List Int} {q t : Int} : ∀ m, anyQ l p q t m = true ↔ ∃ j, j < m ∧ p.getD j 0 = q ∧ l.getD j 0 = t
  | 0 => by simp [anyQ]
  | m + 1 => by
    rw [anyQ, Bool.or_eq_true, anyQ_iff m, Bool.and_eq_true, decide_eq_true_eq, decide_eq_true_eq]
    constructor
    · rintro (⟨j, h1, h2⟩ | ⟨h1, h2⟩)
      · exact ⟨j, by omega, h2⟩
      · exact ⟨m, by omega, h1, h2⟩
    · rintro ⟨j, h1, h2, h3⟩
      by_cases e : j = m
      · subst e; exact .inr ⟨h2, h3⟩
      · exact .inl ⟨j, by omega, h2, h3⟩
section
variable {P : List Int} {K : List Kd} {l p : List Int}
theorem bs_at (hK : ksOk K = true) (hl : lOk K l = true) {k : Nat} (hk : k < l.length) : (bsL K l).getD k kd0 = kdD K (l.getD k 0) ∧ (kdD K (l.getD k 0)).s = l.getD k 0 ∧ (1 ≤ l.getD k 0 ∧ l.getD k 0 ≤ 9) := by
  have h1 := lOk_at hl hk
  have h2 := lOk_in hK hl _ (List.getElem_mem hk)
  rw [show l.getD k 0 = l[k] by simp [hk]] at *
  refine ⟨?_, ?_, h2⟩
  · rw [bsL_getD hk]; simp [hk]
  · have := kdD_s h1; exact this
theorem pl_stand (h0 : sE P K l = 0) (h : isPlB P K l p = true) : ∀ k, k ≤ l.length → ∃ st, standK P (apL K) (bsL K l) p k = some st := by
  obtain ⟨hy, h8, hlo⟩ := sE_0 h0
  obtain ⟨h5, hP, hK⟩ := yOk_k hy
  unfold isPlB at h
  rw [Bool.and_eq_true, decide_eq_true_eq] at h
  obtain ⟨hlen, hall⟩ := h
  have hat : ∀ i, i < p.length → inB (p.getD i 0) 0 ((P.length : Int) - 1) = true ∧ clashA K l p i (p.getD i 0) p.length = false ∧ sumQ K l p (p.getD i 0) p.length ≤ P.getD (p.getD i 0).toNat 0 := fun i hi =>
    (isPlK_iff hi).1 (List.all_eq_true.1 hall i (List.mem_range.2 (by omega)))
  intro k
  induction k with
  | zero => intro _; exact ⟨_, rfl⟩
  | succ k ih =>
    intro hk
    obtain ⟨st, hs⟩ := ih (by omega)
    obtain ⟨ho, hl10, hsay⟩ := stand_says h5 hK hlo k (by omega) st hs
    obtain ⟨h1, h2, h3⟩ := hat k (by omega)
    obtain ⟨e1, e2, e3⟩ := bs_at hK hlo (k := k) (by omega)
    have hin := inB_iff.1 h1
    obtain ⟨q, hq⟩ := Int.eq_ofNat_of_zero_le hin.1
    rw [hq] at h2 h3 hin
    rw [Int.toNat_natCast] at h3
    obtain ⟨s1, s2⟩ := hsay q (by omega)
    refine ⟨addS st (kdD K (l.getD k 0)) q, ?_⟩
    rw [standK_some hs, if_pos h1, hq, Int.toNat_natCast, e1]
    unfold putS
    rw [if_neg]
    rw [Bool.not_eq_true]
    unfold fullS
    rw [Bool.or_eq_false_iff, decide_eq_false_iff_not, bne_eq_false_iff_eq, e2]
    refine ⟨?_, ?_⟩
    · rw [s1]
      have h4 := sumQ_mono (l := l) (p := p) (q := (q : Int)) hK (p.length - (k + 1)) (k + 1)
      rw [show k + 1 + (p.length - (k + 1)) = p.length by omega, sumQ, hq, if_pos rfl] at h4
      omega
    · by_cases hb : band (st.getD (q * 2 + 1) 0) ((apL K).getD (l.getD k 0).toNat 0) = 0
      · exact hb
      · exfalso
        obtain ⟨t, ht, b1, b2⟩ := (band_iff (ho q (by omega)) (apL_ok hK _)).1 hb
        rw [s2 t ht, anyQ_iff] at b1
        obtain ⟨j, c1, c2, c3⟩ := b1
        obtain ⟨-, -, f3⟩ := bs_at hK hlo (k := j) (by omega)
        rw [c3] at f3
        rw [apL_apt hK e3 f3, aptB_comm] at b2
        have : clashA K l p k q p.length = true := (clashA_iff _).2 ⟨j, by omega, by omega, c2, by rw [c3]; exact b2⟩
        rw [h2] at this; cases this
theorem stand_okS (h0 : sE P K l = 0) : ∀ k, k ≤ l.length → ∀ st, standK P (apL K) (bsL K l) p k = some st → okS P st := by
  obtain ⟨hy, h8, hlo⟩ := sE_0 h0
  obtain ⟨h5, hP, hK⟩ := yOk_k hy
  intro k
  induction k with
  | zero => intro _ st h; cases h; exact okS_0 h5 hP
  | succ k ih =>
    intro hk st h
    cases hs : standK P (apL K) (bsL K l) p k with
    | none => rw [standK, hs] at h; cases h
    | some s =>
      rw [standK_some hs] at h
      split at h
      · rename_i hin
        have hin := inB_iff.1 hin
        obtain ⟨hf, rfl⟩ := putS_full h
        obtain ⟨e1, e2, e3⟩ := bs_at hK hlo (k := k) (by omega)
        refine (ih (by omega) s hs).add h5 ?_ (by omega) hf
        rw [e1]
        have hm : kdD K (l.getD k 0) ∈ bsL K l := by
          rw [← e1, show (bsL K l).getD k kd0 = (bsL K l)[k]'(by rw [bsL_len]; omega) by simp [show k < (bsL K l).length by rw [bsL_len]; omega]]
          exact List.getElem_mem _
        exact bsL_good hK hlo _ hm
      · cases h
theorem stand_step {k : Nat} {s1 : List Int} (h : standK P (apL K) (bsL K l) p (k + 1) = some s1) : ∃ s, standK P (apL K) (bsL K l) p k = some s ∧ inB (p.getD k 0) 0 ((P.length : Int) - 1) = true ∧ fullS (apL K) s ((bsL K l).getD k kd0) (p.getD k 0).toNat = false := by
  cases hs : standK P (apL K) (bsL K l) p k with
  | none => rw [standK, hs] at h; cases h
  | some s =>
    rw [standK_some hs] at h
    split at h
    · rename_i hin
      exact ⟨s, rfl, hin, (putS_full h).1⟩
    · cases h
theorem stand_pre {k j : Nat} {s : List Int} (h : standK P (apL K) (bsL K l) p (k + j) = some s) : ∃ s0, standK P (apL K) (bsL K l) p k = some s0 := by
  cases hs : standK P (apL K) (bsL K l) p k with
  | none => rw [standK_none hs j] at h; cases h
  | some s0 => exact ⟨s0, rfl⟩
/-- What is a placement for one side is one for the other. -/
theorem isPl_stand (h0 : sE P K l = 0) : isPlB P K l p = (standS P (apL K) (bsL K l) p).isSome := by
  obtain ⟨hy, h8, hlo⟩ := sE_0 h0
  obtain ⟨h5, hP, hK⟩ := yOk_k hy
  by_cases hlen : p.length = l.length
  rotate_left
  · rw [standS_len (by rw [bsL_len]; exact hlen)]
    unfold isPlB
    rw [decide_eq_false (fun e => hlen e.symm)]; rfl
  rw [standS_eq (by rw [bsL_len]; exact hlen)]
  cases h : isPlB P K l p with
  | true =>
    obtain ⟨st, hs⟩ := pl_stand h0 h p.length (by omega)
    rw [hs]; rfl
  | false =>
    cases hs : standK P (apL K) (bsL K l) p p.length with
    | none => rfl
    | some st =>
      exfalso
      have hok := stand_okS h0 p.length (by omega) st hs
      obtain ⟨ho, hl10, hsay⟩ := stand_says h5 hK hlo p.length (by omega) st hs
      have hstep : ∀ a, a < p.length → ∃ s, standK P (apL K) (bsL K l) p a = some s ∧ inB (p.getD a 0) 0 ((P.length : Int) - 1) = true ∧ fullS (apL K) s ((bsL K l).getD a kd0) (p.getD a 0).toNat = false := by
        intro a ha
        obtain ⟨s1, hs1⟩ := stand_pre (k := a + 1) (j := p.length - (a + 1)) (by rw [show a + 1 + (p.length - (a + 1)) = p.length by omega]; exact hs)
        exact stand_step hs1
      have key : ∀ a b, a < p.length → b < a → p.getD b 0 = p.getD a 0 → aptB K (l.getD b 0) (l.getD a 0) = false := by
        intro a b ha hb hpe
        obtain ⟨s, g1, g2, g3⟩ := hstep a ha
        obtain ⟨o2, l2, say2⟩ := stand_says h5 hK hlo a (by omega) s g1
        have hin := inB_iff.1 g2
        obtain ⟨q, hq⟩ := Int.eq_ofNat_of_zero_le hin.1
        rw [hq, Int.toNat_natCast] at g3
        obtain ⟨e1, e2, e3⟩ := bs_at hK hlo (k := a) (by omega)
        obtain ⟨-, -, f3⟩ := bs_at hK hlo (k := b) (by omega)
        obtain ⟨s1, s2⟩ := say2 q (by omega)
        cases hap : aptB K (l.getD b 0) (l.getD a 0) with
        | false => rfl
        | true =>
          exfalso
          have h4 := (full_room g3).2
          rw [e1, e2] at h4
          refine bit_ne (o2 q (by omega)) (apL_ok hK _) (t := l.getD b 0) (by omega) ?_ ?_ h4
          · rw [s2 _ (by omega), anyQ_iff]; exact ⟨b, hb, by rw [hpe, hq], rfl⟩
          · rw [apL_apt hK e3 f3, aptB_comm]; exact hap
      have : isPlB P K l p = true := by
        refine isPlB_yes (by omega) fun i hi => ?_
        rw [isPlK_iff (by omega)]
        obtain ⟨s, g1, g2, g3⟩ := hstep i (by omega)
        refine ⟨g2, ?_, ?_⟩
        · rw [Bool.eq_false_iff]
          intro hc
          obtain ⟨j, c1, c2, c3, c4⟩ := (clashA_iff _).1 hc
          rcases Nat.lt_or_gt_of_ne c2 with h6 | h6
          · rw [key i j (by omega) h6 c3] at c4; cases c4
          · rw [aptB_comm, key j i c1 h6 c3.symm] at c4; cases c4
        · have hin := inB_iff.1 g2
          obtain ⟨q, hq⟩ := Int.eq_ofNat_of_zero_le hin.1
          rw [hq, Int.toNat_natCast]
          obtain ⟨s1, _⟩ := hsay q (by omega)
          have := hok.pos q (by omega)
          omega
      rw [h] at this; cases this
theorem rplE_plE : rplE P K l p = plE P K l p := by
  unfold rplE plE
  by_cases h0 : sE P K l = 0
  · rw [if_pos h0, if_pos h0, isPl_stand h0]
  · rw [if_neg h0, if_neg h0]
end
end Go.Proofs.YtifokapcobgjiaaGreat

