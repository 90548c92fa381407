/- Contracts of functions of the program and of the reference, and plain facts: a part of a proof. Own text. -/
import Derived.Test.YtaieidigpilbfaaGreatJi
import Derived.Test.YtaieidigpilbfaaGreatJn
import Derived.Test.YtaieidigpilbfaaGreatJq
set_option linter.unusedVariables false
set_option linter.unusedSimpArgs false
set_option linter.unusedSectionVars false
namespace Go.Proofs.YtaieidigpilbfaaGreat
open Go Go.RowKit
set_option maxRecDepth 100000

/-- Two kinds say the same of each other. -/
def symA (ap : List Int) (ks : List Kd) : Prop := ∀ x ∈ ks, ∀ y ∈ ks, hasB (ap.getD x.s.toNat 0) y.s = hasB (ap.getD y.s.toNat 0) x.s
theorem symA_bs {K : List Kd} {l : List Int} (hK : ksOk K = true) (hl : lOk K l = true) : symA (apL K) (bsL K l) := by
  have h9 : ∀ x ∈ bsL K l, (1 ≤ x.s ∧ x.s ≤ 9) := fun x hx => (bsL_good hK hl x hx).1
  have hs : ∀ x ∈ bsL K l, x = kdD K x.s := by
    intro x hx
    obtain ⟨s, hs, rfl⟩ := List.mem_map.1 hx
    have h1 : kdI K s = true := List.all_eq_true.1 hl s hs
    cases h : kd? K s with
    | none => rw [(kdD_none h).2] at h1; cases h1
    | some q => rw [(kdD_some h).1]; exact (kd_uniq hK (kd_mem h).1).symm
  intro x hx y hy
  rw [apL_apt hK (h9 x hx) (h9 y hy), apL_apt hK (h9 y hy) (h9 x hx)]
  unfold aptB
  rw [Bool.or_comm]
theorem band_bor {a m s : Int} (ha : 0 ≤ a ∧ a ≤ 1023) (hm : 0 ≤ m ∧ m ≤ 1023) (hs : 1 ≤ s ∧ s ≤ 9) : (band (bor a (2 ^ s.toNat)) m != 0) = ((band a m != 0) || hasB m s) := by
  have hb := bor_bit (s := s) ha (by omega) (t := s) (by omega)
  rw [Bool.eq_iff_iff, Bool.or_eq_true, bne_iff_ne, bne_iff_ne, band_iff hb.1 hm, band_iff ha hm]
  constructor
  · rintro ⟨t, ht, h1, h2⟩
    rw [(bor_bit (s := s) ha (by omega) ht).2, Bool.or_eq_true, decide_eq_true_eq] at h1
    rcases h1 with h1 | h1
    · exact .inl ⟨t, ht, h1, h2⟩
    · subst h1; exact .inr h2
  · rintro (⟨t, ht, h1, h2⟩ | h)
    · exact ⟨t, ht, by rw [(bor_bit (s := s) ha (by omega) ht).2, h1]; rfl, h2⟩
    · exact ⟨s, by omega, by rw [hb.2]; simp, h⟩
theorem bor_swap {a s t : Int} (ha : 0 ≤ a ∧ a ≤ 1023) (hs : 1 ≤ s ∧ s ≤ 9) (ht : 1 ≤ t ∧ t ≤ 9) : bor (bor a (2 ^ s.toNat)) (2 ^ t.toNat) = bor (bor a (2 ^ t.toNat)) (2 ^ s.toNat) := by
  obtain ⟨x, rfl⟩ := Int.eq_ofNat_of_zero_le ha.1
  obtain ⟨n, rfl⟩ := Int.eq_ofNat_of_zero_le (show 0 ≤ s by omega)
  obtain ⟨m, rfl⟩ := Int.eq_ofNat_of_zero_le (show 0 ≤ t by omega)
  have pn : 2 ^ n < 2 ^ 10 := Nat.pow_lt_pow_right (by decide) (by omega)
  have pm : 2 ^ m < 2 ^ 10 := Nat.pow_lt_pow_right (by decide) (by omega)
  have h1 : x ||| 2 ^ n < 2 ^ 10 := Nat.or_lt_two_pow (by omega) pn
  have h2 : x ||| 2 ^ m < 2 ^ 10 := Nat.or_lt_two_pow (by omega) pm
  rw [Int.toNat_natCast, Int.toNat_natCast, show ((2 : Int) ^ n) = ((2 ^ n : Nat) : Int) by simp, show ((2 : Int) ^ m) = ((2 ^ m : Nat) : Int) by simp]
  rw [bor_nat x _ (by omega) (by omega), bor_nat x _ (by omega) (by omega), bor_nat _ _ (by omega) (by omega), bor_nat _ _ (by omega) (by omega), Nat.or_assoc, Nat.or_assoc, Nat.or_comm (2 ^ n)]
theorem ext10 {a b : List Int} (ha : a.length = 10) (hb : b.length = 10) (h : ∀ i, i < 5 → a.getD (i * 2) 0 = b.getD (i * 2) 0 ∧ a.getD (i * 2 + 1) 0 = b.getD (i * 2 + 1) 0) : a = b := by
  apply List.ext_getElem (by omega)
  intro j h1 h2
  have h3 := h (j / 2) (by omega)
  rcases (by omega : j = j / 2 * 2 ∨ j = j / 2 * 2 + 1) with e | e
  · rw [← e] at h3
    have := h3.1
    simpa [h1, h2] using this
  · rw [← e] at h3
    have := h3.2
    simpa [h1, h2] using this
theorem put_f {ap st : List Int} {k : Kd} {i : Nat} (h : fullS ap st k i = true) : putS ap st k i = none := by unfold putS; rw [if_pos h]
theorem put_t {ap st : List Int} {k : Kd} {i : Nat} (h : fullS ap st k i = false) : putS ap st k i = some (addS st k i) := by unfold putS; rw [if_neg (by rw [h]; exact Bool.false_ne_true)]
theorem bool6 (b1 b2 b3 : Bool) (f r1 r2 : Int) (h1 : 0 ≤ r1) (h2 : 0 ≤ r2) : ((decide (f < r1) || b1) || (decide (f - r1 < r2) || (b2 || b3))) = ((decide (f < r2) || b2) || (decide (f - r2 < r1) || (b1 || b3))) := by
  have e : decide (f - r1 < r2) = decide (f - r2 < r1) := decide_eq_decide.2 (by omega)
  rw [e]
  by_cases c : f - r2 < r1
  · rw [decide_eq_true c]; simp
  · rw [decide_eq_false c, decide_eq_false (show ¬ f < r1 by omega), decide_eq_false (show ¬ f < r2 by omega)]
    cases b1 <;> cases b2 <;> cases b3 <;> rfl
section
variable {ap : List Int}
/-- Two beasts, one after the other: in either order. -/
theorem put_swap (hap : okA ap) {st : List Int} (hl : st.length = 10) (ho : hasOk st) {x y : Kd} {i j : Nat} (hi : i < 5) (hj : j < 5) (hx : (1 ≤ x.s ∧ x.s ≤ 9) ∧ (1 ≤ x.r ∧ x.r ≤ 1000)) (hy : (1 ≤ y.s ∧ y.s ≤ 9) ∧ (1 ≤ y.r ∧ y.r ≤ 1000))
    (hs : hasB (ap.getD x.s.toNat 0) y.s = hasB (ap.getD y.s.toNat 0) x.s) : (putS ap st x i).bind (fun s => putS ap s y j) = (putS ap st y j).bind (fun s => putS ap s x i) := by
  have hlx := addS_len st x i
  have hly := addS_len st y j
  have hox := hasOk_add (k := x) ho hl hi hx.1
  have hoy := hasOk_add (k := y) ho hl hj hy.1
  have e1 : fullS ap (addS st x i) y j = if i = j then (decide (st.getD (i * 2) 0 - x.r < y.r) || ((band (st.getD (i * 2 + 1) 0) (ap.getD y.s.toNat 0) != 0) || hasB (ap.getD y.s.toNat 0) x.s)) else fullS ap st y j := by
    unfold fullS
    rw [add_free hl hi j hj, add_has hl hi j hj]
    split
    · rw [band_bor (ho i hi) (hap _) hx.1]
    · rfl
  have e2 : fullS ap (addS st y j) x i = if j = i then (decide (st.getD (j * 2) 0 - y.r < x.r) || ((band (st.getD (j * 2 + 1) 0) (ap.getD x.s.toNat 0) != 0) || hasB (ap.getD x.s.toNat 0) y.s)) else fullS ap st x i := by
    unfold fullS
    rw [add_free hl hj i hi, add_has hl hj i hi]
    split
    · rw [band_bor (ho j hj) (hap _) hy.1]
    · rfl
  have e3 : addS (addS st x i) y j = addS (addS st y j) x i := by
    apply ext10 (by rw [addS_len, addS_len]; exact hl) (by rw [addS_len, addS_len]; exact hl)
    intro q hq
    have hl1 : (addS st x i).length = 10 := by omega
    have hl2 : (addS st y j).length = 10 := by omega
    rw [add_free hl1 hj q hq, add_free hl2 hi q hq, add_has hl1 hj q hq, add_has hl2 hi q hq]
    rw [add_free hl hi j hj, add_has hl hi j hj, add_free hl hj i hi, add_has hl hj i hi, add_free hl hi q hq, add_has hl hi q hq, add_free hl hj q hq, add_has hl hj q hq]
    by_cases a : i = q
    · by_cases b : j = q
      · subst a; subst b
        simp only [if_true]
        exact ⟨by omega, bor_swap (ho _ hi) hx.1 hy.1⟩
      · subst a
        have b' : ¬ i = j := fun e => b e.symm
        simp only [if_neg b, if_neg b', if_true]
        exact ⟨trivial, trivial⟩
    · by_cases b : j = q
      · subst b
        have a' : ¬ j = i := fun e => a e.symm
        simp only [if_neg a, if_neg a', if_true]
        exact ⟨trivial, trivial⟩
      · simp only [if_neg a, if_neg b]
        exact ⟨trivial, trivial⟩
  have key : (fullS ap st x i || fullS ap (addS st x i) y j) = (fullS ap st y j || fullS ap (addS st y j) x i) := by
    rw [e1, e2]
    by_cases h : i = j
    · subst h
      rw [if_pos rfl, if_pos rfl, hs]
      show ((decide (st.getD (i * 2) 0 < x.r) || (band (st.getD (i * 2 + 1) 0) (ap.getD x.s.toNat 0) != 0)) || _) = ((decide (st.getD (i * 2) 0 < y.r) || (band (st.getD (i * 2 + 1) 0) (ap.getD y.s.toNat 0) != 0)) || _)
      exact bool6 (band (st.getD (i * 2 + 1) 0) (ap.getD x.s.toNat 0) != 0) (band (st.getD (i * 2 + 1) 0) (ap.getD y.s.toNat 0) != 0) (hasB (ap.getD y.s.toNat 0) x.s) (st.getD (i * 2) 0) x.r y.r (by omega) (by omega)
    · rw [if_neg h, if_neg (fun e => h e.symm), Bool.or_comm]
  clear e1 e2
  generalize hA : addS st x i = sA at *
  generalize hB : addS st y j = sB at *
  cases h1 : fullS ap st x i
  · rw [put_t h1, hA, Option.bind_some]
    cases h2 : fullS ap st y j
    · rw [put_t h2, hB, Option.bind_some]
      rw [h1, h2, Bool.false_or, Bool.false_or] at key
      cases h3 : fullS ap sB x i
      · rw [h3] at key
        rw [put_t h3, put_t key, e3]
      · rw [h3] at key
        rw [put_f h3, put_f key]
    · rw [put_f h2, Option.bind_none]
      rw [h1, h2, Bool.false_or, Bool.true_or] at key
      rw [put_f key]
  · rw [put_f h1, Option.bind_none]
    cases h2 : fullS ap st y j
    · rw [put_t h2, hB, Option.bind_some]
      rw [h1, h2, Bool.false_or, Bool.true_or] at key
      rw [put_f key.symm]
    · rw [put_f h2, Option.bind_none]

/-- How many placements there are. -/
def cntS (ap : List Int) (np : Nat) : List Kd → List Int → Nat
  | [], _ => 1
  | k :: ks, st => ((List.range np).map fun i => match putS ap st k i with
    | none => 0
    | some s => cntS ap np ks s).sum
theorem cnt_cons (np : Nat) (k : Kd) (ks : List Kd) (st : List Int) : cntS ap np (k :: ks) st = ((List.range np).map fun i => ((putS ap st k i).map (cntS ap np ks)).getD 0).sum := by
  rw [cntS]
  congr 1
  apply List.map_congr_left
  intro i _
  cases putS ap st k i <;> rfl
theorem sum_le0 (f : Nat → Nat) : ∀ l : List Nat, (∀ i ∈ l, f i = 0) → (l.map f).sum = 0
  | [], _ => rfl
  | a :: l, h => by rw [List.map_cons, List.sum_cons, h a (by simp), sum_le0 f l (fun i hi => h i (by simp [hi]))]
theorem sum_add (f g : Nat → Nat) : ∀ l : List Nat, (l.map fun i => f i + g i).sum = (l.map f).sum + (l.map g).sum
  | [] => rfl
  | a :: l => by rw [List.map_cons, List.sum_cons, List.map_cons, List.sum_cons, List.map_cons, List.sum_cons, sum_add f g l]; omega
theorem sum_swap (g : Nat → Nat → Nat) (b : List Nat) : ∀ a : List Nat, (a.map fun i => (b.map fun j => g i j).sum).sum = (b.map fun j => (a.map fun i => g i j).sum).sum
  | [] => by rw [List.map_nil, List.sum_nil]; exact (sum_le0 _ b (fun i _ => rfl)).symm
  | x :: a => by
    rw [List.map_cons, List.sum_cons, sum_swap g b a, ← sum_add]
    rfl
theorem cnt_2 (np : Nat) (x y : Kd) (ks : List Kd) (st : List Int) : cntS ap np (x :: y :: ks) st = ((List.range np).map fun i => ((List.range np).map fun j => (((putS ap st x i).bind fun s => putS ap s y j).map (cntS ap np ks)).getD 0).sum).sum := by
  rw [cnt_cons]
  congr 1
  apply List.map_congr_left
  intro i _
  cases h : putS ap st x i with
  | none =>
    show 0 = _
    exact (sum_le0 _ _ (fun j _ => rfl)).symm
  | some s =>
    show cntS ap np (y :: ks) s = _
    rw [cnt_cons]; rfl
/-- In another order as many. -/
theorem cnt_perm {np : Nat} (h5 : np ≤ 5) (hap : okA ap) {a b : List Kd} (hp : a.Perm b) : goodB a → symA ap a → ∀ st : List Int, st.length = 10 → hasOk st → cntS ap np a st = cntS ap np b st := by
  induction hp with
  | nil => intro _ _ st _ _; rfl
  | cons x _ ih =>
    intro hg hs st hl ho
    rw [cnt_cons, cnt_cons]
    congr 1
    apply List.map_congr_left
    intro i hi
    have hi2 := List.mem_range.1 hi
    cases h : putS ap st x i with
    | none => rfl
    | some s =>
      have e := putS_add h
      subst e
      show cntS ap np _ _ = cntS ap np _ _
      exact ih (fun k hk => hg k (by simp [hk])) (fun u hu v hv => hs u (by simp [hu]) v (by simp [hv])) _ (by rw [addS_len]; exact hl) (hasOk_add ho hl (by omega) (hg x (by simp)).1)
  | swap x y l =>
    intro hg hs st hl ho
    rw [cnt_2, cnt_2, sum_swap]
    congr 1
    apply List.map_congr_left
    intro j hj
    have hj2 := List.mem_range.1 hj
    congr 1
    apply List.map_congr_left
    intro i hi
    have hi2 := List.mem_range.1 hi
    rw [put_swap hap hl ho (by omega) (by omega) (hg y (by simp)) (hg x (by simp)) (hs y (by simp) x (by simp))]
  | trans p _ ih1 ih2 =>
    intro hg hs st hl ho
    rw [ih1 hg hs st hl ho]
    exact ih2 (fun k hk => hg k (p.mem_iff.2 hk)) (fun u hu v hv => hs u (p.mem_iff.2 hu) v (p.mem_iff.2 hv)) st hl ho
theorem plc_cnt {np : Nat} (h5 : np ≤ 5) (ks : List Kd) : ∀ st : List Int, offS np st → (plc ap np np ks st).length = cntS ap np ks st := by
  induction ks with
  | nil => intro st _; rfl
  | cons k ks ih =>
    intro st ho
    rw [plc_cons, cnt_cons]
    unfold plcQ
    rw [List.length_flatMap]
    congr 1
    apply List.map_congr_left
    intro i hi
    have hi2 := List.mem_range.1 hi
    unfold plc1
    cases h : putS ap st k i with
    | none => rfl
    | some s =>
      have e := putS_add h
      subst e
      have ho2 := offS_add (k := k) ho hi2
      have hu : usedS (addS st k i) ≤ ((min 5 np : Nat) : Int) := usedK_off ho2 5 (Nat.le_refl _)
      dsimp only
      rw [if_neg (by simp; omega), List.length_map, ih _ ho2]
      rfl
theorem PL_perm {P : List Int} {K : List Kd} {l l' : List Int} (h5 : P.length ≤ 5) (hK : ksOk K = true) (hl : lOk K l = true) (hp : l.Perm l') : (PL P K l).length = (PL P K l').length := by
  unfold PL
  rw [plc_cnt h5 _ _ offS_0, plc_cnt h5 _ _ offS_0]
  exact cnt_perm h5 (apL_ok hK) (hp.map (kdD K)) (bsL_good hK hl) (symA_bs hK hl) _ (st0_len P) st0_has
/-- Beasts with their pens. -/
def runZ (ap : List Int) (np : Nat) : List (Kd × Int) → List Int → Option (List Int)
  | [], st => some st
  | z :: zs, st => (if inB z.2 0 ((np : Int) - 1) = true then putS ap st z.1 z.2.toNat else none).bind (runZ ap np zs)
theorem run_zip {np : Nat} : ∀ (ks : List Kd) (p st : List Int), ks.length = p.length → runP ap np ks p st = runZ ap np (ks.zip p) st
  | [], [], st, _ => rfl
  | [], _ :: _, _, h => by simp at h
  | _ :: _, [], _, h => by simp at h
  | k :: ks, x :: p, st, h => by
    rw [List.zip_cons_cons, runZ, runP]
    by_cases hx : inB x 0 ((np : Int) - 1) = true
    · rw [if_pos hx, if_pos hx]
      cases putS ap st k x.toNat with
      | none => rfl
      | some s => exact run_zip ks p s (by simpa using h)
    · rw [if_neg hx, if_neg hx]; rfl
theorem runZ_perm {np : Nat} (h5 : np ≤ 5) (hap : okA ap) {a b : List (Kd × Int)} (hp : a.Perm b) : goodB (a.map (·.1)) → symA ap (a.map (·.1)) → ∀ st : List Int, st.length = 10 → hasOk st → runZ ap np a st = runZ ap np b st := by
  induction hp with
  | nil => intro _ _ st _ _; rfl
  | cons x _ ih =>
    intro hg hs st hl ho
    rw [runZ, runZ]
    by_cases hx : inB x.2 0 ((np : Int) - 1) = true
    · have hx2 := inB_iff.1 hx
      rw [if_pos hx]
      cases h : putS ap st x.1 x.2.toNat with
      | none => rfl
      | some s =>
        have e := putS_add h
        subst e
        show runZ ap np _ _ = runZ ap np _ _
        exact ih (fun k hk => hg k (by simp only [List.map_cons, List.mem_cons]; exact .inr hk)) (fun u hu v hv => hs u (by simp only [List.map_cons, List.mem_cons]; exact .inr hu) v (by simp only [List.map_cons, List.mem_cons]; exact .inr hv)) _ (by rw [addS_len]; exact hl) (hasOk_add ho hl (by omega) (hg x.1 (by simp)).1)
    · rw [if_neg hx]; rfl
  | swap x y l =>
    intro hg hs st hl ho
    rw [runZ, runZ]
    by_cases hx : inB x.2 0 ((np : Int) - 1) = true
    · by_cases hy : inB y.2 0 ((np : Int) - 1) = true
      · have hx2 := inB_iff.1 hx
        have hy2 := inB_iff.1 hy
        rw [if_pos hx, if_pos hy]
        have := put_swap hap hl ho (x := y.1) (y := x.1) (i := y.2.toNat) (j := x.2.toNat) (by omega) (by omega) (hg y.1 (by simp)) (hg x.1 (by simp)) (hs y.1 (by simp) x.1 (by simp))
        have e1 : ∀ s, runZ ap np (x :: l) s = (putS ap s x.1 x.2.toNat).bind (runZ ap np l) := fun s => by rw [runZ, if_pos hx]
        have e2 : ∀ s, runZ ap np (y :: l) s = (putS ap s y.1 y.2.toNat).bind (runZ ap np l) := fun s => by rw [runZ, if_pos hy]
        rw [show runZ ap np (x :: l) = fun s => (putS ap s x.1 x.2.toNat).bind (runZ ap np l) from funext e1, show runZ ap np (y :: l) = fun s => (putS ap s y.1 y.2.toNat).bind (runZ ap np l) from funext e2]
        rw [← Option.bind_assoc, ← Option.bind_assoc, this]
      · rw [if_neg hy, if_pos hx]
        show none = _
        rw [show runZ ap np (y :: l) = fun _ => none from funext fun s => by rw [runZ, if_neg hy]; rfl]
        cases putS ap st x.1 x.2.toNat <;> rfl
    · rw [if_neg hx]
      show _ = none
      rw [show runZ ap np (x :: l) = fun _ => none from funext fun s => by rw [runZ, if_neg hx]; rfl]
      by_cases hy : inB y.2 0 ((np : Int) - 1) = true
      · rw [if_pos hy]; cases putS ap st y.1 y.2.toNat <;> rfl
      · rw [if_neg hy]; rfl
  | trans p _ ih1 ih2 =>
    intro hg hs st hl ho
    rw [ih1 hg hs st hl ho]
    have pm := p.map (·.1)
    exact ih2 (fun k hk => hg k (pm.mem_iff.2 hk)) (fun u hu v hv => hs u (pm.mem_iff.2 hu) v (pm.mem_iff.2 hv)) st hl ho
end
end Go.Proofs.YtaieidigpilbfaaGreat

namespace Go.Proofs.YtaieidigpilbfaaGreat
open Go Go.RowKit
set_option maxRecDepth 100000

theorem runZ_app {ap : List Int} {np : Nat} (b : List (Kd × Int)) : ∀ (a : List (Kd × Int)) (st : List Int), runZ ap np (a ++ b) st = (runZ ap np a st).bind (runZ ap np b)
  | [], st => rfl
  | z :: a, st => by
    rw [List.cons_append, runZ, runZ, Option.bind_assoc]
    congr 1
    funext s
    exact runZ_app b a s
theorem stand_runZ {P : List Int} {K : List Kd} {l p : List Int} (h : p.length = l.length) : standS P (apL K) (bsL K l) p = runZ (apL K) P.length ((bsL K l).zip p) (st0 P) := by
  have hb := bsL_len K l
  rw [standS_eq (by omega), standK_run (by omega) _ (Nat.le_refl _), List.take_length, List.take_of_length_le (by omega)]
  exact run_zip _ _ _ (by omega)
theorem plE_stand {P : List Int} {K : List Kd} {l p : List Int} (h0 : sE P K l = 0) : plE P K l p = 0 ↔ ∃ st, standS P (apL K) (bsL K l) p = some st := by
  unfold plE
  rw [if_pos h0]
  cases h : standS P (apL K) (bsL K l) p <;> simp
theorem zip_erase : ∀ (a : List Kd) (b : List Int) (k : Nat), (a.zip b).eraseIdx k = (a.eraseIdx k).zip (b.eraseIdx k)
  | [], b, k => by simp
  | x :: a, [], k => by simp
  | x :: a, y :: b, 0 => rfl
  | x :: a, y :: b, k + 1 => by
    rw [List.zip_cons_cons, List.eraseIdx_cons_succ, List.eraseIdx_cons_succ, List.eraseIdx_cons_succ, List.zip_cons_cons, zip_erase a b k]
theorem erase_perm {α : Type} : ∀ (a : List α) (k : Nat) (h : k < a.length), a.Perm (a.eraseIdx k ++ [a[k]])
  | x :: a, 0, _ => (List.perm_append_singleton x a).symm
  | x :: a, k + 1, h => (erase_perm a k (by simpa using h)).cons x
theorem zip_good {K : List Kd} {l p : List Int} (hK : ksOk K = true) (hl : lOk K l = true) : goodB (((bsL K l).zip p).map (·.1)) ∧ symA (apL K) (((bsL K l).zip p).map (·.1)) := by
  have hm : ∀ k ∈ ((bsL K l).zip p).map (·.1), k ∈ bsL K l := by
    intro k hk
    obtain ⟨z, hz, rfl⟩ := List.mem_map.1 hk
    exact (List.of_mem_zip (a := z.1) (b := z.2) hz).1
  exact ⟨fun k hk => bsL_good hK hl k (hm k hk), fun x hx y hy => symA_bs hK hl x (hm x hx) y (hm y hy)⟩
theorem lOk_erase {K : List Kd} {l : List Int} (h : lOk K l = true) (k : Nat) : lOk K (l.eraseIdx k) = true :=
  List.all_eq_true.2 fun x hx => List.all_eq_true.1 h x ((List.eraseIdx_sublist l k).mem hx)
theorem sE_mk {P : List Int} {K : List Kd} {l : List Int} (hy : yOk P K = true) (h8 : l.length ≤ 8) (hl : lOk K l = true) : sE P K l = 0 := by
  unfold sE
  rw [if_pos hy, err_t]
  rw [Bool.and_eq_true, decide_eq_true_eq]; exact ⟨h8, hl⟩
theorem map_erase (f : Int → Kd) : ∀ (l : List Int) (k : Nat), (l.map f).eraseIdx k = (l.eraseIdx k).map f
  | [], _ => rfl
  | _ :: _, 0 => rfl
  | x :: l, k + 1 => by rw [List.map_cons, List.eraseIdx_cons_succ, List.eraseIdx_cons_succ, List.map_cons, map_erase f l k]
theorem zip_set : ∀ (a : List Kd) (b : List Int) (i : Nat) (v : Int) (h : i < a.length), a.zip (b.set i v) = (a.zip b).set i (a[i], v)
  | x :: a, [], _, _, _ => by simp
  | x :: a, y :: b, 0, v, _ => rfl
  | x :: a, y :: b, i + 1, v, h => by
    rw [List.set_cons_succ, List.zip_cons_cons, List.zip_cons_cons, List.set_cons_succ, zip_set a b i v (by simpa using h)]
    rfl
theorem bsL_erase (K : List Kd) (l : List Int) (k : Nat) : (bsL K l).eraseIdx k = bsL K (l.eraseIdx k) := by
  unfold bsL; exact map_erase _ _ _
section
variable {P : List Int} {K : List Kd} {l p : List Int}
theorem plE_lens (h : plE P K l p = 0) (h0 : sE P K l = 0) : p.length = l.length := by
  obtain ⟨st, hs⟩ := (plE_stand h0).1 h
  unfold standS at hs
  split at hs
  · rename_i h2; rw [bsL_len] at h2; exact h2
  · cases hs
/-- Without one the others stand, and this one can come in again, into the same pen. -/
theorem take_ok (h0 : sE P K l = 0) (h : plE P K l p = 0) {k : Nat} (hk : k < l.length) : sE P K (l.eraseIdx k) = 0 ∧ plE P K (l.eraseIdx k) (p.eraseIdx k) = 0 ∧
    ∃ s, standS P (apL K) (bsL K (l.eraseIdx k)) (p.eraseIdx k) = some s ∧ inB (p.getD k 0) 0 ((P.length : Int) - 1) = true ∧ fullS (apL K) s (kdD K (l.getD k 0)) (p.getD k 0).toNat = false := by
  obtain ⟨hy, h8, hlo⟩ := sE_0 h0
  obtain ⟨h5, hP, hK⟩ := yOk_k hy
  have hpl := plE_lens h h0
  have hbl := bsL_len K l
  have h0' : sE P K (l.eraseIdx k) = 0 := sE_mk hy (by rw [List.length_eraseIdx_of_lt hk]; omega) (lOk_erase hlo k)
  obtain ⟨st, hs⟩ := (plE_stand h0).1 h
  rw [stand_runZ hpl] at hs
  obtain ⟨hg, hsy⟩ := zip_good (p := p) hK hlo
  have hzl : k < ((bsL K l).zip p).length := by rw [List.length_zip]; omega
  rw [runZ_perm h5 (apL_ok hK) (erase_perm _ k hzl) hg hsy _ (st0_len P) st0_has, runZ_app, zip_erase, bsL_erase] at hs
  have e : standS P (apL K) (bsL K (l.eraseIdx k)) (p.eraseIdx k) = runZ (apL K) P.length ((bsL K (l.eraseIdx k)).zip (p.eraseIdx k)) (st0 P) := stand_runZ (by rw [List.length_eraseIdx_of_lt hk, List.length_eraseIdx_of_lt (by omega)]; omega)
  rw [← e] at hs
  cases h1 : standS P (apL K) (bsL K (l.eraseIdx k)) (p.eraseIdx k) with
  | none => rw [h1] at hs; cases hs
  | some s =>
    rw [h1] at hs
    refine ⟨h0', (plE_stand h0').2 ⟨s, h1⟩, s, rfl, ?_⟩
    have ez : ((bsL K l).zip p)[k] = (kdD K (l.getD k 0), p.getD k 0) := by
      rw [List.getElem_zip]
      have : p.getD k 0 = p[k]'(by omega) := by simp [show k < p.length by omega]
      rw [this]
      congr 1
      unfold bsL
      simp [hk]
    rw [ez] at hs
    have hs2 : ((if inB (p.getD k 0) 0 ((P.length : Int) - 1) = true then putS (apL K) s (kdD K (l.getD k 0)) (p.getD k 0).toNat else none).bind (runZ (apL K) P.length [])) = some st := hs
    by_cases hi : inB (p.getD k 0) 0 ((P.length : Int) - 1) = true
    · rw [if_pos hi] at hs2
      refine ⟨hi, ?_⟩
      cases hq : putS (apL K) s (kdD K (l.getD k 0)) (p.getD k 0).toNat with
      | none => rw [hq] at hs2; cases hs2
      | some s2 => exact (putS_full hq).1
    · rw [if_neg hi] at hs2; cases hs2
theorem addK_first {ap st : List Int} {k : Kd} : ∀ f i j, i ≤ j → j < i + f → fullS ap st k j = false → ∃ a, addK ap st k f i = some a ∧ i ≤ a ∧ a < i + f ∧ fullS ap st k a = false := by
  intro f
  induction f with
  | zero => intro i j h1 h2; omega
  | succ f ih =>
    intro i j h1 h2 h3
    rw [addK]
    by_cases hi : fullS ap st k i = true
    · rw [if_pos hi]
      have hij : i + 1 ≤ j := by
        rcases Nat.eq_or_lt_of_le h1 with e | e
        · subst e; rw [h3] at hi; cases hi
        · exact e
      obtain ⟨a, b1, b2, b3, b4⟩ := ih (i + 1) j hij (by omega) h3
      exact ⟨a, b1, by omega, by omega, b4⟩
    · rw [if_neg hi]; exact ⟨i, rfl, Nat.le_refl _, by omega, by simpa using hi⟩
/-- One more beast where it can stand. -/
theorem stand_snoc {s : List Int} {x : Int} {a : Nat} (hpl : p.length = l.length) (hs : standS P (apL K) (bsL K l) p = some s) (ha : a < P.length) (hf : fullS (apL K) s (kdD K x) a = false) : standS P (apL K) (bsL K (l ++ [x])) (p ++ [(a : Int)]) = some (addS s (kdD K x) a) := by
  rw [stand_runZ (by simp [hpl])]
  rw [stand_runZ hpl] at hs
  have e : (bsL K (l ++ [x])).zip (p ++ [(a : Int)]) = (bsL K l).zip p ++ [(kdD K x, (a : Int))] := by
    unfold bsL
    rw [List.map_append, List.zip_append (by simp [hpl])]
    rfl
  rw [e, runZ_app, hs]
  show (if inB (a : Int) 0 ((P.length : Int) - 1) = true then putS (apL K) s (kdD K x) ((a : Int)).toNat else none).bind _ = _
  rw [if_pos (inB_iff.2 ⟨by omega, by omega⟩), Int.toNat_natCast]
  unfold putS
  rw [if_neg (by simp [hf])]
  rfl
/-- What Take leaves takes the beast again. -/
theorem add_again (h0 : sE P K l = 0) (h : plE P K l p = 0) {k : Nat} (hk : k < l.length) : adE P K (l.eraseIdx k) (p.eraseIdx k) (l.getD k 0) = 0 ∧ ∃ a : Nat, adV P K (l.eraseIdx k) (p.eraseIdx k) (l.getD k 0) = (a : Int) ∧
    sE P K (l.eraseIdx k ++ [l.getD k 0]) = 0 ∧ plE P K (l.eraseIdx k ++ [l.getD k 0]) (p.eraseIdx k ++ [(a : Int)]) = 0 := by
  obtain ⟨hy, h8, hlo⟩ := sE_0 h0
  obtain ⟨h1, h2, s, h3, h4, h5⟩ := take_ok h0 h hk
  have hin := inB_iff.1 h4
  obtain ⟨a, b1, b2, b3, b4⟩ := addK_first P.length 0 (p.getD k 0).toNat (by omega) (by omega) h5
  have hkd : kdI K (l.getD k 0) = true := lOk_at hlo hk
  have hlen : (l.eraseIdx k).length + 1 = l.length := by rw [List.length_eraseIdx_of_lt hk]; omega
  have hT : adT P K (l.eraseIdx k) (p.eraseIdx k) (l.getD k 0) = 0 := by
    unfold adT
    rw [h2, err_t _ hkd, err_t _ (by simp; omega)]
    rfl
  have hP2 : adP P K (l.eraseIdx k) (p.eraseIdx k) (l.getD k 0) = some a := by
    unfold adP adS
    rw [h3]; exact b1
  refine ⟨by unfold adE; rw [if_pos hT, hP2]; rfl, a, by unfold adV; rw [if_pos hT, hP2]; rfl, ?_⟩
  have h0' : sE P K (l.eraseIdx k ++ [l.getD k 0]) = 0 := by
    refine sE_mk hy (by rw [List.length_append, List.length_singleton]; omega) ?_
    unfold lOk
    rw [List.all_append, Bool.and_eq_true]
    exact ⟨lOk_erase hlo k, by simpa using hkd⟩
  refine ⟨h0', (plE_stand h0').2 ⟨_, stand_snoc ?_ h3 (by omega) b4⟩⟩
  have hpl := plE_lens h h0
  rw [List.length_eraseIdx_of_lt hk, List.length_eraseIdx_of_lt (by omega)]; omega
end
/-- Two kinds of beasts that stand alike. -/
def alkB (a b : List Kd) : Prop := a.map (fun k => (k.s, k.r)) = b.map (fun k => (k.s, k.r))
/-- No sort 0 stands anywhere. -/
def no0 (st : List Int) : Prop := ∀ i, i < 5 → hasB (st.getD (i * 2 + 1) 0) 0 = false
theorem no0_add {st : List Int} {k : Kd} {i : Nat} (h : no0 st) (ho : hasOk st) (hl : st.length = 10) (hi : i < 5) (hk : 1 ≤ k.s ∧ k.s ≤ 9) : no0 (addS st k i) := by
  intro j hj
  rw [add_has hl hi j hj]
  split
  · rw [(bor_bit (s := k.s) (t := 0) (ho i hi) (by omega) (by omega)).2, h i hi]
    simp; omega
  · exact h j hj
theorem test_has {a t : Int} (ha : 0 ≤ a ∧ a ≤ 1023) (ht : 0 ≤ t ∧ t ≤ 9) : hasB a t = a.toNat.testBit t.toNat := by
  obtain ⟨x, rfl⟩ := Int.eq_ofNat_of_zero_le ha.1
  obtain ⟨n, rfl⟩ := Int.eq_ofNat_of_zero_le ht.1
  rw [hasB_nat _ _ (by omega) (by omega)]; rfl
/-- With more room, more pens and fewer that must stand apart they stand as they stood. -/
theorem mono_run {ap ap' : List Int} {np np' : Nat} (hn : np ≤ np') (h5 : np' ≤ 5) (hap : okA ap) (hap' : okA ap') (hle : ∀ x t : Int, (1 ≤ x ∧ x ≤ 9) → (1 ≤ t ∧ t ≤ 9) → hasB (ap'.getD x.toNat 0) t = true → hasB (ap.getD x.toNat 0) t = true) :
    ∀ (ks ks' : List Kd) (p s t : List Int), alkB ks ks' → goodB ks → domS s t → no0 t → hasOk s → hasOk t → s.length = 10 → t.length = 10 → (runP ap np ks p s).isSome = true → (runP ap' np' ks' p t).isSome = true := by
  intro ks
  induction ks with
  | nil =>
    intro ks' p s t ha _ _ _ _ _ _ _ h
    have : ks' = [] := by unfold alkB at ha; simpa using ha.symm
    subst this
    cases p with
    | nil => rfl
    | cons => simp [runP] at h
  | cons k ks ih =>
    intro ks' p s t ha hg hd h0 hs ht hls hlt h
    obtain ⟨k', ks', rfl⟩ : ∃ k' r, ks' = k' :: r := by
      cases ks' with
      | nil => unfold alkB at ha; simp at ha
      | cons a r => exact ⟨a, r, rfl⟩
    unfold alkB at ha
    simp only [List.map_cons, List.cons.injEq, Prod.mk.injEq] at ha
    obtain ⟨⟨e1, e2⟩, ha⟩ := ha
    obtain ⟨i, q, hi, rfl, hf, h2⟩ := run_cons h
    have hgk := hg k (by simp)
    have hf1 : fullS ap t k i = false := by
      cases hx : fullS ap t k i with
      | false => rfl
      | true => rw [dom_full hd hap hs ht (by omega) hx] at hf; cases hf
    have hf2 : fullS ap' t k' i = false := by
      obtain ⟨r1, r2⟩ := full_room hf1
      unfold fullS
      rw [Bool.or_eq_false_iff, ← e1, ← e2]
      refine ⟨by rw [decide_eq_false_iff_not]; omega, ?_⟩
      rw [bne_eq_false_iff_eq]
      by_cases hb : band (t.getD (i * 2 + 1) 0) (ap'.getD k.s.toNat 0) = 0
      · exact hb
      · obtain ⟨b, hb1, hb2, hb3⟩ := (band_iff (ht i (by omega)) (hap' _)).1 hb
        have hb0 : b ≠ 0 := by rintro rfl; rw [h0 i (by omega)] at hb2; cases hb2
        exact absurd r2 ((band_iff (ht i (by omega)) (hap _)).2 ⟨b, hb1, hb2, hle k.s b hgk.1 (by omega) hb3⟩)
    simp only [runP]
    rw [if_pos (inB_iff.2 ⟨by omega, by omega⟩), Int.toNat_natCast]
    unfold putS
    rw [if_neg (by simp [hf2])]
    show (runP ap' np' ks' q (addS t k' i)).isSome = true
    have e3 : addS t k' i = addS t k i := by unfold addS; rw [e1, e2]
    rw [e3]
    exact ih ks' q _ _ ha (fun x hx => hg x (by simp [hx])) (dom_add hd hs ht hls hlt (by omega) hgk.1) (no0_add h0 ht hlt (by omega) hgk.1) (hasOk_add hs hls (by omega) hgk.1) (hasOk_add ht hlt (by omega) hgk.1) (by rw [addS_len]; exact hls) (by rw [addS_len]; exact hlt) h2
theorem no0_0 {P : List Int} : no0 (st0 P) := fun i hi => by rw [st0_zero i hi]; exact zero_bit (by omega)
theorem dom_0 {P P' : List Int} (h5 : P.length ≤ 5) (h5' : P'.length ≤ 5) (hle : ∀ i, P.getD i 0 ≤ P'.getD i 0) : domS (st0 P) (st0 P') := by
  have key : ∀ (P : List Int), P.length ≤ 5 → ∀ k, k ≤ P.length → ∀ i, i < 5 → (emK P k).getD (i * 2) 0 = if i < k then P.getD i 0 else 0 := by
    intro P _ k
    induction k with
    | zero =>
      intro _ i hi
      rw [if_neg (by omega)]
      rcases (by omega : i = 0 ∨ i = 1 ∨ i = 2 ∨ i = 3 ∨ i = 4) with rfl | rfl | rfl | rfl | rfl <;> rfl
    | succ k ih =>
      intro hk i hi
      rw [emK, getD_set, emK_len]
      by_cases e : k = i
      · subst e; rw [if_pos ⟨rfl, by omega⟩, if_pos (by omega)]
      · rw [if_neg (by omega), ih (by omega) i hi]
        by_cases e2 : i < k
        · rw [if_pos e2, if_pos (by omega)]
        · rw [if_neg e2, if_neg (by omega)]
  have full : ∀ (P : List Int), P.length ≤ 5 → ∀ i, i < 5 → (st0 P).getD (i * 2) 0 = P.getD i 0 := by
    intro P h5 i hi
    have := key P h5 _ (Nat.le_refl _) i hi
    unfold st0
    rw [this]
    split
    · rfl
    · rw [List.getD_eq_getElem?_getD, List.getElem?_eq_none (by omega)]; rfl
  intro i hi
  rw [full P h5 i hi, full P' h5' i hi]
  refine ⟨hle i, fun j hj => ?_⟩
  rw [st0_zero i hi] at hj
  simp at hj
/-- A kind that need not stand apart any more. -/
def frK (s0 : Int) (k : Kd) : Kd := if k.s = s0 then ⟨k.s, k.r, k.e, 0⟩ else k
theorem frK_s (s0 : Int) (k : Kd) : (frK s0 k).s = k.s ∧ (frK s0 k).r = k.r := by unfold frK; split <;> exact ⟨rfl, rfl⟩
theorem frK_ok {s0 : Int} {k : Kd} (h : kdOk k = true) : kdOk (frK s0 k) = true := by
  unfold frK
  split
  · rw [kdOk_iff] at h ⊢
    exact ⟨h.1, h.2.1, h.2.2.1, by simp, zero_bit (by omega)⟩
  · exact h
theorem kd?_fr (K : List Kd) (s0 x : Int) : kd? (K.map (frK s0)) x = (kd? K x).map (frK s0) := by
  unfold kd?
  rw [List.find?_map]
  congr 2
  funext k
  show ((frK s0 k).s == x) = (k.s == x)
  rw [(frK_s s0 k).1]
theorem ksOk_fr {K : List Kd} (h : ksOk K = true) (s0 : Int) : ksOk (K.map (frK s0)) = true := by
  unfold ksOk
  rw [List.all_eq_true]
  intro i hi
  have hi2 := List.mem_range.1 hi
  rw [List.length_map] at hi2
  have := ksOk_at h hi2
  unfold ksAt at this ⊢
  rw [Bool.and_eq_true] at this ⊢
  have e : (K.map (frK s0)).getD i kd0 = frK s0 (K.getD i kd0) := by simp [hi2]
  rw [e]
  refine ⟨frK_ok this.1, ?_⟩
  have h2 := this.2
  rw [Bool.or_eq_true, decide_eq_true_eq] at h2 ⊢
  rcases h2 with h2 | h2
  · exact .inl h2
  · right
    have e2 : (K.map (frK s0)).getD (i - 1) kd0 = frK s0 (K.getD (i - 1) kd0) := by simp [show i - 1 < K.length by omega]
    rw [e2, (frK_s _ _).1, (frK_s _ _).1]; exact h2
theorem kdD_fr {K : List Kd} {x : Int} (s0 : Int) (h : kdI K x = true) : kdD (K.map (frK s0)) x = frK s0 (kdD K x) := by
  unfold kdI at h
  unfold kdD
  rw [kd?_fr]
  cases hk : kd? K x with
  | none => rw [hk] at h; cases h
  | some q => rfl
theorem kdI_fr (K : List Kd) (s0 x : Int) : kdI (K.map (frK s0)) x = kdI K x := by
  unfold kdI; rw [kd?_fr]; cases kd? K x <;> rfl
theorem aptB_fr {K : List Kd} (hK : ksOk K = true) (s0 : Int) {x y : Int} (hx : 1 ≤ x ∧ x ≤ 9) (hy : 1 ≤ y ∧ y ≤ 9) (h : aptB (K.map (frK s0)) x y = true) : aptB K x y = true := by
  have key : ∀ x y : Int, (1 ≤ y ∧ y ≤ 9) → hasB (kdD (K.map (frK s0)) x).a y = true → hasB (kdD K x).a y = true := by
    intro x y hy h
    cases hk : kd? K x with
    | none =>
      have : kdD (K.map (frK s0)) x = kd0 := by unfold kdD; rw [kd?_fr, hk]; rfl
      rw [this] at h
      rw [show kd0.a = 0 from rfl, zero_bit (by omega)] at h; cases h
    | some q =>
      rw [kdD_fr s0 (by unfold kdI; rw [hk]; rfl)] at h
      unfold frK at h
      split at h
      · rw [show (⟨(kdD K x).s, (kdD K x).r, (kdD K x).e, 0⟩ : Kd).a = 0 from rfl, zero_bit (by omega)] at h; cases h
      · exact h
  unfold aptB at h ⊢
  rw [Bool.or_eq_true] at h ⊢
  rcases h with h | h
  · exact .inl (key x y hy h)
  · exact .inr (key y x hx h)
theorem set_fr {K : List Kd} (h : ksOk K = true) {j : Nat} (hj : j < K.length) : K.set j ⟨K[j].s, K[j].r, K[j].e, 0⟩ = K.map (frK K[j].s) := by
  apply List.ext_getElem (by simp)
  intro i h1 h2
  rw [List.length_set] at h1
  rw [List.getElem_set, List.getElem_map]
  unfold frK
  by_cases e : j = i
  · subst e; rw [if_pos rfl, if_pos rfl]
  · rw [if_neg e, if_neg]
    intro hs
    rcases Nat.lt_or_gt_of_ne e with h3 | h3
    · have := ks_lt h h3 h1; omega
    · have := ks_lt h h3 hj; omega
/-- With more room, more pens, and fewer that must stand apart what is a placement is one. -/
theorem more_ok {P P' : List Int} {K : List Kd} {l p : List Int} (s0 : Int) (h0 : sE P K l = 0) (h : plE P K l p = 0) (h5' : P'.length ≤ 5) (hP' : psOk P' = true) (hn : P.length ≤ P'.length) (hle : ∀ i, P.getD i 0 ≤ P'.getD i 0) :
    sE P' (K.map (frK s0)) l = 0 ∧ plE P' (K.map (frK s0)) l p = 0 := by
  obtain ⟨hy, h8, hlo⟩ := sE_0 h0
  obtain ⟨h5, hP, hK⟩ := yOk_k hy
  have hK' := ksOk_fr hK s0
  have h0' : sE P' (K.map (frK s0)) l = 0 := by
    refine sE_mk ?_ h8 ?_
    · unfold yOk
      rw [Bool.and_eq_true, Bool.and_eq_true, decide_eq_true_eq]
      exact ⟨h5', hP', hK'⟩
    · exact List.all_eq_true.2 fun x hx => by rw [kdI_fr]; exact List.all_eq_true.1 hlo x hx
  refine ⟨h0', ?_⟩
  obtain ⟨fin, hr⟩ := (plE_run h0).1 h
  have hmono := mono_run hn h5' (apL_ok hK) (apL_ok hK') (fun x t hx ht hb => by
    rw [apL_apt hK' hx ht] at hb
    rw [apL_apt hK hx ht]
    exact aptB_fr hK s0 hx ht hb) (bsL K l) (bsL (K.map (frK s0)) l) p (st0 P) (st0 P') (by
    unfold alkB bsL
    rw [List.map_map, List.map_map]
    apply List.map_congr_left
    intro x hx
    have hx1 : kdI K x = true := List.all_eq_true.1 hlo x hx
    show ((kdD K x).s, (kdD K x).r) = ((kdD (K.map (frK s0)) x).s, (kdD (K.map (frK s0)) x).r)
    rw [kdD_fr s0 hx1, (frK_s _ _).1, (frK_s _ _).2]) (bsL_good hK hlo) (dom_0 h5 h5' hle) no0_0 st0_has st0_has (st0_len P) (st0_len P') (by rw [hr]; rfl)
  cases hr2 : runP (apL (K.map (frK s0))) P'.length (bsL (K.map (frK s0)) l) p (st0 P') with
  | none => rw [hr2] at hmono; cases hmono
  | some fin2 => exact (plE_run h0').2 ⟨fin2, hr2⟩
/-- Two beasts of one sort may change places. -/
theorem swap_ok {P : List Int} {K : List Kd} {l p : List Int} (h0 : sE P K l = 0) (h : plE P K l p = 0) {i k : Nat} (hi : i < l.length) (hk : k < l.length) (e : l[i] = l[k]) : plE P K l ((p.set i (p.getD k 0)).set k (p.getD i 0)) = 0 := by
  obtain ⟨hy, h8, hlo⟩ := sE_0 h0
  obtain ⟨h5, hP, hK⟩ := yOk_k hy
  have hpl := plE_lens h h0
  have hbl := bsL_len K l
  obtain ⟨st, hs⟩ := (plE_stand h0).1 h
  rw [stand_runZ hpl] at hs
  refine (plE_stand h0).2 ⟨st, ?_⟩
  rw [stand_runZ (by rw [List.length_set, List.length_set]; exact hpl)]
  obtain ⟨hg, hsy⟩ := zip_good (p := p) hK hlo
  have hzi : i < ((bsL K l).zip p).length := by rw [List.length_zip]; omega
  have hzk : k < ((bsL K l).zip p).length := by rw [List.length_zip]; omega
  rw [← hs]
  have hperm := List.set_set_perm hzi hzk
  have eqz : (bsL K l).zip ((p.set i (p.getD k 0)).set k (p.getD i 0)) = (((bsL K l).zip p).set i ((bsL K l).zip p)[k]).set k ((bsL K l).zip p)[i] := by
    have eb : (bsL K l)[i]'(by omega) = (bsL K l)[k]'(by omega) := by unfold bsL; rw [List.getElem_map, List.getElem_map, e]
    have g1 : p.getD k 0 = p[k]'(by omega) := by simp [show k < p.length by omega]
    have g2 : p.getD i 0 = p[i]'(by omega) := by simp [show i < p.length by omega]
    rw [g1, g2, zip_set _ _ k _ (by omega), zip_set _ _ i _ (by omega), List.getElem_zip, List.getElem_zip, eb]
  rw [eqz]
  have pm := hperm.map (·.1)
  exact runZ_perm h5 (apL_ok hK) hperm (fun q hq => hg q (pm.mem_iff.1 hq)) (fun u hu v hv => hsy u (pm.mem_iff.1 hu) v (pm.mem_iff.1 hv)) _ (st0_len P) st0_has
end Go.Proofs.YtaieidigpilbfaaGreat

namespace Go.Proofs.YtaieidigpilbfaaGreat
open Go Go.RowKit
set_option maxRecDepth 100000

/-- One of the first m, another one, stands in a pen and must stand apart. -/
def clashA (K : List Kd) (l p : List Int) (i : Nat) (q : Int) : Nat → Bool
  | 0 => false
  | m + 1 => clashA K l p i q m || (!(m == i) && (decide (p.getD m 0 = q) && aptB K (l.getD m 0) (l.getD i 0)))
theorem clashA_iff {K : List Kd} {l p : List Int} {i : Nat} {q : Int} : ∀ m, clashA K l p i q m = true ↔ ∃ j, j < m ∧ j ≠ i ∧ p.getD j 0 = q ∧ aptB K (l.getD j 0) (l.getD i 0) = true
  | 0 => by simp [clashA]
  | m + 1 => by
    rw [clashA, Bool.or_eq_true, clashA_iff m]
    simp only [Bool.and_eq_true, Bool.not_eq_true', beq_eq_false_iff_ne, ne_eq, decide_eq_true_eq]
    constructor
    · rintro (⟨j, h1, h2⟩ | ⟨h1, h2, h3⟩)
      · exact ⟨j, by omega, h2⟩
      · exact ⟨m, by omega, h1, h2, h3⟩
    · rintro ⟨j, h1, h2, h3, h4⟩
      by_cases e : j = m
      · subst e; exact .inr ⟨h2, h3, h4⟩
      · exact .inl ⟨j, by omega, h2, h3, h4⟩
theorem fitK_all {K : List Kd} {l p : List Int} {i : Nat} : ∀ m, fitK K l p i (p.getD i 0) m = if clashA K l p i (p.getD i 0) m = true then none else some ((kdD K (l.getD i 0)).r + sumQ K l p (p.getD i 0) m - if i < m then (kdD K (l.getD i 0)).r else 0)
  | 0 => by rw [fitK, clashA, sumQ]; simp
  | m + 1 => by
    rw [fitK, fitK_all m, clashA, sumQ]
    by_cases h : clashA K l p i (p.getD i 0) m = true
    · rw [if_pos h, h]; simp
    · have h' : clashA K l p i (p.getD i 0) m = false := by simpa using h
      rw [if_neg h, h', Bool.false_or]
      dsimp only
      by_cases e : m = i
      · subst e
        rw [if_pos (show (p.getD m 0 != p.getD m 0 || m == m) = true by simp), if_neg (show ¬ (!(m == m) && (decide (p.getD m 0 = p.getD m 0) && aptB K (l.getD m 0) (l.getD m 0))) = true by simp), if_neg (show ¬ m < m by omega), if_pos (rfl : p.getD m 0 = p.getD m 0), if_pos (show m < m + 1 by omega)]
        congr 1; omega
      · have e2 : (m == i) = false := by simpa using e
        rw [e2]
        by_cases hp : p.getD m 0 = p.getD i 0
        · rw [if_neg (by rw [hp]; simp), hp, decide_eq_true rfl]
          by_cases ha : aptB K (l.getD m 0) (l.getD i 0) = true
          · rw [if_pos ha, ha]; rfl
          · have ha' : aptB K (l.getD m 0) (l.getD i 0) = false := by simpa using ha
            rw [if_neg ha, ha']
            rw [if_neg (show ¬ ((!false && (true && false)) = true) by simp), if_pos (rfl : p.getD i 0 = p.getD i 0)]
            congr 1
            by_cases hi : i < m
            · rw [if_pos hi, if_pos (show i < m + 1 by omega)]; omega
            · rw [if_neg hi, if_neg (show ¬ i < m + 1 by omega)]; omega
        · rw [if_pos (show (p.getD m 0 != p.getD i 0 || false) = true by rw [Bool.or_false, bne_iff_ne]; exact hp), decide_eq_false hp, if_neg hp]
          rw [if_neg (show ¬ ((!false && (false && aptB K (l.getD m 0) (l.getD i 0))) = true) by simp)]
          congr 1
          by_cases hi : i < m
          · rw [if_pos hi, if_pos (show i < m + 1 by omega)]; omega
          · rw [if_neg hi, if_neg (show ¬ i < m + 1 by omega)]; omega
theorem isPlK_iff {P : List Int} {K : List Kd} {l p : List Int} {i : Nat} (hi : i < p.length) : isPlK P K l p i = true ↔ inB (p.getD i 0) 0 ((P.length : Int) - 1) = true ∧ clashA K l p i (p.getD i 0) p.length = false ∧ sumQ K l p (p.getD i 0) p.length ≤ P.getD (p.getD i 0).toNat 0 := by
  unfold isPlK fitS
  rw [Bool.and_eq_true, fitK_all]
  refine and_congr_right fun _ => ?_
  cases h : clashA K l p i (p.getD i 0) p.length
  · rw [if_neg (by simp), if_pos hi]
    dsimp only
    rw [decide_eq_true_eq]
    constructor
    · intro h; exact ⟨rfl, by omega⟩
    · intro h; have := h.2; omega
  · rw [if_pos rfl]; simp
theorem sumQ_mono {K : List Kd} {l p : List Int} {q : Int} (hK : ksOk K = true) : ∀ j m, sumQ K l p q m ≤ sumQ K l p q (m + j)
  | 0, m => Int.le_refl _
  | j + 1, m => by
    rw [← Nat.add_assoc, sumQ]
    have := sumQ_mono (l := l) (p := p) (q := q) hK j m
    have := kdD_in hK (l.getD (m + j) 0)
    split <;> omega
theorem anyQ_iff {l p : List Int} {q t : Int} : ∀ m, anyQ l p q t m = true ↔ ∃ j, j < m ∧ p.getD j 0 = q ∧ l.getD j 0 = t
  | 0 => by simp [anyQ]
  | m + 1 => by
    rw [anyQ, Bool.or_eq_true, anyQ_iff m, Bool.and_eq_true, decide_eq_true_eq, decide_eq_true_eq]
    constructor
    · rintro (⟨j, h1, h2⟩ | ⟨h1, h2⟩)
      · exact ⟨j, by omega, h2⟩
      · exact ⟨m, by omega, h1, h2⟩
    · rintro ⟨j, h1, h2, h3⟩
      by_cases e : j = m
      · subst e; exact .inr ⟨h2, h3⟩
      · exact .inl ⟨j, by omega, h2, h3⟩
section
variable {P : List Int} {K : List Kd} {l p : List Int}
theorem bs_at (hK : ksOk K = true) (hl : lOk K l = true) {k : Nat} (hk : k < l.length) : (bsL K l).getD k kd0 = kdD K (l.getD k 0) ∧ (kdD K (l.getD k 0)).s = l.getD k 0 ∧ (1 ≤ l.getD k 0 ∧ l.getD k 0 ≤ 9) := by
  have h1 := lOk_at hl hk
  have h2 := lOk_in hK hl _ (List.getElem_mem hk)
  rw [show l.getD k 0 = l[k] by simp [hk]] at *
  refine ⟨?_, ?_, h2⟩
  · rw [bsL_getD hk]; simp [hk]
  · have := kdD_s h1; exact this
theorem pl_stand (h0 : sE P K l = 0) (h : isPlB P K l p = true) : ∀ k, k ≤ l.length → ∃ st, standK P (apL K) (bsL K l) p k = some st := by
  obtain ⟨hy, h8, hlo⟩ := sE_0 h0
  obtain ⟨h5, hP, hK⟩ := yOk_k hy
  unfold isPlB at h
  rw [Bool.and_eq_true, decide_eq_true_eq] at h
  obtain ⟨hlen, hall⟩ := h
  have hat : ∀ i, i < p.length → inB (p.getD i 0) 0 ((P.length : Int) - 1) = true ∧ clashA K l p i (p.getD i 0) p.length = false ∧ sumQ K l p (p.getD i 0) p.length ≤ P.getD (p.getD i 0).toNat 0 := fun i hi =>
    (isPlK_iff hi).1 (List.all_eq_true.1 hall i (List.mem_range.2 (by omega)))
  intro k
  induction k with
  | zero => intro _; exact ⟨_, rfl⟩
  | succ k ih =>
    intro hk
    obtain ⟨st, hs⟩ := ih (by omega)
    obtain ⟨ho, hl10, hsay⟩ := stand_says h5 hK hlo k (by omega) st hs
    obtain ⟨h1, h2, h3⟩ := hat k (by omega)
    obtain ⟨e1, e2, e3⟩ := bs_at hK hlo (k := k) (by omega)
    have hin := inB_iff.1 h1
    obtain ⟨q, hq⟩ := Int.eq_ofNat_of_zero_le hin.1
    rw [hq] at h2 h3 hin
    rw [Int.toNat_natCast] at h3
    obtain ⟨s1, s2⟩ := hsay q (by omega)
    refine ⟨addS st (kdD K (l.getD k 0)) q, ?_⟩
    rw [standK_some hs, if_pos h1, hq, Int.toNat_natCast, e1]
    unfold putS
    rw [if_neg]
    rw [Bool.not_eq_true]
    unfold fullS
    rw [Bool.or_eq_false_iff, decide_eq_false_iff_not, bne_eq_false_iff_eq, e2]
    refine ⟨?_, ?_⟩
    · rw [s1]
      have h4 := sumQ_mono (l := l) (p := p) (q := (q : Int)) hK (p.length - (k + 1)) (k + 1)
      rw [show k + 1 + (p.length - (k + 1)) = p.length by omega, sumQ, hq, if_pos rfl] at h4
      omega
    · by_cases hb : band (st.getD (q * 2 + 1) 0) ((apL K).getD (l.getD k 0).toNat 0) = 0
      · exact hb
      · exfalso
        obtain ⟨t, ht, b1, b2⟩ := (band_iff (ho q (by omega)) (apL_ok hK _)).1 hb
        rw [s2 t ht, anyQ_iff] at b1
        obtain ⟨j, c1, c2, c3⟩ := b1
        obtain ⟨-, -, f3⟩ := bs_at hK hlo (k := j) (by omega)
        rw [c3] at f3
        rw [apL_apt hK e3 f3, aptB_comm] at b2
        have : clashA K l p k q p.length = true := (clashA_iff _).2 ⟨j, by omega, by omega, c2, by rw [c3]; exact b2⟩
        rw [h2] at this; cases this
theorem stand_okS (h0 : sE P K l = 0) : ∀ k, k ≤ l.length → ∀ st, standK P (apL K) (bsL K l) p k = some st → okS P st := by
  obtain ⟨hy, h8, hlo⟩ := sE_0 h0
  obtain ⟨h5, hP, hK⟩ := yOk_k hy
  intro k
  induction k with
  | zero => intro _ st h; cases h; exact okS_0 h5 hP
  | succ k ih =>
    intro hk st h
    cases hs : standK P (apL K) (bsL K l) p k with
    | none => rw [standK, hs] at h; cases h
    | some s =>
      rw [standK_some hs] at h
      split at h
      · rename_i hin
        have hin := inB_iff.1 hin
        obtain ⟨hf, rfl⟩ := putS_full h
        obtain ⟨e1, e2, e3⟩ := bs_at hK hlo (k := k) (by omega)
        refine (ih (by omega) s hs).add h5 ?_ (by omega) hf
        rw [e1]
        have hm : kdD K (l.getD k 0) ∈ bsL K l := by
          rw [← e1, show (bsL K l).getD k kd0 = (bsL K l)[k]'(by rw [bsL_len]; omega) by simp [show k < (bsL K l).length by rw [bsL_len]; omega]]
          exact List.getElem_mem _
        exact bsL_good hK hlo _ hm
      · cases h
theorem stand_step {k : Nat} {s1 : List Int} (h : standK P (apL K) (bsL K l) p (k + 1) = some s1) : ∃ s, standK P (apL K) (bsL K l) p k = some s ∧ inB (p.getD k 0) 0 ((P.length : Int) - 1) = true ∧ fullS (apL K) s ((bsL K l).getD k kd0) (p.getD k 0).toNat = false := by
  cases hs : standK P (apL K) (bsL K l) p k with
  | none => rw [standK, hs] at h; cases h
  | some s =>
    rw [standK_some hs] at h
    split at h
    · rename_i hin
      exact ⟨s, rfl, hin, (putS_full h).1⟩
    · cases h
theorem stand_pre {k j : Nat} {s : List Int} (h : standK P (apL K) (bsL K l) p (k + j) = some s) : ∃ s0, standK P (apL K) (bsL K l) p k = some s0 := by
  cases hs : standK P (apL K) (bsL K l) p k with
  | none => rw [standK_none hs j] at h; cases h
  | some s0 => exact ⟨s0, rfl⟩
/-- What is a placement for one side is one for the other. -/
theorem isPl_stand (h0 : sE P K l = 0) : isPlB P K l p = (standS P (apL K) (bsL K l) p).isSome := by
  obtain ⟨hy, h8, hlo⟩ := sE_0 h0
  obtain ⟨h5, hP, hK⟩ := yOk_k hy
  by_cases hlen : p.length = l.length
  rotate_left
  · rw [standS_len (by rw [bsL_len]; exact hlen)]
    unfold isPlB
    rw [decide_eq_false (fun e => hlen e.symm)]; rfl
  rw [standS_eq (by rw [bsL_len]; exact hlen)]
  cases h : isPlB P K l p with
  | true =>
    obtain ⟨st, hs⟩ := pl_stand h0 h p.length (by omega)
    rw [hs]; rfl
  | false =>
    cases hs : standK P (apL K) (bsL K l) p p.length with
    | none => rfl
    | some st =>
      exfalso
      have hok := stand_okS h0 p.length (by omega) st hs
      obtain ⟨ho, hl10, hsay⟩ := stand_says h5 hK hlo p.length (by omega) st hs
      have hstep : ∀ a, a < p.length → ∃ s, standK P (apL K) (bsL K l) p a = some s ∧ inB (p.getD a 0) 0 ((P.length : Int) - 1) = true ∧ fullS (apL K) s ((bsL K l).getD a kd0) (p.getD a 0).toNat = false := by
        intro a ha
        obtain ⟨s1, hs1⟩ := stand_pre (k := a + 1) (j := p.length - (a + 1)) (by rw [show a + 1 + (p.length - (a + 1)) = p.length by omega]; exact hs)
        exact stand_step hs1
      have key : ∀ a b, a < p.length → b < a → p.getD b 0 = p.getD a 0 → aptB K (l.getD b 0) (l.getD a 0) = false := by
        intro a b ha hb hpe
        obtain ⟨s, g1, g2, g3⟩ := hstep a ha
        obtain ⟨o2, l2, say2⟩ := stand_says h5 hK hlo a (by omega) s g1
        have hin := inB_iff.1 g2
        obtain ⟨q, hq⟩ := Int.eq_ofNat_of_zero_le hin.1
        rw [hq, Int.toNat_natCast] at g3
        obtain ⟨e1, e2, e3⟩ := bs_at hK hlo (k := a) (by omega)
        obtain ⟨-, -, f3⟩ := bs_at hK hlo (k := b) (by omega)
        obtain ⟨s1, s2⟩ := say2 q (by omega)
        cases hap : aptB K (l.getD b 0) (l.getD a 0) with
        | false => rfl
        | true =>
          exfalso
          have h4 := (full_room g3).2
          rw [e1, e2] at h4
          refine bit_ne (o2 q (by omega)) (apL_ok hK _) (t := l.getD b 0) (by omega) ?_ ?_ h4
          · rw [s2 _ (by omega), anyQ_iff]; exact ⟨b, hb, by rw [hpe, hq], rfl⟩
          · rw [apL_apt hK e3 f3, aptB_comm]; exact hap
      have : isPlB P K l p = true := by
        refine isPlB_yes (by omega) fun i hi => ?_
        rw [isPlK_iff (by omega)]
        obtain ⟨s, g1, g2, g3⟩ := hstep i (by omega)
        refine ⟨g2, ?_, ?_⟩
        · rw [Bool.eq_false_iff]
          intro hc
          obtain ⟨j, c1, c2, c3, c4⟩ := (clashA_iff _).1 hc
          rcases Nat.lt_or_gt_of_ne c2 with h6 | h6
          · rw [key i j (by omega) h6 c3] at c4; cases c4
          · rw [aptB_comm, key j i c1 h6 c3.symm] at c4; cases c4
        · have hin := inB_iff.1 g2
          obtain ⟨q, hq⟩ := Int.eq_ofNat_of_zero_le hin.1
          rw [hq, Int.toNat_natCast]
          obtain ⟨s1, _⟩ := hsay q (by omega)
          have := hok.pos q (by omega)
          omega
      rw [h] at this; cases this
theorem rplE_plE : rplE P K l p = plE P K l p := by
  unfold rplE plE
  by_cases h0 : sE P K l = 0
  · rw [if_pos h0, if_pos h0, isPl_stand h0]
  · rw [if_neg h0, if_neg h0]
end
end Go.Proofs.YtaieidigpilbfaaGreat

