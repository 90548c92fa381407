/- Contracts of functions of the program and of the reference, and plain facts: a part of a proof. Own text. -/
import Derived.Test.YtaieidigpilbfaaGreatJf
import Derived.Test.YtaieidigpilbfaaGreatJh
import Derived.Test.YtaieidigpilbfaaGreatJk
set_option linter.unusedVariables false
set_option linter.unusedSimpArgs false
set_option linter.unusedSectionVars false
namespace Go.Proofs.YtaieidigpilbfaaGreat
open Go Go.RowKit
set_option maxRecDepth 100000

/-- Indices that rise. -/
def risB (l : List Int) : Prop := l.Pairwise (fun a b => a < b)
theorem someL_cons (k : Kd) (bs : List Kd) (l : List Int) (h : ∀ i ∈ l, 1 ≤ i) : someL (k :: bs) l = someL bs (l.map (· - 1)) := by
  unfold someL
  rw [List.map_map]
  apply List.map_congr_left
  intro i hi
  have := h i hi
  show (k :: bs).getD i.toNat kd0 = bs.getD (i - 1).toNat kd0
  rw [show i.toNat = (i - 1).toNat + 1 by omega]
  rfl
theorem ris_sub : ∀ (bs : List Kd) (l : List Int), idxOk bs.length l → risB l → (someL bs l).Sublist bs
  | [], l, hi, _ => by
    cases l with
    | nil => exact List.Sublist.slnil
    | cons i l => have := hi i (by simp); simp at this; omega
  | k :: bs, [], _, _ => by simp [someL]
  | k :: bs, i :: l, hi, hr => by
    obtain ⟨h1, h2⟩ := List.pairwise_cons.1 hr
    have hi0 := hi i (by simp)
    have key : ∀ l2 : List Int, idxOk (bs.length + 1) l2 → (∀ j ∈ l2, 1 ≤ j) → risB l2 → (someL (k :: bs) l2).Sublist bs := by
      intro l2 a1 a2 a3
      rw [someL_cons k bs l2 a2]
      refine ris_sub bs _ ?_ ?_
      · intro j hj
        obtain ⟨x, hx, rfl⟩ := List.mem_map.1 hj
        have := a1 x hx; have := a2 x hx; omega
      · exact List.pairwise_map.2 (a3.imp fun {a b} h => by omega)
    by_cases e : i = 0
    · subst e
      show ((k :: bs).getD (0 : Int).toNat kd0 :: someL (k :: bs) l).Sublist (k :: bs)
      refine List.Sublist.cons_cons k (key l (fun j hj => hi j (by simp [hj])) (fun j hj => ?_) h2)
      have := h1 j hj; omega
    · refine List.Sublist.cons k (key (i :: l) hi (fun j hj => ?_) hr)
      rcases List.mem_cons.1 hj with rfl | hj
      · omega
      · have := h1 j hj; omega
theorem sumR_sub {l' l : List Kd} (h : l'.Sublist l) : (∀ k ∈ l, 0 ≤ k.r) → sumR l' ≤ sumR l := by
  induction h with
  | slnil => intro _; exact Int.le_refl _
  | cons a _ ih => intro hk; rw [sumR_cons]; have := ih (fun x hx => hk x (by simp [hx])); have := hk a (by simp); omega
  | cons_cons a _ ih => intro hk; rw [sumR_cons, sumR_cons]; have := ih (fun x hx => hk x (by simp [hx])); omega

/-- What a state of the pens keeps, as beasts come in. -/
structure okS (P : List Int) (st : List Int) : Prop where
  len : st.length = 10
  has : hasOk st
  free : ∀ i, i < P.length → st.getD (i * 2) 0 ≤ P.getD i 0
  pos : ∀ i, i < 5 → 0 ≤ st.getD (i * 2) 0
  off : offS P.length st
theorem putS_full {ap st s : List Int} {k : Kd} {i : Nat} (h : putS ap st k i = some s) : fullS ap st k i = false ∧ s = addS st k i := by
  unfold putS at h; split at h
  · cases h
  · rename_i hf; cases h; exact ⟨by simpa using hf, rfl⟩
theorem full_room {ap st : List Int} {k : Kd} {i : Nat} (h : fullS ap st k i = false) : k.r ≤ st.getD (i * 2) 0 ∧ band (st.getD (i * 2 + 1) 0) (ap.getD k.s.toNat 0) = 0 := by
  unfold fullS at h
  simp only [Bool.or_eq_false_iff, decide_eq_false_iff_not, bne_eq_false_iff_eq] at h
  exact ⟨by omega, h.2⟩
theorem okS.add {P ap st : List Int} {k : Kd} {i : Nat} (h5 : P.length ≤ 5) (h : okS P st) (hk : (1 ≤ k.s ∧ k.s ≤ 9) ∧ (1 ≤ k.r ∧ k.r ≤ 1000)) (hi : i < P.length) (hf : fullS ap st k i = false) : okS P (addS st k i) := by
  obtain ⟨hr, _⟩ := full_room hf
  refine ⟨by rw [addS_len]; exact h.len, hasOk_add h.has h.len (by omega) hk.1, fun j hj => ?_, fun j hj => ?_, offS_add h.off hi⟩
  · rw [add_free h.len (by omega) j (by omega)]
    split
    · rename_i e; subst e; have := h.free i hi; omega
    · exact h.free j hj
  · rw [add_free h.len (by omega) j hj]
    split
    · omega
    · exact h.pos j hj
theorem okS_0 {P : List Int} (h5 : P.length ≤ 5) (hP : psOk P = true) : okS P (st0 P) := by
  have key : ∀ k, k ≤ P.length → ∀ i, i < 5 → (emK P k).getD (i * 2) 0 = if i < k then P.getD i 0 else 0 := by
    intro k
    induction k with
    | zero =>
      intro _ i hi
      rw [if_neg (by omega)]
      rcases (by omega : i = 0 ∨ i = 1 ∨ i = 2 ∨ i = 3 ∨ i = 4) with rfl | rfl | rfl | rfl | rfl <;> rfl
    | succ k ih =>
      intro hk i hi
      rw [emK, getD_set, emK_len]
      by_cases e : k = i
      · subst e; rw [if_pos ⟨rfl, by omega⟩, if_pos (by omega)]
      · rw [if_neg (by omega), ih (by omega) i hi]
        by_cases e2 : i < k
        · rw [if_pos e2, if_pos (by omega)]
        · rw [if_neg e2, if_neg (by omega)]
  have hp : ∀ i, 0 ≤ P.getD i 0 := by
    intro i
    by_cases hi : i < P.length
    · have := List.all_eq_true.1 hP P[i] (List.getElem_mem hi)
      rw [show P.getD i 0 = P[i] by simp [hi]]
      exact (inB_iff.1 this).1
    · rw [List.getD_eq_getElem?_getD, List.getElem?_eq_none (by omega)]; exact Int.le_refl _
  refine ⟨st0_len P, st0_has, fun i hi => ?_, fun i hi => ?_, offS_0⟩
  · show (emK P P.length).getD (i * 2) 0 ≤ _
    rw [key _ (Nat.le_refl _) i (by omega), if_pos hi]; exact Int.le_refl _
  · show 0 ≤ (emK P P.length).getD (i * 2) 0
    rw [key _ (Nat.le_refl _) i hi]
    split
    · exact hp i
    · exact Int.le_refl _
/-- One beast of a run. -/
theorem run_cons {ap : List Int} {np : Nat} {k : Kd} {ks : List Kd} {p st : List Int} (h : (runP ap np (k :: ks) p st).isSome = true) : ∃ i q, i < np ∧ p = (i : Int) :: q ∧ fullS ap st k i = false ∧ (runP ap np ks q (addS st k i)).isSome = true := by
  cases p with
  | nil => simp [runP] at h
  | cons x p =>
    simp only [runP] at h
    split at h
    · rename_i hx
      have hx2 := inB_iff.1 hx
      cases hp : putS ap st k x.toNat with
      | none => rw [hp] at h; simp at h
      | some s1 =>
        rw [hp] at h
        obtain ⟨hf, rfl⟩ := putS_full hp
        exact ⟨x.toNat, p, by omega, by rw [show ((x.toNat : Nat) : Int) = x by omega], hf, h⟩
    · simp at h
/-- No beast is too big. -/
theorem run_big {P ap : List Int} (h5 : P.length ≤ 5) (ks : List Kd) : ∀ (st p : List Int), goodB ks → okS P st → (runP ap P.length ks p st).isSome = true → ∀ k ∈ ks, ∃ i, i < P.length ∧ k.r ≤ P.getD i 0 := by
  induction ks with
  | nil => intro st p _ _ _ k hk; simp at hk
  | cons a ks ih =>
    intro st p hg ho h k hk
    obtain ⟨i, q, hi, rfl, hf, h2⟩ := run_cons h
    rcases List.mem_cons.1 hk with rfl | hk
    · exact ⟨i, hi, by have := (full_room hf).1; have := ho.free i hi; omega⟩
    · exact ih _ _ (fun x hx => hg x (by simp [hx])) (ho.add h5 (hg a (by simp)) hi hf) h2 k hk
/-- They take no more room than there is. -/
theorem run_room {P ap : List Int} (h5 : P.length ≤ 5) (ks : List Kd) : ∀ (st p : List Int), goodB ks → okS P st → (runP ap P.length ks p st).isSome = true → sumR ks ≤ wt st := by
  induction ks with
  | nil =>
    intro st p _ ho _
    rw [sumR_nil]
    unfold wt
    have := ho.pos 0 (by omega); have := ho.pos 1 (by omega); have := ho.pos 2 (by omega); have := ho.pos 3 (by omega); have := ho.pos 4 (by omega)
    simp only [Nat.zero_mul, Nat.one_mul, Nat.reduceMul] at *
    omega
  | cons a ks ih =>
    intro st p hg ho h
    obtain ⟨i, q, hi, rfl, hf, h2⟩ := run_cons h
    have := ih _ _ (fun x hx => hg x (by simp [hx])) (ho.add h5 (hg a (by simp)) hi hf) h2
    rw [wt_add ho.len (by omega)] at this
    rw [sumR_cons]; omega
theorem wt_0 {P : List Int} (h5 : P.length ≤ 5) : wt (st0 P) = sumI P := by
  match P, h5 with
  | [], _ => rfl
  | [a], _ => simp [wt, st0, emK, ap0, sumI]
  | [a, b], _ => simp [wt, st0, emK, ap0, sumI]
  | [a, b, c], _ => simp [wt, st0, emK, ap0, sumI]
  | [a, b, c, d], _ => simp [wt, st0, emK, ap0, sumI]
  | [a, b, c, d, e], _ => simp [wt, st0, emK, ap0, sumI]
  | _ :: _ :: _ :: _ :: _ :: _ :: _, h => simp at h
/-- Each sort that stands anywhere must stand apart from those that come. -/
def farS (ap st : List Int) (ks : List Kd) : Prop := ∀ k ∈ ks, ∀ i, i < 5 → st.getD (i * 2 + 1) 0 ≠ 0 → band (st.getD (i * 2 + 1) 0) (ap.getD k.s.toNat 0) ≠ 0
theorem bit_ne {a b t : Int} (ha : 0 ≤ a ∧ a ≤ 1023) (hb : 0 ≤ b ∧ b ≤ 1023) (ht : 0 ≤ t ∧ t ≤ 9) (h1 : hasB a t = true) (h2 : hasB b t = true) : band a b ≠ 0 := by
  obtain ⟨x, rfl⟩ := Int.eq_ofNat_of_zero_le ha.1
  obtain ⟨y, rfl⟩ := Int.eq_ofNat_of_zero_le hb.1
  obtain ⟨n, rfl⟩ := Int.eq_ofNat_of_zero_le ht.1
  rw [hasB_nat _ _ (by omega) (by omega)] at h1 h2
  rw [band_nat _ _ (by omega), Nat.mod_eq_of_lt (by omega)]
  intro h0
  have : (x &&& y).testBit n = true := by rw [Nat.testBit_and, h1, h2]; rfl
  rw [show x &&& y = 0 by omega, Nat.zero_testBit] at this
  cases this
/-- They stand one in a pen, if each two must stand apart. -/
theorem run_far {P ap : List Int} (h5 : P.length ≤ 5) (hap : okA ap) (ks : List Kd) : ∀ (st p : List Int), goodB ks → okS P st → farS ap st ks → ks.Pairwise (fun a b => hasB (ap.getD b.s.toNat 0) a.s = true) → (runP ap P.length ks p st).isSome = true →
    usedS st + ks.length ≤ (P.length : Int) := by
  induction ks with
  | nil =>
    intro st p _ ho _ _ _
    have := usedK_off ho.off 5 (Nat.le_refl _)
    have h : usedS st ≤ ((min 5 P.length : Nat) : Int) := this
    simp only [List.length_nil]
    omega
  | cons a ks ih =>
    intro st p hg ho hfar hpw h
    obtain ⟨i, q, hi, rfl, hf, h2⟩ := run_cons h
    obtain ⟨hp1, hp2⟩ := List.pairwise_cons.1 hpw
    have hga := hg a (by simp)
    have hz : st.getD (i * 2 + 1) 0 = 0 := by
      by_cases e : st.getD (i * 2 + 1) 0 = 0
      · exact e
      · exact absurd (full_room hf).2 (hfar a (by simp) i (by omega) e)
    have hu := used_add (k := a) ho.has ho.len (i := i) (by omega) hga.1
    rw [if_neg (fun h => h hz)] at hu
    have hfar2 : farS ap (addS st a i) ks := by
      intro k hk j hj
      rw [add_has ho.len (by omega) j hj]
      split
      · intro _
        rw [hz]
        have hb := bor_bit (a := 0) (s := a.s) (t := a.s) (by omega) (by omega) (by omega)
        refine bit_ne hb.1 (hap _) (t := a.s) (by omega) ?_ (hp1 k hk)
        rw [hb.2]; simp
      · exact hfar k (by simp [hk]) j hj
    have := ih _ _ (fun x hx => hg x (by simp [hx])) (ho.add h5 hga hi hf) hfar2 hp2 h2
    rw [hu] at this
    rw [List.length_cons]
    omega
section
variable {P : List Int} {K : List Kd} {l : List Int}
theorem some_run (h0 : sE P K l = 0) (hpl : PL P K l ≠ []) {b : List Int} (hi : idxOk l.length b) (hr : risB b) : goodB (someL (bsL K l) b) ∧ ∃ q, (runP (apL K) P.length (someL (bsL K l) b) q (st0 P)).isSome = true := by
  obtain ⟨hy, h8, hlo⟩ := sE_0 h0
  obtain ⟨h5, hP, hK⟩ := yOk_k hy
  have hg := bsL_good hK hlo
  have hi2 : idxOk (bsL K l).length b := by rw [bsL_len]; exact hi
  obtain ⟨p, hp⟩ := (PL_ne h5).1 hpl
  exact ⟨someL_good hg hi2, sub_run h5 (apL_ok hK) (ris_sub _ b hi2 hr) hg _ _ p (dom_refl (st0 P)) st0_has st0_has (st0_len P) (st0_len P) hp⟩
theorem no_big (h0 : sE P K l = 0) (hpl : PL P K l ≠ []) {b : List Int} (hi : idxOk l.length b) (hr : risB b) : isBigB P (bsL K l) b = false := by
  obtain ⟨hy, h8, hlo⟩ := sE_0 h0
  obtain ⟨h5, hP, hK⟩ := yOk_k hy
  obtain ⟨hg, q, hq⟩ := some_run h0 hpl hi hr
  cases h : isBigB P (bsL K l) b with
  | false => rfl
  | true =>
    unfold isBigB at h
    simp only [Bool.and_eq_true, decide_eq_true_eq] at h
    obtain ⟨h1, h2⟩ := h
    obtain ⟨x, rfl⟩ : ∃ x, b = [x] := by
      match b, h1 with
      | [x], _ => exact ⟨x, rfl⟩
    obtain ⟨i, hi1, hi2⟩ := run_big h5 _ _ _ hg (okS_0 h5 hP) hq ((bsL K l).getD x.toNat kd0) (by simp [someL])
    unfold bigB at h2
    rw [Bool.not_eq_true', List.any_eq_false] at h2
    have := h2 P[i] (List.getElem_mem hi1)
    rw [show P.getD i 0 = P[i] by simp [hi1]] at hi2
    simp at this
    rw [List.getD_eq_getElem?_getD] at hi2
    omega
theorem no_over (h0 : sE P K l = 0) (hpl : PL P K l ≠ []) {b : List Int} (hi : idxOk l.length b) (hr : risB b) : overB P (bsL K l) b = false := by
  obtain ⟨hy, h8, hlo⟩ := sE_0 h0
  obtain ⟨h5, hP, hK⟩ := yOk_k hy
  obtain ⟨hg, q, hq⟩ := some_run h0 hpl hi hr
  have := run_room h5 _ _ _ hg (okS_0 h5 hP) hq
  rw [wt_0 h5] at this
  unfold overB
  simp; omega
theorem no_stuck (h0 : sE P K l = 0) (hpl : PL P K l ≠ []) {b : List Int} (hi : idxOk l.length b) (hr : risB b) : stuckB P (apL K) (bsL K l) b = false := by
  obtain ⟨hy, h8, hlo⟩ := sE_0 h0
  obtain ⟨h5, hP, hK⟩ := yOk_k hy
  obtain ⟨hg, q, hq⟩ := some_run h0 hpl hi hr
  have := (mem_plc h5 _ _ _ offS_0).2 hq
  unfold stuckB
  rw [Bool.not_eq_false', bne_iff_ne]
  intro h
  rw [h] at this; simp at this
theorem many_pw {np : Nat} {ap : List Int} {bs : List Kd} {b : List Int} (hb : ∀ i ∈ b, 0 ≤ i) (h : isManyB np ap bs b = true) : b.length = np + 1 ∧ (someL bs b).Pairwise (fun x y => hasB (ap.getD y.s.toNat 0) x.s = true) := by
  unfold isManyB at h
  simp only [Bool.and_eq_true, decide_eq_true_eq] at h
  obtain ⟨h1, h2⟩ := h
  refine ⟨h2, ?_⟩
  unfold someL
  rw [List.pairwise_map]
  refine List.pairwise_iff_getElem.2 fun i j hi hj hij => ?_
  have h3 := List.all_eq_true.1 h1 j (List.mem_range.2 hj)
  unfold isManyK apAll at h3
  have h4 := List.all_eq_true.1 h3 b[i] (List.mem_take_iff_getElem.2 ⟨i, by omega, rfl⟩)
  rw [show b.getD j 0 = b[j] by simp [hj]] at h4
  exact h4
theorem no_many (h0 : sE P K l = 0) (hpl : PL P K l ≠ []) {b : List Int} (hi : idxOk l.length b) (hr : risB b) : isManyB P.length (apL K) (bsL K l) b = false := by
  obtain ⟨hy, h8, hlo⟩ := sE_0 h0
  obtain ⟨h5, hP, hK⟩ := yOk_k hy
  obtain ⟨hg, q, hq⟩ := some_run h0 hpl hi hr
  cases h : isManyB P.length (apL K) (bsL K l) b with
  | false => rfl
  | true =>
    obtain ⟨h1, h2⟩ := many_pw (fun i hi2 => (hi i hi2).1) h
    have hfar : farS (apL K) (st0 P) (someL (bsL K l) b) := by
      intro k _ i hi2 hne
      exact absurd (st0_zero i hi2) hne
    have := run_far h5 (apL_ok hK) _ _ _ hg (okS_0 h5 hP) hfar h2 hq
    rw [st0_used, someL_len, h1] at this
    omega
end
end Go.Proofs.YtaieidigpilbfaaGreat

namespace Go.Proofs.YtaieidigpilbfaaGreat
open Go Go.RowKit
set_option maxRecDepth 100000

/-- What is so of some is so of more. -/
def upB (f : List Int → Bool) (n : Nat) : Prop := ∀ a b, idxOk n b → a.Sublist b → f a = true → f b = true
theorem idxOk_sub {n : Nat} {a b : List Int} (h : idxOk n b) (hs : a.Sublist b) : idxOk n a := fun i hi => h i (hs.mem hi)
theorem rngI_ris (n : Nat) : risB (rngI n) := by
  unfold risB rngI
  rw [List.pairwise_map]
  exact List.pairwise_lt_range.imp fun {a b} h => by omega
theorem erase_app (a T : List Int) (j : Nat) : (a ++ T).eraseIdx (a.length + j) = a ++ T.eraseIdx j := by
  rw [List.eraseIdx_append_of_length_le (by omega), Nat.add_sub_cancel_left]
theorem leastK_shape {f : List Int → Bool} {n : Nat} (hup : upB f n) (h0 : f (rngI n) = true) : ∀ k, k ≤ n → ∃ T, leastK f n k = rngI (n - k) ++ T ∧ (leastK f n k).Sublist (rngI n) ∧ f (leastK f n k) = true ∧ ∀ j, j < T.length → f (rngI (n - k) ++ T.eraseIdx j) = false := by
  intro k
  induction k with
  | zero => intro _; exact ⟨[], by simp [leastK], by rw [leastK]; exact List.Sublist.refl _, by rw [leastK]; exact h0, fun j hj => by simp at hj⟩
  | succ k ih =>
    intro hk
    obtain ⟨T, h1, h2, h3, h4⟩ := ih (by omega)
    obtain ⟨m, hm⟩ : ∃ m, n - k = m + 1 := ⟨n - k - 1, by omega⟩
    have hm2 : n - (k + 1) = m := by omega
    have hm3 : n - 1 - k = m := by omega
    rw [hm] at h1 h4
    rw [leastK, hm2, hm3]
    have e : (leastK f n k).eraseIdx m = rngI m ++ T := by
      rw [h1, rngI_succ, List.append_assoc]
      have := erase_app (rngI m) ([(m : Int)] ++ T) 0
      rw [rngI_len, Nat.add_zero] at this
      rw [this]; rfl
    rw [e]
    by_cases hf : f (rngI m ++ T) = true
    · rw [if_pos hf]
      refine ⟨T, rfl, ?_, hf, fun j hj => ?_⟩
      · rw [← e]; exact (List.eraseIdx_sublist _ _).trans h2
      · have h5 := h4 j hj
        rw [Bool.eq_false_iff] at h5 ⊢
        intro h6
        refine h5 (hup _ _ ?_ ?_ h6)
        · refine idxOk_sub (rngI_ok n) (List.Sublist.trans ?_ (h1 ▸ h2))
          exact (List.Sublist.refl _).append (List.eraseIdx_sublist _ _)
        · rw [rngI_succ, List.append_assoc]
          exact (List.Sublist.refl _).append (List.sublist_append_right _ _)
    · rw [if_neg hf]
      refine ⟨(m : Int) :: T, ?_, h2, h3, fun j hj => ?_⟩
      · rw [h1, rngI_succ, List.append_assoc]; rfl
      · cases j with
        | zero => show f (rngI m ++ T) = false; simpa using hf
        | succ j =>
          have := h4 j (by simpa using hj)
          rw [rngI_succ, List.append_assoc] at this
          exact this
theorem least_is {f : List Int → Bool} {n : Nat} (hup : upB f n) (h0 : f (rngI n) = true) (hn : f [] = false) : isLeastB f (leastL f n) = true ∧ (leastL f n).Sublist (rngI n) ∧ leastL f n ≠ [] := by
  obtain ⟨T, h1, h2, h3, h4⟩ := leastK_shape hup h0 n (Nat.le_refl _)
  rw [Nat.sub_self] at h1 h4
  have e : leastL f n = leastK f n n := by unfold leastL; rw [if_pos h0]
  rw [e]
  have e2 : leastK f n n = T := by rw [h1]; rfl
  refine ⟨?_, h2, ?_⟩
  · rw [isLeast_end, h3]
    intro i hi
    rw [e2] at hi ⊢
    exact h4 i hi
  · intro h; rw [h, hn] at h3; cases h3
theorem least_nil {f : List Int → Bool} {n : Nat} (h0 : f (rngI n) = false) : leastL f n = [] := by unfold leastL; rw [if_neg (by simp [h0])]

theorem someL_sub {bs : List Kd} {a b : List Int} (h : a.Sublist b) : (someL bs a).Sublist (someL bs b) := h.map _
theorem someL_rng (bs : List Kd) : someL bs (rngI bs.length) = bs := by
  apply List.ext_getElem
  · rw [someL_len, rngI_len]
  · intro i h1 h2
    simp [someL, rngI, h2]
theorem over_up {P : List Int} {bs : List Kd} (hg : goodB bs) : upB (overB P bs) bs.length := by
  intro a b hb hs h
  unfold overB at h ⊢
  simp only [decide_eq_true_eq] at h ⊢
  have := sumR_sub (someL_sub (bs := bs) hs) (fun k hk => by have := someL_good hg hb k hk; omega)
  omega
theorem stuck_iff {P ap : List Int} {bs : List Kd} (h5 : P.length ≤ 5) {b : List Int} : stuckB P ap bs b = false ↔ ∃ q, (runP ap P.length (someL bs b) q (st0 P)).isSome = true := by
  unfold stuckB
  rw [Bool.not_eq_false', bne_iff_ne]
  constructor
  · intro h
    obtain ⟨p, hp⟩ := List.exists_mem_of_ne_nil _ h
    exact ⟨p, (mem_plc h5 _ _ _ offS_0).1 hp⟩
  · rintro ⟨q, hq⟩ h
    have := (mem_plc h5 _ _ _ offS_0).2 hq
    rw [h] at this; simp at this
theorem stuck_up {P ap : List Int} {bs : List Kd} (h5 : P.length ≤ 5) (hap : okA ap) (hg : goodB bs) : upB (stuckB P ap bs) bs.length := by
  intro a b hb hs h
  cases h2 : stuckB P ap bs b with
  | true => rfl
  | false =>
    obtain ⟨q, hq⟩ := (stuck_iff h5).1 h2
    have := sub_run h5 hap (someL_sub (bs := bs) hs) (someL_good hg hb) _ _ q (dom_refl (st0 P)) st0_has st0_has (st0_len P) (st0_len P) hq
    rw [(stuck_iff h5).2 this] at h; cases h
theorem big_some {P : List Int} {bs : List Kd} : ∀ f i, bigK P bs f i ≠ [] → ∃ j, i ≤ j ∧ j < i + f ∧ bigK P bs f i = [(j : Int)] ∧ bigB P bs j = true := by
  intro f
  induction f with
  | zero => intro i h; exact absurd rfl h
  | succ f ih =>
    intro i h
    rw [bigK] at h ⊢
    by_cases hb : bigB P bs i = true
    · rw [if_pos hb]; exact ⟨i, Nat.le_refl _, by omega, rfl, hb⟩
    · rw [if_neg hb] at h ⊢
      obtain ⟨j, a1, a2, a3, a4⟩ := ih (i + 1) h
      exact ⟨j, by omega, by omega, a3, a4⟩
theorem crowd_some2 {np : Nat} {ap : List Int} {bs : List Kd} : ∀ f b i, (∀ k, k < b.length → isManyK ap bs b k = true) → b.length ≤ np + 1 → risB b → idxOk i b → crowdL np ap bs f b i ≠ [] →
    isManyB np ap bs (crowdL np ap bs f b i) = true ∧ risB (crowdL np ap bs f b i) ∧ idxOk (i + f) (crowdL np ap bs f b i) := by
  intro f
  have leaf : ∀ (f : Nat) (b : List Int) (i : Nat), (∀ k, k < b.length → isManyK ap bs b k = true) → b.length ≤ np + 1 → risB b → idxOk i b → np < b.length → isManyB np ap bs b = true ∧ risB b ∧ idxOk (i + f) b := by
    intro f b i h1 h2 h3 h4 h5
    refine ⟨?_, h3, fun x hx => by have := h4 x hx; omega⟩
    unfold isManyB
    rw [Bool.and_eq_true]
    exact ⟨List.all_eq_true.2 fun k hk => h1 k (List.mem_range.1 hk), by simp; omega⟩
  induction f with
  | zero =>
    intro b i h1 h2 h3 h4 h
    by_cases hn : np < b.length
    · rw [crowd_over hn]; exact leaf 0 b i h1 h2 h3 h4 hn
    · rw [crowd_zero hn] at h; exact absurd rfl h
  | succ f ih =>
    intro b i h1 h2 h3 h4 h
    by_cases hn : np < b.length
    · rw [crowd_over hn]; exact leaf _ b i h1 h2 h3 h4 hn
    · have h4' : idxOk (i + 1) b := fun x hx => by have := h4 x hx; omega
      have ee : i + 1 + f = i + (f + 1) := by omega
      by_cases ha : apAll ap bs i b = true
      · cases hc : crowdL np ap bs f (b ++ [(i : Int)]) (i + 1) with
        | nil =>
          rw [crowd_none hn ha hc] at h ⊢
          rw [← ee]
          exact ih b (i + 1) h1 h2 h3 h4' h
        | cons x t =>
          rw [crowd_some hn ha hc, ← hc, ← ee]
          refine ih _ _ ?_ ?_ ?_ ?_ (by rw [hc]; simp)
          · intro k hk
            rw [List.length_append, List.length_singleton] at hk
            unfold isManyK
            by_cases e : k = b.length
            · subst e
              rw [show (b ++ [(i : Int)]).getD b.length 0 = (i : Int) by simp, List.take_left' rfl]
              exact ha
            · rw [show (b ++ [(i : Int)]).getD k 0 = b.getD k 0 by simp [List.getD_eq_getElem?_getD, List.getElem?_append_left (show k < b.length by omega)], List.take_append_of_le_length (by omega)]
              exact h1 k (by omega)
          · rw [List.length_append, List.length_singleton]; omega
          · unfold risB
            rw [List.pairwise_append]
            refine ⟨h3, List.pairwise_singleton _ _, fun x hx y hy => ?_⟩
            rw [List.mem_singleton] at hy
            subst hy
            exact (h4 x hx).2
          · exact idxOk_snoc h4' (by omega)
      · have ha' : apAll ap bs i b = false := by simpa using ha
        rw [crowd_skip hn ha'] at h ⊢
        rw [← ee]
        exact ih b (i + 1) h1 h2 h3 h4' h

/-- Rising indices of so many, at least one. -/
def risP (n : Nat) (b : List Int) (k : Nat) : Bool := inB (b.getD k 0) 0 ((n : Int) - 1) && (k == 0 || decide (b.getD (k - 1) 0 < b.getD k 0))
def risK (n : Nat) (b : List Int) : Nat → Bool
  | 0 => decide (0 < b.length)
  | k + 1 => risK n b k && risP n b k
def risC (n : Nat) (b : List Int) : Bool := risK n b b.length
theorem risK_iff {n : Nat} {b : List Int} : ∀ k, risK n b k = true ↔ 0 < b.length ∧ ∀ j, j < k → risP n b j = true := by
  intro k
  induction k with
  | zero => simp [risK]
  | succ k ih =>
    rw [risK, Bool.and_eq_true, ih]
    constructor
    · rintro ⟨⟨h1, h2⟩, h3⟩
      refine ⟨h1, fun j hj => ?_⟩
      by_cases e : j = k
      · subst e; exact h3
      · exact h2 j (by omega)
    · rintro ⟨h1, h2⟩
      exact ⟨⟨h1, fun j hj => h2 j (by omega)⟩, h2 k (by omega)⟩
theorem risC_iff {n : Nat} {b : List Int} : risC n b = true ↔ b ≠ [] ∧ idxOk n b ∧ risB b := by
  unfold risC
  rw [risK_iff]
  constructor
  · rintro ⟨h1, h2⟩
    refine ⟨fun h => by subst h; simp at h1, fun x hx => ?_, List.pairwise_iff_getElem.2 fun i j hi hj hij => ?_⟩
    · obtain ⟨j, hj, rfl⟩ := List.mem_iff_getElem.1 hx
      have := h2 j hj
      unfold risP at this
      rw [Bool.and_eq_true, inB_iff, show b.getD j 0 = b[j] by simp [hj]] at this
      omega
    · induction j with
      | zero => omega
      | succ j ih =>
        have := h2 (j + 1) hj
        unfold risP at this
        simp only [Bool.and_eq_true, Bool.or_eq_true, decide_eq_true_eq, beq_iff_eq, Nat.add_sub_cancel] at this
        have hs : b.getD j 0 < b.getD (j + 1) 0 := by
          rcases this.2 with h | h
          · omega
          · exact h
        rw [show b.getD j 0 = b[j]'(by omega) by simp [show j < b.length by omega], show b.getD (j + 1) 0 = b[j + 1] by simp [hj]] at hs
        by_cases e : i = j
        · subst e; exact hs
        · have := ih (by omega) (by omega); omega
  · rintro ⟨h1, h2, h3⟩
    refine ⟨List.length_pos_iff.2 h1, fun j hj => ?_⟩
    unfold risP
    rw [Bool.and_eq_true, inB_iff, show b.getD j 0 = b[j] by simp [hj]]
    have := h2 b[j] (List.getElem_mem hj)
    refine ⟨by omega, ?_⟩
    rw [Bool.or_eq_true, decide_eq_true_eq, beq_iff_eq]
    by_cases e : j = 0
    · exact .inl e
    · right
      have := List.pairwise_iff_getElem.1 h3 (j - 1) j (by omega) hj (by omega)
      rw [show b.getD (j - 1) 0 = b[j - 1]'(by omega) by simp [show j - 1 < b.length by omega]]
      exact this
/-- A list is a reason of a kind. -/
def isKB (P ap : List Int) (bs : List Kd) (b : List Int) : Nat → Bool
  | 0 => isBigB P bs b
  | 1 => isLeastB (overB P bs) b
  | 2 => isManyB P.length ap bs b
  | _ => isLeastB (stuckB P ap bs) b
def rsnB (P : List Int) (K : List Kd) (l : List Int) (kd : Int) (b : List Int) : Bool := inB kd 1 4 && isKB P (apL K) (bsL K l) b (kd - 1).toNat
def rsnE (P : List Int) (K : List Kd) (l : List Int) (kd : Int) (b : List Int) : Int := if sE P K l = 0 then (if risC l.length b = true then err (rsnB P K l kd b) 54 else 54) else sE P K l
section
variable {P : List Int} {K : List Kd} {l : List Int}
theorem rsnE_0 {kd : Int} {b : List Int} (h0 : sE P K l = 0) : rsnE P K l kd b = 0 ↔ risC l.length b = true ∧ rsnB P K l kd b = true := by
  unfold rsnE
  rw [if_pos h0]
  by_cases h : risC l.length b = true
  · rw [if_pos h]
    cases h2 : rsnB P K l kd b
    · rw [err_f _ rfl]; simp
    · rw [err_t _ rfl]; simp [h]
  · rw [if_neg h]; simp [h]
/-- Where a reason is accepted there is no placement. -/
theorem rsn_pl {kd : Int} {b : List Int} (h0 : sE P K l = 0) (h : rsnE P K l kd b = 0) : PL P K l = [] := by
  obtain ⟨h1, h2⟩ := (rsnE_0 h0).1 h
  obtain ⟨hne, hi, hr⟩ := risC_iff.1 h1
  cases hp : PL P K l with
  | nil => rfl
  | cons x t =>
    have hpl : PL P K l ≠ [] := by rw [hp]; simp
    unfold rsnB at h2
    rw [Bool.and_eq_true, inB_iff] at h2
    obtain ⟨h3, h4⟩ := h2
    rcases (by omega : kd = 1 ∨ kd = 2 ∨ kd = 3 ∨ kd = 4) with rfl | rfl | rfl | rfl
    · have := no_big h0 hpl hi hr
      rw [show isKB P (apL K) (bsL K l) b ((1 : Int) - 1).toNat = isBigB P (bsL K l) b from rfl, this] at h4; cases h4
    · have := no_over h0 hpl hi hr
      rw [show isKB P (apL K) (bsL K l) b ((2 : Int) - 1).toNat = isLeastB (overB P (bsL K l)) b from rfl] at h4
      unfold isLeastB at h4
      rw [Bool.and_eq_true, this] at h4; cases h4.2
    · have := no_many h0 hpl hi hr
      rw [show isKB P (apL K) (bsL K l) b ((3 : Int) - 1).toNat = isManyB P.length (apL K) (bsL K l) b from rfl, this] at h4; cases h4
    · have := no_stuck h0 hpl hi hr
      rw [show isKB P (apL K) (bsL K l) b ((4 : Int) - 1).toNat = isLeastB (stuckB P (apL K) (bsL K l)) b from rfl] at h4
      unfold isLeastB at h4
      rw [Bool.and_eq_true, this] at h4; cases h4.2
theorem firstL_cons {n : Int} {x : List Int} {r : List (List Int)} (h : x ≠ []) : firstL n (x :: r) = (n, x) := by
  cases x with
  | nil => exact absurd rfl h
  | cons a t => rfl
theorem firstL_nil {n : Int} {r : List (List Int)} : firstL n ([] :: r) = firstL (n + 1) r := rfl
/-- Where there is no placement the reason that is told is accepted. -/
theorem why_rsn (h0 : sE P K l = 0) (hp : PL P K l = []) : (whyP P K l).2 ≠ [] ∧ rsnE P K l (whyP P K l).1 (whyP P K l).2 = 0 := by
  obtain ⟨hy, h8, hlo⟩ := sE_0 h0
  obtain ⟨h5, hP, hK⟩ := yOk_k hy
  have hg := bsL_good hK hlo
  have hbl := bsL_len K l
  have key : ∀ (j : Nat) (b : List Int), j < 4 → b ≠ [] → idxOk l.length b → risB b → isKB P (apL K) (bsL K l) b j = true → rsnE P K l ((j : Int) + 1) b = 0 := by
    intro j b hj h1 h2 h3 h4
    rw [rsnE_0 h0]
    refine ⟨risC_iff.2 ⟨h1, h2, h3⟩, ?_⟩
    unfold rsnB
    rw [Bool.and_eq_true, inB_iff, show ((j : Int) + 1 - 1).toNat = j by omega]
    exact ⟨by omega, h4⟩
  unfold whyP findsL
  by_cases c1 : findBigL P (bsL K l) = []
  rotate_left
  · rw [firstL_cons c1]
    refine ⟨c1, ?_⟩
    obtain ⟨j, a1, a2, a3, a4⟩ := big_some _ _ c1
    have e : findBigL P (bsL K l) = [(j : Int)] := a3
    rw [e]
    refine key 0 _ (by omega) (by simp) (fun x hx => ?_) (List.pairwise_singleton _ _) ?_
    · rw [List.mem_singleton] at hx; subst hx; omega
    · show isBigB P (bsL K l) [(j : Int)] = true
      unfold isBigB; simpa using a4
  rw [c1, firstL_nil]
  have hup1 := over_up (P := P) hg
  have hup2 := stuck_up (P := P) h5 (apL_ok hK) hg
  by_cases c2 : findMuchL P (bsL K l) = []
  rotate_left
  · rw [firstL_cons c2]
    refine ⟨c2, ?_⟩
    have hr : overB P (bsL K l) (rngI (bsL K l).length) = true := by
      cases h : overB P (bsL K l) (rngI (bsL K l).length) with
      | true => rfl
      | false => exact absurd (least_nil h) c2
    have hn : overB P (bsL K l) [] = false := by
      have := sumI_in hP h5 P.length
      rw [List.take_length] at this
      unfold overB someL
      rw [List.map_nil, sumR_nil]; simp; omega
    obtain ⟨b1, b2, b3⟩ := least_is hup1 hr hn
    refine key 1 _ (by omega) c2 ?_ ((rngI_ris _).sublist b2) b1
    have := idxOk_sub (rngI_ok (bsL K l).length) b2
    have h6 : idxOk (bsL K l).length (findMuchL P (bsL K l)) := this
    rw [hbl] at h6; exact h6
  rw [c2, firstL_nil]
  by_cases c3 : findManyL P (apL K) (bsL K l) = []
  rotate_left
  · rw [firstL_cons c3]
    refine ⟨c3, ?_⟩
    obtain ⟨b1, b2, b3⟩ := crowd_some2 (bsL K l).length [] 0 (fun k hk => by simp at hk) (by simp) List.Pairwise.nil (fun x hx => by cases hx) c3
    refine key 2 _ (by omega) c3 ?_ b2 b1
    have h6 : idxOk (0 + (bsL K l).length) (findManyL P (apL K) (bsL K l)) := b3
    rw [Nat.zero_add, hbl] at h6; exact h6
  rw [c3, firstL_nil]
  have hr : stuckB P (apL K) (bsL K l) (rngI (bsL K l).length) = true := by
    unfold stuckB
    rw [someL_rng]
    have : plc (apL K) P.length P.length (bsL K l) (st0 P) = [] := hp
    rw [this]; rfl
  have hn : stuckB P (apL K) (bsL K l) [] = false := by unfold stuckB someL; simp [plc]
  obtain ⟨b1, b2, b3⟩ := least_is hup2 hr hn
  have c4 : findTightL P (apL K) (bsL K l) ≠ [] := b3
  rw [firstL_cons c4]
  refine ⟨c4, ?_⟩
  refine key 3 _ (by omega) c4 ?_ ((rngI_ris _).sublist b2) b1
  have h6 : idxOk (bsL K l).length (findTightL P (apL K) (bsL K l)) := idxOk_sub (rngI_ok (bsL K l).length) b2
  rw [hbl] at h6; exact h6
end
end Go.Proofs.YtaieidigpilbfaaGreat

