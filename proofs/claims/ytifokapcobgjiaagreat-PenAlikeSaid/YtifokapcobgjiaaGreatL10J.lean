/- PenAlike: whatever the yard, the beasts and the three numbers, the law returns true, and its arguments read as before. No condition. -/
import Derived.Test.YtifokapcobgjiaaGreatJj
import Derived.Test.YtifokapcobgjiaaGreatJk
import Derived.Test.YtifokapcobgjiaaGreatJn
import Derived.Test.YtifokapcobgjiaaGreatJo
import Derived.Test.YtifokapcobgjiaaGreatJw
set_option linter.unusedVariables false
set_option linter.unusedSimpArgs false
set_option linter.unusedSectionVars false
namespace Go.Proofs.YtifokapcobgjiaaGreat
open Go Go.ChangeShapes Go.WideShapes Go.RowKit Go.Deep
set_option maxHeartbeats 4000000
set_option maxRecDepth 100000

/-- The first k beasts, from the j-th on and around. -/
def rotK (l : List Int) (j : Nat) : Nat → List Int
  | 0 => []
  | k + 1 => rotK l j k ++ [l.getD ((k + j) % l.length) 0]
theorem rotK_len (l : List Int) (j k : Nat) : (rotK l j k).length = k := by
  induction k with
  | zero => rfl
  | succ k ih => rw [rotK, List.length_append, ih]; rfl
theorem rotK_at (l : List Int) (j : Nat) : ∀ k i, i < k → (rotK l j k)[i]? = some (l.getD ((i + j) % l.length) 0) := by
  intro k
  induction k with
  | zero => intro i h; omega
  | succ k ih =>
    intro i h
    rw [rotK]
    by_cases e : i < k
    · rw [List.getElem?_append_left (by rw [rotK_len]; exact e), ih i e]
    · obtain rfl : i = k := by omega
      rw [List.getElem?_append_right (by rw [rotK_len]; exact Nat.le_refl _), rotK_len, Nat.sub_self]; rfl
theorem rotK_eq {l : List Int} {j : Nat} (hj : j < l.length) : rotK l j l.length = l.drop j ++ l.take j := by
  apply List.ext_getElem?
  intro i
  by_cases hi : i < l.length
  · rw [rotK_at l j _ i hi]
    by_cases h : i < l.length - j
    · rw [List.getElem?_append_left (by simp; omega), List.getElem?_drop, Nat.mod_eq_of_lt (by omega), Nat.add_comm]
      simp [show j + i < l.length by omega]
    · rw [List.getElem?_append_right (by simp; omega), List.length_drop, List.getElem?_take_of_lt (by omega)]
      have e : (i + j) % l.length = i - (l.length - j) := by
        rw [Nat.mod_eq_sub_mod (by omega), Nat.mod_eq_of_lt (by omega)]; omega
      rw [e]
      simp [show i - (l.length - j) < l.length by omega]
  · rw [List.getElem?_eq_none (by rw [rotK_len]; omega), List.getElem?_eq_none (by simp; omega)]
theorem rotK_perm {l : List Int} {j : Nat} (hj : j < l.length) : (rotK l j l.length).Perm l := by
  rw [rotK_eq hj]
  exact (List.perm_append_comm).trans (by rw [List.take_append_drop])
theorem cnt_alike {P : List Int} {K : List Kd} {l t : List Int} (h0 : sE P K l = 0) (hp : t.Perm l) : cntN P K t = cntN P K l ∧ sE P K t = 0 := by
  obtain ⟨hy, h8, hlo⟩ := sE_0 h0
  obtain ⟨h5, hP, hK⟩ := yOk_k hy
  have ht : sE P K t = 0 := sE_mk hy (by rw [hp.length_eq]; exact h8) (by unfold lOk at hlo ⊢; rw [hp.all_eq]; exact hlo)
  refine ⟨?_, ht⟩
  unfold cntN
  rw [if_pos ht, if_pos h0, PL_perm h5 hK hlo hp.symm]
theorem OI.isN {w : World} {base n c : Nat} {A : Option Addr} {l : List Int} (h : OI w base (.slice A n c) l) : Is w A n l := by
  obtain ⟨A2, c2, e2, -, his, -⟩ := h.is
  cases e2
  exact his
theorem is_at {w : World} {b o n : Nat} {l : List Int} (h : Is w (some ⟨b, o, none⟩) n l) {i : Nat} (hi : i < l.length) : w.cell? ⟨b, o + i, none⟩ = some (.int .i64 l[i]) ∧ b < w.heap.size := by
  obtain ⟨b2, o2, e, h1, h2⟩ := h.get i hi
  cases e
  exact ⟨h2, h1⟩
section
variable (A : Option Addr) (n c : Nat) (P : List Int) (B : Option Addr) (m d : Nat) (K : List Kd) (L : Option Addr) (r s : Nat) (l : List Int) (n0 n1 n2 : Int) (w : World) (hp : Is w A n P) (hg : Ks w B m K) (hl : Is w L r l)
include hp hg hl
theorem penAlike_no (h0 : sE P K l ≠ 0) :
    Calls Tryz.prog 10 #[.agg #[.slice A n c, .slice B m d], .slice L r s, .agg #[.int .i64 n0, .int .i64 n1, .int .i64 n2]] w fun e w' => e = .returned (.bool true) ∧ Below w.heap.size w w' := by
  have Hp := Lib.hid hp; have Hg := Lib.hid hg; have Hl := Lib.hid hl
  have HR : Hid ((sE P K l == 0) = false) := Lib.hid (by simpa using h0)
  clear hp hg hl h0
  go_enter Tryz.func10, Tryz.ntmps10
  go_upto_region 1 with fail
  generalize hW : (World.alloc _ _) = W
  have HB : Hid (Below w.heap.size w W) := Lib.hid (by subst hW; go_grown)
  have KY : Bx W (w.heap.size) 25 [.slice A n c, .slice B m d] := by subst hW; repeat (first | (refine Bx.newAt _ _ _ ?_; first | rfl | (simp only [World.size_alloc]; done) | (simp only [World.size_alloc]; omega)) | refine Bx.old ?_ _)
  have KS : Bx W (w.heap.size + 1) 69 [.int .i64 n0, .int .i64 n1, .int .i64 n2] := by subst hW; repeat (first | (refine Bx.newAt _ _ _ ?_; first | rfl | (simp only [World.size_alloc]; done) | (simp only [World.size_alloc]; omega)) | refine Bx.old ?_ _)
  clear hW
  have KYl := KY.lt; have KYc := KY.get; have KYf := KY.fr; have KSl := KS.lt; have KSc := KS.get; have KSf := KS.fr
  go_wp2_with (first
    | (go_at_call 58; refine (right_any A n c P B m d K L r s l _ (Hp.out.keep HB.out) (Hg.out.keep HB.out) (Hl.out.keep HB.out)).mono ?_; rintro e X ⟨rfl, hbx⟩; rw [HR.out]; clear KYl KYc KYf; replace KY := KY.keep hbx; have KYl := KY.lt; have KYc := KY.get; have KYf := KY.fr; clear KSl KSc KSf; replace KS := KS.keep hbx; have KSl := KS.lt; have KSc := KS.get; have KSf := KS.fr; replace HB := Lib.hid (up HB.out hbx); clear hbx)
    | (go_at_call 22; refine (sane_any _).mono ?_; rintro e X2 ⟨rfl, hbx⟩; clear KYl KYc KYf; replace KY := KY.keep hbx; have KYl := KY.lt; have KYc := KY.get; have KYf := KY.fr; clear KSl KSc KSf; replace KS := KS.keep hbx; have KSl := KS.lt; have KSc := KS.get; have KSf := KS.fr; replace HB := Lib.hid (up HB.out hbx); clear hbx))
  go_ret
  exact ⟨rfl, HB.out⟩
theorem penAlike_yes (h0 : sE P K l = 0) (E CN : Int) (T : List Int) (hE : nthE P K l 0 53 = E) (hT : nthL P K l 0 = T) (hC : cntN P K l = CN)
    (hcase : (E = 53 ∧ CN = 0) ∨ (E = 0 ∧ CN ≠ 0 ∧ T.length = l.length ∧ plE P K l T = 0)) :
    Calls Tryz.prog 10 #[.agg #[.slice A n c, .slice B m d], .slice L r s, .agg #[.int .i64 n0, .int .i64 n1, .int .i64 n2]] w fun e w' => e = .returned (.bool true) ∧ Below w.heap.size w w' := by
  have Hr : Hid (r = l.length) := Lib.hid hl.len
  have hr8 : r ≤ 8 := by rw [hl.len]; exact (sE_0 h0).2.1
  have Hp := Lib.hid hp; have Hg := Lib.hid hg; have Hl := Lib.hid hl; have H0 := Lib.hid h0
  have HR : Hid ((sE P K l == 0) = true) := Lib.hid (by simpa using h0)
  have HE := Lib.hid hE; have HT := Lib.hid hT; have HC := Lib.hid hC; have Hcase := Lib.hid hcase
  clear hp hg hl h0 hE hT hC hcase
  obtain ⟨j, hj0⟩ : ∃ j, (modI n0 r).toNat = j := ⟨_, rfl⟩
  have Hj : Hid (0 < r → modI n0 r = (j : Int) ∧ j < r) := Lib.hid (fun h => by
    obtain ⟨h1, h2⟩ := modI_in (n := n0) (m := (r : Int)) (by omega)
    omega)
  clear hj0
  have Hperm : Hid (∀ j, 0 < r → (j : Nat) < r → (rotK l j r).Perm l) := Lib.hid (fun j _ h => by rw [Hr.out]; exact rotK_perm (by rw [← Hr.out]; exact h))
  go_enter Tryz.func10, Tryz.ntmps10
  go_upto_region 1 with fail
  generalize hW : (World.alloc _ _) = W
  have HB : Hid (Below w.heap.size w W) := Lib.hid (by subst hW; go_grown)
  have KY : Bx W (w.heap.size) 25 [.slice A n c, .slice B m d] := by subst hW; repeat (first | (refine Bx.newAt _ _ _ ?_; first | rfl | (simp only [World.size_alloc]; done) | (simp only [World.size_alloc]; omega)) | refine Bx.old ?_ _)
  have KS : Bx W (w.heap.size + 1) 69 [.int .i64 n0, .int .i64 n1, .int .i64 n2] := by subst hW; repeat (first | (refine Bx.newAt _ _ _ ?_; first | rfl | (simp only [World.size_alloc]; done) | (simp only [World.size_alloc]; omega)) | refine Bx.old ?_ _)
  clear hW
  have KYl := KY.lt; have KYc := KY.get; have KYf := KY.fr; have KSl := KS.lt; have KSc := KS.get; have KSf := KS.fr
  go_upto_region 3 with (go_at_call 58; refine (right_any A n c P B m d K L r s l _ (Hp.out.keep HB.out) (Hg.out.keep HB.out) (Hl.out.keep HB.out)).mono ?_; rintro e X ⟨rfl, hbx⟩; rw [HR.out]; clear KYl KYc KYf; replace KY := KY.keep hbx; have KYl := KY.lt; have KYc := KY.get; have KYf := KY.fr; clear KSl KSc KSf; replace KS := KS.keep hbx; have KSl := KS.lt; have KSc := KS.get; have KSf := KS.fr; replace HB := Lib.hid (up HB.out hbx); clear hbx)
  go_upto_region 5 with (go_at_call 25; refine (Count_any A n c P B m d K L r s l _ (Hp.out.keep HB.out) (Hg.out.keep HB.out) (Hl.out.keep HB.out)).mono ?_; rintro e X1 ⟨rfl, hbx⟩; rw [HC.out, H0.out]; clear KYl KYc KYf; replace KY := KY.keep hbx; have KYl := KY.lt; have KYc := KY.get; have KYf := KY.fr; clear KSl KSc KSf; replace KS := KS.keep hbx; have KSl := KS.lt; have KSc := KS.get; have KSf := KS.fr; replace HB := Lib.hid (up HB.out hbx); clear hbx)
  go_upto_region 6 with fail
  clear KYl KYc KYf KSl KSc KSf
  have hsX := HB.out.size
  go_loopw [9, 34] (fun v i wr => ∃ (k : Nat), k ≤ r ∧ i = .int .i64 k ∧ OI wr X1.heap.size v (rotK l j k) ∧ Below X1.heap.size X1 wr) (fun _ i _ => r - (intOf i).toNat)
  case atStart => exact ⟨0, by omega, rfl, OI.nil _ _, Below.refl _ _⟩
  case round =>
    obtain ⟨k, hk, rfl, ho, hb⟩ := hrel
    have HBb := Lib.hid hb; have HO1 := Lib.hid ho
    have KYw := KY.keep hb; have KSw := KS.keep hb
    have HBw := Lib.hid (up HB.out hb)
    obtain ⟨A1, c1, rfl⟩ := ho.shape
    have hsw := hb.size
    have hln : (rotK l j k).length ≤ k := Nat.le_of_eq (rotK_len l j k)
    clear hb ho
    by_cases hlt : k < r
    · have hr0 : (0 : Int) < (r : Int) := by omega
      have hjr := (Hj.out (by omega)).2
      have hr6 : (r : Int) ≤ 1000000 := by omega
      have hne : ((r : Int) == 0) = false := by simp; omega
      have e1 : IntKind.i64.wrap ((k : Int) + (j : Int)) = ((k + j : Nat) : Int) := by rw [IntWalk.i64_in _ (by omega)]; omega
      have e2 : Int.tmod ((k + j : Nat) : Int) (r : Int) = (((k + j) % r : Nat) : Int) := by rw [Int.tmod_eq_emod_of_nonneg (by omega)]; omega
      have e3 : IntKind.i64.wrap (((k + j) % r : Nat) : Int) = (((k + j) % r : Nat) : Int) := by
        have := Nat.mod_lt (k + j) (show 0 < r by omega)
        rw [IntWalk.i64_in _ (by omega)]
      have hq : (k + j) % r < r := Nat.mod_lt _ (by omega)
      have hq1 : (0 : Int) ≤ ((k : Int) + (j : Int)) % (r : Int) := Int.emod_nonneg _ (by omega)
      have hq2 : ((k : Int) + (j : Int)) % (r : Int) < (r : Int) := Int.emod_lt_of_pos _ hr0
      have hq3 : (((k : Int) + (j : Int)) % (r : Int)).toNat = (k + j) % r := by rw [← Int.natCast_add, ← Int.natCast_emod, Int.toNat_natCast]
      have hql : (k + j) % r < l.length := by rw [← Hr.out]; exact hq
      obtain ⟨b, o, rfl, hb, hcs⟩ := (Hl.out.keep HBw.out).get ((k + j) % r) hql
      have HK : Hid (rotK l j (k + 1) = rotK l j k ++ [l[(k + j) % r]]) := Lib.hid (by
        rw [rotK]
        have e : (k + j) % l.length = (k + j) % r := by rw [Hr.out]
        rw [e]; simp [hql])
      generalize l[(k + j) % r] = x at *
      have hb3 := up_alloc wr (.cells #[.int .i64 x] 3)
      have HOV := Lib.hid (HO1.out.keep hb3)
      have HB3 := Lib.hid (up HBb.out hb3)
      have HcV : Hid ((wr.alloc (.cells #[.int .i64 x] 3)).cell? ⟨wr.heap.size, 0, none⟩ = some (.int .i64 x)) := Lib.hid (by rw [cell_of_row _ _ _ _ _ _ (heap_alloc_new _ _)]; rfl)
      clear hb3
      have KYwl := KYw.lt; have KYwc := KYw.get; have KYwf := KYw.fr; have KSwl := KSw.lt; have KSwc := KSw.get; have KSwf := KSw.fr
      go_wp2_with (first
        | (go_at_call 59; refine (mod_any _ _ _ hr0 hr6).mono ?_; rintro e X4 ⟨rfl, rfl⟩; rw [(Hj.out (by omega)).1])
        | (at_builtin; go_loud (refine wpList_appI HOV.out (.tmp 37) (.tmp 51) rfl rfl rfl rfl HcV.out (by omega) (by have := HB3.out.size; omega) ?_; intro A3 c3 U3 hO hB4; have HO4 := Lib.hid hO; have HB4 := Lib.hid (HB3.out.trans hB4); clear hO hB4)))
      exact ⟨⟨k + 1, by omega, by go_num, by rw [HK.out]; exact HO4.out, HB4.out⟩, by simp [intOf]; omega⟩
    · obtain rfl : k = r := by omega
      have HO2 : Hid (OI wr X1.heap.size (.slice A1 k c1) (rotK l j k)) := Lib.hid (by have := HO1.out; rwa [rotK_len] at this)
      have Hpm : Hid ((rotK l j k).Perm l) := Lib.hid (by
        by_cases hk0 : 0 < k
        · exact Hperm.out j hk0 (Hj.out hk0).2
        · have : l = [] := List.eq_nil_of_length_eq_zero (by have := Hr.out; omega)
          rw [this, show k = 0 by omega]; exact List.Perm.refl _)
      have hln2 := rotK_len l j k
      rw [hln2]
      clear HO1 Hperm Hj hln
      generalize rotK l j k = t at *
      have Hln := Lib.hid hln2
      clear hln2
      have e5 : IntKind.i64.wrap (Int.tmod n0 2) = Int.tmod n0 2 := by
        have := tmod_in (n := n0) (m := 2) (by decide)
        rw [IntWalk.i64_in _ (by omega)]
      have KYwl := KYw.lt; have KYwc := KYw.get; have KYwf := KYw.fr; have KSwl := KSw.lt; have KSwc := KSw.get; have KSwf := KSw.fr
      cases hpar : (Int.tmod n0 2 == 0)
      · clear KY KS HB
        have KY := KYw; have KS := KSw; have HB := HBw
        have HIt : Hid (Is wr A1 k t) := Lib.hid (by obtain ⟨A2, c2, e2, -, his, -⟩ := HO2.out.is; cases e2; rw [← Hln.out]; exact his)
        have HCt : Hid (cntN P K t = CN ∧ sE P K t = 0) := Lib.hid (by have := cnt_alike H0.out Hpm.out; rw [HC.out] at this; exact this)
        obtain ⟨tt, htt⟩ : ∃ tt, t = tt := ⟨_, rfl⟩
        rw [htt] at HIt HCt
        clear htt HO2 Hpm KYwl KYwc KYwf KSwl KSwc KSwf KYw KSw HBw
        have KYl := KY.lt; have KYc := KY.get; have KYf := KY.fr; have KSl := KS.lt; have KSc := KS.get; have KSf := KS.fr
        go_upto_region 19 with (go_at_call 25; refine (Count_any A n c P B m d K A1 k c1 tt _ (Hp.out.keep HB.out) (Hg.out.keep HB.out) HIt.out).mono ?_; rintro e X5 ⟨rfl, hbx⟩; rw [HCt.out.1, HCt.out.2]; clear KYl KYc KYf; replace KY := KY.keep hbx; have KYl := KY.lt; have KYc := KY.get; have KYf := KY.fr; clear KSl KSc KSf; replace KS := KS.keep hbx; have KSl := KS.lt; have KSc := KS.get; have KSf := KS.fr; replace HB := Lib.hid (up HB.out hbx); clear hbx)
        clear HIt HCt
        go_upto_region 22 with (go_at_call 23; refine (Place_any A n c P B m d K L k s l _ (Hp.out.keep HB.out) (Hg.out.keep HB.out) (Hl.out.keep HB.out)).mono ?_; rintro e X6 ⟨x6, rfl, hv, hbx⟩; rw [HE.out]; rw [HT.out] at hv; obtain ⟨C6, k6, c6, rfl, -, hi, -⟩ := hv; have HI6 := Lib.hid hi; clear hi; clear KYl KYc KYf; replace KY := KY.keep hbx; have KYl := KY.lt; have KYc := KY.get; have KYf := KY.fr; clear KSl KSc KSf; replace KS := KS.keep hbx; have KSl := KS.lt; have KSc := KS.get; have KSf := KS.fr; replace HB := Lib.hid (up HB.out hbx); clear hbx)
        rcases Hcase.out with ⟨rfl, rfl⟩ | ⟨rfl, hCN, hTl, hpl⟩
        · go_wp2_with (go_at_call 22; refine (sane_any _).mono ?_; rintro e X7 ⟨rfl, hbx⟩; clear KYl KYc KYf; replace KY := KY.keep hbx; have KYl := KY.lt; have KYc := KY.get; have KYf := KY.fr; clear KSl KSc KSf; replace KS := KS.keep hbx; have KSl := KS.lt; have KSc := KS.get; have KSf := KS.fr; replace HB := Lib.hid (up HB.out hbx); clear hbx)
          go_ret
          exact ⟨rfl, HB.out⟩
        · have hCNb : (CN == 0) = false := by simpa using hCN
          obtain rfl : k6 = k := by have := HI6.out.len; have := Hr.out; omega
          have HTl := Lib.hid hTl; have Hpl := Lib.hid hpl
          clear hCN hTl hpl Hcase HE HT HC
          by_cases hk0 : k6 = 0
          · have hkb : ((k6 : Int) == 0) = true := by simp; omega
            go_wp2_with (go_at_call 22; refine (sane_any _).mono ?_; rintro e X7 ⟨rfl, hbx⟩; clear KYl KYc KYf; replace KY := KY.keep hbx; have KYl := KY.lt; have KYc := KY.get; have KYf := KY.fr; clear KSl KSc KSf; replace KS := KS.keep hbx; have KSl := KS.lt; have KSc := KS.get; have KSf := KS.fr; replace HB := Lib.hid (up HB.out hbx); clear hbx)
            go_ret
            exact ⟨rfl, HB.out⟩
          · have hkb : ((k6 : Int) == 0) = false := by simp; omega
            have hk1 : (0 : Int) < (k6 : Int) := by omega
            have hk2 : (k6 : Int) ≤ 1000000 := by omega
            obtain ⟨hm1, hm2⟩ := modI_in (n := n1) hk1
            obtain ⟨hm3, hm4⟩ := modI_in (n := n2) hk1
            obtain ⟨i1, hi1⟩ := Int.eq_ofNat_of_zero_le hm1
            obtain ⟨i2, hi2⟩ := Int.eq_ofNat_of_zero_le hm3
            have Hi1 := Lib.hid hi1; have Hi2 := Lib.hid hi2
            have h1k : i1 < k6 := by omega
            have h2k : i2 < k6 := by omega
            have h1l : i1 < l.length := by have := Hr.out; omega
            have h2l : i2 < l.length := by have := Hr.out; omega
            have h1T : i1 < T.length := by have := HTl.out; omega
            have h2T : i2 < T.length := by have := HTl.out; omega
            have hT8 : T.length ≤ 8 := by have := HTl.out; have := Hr.out; omega
            have Hsw : Hid (l[i1] = l[i2] → plE P K l ((T.set i1 T[i2]).set i2 T[i1]) = 0) := Lib.hid (fun e => by
              have := swap_ok H0.out Hpl.out h1l h2l e
              rwa [show T.getD i2 0 = T[i2] by simp [h2T], show T.getD i1 0 = T[i1] by simp [h1T]] at this)
            clear hm1 hm2 hm3 hm4 hi1 hi2
            go_upto_region 26 with (first
              | (go_at_call_of 59 (Value.int IntKind.i64 n1); refine (mod_any _ _ _ hk1 hk2).mono ?_; rintro e X8 ⟨rfl, rfl⟩; rw [Hi1.out])
              | (go_at_call_of 59 (Value.int IntKind.i64 n2); refine (mod_any _ _ _ hk1 hk2).mono ?_; rintro e X8 ⟨rfl, rfl⟩; rw [Hi2.out]))
            have Hlw := Hl.out.keep HB.out
            obtain ⟨bl, ol, rfl, hbl, hc1⟩ := Hlw.get i1 h1l
            have hc2 := (is_at Hlw h2l).1
            have HT6 := HI6.out
            obtain ⟨bt, ot, rfl, hbt, hct1⟩ := HT6.get i1 h1T
            have hct2 := (is_at HT6 h2T).1
            clear Hlw HT6
            by_cases hli : l[i1] = l[i2]
            · have Hpl2 := Lib.hid (Hsw.out hli)
              have hlb : (l[i1] != l[i2]) = false := by simpa using hli
              clear Hsw hli
              generalize l[i1] = y1 at *
              generalize l[i2] = y2 at *
              refine wp_region_grow (by kernel_rfl) (by kernel_rfl) ?_
              repeat (go_big_quiet_step ((fail)))
              refine wpQuiet_nil ?_
              intro z
              have hbz := grow_below X6 z
              generalize grow X6 z = Z at *
              replace HI6 := Lib.hid (HI6.out.keep hbz)
              clear KYl KYc KYf; replace KY := KY.keep hbz; have KYl := KY.lt; have KYc := KY.get; have KYf := KY.fr; clear KSl KSc KSf; replace KS := KS.keep hbz; have KSl := KS.lt; have KSc := KS.get; have KSf := KS.fr; replace HB := Lib.hid (up HB.out hbz); clear hbz
              have hsZ := HB.out.size
              have HO := Lib.hid (show OI (Z.alloc (.cells #[] 3)) Z.heap.size (.slice (some ⟨Z.heap.size, 0, none⟩) 0 0) [] from ⟨World.ownsRow_made Z #[] 0 (Nat.le_refl _) (by unfold maxLen; omega) rfl⟩)
              have hb1 := up_alloc Z (.cells #[] 3)
              have HI7 := Lib.hid (HI6.out.keep hb1)
              have HbX := Lib.hid hb1
              have hk68 : k6 ≤ 8 := by omega
              clear hb1 hct1 hct2 hc1 hc2
              clear KYl KYc KYf KSl KSc KSf
              go_upto_region 29 with (at_builtin; refine wpList_appAny HO.out (.tmp 157) (.tmp 158) rfl rfl rfl rfl HI7.out (by simp; omega) HbX.out.size ?_; intro A' c' Y hO hb; have HX := Lib.hid hO; have HBY := Lib.hid (HbX.out.trans hb); clear hO hb)
              have HO3 : Hid (OI Y Z.heap.size (.slice A' T.length c') T) := Lib.hid (by have := HX.out; rwa [List.nil_append] at this)
              clear HX HO HI7 HbX
              obtain ⟨g, rfl, hgU, hR⟩ := HO3.out.rowI (by omega)
              have HR := Lib.hid hR
              have hcf := hR.cell h1T
              have hff := hR.fr i1
              have HI8 := HI6.out.keep HBY.out
              obtain ⟨hct, hbt2⟩ := is_at HI8 h2T
              have hct1 := (is_at HI8 h1T).1
              have hbtZ := (is_at HI6.out h1T).2
              clear hR HI8 HO3
              have h1T' : (i1 : Int) < (T.length : Int) := by omega
              have h2T' : (i2 : Int) < (T.length : Int) := by omega
              obtain ⟨y3, hy3⟩ : ∃ y, T[i1] = y := ⟨_, rfl⟩
              obtain ⟨y4, hy4⟩ : ∃ y, T[i2] = y := ⟨_, rfl⟩
              rw [hy3] at hcf hct1 Hpl2
              rw [hy4] at hct Hpl2
              clear hy3 hy4 HI6
              go_upto_region 30 with fail
              have pY := Put.cell Y g i1 (.int .i64 y4)
              have hset := HR.out.set i1 y4
              generalize World.setCell Y _ _ = V1 at *
              have HbV := Lib.hid (HBY.out.trans (pY.below hgU))
              have hct3 := ((pY.below hgU).cell (p := ⟨bt, ot + i1, none⟩) (by omega)).trans hct1
              have h2S : i2 < (T.set i1 y4).length := by rw [List.length_set]; exact h2T
              have hcf2 := hset.cell h2S
              have hff2 := hset.fr i2
              have HS1 := Lib.hid hset
              have hbtV : bt < V1.heap.size := by have := HbV.out.size; omega
              have hgV := hset.lt
              obtain ⟨y5, hy5⟩ : ∃ y, (T.set i1 y4)[i2] = y := ⟨_, rfl⟩
              rw [hy5] at hcf2
              clear pY hset hcf hff hct hct1 HR HBY hy5
              go_upto_region 31 with fail
              have pV := Put.cell V1 g i2 (.int .i64 y3)
              have hset2 := HS1.out.set i2 y3
              generalize World.setCell V1 _ _ = V2 at *
              have HbV2 := Lib.hid (HbV.out.trans (pV.below hgU))
              have HIq : Hid (Is V2 (some ⟨g, 0, none⟩) T.length ((T.set i1 y4).set i2 y3)) := Lib.hid (by
                have := hset2.is (by rw [List.length_set, List.length_set]; omega)
                rwa [List.length_set, List.length_set] at this)
              have HBV2 := Lib.hid (up HB.out HbV2.out)
              have KYV := KY.keep HbV2.out
              clear pV hset2 hcf2 hff2 hct3 HS1 HbV KY KS
              have KYVl := KYV.lt; have KYVc := KYV.get; have KYVf := KYV.fr
              go_wp2_with (first
                | (go_at_call 40; refine (checkPlace_any A n c P B m d K (some ⟨bl, ol, none⟩) k6 s l (some ⟨g, 0, none⟩) T.length c' ((T.set i1 y4).set i2 y3) _ (Hp.out.keep HBV2.out) (Hg.out.keep HBV2.out) (Hl.out.keep HBV2.out) HIq.out).mono ?_; rintro e Z1 ⟨rfl, hbx⟩; rw [Hpl2.out]; have HBZ1 := Lib.hid (up HBV2.out hbx); clear hbx)
                | (go_at_call 22; refine (sane_any _).mono ?_; rintro e Z2 ⟨rfl, hbx⟩; have HBZ2 := Lib.hid (up HBZ1.out hbx); clear hbx))
              go_ret
              exact ⟨rfl, HBZ2.out⟩
            · have hlb : (l[i1] != l[i2]) = true := by simpa using hli
              clear Hsw hli
              generalize l[i1] = y1 at *
              generalize l[i2] = y2 at *
              refine wp_region_grow (by kernel_rfl) (by kernel_rfl) ?_
              repeat (go_big_quiet_step ((fail)))
              refine wpQuiet_nil ?_
              intro z
              have hbz := grow_below X6 z
              generalize grow X6 z = Z at *
              clear KYl KYc KYf; replace KY := KY.keep hbz; have KYl := KY.lt; have KYc := KY.get; have KYf := KY.fr; clear KSl KSc KSf; replace KS := KS.keep hbz; have KSl := KS.lt; have KSc := KS.get; have KSf := KS.fr; replace HB := Lib.hid (up HB.out hbz); clear hbz
              go_wp2_with (go_at_call 22; refine (sane_any _).mono ?_; rintro e X7 ⟨rfl, hbx⟩; clear KYl KYc KYf; replace KY := KY.keep hbx; have KYl := KY.lt; have KYc := KY.get; have KYf := KY.fr; clear KSl KSc KSf; replace KS := KS.keep hbx; have KSl := KS.lt; have KSc := KS.get; have KSf := KS.fr; replace HB := Lib.hid (up HB.out hbx); clear hbx)
              go_ret
              exact ⟨rfl, HB.out⟩
      · go_upto_region 12 with fail
        clear KYwl KYwc KYwf KSwl KSwc KSwf
        clear KYw KSw
        have his := HO2.out.isN
        have hrow : 0 < k → ∃ g, A1 = some ⟨g, 0, none⟩ ∧ X1.heap.size ≤ g ∧ Row wr g t := fun h => HO2.out.rowI (by rw [Hln.out]; exact h)
        go_loopw [11] (fun i wv => ∃ (q : Nat) (tt : List Int), q ≤ k / 2 ∧ i = .int .i64 q ∧ tt.Perm l ∧ tt.length = k ∧ Is wv A1 k tt ∧ (0 < k → ∃ g, A1 = some ⟨g, 0, none⟩ ∧ X1.heap.size ≤ g ∧ Row wv g tt) ∧ Below X1.heap.size X1 wv) (fun i _ => k - (intOf i).toNat)
        case atStart => exact ⟨0, t, by omega, rfl, Hpm.out, Hln.out, his, hrow, HBb.out⟩
        case round =>
          clear hrow his HO2 Hpm Hln HBb HBw
          obtain ⟨q, tt, hq, rfl, hpm, htl, his, hrow, hb⟩ := hrel
          have HBb := Lib.hid hb
          have KYv := KY.keep hb; have KSv := KS.keep hb
          have HBv := Lib.hid (up HB.out hb)
          have Hpm := Lib.hid hpm; have Htl := Lib.hid htl
          have hsv := hb.size
          have e6 : Int.tdiv (k : Int) 2 = ((k / 2 : Nat) : Int) := by rw [Int.tdiv_eq_ediv_of_nonneg (by omega)]; omega
          have e7 : IntKind.i64.wrap ((k / 2 : Nat) : Int) = ((k / 2 : Nat) : Int) := by rw [IntWalk.i64_in _ (by omega)]
          clear hb hpm htl
          by_cases hlt : q < k / 2
          · have hk0 : 0 < k := by omega
            obtain ⟨g, rfl, hgU, hR⟩ := hrow hk0
            have hjq : k - 1 - q < tt.length := by rw [Htl.out]; omega
            have hqq : q < tt.length := by rw [Htl.out]; omega
            have hqk : q < k := by omega
            have e8 : IntKind.i64.wrap ((k : Int) - 1) = (k : Int) - 1 := by rw [IntWalk.i64_in _ (by omega)]
            have e9 : IntKind.i64.wrap ((k : Int) - 1 - (q : Int)) = (k : Int) - 1 - (q : Int) := by rw [IntWalk.i64_in _ (by omega)]
            have e11 : IntKind.i64.wrap ((q : Int) + 1) = (q : Int) + 1 := by rw [IntWalk.i64_in _ (by omega)]
            have hcq := hR.cell hqq
            have hcj := hR.cell hjq
            have hfq := hR.fr q
            have hgl := hR.lt
            have HR := Lib.hid hR
            have Hset : Hid (((tt.set q tt[k - 1 - q]).set (k - 1 - q) tt[q]).Perm l) := Lib.hid ((List.set_set_perm hqq hjq).trans Hpm.out)
            clear hR hrow his
            obtain ⟨y1, hy1⟩ : ∃ y, tt[q] = y := ⟨_, rfl⟩
            obtain ⟨y2, hy2⟩ : ∃ y, tt[k - 1 - q] = y := ⟨_, rfl⟩
            rw [hy1] at hcq
            rw [hy2] at hcj
            have Hset2 : Hid (((tt.set q y2).set (k - 1 - q) y1).Perm l) := Lib.hid (by rw [← hy1, ← hy2]; exact Hset.out)
            clear hy1 hy2 Hset
            have KYvl := KYv.lt; have KYvc := KYv.get; have KYvf := KYv.fr; have KSvl := KSv.lt; have KSvc := KSv.get; have KSvf := KSv.fr
            go_upto_region 17 with fail
            have pY := Put.cell wr g q (.int .i64 y2)
            have hset := HR.out.set q y2
            generalize World.setCell wr _ _ = V1 at *
            have HbV := Lib.hid (HBb.out.trans (pY.below hgU))
            have hjS : k - 1 - q < (tt.set q y2).length := by rw [List.length_set]; exact hjq
            have hcf2 := hset.cell hjS
            have hff2 := hset.fr (k - 1 - q)
            have HS1 := Lib.hid hset
            have hgV := hset.lt
            obtain ⟨y5, hy5⟩ : ∃ y, (tt.set q y2)[k - 1 - q] = y := ⟨_, rfl⟩
            rw [hy5] at hcf2
            clear pY hset hcq hcj hfq HR hy5
            go_wp2
            have pV := Put.cell V1 g (k - 1 - q) (.int .i64 y1)
            have hset2 := HS1.out.set (k - 1 - q) y1
            have hl2 : ((tt.set q y2).set (k - 1 - q) y1).length = k := by rw [List.length_set, List.length_set]; exact Htl.out
            have his2 := hset2.is (by rw [hl2]; omega)
            rw [hl2] at his2
            exact ⟨⟨q + 1, _, by omega, by go_num, Hset2.out, hl2, his2, fun _ => ⟨g, rfl, hgU, hset2⟩, HbV.out.trans (pV.below hgU)⟩, by simp [intOf]; omega⟩
          · clear hrow KY KS HB
            have hnq : ¬ ((q : Int) < ((k / 2 : Nat) : Int)) := by omega
            have KY := KYv; have KS := KSv; have HB := HBv
            have HIt := Lib.hid his
            have HCt : Hid (cntN P K tt = CN ∧ sE P K tt = 0) := Lib.hid (by have := cnt_alike H0.out Hpm.out; rw [HC.out] at this; exact this)
            clear his Hpm Htl KYv KSv HBv HBb
            have KYl := KY.lt; have KYc := KY.get; have KYf := KY.fr; have KSl := KS.lt; have KSc := KS.get; have KSf := KS.fr
            go_upto_region 19 with (go_at_call 25; refine (Count_any A n c P B m d K A1 k c1 tt _ (Hp.out.keep HB.out) (Hg.out.keep HB.out) HIt.out).mono ?_; rintro e X5 ⟨rfl, hbx⟩; rw [HCt.out.1, HCt.out.2]; clear KYl KYc KYf; replace KY := KY.keep hbx; have KYl := KY.lt; have KYc := KY.get; have KYf := KY.fr; clear KSl KSc KSf; replace KS := KS.keep hbx; have KSl := KS.lt; have KSc := KS.get; have KSf := KS.fr; replace HB := Lib.hid (up HB.out hbx); clear hbx)
            clear HIt HCt
            go_upto_region 22 with (go_at_call 23; refine (Place_any A n c P B m d K L k s l _ (Hp.out.keep HB.out) (Hg.out.keep HB.out) (Hl.out.keep HB.out)).mono ?_; rintro e X6 ⟨x6, rfl, hv, hbx⟩; rw [HE.out]; rw [HT.out] at hv; obtain ⟨C6, k6, c6, rfl, -, hi, -⟩ := hv; have HI6 := Lib.hid hi; clear hi; clear KYl KYc KYf; replace KY := KY.keep hbx; have KYl := KY.lt; have KYc := KY.get; have KYf := KY.fr; clear KSl KSc KSf; replace KS := KS.keep hbx; have KSl := KS.lt; have KSc := KS.get; have KSf := KS.fr; replace HB := Lib.hid (up HB.out hbx); clear hbx)
            rcases Hcase.out with ⟨rfl, rfl⟩ | ⟨rfl, hCN, hTl, hpl⟩
            · go_wp2_with (go_at_call 22; refine (sane_any _).mono ?_; rintro e X7 ⟨rfl, hbx⟩; clear KYl KYc KYf; replace KY := KY.keep hbx; have KYl := KY.lt; have KYc := KY.get; have KYf := KY.fr; clear KSl KSc KSf; replace KS := KS.keep hbx; have KSl := KS.lt; have KSc := KS.get; have KSf := KS.fr; replace HB := Lib.hid (up HB.out hbx); clear hbx)
              go_ret
              exact ⟨rfl, HB.out⟩
            · have hCNb : (CN == 0) = false := by simpa using hCN
              obtain rfl : k6 = k := by have := HI6.out.len; have := Hr.out; omega
              have HTl := Lib.hid hTl; have Hpl := Lib.hid hpl
              clear hCN hTl hpl Hcase HE HT HC
              by_cases hk0 : k6 = 0
              · have hkb : ((k6 : Int) == 0) = true := by simp; omega
                go_wp2_with (go_at_call 22; refine (sane_any _).mono ?_; rintro e X7 ⟨rfl, hbx⟩; clear KYl KYc KYf; replace KY := KY.keep hbx; have KYl := KY.lt; have KYc := KY.get; have KYf := KY.fr; clear KSl KSc KSf; replace KS := KS.keep hbx; have KSl := KS.lt; have KSc := KS.get; have KSf := KS.fr; replace HB := Lib.hid (up HB.out hbx); clear hbx)
                go_ret
                exact ⟨rfl, HB.out⟩
              · have hkb : ((k6 : Int) == 0) = false := by simp; omega
                have hk1 : (0 : Int) < (k6 : Int) := by omega
                have hk2 : (k6 : Int) ≤ 1000000 := by omega
                obtain ⟨hm1, hm2⟩ := modI_in (n := n1) hk1
                obtain ⟨hm3, hm4⟩ := modI_in (n := n2) hk1
                obtain ⟨i1, hi1⟩ := Int.eq_ofNat_of_zero_le hm1
                obtain ⟨i2, hi2⟩ := Int.eq_ofNat_of_zero_le hm3
                have Hi1 := Lib.hid hi1; have Hi2 := Lib.hid hi2
                have h1k : i1 < k6 := by omega
                have h2k : i2 < k6 := by omega
                have h1l : i1 < l.length := by have := Hr.out; omega
                have h2l : i2 < l.length := by have := Hr.out; omega
                have h1T : i1 < T.length := by have := HTl.out; omega
                have h2T : i2 < T.length := by have := HTl.out; omega
                have hT8 : T.length ≤ 8 := by have := HTl.out; have := Hr.out; omega
                have Hsw : Hid (l[i1] = l[i2] → plE P K l ((T.set i1 T[i2]).set i2 T[i1]) = 0) := Lib.hid (fun e => by
                  have := swap_ok H0.out Hpl.out h1l h2l e
                  rwa [show T.getD i2 0 = T[i2] by simp [h2T], show T.getD i1 0 = T[i1] by simp [h1T]] at this)
                clear hm1 hm2 hm3 hm4 hi1 hi2
                go_upto_region 26 with (first
                  | (go_at_call_of 59 (Value.int IntKind.i64 n1); refine (mod_any _ _ _ hk1 hk2).mono ?_; rintro e X8 ⟨rfl, rfl⟩; rw [Hi1.out])
                  | (go_at_call_of 59 (Value.int IntKind.i64 n2); refine (mod_any _ _ _ hk1 hk2).mono ?_; rintro e X8 ⟨rfl, rfl⟩; rw [Hi2.out]))
                have Hlw := Hl.out.keep HB.out
                obtain ⟨bl, ol, rfl, hbl, hc1⟩ := Hlw.get i1 h1l
                have hc2 := (is_at Hlw h2l).1
                have HT6 := HI6.out
                obtain ⟨bt, ot, rfl, hbt, hct1⟩ := HT6.get i1 h1T
                have hct2 := (is_at HT6 h2T).1
                clear Hlw HT6
                by_cases hli : l[i1] = l[i2]
                · have Hpl2 := Lib.hid (Hsw.out hli)
                  have hlb : (l[i1] != l[i2]) = false := by simpa using hli
                  clear Hsw hli
                  generalize l[i1] = y1 at *
                  generalize l[i2] = y2 at *
                  refine wp_region_grow (by kernel_rfl) (by kernel_rfl) ?_
                  repeat (go_big_quiet_step ((fail)))
                  refine wpQuiet_nil ?_
                  intro z
                  have hbz := grow_below X6 z
                  generalize grow X6 z = Z at *
                  replace HI6 := Lib.hid (HI6.out.keep hbz)
                  clear KYl KYc KYf; replace KY := KY.keep hbz; have KYl := KY.lt; have KYc := KY.get; have KYf := KY.fr; clear KSl KSc KSf; replace KS := KS.keep hbz; have KSl := KS.lt; have KSc := KS.get; have KSf := KS.fr; replace HB := Lib.hid (up HB.out hbz); clear hbz
                  have hsZ := HB.out.size
                  have HO := Lib.hid (show OI (Z.alloc (.cells #[] 3)) Z.heap.size (.slice (some ⟨Z.heap.size, 0, none⟩) 0 0) [] from ⟨World.ownsRow_made Z #[] 0 (Nat.le_refl _) (by unfold maxLen; omega) rfl⟩)
                  have hb1 := up_alloc Z (.cells #[] 3)
                  have HI7 := Lib.hid (HI6.out.keep hb1)
                  have HbX := Lib.hid hb1
                  have hk68 : k6 ≤ 8 := by omega
                  clear hb1 hct1 hct2 hc1 hc2
                  clear KYl KYc KYf KSl KSc KSf
                  go_upto_region 29 with (at_builtin; refine wpList_appAny HO.out (.tmp 157) (.tmp 158) rfl rfl rfl rfl HI7.out (by simp; omega) HbX.out.size ?_; intro A' c' Y hO hb; have HX := Lib.hid hO; have HBY := Lib.hid (HbX.out.trans hb); clear hO hb)
                  have HO3 : Hid (OI Y Z.heap.size (.slice A' T.length c') T) := Lib.hid (by have := HX.out; rwa [List.nil_append] at this)
                  clear HX HO HI7 HbX
                  obtain ⟨g, rfl, hgU, hR⟩ := HO3.out.rowI (by omega)
                  have HR := Lib.hid hR
                  have hcf := hR.cell h1T
                  have hff := hR.fr i1
                  have HI8 := HI6.out.keep HBY.out
                  obtain ⟨hct, hbt2⟩ := is_at HI8 h2T
                  have hct1 := (is_at HI8 h1T).1
                  have hbtZ := (is_at HI6.out h1T).2
                  clear hR HI8 HO3
                  have h1T' : (i1 : Int) < (T.length : Int) := by omega
                  have h2T' : (i2 : Int) < (T.length : Int) := by omega
                  obtain ⟨y3, hy3⟩ : ∃ y, T[i1] = y := ⟨_, rfl⟩
                  obtain ⟨y4, hy4⟩ : ∃ y, T[i2] = y := ⟨_, rfl⟩
                  rw [hy3] at hcf hct1 Hpl2
                  rw [hy4] at hct Hpl2
                  clear hy3 hy4 HI6
                  go_upto_region 30 with fail
                  have pY := Put.cell Y g i1 (.int .i64 y4)
                  have hset := HR.out.set i1 y4
                  generalize World.setCell Y _ _ = V1 at *
                  have HbV := Lib.hid (HBY.out.trans (pY.below hgU))
                  have hct3 := ((pY.below hgU).cell (p := ⟨bt, ot + i1, none⟩) (by omega)).trans hct1
                  have h2S : i2 < (T.set i1 y4).length := by rw [List.length_set]; exact h2T
                  have hcf2 := hset.cell h2S
                  have hff2 := hset.fr i2
                  have HS1 := Lib.hid hset
                  have hbtV : bt < V1.heap.size := by have := HbV.out.size; omega
                  have hgV := hset.lt
                  obtain ⟨y5, hy5⟩ : ∃ y, (T.set i1 y4)[i2] = y := ⟨_, rfl⟩
                  rw [hy5] at hcf2
                  clear pY hset hcf hff hct hct1 HR HBY hy5
                  go_upto_region 31 with fail
                  have pV := Put.cell V1 g i2 (.int .i64 y3)
                  have hset2 := HS1.out.set i2 y3
                  generalize World.setCell V1 _ _ = V2 at *
                  have HbV2 := Lib.hid (HbV.out.trans (pV.below hgU))
                  have HIq : Hid (Is V2 (some ⟨g, 0, none⟩) T.length ((T.set i1 y4).set i2 y3)) := Lib.hid (by
                    have := hset2.is (by rw [List.length_set, List.length_set]; omega)
                    rwa [List.length_set, List.length_set] at this)
                  have HBV2 := Lib.hid (up HB.out HbV2.out)
                  have KYV := KY.keep HbV2.out
                  clear pV hset2 hcf2 hff2 hct3 HS1 HbV KY KS
                  have KYVl := KYV.lt; have KYVc := KYV.get; have KYVf := KYV.fr
                  go_wp2_with (first
                    | (go_at_call 40; refine (checkPlace_any A n c P B m d K (some ⟨bl, ol, none⟩) k6 s l (some ⟨g, 0, none⟩) T.length c' ((T.set i1 y4).set i2 y3) _ (Hp.out.keep HBV2.out) (Hg.out.keep HBV2.out) (Hl.out.keep HBV2.out) HIq.out).mono ?_; rintro e Z1 ⟨rfl, hbx⟩; rw [Hpl2.out]; have HBZ1 := Lib.hid (up HBV2.out hbx); clear hbx)
                    | (go_at_call 22; refine (sane_any _).mono ?_; rintro e Z2 ⟨rfl, hbx⟩; have HBZ2 := Lib.hid (up HBZ1.out hbx); clear hbx))
                  go_ret
                  exact ⟨rfl, HBZ2.out⟩
                · have hlb : (l[i1] != l[i2]) = true := by simpa using hli
                  clear Hsw hli
                  generalize l[i1] = y1 at *
                  generalize l[i2] = y2 at *
                  refine wp_region_grow (by kernel_rfl) (by kernel_rfl) ?_
                  repeat (go_big_quiet_step ((fail)))
                  refine wpQuiet_nil ?_
                  intro z
                  have hbz := grow_below X6 z
                  generalize grow X6 z = Z at *
                  clear KYl KYc KYf; replace KY := KY.keep hbz; have KYl := KY.lt; have KYc := KY.get; have KYf := KY.fr; clear KSl KSc KSf; replace KS := KS.keep hbz; have KSl := KS.lt; have KSc := KS.get; have KSf := KS.fr; replace HB := Lib.hid (up HB.out hbz); clear hbz
                  go_wp2_with (go_at_call 22; refine (sane_any _).mono ?_; rintro e X7 ⟨rfl, hbx⟩; clear KYl KYc KYf; replace KY := KY.keep hbx; have KYl := KY.lt; have KYc := KY.get; have KYf := KY.fr; clear KSl KSc KSf; replace KS := KS.keep hbx; have KSl := KS.lt; have KSc := KS.get; have KSf := KS.fr; replace HB := Lib.hid (up HB.out hbx); clear hbx)
                  go_ret
                  exact ⟨rfl, HB.out⟩
end
theorem penAlike_any (A : Option Addr) (n c : Nat) (P : List Int) (B : Option Addr) (m d : Nat) (K : List Kd) (L : Option Addr) (r s : Nat) (l : List Int) (n0 n1 n2 : Int) (w : World) (hp : Is w A n P) (hg : Ks w B m K) (hl : Is w L r l) :
    Calls Tryz.prog 10 #[.agg #[.slice A n c, .slice B m d], .slice L r s, .agg #[.int .i64 n0, .int .i64 n1, .int .i64 n2]] w fun e w' => e = .returned (.bool true) ∧ Below w.heap.size w w' := by
  by_cases h0 : sE P K l = 0
  · refine penAlike_yes A n c P B m d K L r s l n0 n1 n2 w hp hg hl h0 _ _ _ rfl rfl rfl ?_
    by_cases hG : PL P K l = []
    · left
      exact ⟨by unfold nthE; rw [if_pos h0, hG]; rfl, by unfold cntN; rw [if_pos h0, hG]; rfl⟩
    · right
      have hlen : 0 < (PL P K l).length := List.length_pos_iff.2 hG
      have hL0 : nthL P K l 0 = (PL P K l)[0] := by unfold nthL; rw [if_pos h0]; simp [hlen]
      have hpl : plE P K l (nthL P K l 0) = 0 := by rw [hL0]; exact (PL_mem h0).1 (List.getElem_mem hlen)
      exact ⟨by unfold nthE; rw [if_pos h0, if_pos (by simp [hlen])], by unfold cntN; rw [if_pos h0]; omega, plE_lens hpl h0, hpl⟩
  · exact penAlike_no A n c P B m d K L r s l n0 n1 n2 w hp hg hl h0

theorem penAlike_lifted (os : Os) (started : os.Started) (H : Type) (enc : TypeId × Value → H) :
    ReturnsInHanded {} Tryz.checked os 10 .any (Rows.penAlikeSpec.pre6 enc Tryz.prog Tryz.f10 Rows.penAlikeRow.domain false) (Rows.penAlikeSpec.post enc Tryz.prog Tryz.f10 false true false false) := by
  refine law_lift started (by kernel_rfl) Tryz.func10 (ChangeSpec.witness6 (enc := enc) (C := Tryz.checked) false ⟨#[], #[.agg #[.slice none 0 0, .slice none 0 0], .slice none 0 0, .agg #[.int .i64 0, .int .i64 0, .int .i64 0]], []⟩ 8 (by kernel_rfl) (by kernel_rfl) (by kernel_rfl) (by kernel_rfl))
    rfl rfl (fun ds h => ?_) ?_ ?_
  · match ds, h with
    | [a, b, c], _ => rfl
  · rw [Tryz.params10]; intro t ht; simp at ht; rcases ht with rfl | rfl | rfl <;> exact ⟨by kernel_rfl, of_decide_eq_true (by kernel_rfl)⟩
  · intro W base args ds p hval hA hz
    rw [Tryz.params10] at hA hval hz
    obtain ⟨v0, v1, v2, d0, d1, d2, p0, p1, p2, rfl, rfl, rfl, h0, h1, h2⟩ := trodAll_three hA
    obtain ⟨A, n, c, P, B, m, d, K, rfl, hp, hg, _, _⟩ := open_yard (hval 0 25 v0 rfl rfl) h0 (hz 0 25 d0 rfl rfl)
    obtain ⟨L, r, s, l, rfl, hl, _, _, _⟩ := open_is (hval 1 22 v1 rfl rfl) h1 (hz 1 22 d1 rfl rfl)
    obtain ⟨x, y, z, rfl⟩ := open_three (hval 2 69 v2 rfl rfl) h2
    exact penAlike_any A n c P B m d K L r s l x y z W hp hg hl

theorem penAlike_holds : Rows.PenAlikeSaid :=
  OpenClaim.holds_of_wide 10 Tryz.f10 rfl rfl rfl rfl rfl rfl rfl ⟨rfl, rfl, rfl, rfl, rfl⟩ rfl rfl rfl rfl rfl (by kernel_rfl) Tryz.func10 (by kernel_rfl)
    (of_decide_eq_true (by kernel_rfl)) (by unfold Func.isWrapper; first | (rw [if_pos (by decide +kernel)]; kernel_rfl) | (rw [if_neg (by decide +kernel)]; exact ⟨rfl, rfl⟩))
    (fun os started H enc _ => penAlike_lifted os started H enc)
end Go.Proofs.YtifokapcobgjiaaGreat

