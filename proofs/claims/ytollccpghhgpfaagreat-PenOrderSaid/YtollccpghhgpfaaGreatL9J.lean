/- PenOrder: whatever the yard, the beasts, the index and the placement, the law returns true, and its arguments read as before. No condition. -/
import Derived.Test.YtollccpghhgpfaaGreatJk
set_option linter.unusedVariables false
set_option linter.unusedSimpArgs false
set_option linter.unusedSectionVars false
namespace Go.Proofs.YtollccpghhgpfaaGreat
open Go Go.ChangeShapes Go.WideShapes Go.RowKit Go.Deep
set_option maxHeartbeats 4000000
set_option maxRecDepth 100000

section
variable (A : Option Addr) (n c : Nat) (P : List Int) (B : Option Addr) (m d : Nat) (K : List Kd) (L : Option Addr) (r s : Nat) (l : List Int) (C : Option Addr) (u v : Nat) (p : List Int) (bi pi si : Int) (w : World) (hp : Is w A n P) (hg : Ks w B m K) (hl : Is w L r l) (hc : Is w C u p)
include hp hg hl hc
theorem penOrder_no (h0 : sE P K l ≠ 0) :
    Calls Tryz.prog 9 #[.agg #[.slice A n c, .slice B m d], .slice L r s, .agg #[.slice C u v, .int .i64 bi, .int .i64 pi, .int .i64 si]] w fun e w' => e = .returned (.bool true) ∧ Below w.heap.size w w' := by
  have Hp := Lib.hid hp; have Hg := Lib.hid hg; have Hl := Lib.hid hl
  have HR : Hid ((sE P K l == 0) = false) := Lib.hid (by simpa using h0)
  clear hp hg hl hc h0
  go_enter Tryz.func9, Tryz.ntmps9
  go_upto_region 1 with fail
  generalize hW : (World.alloc _ _) = W
  have HB : Hid (Below w.heap.size w W) := Lib.hid (by subst hW; go_grown)
  have KY : Bx W (w.heap.size) 25 [.slice A n c, .slice B m d] := by subst hW; repeat (first | (refine Bx.newAt _ _ _ ?_; first | rfl | (simp only [World.size_alloc]; done) | (simp only [World.size_alloc]; omega)) | refine Bx.old ?_ _)
  have KS : Bx W (w.heap.size + 1) 42 [.slice C u v, .int .i64 bi, .int .i64 pi, .int .i64 si] := by subst hW; repeat (first | (refine Bx.newAt _ _ _ ?_; first | rfl | (simp only [World.size_alloc]; done) | (simp only [World.size_alloc]; omega)) | refine Bx.old ?_ _)
  clear hW
  have KYl := KY.lt; have KYc := KY.get; have KYf := KY.fr; have KSl := KS.lt; have KSc := KS.get; have KSf := KS.fr
  go_wp2_with (first
    | (go_at_call 58; refine (right_any A n c P B m d K L r s l _ (Hp.out.keep HB.out) (Hg.out.keep HB.out) (Hl.out.keep HB.out)).mono ?_; rintro e X ⟨rfl, hbx⟩; rw [HR.out]; clear KYl KYc KYf; replace KY := KY.keep hbx; have KYl := KY.lt; have KYc := KY.get; have KYf := KY.fr; clear KSl KSc KSf; replace KS := KS.keep hbx; have KSl := KS.lt; have KSc := KS.get; have KSf := KS.fr; replace HB := Lib.hid (up HB.out hbx); clear hbx)
    | (go_at_call 22; refine (sane_any _).mono ?_; rintro e X2 ⟨rfl, hbx⟩; clear KYl KYc KYf; replace KY := KY.keep hbx; have KYl := KY.lt; have KYc := KY.get; have KYf := KY.fr; clear KSl KSc KSf; replace KS := KS.keep hbx; have KSl := KS.lt; have KSc := KS.get; have KSf := KS.fr; replace HB := Lib.hid (up HB.out hbx); clear hbx))
  go_ret
  exact ⟨rfl, HB.out⟩
theorem penOrder_nil (h0 : sE P K l = 0) (hG : PL P K l = []) :
    Calls Tryz.prog 9 #[.agg #[.slice A n c, .slice B m d], .slice L r s, .agg #[.slice C u v, .int .i64 bi, .int .i64 pi, .int .i64 si]] w fun e w' => e = .returned (.bool true) ∧ Below w.heap.size w w' := by
  have Hp := Lib.hid hp; have Hg := Lib.hid hg; have Hl := Lib.hid hl
  have HR : Hid ((sE P K l == 0) = true) := Lib.hid (by simpa using h0)
  have HC : Hid (cntN P K l = 0 ∧ sE P K l = 0) := Lib.hid ⟨by unfold cntN; rw [if_pos h0, hG]; rfl, h0⟩
  have HE : Hid (nthE P K l 0 53 = 53) := Lib.hid (by unfold nthE; rw [if_pos h0, hG]; rfl)
  clear hp hg hl hc h0 hG
  go_enter Tryz.func9, Tryz.ntmps9
  go_upto_region 1 with fail
  generalize hW : (World.alloc _ _) = W
  have HB : Hid (Below w.heap.size w W) := Lib.hid (by subst hW; go_grown)
  have KY : Bx W (w.heap.size) 25 [.slice A n c, .slice B m d] := by subst hW; repeat (first | (refine Bx.newAt _ _ _ ?_; first | rfl | (simp only [World.size_alloc]; done) | (simp only [World.size_alloc]; omega)) | refine Bx.old ?_ _)
  have KS : Bx W (w.heap.size + 1) 42 [.slice C u v, .int .i64 bi, .int .i64 pi, .int .i64 si] := by subst hW; repeat (first | (refine Bx.newAt _ _ _ ?_; first | rfl | (simp only [World.size_alloc]; done) | (simp only [World.size_alloc]; omega)) | refine Bx.old ?_ _)
  clear hW
  have KYl := KY.lt; have KYc := KY.get; have KYf := KY.fr; have KSl := KS.lt; have KSc := KS.get; have KSf := KS.fr
  go_wp2_with (first
    | (go_at_call 58; refine (right_any A n c P B m d K L r s l _ (Hp.out.keep HB.out) (Hg.out.keep HB.out) (Hl.out.keep HB.out)).mono ?_; rintro e X ⟨rfl, hbx⟩; rw [HR.out]; clear KYl KYc KYf; replace KY := KY.keep hbx; have KYl := KY.lt; have KYc := KY.get; have KYf := KY.fr; clear KSl KSc KSf; replace KS := KS.keep hbx; have KSl := KS.lt; have KSc := KS.get; have KSf := KS.fr; replace HB := Lib.hid (up HB.out hbx); clear hbx)
    | (go_at_call 25; refine (Count_any A n c P B m d K L r s l _ (Hp.out.keep HB.out) (Hg.out.keep HB.out) (Hl.out.keep HB.out)).mono ?_; rintro e X1 ⟨rfl, hbx⟩; rw [HC.out.1, HC.out.2]; clear KYl KYc KYf; replace KY := KY.keep hbx; have KYl := KY.lt; have KYc := KY.get; have KYf := KY.fr; clear KSl KSc KSf; replace KS := KS.keep hbx; have KSl := KS.lt; have KSc := KS.get; have KSf := KS.fr; replace HB := Lib.hid (up HB.out hbx); clear hbx)
    | (go_at_call 23; refine (Place_any A n c P B m d K L r s l _ (Hp.out.keep HB.out) (Hg.out.keep HB.out) (Hl.out.keep HB.out)).mono ?_; rintro e X3 ⟨v1, rfl, hv1, hbx⟩; rw [HE.out]; clear hv1; clear KYl KYc KYf; replace KY := KY.keep hbx; have KYl := KY.lt; have KYc := KY.get; have KYf := KY.fr; clear KSl KSc KSf; replace KS := KS.keep hbx; have KSl := KS.lt; have KSc := KS.get; have KSf := KS.fr; replace HB := Lib.hid (up HB.out hbx); clear hbx)
    | (go_at_call 22; refine (sane_any _).mono ?_; rintro e X2 ⟨rfl, hbx⟩; clear KYl KYc KYf; replace KY := KY.keep hbx; have KYl := KY.lt; have KYc := KY.get; have KYf := KY.fr; clear KSl KSc KSf; replace KS := KS.keep hbx; have KSl := KS.lt; have KSc := KS.get; have KSf := KS.fr; replace HB := Lib.hid (up HB.out hbx); clear hbx))
  go_ret
  exact ⟨rfl, HB.out⟩
theorem penOrder_yes (M k : Nat) (g0 a b : List Int) (eb : Int) (h0 : sE P K l = 0) (hM0 : 0 < M) (hM : M ≤ 1000) (hC : cntN P K l = (M : Int)) (hE : nthE P K l 0 53 = 0) (hL : nthL P K l 0 = g0) (hk : modI bi M = (k : Int)) (hkM : k < M)
    (hF : nthF P K l (k : Int) = 0) (hA : nthM P K l (k : Int) = a) (ha : plE P K l a = 0) (hs : k = 0 → a = g0) (hz : plE P K l p = 0 → ahB p g0 = false) (hF2 : nthF P K l ((k : Int) + 1) = eb) (hA2 : nthM P K l ((k : Int) + 1) = b)
    (hend : k + 1 = M → eb = 3 ∧ (plE P K l p = 0 → M ≠ 1000 → ahB a p = false)) (hmid : k + 1 ≠ M → eb = 0 ∧ ahB a b = true ∧ (plE P K l p = 0 → ahB a p = true → ahB p b = false)) :
    Calls Tryz.prog 9 #[.agg #[.slice A n c, .slice B m d], .slice L r s, .agg #[.slice C u v, .int .i64 bi, .int .i64 pi, .int .i64 si]] w fun e w' => e = .returned (.bool true) ∧ Below w.heap.size w w' := by
  have Hp := Lib.hid hp; have Hg := Lib.hid hg; have Hl := Lib.hid hl; have Hc := Lib.hid hc
  have HR : Hid ((sE P K l == 0) = true) := Lib.hid (by simpa using h0)
  have HC : Hid (cntN P K l = (M : Int) ∧ sE P K l = 0) := Lib.hid ⟨hC, h0⟩
  have HE := Lib.hid hE; have HL := Lib.hid hL; have Hk := Lib.hid hk; have HF := Lib.hid hF; have HA := Lib.hid hA; have Ha := Lib.hid ha; have HF2 := Lib.hid hF2; have HA2 := Lib.hid hA2
  have Hs : Hid (k = 0 → (a == g0) = true) := Lib.hid (fun h => by rw [hs h]; exact beq_self_eq_true g0)
  generalize hEp : plE P K l p = E at *
  have HEp := Lib.hid hEp; have Hz := Lib.hid hz; have Hend := Lib.hid hend; have Hmid := Lib.hid hmid
  clear hp hg hl hc h0 hC hE hL hk hF hA ha hs hz hF2 hA2 hend hmid hEp
  have hMi : (0 : Int) < (M : Int) := by omega
  have hMi2 : (M : Int) ≤ 1000000 := by omega
  have hb1 : decide ((M : Int) < 0) = false := by simp
  have hb2 : decide ((1000 : Int) < (M : Int)) = false := by simp; omega
  have hb3 : ((M : Int) == 0) = false := by simp; omega
  go_enter Tryz.func9, Tryz.ntmps9
  go_upto_region 1 with fail
  generalize hW : (World.alloc _ _) = W
  have HB : Hid (Below w.heap.size w W) := Lib.hid (by subst hW; go_grown)
  have KY : Bx W (w.heap.size) 25 [.slice A n c, .slice B m d] := by subst hW; repeat (first | (refine Bx.newAt _ _ _ ?_; first | rfl | (simp only [World.size_alloc]; done) | (simp only [World.size_alloc]; omega)) | refine Bx.old ?_ _)
  have KS : Bx W (w.heap.size + 1) 42 [.slice C u v, .int .i64 bi, .int .i64 pi, .int .i64 si] := by subst hW; repeat (first | (refine Bx.newAt _ _ _ ?_; first | rfl | (simp only [World.size_alloc]; done) | (simp only [World.size_alloc]; omega)) | refine Bx.old ?_ _)
  clear hW
  have KYl := KY.lt; have KYc := KY.get; have KYf := KY.fr; have KSl := KS.lt; have KSc := KS.get; have KSf := KS.fr
  go_upto_region 5 with (first
    | (go_at_call 58; refine (right_any A n c P B m d K L r s l _ (Hp.out.keep HB.out) (Hg.out.keep HB.out) (Hl.out.keep HB.out)).mono ?_; rintro e X ⟨rfl, hbx⟩; rw [HR.out]; clear KYl KYc KYf; replace KY := KY.keep hbx; have KYl := KY.lt; have KYc := KY.get; have KYf := KY.fr; clear KSl KSc KSf; replace KS := KS.keep hbx; have KSl := KS.lt; have KSc := KS.get; have KSf := KS.fr; replace HB := Lib.hid (up HB.out hbx); clear hbx)
    | (go_at_call 25; refine (Count_any A n c P B m d K L r s l _ (Hp.out.keep HB.out) (Hg.out.keep HB.out) (Hl.out.keep HB.out)).mono ?_; rintro e X1 ⟨rfl, hbx⟩; rw [HC.out.1, HC.out.2]; clear KYl KYc KYf; replace KY := KY.keep hbx; have KYl := KY.lt; have KYc := KY.get; have KYf := KY.fr; clear KSl KSc KSf; replace KS := KS.keep hbx; have KSl := KS.lt; have KSc := KS.get; have KSf := KS.fr; replace HB := Lib.hid (up HB.out hbx); clear hbx)
    | (go_at_call 23; refine (Place_any A n c P B m d K L r s l _ (Hp.out.keep HB.out) (Hg.out.keep HB.out) (Hl.out.keep HB.out)).mono ?_; rintro e X3 ⟨v1, rfl, hv1, hbx⟩; rw [HE.out]; rw [HL.out] at hv1; obtain ⟨C1, k1, s1, rfl, hk1, h1, -⟩ := hv1; have H1 := Lib.hid h1; clear h1; clear KYl KYc KYf; replace KY := KY.keep hbx; have KYl := KY.lt; have KYc := KY.get; have KYf := KY.fr; clear KSl KSc KSf; replace KS := KS.keep hbx; have KSl := KS.lt; have KSc := KS.get; have KSf := KS.fr; replace HB := Lib.hid (up HB.out hbx); clear hbx))
  go_upto_region 10 with (go_at_call 59; refine (mod_any _ _ _ hMi hMi2).mono ?_; rintro e X4 ⟨rfl, rfl⟩; rw [Hk.out])
  go_upto_region 11 with (go_at_call 27; refine (Nth_any A n c P B m d K L r s l (k : Int) _ (Hp.out.keep HB.out) (Hg.out.keep HB.out) (Hl.out.keep HB.out)).mono ?_; rintro e X5 ⟨v2, rfl, hv2, hbx⟩; rw [HF.out]; rw [HA.out] at hv2; obtain ⟨C2, k2, s2, rfl, hk2, h2, -⟩ := hv2; have H2 := Lib.hid h2; clear h2; replace H1 := Lib.hid (H1.out.keep hbx); clear KYl KYc KYf; replace KY := KY.keep hbx; have KYl := KY.lt; have KYc := KY.get; have KYf := KY.fr; clear KSl KSc KSf; replace KS := KS.keep hbx; have KSl := KS.lt; have KSc := KS.get; have KSf := KS.fr; replace HB := Lib.hid (up HB.out hbx); clear hbx)
  clear HR HC HE HL Hk HF HA
  cases hk0b : ((k : Int) == 0)
  all_goals
    have hk0 : k = 0 ∨ k ≠ 0 := by omega
    go_upto_region 13 with (first
      | (go_at_call 40; refine (checkPlace_any A n c P B m d K L r s l C2 k2 s2 a _ (Hp.out.keep HB.out) (Hg.out.keep HB.out) (Hl.out.keep HB.out) H2.out).mono ?_; rintro e X6 ⟨rfl, hbx⟩; rw [Ha.out]; replace H1 := Lib.hid (H1.out.keep hbx); replace H2 := Lib.hid (H2.out.keep hbx); clear KYl KYc KYf; replace KY := KY.keep hbx; have KYl := KY.lt; have KYc := KY.get; have KYf := KY.fr; clear KSl KSc KSf; replace KS := KS.keep hbx; have KSl := KS.lt; have KSc := KS.get; have KSf := KS.fr; replace HB := Lib.hid (up HB.out hbx); clear hbx)
      | (go_at_call 29; refine (Same_any C2 k2 s2 a C1 k1 s1 g0 _ H2.out H1.out).mono ?_; rintro e X7 ⟨rfl, hbx⟩; rw [Hs.out (by have : (k : Int) = 0 := (by simpa using hk0b); omega)]; replace H1 := Lib.hid (H1.out.keep hbx); replace H2 := Lib.hid (H2.out.keep hbx); clear KYl KYc KYf; replace KY := KY.keep hbx; have KYl := KY.lt; have KYc := KY.get; have KYf := KY.fr; clear KSl KSc KSf; replace KS := KS.keep hbx; have KSl := KS.lt; have KSc := KS.get; have KSf := KS.fr; replace HB := Lib.hid (up HB.out hbx); clear hbx))
    go_upto_region 14 with (go_at_call 40; refine (checkPlace_any A n c P B m d K L r s l C u v p _ (Hp.out.keep HB.out) (Hg.out.keep HB.out) (Hl.out.keep HB.out) (Hc.out.keep HB.out)).mono ?_; rintro e X8 ⟨rfl, hbx⟩; rw [HEp.out]; replace H1 := Lib.hid (H1.out.keep hbx); replace H2 := Lib.hid (H2.out.keep hbx); clear KYl KYc KYf; replace KY := KY.keep hbx; have KYl := KY.lt; have KYc := KY.get; have KYf := KY.fr; clear KSl KSc KSf; replace KS := KS.keep hbx; have KSl := KS.lt; have KSc := KS.get; have KSf := KS.fr; replace HB := Lib.hid (up HB.out hbx); clear hbx)
    by_cases hE0 : E = 0
    · have hEb : (E == 0) = true := by simpa using hE0
      go_upto_region 16 with (go_at_call 60; refine (ahead_any C u v p C1 k1 s1 g0 _ (Hc.out.keep HB.out) H1.out).mono ?_; rintro e X9 ⟨rfl, hbx⟩; rw [Hz.out hE0]; replace H1 := Lib.hid (H1.out.keep hbx); replace H2 := Lib.hid (H2.out.keep hbx); clear KYl KYc KYf; replace KY := KY.keep hbx; have KYl := KY.lt; have KYc := KY.get; have KYf := KY.fr; clear KSl KSc KSf; replace KS := KS.keep hbx; have KSl := KS.lt; have KSc := KS.get; have KSf := KS.fr; replace HB := Lib.hid (up HB.out hbx); clear hbx)
      go_upto_region 17 with (go_at_call 27; refine (Nth_any A n c P B m d K L r s l ((k : Int) + 1) _ (Hp.out.keep HB.out) (Hg.out.keep HB.out) (Hl.out.keep HB.out)).mono ?_; rintro e X10 ⟨v3, rfl, hv3, hbx⟩; rw [HF2.out]; rw [HA2.out] at hv3; obtain ⟨C3, k3, s3, rfl, hk3, h3, -⟩ := hv3; have H3 := Lib.hid h3; clear h3; replace H1 := Lib.hid (H1.out.keep hbx); replace H2 := Lib.hid (H2.out.keep hbx); clear KYl KYc KYf; replace KY := KY.keep hbx; have KYl := KY.lt; have KYc := KY.get; have KYf := KY.fr; clear KSl KSc KSf; replace KS := KS.keep hbx; have KSl := KS.lt; have KSc := KS.get; have KSf := KS.fr; replace HB := Lib.hid (up HB.out hbx); clear hbx)
      by_cases hkM1 : k + 1 = M
      · obtain ⟨rfl, hx⟩ := Hend.out hkM1
        have hkI : ((k : Int) + 1 == (M : Int)) = true := by simp; omega
        by_cases h1000 : M = 1000
        · have hMb : ((M : Int) == 1000) = true := by simp; omega
          first
            | (have hq := hk0b; simp at hq; omega)
            | (go_wp2_with (go_at_call 22; refine (sane_any _).mono ?_; rintro e XA ⟨rfl, hbx⟩; clear KYl KYc KYf; replace KY := KY.keep hbx; have KYl := KY.lt; have KYc := KY.get; have KYf := KY.fr; clear KSl KSc KSf; replace KS := KS.keep hbx; have KSl := KS.lt; have KSc := KS.get; have KSf := KS.fr; replace HB := Lib.hid (up HB.out hbx); clear hbx); go_ret; exact ⟨rfl, HB.out⟩)
        · have hMb : ((M : Int) == 1000) = false := by simp; omega
          have Hx := Lib.hid (hx hE0 h1000)
          clear hx
          go_wp2_with (first
            | (go_at_call 60; refine (ahead_any C2 k2 s2 a C u v p _ H2.out (Hc.out.keep HB.out)).mono ?_; rintro e XB ⟨rfl, hbx⟩; rw [Hx.out]; clear KYl KYc KYf; replace KY := KY.keep hbx; have KYl := KY.lt; have KYc := KY.get; have KYf := KY.fr; clear KSl KSc KSf; replace KS := KS.keep hbx; have KSl := KS.lt; have KSc := KS.get; have KSf := KS.fr; replace HB := Lib.hid (up HB.out hbx); clear hbx)
            | (go_at_call 22; refine (sane_any _).mono ?_; rintro e XA ⟨rfl, hbx⟩; clear KYl KYc KYf; replace KY := KY.keep hbx; have KYl := KY.lt; have KYc := KY.get; have KYf := KY.fr; clear KSl KSc KSf; replace KS := KS.keep hbx; have KSl := KS.lt; have KSc := KS.get; have KSf := KS.fr; replace HB := Lib.hid (up HB.out hbx); clear hbx))
          go_ret
          exact ⟨rfl, HB.out⟩
      · obtain ⟨rfl, hab, hx⟩ := Hmid.out hkM1
        have hkI : ((k : Int) + 1 == (M : Int)) = false := by simp; omega
        have Hab := Lib.hid hab; have Hx := Lib.hid hx
        clear hab hx
        go_wp2_with fail
        refine Calls.mono (ahead_any C2 k2 s2 a C3 k3 s3 b _ H2.out H3.out) ?_
        rintro e Y1 ⟨rfl, hbx⟩
        rw [Hab.out]
        replace H2 := Lib.hid (H2.out.keep hbx); replace H3 := Lib.hid (H3.out.keep hbx); clear KYl KYc KYf; replace KY := KY.keep hbx; have KYl := KY.lt; have KYc := KY.get; have KYf := KY.fr; clear KSl KSc KSf; replace KS := KS.keep hbx; have KSl := KS.lt; have KSc := KS.get; have KSf := KS.fr; replace HB := Lib.hid (up HB.out hbx); clear hbx
        go_wp2_with fail
        refine Calls.mono (ahead_any C2 k2 s2 a C u v p _ H2.out (Hc.out.keep HB.out)) ?_
        rintro e Y2 ⟨rfl, hbx⟩
        replace H3 := Lib.hid (H3.out.keep hbx); clear KYl KYc KYf; replace KY := KY.keep hbx; have KYl := KY.lt; have KYc := KY.get; have KYf := KY.fr; clear KSl KSc KSf; replace KS := KS.keep hbx; have KSl := KS.lt; have KSc := KS.get; have KSf := KS.fr; replace HB := Lib.hid (up HB.out hbx); clear hbx
        cases h1 : ahB a p
        · go_wp2_with (go_at_call 22; refine (sane_any _).mono ?_; rintro e XA ⟨rfl, hbx⟩; clear KYl KYc KYf; replace KY := KY.keep hbx; have KYl := KY.lt; have KYc := KY.get; have KYf := KY.fr; clear KSl KSc KSf; replace KS := KS.keep hbx; have KSl := KS.lt; have KSc := KS.get; have KSf := KS.fr; replace HB := Lib.hid (up HB.out hbx); clear hbx)
          go_ret
          exact ⟨rfl, HB.out⟩
        · have Hy := Lib.hid (Hx.out hE0 h1)
          clear h1
          go_wp2_with (first
            | (go_at_call 60; refine (ahead_any C u v p C3 k3 s3 b _ (Hc.out.keep HB.out) H3.out).mono ?_; rintro e Y3 ⟨rfl, hbx⟩; rw [Hy.out]; clear KYl KYc KYf; replace KY := KY.keep hbx; have KYl := KY.lt; have KYc := KY.get; have KYf := KY.fr; clear KSl KSc KSf; replace KS := KS.keep hbx; have KSl := KS.lt; have KSc := KS.get; have KSf := KS.fr; replace HB := Lib.hid (up HB.out hbx); clear hbx)
            | (go_at_call 22; refine (sane_any _).mono ?_; rintro e XA ⟨rfl, hbx⟩; clear KYl KYc KYf; replace KY := KY.keep hbx; have KYl := KY.lt; have KYc := KY.get; have KYf := KY.fr; clear KSl KSc KSf; replace KS := KS.keep hbx; have KSl := KS.lt; have KSc := KS.get; have KSf := KS.fr; replace HB := Lib.hid (up HB.out hbx); clear hbx))
          go_ret
          exact ⟨rfl, HB.out⟩
    · have hEb : (E == 0) = false := by simpa using hE0
      go_upto_region 17 with (go_at_call 27; refine (Nth_any A n c P B m d K L r s l ((k : Int) + 1) _ (Hp.out.keep HB.out) (Hg.out.keep HB.out) (Hl.out.keep HB.out)).mono ?_; rintro e X10 ⟨v3, rfl, hv3, hbx⟩; rw [HF2.out]; rw [HA2.out] at hv3; obtain ⟨C3, k3, s3, rfl, hk3, h3, -⟩ := hv3; have H3 := Lib.hid h3; clear h3; replace H1 := Lib.hid (H1.out.keep hbx); replace H2 := Lib.hid (H2.out.keep hbx); clear KYl KYc KYf; replace KY := KY.keep hbx; have KYl := KY.lt; have KYc := KY.get; have KYf := KY.fr; clear KSl KSc KSf; replace KS := KS.keep hbx; have KSl := KS.lt; have KSc := KS.get; have KSf := KS.fr; replace HB := Lib.hid (up HB.out hbx); clear hbx)
      by_cases hkM1 : k + 1 = M
      · obtain ⟨rfl, hx⟩ := Hend.out hkM1
        have hkI : ((k : Int) + 1 == (M : Int)) = true := by simp; omega
        clear hx
        go_wp2_with (go_at_call 22; refine (sane_any _).mono ?_; rintro e XA ⟨rfl, hbx⟩; clear KYl KYc KYf; replace KY := KY.keep hbx; have KYl := KY.lt; have KYc := KY.get; have KYf := KY.fr; clear KSl KSc KSf; replace KS := KS.keep hbx; have KSl := KS.lt; have KSc := KS.get; have KSf := KS.fr; replace HB := Lib.hid (up HB.out hbx); clear hbx)
        go_ret
        exact ⟨rfl, HB.out⟩
      · obtain ⟨rfl, hab, hx⟩ := Hmid.out hkM1
        have hkI : ((k : Int) + 1 == (M : Int)) = false := by simp; omega
        have Hab := Lib.hid hab
        clear hab hx
        go_wp2_with (first
          | (go_at_call 60; refine (ahead_any C2 k2 s2 a C3 k3 s3 b _ H2.out H3.out).mono ?_; rintro e Y1 ⟨rfl, hbx⟩; rw [Hab.out]; clear KYl KYc KYf; replace KY := KY.keep hbx; have KYl := KY.lt; have KYc := KY.get; have KYf := KY.fr; clear KSl KSc KSf; replace KS := KS.keep hbx; have KSl := KS.lt; have KSc := KS.get; have KSf := KS.fr; replace HB := Lib.hid (up HB.out hbx); clear hbx)
          | (go_at_call 22; refine (sane_any _).mono ?_; rintro e XA ⟨rfl, hbx⟩; clear KYl KYc KYf; replace KY := KY.keep hbx; have KYl := KY.lt; have KYc := KY.get; have KYf := KY.fr; clear KSl KSc KSf; replace KS := KS.keep hbx; have KSl := KS.lt; have KSc := KS.get; have KSf := KS.fr; replace HB := Lib.hid (up HB.out hbx); clear hbx))
        go_ret
        exact ⟨rfl, HB.out⟩
end
end Go.Proofs.YtollccpghhgpfaaGreat
namespace Go.Proofs.YtollccpghhgpfaaGreat
open Go Go.ChangeShapes Go.WideShapes Go.RowKit Go.Deep
set_option maxHeartbeats 4000000
set_option maxRecDepth 100000

section
variable {H : Type} {enc : TypeId × Value → H} {w : World} {base : Nat} {spare : Nat → Bool} {held : Bool}
/-- A placement and three numbers that came in. -/
theorem open_step {r : Reach} {b0 : Nat} {v : Value} {d : DataW H} {p : List MemPlace} (hv : Value.okWide Tryz.prog w r b0 42 v) (h : DataW.Trod enc Tryz.prog w base spare held 42 v d p) (hz : ∀ y ∈ d.weights Tryz.prog 42, y ≤ reachBytes) :
    ∃ C u v' q x y z, v = .agg #[.slice C u v', .int .i64 x, .int .i64 y, .int .i64 z] ∧ Is w C u q ∧ u ≤ v' ∧ i64 x ∧ i64 y ∧ i64 z := by
  obtain ⟨cs, rfl, hsz⟩ := okWide_struct Tryz.underlying42 hv
  rw [show Tryz.prog.cellsOf 42 = 4 by kernel_rfl] at hsz
  obtain ⟨fuel, hf⟩ := h
  obtain ⟨y0, y1, y2, y3, n, hd, hl, h0, h1, h2, h3⟩ := Go.Joins.trod_struct4 Tryz.underlying42 hf
  have hz0 : ∀ y ∈ y0.1.weights Tryz.prog 22, y ≤ reachBytes := fun y hy => hz y (by
    have : d = .agg [y0.1, y1.1, y2.1, y3.1] := (Prod.ext_iff.1 hd).1
    rw [this]; simp [DataW.weights, DataW.weightsEach, Tryz.underlying42, hy])
  dsimp only at h0 h1 h2 h3
  rw [show Tryz.prog.cellsOf 22 = 1 by kernel_rfl] at h0
  rw [show Tryz.prog.cellsOf 3 = 1 by kernel_rfl] at h1 h2 h3
  obtain ⟨C, u, v', q, e0, hq, huv, _, _⟩ := is_open h0 hz0
  obtain ⟨x, e1, _, b1⟩ := DataW.trod_int Tryz.underlying3 h1
  obtain ⟨y, e2, _, b2⟩ := DataW.trod_int Tryz.underlying3 h2
  obtain ⟨z, e3, _, b3⟩ := DataW.trod_int Tryz.underlying3 h3
  obtain ⟨cl⟩ := cs
  match cl, hsz with
  | [c0, c1, c2, c3], _ =>
    simp [Value.cells] at e0 e1 e2 e3
    subst e0; subst e1; subst e2; subst e3
    exact ⟨C, u, v', q, x, y, z, rfl, hq, huv, i64_wf b1, i64_wf b2, i64_wf b3⟩
end

theorem nth_at {P : List Int} {K : List Kd} {l : List Int} (h0 : sE P K l = 0) {k : Nat} (hk : k < (PL P K l).length) (h : k < 1000) : nthF P K l (k : Int) = 0 ∧ nthM P K l (k : Int) = (PL P K l)[k] := by
  have hb : inB (k : Int) 0 999 = true := inB_iff.2 ⟨by omega, by omega⟩
  refine ⟨?_, ?_⟩
  · unfold nthF
    rw [if_pos h0, if_pos hb, Int.toNat_natCast, if_pos (by simp [hk])]
  · unfold nthM
    rw [if_pos ⟨h0, hb⟩, Int.toNat_natCast]; simp [hk]
theorem nth_none {P : List Int} {K : List Kd} {l : List Int} (h0 : sE P K l = 0) {k : Nat} (hk : (PL P K l).length ≤ k ∨ 1000 ≤ k) : nthF P K l (k : Int) = 3 := by
  unfold nthF
  rw [if_pos h0]
  split
  · rename_i hb
    have := inB_iff.1 hb
    rw [Int.toNat_natCast, if_neg]
    simp; omega
  · rfl
theorem penOrder_any (A : Option Addr) (n c : Nat) (P : List Int) (B : Option Addr) (m d : Nat) (K : List Kd) (L : Option Addr) (r s : Nat) (l : List Int) (C : Option Addr) (u v : Nat) (p : List Int) (bi pi si : Int) (w : World) (hp : Is w A n P) (hg : Ks w B m K) (hl : Is w L r l) (hc : Is w C u p) :
    Calls Tryz.prog 9 #[.agg #[.slice A n c, .slice B m d], .slice L r s, .agg #[.slice C u v, .int .i64 bi, .int .i64 pi, .int .i64 si]] w fun e w' => e = .returned (.bool true) ∧ Below w.heap.size w w' := by
  by_cases h0 : sE P K l = 0
  rotate_left
  · exact penOrder_no A n c P B m d K L r s l C u v p bi pi si w hp hg hl hc h0
  by_cases hG : PL P K l = []
  · exact penOrder_nil A n c P B m d K L r s l C u v p bi pi si w hp hg hl hc h0 hG
  have hlen : 0 < (PL P K l).length := List.length_pos_iff.2 hG
  have hM0 : 0 < min (PL P K l).length 1000 := by omega
  obtain ⟨M, hMd⟩ : ∃ M, M = min (PL P K l).length 1000 := ⟨_, rfl⟩
  have hMl : M ≤ (PL P K l).length ∧ M ≤ 1000 ∧ 0 < M := by omega
  obtain ⟨hm1, hm2⟩ := modI_in (n := bi) (m := (M : Int)) (by omega)
  obtain ⟨k, hk⟩ := Int.eq_ofNat_of_zero_le hm1
  have hkM : k < M := by omega
  have hkl : k < (PL P K l).length := by omega
  have hnk := nth_at h0 hkl (by omega)
  have hpl : ∀ q, plE P K l q = 0 → ∃ i, ∃ h : i < (PL P K l).length, (PL P K l)[i] = q := fun q hq => List.mem_iff_getElem.1 ((PL_mem h0).2 hq)
  refine penOrder_yes A n c P B m d K L r s l C u v p bi pi si w hp hg hl hc M k (PL P K l)[0] (PL P K l)[k] (nthM P K l ((k : Int) + 1)) (nthF P K l ((k : Int) + 1)) h0 hMl.2.2 hMl.2.1 ?_ ?_ ?_ hk hkM hnk.1 hnk.2 ?_ ?_ ?_ rfl rfl ?_ ?_
  · unfold cntN; rw [if_pos h0, hMd]
  · unfold nthE; rw [if_pos h0, if_pos (by simp [hlen])]
  · unfold nthL; rw [if_pos h0]; simp [hlen]
  · exact (PL_mem h0).1 (List.getElem_mem hkl)
  · intro e; subst e; rfl
  · intro hq
    obtain ⟨i, hi, rfl⟩ := hpl p hq
    rw [PL_lt hi hlen]; simp
  · intro e
    refine ⟨?_, fun hq h1000 => ?_⟩
    · rw [show (k : Int) + 1 = ((k + 1 : Nat) : Int) by omega]
      exact nth_none h0 (by omega)
    · obtain ⟨i, hi, rfl⟩ := hpl p hq
      rw [PL_lt hkl hi]; simp; omega
  · intro e
    have hk1 : k + 1 < (PL P K l).length := by omega
    have hn1 := nth_at h0 hk1 (by omega)
    rw [show (k : Int) + 1 = ((k + 1 : Nat) : Int) by omega]
    refine ⟨hn1.1, ?_, fun hq h1 => ?_⟩
    · rw [hn1.2, PL_lt hkl hk1]; simp
    · obtain ⟨i, hi, rfl⟩ := hpl p hq
      rw [PL_lt hkl hi] at h1
      rw [hn1.2, PL_lt hi hk1]
      simp at h1 ⊢; omega

theorem penOrder_lifted (os : Os) (started : os.Started) (H : Type) (enc : TypeId × Value → H) :
    ReturnsInHanded {} Tryz.checked os 9 .any (Rows.penOrderSpec.pre6 enc Tryz.prog Tryz.f9 Rows.penOrderRow.domain false) (Rows.penOrderSpec.post enc Tryz.prog Tryz.f9 false true false false) := by
  refine law_lift started (by kernel_rfl) Tryz.func9 (ChangeSpec.witness6 (enc := enc) (C := Tryz.checked) false ⟨#[], #[.agg #[.slice none 0 0, .slice none 0 0], .slice none 0 0, .agg #[.slice none 0 0, .int .i64 0, .int .i64 0, .int .i64 0]], []⟩ 8 (by kernel_rfl) (by kernel_rfl) (by kernel_rfl) (by kernel_rfl))
    rfl rfl (fun ds h => ?_) ?_ ?_
  · match ds, h with
    | [a, b, c], _ => rfl
  · rw [Tryz.params9]; intro t ht; simp at ht; rcases ht with rfl | rfl | rfl <;> exact ⟨by kernel_rfl, of_decide_eq_true (by kernel_rfl)⟩
  · intro W base args ds p hval hA hz
    rw [Tryz.params9] at hA hval hz
    obtain ⟨v0, v1, v2, d0, d1, d2, p0, p1, p2, rfl, rfl, rfl, h0, h1, h2⟩ := trodAll_three hA
    obtain ⟨A, n, c, P, B, m, d, K, rfl, hp, hg, _, _⟩ := open_yard (hval 0 25 v0 rfl rfl) h0 (hz 0 25 d0 rfl rfl)
    obtain ⟨L, r, s, l, rfl, hl, _, _, _⟩ := open_is (hval 1 22 v1 rfl rfl) h1 (hz 1 22 d1 rfl rfl)
    obtain ⟨C, u, v, q, x, y, z, rfl, hc, _, _, _, _⟩ := open_step (hval 2 42 v2 rfl rfl) h2 (hz 2 42 d2 rfl rfl)
    exact penOrder_any A n c P B m d K L r s l C u v q x y z W hp hg hl hc

theorem penOrder_holds : Rows.PenOrderSaid :=
  OpenClaim.holds_of_wide 9 Tryz.f9 rfl rfl rfl rfl rfl rfl rfl ⟨rfl, rfl, rfl, rfl, rfl⟩ rfl rfl rfl rfl rfl (by kernel_rfl) Tryz.func9 (by kernel_rfl)
    (of_decide_eq_true (by kernel_rfl)) (by unfold Func.isWrapper; first | (rw [if_pos (by decide +kernel)]; kernel_rfl) | (rw [if_neg (by decide +kernel)]; exact ⟨rfl, rfl⟩))
    (fun os started H enc _ => penOrder_lifted os started H enc)
end Go.Proofs.YtollccpghhgpfaaGreat

