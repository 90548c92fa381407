/- PenEither: whatever the yard, the beasts, the placement and the reason, the law returns true, and its arguments read as before. No condition. -/
import Derived.Test.YtifokapcobgjiaaGreatJj
import Derived.Test.YtifokapcobgjiaaGreatJq
import Derived.Test.YtifokapcobgjiaaGreatJr
import Derived.Test.YtifokapcobgjiaaGreatJx
set_option linter.unusedVariables false
set_option linter.unusedSimpArgs false
set_option linter.unusedSectionVars false
namespace Go.Proofs.YtifokapcobgjiaaGreat
open Go Go.ChangeShapes Go.WideShapes Go.RowKit Go.Deep
set_option maxHeartbeats 4000000
set_option maxRecDepth 100000

theorem checkRefusal_any (A : Option Addr) (n c : Nat) (P : List Int) (B : Option Addr) (m d : Nat) (K : List Kd) (L : Option Addr) (r s : Nat) (l : List Int) (kd : Int) (C : Option Addr) (u v : Nat) (b : List Int) (w : World) (hp : Is w A n P) (hg : Ks w B m K) (hl : Is w L r l) (hc : Is w C u b) (huv : u ≤ v ∧ v ≤ 9223372036854775807) :
    Calls Tryz.prog 46 #[.agg #[.slice A n c, .slice B m d], .slice L r s, .agg #[.int .i64 kd, .slice C u v]] w fun e w' => e = .returned (.int .i64 (rsnE P K l kd b)) ∧ Below w.heap.size w w' := by
  by_cases h0 : sE P K l = 0
  · cases hR : risC l.length b
    · exact checkRefusal_bad A n c P B m d K L r s l kd C u v b w hp hg hl hc huv.1 huv.2 h0 hR
    · exact checkRefusal_ok A n c P B m d K L r s l kd C u v b w hp hg hl hc huv.1 huv.2 h0 hR
  · exact checkRefusal_no A n c P B m d K L r s l kd C u v b w hp hg hl hc h0
section
variable (A : Option Addr) (n c : Nat) (P : List Int) (B : Option Addr) (m d : Nat) (K : List Kd) (L : Option Addr) (r s : Nat) (l : List Int) (C : Option Addr) (u v : Nat) (q : List Int) (kd : Int) (D : Option Addr) (x y : Nat) (b : List Int) (w : World) (hp : Is w A n P) (hg : Ks w B m K) (hl : Is w L r l) (hc : Is w C u q) (hd : Is w D x b) (hxy : x ≤ y ∧ y ≤ 9223372036854775807)
include hp hg hl hc hd hxy
theorem penEither_no (h0 : sE P K l ≠ 0) :
    Calls Tryz.prog 8 #[.agg #[.slice A n c, .slice B m d], .slice L r s, .agg #[.slice C u v, .int .i64 kd, .slice D x y]] w fun e w' => e = .returned (.bool true) ∧ Below w.heap.size w w' := by
  have Hp := Lib.hid hp; have Hg := Lib.hid hg; have Hl := Lib.hid hl
  have HR : Hid ((sE P K l == 0) = false) := Lib.hid (by simpa using h0)
  clear hp hg hl hc hd hxy h0
  go_enter Tryz.func8, Tryz.ntmps8
  go_upto_region 1 with fail
  generalize hW : (World.alloc _ _) = W
  have HB : Hid (Below w.heap.size w W) := Lib.hid (by subst hW; go_grown)
  have KY : Bx W (w.heap.size) 25 [.slice A n c, .slice B m d] := by subst hW; repeat (first | (refine Bx.newAt _ _ _ ?_; first | rfl | (simp only [World.size_alloc]; done) | (simp only [World.size_alloc]; omega)) | refine Bx.old ?_ _)
  have KS : Bx W (w.heap.size + 1) 65 [.slice C u v, .int .i64 kd, .slice D x y] := by subst hW; repeat (first | (refine Bx.newAt _ _ _ ?_; first | rfl | (simp only [World.size_alloc]; done) | (simp only [World.size_alloc]; omega)) | refine Bx.old ?_ _)
  clear hW
  have KYl := KY.lt; have KYc := KY.get; have KYf := KY.fr; have KSl := KS.lt; have KSc := KS.get; have KSf := KS.fr
  go_wp2_with (first
    | (go_at_call 58; refine (right_any A n c P B m d K L r s l _ (Hp.out.keep HB.out) (Hg.out.keep HB.out) (Hl.out.keep HB.out)).mono ?_; rintro e X ⟨rfl, hbx⟩; rw [HR.out]; clear KYl KYc KYf; replace KY := KY.keep hbx; have KYl := KY.lt; have KYc := KY.get; have KYf := KY.fr; clear KSl KSc KSf; replace KS := KS.keep hbx; have KSl := KS.lt; have KSc := KS.get; have KSf := KS.fr; replace HB := Lib.hid (up HB.out hbx); clear hbx)
    | (go_at_call 22; refine (sane_any _).mono ?_; rintro e X2 ⟨rfl, hbx⟩; clear KYl KYc KYf; replace KY := KY.keep hbx; have KYl := KY.lt; have KYc := KY.get; have KYf := KY.fr; clear KSl KSc KSf; replace KS := KS.keep hbx; have KSl := KS.lt; have KSc := KS.get; have KSf := KS.fr; replace HB := Lib.hid (up HB.out hbx); clear hbx))
  go_ret
  exact ⟨rfl, HB.out⟩
theorem penEither_nil (h0 : sE P K l = 0) (hG : PL P K l = []) :
    Calls Tryz.prog 8 #[.agg #[.slice A n c, .slice B m d], .slice L r s, .agg #[.slice C u v, .int .i64 kd, .slice D x y]] w fun e w' => e = .returned (.bool true) ∧ Below w.heap.size w w' := by
  have Hp := Lib.hid hp; have Hg := Lib.hid hg; have Hl := Lib.hid hl; have Hc := Lib.hid hc; have Hd := Lib.hid hd; have Hxy := Lib.hid hxy
  have HR : Hid ((sE P K l == 0) = true) := Lib.hid (by simpa using h0)
  have HE : Hid (nthE P K l 0 53 = 53) := Lib.hid (by unfold nthE; rw [if_pos h0, hG]; rfl)
  obtain ⟨hw1, hw2⟩ := why_rsn h0 hG
  have HF : Hid (refE P K l = 0) := Lib.hid (by unfold refE; rw [if_pos h0, if_pos hG, if_neg hw1])
  have HW : Hid (refP P K l = whyP P K l) := Lib.hid (by unfold refP; rw [if_pos ⟨h0, hG⟩])
  generalize whyP P K l = Y at *
  obtain ⟨yk, yb⟩ := Y
  have HN := Lib.hid hw2
  have hEP : ¬ plE P K l q = 0 := fun h => by have := (PL_mem h0).2 h; rw [hG] at this; cases this
  obtain ⟨EP, hEP1⟩ : ∃ EP, plE P K l q = EP := ⟨_, rfl⟩
  have HEP := Lib.hid hEP1
  rw [hEP1] at hEP
  have hEb : (EP == 0) = false := by simpa using hEP
  obtain ⟨RS, hRS1⟩ : ∃ RS, rsnE P K l kd b = RS := ⟨_, rfl⟩
  have HRS := Lib.hid hRS1
  clear hp hg hl hc hd hxy h0 hG hw1 hw2 hEP1 hEP hRS1
  go_enter Tryz.func8, Tryz.ntmps8
  go_upto_region 1 with fail
  generalize hW : (World.alloc _ _) = W
  have HB : Hid (Below w.heap.size w W) := Lib.hid (by subst hW; go_grown)
  have KY : Bx W (w.heap.size) 25 [.slice A n c, .slice B m d] := by subst hW; repeat (first | (refine Bx.newAt _ _ _ ?_; first | rfl | (simp only [World.size_alloc]; done) | (simp only [World.size_alloc]; omega)) | refine Bx.old ?_ _)
  have KS : Bx W (w.heap.size + 1) 65 [.slice C u v, .int .i64 kd, .slice D x y] := by subst hW; repeat (first | (refine Bx.newAt _ _ _ ?_; first | rfl | (simp only [World.size_alloc]; done) | (simp only [World.size_alloc]; omega)) | refine Bx.old ?_ _)
  clear hW
  have KYl := KY.lt; have KYc := KY.get; have KYf := KY.fr; have KSl := KS.lt; have KSc := KS.get; have KSf := KS.fr
  go_upto_region 3 with (go_at_call 58; refine (right_any A n c P B m d K L r s l _ (Hp.out.keep HB.out) (Hg.out.keep HB.out) (Hl.out.keep HB.out)).mono ?_; rintro e X ⟨rfl, hbx⟩; rw [HR.out]; clear KYl KYc KYf; replace KY := KY.keep hbx; have KYl := KY.lt; have KYc := KY.get; have KYf := KY.fr; clear KSl KSc KSf; replace KS := KS.keep hbx; have KSl := KS.lt; have KSc := KS.get; have KSf := KS.fr; replace HB := Lib.hid (up HB.out hbx); clear hbx)
  go_upto_region 4 with (go_at_call 23; refine (Place_any A n c P B m d K L r s l _ (Hp.out.keep HB.out) (Hg.out.keep HB.out) (Hl.out.keep HB.out)).mono ?_; rintro e X1 ⟨v1, rfl, hv1, hbx⟩; rw [HE.out]; clear hv1; clear KYl KYc KYf; replace KY := KY.keep hbx; have KYl := KY.lt; have KYc := KY.get; have KYf := KY.fr; clear KSl KSc KSf; replace KS := KS.keep hbx; have KSl := KS.lt; have KSc := KS.get; have KSf := KS.fr; replace HB := Lib.hid (up HB.out hbx); clear hbx)
  go_upto_region 5 with (first
    | (go_at_call 42; refine (Refuse_any A n c P B m d K L r s l _ (Hp.out.keep HB.out) (Hg.out.keep HB.out) (Hl.out.keep HB.out)).mono ?_; rintro e X2 ⟨v2, rfl, hv, hbx⟩; rw [HF.out]; rw [HW.out] at hv ⊢; obtain ⟨C2, k2, c2, rfl, hk2, h2, -⟩ := hv; have H2 := Lib.hid h2; have Hk2 := Lib.hid hk2; clear h2 hk2; clear KYl KYc KYf; replace KY := KY.keep hbx; have KYl := KY.lt; have KYc := KY.get; have KYf := KY.fr; clear KSl KSc KSf; replace KS := KS.keep hbx; have KSl := KS.lt; have KSc := KS.get; have KSf := KS.fr; replace HB := Lib.hid (up HB.out hbx); clear hbx)
    | (refine wpList_putNew 53 9 28 rfl rfl rfl rfl (by kernel_rfl) rfl (by simp [Value.oneCell']) ?_; intro T KK hbt hst; replace H2 := Lib.hid (H2.out.keep hbt); clear KYl KYc KYf; replace KY := KY.keep hbt; have KYl := KY.lt; have KYc := KY.get; have KYf := KY.fr; clear KSl KSc KSf; replace KS := KS.keep hbt; have KSl := KS.lt; have KSc := KS.get; have KSf := KS.fr; replace HB := Lib.hid (up HB.out hbt); clear hbt; have KKl := KK.lt; have KKc := KK.get; have KKf := KK.fr))
  go_upto_region 6 with (go_at_call 40; refine (checkPlace_any A n c P B m d K L r s l C u v q _ (Hp.out.keep HB.out) (Hg.out.keep HB.out) (Hl.out.keep HB.out) (Hc.out.keep HB.out)).mono ?_; rintro e X4 ⟨rfl, hbx⟩; rw [HEP.out]; replace H2 := Lib.hid (H2.out.keep hbx); clear KYl KYc KYf; replace KY := KY.keep hbx; have KYl := KY.lt; have KYc := KY.get; have KYf := KY.fr; clear KSl KSc KSf; replace KS := KS.keep hbx; have KSl := KS.lt; have KSc := KS.get; have KSf := KS.fr; clear KKl KKc KKf; replace KK := KK.keep hbx; have KKl := KK.lt; have KKc := KK.get; have KKf := KK.fr; replace HB := Lib.hid (up HB.out hbx); clear hbx)
  go_upto_region 7 with (go_at_call 46; refine (checkRefusal_any A n c P B m d K L r s l kd D x y b _ (Hp.out.keep HB.out) (Hg.out.keep HB.out) (Hl.out.keep HB.out) (Hd.out.keep HB.out) Hxy.out).mono ?_; rintro e X5 ⟨rfl, hbx⟩; rw [HRS.out]; replace H2 := Lib.hid (H2.out.keep hbx); clear KYl KYc KYf; replace KY := KY.keep hbx; have KYl := KY.lt; have KYc := KY.get; have KYf := KY.fr; clear KSl KSc KSf; replace KS := KS.keep hbx; have KSl := KS.lt; have KSc := KS.get; have KSf := KS.fr; clear KKl KKc KKf; replace KK := KK.keep hbx; have KKl := KK.lt; have KKc := KK.get; have KKf := KK.fr; replace HB := Lib.hid (up HB.out hbx); clear hbx)
  go_wp2_with (first
    | (go_at_call 46; refine (checkRefusal_any A n c P B m d K L r s l yk C2 k2 c2 yb _ (Hp.out.keep HB.out) (Hg.out.keep HB.out) (Hl.out.keep HB.out) H2.out Hk2.out).mono ?_; rintro e X6 ⟨rfl, hbx⟩; rw [HN.out]; clear KYl KYc KYf; replace KY := KY.keep hbx; have KYl := KY.lt; have KYc := KY.get; have KYf := KY.fr; replace HB := Lib.hid (up HB.out hbx); clear hbx)
    | (go_at_call 22; refine (sane_any _).mono ?_; rintro e X7 ⟨rfl, hbx⟩; clear KYl KYc KYf; replace KY := KY.keep hbx; have KYl := KY.lt; have KYc := KY.get; have KYf := KY.fr; replace HB := Lib.hid (up HB.out hbx); clear hbx))
  go_ret
  exact ⟨rfl, HB.out⟩
theorem penEither_some (h0 : sE P K l = 0) (hG : PL P K l ≠ []) :
    Calls Tryz.prog 8 #[.agg #[.slice A n c, .slice B m d], .slice L r s, .agg #[.slice C u v, .int .i64 kd, .slice D x y]] w fun e w' => e = .returned (.bool true) ∧ Below w.heap.size w w' := by
  have Hp := Lib.hid hp; have Hg := Lib.hid hg; have Hl := Lib.hid hl; have Hc := Lib.hid hc; have Hd := Lib.hid hd; have Hxy := Lib.hid hxy
  have HR : Hid ((sE P K l == 0) = true) := Lib.hid (by simpa using h0)
  have hlen : 0 < (PL P K l).length := List.length_pos_iff.2 hG
  have HE : Hid (nthE P K l 0 53 = 0) := Lib.hid (by unfold nthE; rw [if_pos h0, if_pos (by simp [hlen])])
  have hL0 : nthL P K l 0 = (PL P K l)[0] := by unfold nthL; rw [if_pos h0]; simp [hlen]
  have HPL : Hid (plE P K l (nthL P K l 0) = 0) := Lib.hid (by rw [hL0]; exact (PL_mem h0).1 (List.getElem_mem hlen))
  have HF : Hid (refE P K l = 3) := Lib.hid (by unfold refE; rw [if_pos h0, if_neg hG])
  have HW : Hid (refP P K l = (0, [])) := Lib.hid (by unfold refP; rw [if_neg (fun h => hG h.2)])
  have hRn : ¬ rsnE P K l kd b = 0 := fun h => hG (rsn_pl h0 h)
  obtain ⟨EP, hEP1⟩ : ∃ EP, plE P K l q = EP := ⟨_, rfl⟩
  have HEP := Lib.hid hEP1
  obtain ⟨RS, hRS1⟩ : ∃ RS, rsnE P K l kd b = RS := ⟨_, rfl⟩
  have HRS := Lib.hid hRS1
  rw [hRS1] at hRn
  have hRb : (RS == 0) = false := by simpa using hRn
  obtain ⟨T, hT1⟩ : ∃ T, nthL P K l 0 = T := ⟨_, rfl⟩
  have HT := Lib.hid hT1
  rw [hT1] at HPL
  clear hp hg hl hc hd hxy h0 hG hEP1 hRS1 hRn hlen hL0 hT1
  go_enter Tryz.func8, Tryz.ntmps8
  go_upto_region 1 with fail
  generalize hW : (World.alloc _ _) = W
  have HB : Hid (Below w.heap.size w W) := Lib.hid (by subst hW; go_grown)
  have KY : Bx W (w.heap.size) 25 [.slice A n c, .slice B m d] := by subst hW; repeat (first | (refine Bx.newAt _ _ _ ?_; first | rfl | (simp only [World.size_alloc]; done) | (simp only [World.size_alloc]; omega)) | refine Bx.old ?_ _)
  have KS : Bx W (w.heap.size + 1) 65 [.slice C u v, .int .i64 kd, .slice D x y] := by subst hW; repeat (first | (refine Bx.newAt _ _ _ ?_; first | rfl | (simp only [World.size_alloc]; done) | (simp only [World.size_alloc]; omega)) | refine Bx.old ?_ _)
  clear hW
  have KYl := KY.lt; have KYc := KY.get; have KYf := KY.fr; have KSl := KS.lt; have KSc := KS.get; have KSf := KS.fr
  go_upto_region 3 with (go_at_call 58; refine (right_any A n c P B m d K L r s l _ (Hp.out.keep HB.out) (Hg.out.keep HB.out) (Hl.out.keep HB.out)).mono ?_; rintro e X ⟨rfl, hbx⟩; rw [HR.out]; clear KYl KYc KYf; replace KY := KY.keep hbx; have KYl := KY.lt; have KYc := KY.get; have KYf := KY.fr; clear KSl KSc KSf; replace KS := KS.keep hbx; have KSl := KS.lt; have KSc := KS.get; have KSf := KS.fr; replace HB := Lib.hid (up HB.out hbx); clear hbx)
  go_upto_region 4 with (go_at_call 23; refine (Place_any A n c P B m d K L r s l _ (Hp.out.keep HB.out) (Hg.out.keep HB.out) (Hl.out.keep HB.out)).mono ?_; rintro e X1 ⟨v1, rfl, hv1, hbx⟩; rw [HE.out]; rw [HT.out] at hv1; obtain ⟨C1, k1, c1, rfl, -, h1, -⟩ := hv1; have H1 := Lib.hid h1; clear h1; clear KYl KYc KYf; replace KY := KY.keep hbx; have KYl := KY.lt; have KYc := KY.get; have KYf := KY.fr; clear KSl KSc KSf; replace KS := KS.keep hbx; have KSl := KS.lt; have KSc := KS.get; have KSf := KS.fr; replace HB := Lib.hid (up HB.out hbx); clear hbx)
  go_upto_region 5 with (first
    | (go_at_call 42; refine (Refuse_any A n c P B m d K L r s l _ (Hp.out.keep HB.out) (Hg.out.keep HB.out) (Hl.out.keep HB.out)).mono ?_; rintro e X2 ⟨v2, rfl, hv, hbx⟩; rw [HF.out]; rw [HW.out] at hv ⊢; obtain ⟨C2, k2, c2, rfl, -, -, -⟩ := hv; replace H1 := Lib.hid (H1.out.keep hbx); clear KYl KYc KYf; replace KY := KY.keep hbx; have KYl := KY.lt; have KYc := KY.get; have KYf := KY.fr; clear KSl KSc KSf; replace KS := KS.keep hbx; have KSl := KS.lt; have KSc := KS.get; have KSf := KS.fr; replace HB := Lib.hid (up HB.out hbx); clear hbx)
    | (refine wpList_putNew 53 9 28 rfl rfl rfl rfl (by kernel_rfl) rfl (by simp [Value.oneCell']) ?_; intro T9 KK hbt hst; clear KK; replace H1 := Lib.hid (H1.out.keep hbt); clear KYl KYc KYf; replace KY := KY.keep hbt; have KYl := KY.lt; have KYc := KY.get; have KYf := KY.fr; clear KSl KSc KSf; replace KS := KS.keep hbt; have KSl := KS.lt; have KSc := KS.get; have KSf := KS.fr; replace HB := Lib.hid (up HB.out hbt); clear hbt))
  go_upto_region 6 with (go_at_call 40; refine (checkPlace_any A n c P B m d K L r s l C u v q _ (Hp.out.keep HB.out) (Hg.out.keep HB.out) (Hl.out.keep HB.out) (Hc.out.keep HB.out)).mono ?_; rintro e X4 ⟨rfl, hbx⟩; rw [HEP.out]; replace H1 := Lib.hid (H1.out.keep hbx); clear KYl KYc KYf; replace KY := KY.keep hbx; have KYl := KY.lt; have KYc := KY.get; have KYf := KY.fr; clear KSl KSc KSf; replace KS := KS.keep hbx; have KSl := KS.lt; have KSc := KS.get; have KSf := KS.fr; replace HB := Lib.hid (up HB.out hbx); clear hbx)
  go_upto_region 7 with (go_at_call 46; refine (checkRefusal_any A n c P B m d K L r s l kd D x y b _ (Hp.out.keep HB.out) (Hg.out.keep HB.out) (Hl.out.keep HB.out) (Hd.out.keep HB.out) Hxy.out).mono ?_; rintro e X5 ⟨rfl, hbx⟩; rw [HRS.out]; replace H1 := Lib.hid (H1.out.keep hbx); clear KYl KYc KYf; replace KY := KY.keep hbx; have KYl := KY.lt; have KYc := KY.get; have KYf := KY.fr; clear KSl KSc KSf; replace KS := KS.keep hbx; have KSl := KS.lt; have KSc := KS.get; have KSf := KS.fr; replace HB := Lib.hid (up HB.out hbx); clear hbx)
  cases hEb : (EP == 0)
  all_goals
    go_wp2_with (first
      | (go_at_call 40; refine (checkPlace_any A n c P B m d K L r s l C1 k1 c1 T _ (Hp.out.keep HB.out) (Hg.out.keep HB.out) (Hl.out.keep HB.out) H1.out).mono ?_; rintro e X6 ⟨rfl, hbx⟩; rw [HPL.out]; clear KYl KYc KYf; replace KY := KY.keep hbx; have KYl := KY.lt; have KYc := KY.get; have KYf := KY.fr; replace HB := Lib.hid (up HB.out hbx); clear hbx)
      | (go_at_call 22; refine (sane_any _).mono ?_; rintro e X7 ⟨rfl, hbx⟩; clear KYl KYc KYf; replace KY := KY.keep hbx; have KYl := KY.lt; have KYc := KY.get; have KYf := KY.fr; replace HB := Lib.hid (up HB.out hbx); clear hbx))
    go_ret
    exact ⟨rfl, HB.out⟩
end
theorem penEither_any (A : Option Addr) (n c : Nat) (P : List Int) (B : Option Addr) (m d : Nat) (K : List Kd) (L : Option Addr) (r s : Nat) (l : List Int) (C : Option Addr) (u v : Nat) (q : List Int) (kd : Int) (D : Option Addr) (x y : Nat) (b : List Int) (w : World) (hp : Is w A n P) (hg : Ks w B m K) (hl : Is w L r l) (hc : Is w C u q) (hd : Is w D x b) (hxy : x ≤ y ∧ y ≤ 9223372036854775807) :
    Calls Tryz.prog 8 #[.agg #[.slice A n c, .slice B m d], .slice L r s, .agg #[.slice C u v, .int .i64 kd, .slice D x y]] w fun e w' => e = .returned (.bool true) ∧ Below w.heap.size w w' := by
  by_cases h0 : sE P K l = 0
  · by_cases hG : PL P K l = []
    · exact penEither_nil A n c P B m d K L r s l C u v q kd D x y b w hp hg hl hc hd hxy h0 hG
    · exact penEither_some A n c P B m d K L r s l C u v q kd D x y b w hp hg hl hc hd hxy h0 hG
  · exact penEither_no A n c P B m d K L r s l C u v q kd D x y b w hp hg hl hc hd hxy h0

theorem penEither_lifted (os : Os) (started : os.Started) (H : Type) (enc : TypeId × Value → H) :
    ReturnsInHanded {} Tryz.checked os 8 .any (Rows.penEitherSpec.pre6 enc Tryz.prog Tryz.f8 Rows.penEitherRow.domain false) (Rows.penEitherSpec.post enc Tryz.prog Tryz.f8 false true false false) := by
  refine law_lift started (by kernel_rfl) Tryz.func8 (ChangeSpec.witness6 (enc := enc) (C := Tryz.checked) false ⟨#[], #[.agg #[.slice none 0 0, .slice none 0 0], .slice none 0 0, .agg #[.slice none 0 0, .int .i64 0, .slice none 0 0]], []⟩ 8 (by kernel_rfl) (by kernel_rfl) (by kernel_rfl) (by kernel_rfl))
    rfl rfl (fun ds h => ?_) ?_ ?_
  · match ds, h with
    | [a, b, c], _ => rfl
  · rw [Tryz.params8]; intro t ht; simp at ht; rcases ht with rfl | rfl | rfl <;> exact ⟨by kernel_rfl, of_decide_eq_true (by kernel_rfl)⟩
  · intro W base args ds p hval hA hz
    rw [Tryz.params8] at hA hval hz
    obtain ⟨v0, v1, v2, d0, d1, d2, p0, p1, p2, rfl, rfl, rfl, h0, h1, h2⟩ := trodAll_three hA
    obtain ⟨A, n, c, P, B, m, d, K, rfl, hp, hg, _, _⟩ := open_yard (hval 0 25 v0 rfl rfl) h0 (hz 0 25 d0 rfl rfl)
    obtain ⟨L, r, s, l, rfl, hl, _, _, _⟩ := open_is (hval 1 22 v1 rfl rfl) h1 (hz 1 22 d1 rfl rfl)
    obtain ⟨C, u, v, q, kd, D, x, y, b, rfl, hc, hd, hxy, hy⟩ := open_told (hval 2 65 v2 rfl rfl) h2 (hz 2 65 d2 rfl rfl)
    exact penEither_any A n c P B m d K L r s l C u v q kd D x y b W hp hg hl hc hd ⟨hxy, hy⟩

theorem penEither_holds : Rows.PenEitherSaid :=
  OpenClaim.holds_of_wide 8 Tryz.f8 rfl rfl rfl rfl rfl rfl rfl ⟨rfl, rfl, rfl, rfl, rfl⟩ rfl rfl rfl rfl rfl (by kernel_rfl) Tryz.func8 (by kernel_rfl)
    (of_decide_eq_true (by kernel_rfl)) (by unfold Func.isWrapper; first | (rw [if_pos (by decide +kernel)]; kernel_rfl) | (rw [if_neg (by decide +kernel)]; exact ⟨rfl, rfl⟩))
    (fun os started H enc _ => penEither_lifted os started H enc)
end Go.Proofs.YtifokapcobgjiaaGreat

