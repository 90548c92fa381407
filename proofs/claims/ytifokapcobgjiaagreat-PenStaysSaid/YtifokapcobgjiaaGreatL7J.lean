/- PenStays: whatever the yard, the stays and the two numbers, the law returns true, and its arguments read as before. No condition. -/
import Derived.Test.YtifokapcobgjiaaGreatJj
import Derived.Test.YtifokapcobgjiaaGreatJo
import Derived.Test.YtifokapcobgjiaaGreatJp
set_option linter.unusedVariables false
set_option linter.unusedSimpArgs false
set_option linter.unusedSectionVars false
namespace Go.Proofs.YtifokapcobgjiaaGreat
open Go Go.ChangeShapes Go.WideShapes Go.RowKit Go.Deep
set_option maxHeartbeats 4000000
set_option maxRecDepth 100000

theorem las_same {P : List Int} {K : List Kd} {l : List St} {f v x v' x' : Int} (h : (lasE P K l f ≠ 0 ∧ v = 0 ∧ x = lasE P K l f) ∨ (lasE P K l f = 0 ∧ LasP K l f v x)) (h' : (lasE P K l f ≠ 0 ∧ v' = 0 ∧ x' = lasE P K l f) ∨ (lasE P K l f = 0 ∧ LasP K l f v' x')) : v' = v ∧ x' = x := by
  rcases h with ⟨a1, a2, a3⟩ | ⟨a1, a2⟩ <;> rcases h' with ⟨b1, b2, b3⟩ | ⟨b1, b2⟩
  · exact ⟨b2.trans a2.symm, b3.trans a3.symm⟩
  · exact absurd b1 a1
  · exact absurd a1 b1
  · obtain ⟨h1, -⟩ := orE2_0 a1
    obtain ⟨hy, -, -⟩ := ssE_0 h1
    have := LasP.one (yOk_k hy).2.2 a2 b2
    exact ⟨this.1.symm, this.2.symm⟩
theorem penStays_any (A : Option Addr) (n c : Nat) (P : List Int) (B : Option Addr) (m d : Nat) (K : List Kd) (L : Option Addr) (r s : Nat) (l : List St) (n0 n1 : Int) (w : World) (hp : Is w A n P) (hg : Ks w B m K) (hl : Ss w L r l) :
    Calls Tryz.prog 7 #[.agg #[.slice A n c, .slice B m d], .slice L r s, .agg #[.int .i64 n0, .int .i64 n1]] w fun e w' => e = .returned (.bool true) ∧ Below w.heap.size w w' := by
  have Hp := Lib.hid hp; have Hg := Lib.hid hg; have Hl := Lib.hid hl
  clear hp hg hl
  go_enter Tryz.func7, Tryz.ntmps7
  go_upto_region 1 with fail
  generalize hW : (World.alloc _ _) = W
  have HB : Hid (Below w.heap.size w W) := Lib.hid (by subst hW; go_grown)
  have KY : Bx W (w.heap.size) 25 [.slice A n c, .slice B m d] := by subst hW; repeat (first | (refine Bx.newAt _ _ _ ?_; first | rfl | (simp only [World.size_alloc]; done) | (simp only [World.size_alloc]; omega)) | refine Bx.old ?_ _)
  have KS : Bx W (w.heap.size + 1) 26 [.int .i64 n0, .int .i64 n1] := by subst hW; repeat (first | (refine Bx.newAt _ _ _ ?_; first | rfl | (simp only [World.size_alloc]; done) | (simp only [World.size_alloc]; omega)) | refine Bx.old ?_ _)
  clear hW
  have KYl := KY.lt; have KYc := KY.get; have KYf := KY.fr; have KSl := KS.lt; have KSc := KS.get; have KSf := KS.fr
  go_upto_region 2 with (go_at_call 48; refine (There_any A n c P B m d K L r s l n0 _ (Hp.out.keep HB.out) (Hg.out.keep HB.out) (Hl.out.keep HB.out)).mono ?_; rintro e X1 ⟨v1, rfl, hv, hbx⟩; obtain ⟨C1, k1, c1, rfl, hk1, hi1, -⟩ := hv; have HI1 := Lib.hid hi1; clear hi1; clear KYl KYc KYf; replace KY := KY.keep hbx; have KYl := KY.lt; have KYc := KY.get; have KYf := KY.fr; clear KSl KSc KSf; replace KS := KS.keep hbx; have KSl := KS.lt; have KSc := KS.get; have KSf := KS.fr; replace HB := Lib.hid (up HB.out hbx); clear hbx)
  go_upto_region 3 with (go_at_call 49; refine (rThere_any A n c P B m d K L r s l n0 _ (Hp.out.keep HB.out) (Hg.out.keep HB.out) (Hl.out.keep HB.out)).mono ?_; rintro e X2 ⟨v2, rfl, hv, hbx⟩; obtain ⟨C2, c2, rfl, hk2, hi2, -⟩ := hv.is; have HI2 := Lib.hid hi2; clear hi2 hv; replace HI1 := Lib.hid (HI1.out.keep hbx); clear KYl KYc KYf; replace KY := KY.keep hbx; have KYl := KY.lt; have KYc := KY.get; have KYf := KY.fr; clear KSl KSc KSf; replace KS := KS.keep hbx; have KSl := KS.lt; have KSc := KS.get; have KSf := KS.fr; replace HB := Lib.hid (up HB.out hbx); clear hbx)
  generalize (if thrE P K l n0 = 0 then thL l n0 else []) = T at *
  go_upto_region 4 with (go_at_call 50; refine (Full_any A n c P B m d K L r s l _ (Hp.out.keep HB.out) (Hg.out.keep HB.out) (Hl.out.keep HB.out)).mono ?_; rintro e X3 ⟨rfl, hbx⟩; replace HI1 := Lib.hid (HI1.out.keep hbx); replace HI2 := Lib.hid (HI2.out.keep hbx); clear KYl KYc KYf; replace KY := KY.keep hbx; have KYl := KY.lt; have KYc := KY.get; have KYf := KY.fr; clear KSl KSc KSf; replace KS := KS.keep hbx; have KSl := KS.lt; have KSc := KS.get; have KSf := KS.fr; replace HB := Lib.hid (up HB.out hbx); clear hbx)
  go_upto_region 5 with (go_at_call 51; refine (rFull_any A n c P B m d K L r s l _ (Hp.out.keep HB.out) (Hg.out.keep HB.out) (Hl.out.keep HB.out)).mono ?_; rintro e X4 ⟨rfl, hbx⟩; replace HI1 := Lib.hid (HI1.out.keep hbx); replace HI2 := Lib.hid (HI2.out.keep hbx); clear KYl KYc KYf; replace KY := KY.keep hbx; have KYl := KY.lt; have KYc := KY.get; have KYf := KY.fr; clear KSl KSc KSf; replace KS := KS.keep hbx; have KSl := KS.lt; have KSc := KS.get; have KSf := KS.fr; replace HB := Lib.hid (up HB.out hbx); clear hbx)
  generalize fulD P K l = FD at *
  generalize fulE P K l = FE at *
  go_upto_region 6 with (go_at_call 52; refine (Eaten_any A n c P B m d K L r s l n0 _ (Hp.out.keep HB.out) (Hg.out.keep HB.out) (Hl.out.keep HB.out)).mono ?_; rintro e X5 ⟨rfl, hbx⟩; replace HI1 := Lib.hid (HI1.out.keep hbx); replace HI2 := Lib.hid (HI2.out.keep hbx); clear KYl KYc KYf; replace KY := KY.keep hbx; have KYl := KY.lt; have KYc := KY.get; have KYf := KY.fr; clear KSl KSc KSf; replace KS := KS.keep hbx; have KSl := KS.lt; have KSc := KS.get; have KSf := KS.fr; replace HB := Lib.hid (up HB.out hbx); clear hbx)
  go_upto_region 7 with (go_at_call 53; refine (rEaten_any A n c P B m d K L r s l n0 _ (Hp.out.keep HB.out) (Hg.out.keep HB.out) (Hl.out.keep HB.out)).mono ?_; rintro e X6 ⟨rfl, hbx⟩; replace HI1 := Lib.hid (HI1.out.keep hbx); replace HI2 := Lib.hid (HI2.out.keep hbx); clear KYl KYc KYf; replace KY := KY.keep hbx; have KYl := KY.lt; have KYc := KY.get; have KYf := KY.fr; clear KSl KSc KSf; replace KS := KS.keep hbx; have KSl := KS.lt; have KSc := KS.get; have KSf := KS.fr; replace HB := Lib.hid (up HB.out hbx); clear hbx)
  generalize (if thrE P K l n0 = 0 then eatL K l n0 else 0) = EA at *
  generalize thrE P K l n0 = TE at *
  go_upto_region 8 with (go_at_call 54; refine (Lasts_any A n c P B m d K L r s l n1 _ (Hp.out.keep HB.out) (Hg.out.keep HB.out) (Hl.out.keep HB.out)).mono ?_; rintro e X7 ⟨lv, lx, rfl, hlas, hbx⟩; have HLas := Lib.hid hlas; clear hlas; replace HI1 := Lib.hid (HI1.out.keep hbx); replace HI2 := Lib.hid (HI2.out.keep hbx); clear KYl KYc KYf; replace KY := KY.keep hbx; have KYl := KY.lt; have KYc := KY.get; have KYf := KY.fr; clear KSl KSc KSf; replace KS := KS.keep hbx; have KSl := KS.lt; have KSc := KS.get; have KSf := KS.fr; replace HB := Lib.hid (up HB.out hbx); clear hbx)
  go_upto_region 9 with (go_at_call 55; refine (rLasts_any A n c P B m d K L r s l n1 _ (Hp.out.keep HB.out) (Hg.out.keep HB.out) (Hl.out.keep HB.out)).mono ?_; rintro e X8 ⟨lv2, lx2, rfl, hlas, hbx⟩; obtain ⟨rfl, rfl⟩ := las_same HLas.out hlas; clear hlas; replace HI1 := Lib.hid (HI1.out.keep hbx); replace HI2 := Lib.hid (HI2.out.keep hbx); clear KYl KYc KYf; replace KY := KY.keep hbx; have KYl := KY.lt; have KYc := KY.get; have KYf := KY.fr; clear KSl KSc KSf; replace KS := KS.keep hbx; have KSl := KS.lt; have KSc := KS.get; have KSf := KS.fr; replace HB := Lib.hid (up HB.out hbx); clear hbx)
  have HEQ : Hid (∀ V, Below w.heap.size w V → Calls Tryz.prog 56 #[.agg #[.slice A n c, .slice B m d], .slice L r s] V fun e w' => e = .returned (.int .i64 (ssE P K l)) ∧ Below V.heap.size V w') := Lib.hid (fun V hV => checkStays_any A n c P B m d K L r s l V (Hp.out.keep hV) (Hg.out.keep hV) (Hl.out.keep hV))
  have HEQ2 : Hid (∀ V, Below w.heap.size w V → Calls Tryz.prog 57 #[.agg #[.slice A n c, .slice B m d], .slice L r s] V fun e w' => e = .returned (.int .i64 (ssE P K l)) ∧ Below V.heap.size V w') := Lib.hid (fun V hV => rcheckStays_any A n c P B m d K L r s l V (Hp.out.keep hV) (Hg.out.keep hV) (Hl.out.keep hV))
  have HSM : Hid (∀ V, Below X8.heap.size X8 V → Calls Tryz.prog 29 #[.slice C1 k1 c1, .slice C2 T.length c2] V fun e w' => e = .returned (.bool true) ∧ Below V.heap.size V w') := Lib.hid (fun V hV => by
    have := Same_any C1 k1 c1 T C2 T.length c2 T V (HI1.out.keep hV) (HI2.out.keep hV)
    rwa [show (T == T) = true by simp] at this)
  generalize ssE P K l = SE at *
  clear HLas HI1 HI2 Hp Hg Hl
  generalize T.length = TL at *
  refine wp_region_grow (by kernel_rfl) (by kernel_rfl) ?_
  repeat (go_big_quiet_step ((first | (go_at_call 29; exact quiet_grow rfl (HSM.out _ (grow_below _ _))) | (go_at_call 56; exact quiet_grow rfl (HEQ.out _ (up HB.out (grow_below _ _)))) | (go_at_call 57; exact quiet_grow rfl (HEQ2.out _ (up HB.out (grow_below _ _)))) | (go_at_call 22; exact quiet_grow rfl (sane_any _)))))
  refine wpQuiet_nil ?_
  intro z
  go_wp2
  go_ret
  exact ⟨rfl, up HB.out (grow_below _ _)⟩

theorem penStays_lifted (os : Os) (started : os.Started) (H : Type) (enc : TypeId × Value → H) :
    ReturnsInHanded {} Tryz.checked os 7 .any (Rows.penStaysSpec.pre6 enc Tryz.prog Tryz.f7 Rows.penStaysRow.domain false) (Rows.penStaysSpec.post enc Tryz.prog Tryz.f7 false true false false) := by
  refine law_lift started (by kernel_rfl) Tryz.func7 (ChangeSpec.witness6 (enc := enc) (C := Tryz.checked) false ⟨#[], #[.agg #[.slice none 0 0, .slice none 0 0], .slice none 0 0, .agg #[.int .i64 0, .int .i64 0]], []⟩ 8 (by kernel_rfl) (by kernel_rfl) (by kernel_rfl) (by kernel_rfl))
    rfl rfl (fun ds h => ?_) ?_ ?_
  · match ds, h with
    | [a, b, c], _ => rfl
  · rw [Tryz.params7]; intro t ht; simp at ht; rcases ht with rfl | rfl | rfl <;> exact ⟨by kernel_rfl, of_decide_eq_true (by kernel_rfl)⟩
  · intro W base args ds p hval hA hz
    rw [Tryz.params7] at hA hval hz
    obtain ⟨v0, v1, v2, d0, d1, d2, p0, p1, p2, rfl, rfl, rfl, h0, h1, h2⟩ := trodAll_three hA
    obtain ⟨A, n, c, P, B, m, d, K, rfl, hp, hg, _, _⟩ := open_yard (hval 0 25 v0 rfl rfl) h0 (hz 0 25 d0 rfl rfl)
    obtain ⟨L, r, s, l, rfl, hl, _, _⟩ := open_stays (hval 1 58 v1 rfl rfl) h1 (hz 1 58 d1 rfl rfl)
    obtain ⟨n0, n1, rfl, _, _⟩ := open_two (hval 2 26 v2 rfl rfl) h2
    exact penStays_any A n c P B m d K L r s l n0 n1 W hp hg hl

theorem penStays_holds : Rows.PenStaysSaid :=
  OpenClaim.holds_of_wide 7 Tryz.f7 rfl rfl rfl rfl rfl rfl rfl ⟨rfl, rfl, rfl, rfl, rfl⟩ rfl rfl rfl rfl rfl (by kernel_rfl) Tryz.func7 (by kernel_rfl)
    (of_decide_eq_true (by kernel_rfl)) (by unfold Func.isWrapper; first | (rw [if_pos (by decide +kernel)]; kernel_rfl) | (rw [if_neg (by decide +kernel)]; exact ⟨rfl, rfl⟩))
    (fun os started H enc _ => penStays_lifted os started H enc)
end Go.Proofs.YtifokapcobgjiaaGreat

