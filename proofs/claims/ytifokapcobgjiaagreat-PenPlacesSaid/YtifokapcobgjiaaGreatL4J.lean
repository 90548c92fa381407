/- PenPlaces: whatever the yard, the beasts and the index, the law returns true, and its arguments read as before. No condition. -/
import Derived.Test.YtifokapcobgjiaaGreatJj
import Derived.Test.YtifokapcobgjiaaGreatJn
import Derived.Test.YtifokapcobgjiaaGreatJo
set_option linter.unusedVariables false
set_option linter.unusedSimpArgs false
set_option linter.unusedSectionVars false
namespace Go.Proofs.YtifokapcobgjiaaGreat
open Go Go.ChangeShapes Go.WideShapes Go.RowKit Go.Deep
set_option maxHeartbeats 4000000
set_option maxRecDepth 100000

theorem same_t (T : List Int) {C D : Option Addr} {k j c e : Nat} {V : World} (h1 : Is V C k T) (h2 : Is V D j T) :
    Calls Tryz.prog 29 #[.slice C k c, .slice D j e] V fun e w' => e = .returned (.bool true) ∧ Below V.heap.size V w' := by
  have := Same_any C k c T D j e T V h1 h2
  rwa [show (T == T) = true by simp] at this
theorem penPlaces_any (A : Option Addr) (n c : Nat) (P : List Int) (B : Option Addr) (m d : Nat) (K : List Kd) (L : Option Addr) (r s : Nat) (l : List Int) (i : Int) (w : World) (hp : Is w A n P) (hg : Ks w B m K) (hl : Is w L r l) :
    Calls Tryz.prog 4 #[.agg #[.slice A n c, .slice B m d], .slice L r s, .int .i64 i] w fun e w' => e = .returned (.bool true) ∧ Below w.heap.size w w' := by
  have Hp := Lib.hid hp; have Hg := Lib.hid hg; have Hl := Lib.hid hl
  clear hp hg hl
  go_enter Tryz.func4, Tryz.ntmps4
  go_upto_region 1 with fail
  generalize hW : (World.alloc _ _) = W
  have HB : Hid (Below w.heap.size w W) := Lib.hid (by subst hW; go_grown)
  have KY : Bx W (w.heap.size) 25 [.slice A n c, .slice B m d] := by subst hW; repeat (first | (refine Bx.newAt _ _ _ ?_; first | rfl | (simp only [World.size_alloc]; done) | (simp only [World.size_alloc]; omega)) | refine Bx.old ?_ _)
  clear hW
  have KYl := KY.lt; have KYc := KY.get; have KYf := KY.fr
  go_upto_region 2 with (go_at_call 23; refine (Place_any A n c P B m d K L r s l _ (Hp.out.keep HB.out) (Hg.out.keep HB.out) (Hl.out.keep HB.out)).mono ?_; rintro e X1 ⟨v1, rfl, hv, hbx⟩; obtain ⟨C1, k1, c1, rfl, hk1, hi1, -⟩ := hv; have HI1 := Lib.hid hi1; clear hi1 hk1; clear KYl KYc KYf; replace KY := KY.keep hbx; have KYl := KY.lt; have KYc := KY.get; have KYf := KY.fr; replace HB := Lib.hid (up HB.out hbx); clear hbx)
  go_upto_region 3 with (go_at_call 24; refine (rPlace_any A n c P B m d K L r s l _ (Hp.out.keep HB.out) (Hg.out.keep HB.out) (Hl.out.keep HB.out)).mono ?_; rintro e X2 ⟨C2, k2, c2, rfl, hi2, hbx⟩; have HI2 := Lib.hid hi2; clear hi2; replace HI1 := Lib.hid (HI1.out.keep hbx); clear KYl KYc KYf; replace KY := KY.keep hbx; have KYl := KY.lt; have KYc := KY.get; have KYf := KY.fr; replace HB := Lib.hid (up HB.out hbx); clear hbx)
  generalize nthL P K l 0 = T at *
  generalize nthE P K l 0 53 = E1 at *
  go_upto_region 4 with (go_at_call 25; refine (Count_any A n c P B m d K L r s l _ (Hp.out.keep HB.out) (Hg.out.keep HB.out) (Hl.out.keep HB.out)).mono ?_; rintro e X3 ⟨rfl, hbx⟩; replace HI1 := Lib.hid (HI1.out.keep hbx); replace HI2 := Lib.hid (HI2.out.keep hbx); clear KYl KYc KYf; replace KY := KY.keep hbx; have KYl := KY.lt; have KYc := KY.get; have KYf := KY.fr; replace HB := Lib.hid (up HB.out hbx); clear hbx)
  go_upto_region 5 with (go_at_call 26; refine (rCount_any A n c P B m d K L r s l _ (Hp.out.keep HB.out) (Hg.out.keep HB.out) (Hl.out.keep HB.out)).mono ?_; rintro e X4 ⟨rfl, hbx⟩; replace HI1 := Lib.hid (HI1.out.keep hbx); replace HI2 := Lib.hid (HI2.out.keep hbx); clear KYl KYc KYf; replace KY := KY.keep hbx; have KYl := KY.lt; have KYc := KY.get; have KYf := KY.fr; replace HB := Lib.hid (up HB.out hbx); clear hbx)
  generalize cntN P K l = CN at *
  generalize sE P K l = SE at *
  go_upto_region 6 with (go_at_call 27; refine (Nth_any A n c P B m d K L r s l i _ (Hp.out.keep HB.out) (Hg.out.keep HB.out) (Hl.out.keep HB.out)).mono ?_; rintro e X5 ⟨v5, rfl, hv, hbx⟩; obtain ⟨C5, k5, c5, rfl, hk5, hi5, -⟩ := hv; have HI5 := Lib.hid hi5; clear hi5 hk5; replace HI1 := Lib.hid (HI1.out.keep hbx); replace HI2 := Lib.hid (HI2.out.keep hbx); clear KYl KYc KYf; replace KY := KY.keep hbx; have KYl := KY.lt; have KYc := KY.get; have KYf := KY.fr; replace HB := Lib.hid (up HB.out hbx); clear hbx)
  go_upto_region 7 with (go_at_call 28; refine (rNth_any A n c P B m d K L r s l _ (Hp.out.keep HB.out) (Hg.out.keep HB.out) (Hl.out.keep HB.out) i).mono ?_; rintro e X6 ⟨C6, k6, c6, rfl, hi6, hbx⟩; have HI6 := Lib.hid hi6; clear hi6; replace HI1 := Lib.hid (HI1.out.keep hbx); replace HI2 := Lib.hid (HI2.out.keep hbx); replace HI5 := Lib.hid (HI5.out.keep hbx); clear KYl KYc KYf; replace KY := KY.keep hbx; have KYl := KY.lt; have KYc := KY.get; have KYf := KY.fr; replace HB := Lib.hid (up HB.out hbx); clear hbx)
  generalize nthM P K l i = T2 at *
  generalize nthF P K l i = E2 at *
  clear Hp Hg Hl
  go_wp2_with (first
    | (go_at_call_of 29 (Value.slice C1 k1 c1); refine (same_t T HI1.out HI2.out).mono ?_; rintro e X7 ⟨rfl, hb7⟩; have HI5b := Lib.hid (HI5.out.keep hb7); have HI6b := Lib.hid (HI6.out.keep hb7); have HB7 := Lib.hid (up HB.out hb7); clear hb7)
    | (go_at_call_of 29 (Value.slice C5 k5 c5); refine (same_t T2 HI5b.out HI6b.out).mono ?_; rintro e X8 ⟨rfl, hb8⟩; have HB8 := Lib.hid (up HB7.out hb8); clear hb8)
    | (go_at_call 22; refine (sane_any _).mono ?_; rintro e X9 ⟨rfl, hb9⟩; have HB9 := Lib.hid (up HB8.out hb9); clear hb9))
  go_ret
  exact ⟨rfl, HB9.out⟩

theorem penPlaces_lifted (os : Os) (started : os.Started) (H : Type) (enc : TypeId × Value → H) :
    ReturnsInHanded {} Tryz.checked os 4 .any (Rows.penPlacesSpec.pre6 enc Tryz.prog Tryz.f4 Rows.penPlacesRow.domain false) (Rows.penPlacesSpec.post enc Tryz.prog Tryz.f4 false true false false) := by
  refine law_lift started (by kernel_rfl) Tryz.func4 (ChangeSpec.witness6 (enc := enc) (C := Tryz.checked) false ⟨#[], #[.agg #[.slice none 0 0, .slice none 0 0], .slice none 0 0, .int .i64 0], []⟩ 8 (by kernel_rfl) (by kernel_rfl) (by kernel_rfl) (by kernel_rfl))
    rfl rfl (fun ds h => ?_) ?_ ?_
  · match ds, h with
    | [a, b, c], _ => rfl
  · rw [Tryz.params4]; intro t ht; simp at ht; rcases ht with rfl | rfl | rfl <;> exact ⟨by kernel_rfl, of_decide_eq_true (by kernel_rfl)⟩
  · intro W base args ds p hval hA hz
    rw [Tryz.params4] at hA hval hz
    obtain ⟨v0, v1, v2, d0, d1, d2, p0, p1, p2, rfl, rfl, rfl, h0, h1, h2⟩ := trodAll_three hA
    obtain ⟨A, n, c, P, B, m, d, K, rfl, hp, hg, _, _⟩ := open_yard (hval 0 25 v0 rfl rfl) h0 (hz 0 25 d0 rfl rfl)
    obtain ⟨L, r, s, l, rfl, hl, _, _, _⟩ := open_is (hval 1 22 v1 rfl rfl) h1 (hz 1 22 d1 rfl rfl)
    obtain ⟨x, rfl, _⟩ := open_int3 (hval 2 3 v2 rfl rfl) h2
    exact penPlaces_any A n c P B m d K L r s l x W hp hg hl

theorem penPlaces_holds : Rows.PenPlacesSaid :=
  OpenClaim.holds_of_wide 4 Tryz.f4 rfl rfl rfl rfl rfl rfl rfl ⟨rfl, rfl, rfl, rfl, rfl⟩ rfl rfl rfl rfl rfl (by kernel_rfl) Tryz.func4 (by kernel_rfl)
    (of_decide_eq_true (by kernel_rfl)) (by unfold Func.isWrapper; first | (rw [if_pos (by decide +kernel)]; kernel_rfl) | (rw [if_neg (by decide +kernel)]; exact ⟨rfl, rfl⟩))
    (fun os started H enc _ => penPlaces_lifted os started H enc)
end Go.Proofs.YtifokapcobgjiaaGreat

