/- PenMoves: whatever the yard, the beasts, the placement and the numbers, the law returns true, and its arguments read as before. No condition. -/
import Derived.Test.YtifokapcobgjiaaGreatJj
import Derived.Test.YtifokapcobgjiaaGreatJu
import Derived.Test.YtifokapcobgjiaaGreatJv
import Derived.Test.YtifokapcobgjiaaGreatJx
set_option linter.unusedVariables false
set_option linter.unusedSimpArgs false
set_option linter.unusedSectionVars false
namespace Go.Proofs.YtifokapcobgjiaaGreat
open Go Go.ChangeShapes Go.WideShapes Go.RowKit Go.Deep
set_option maxHeartbeats 8000000
set_option maxRecDepth 100000

theorem same_t5 (T : List Int) {C D : Option Addr} {k j c e : Nat} {V : World} (h1 : Is V C k T) (h2 : Is V D j T) :
    Calls Tryz.prog 29 #[.slice C k c, .slice D j e] V fun e w' => e = .returned (.bool true) ∧ Below V.heap.size V w' := by
  have := Same_any C k c T D j e T V h1 h2
  rwa [show (T == T) = true by simp] at this
theorem penMoves_any (A : Option Addr) (n c : Nat) (P : List Int) (B : Option Addr) (m d : Nat) (K : List Kd) (L : Option Addr) (r s : Nat) (l : List Int) (C : Option Addr) (u v : Nat) (p : List Int) (bi pi si : Int) (w : World) (hp : Is w A n P) (hg : Ks w B m K) (hl : Is w L r l) (hc : Is w C u p) (hrs : r ≤ s ∧ s ≤ 9223372036854775807) (huv : u ≤ v ∧ v ≤ 9223372036854775807) :
    Calls Tryz.prog 5 #[.agg #[.slice A n c, .slice B m d], .slice L r s, .agg #[.slice C u v, .int .i64 bi, .int .i64 pi, .int .i64 si]] w fun e w' => e = .returned (.bool true) ∧ Below w.heap.size w w' := by
  have Hp := Lib.hid hp; have Hg := Lib.hid hg; have Hl := Lib.hid hl; have Hc := Lib.hid hc; have Hrs := Lib.hid hrs; have Huv := Lib.hid huv
  have HPE : Hid (rplE P K l p = plE P K l p) := Lib.hid rplE_plE
  have HST : Hid (sE P K l = 0 → ∀ q, isPlB P K l q = (standS P (apL K) (bsL K l) q).isSome) := Lib.hid (fun h q => isPl_stand h)
  clear hp hg hl hc hrs huv
  go_enter Tryz.func5, Tryz.ntmps5
  go_upto_region 1 with fail
  generalize hW : (World.alloc _ _) = W
  have HB : Hid (Below w.heap.size w W) := Lib.hid (by subst hW; go_grown)
  have KY : Bx W (w.heap.size) 25 [.slice A n c, .slice B m d] := by subst hW; repeat (first | (refine Bx.newAt _ _ _ ?_; first | rfl | (simp only [World.size_alloc]; done) | (simp only [World.size_alloc]; omega)) | refine Bx.old ?_ _)
  have KS : Bx W (w.heap.size + 1) 42 [.slice C u v, .int .i64 bi, .int .i64 pi, .int .i64 si] := by subst hW; repeat (first | (refine Bx.newAt _ _ _ ?_; first | rfl | (simp only [World.size_alloc]; done) | (simp only [World.size_alloc]; omega)) | refine Bx.old ?_ _)
  clear hW
  have KYl := KY.lt; have KYc := KY.get; have KYf := KY.fr; have KSl := KS.lt; have KSc := KS.get; have KSf := KS.fr
  go_upto_region 2 with fail
  go_upto_region 3 with (go_at_call 30; refine (Free_any A n c P B m d K L r s l C u v p _ (Hp.out.keep HB.out) (Hg.out.keep HB.out) (Hl.out.keep HB.out) (Hc.out.keep HB.out)).mono ?_; rintro e X1 ⟨x1, rfl, hv, hbx⟩; obtain ⟨C1, k1, c1, rfl, -, hi, -⟩ := hv; have HI1 := Lib.hid hi; clear hi; clear KYl KYc KYf; replace KY := KY.keep hbx; have KYl := KY.lt; have KYc := KY.get; have KYf := KY.fr; clear KSl KSc KSf; replace KS := KS.keep hbx; have KSl := KS.lt; have KSc := KS.get; have KSf := KS.fr; replace HB := Lib.hid (up HB.out hbx); clear hbx)
  go_upto_region 4 with (go_at_call 31; refine (rFree_any A n c P B m d K L r s l C u v p _ (Hp.out.keep HB.out) (Hg.out.keep HB.out) (Hl.out.keep HB.out) (Hc.out.keep HB.out) HPE.out).mono ?_; rintro e X2 ⟨x2, rfl, hv, hbx⟩; obtain ⟨C2, k2, c2, rfl, -, hi, -⟩ := hv; have HI2 := Lib.hid hi; clear hi; replace HI1 := Lib.hid (HI1.out.keep hbx); clear KYl KYc KYf; replace KY := KY.keep hbx; have KYl := KY.lt; have KYc := KY.get; have KYf := KY.fr; clear KSl KSc KSf; replace KS := KS.keep hbx; have KSl := KS.lt; have KSc := KS.get; have KSf := KS.fr; replace HB := Lib.hid (up HB.out hbx); clear hbx)
  generalize freL P K l p = T1 at *
  go_upto_region 5 with (go_at_call 32; refine (Inside_any A n c P B m d K L r s l C u v p pi _ (Hp.out.keep HB.out) (Hg.out.keep HB.out) (Hl.out.keep HB.out) (Hc.out.keep HB.out)).mono ?_; rintro e X3 ⟨x3, rfl, hv, hbx⟩; obtain ⟨C3, k3, c3, rfl, -, hi, -⟩ := hv; have HI3 := Lib.hid hi; clear hi; replace HI1 := Lib.hid (HI1.out.keep hbx); replace HI2 := Lib.hid (HI2.out.keep hbx); clear KYl KYc KYf; replace KY := KY.keep hbx; have KYl := KY.lt; have KYc := KY.get; have KYf := KY.fr; clear KSl KSc KSf; replace KS := KS.keep hbx; have KSl := KS.lt; have KSc := KS.get; have KSf := KS.fr; replace HB := Lib.hid (up HB.out hbx); clear hbx)
  go_upto_region 6 with (go_at_call 33; refine (rInside_any A n c P B m d K L r s l C u v p pi _ (Hp.out.keep HB.out) (Hg.out.keep HB.out) (Hl.out.keep HB.out) (Hc.out.keep HB.out) HPE.out).mono ?_; rintro e X4 ⟨x4, rfl, hv, hbx⟩; obtain ⟨C4, k4, c4, rfl, -, hi, -⟩ := hv; have HI4 := Lib.hid hi; clear hi; replace HI1 := Lib.hid (HI1.out.keep hbx); replace HI2 := Lib.hid (HI2.out.keep hbx); replace HI3 := Lib.hid (HI3.out.keep hbx); clear KYl KYc KYf; replace KY := KY.keep hbx; have KYl := KY.lt; have KYc := KY.get; have KYf := KY.fr; clear KSl KSc KSf; replace KS := KS.keep hbx; have KSl := KS.lt; have KSc := KS.get; have KSf := KS.fr; replace HB := Lib.hid (up HB.out hbx); clear hbx)
  generalize insL P K l p pi = T3 at *
  generalize insE P K l p pi = E3 at *
  go_upto_region 7 with (go_at_call 34; refine (Add_any A n c P B m d K L r s l C u v p si _ (Hp.out.keep HB.out) (Hg.out.keep HB.out) (Hl.out.keep HB.out) (Hc.out.keep HB.out)).mono ?_; rintro e X5 ⟨rfl, hbx⟩; replace HI1 := Lib.hid (HI1.out.keep hbx); replace HI2 := Lib.hid (HI2.out.keep hbx); replace HI3 := Lib.hid (HI3.out.keep hbx); replace HI4 := Lib.hid (HI4.out.keep hbx); clear KYl KYc KYf; replace KY := KY.keep hbx; have KYl := KY.lt; have KYc := KY.get; have KYf := KY.fr; clear KSl KSc KSf; replace KS := KS.keep hbx; have KSl := KS.lt; have KSc := KS.get; have KSf := KS.fr; replace HB := Lib.hid (up HB.out hbx); clear hbx)
  go_upto_region 8 with (go_at_call 35; refine (rAdd_any A n c P B m d K L r s l C u v p _ (Hp.out.keep HB.out) (Hg.out.keep HB.out) (Hl.out.keep HB.out) (Hc.out.keep HB.out) HPE.out si).mono ?_; rintro e X6 ⟨rfl, hbx⟩; replace HI1 := Lib.hid (HI1.out.keep hbx); replace HI2 := Lib.hid (HI2.out.keep hbx); replace HI3 := Lib.hid (HI3.out.keep hbx); replace HI4 := Lib.hid (HI4.out.keep hbx); clear KYl KYc KYf; replace KY := KY.keep hbx; have KYl := KY.lt; have KYc := KY.get; have KYf := KY.fr; clear KSl KSc KSf; replace KS := KS.keep hbx; have KSl := KS.lt; have KSc := KS.get; have KSf := KS.fr; replace HB := Lib.hid (up HB.out hbx); clear hbx)
  generalize adV P K l p si = V5 at *
  generalize adE P K l p si = E5 at *
  go_upto_region 9 with (go_at_call 36; refine (Move_any A n c P B m d K L r s l C u v p bi pi _ (Hp.out.keep HB.out) (Hg.out.keep HB.out) (Hl.out.keep HB.out) (Hc.out.keep HB.out)).mono ?_; rintro e X7 ⟨x7, rfl, hv, hbx⟩; obtain ⟨C7, k7, c7, rfl, -, hi, -⟩ := hv; have HI7 := Lib.hid hi; clear hi; replace HI1 := Lib.hid (HI1.out.keep hbx); replace HI2 := Lib.hid (HI2.out.keep hbx); replace HI3 := Lib.hid (HI3.out.keep hbx); replace HI4 := Lib.hid (HI4.out.keep hbx); clear KYl KYc KYf; replace KY := KY.keep hbx; have KYl := KY.lt; have KYc := KY.get; have KYf := KY.fr; clear KSl KSc KSf; replace KS := KS.keep hbx; have KSl := KS.lt; have KSc := KS.get; have KSf := KS.fr; replace HB := Lib.hid (up HB.out hbx); clear hbx)
  go_upto_region 10 with (go_at_call 37; refine (rMove_any A n c P B m d K L r s l C u v p _ (Hp.out.keep HB.out) (Hg.out.keep HB.out) (Hl.out.keep HB.out) (Hc.out.keep HB.out) HPE.out bi pi HST.out).mono ?_; rintro e X8 ⟨x8, rfl, hv, hbx⟩; obtain ⟨C8, k8, c8, rfl, -, hi, -⟩ := hv; have HI8 := Lib.hid hi; clear hi; replace HI1 := Lib.hid (HI1.out.keep hbx); replace HI2 := Lib.hid (HI2.out.keep hbx); replace HI3 := Lib.hid (HI3.out.keep hbx); replace HI4 := Lib.hid (HI4.out.keep hbx); replace HI7 := Lib.hid (HI7.out.keep hbx); clear KYl KYc KYf; replace KY := KY.keep hbx; have KYl := KY.lt; have KYc := KY.get; have KYf := KY.fr; clear KSl KSc KSf; replace KS := KS.keep hbx; have KSl := KS.lt; have KSc := KS.get; have KSf := KS.fr; replace HB := Lib.hid (up HB.out hbx); clear hbx)
  generalize movL P K l p bi pi = T7 at *
  generalize movE P K l p bi pi = E7 at *
  go_upto_region 11 with (go_at_call 38; refine (Take_any A n c P B m d K L r s l C u v p bi _ (Hp.out.keep HB.out) (Hg.out.keep HB.out) (Hl.out.keep HB.out) (Hc.out.keep HB.out) Hrs.out.1 Hrs.out.2 Huv.out.1 Huv.out.2).mono ?_; rintro e X9 ⟨x9, y9, rfl, hv, hv2, hbx⟩; obtain ⟨C9, k9, c9, rfl, -, hi, -⟩ := hv; obtain ⟨D9, j9, d9, rfl, -, hi2, -⟩ := hv2; have HI9 := Lib.hid hi; have HJ9 := Lib.hid hi2; clear hi hi2; replace HI1 := Lib.hid (HI1.out.keep hbx); replace HI2 := Lib.hid (HI2.out.keep hbx); replace HI3 := Lib.hid (HI3.out.keep hbx); replace HI4 := Lib.hid (HI4.out.keep hbx); replace HI7 := Lib.hid (HI7.out.keep hbx); replace HI8 := Lib.hid (HI8.out.keep hbx); clear KYl KYc KYf; replace KY := KY.keep hbx; have KYl := KY.lt; have KYc := KY.get; have KYf := KY.fr; clear KSl KSc KSf; replace KS := KS.keep hbx; have KSl := KS.lt; have KSc := KS.get; have KSf := KS.fr; replace HB := Lib.hid (up HB.out hbx); clear hbx)
  go_upto_region 12 with (go_at_call 39; refine (rTake_any A n c P B m d K L r s l C u v p _ (Hp.out.keep HB.out) (Hg.out.keep HB.out) (Hl.out.keep HB.out) (Hc.out.keep HB.out) HPE.out bi Hrs.out.1 Hrs.out.2 Huv.out.1 Huv.out.2).mono ?_; rintro e X10 ⟨x10, y10, rfl, hv, hv2, hbx⟩; obtain ⟨C10, k10, c10, rfl, -, hi, -⟩ := hv; obtain ⟨D10, j10, d10, rfl, -, hi2, -⟩ := hv2; have HI10 := Lib.hid hi; have HJ10 := Lib.hid hi2; clear hi hi2; replace HI1 := Lib.hid (HI1.out.keep hbx); replace HI2 := Lib.hid (HI2.out.keep hbx); replace HI3 := Lib.hid (HI3.out.keep hbx); replace HI4 := Lib.hid (HI4.out.keep hbx); replace HI7 := Lib.hid (HI7.out.keep hbx); replace HI8 := Lib.hid (HI8.out.keep hbx); replace HI9 := Lib.hid (HI9.out.keep hbx); replace HJ9 := Lib.hid (HJ9.out.keep hbx); clear KYl KYc KYf; replace KY := KY.keep hbx; have KYl := KY.lt; have KYc := KY.get; have KYf := KY.fr; clear KSl KSc KSf; replace KS := KS.keep hbx; have KSl := KS.lt; have KSc := KS.get; have KSf := KS.fr; replace HB := Lib.hid (up HB.out hbx); clear hbx)
  generalize takL P K l p bi l = T9 at *
  generalize takL P K l p bi p = U9 at *
  generalize takE P K l p bi = E9 at *
  have HC40 : Hid (∀ V, Below w.heap.size w V → Calls Tryz.prog 40 #[.agg #[.slice A n c, .slice B m d], .slice L r s, .slice C u v] V fun e w' => e = .returned (.int .i64 (plE P K l p)) ∧ Below V.heap.size V w') := Lib.hid (fun V hV => checkPlace_any A n c P B m d K L r s l C u v p V (Hp.out.keep hV) (Hg.out.keep hV) (Hl.out.keep hV) (Hc.out.keep hV))
  have HC41 : Hid (∀ V, Below w.heap.size w V → Calls Tryz.prog 41 #[.agg #[.slice A n c, .slice B m d], .slice L r s, .slice C u v] V fun e w' => e = .returned (.int .i64 (plE P K l p)) ∧ Below V.heap.size V w') := Lib.hid (fun V hV => by
    have := rcheckPlace_any A n c P B m d K L r s l C u v p V (Hp.out.keep hV) (Hg.out.keep hV) (Hl.out.keep hV) (Hc.out.keep hV)
    rwa [HPE.out] at this)
  clear HPE HST Hrs Huv
  generalize plE P K l p = EP at *
  clear Hp Hg Hl Hc
  go_upto_region 14 with (first
    | (go_at_call_of 29 (Value.slice C1 k1 c1); refine (same_t5 T1 HI1.out HI2.out).mono ?_; rintro e Y1 ⟨rfl, hbx⟩; clear HI1 HI2; replace HI3 := Lib.hid (HI3.out.keep hbx); replace HI4 := Lib.hid (HI4.out.keep hbx); replace HI7 := Lib.hid (HI7.out.keep hbx); replace HI8 := Lib.hid (HI8.out.keep hbx); replace HI9 := Lib.hid (HI9.out.keep hbx); replace HI10 := Lib.hid (HI10.out.keep hbx); replace HJ9 := Lib.hid (HJ9.out.keep hbx); replace HJ10 := Lib.hid (HJ10.out.keep hbx); clear KYl KYc KYf; replace KY := KY.keep hbx; have KYl := KY.lt; have KYc := KY.get; have KYf := KY.fr; clear KSl KSc KSf; replace KS := KS.keep hbx; have KSl := KS.lt; have KSc := KS.get; have KSf := KS.fr; replace HB := Lib.hid (up HB.out hbx); clear hbx)
    | (go_at_call_of 29 (Value.slice C3 k3 c3); refine (same_t5 T3 HI3.out HI4.out).mono ?_; rintro e Y3 ⟨rfl, hbx⟩; clear HI3 HI4; replace HI7 := Lib.hid (HI7.out.keep hbx); replace HI8 := Lib.hid (HI8.out.keep hbx); replace HI9 := Lib.hid (HI9.out.keep hbx); replace HI10 := Lib.hid (HI10.out.keep hbx); replace HJ9 := Lib.hid (HJ9.out.keep hbx); replace HJ10 := Lib.hid (HJ10.out.keep hbx); clear KYl KYc KYf; replace KY := KY.keep hbx; have KYl := KY.lt; have KYc := KY.get; have KYf := KY.fr; clear KSl KSc KSf; replace KS := KS.keep hbx; have KSl := KS.lt; have KSc := KS.get; have KSf := KS.fr; replace HB := Lib.hid (up HB.out hbx); clear hbx)
    | (go_at_call_of 29 (Value.slice C7 k7 c7); refine (same_t5 T7 HI7.out HI8.out).mono ?_; rintro e Y7 ⟨rfl, hbx⟩; clear HI7 HI8; replace HI9 := Lib.hid (HI9.out.keep hbx); replace HI10 := Lib.hid (HI10.out.keep hbx); replace HJ9 := Lib.hid (HJ9.out.keep hbx); replace HJ10 := Lib.hid (HJ10.out.keep hbx); clear KYl KYc KYf; replace KY := KY.keep hbx; have KYl := KY.lt; have KYc := KY.get; have KYf := KY.fr; clear KSl KSc KSf; replace KS := KS.keep hbx; have KSl := KS.lt; have KSc := KS.get; have KSf := KS.fr; replace HB := Lib.hid (up HB.out hbx); clear hbx)
    | (go_at_call_of 29 (Value.slice C9 k9 c9); refine (same_t5 T9 HI9.out HI10.out).mono ?_; rintro e Y9 ⟨rfl, hbx⟩; clear HI9 HI10; replace HJ9 := Lib.hid (HJ9.out.keep hbx); replace HJ10 := Lib.hid (HJ10.out.keep hbx); clear KYl KYc KYf; replace KY := KY.keep hbx; have KYl := KY.lt; have KYc := KY.get; have KYf := KY.fr; clear KSl KSc KSf; replace KS := KS.keep hbx; have KSl := KS.lt; have KSc := KS.get; have KSf := KS.fr; replace HB := Lib.hid (up HB.out hbx); clear hbx)
    | (go_at_call_of 29 (Value.slice D9 j9 d9); refine (same_t5 U9 HJ9.out HJ10.out).mono ?_; rintro e Z9 ⟨rfl, hbx⟩; clear HJ9 HJ10; clear KYl KYc KYf; replace KY := KY.keep hbx; have KYl := KY.lt; have KYc := KY.get; have KYf := KY.fr; clear KSl KSc KSf; replace KS := KS.keep hbx; have KSl := KS.lt; have KSc := KS.get; have KSf := KS.fr; replace HB := Lib.hid (up HB.out hbx); clear hbx))
  refine wp_region_grow (by kernel_rfl) (by kernel_rfl) ?_
  repeat (go_big_quiet_step ((first | (go_at_call 40; exact quiet_grow rfl (HC40.out _ (up HB.out (grow_below _ _)))) | (go_at_call 41; exact quiet_grow rfl (HC41.out _ (up HB.out (grow_below _ _)))) | (go_at_call 22; exact quiet_grow rfl (sane_any _)))))
  refine wpQuiet_nil ?_
  intro z
  go_wp2
  go_ret
  exact ⟨rfl, up HB.out (grow_below _ _)⟩

theorem penMoves_lifted (os : Os) (started : os.Started) (H : Type) (enc : TypeId × Value → H) :
    ReturnsInHanded {} Tryz.checked os 5 .any (Rows.penMovesSpec.pre6 enc Tryz.prog Tryz.f5 Rows.penMovesRow.domain false) (Rows.penMovesSpec.post enc Tryz.prog Tryz.f5 false true false false) := by
  refine law_lift started (by kernel_rfl) Tryz.func5 (ChangeSpec.witness6 (enc := enc) (C := Tryz.checked) false ⟨#[], #[.agg #[.slice none 0 0, .slice none 0 0], .slice none 0 0, .agg #[.slice none 0 0, .int .i64 0, .int .i64 0, .int .i64 0]], []⟩ 8 (by kernel_rfl) (by kernel_rfl) (by kernel_rfl) (by kernel_rfl))
    rfl rfl (fun ds h => ?_) ?_ ?_
  · match ds, h with
    | [a, b, c], _ => rfl
  · rw [Tryz.params5]; intro t ht; simp at ht; rcases ht with rfl | rfl | rfl <;> exact ⟨by kernel_rfl, of_decide_eq_true (by kernel_rfl)⟩
  · intro W base args ds p hval hA hz
    rw [Tryz.params5] at hA hval hz
    obtain ⟨v0, v1, v2, d0, d1, d2, p0, p1, p2, rfl, rfl, rfl, h0, h1, h2⟩ := trodAll_three hA
    obtain ⟨A, n, c, P, B, m, d, K, rfl, hp, hg, _, _⟩ := open_yard (hval 0 25 v0 rfl rfl) h0 (hz 0 25 d0 rfl rfl)
    obtain ⟨L, r, s, l, rfl, hl, hrs, hs, _⟩ := open_isC (hval 1 22 v1 rfl rfl) h1 (hz 1 22 d1 rfl rfl)
    obtain ⟨C, u, v, q, x, y, z, rfl, hc, huv, hv⟩ := open_stepC (hval 2 42 v2 rfl rfl) h2 (hz 2 42 d2 rfl rfl)
    exact penMoves_any A n c P B m d K L r s l C u v q x y z W hp hg hl hc ⟨hrs, hs⟩ ⟨huv, hv⟩

theorem penMoves_holds : Rows.PenMovesSaid :=
  OpenClaim.holds_of_wide 5 Tryz.f5 rfl rfl rfl rfl rfl rfl rfl ⟨rfl, rfl, rfl, rfl, rfl⟩ rfl rfl rfl rfl rfl (by kernel_rfl) Tryz.func5 (by kernel_rfl)
    (of_decide_eq_true (by kernel_rfl)) (by unfold Func.isWrapper; first | (rw [if_pos (by decide +kernel)]; kernel_rfl) | (rw [if_neg (by decide +kernel)]; exact ⟨rfl, rfl⟩))
    (fun os started H enc _ => penMoves_lifted os started H enc)
end Go.Proofs.YtifokapcobgjiaaGreat

