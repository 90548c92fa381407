/- PenChecks: whatever the yard, the beasts and the two sorts, the law returns true, and its arguments read as before. No condition. -/
import Derived.Test.YtollccpghhgpfaaGreatJk
set_option linter.unusedVariables false
set_option linter.unusedSimpArgs false
set_option linter.unusedSectionVars false
namespace Go.Proofs.YtollccpghhgpfaaGreat
open Go Go.ChangeShapes Go.WideShapes Go.RowKit Go.Deep
set_option maxHeartbeats 4000000
set_option maxRecDepth 100000

theorem penChecks_any (A : Option Addr) (n c : Nat) (P : List Int) (B : Option Addr) (m d : Nat) (K : List Kd) (L : Option Addr) (r s : Nat) (l : List Int) (x y : Int) (w : World) (hp : Is w A n P) (hg : Ks w B m K) (hl : Is w L r l) :
    Calls Tryz.prog 3 #[.agg #[.slice A n c, .slice B m d], .slice L r s, .agg #[.int .i64 x, .int .i64 y]] w fun e w' => e = .returned (.bool true) ∧ Below w.heap.size w w' := by
  have Hp := Lib.hid hp; have Hg := Lib.hid hg; have Hl := Lib.hid hl
  have HAp := Lib.hid (apP_apR P K x y)
  clear hp hg hl
  go_enter Tryz.func3, Tryz.ntmps3
  go_upto_region 1 with fail
  generalize hW : (World.alloc _ _) = W
  have HB : Hid (Below w.heap.size w W) := Lib.hid (by subst hW; go_grown)
  have KY : Bx W (w.heap.size) 25 [.slice A n c, .slice B m d] := by subst hW; repeat (first | (refine Bx.newAt _ _ _ ?_; first | rfl | (simp only [World.size_alloc]; done) | (simp only [World.size_alloc]; omega)) | refine Bx.old ?_ _)
  have KS : Bx W (w.heap.size + 1) 26 [.int .i64 x, .int .i64 y] := by subst hW; repeat (first | (refine Bx.newAt _ _ _ ?_; first | rfl | (simp only [World.size_alloc]; done) | (simp only [World.size_alloc]; omega)) | refine Bx.old ?_ _)
  clear hW
  have KYl := KY.lt; have KYc := KY.get; have KYf := KY.fr; have KSl := KS.lt; have KSc := KS.get; have KSf := KS.fr
  go_upto_region 2 with (go_at_call 14; refine (Room_any A n c P B m d K L r s l _ (Hp.out.keep HB.out) (Hg.out.keep HB.out) (Hl.out.keep HB.out)).mono ?_; rintro e X ⟨rfl, hbx⟩; clear KYl KYc KYf; replace KY := KY.keep hbx; have KYl := KY.lt; have KYc := KY.get; have KYf := KY.fr; clear KSl KSc KSf; replace KS := KS.keep hbx; have KSl := KS.lt; have KSc := KS.get; have KSf := KS.fr; replace HB := Lib.hid (up HB.out hbx); clear hbx)
  go_upto_region 3 with (go_at_call 15; refine (rRoom_any A n c P B m d K L r s l _ (Hp.out.keep HB.out) (Hg.out.keep HB.out) (Hl.out.keep HB.out)).mono ?_; rintro e X ⟨rfl, hbx⟩; clear KYl KYc KYf; replace KY := KY.keep hbx; have KYl := KY.lt; have KYc := KY.get; have KYf := KY.fr; clear KSl KSc KSf; replace KS := KS.keep hbx; have KSl := KS.lt; have KSc := KS.get; have KSf := KS.fr; replace HB := Lib.hid (up HB.out hbx); clear hbx)
  generalize (if sE P K l = 0 then sumR (bsL K l) else 0) = R at *
  go_upto_region 4 with (go_at_call 16; refine (Apart_any A n c P B m d K x y _ (Hp.out.keep HB.out) (Hg.out.keep HB.out)).mono ?_; rw [HAp.out]; rintro e X ⟨rfl, hbx⟩; clear KYl KYc KYf; replace KY := KY.keep hbx; have KYl := KY.lt; have KYc := KY.get; have KYf := KY.fr; clear KSl KSc KSf; replace KS := KS.keep hbx; have KSl := KS.lt; have KSc := KS.get; have KSf := KS.fr; replace HB := Lib.hid (up HB.out hbx); clear hbx)
  go_upto_region 5 with (go_at_call 17; refine (rApart_any A n c P B m d K x y _ (Hp.out.keep HB.out) (Hg.out.keep HB.out)).mono ?_; rintro e X ⟨rfl, hbx⟩; clear KYl KYc KYf; replace KY := KY.keep hbx; have KYl := KY.lt; have KYc := KY.get; have KYf := KY.fr; clear KSl KSc KSf; replace KS := KS.keep hbx; have KSl := KS.lt; have KSc := KS.get; have KSf := KS.fr; replace HB := Lib.hid (up HB.out hbx); clear hbx)
  have HEQ : Hid (∀ V, Below w.heap.size w V → Calls Tryz.prog 18 #[.agg #[.slice A n c, .slice B m d]] V fun e w' => e = .returned (.int .i64 (yE P K)) ∧ Below V.heap.size V w') := Lib.hid (fun V hV => checkYard_any A n c P B m d K V (Hp.out.keep hV) (Hg.out.keep hV))
  have HEQ2 : Hid (∀ V, Below w.heap.size w V → Calls Tryz.prog 19 #[.agg #[.slice A n c, .slice B m d]] V fun e w' => e = .returned (.int .i64 (yE P K)) ∧ Below V.heap.size V w') := Lib.hid (fun V hV => rcheckYard_any A n c P B m d K V (Hp.out.keep hV) (Hg.out.keep hV))
  have HES : Hid (∀ V, Below w.heap.size w V → Calls Tryz.prog 20 #[.agg #[.slice A n c, .slice B m d], .slice L r s] V fun e w' => e = .returned (.int .i64 (sE P K l)) ∧ Below V.heap.size V w') := Lib.hid (fun V hV => checkSorts_any A n c P B m d K L r s l V (Hp.out.keep hV) (Hg.out.keep hV) (Hl.out.keep hV))
  have HES2 : Hid (∀ V, Below w.heap.size w V → Calls Tryz.prog 21 #[.agg #[.slice A n c, .slice B m d], .slice L r s] V fun e w' => e = .returned (.int .i64 (sE P K l)) ∧ Below V.heap.size V w') := Lib.hid (fun V hV => rcheckSorts_any A n c P B m d K L r s l V (Hp.out.keep hV) (Hg.out.keep hV) (Hl.out.keep hV))
  generalize yE P K = E1 at *
  generalize sE P K l = E2 at *
  generalize sE P K [x, y] = E3 at *
  generalize apR P K x y = AR at *
  clear HAp Hp Hg Hl
  refine wp_region_grow (by kernel_rfl) (by kernel_rfl) ?_
  repeat (go_big_quiet_step ((first | (go_at_call 18; exact quiet_grow rfl (HEQ.out _ (up HB.out (grow_below _ _)))) | (go_at_call 19; exact quiet_grow rfl (HEQ2.out _ (up HB.out (grow_below _ _)))) | (go_at_call 20; exact quiet_grow rfl (HES.out _ (up HB.out (grow_below _ _)))) | (go_at_call 21; exact quiet_grow rfl (HES2.out _ (up HB.out (grow_below _ _)))) | (go_at_call 22; exact quiet_grow rfl (sane_any _)))))
  refine wpQuiet_nil ?_
  intro z
  go_wp2
  go_ret
  exact ⟨rfl, up HB.out (grow_below _ _)⟩
end Go.Proofs.YtollccpghhgpfaaGreat
namespace Go.Proofs.YtollccpghhgpfaaGreat
open Go Go.ChangeShapes Go.WideShapes Go.RowKit Go.Deep
set_option maxHeartbeats 4000000
set_option maxRecDepth 100000

theorem penChecks_lifted (os : Os) (started : os.Started) (H : Type) (enc : TypeId × Value → H) :
    ReturnsInHanded {} Tryz.checked os 3 .any (Rows.penChecksSpec.pre6 enc Tryz.prog Tryz.f3 Rows.penChecksRow.domain false) (Rows.penChecksSpec.post enc Tryz.prog Tryz.f3 false true false false) := by
  refine law_lift started (by kernel_rfl) Tryz.func3 (ChangeSpec.witness6 (enc := enc) (C := Tryz.checked) false ⟨#[], #[.agg #[.slice none 0 0, .slice none 0 0], .slice none 0 0, .agg #[.int .i64 0, .int .i64 0]], []⟩ 8 (by kernel_rfl) (by kernel_rfl) (by kernel_rfl) (by kernel_rfl))
    rfl rfl (fun ds h => ?_) ?_ ?_
  · match ds, h with
    | [a, b, c], _ => rfl
  · rw [Tryz.params3]; intro t ht; simp at ht; rcases ht with rfl | rfl | rfl <;> exact ⟨by kernel_rfl, of_decide_eq_true (by kernel_rfl)⟩
  · intro W base args ds p hval hA hz
    rw [Tryz.params3] at hA hval hz
    obtain ⟨v0, v1, v2, d0, d1, d2, p0, p1, p2, rfl, rfl, rfl, h0, h1, h2⟩ := trodAll_three hA
    obtain ⟨A, n, c, P, B, m, d, K, rfl, hp, hg, _, _⟩ := open_yard (hval 0 25 v0 rfl rfl) h0 (hz 0 25 d0 rfl rfl)
    obtain ⟨L, r, s, l, rfl, hl, _, _, _⟩ := open_is (hval 1 22 v1 rfl rfl) h1 (hz 1 22 d1 rfl rfl)
    obtain ⟨x, y, rfl, _, _⟩ := open_two (hval 2 26 v2 rfl rfl) h2
    exact penChecks_any A n c P B m d K L r s l x y W hp hg hl

theorem penChecks_holds : Rows.PenChecksSaid :=
  OpenClaim.holds_of_wide 3 Tryz.f3 rfl rfl rfl rfl rfl rfl rfl ⟨rfl, rfl, rfl, rfl, rfl⟩ rfl rfl rfl rfl rfl (by kernel_rfl) Tryz.func3 (by kernel_rfl)
    (of_decide_eq_true (by kernel_rfl)) (by unfold Func.isWrapper; first | (rw [if_pos (by decide +kernel)]; kernel_rfl) | (rw [if_neg (by decide +kernel)]; exact ⟨rfl, rfl⟩))
    (fun os started H enc _ => penChecks_lifted os started H enc)
end Go.Proofs.YtollccpghhgpfaaGreat

