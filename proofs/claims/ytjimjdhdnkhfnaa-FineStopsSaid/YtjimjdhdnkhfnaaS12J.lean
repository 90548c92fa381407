/- FineStops: whatever the numbers, the law returns true, and its arguments read as before. No condition. Own text. -/
import Derived.Test.YtjimjdhdnkhfnaaJas
import Derived.Test.YtjimjdhdnkhfnaaJat
set_option linter.unusedVariables false
set_option linter.unusedSimpArgs false
set_option linter.unusedSectionVars false
set_option linter.unnecessarySimpa false
namespace Go.Proofs.Ytjimjdhdnkhfnaa
open Go Go.ChangeShapes Go.WideShapes Go.RowKit Go.Deep
set_option maxHeartbeats 4000000
set_option maxRecDepth 100000
theorem fineStops_lifted (os : Os) (started : os.Started) (H : Type) (enc : TypeId × Value → H) :
    ReturnsInHanded {} Try.checked os 3 .any (Rows.fineStopsSpec.pre6 enc Try.prog Try.f3 Rows.fineStopsRow.domain false) (Rows.fineStopsSpec.post enc Try.prog Try.f3 false true false false) := by
  refine law_lift started (by kernel_rfl) Try.func3 (ChangeSpec.witness6 (enc := enc) (C := Try.checked) false ⟨#[], #[.agg #[.slice none 0 0, .slice none 0 0, .slice none 0 0], .agg #[.int .i64 0, .int .i64 0, .int .i64 0, .int .i64 0], .int .i64 0], []⟩ 8 (by kernel_rfl) (by kernel_rfl) (by kernel_rfl) (by kernel_rfl))
    rfl rfl (fun ds h => ?_) ?_ ?_
  · match ds, h with
    | [a, b, c], _ => rfl
  · rw [Try.params3]; intro t ht; simp at ht; rcases ht with rfl | rfl | rfl <;> exact ⟨by kernel_rfl, of_decide_eq_true (by kernel_rfl)⟩
  · intro W base args ds p hval hA hz
    rw [Try.params3] at hA hval hz
    obtain ⟨v0, v1, v2, d0, d1, d2, p0, p1, p2, rfl, rfl, rfl, t0, t1, t2⟩ := trodAll_three hA
    obtain ⟨A, B, C, r0, h1, h2, h3⟩ := open_raw (hval 0 25 v0 rfl rfl) t0 (hz 0 25 d0 rfl rfl)
    obtain ⟨x1, l1, r1⟩ := open_arr (k := 4) Try.underlying26 (by kernel_rfl) (by kernel_rfl) (hval 1 26 v1 rfl rfl) t1
    obtain ⟨x2, rfl⟩ := open_int3 (hval 2 3 v2 rfl rfl) t2
    have r2 : RepP (Plain W) W (.int .i64 x2) (.int .i64 x2) := by simp only [RepP]
    obtain ⟨n0, n1, n2, n3, rfl⟩ := list4 l1
    exact (fineStops_does sane_does (made_ok A B C) (rMade_does h1 h2 h3) n0 n1 n2 n3 x2).walk ⟨_, _, rfl, r0, _, _, rfl, r1, _, _, rfl, r2, rfl⟩
theorem fineStops_holds : Rows.FineStopsSaid :=
  OpenClaim.holds_of_wide 3 Try.f3 rfl rfl rfl rfl rfl rfl rfl ⟨rfl, rfl, rfl, rfl, rfl⟩ rfl rfl rfl rfl rfl (by kernel_rfl) Try.func3 (by kernel_rfl)
    (of_decide_eq_true (by kernel_rfl)) (by unfold Func.isWrapper; first | (rw [if_pos (by decide +kernel)]; kernel_rfl) | (rw [if_neg (by decide +kernel)]; exact ⟨rfl, rfl⟩))
    (fun os started H enc _ => fineStops_lifted os started H enc)
end Go.Proofs.Ytjimjdhdnkhfnaa
