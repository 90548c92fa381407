/- FineEnds: whatever the numbers, the law returns true, and its arguments read as before. No condition. Own text. -/
import Derived.Test.YtjimjdhdnkhfnaaGreatJas
import Derived.Test.YtjimjdhdnkhfnaaGreatJat
import Derived.Test.YtjimjdhdnkhfnaaGreatJau
set_option linter.unusedVariables false
set_option linter.unusedSimpArgs false
set_option linter.unusedSectionVars false
set_option linter.unnecessarySimpa false
namespace Go.Proofs.YtjimjdhdnkhfnaaGreat
open Go Go.ChangeShapes Go.WideShapes Go.RowKit Go.Deep
set_option maxHeartbeats 4000000
set_option maxRecDepth 100000
theorem fineEnds_lifted (os : Os) (started : os.Started) (H : Type) (enc : TypeId × Value → H) :
    ReturnsInHanded {} Tryz.checked os 10 .any (Rows.fineEndsSpec.pre6 enc Tryz.prog Tryz.f10 Rows.fineEndsRow.domain false) (Rows.fineEndsSpec.post enc Tryz.prog Tryz.f10 false true false false) := by
  refine law_lift started (by kernel_rfl) Tryz.func10 (ChangeSpec.witness6 (enc := enc) (C := Tryz.checked) false ⟨#[], #[.agg #[.slice none 0 0, .slice none 0 0, .slice none 0 0], .int .i64 0], []⟩ 8 (by kernel_rfl) (by kernel_rfl) (by kernel_rfl) (by kernel_rfl))
    rfl rfl (fun ds h => ?_) ?_ ?_
  · match ds, h with
    | [a, b], _ => rfl
  · rw [Tryz.params10]; intro t ht; simp at ht; rcases ht with rfl | rfl <;> exact ⟨by kernel_rfl, of_decide_eq_true (by kernel_rfl)⟩
  · intro W base args ds p hval hA hz
    rw [Tryz.params10] at hA hval hz
    obtain ⟨v0, v1, d0, d1, p0, p1, rfl, rfl, rfl, t0, t1⟩ := trodAll_two hA
    obtain ⟨A, B, C, r0, h1, h2, h3⟩ := open_raw (hval 0 84 v0 rfl rfl) t0 (hz 0 84 d0 rfl rfl)
    obtain ⟨x1, rfl⟩ := open_int3 (hval 1 3 v1 rfl rfl) t1
    have r1 : RepP (Plain W) W (.int .i64 x1) (.int .i64 x1) := by simp only [RepP]
    exact (fineEnds_does sane_does (made_ok A B C) (rMade_does h1 h2 h3) x1).walk ⟨_, _, rfl, r0, _, _, rfl, r1, rfl⟩
theorem fineEnds_holds : Rows.FineEndsSaid :=
  OpenClaim.holds_of_wide 10 Tryz.f10 rfl rfl rfl rfl rfl rfl rfl ⟨rfl, rfl, rfl, rfl, rfl⟩ rfl rfl rfl rfl rfl (by kernel_rfl) Tryz.func10 (by kernel_rfl)
    (of_decide_eq_true (by kernel_rfl)) (by unfold Func.isWrapper; first | (rw [if_pos (by decide +kernel)]; kernel_rfl) | (rw [if_neg (by decide +kernel)]; exact ⟨rfl, rfl⟩))
    (fun os started H enc _ => fineEnds_lifted os started H enc)
end Go.Proofs.YtjimjdhdnkhfnaaGreat
