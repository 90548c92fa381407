/- FinePaid: whatever the numbers, the law returns true, and its arguments read as before. No condition. Own text. -/
import Derived.Test.YtjimjdhdnkhfnaaGreatKar
import Derived.Test.YtjimjdhdnkhfnaaGreatKas
import Derived.Test.YtjimjdhdnkhfnaaGreatKat
set_option linter.unusedVariables false
set_option linter.unusedSimpArgs false
set_option linter.unusedSectionVars false
set_option linter.unnecessarySimpa false
namespace Go.Proofs.YtjimjdhdnkhfnaaGreat
open Go Go.ChangeShapes Go.WideShapes Go.RowKit Go.Deep
set_option maxHeartbeats 4000000
set_option maxRecDepth 100000
theorem finePaid_lifted (os : Os) (started : os.Started) (H : Type) (enc : TypeId × Value → H) :
    ReturnsInHanded {} Tryz.checked os 8 .any (Rows.finePaidSpec.pre6 enc Tryz.prog Tryz.f8 Rows.finePaidRow.domain false) (Rows.finePaidSpec.post enc Tryz.prog Tryz.f8 false true false false) := by
  refine law_lift started (by kernel_rfl) Tryz.func8 (ChangeSpec.witness6 (enc := enc) (C := Tryz.checked) false ⟨#[], #[.agg #[.slice none 0 0, .slice none 0 0, .slice none 0 0], .slice none 0 0], []⟩ 8 (by kernel_rfl) (by kernel_rfl) (by kernel_rfl) (by kernel_rfl))
    rfl rfl (fun ds h => ?_) ?_ ?_
  · match ds, h with
    | [a, b], _ => rfl
  · rw [Tryz.params8]; intro t ht; simp at ht; rcases ht with rfl | rfl <;> exact ⟨by kernel_rfl, of_decide_eq_true (by kernel_rfl)⟩
  · intro W base args ds p hval hA hz
    rw [Tryz.params8] at hA hval hz
    obtain ⟨v0, v1, d0, d1, p0, p1, rfl, rfl, rfl, t0, t1⟩ := trodAll_two hA
    obtain ⟨A, B, C, r0, h1, h2, h3⟩ := open_raw (hval 0 84 v0 rfl rfl) t0 (hz 0 84 d0 rfl rfl)
    obtain ⟨x1, r1, z1⟩ := open_nums (hval 1 49 v1 rfl rfl) t1 (hz 1 49 d1 rfl rfl)
    exact (finePaid_does sane_does (made_ok A B C) (rMade_does h1 h2 h3) x1).walk ⟨_, _, rfl, r0, _, _, rfl, r1, rfl⟩
theorem finePaid_holds : Rows.FinePaidSaid :=
  OpenClaim.holds_of_wide 8 Tryz.f8 rfl rfl rfl rfl rfl rfl rfl ⟨rfl, rfl, rfl, rfl, rfl⟩ rfl rfl rfl rfl rfl (by kernel_rfl) Tryz.func8 (by kernel_rfl)
    (of_decide_eq_true (by kernel_rfl)) (by unfold Func.isWrapper; first | (rw [if_pos (by decide +kernel)]; kernel_rfl) | (rw [if_neg (by decide +kernel)]; exact ⟨rfl, rfl⟩))
    (fun os started H enc _ => finePaid_lifted os started H enc)
end Go.Proofs.YtjimjdhdnkhfnaaGreat
