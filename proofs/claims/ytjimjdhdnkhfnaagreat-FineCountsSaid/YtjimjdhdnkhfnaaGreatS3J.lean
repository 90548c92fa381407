/- FineCounts: whatever the account, the stay and the day, the law returns true, and its arguments read as before. No condition. Own text. -/
import Derived.Test.YtjimjdhdnkhfnaaGreatJau
import Derived.Test.YtjimjdhdnkhfnaaGreatJav
import Derived.Test.YtjimjdhdnkhfnaaGreatJaw
set_option linter.unusedVariables false
set_option linter.unusedSimpArgs false
set_option linter.unusedSectionVars false
namespace Go.Proofs.YtjimjdhdnkhfnaaGreat
open Go Go.ChangeShapes Go.WideShapes Go.RowKit Go.Deep
set_option maxHeartbeats 4000000
set_option maxRecDepth 100000
theorem fineCounts_lifted (os : Os) (started : os.Started) (H : Type) (enc : TypeId × Value → H) :
    ReturnsInHanded {} Tryz.checked os 4 .any (Rows.fineCountsSpec.pre6 enc Tryz.prog Tryz.f4 Rows.fineCountsRow.domain false) (Rows.fineCountsSpec.post enc Tryz.prog Tryz.f4 false true false false) := by
  refine law_lift started (by kernel_rfl) Tryz.func4 (ChangeSpec.witness6 (enc := enc) (C := Tryz.checked) false ⟨#[], #[.agg #[.slice none 0 0, .slice none 0 0, .slice none 0 0], .int .i64 0, .int .i64 0], []⟩ 8 (by kernel_rfl) (by kernel_rfl) (by kernel_rfl) (by kernel_rfl))
    rfl rfl (fun ds h => ?_) ?_ ?_
  · match ds, h with
    | [a, b, c], _ => rfl
  · rw [Tryz.params4]; intro t ht; simp at ht; rcases ht with rfl | rfl <;> exact ⟨by kernel_rfl, of_decide_eq_true (by kernel_rfl)⟩
  · intro W base args ds p hval hA hz
    rw [Tryz.params4] at hA hval hz
    obtain ⟨v0, v1, v2, d0, d1, d2, p0, p1, p2, rfl, rfl, rfl, t0, t1, t2⟩ := trodAll_three hA
    obtain ⟨T, H, N, r0, h1, h2, h3⟩ := open_acc (hval 0 26 v0 rfl rfl) t0 (hz 0 26 d0 rfl rfl)
    obtain ⟨x1, rfl⟩ := open_int3 (hval 1 3 v1 rfl rfl) t1
    obtain ⟨x2, rfl⟩ := open_int3 (hval 2 3 v2 rfl rfl) t2
    have r1 : RepP (Plain W) W (.int .i64 x1) (.int .i64 x1) := by simp only [RepP]
    have r2 : RepP (Plain W) W (.int .i64 x2) (.int .i64 x2) := by simp only [RepP]
    exact (fineCounts_does sane_does h1 h2 h3 x1 x2).walk ⟨_, _, rfl, r0, _, _, rfl, r1, _, _, rfl, r2, rfl⟩
theorem fineCounts_holds : Rows.FineCountsSaid :=
  OpenClaim.holds_of_wide 4 Tryz.f4 rfl rfl rfl rfl rfl rfl rfl ⟨rfl, rfl, rfl, rfl, rfl⟩ rfl rfl rfl rfl rfl (by kernel_rfl) Tryz.func4 (by kernel_rfl)
    (of_decide_eq_true (by kernel_rfl)) (by unfold Func.isWrapper; first | (rw [if_pos (by decide +kernel)]; kernel_rfl) | (rw [if_neg (by decide +kernel)]; exact ⟨rfl, rfl⟩))
    (fun os started H enc _ => fineCounts_lifted os started H enc)
end Go.Proofs.YtjimjdhdnkhfnaaGreat
