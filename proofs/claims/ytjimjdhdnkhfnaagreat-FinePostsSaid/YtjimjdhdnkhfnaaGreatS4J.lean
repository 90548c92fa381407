/- FinePosts: whatever the account, the days and the postings, the law returns true, and its arguments read as before. No condition. Own text. -/
import Derived.Test.YtjimjdhdnkhfnaaGreatJau
import Derived.Test.YtjimjdhdnkhfnaaGreatJav
import Derived.Test.YtjimjdhdnkhfnaaGreatJax
set_option linter.unusedVariables false
set_option linter.unusedSimpArgs false
set_option linter.unusedSectionVars false
namespace Go.Proofs.YtjimjdhdnkhfnaaGreat
open Go Go.ChangeShapes Go.WideShapes Go.RowKit Go.Deep
set_option maxHeartbeats 4000000
set_option maxRecDepth 100000
theorem finePosts_lifted (os : Os) (started : os.Started) (H : Type) (enc : TypeId × Value → H) :
    ReturnsInHanded {} Tryz.checked os 6 .any (Rows.finePostsSpec.pre6 enc Tryz.prog Tryz.f6 Rows.finePostsRow.domain false) (Rows.finePostsSpec.post enc Tryz.prog Tryz.f6 false true false false) := by
  refine law_lift started (by kernel_rfl) Tryz.func6 (ChangeSpec.witness6 (enc := enc) (C := Tryz.checked) false ⟨#[], #[.agg #[.slice none 0 0, .slice none 0 0, .slice none 0 0], .slice none 0 0, .slice none 0 0], []⟩ 8 (by kernel_rfl) (by kernel_rfl) (by kernel_rfl) (by kernel_rfl))
    rfl rfl (fun ds h => ?_) ?_ ?_
  · match ds, h with
    | [a, b, c], _ => rfl
  · rw [Tryz.params6]; intro t ht; simp at ht; rcases ht with rfl | rfl | rfl <;> exact ⟨by kernel_rfl, of_decide_eq_true (by kernel_rfl)⟩
  · intro W base args ds p hval hA hz
    rw [Tryz.params6] at hA hval hz
    obtain ⟨v0, v1, v2, d0, d1, d2, p0, p1, p2, rfl, rfl, rfl, t0, t1, t2⟩ := trodAll_three hA
    obtain ⟨T, H, N, r0, h1, h2, h3⟩ := open_acc (hval 0 26 v0 rfl rfl) t0 (hz 0 26 d0 rfl rfl)
    obtain ⟨x1, r1, z1⟩ := open_nums (hval 1 49 v1 rfl rfl) t1 (hz 1 49 d1 rfl rfl)
    obtain ⟨x2, r2, w2, z2⟩ := open_rows Tryz.underlying69 (by kernel_rfl) (show Tryz.prog.cellsOf 73 = 5 by kernel_rfl) (by decide) (show Tryz.prog.bytesOf 73 = 40 by kernel_rfl) (by decide) (hval 2 69 v2 rfl rfl) t2 (hz 2 69 d2 rfl rfl)
    exact (finePosts_does sane_does h1 h2 h3 x1 x2 w2).walk ⟨_, _, rfl, r0, _, _, rfl, r1, _, _, rfl, r2, rfl⟩
theorem finePosts_holds : Rows.FinePostsSaid :=
  OpenClaim.holds_of_wide 6 Tryz.f6 rfl rfl rfl rfl rfl rfl rfl ⟨rfl, rfl, rfl, rfl, rfl⟩ rfl rfl rfl rfl rfl (by kernel_rfl) Tryz.func6 (by kernel_rfl)
    (of_decide_eq_true (by kernel_rfl)) (by unfold Func.isWrapper; first | (rw [if_pos (by decide +kernel)]; kernel_rfl) | (rw [if_neg (by decide +kernel)]; exact ⟨rfl, rfl⟩))
    (fun os started H enc _ => finePosts_lifted os started H enc)
end Go.Proofs.YtjimjdhdnkhfnaaGreat
