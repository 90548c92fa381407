/- FineStays: whatever the account and the numbers, the law returns true, and its arguments read as before. No condition. Own text. -/
import Derived.Test.YtjimjdhdnkhfnaaGreatJau
import Derived.Test.YtjimjdhdnkhfnaaGreatJav
import Derived.Test.YtjimjdhdnkhfnaaGreatJba
set_option linter.unusedVariables false
set_option linter.unusedSimpArgs false
set_option linter.unusedSectionVars false
set_option linter.unnecessarySimpa false
namespace Go.Proofs.YtjimjdhdnkhfnaaGreat
open Go Go.ChangeShapes Go.WideShapes Go.RowKit Go.Deep
set_option maxHeartbeats 4000000
set_option maxRecDepth 100000
theorem fineStays_lifted (os : Os) (started : os.Started) (H : Type) (enc : TypeId × Value → H) :
    ReturnsInHanded {} Tryz.checked os 7 .any (Rows.fineStaysSpec.pre6 enc Tryz.prog Tryz.f7 Rows.fineStaysRow.domain false) (Rows.fineStaysSpec.post enc Tryz.prog Tryz.f7 false true false false) := by
  refine law_lift started (by kernel_rfl) Tryz.func7 (ChangeSpec.witness6 (enc := enc) (C := Tryz.checked) false ⟨#[], #[.agg #[.slice none 0 0, .slice none 0 0, .slice none 0 0], .agg #[.int .i64 0, .int .i64 0, .int .i64 0, .int .i64 0]], []⟩ 8 (by kernel_rfl) (by kernel_rfl) (by kernel_rfl) (by kernel_rfl))
    rfl rfl (fun ds h => ?_) ?_ ?_
  · match ds, h with
    | [a, b], _ => rfl
  · rw [Tryz.params7]; intro t ht; simp at ht; rcases ht with rfl | rfl <;> exact ⟨by kernel_rfl, of_decide_eq_true (by kernel_rfl)⟩
  · intro W base args ds p hval hA hz
    rw [Tryz.params7] at hA hval hz
    obtain ⟨v0, v1, d0, d1, p0, p1, rfl, rfl, rfl, t0, t1⟩ := trodAll_two hA
    obtain ⟨T, H, N, r0, h1, h2, h3⟩ := open_acc (hval 0 26 v0 rfl rfl) t0 (hz 0 26 d0 rfl rfl)
    obtain ⟨x1, l1, r1⟩ := open_struct (k := 4) Tryz.underlying79 (by kernel_rfl) (by kernel_rfl) (hval 1 79 v1 rfl rfl) t1
    obtain ⟨o, way, s, d, rfl⟩ := list4 l1
    exact (fineStays_does sane_does h1 h2 h3 o way s d).walk ⟨_, _, rfl, r0, _, _, rfl, r1, rfl⟩
theorem fineStays_holds : Rows.FineStaysSaid :=
  OpenClaim.holds_of_wide 7 Tryz.f7 rfl rfl rfl rfl rfl rfl rfl ⟨rfl, rfl, rfl, rfl, rfl⟩ rfl rfl rfl rfl rfl (by kernel_rfl) Tryz.func7 (by kernel_rfl)
    (of_decide_eq_true (by kernel_rfl)) (by unfold Func.isWrapper; first | (rw [if_pos (by decide +kernel)]; kernel_rfl) | (rw [if_neg (by decide +kernel)]; exact ⟨rfl, rfl⟩))
    (fun os started H enc _ => fineStays_lifted os started H enc)
end Go.Proofs.YtjimjdhdnkhfnaaGreat
