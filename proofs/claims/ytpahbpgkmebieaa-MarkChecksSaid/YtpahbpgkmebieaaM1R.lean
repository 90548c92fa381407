/- MarkChecks: whatever the mark book, the given mark and the reading, the law returns true, and its arguments read as before. No condition. Own text. -/
import Derived.Test.YtpahbpgkmebieaaM1
import Derived.Test.YtpahbpgkmebieaaO2
namespace Go.Proofs.Ytpahbpgkmebieaa
open Go Go.ChangeShapes Go.WideShapes Go.RowKit Go.Deep
set_option maxHeartbeats 400000
set_option maxRecDepth 100000

theorem markChecks_lifted (os : Os) (started : os.Started) (H : Type) (enc : TypeId × Value → H) :
    ReturnsInHanded {} Try.checked os 3 .any (Rows.markChecksSpec.pre6 enc Try.prog Try.f3 Rows.markChecksRow.domain false) (Rows.markChecksSpec.post enc Try.prog Try.f3 false true false false) := by
  refine law_lift started (by kernel_rfl) Try.func3 (ChangeSpec.witness6 (enc := enc) (C := Try.checked) false ⟨#[], #[.agg #[.int .i64 0, .int .i64 0, .int .i64 0, .int .i64 0, .int .i64 0, .int .i64 0, .slice none 0 0], .agg #[.int .i64 0, .int .i64 0, .int .i64 0, .int .i64 0, .int .i64 0, .int .i64 0, .int .i64 0], .agg #[.int .i64 0, .int .i64 0, .int .i64 0, .int .i64 0, .int .i64 0, .int .i64 0]], []⟩ 8 (by kernel_rfl) (by kernel_rfl) (by kernel_rfl) (by kernel_rfl))
    rfl rfl (fun ds h => ?_) ?_ ?_
  · match ds, h with
    | [a, b, c], _ => rfl
  · rw [Try.params3]; intro t ht; simp at ht; rcases ht with rfl | rfl | rfl <;> exact ⟨by kernel_rfl, of_decide_eq_true (by kernel_rfl)⟩
  · intro W base args ds p hval hA hz
    rw [Try.params3] at hA hval hz
    obtain ⟨v0, v1, v2, d0, d1, d2, p0, p1, p2, rfl, rfl, rfl, h0, h1, h2⟩ := trodAll_three hA
    obtain ⟨w0, w1, w2, w3, w4, F, A, n, c, gs, rfl, hg, hnc, _⟩ := open_marks (hval 0 26 v0 rfl rfl) h0 (hz 0 26 d0 rfl rfl)
    obtain ⟨g, rfl⟩ := open_given (hval 1 30 v1 rfl rfl) h1
    obtain ⟨r, rfl⟩ := open_rd Try.underlying31 (by kernel_rfl) (hval 2 31 v2 rfl rfl) h2
    exact markChecks_any w0 w1 w2 w3 w4 F A n c gs g r W hg hnc

theorem markChecks_holds : Rows.MarkChecksSaid :=
  OpenClaim.holds_of_wide 3 Try.f3 rfl rfl rfl rfl rfl rfl rfl ⟨rfl, rfl, rfl, rfl, rfl⟩ rfl rfl rfl rfl rfl (by kernel_rfl) Try.func3 (by kernel_rfl)
    (of_decide_eq_true (by kernel_rfl)) (by unfold Func.isWrapper; first | (rw [if_pos (by decide +kernel)]; kernel_rfl) | (rw [if_neg (by decide +kernel)]; exact ⟨rfl, rfl⟩))
    (fun os started H enc _ => markChecks_lifted os started H enc)
#print axioms markChecks_holds
end Go.Proofs.Ytpahbpgkmebieaa
