/- FineChecks: whatever the account, the tariff, the stay and the note, the law returns true, and its arguments read as before. No condition. Own text. -/
import Derived.Test.YtjimjdhdnkhfnaaGreatJau
import Derived.Test.YtjimjdhdnkhfnaaGreatJav
import Derived.Test.YtjimjdhdnkhfnaaGreatJaz
set_option linter.unusedVariables false
set_option linter.unusedSimpArgs false
set_option linter.unusedSectionVars false
namespace Go.Proofs.YtjimjdhdnkhfnaaGreat
open Go Go.ChangeShapes Go.WideShapes Go.RowKit Go.Deep
set_option maxHeartbeats 4000000
set_option maxRecDepth 100000
theorem fineChecks_lifted (os : Os) (started : os.Started) (H : Type) (enc : TypeId × Value → H) :
    ReturnsInHanded {} Tryz.checked os 3 .any (Rows.fineChecksSpec.pre6 enc Tryz.prog Tryz.f3 Rows.fineChecksRow.domain false) (Rows.fineChecksSpec.post enc Tryz.prog Tryz.f3 false true false false) := by
  refine law_lift started (by kernel_rfl) Tryz.func3 (ChangeSpec.witness6 (enc := enc) (C := Tryz.checked) false ⟨#[], #[.agg #[.slice none 0 0, .slice none 0 0, .slice none 0 0], .agg #[.int .i64 0, .int .i64 0, .int .i64 0, .int .i64 0, .int .i64 0, .int .i64 0, .int .i64 0, .int .i64 0, .int .i64 0, .int .i64 0, .int .i64 0, .int .i64 0, .int .i64 0, .int .i64 0, .int .i64 0, .int .i64 0, .int .i64 0, .int .i64 0, .int .i64 0, .int .i64 0, .int .i64 0, .int .i64 0, .int .i64 0, .int .i64 0, .int .i64 0, .int .i64 0, .int .i64 0, .int .i64 0, .int .i64 0, .int .i64 0, .int .i64 0, .int .i64 0, .int .i64 0, .int .i64 0, .int .i64 0, .int .i64 0, .int .i64 0, .int .i64 0, .int .i64 0, .int .i64 0]], []⟩ 8 (by kernel_rfl) (by kernel_rfl) (by kernel_rfl) (by kernel_rfl))
    rfl rfl (fun ds h => ?_) ?_ ?_
  · match ds, h with
    | [a, b], _ => rfl
  · rw [Tryz.params3]; intro t ht; simp at ht; rcases ht with rfl | rfl <;> exact ⟨by kernel_rfl, of_decide_eq_true (by kernel_rfl)⟩
  · intro W base args ds p hval hA hz
    rw [Tryz.params3] at hA hval hz
    obtain ⟨v0, v1, d0, d1, p0, p1, rfl, rfl, rfl, t0, t1⟩ := trodAll_two hA
    obtain ⟨T, H, N, r0, h1, h2, h3⟩ := open_acc (hval 0 26 v0 rfl rfl) t0 (hz 0 26 d0 rfl rfl)
    obtain ⟨x1, l1, r1⟩ := open_struct (k := 40) Tryz.underlying36 (by kernel_rfl) (by kernel_rfl) (hval 1 36 v1 rfl rfl) t1
    have e1 : x1 = x1.take 24 ++ (x1.drop 24).take 9 ++ x1.drop 33 := by
      have k1 := List.take_append_drop 24 x1
      have k2 := List.take_append_drop 9 (x1.drop 24)
      rw [List.drop_drop] at k2
      rw [List.append_assoc, k2, k1]
    rw [e1] at r1
    exact (fineChecks_does sane_does h1 h2 h3 (t := x1.take 24) (h := (x1.drop 24).take 9) (n := x1.drop 33) (by rw [List.length_take, l1]; rfl) (by rw [List.length_take, List.length_drop, l1]; rfl) (by rw [List.length_drop, l1])).walk ⟨_, _, rfl, r0, _, _, rfl, r1, rfl⟩
theorem fineChecks_holds : Rows.FineChecksSaid :=
  OpenClaim.holds_of_wide 3 Tryz.f3 rfl rfl rfl rfl rfl rfl rfl ⟨rfl, rfl, rfl, rfl, rfl⟩ rfl rfl rfl rfl rfl (by kernel_rfl) Tryz.func3 (by kernel_rfl)
    (of_decide_eq_true (by kernel_rfl)) (by unfold Func.isWrapper; first | (rw [if_pos (by decide +kernel)]; kernel_rfl) | (rw [if_neg (by decide +kernel)]; exact ⟨rfl, rfl⟩))
    (fun os started H enc _ => fineChecks_lifted os started H enc)
end Go.Proofs.YtjimjdhdnkhfnaaGreat
