/- Whether marks, wear and readings are valid. Own text. -/
import Derived.Test.YtpahbpgkmebieaaW4
namespace Go.Proofs.Ytpahbpgkmebieaa
open Go.RowKit
set_option maxHeartbeats 400000
set_option maxRecDepth 100000

def sgB (s : Int) : Bool := decide (0 ≤ s) && decide (s < 5)
def okM (a0 a1 a2 a3 a4 a5 : Int) : Bool := sgB a0 && sgB a1 && sgB a2 && sgB a3 && sgB a4 && sgB a5
def rdB (s : Int) : Bool := decide (1 ≤ s) && decide (s ≤ 31)
def okR (a0 a1 a2 a3 a4 a5 : Int) : Bool := rdB a0 && rdB a1 && rdB a2 && rdB a3 && rdB a4 && rdB a5
def wrB (s : Int) (i : Nat) : Bool := decide (0 ≤ s) && decide (s ≤ 31) && hasB s i
def okW (a0 a1 a2 a3 a4 : Int) : Bool := wrB a0 0 && wrB a1 1 && wrB a2 2 && wrB a3 3 && wrB a4 4

/-- 0 if something holds, else a code. -/
def err (b : Bool) (n : Int) : Int := if b = true then 0 else n
theorem err_t {b : Bool} (n : Int) (h : b = true) : err b n = 0 := if_pos h
theorem err_f {b : Bool} (n : Int) (h : ¬ b = true) : err b n = n := if_neg h

theorem okM_iff (a0 a1 a2 a3 a4 a5 : Int) : okM a0 a1 a2 a3 a4 a5 = true ↔ (0 ≤ a0 ∧ a0 < 5) ∧ (0 ≤ a1 ∧ a1 < 5) ∧ (0 ≤ a2 ∧ a2 < 5) ∧ (0 ≤ a3 ∧ a3 < 5) ∧ (0 ≤ a4 ∧ a4 < 5) ∧ (0 ≤ a5 ∧ a5 < 5) := by
  simp [okM, sgB, and_assoc]

theorem checkMark_any (a0 a1 a2 a3 a4 a5 : Int) (w : World) :
    Calls Try.prog 14 #[.agg #[.int .i64 a0, .int .i64 a1, .int .i64 a2, .int .i64 a3, .int .i64 a4, .int .i64 a5]] w fun e w' => e = .returned (.int .i64 (err (okM a0 a1 a2 a3 a4 a5) 10)) ∧ Below w.heap.size w w' := by
  go_enter Try.func14, Try.ntmps14
  go_wp2
  refine wp_loop_rounds 7 ?_
  repeat any_goals (rw [rounds_succ]; go_wp2)
  all_goals
    go_ret
    refine ⟨congrArg (fun v => Ending.returned (Value.int .i64 v)) ?_, by go_grown⟩
    first
      | (rw [err_t _ (by simp [okM, sgB]; omega)]; done)
      | (rw [err_f _ (by simp [okM, sgB]; omega)]; done)

theorem refCheckMark_any (a0 a1 a2 a3 a4 a5 : Int) (w : World) :
    Calls Try.prog 15 #[.agg #[.int .i64 a0, .int .i64 a1, .int .i64 a2, .int .i64 a3, .int .i64 a4, .int .i64 a5]] w fun e w' => e = .returned (.int .i64 (err (okM a0 a1 a2 a3 a4 a5) 10)) ∧ Below w.heap.size w w' := by
  go_enter Try.func15, Try.ntmps15
  go_wp2
  refine wp_loop_rounds 7 ?_
  repeat any_goals (rw [rounds_succ]; go_wp2_with (go_at_call 67; refine (in_dec _ _ _ _).mono ?_; rintro e x1 (⟨rfl, hi, rfl⟩ | ⟨rfl, hi, rfl⟩)))
  all_goals
    go_ret
    refine ⟨congrArg (fun v => Ending.returned (Value.int .i64 v)) ?_, by go_grown⟩
    first
      | (rw [err_t _ (by simp [okM, sgB]; omega)]; done)
      | (rw [err_f _ (by simp [okM, sgB]; omega)]; done)

theorem checkReading_any (a0 a1 a2 a3 a4 a5 : Int) (w : World) :
    Calls Try.prog 18 #[.agg #[.int .i64 a0, .int .i64 a1, .int .i64 a2, .int .i64 a3, .int .i64 a4, .int .i64 a5]] w fun e w' => e = .returned (.int .i64 (err (okR a0 a1 a2 a3 a4 a5) 12)) ∧ Below w.heap.size w w' := by
  go_enter Try.func18, Try.ntmps18
  go_wp2
  refine wp_loop_rounds 7 ?_
  repeat any_goals (rw [rounds_succ]; go_wp2_with (go_at_call 68; refine (valid_dec _ _).mono ?_; rintro e x1 (⟨rfl, hi, rfl⟩ | ⟨rfl, hi, rfl⟩)))
  all_goals
    go_ret
    refine ⟨congrArg (fun v => Ending.returned (Value.int .i64 v)) ?_, by go_grown⟩
    try simp only [beq_iff_eq, beq_eq_false_iff_ne] at *
    first
      | (rw [err_t _ (by simp [okR, rdB]; omega)]; done)
      | (rw [err_f _ (by simp [okR, rdB]; omega)]; done)

theorem refCheckReading_any (a0 a1 a2 a3 a4 a5 : Int) (w : World) :
    Calls Try.prog 19 #[.agg #[.int .i64 a0, .int .i64 a1, .int .i64 a2, .int .i64 a3, .int .i64 a4, .int .i64 a5]] w fun e w' => e = .returned (.int .i64 (err (okR a0 a1 a2 a3 a4 a5) 12)) ∧ Below w.heap.size w w' := by
  go_enter Try.func19, Try.ntmps19
  go_wp2
  refine wp_loop_rounds 7 ?_
  repeat any_goals (rw [rounds_succ]; go_wp2_with (go_at_call 67; refine (in_dec _ _ _ _).mono ?_; rintro e x1 (⟨rfl, hi, rfl⟩ | ⟨rfl, hi, rfl⟩)))
  all_goals
    go_ret
    refine ⟨congrArg (fun v => Ending.returned (Value.int .i64 v)) ?_, by go_grown⟩
    first
      | (rw [err_t _ (by simp [okR, rdB]; omega)]; done)
      | (rw [err_f _ (by simp [okR, rdB]; omega)]; done)

end Go.Proofs.Ytpahbpgkmebieaa
