/- Whether wear is valid. Own text. -/
import Derived.Test.YtpahbpgkmebieaaW5
namespace Go.Proofs.Ytpahbpgkmebieaa
open Go.RowKit
set_option maxHeartbeats 400000
set_option maxRecDepth 100000

theorem checkWear_any (a0 a1 a2 a3 a4 : Int) (w : World) :
    Calls Try.prog 16 #[.agg #[.int .i64 a0, .int .i64 a1, .int .i64 a2, .int .i64 a3, .int .i64 a4]] w fun e w' => e = .returned (.int .i64 (err (okW a0 a1 a2 a3 a4) 11)) ∧ Below w.heap.size w w' := by
  go_enter Try.func16, Try.ntmps16
  go_wp2
  refine wp_loop_rounds 6 ?_
  repeat any_goals (rw [rounds_succ]; go_wp2_with (first | (go_at_call 68; refine (valid_dec _ _).mono ?_; rintro e x1 (⟨rfl, hi, rfl⟩ | ⟨rfl, hi, rfl⟩)) | (go_at_call 69; refine (has_dec _ _ _ (by decide) (by decide)).mono ?_; rintro e x1 (⟨rfl, hh, rfl⟩ | ⟨rfl, hh, rfl⟩))))
  all_goals
    go_ret
    refine ⟨congrArg (fun v => Ending.returned (Value.int .i64 v)) ?_, by go_grown⟩
    go_tidy
    first
      | (rw [err_t]; simp_all [okW, wrB]; done)
      | (rw [err_f]; simp_all [okW, wrB]; done)
      | (rw [err_f]; simp_all [okW, wrB]; intros; omega)

theorem p2n (k : Nat) (h : k < 5) : wrap64 ((2 : Int) ^ k) = 2 ^ k := by
  rcases (by omega : k = 0 ∨ k = 1 ∨ k = 2 ∨ k = 3 ∨ k = 4) with rfl | rfl | rfl | rfl | rfl <;> simp [wrap64]
/-- The first k. -/
def allK (f : Nat → Bool) : Nat → Bool
  | 0 => true
  | k + 1 => allK f k && f k
theorem allK_no (f : Nat → Bool) (k : Nat) (h : f k = false) : ∀ n, k < n → allK f n = false := by
  intro n
  induction n with
  | zero => intro h; omega
  | succ n ih =>
    intro hk
    unfold allK
    by_cases e : k = n
    · subst e; rw [h]; simp
    · rw [ih (by omega)]; rfl
def wrK (a0 a1 a2 a3 a4 : Int) (k : Nat) : Bool := wrB (g5 a0 a1 a2 a3 a4 k) k
theorem okW_allK (a0 a1 a2 a3 a4 : Int) : okW a0 a1 a2 a3 a4 = allK (wrK a0 a1 a2 a3 a4) 5 := by
  show _ = (((((true && wrB a0 0) && wrB a1 1) && wrB a2 2) && wrB a3 3) && wrB a4 4)
  simp [okW]

theorem refCheckWear_any (a0 a1 a2 a3 a4 : Int) (w : World) :
    Calls Try.prog 17 #[.agg #[.int .i64 a0, .int .i64 a1, .int .i64 a2, .int .i64 a3, .int .i64 a4]] w fun e w' => e = .returned (.int .i64 (err (okW a0 a1 a2 a3 a4) 11)) ∧ Below w.heap.size w w' := by
  go_enter Try.func17, Try.ntmps17
  go_wp2
  generalize hW : (World.alloc _ _) = W
  have HW : Hid (Below w.heap.size w W) := Lib.hid (by subst hW; go_grown)
  have hs : w.heap.size < W.heap.size := by subst hW; simp
  have Ca : Hid (∀ j, W.cell? ⟨w.heap.size, j, none⟩ = [Value.int .i64 a0, Value.int .i64 a1, Value.int .i64 a2, Value.int .i64 a3, Value.int .i64 a4][j]?) := Lib.hid (by subst hW; intro j; simp [go_sem])
  clear hW
  go_loopw [3] (fun i wr => ∃ (k : Nat) (z : Gr), k ≤ 5 ∧ i = .int .i64 k ∧ wr = grow W z ∧ allK (wrK a0 a1 a2 a3 a4) k = true) (fun i _ => 5 - (intOf i).toNat)
  case atStart => exact ⟨0, ⟨#[], W.drawn⟩, by omega, rfl, by simp [grow], rfl⟩
  case round =>
    obtain ⟨k, z, hk, rfl, rfl, hall⟩ := hrel
    have Hall := Lib.hid hall; clear hall
    have e1 : w.heap.size < W.heap.size + z.blocks.size := by omega
    have hsz : w.heap.size < (grow W z).heap.size := by simp; omega
    by_cases hlt : k < 5
    · have ca := (Ca.out k).trans (at5n _ _ _ _ _ k hlt)
      have Hw : Hid (wrK a0 a1 a2 a3 a4 k = (decide (0 ≤ g5 a0 a1 a2 a3 a4 k) && decide (g5 a0 a1 a2 a3 a4 k ≤ 31) && hasB (g5 a0 a1 a2 a3 a4 k) k)) := Lib.hid rfl
      have Hf := Lib.hid (fun h => allK_no (wrK a0 a1 a2 a3 a4) k h 5 hlt)
      generalize hx : g5 a0 a1 a2 a3 a4 k = x at *
      have Hx := Lib.hid hx; clear hx
      by_cases hin : 0 ≤ x ∧ x ≤ 31
      · have hp := p2n k hlt
        have hin1 := hin.1
        have hin2 := hin.2
        go_wp2
        refine wp_region_grow (by kernel_rfl) (by kernel_rfl) ?_
        repeat (go_big_quiet_step ((exact quiet_grow rfl (in_yes _ _ _ _ hin))))
        refine wpQuiet_nil ?_
        intro z'
        obtain ⟨y, hy⟩ := grow_grow W z z'
        rw [hy]
        clear hy hp
        cases hb : hasB x k
        · have hb1 : (bits BinOp.and IntKind.i64 x (2 ^ k) == 0) = true := by
            have : (bits BinOp.and IntKind.i64 x (2 ^ k) != 0) = false := hb
            simpa [bne] using this
          have Hb := Lib.hid hb
          clear hb
          go_wp2
          go_ret
          refine ⟨congrArg (fun v => Ending.returned (Value.int .i64 v)) ?_, up HW.out (grow_below W y)⟩
          rw [okW_allK, Hf.out (by rw [Hw.out, Hb.out]; simp)]; rfl
        · have hb1 : (bits BinOp.and IntKind.i64 x (2 ^ k) == 0) = false := by
            have : (bits BinOp.and IntKind.i64 x (2 ^ k) != 0) = true := hb
            simpa [bne] using this
          have Hb := Lib.hid hb
          clear hb
          go_wp2
          refine ⟨⟨k + 1, y, by omega, by go_num, rfl, ?_⟩, by simp [intOf]; omega⟩
          show (allK (wrK a0 a1 a2 a3 a4) k && wrK a0 a1 a2 a3 a4 k) = true
          rw [Hall.out, Hw.out, Hb.out]; simp [hin.1, hin.2]
      · have Hin := Lib.hid hin
        go_wp2
        refine wp_region_grow (by kernel_rfl) (by kernel_rfl) ?_
        repeat (go_big_quiet_step ((exact quiet_grow rfl (in_no _ _ _ _ Hin.out))))
        refine wpQuiet_nil ?_
        intro z'
        obtain ⟨y, hy⟩ := grow_grow W z z'
        rw [hy]
        clear hy
        go_wp2
        go_ret
        refine ⟨congrArg (fun v => Ending.returned (Value.int .i64 v)) ?_, up HW.out (grow_below W y)⟩
        rw [okW_allK, Hf.out (by rw [Hw.out]; simp; intros; omega)]; rfl
    · obtain rfl : k = 5 := by omega
      go_wp2
      go_ret
      refine ⟨congrArg (fun v => Ending.returned (Value.int .i64 v)) ?_, up HW.out (grow_below W z)⟩
      rw [okW_allK, Hall.out]; rfl
end Go.Proofs.Ytpahbpgkmebieaa
