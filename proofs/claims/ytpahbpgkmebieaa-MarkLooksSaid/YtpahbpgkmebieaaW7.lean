/- Distance and cost, as the reference counts them. Own text. -/
import Derived.Test.YtpahbpgkmebieaaW6
namespace Go.Proofs.Ytpahbpgkmebieaa
open Go.RowKit
set_option maxHeartbeats 400000
set_option maxRecDepth 100000

theorem refDistance_any (w0 w1 w2 w3 w4 a0 a1 a2 a3 a4 a5 b0 b1 b2 b3 b4 b5 : Int) (w : World) (ha0 : 0 ≤ a0) (ka0 : a0 < 5) (ha1 : 0 ≤ a1) (ka1 : a1 < 5) (ha2 : 0 ≤ a2) (ka2 : a2 < 5) (ha3 : 0 ≤ a3) (ka3 : a3 < 5) (ha4 : 0 ≤ a4) (ka4 : a4 < 5) (ha5 : 0 ≤ a5) (ka5 : a5 < 5) (hb0 : 0 ≤ b0) (kb0 : b0 < 5) (hb1 : 0 ≤ b1) (kb1 : b1 < 5) (hb2 : 0 ≤ b2) (kb2 : b2 < 5) (hb3 : 0 ≤ b3) (kb3 : b3 < 5) (hb4 : 0 ≤ b4) (kb4 : b4 < 5) (hb5 : 0 ≤ b5) (kb5 : b5 < 5) :
    Calls Try.prog 73 #[.agg #[.int .i64 w0, .int .i64 w1, .int .i64 w2, .int .i64 w3, .int .i64 w4], .agg #[.int .i64 a0, .int .i64 a1, .int .i64 a2, .int .i64 a3, .int .i64 a4, .int .i64 a5], .agg #[.int .i64 b0, .int .i64 b1, .int .i64 b2, .int .i64 b3, .int .i64 b4, .int .i64 b5]] w fun e w' => e = .returned (.int .i64 (wdist w0 w1 w2 w3 w4 a0 a1 a2 a3 a4 a5 b0 b1 b2 b3 b4 b5)) ∧ Below w.heap.size w w' := by
  go_enter Try.func73, Try.ntmps73
  go_wp2
  generalize hW : (World.alloc _ _) = W
  have HW : Hid (Below w.heap.size w W) := Lib.hid (by subst hW; go_grown)
  have hs : w.heap.size + 2 < W.heap.size := by subst hW; simp
  have cw : ∀ j, W.cell? ⟨w.heap.size, j, none⟩ = [Value.int .i64 w0, Value.int .i64 w1, Value.int .i64 w2, Value.int .i64 w3, Value.int .i64 w4][j]? := by subst hW; intro j; simp [go_sem]
  have Ca : Hid (∀ j, W.cell? ⟨w.heap.size + 1, j, none⟩ = [Value.int .i64 a0, Value.int .i64 a1, Value.int .i64 a2, Value.int .i64 a3, Value.int .i64 a4, Value.int .i64 a5][j]?) := Lib.hid (by subst hW; intro j; simp [go_sem])
  have Cb : Hid (∀ j, W.cell? ⟨w.heap.size + 1 + 1, j, none⟩ = [Value.int .i64 b0, Value.int .i64 b1, Value.int .i64 b2, Value.int .i64 b3, Value.int .i64 b4, Value.int .i64 b5][j]?) := Lib.hid (by subst hW; intro j; simp [go_sem])
  clear hW
  go_loopw [7, 8] (fun n i wr => ∃ (k : Nat) (z : Gr), k ≤ 6 ∧ i = .int .i64 k ∧ n = .int .i64 (distK (g5 w0 w1 w2 w3 w4 a0) (g5 w0 w1 w2 w3 w4 a1) (g5 w0 w1 w2 w3 w4 a2) (g5 w0 w1 w2 w3 w4 a3) (g5 w0 w1 w2 w3 w4 a4) (g5 w0 w1 w2 w3 w4 a5) (g5 w0 w1 w2 w3 w4 b0) (g5 w0 w1 w2 w3 w4 b1) (g5 w0 w1 w2 w3 w4 b2) (g5 w0 w1 w2 w3 w4 b3) (g5 w0 w1 w2 w3 w4 b4) (g5 w0 w1 w2 w3 w4 b5) k) ∧ wr = grow W z) (fun _ i _ => 6 - (intOf i).toNat)
  case atStart => exact ⟨0, ⟨#[], W.drawn⟩, by omega, rfl, rfl, by simp [grow]⟩
  case round =>
    obtain ⟨k, z, hk, rfl, rfl, rfl⟩ := hrel
    have hsz : w.heap.size + 2 < (grow W z).heap.size := by simp; omega
    by_cases hlt : k < 6
    · have ca := (Ca.out k).trans (at6n _ _ _ _ _ _ k hlt)
      have cb := (Cb.out k).trans (at6n _ _ _ _ _ _ k hlt)
      have Hstep : Hid (distK (g5 w0 w1 w2 w3 w4 a0) (g5 w0 w1 w2 w3 w4 a1) (g5 w0 w1 w2 w3 w4 a2) (g5 w0 w1 w2 w3 w4 a3) (g5 w0 w1 w2 w3 w4 a4) (g5 w0 w1 w2 w3 w4 a5) (g5 w0 w1 w2 w3 w4 b0) (g5 w0 w1 w2 w3 w4 b1) (g5 w0 w1 w2 w3 w4 b2) (g5 w0 w1 w2 w3 w4 b3) (g5 w0 w1 w2 w3 w4 b4) (g5 w0 w1 w2 w3 w4 b5) (k + 1) =
          distK (g5 w0 w1 w2 w3 w4 a0) (g5 w0 w1 w2 w3 w4 a1) (g5 w0 w1 w2 w3 w4 a2) (g5 w0 w1 w2 w3 w4 a3) (g5 w0 w1 w2 w3 w4 a4) (g5 w0 w1 w2 w3 w4 a5) (g5 w0 w1 w2 w3 w4 b0) (g5 w0 w1 w2 w3 w4 b1) (g5 w0 w1 w2 w3 w4 b2) (g5 w0 w1 w2 w3 w4 b3) (g5 w0 w1 w2 w3 w4 b4) (g5 w0 w1 w2 w3 w4 b5) k + mis (g5 w0 w1 w2 w3 w4 (g6 a0 a1 a2 a3 a4 a5 k)) (g5 w0 w1 w2 w3 w4 (g6 b0 b1 b2 b3 b4 b5 k))) := Lib.hid (by
        rcases (by omega : k = 0 ∨ k = 1 ∨ k = 2 ∨ k = 3 ∨ k = 4 ∨ k = 5) with rfl | rfl | rfl | rfl | rfl | rfl <;> rfl)
      have ba : 0 ≤ g6 a0 a1 a2 a3 a4 a5 k ∧ g6 a0 a1 a2 a3 a4 a5 k < 5 := by
        rcases (by omega : k = 0 ∨ k = 1 ∨ k = 2 ∨ k = 3 ∨ k = 4 ∨ k = 5) with rfl | rfl | rfl | rfl | rfl | rfl <;> exact ⟨by assumption, by assumption⟩
      have bb : 0 ≤ g6 b0 b1 b2 b3 b4 b5 k ∧ g6 b0 b1 b2 b3 b4 b5 k < 5 := by
        rcases (by omega : k = 0 ∨ k = 1 ∨ k = 2 ∨ k = 3 ∨ k = 4 ∨ k = 5) with rfl | rfl | rfl | rfl | rfl | rfl <;> exact ⟨by assumption, by assumption⟩
      have hd := distK_bd (g5 w0 w1 w2 w3 w4 a0) (g5 w0 w1 w2 w3 w4 a1) (g5 w0 w1 w2 w3 w4 a2) (g5 w0 w1 w2 w3 w4 a3) (g5 w0 w1 w2 w3 w4 a4) (g5 w0 w1 w2 w3 w4 a5) (g5 w0 w1 w2 w3 w4 b0) (g5 w0 w1 w2 w3 w4 b1) (g5 w0 w1 w2 w3 w4 b2) (g5 w0 w1 w2 w3 w4 b3) (g5 w0 w1 w2 w3 w4 b4) (g5 w0 w1 w2 w3 w4 b5) k
      generalize distK (g5 w0 w1 w2 w3 w4 a0) (g5 w0 w1 w2 w3 w4 a1) (g5 w0 w1 w2 w3 w4 a2) (g5 w0 w1 w2 w3 w4 a3) (g5 w0 w1 w2 w3 w4 a4) (g5 w0 w1 w2 w3 w4 a5) (g5 w0 w1 w2 w3 w4 b0) (g5 w0 w1 w2 w3 w4 b1) (g5 w0 w1 w2 w3 w4 b2) (g5 w0 w1 w2 w3 w4 b3) (g5 w0 w1 w2 w3 w4 b4) (g5 w0 w1 w2 w3 w4 b5) k = d at *
      obtain ⟨p1, p2⟩ := ba
      obtain ⟨q1, q2⟩ := bb
      generalize g6 a0 a1 a2 a3 a4 a5 k = x at *
      generalize g6 b0 b1 b2 b3 b4 b5 k = y at *
      go_wp2
      refine wp_region_grow (by kernel_rfl) (by kernel_rfl) ?_
      repeat (go_big_quiet_step ((fail)))
      refine wpQuiet_nil ?_
      intro z'
      obtain ⟨v, hv⟩ := grow_grow W z z'
      rw [hv]
      clear hv
      go_wp2
      all_goals
        refine ⟨⟨k + 1, v, by omega, by go_num, ?_, rfl⟩, by simp [intOf]; omega⟩
        refine congrArg (Value.int IntKind.i64) ?_
        rw [Hstep.out]
        first
          | (rw [mis_yes (by assumption)]; done)
          | (rw [mis_no (by assumption)]; omega)
    · obtain rfl : k = 6 := by omega
      go_wp2
      go_ret
      exact ⟨by rw [distK_6]; rfl, up HW.out (grow_below W z)⟩
theorem refCost_any (w0 w1 w2 w3 w4 a0 a1 a2 a3 a4 a5 b0 b1 b2 b3 b4 b5 : Int) (w : World) (ha0 : 0 ≤ a0) (ka0 : a0 < 5) (ha1 : 0 ≤ a1) (ka1 : a1 < 5) (ha2 : 0 ≤ a2) (ka2 : a2 < 5) (ha3 : 0 ≤ a3) (ka3 : a3 < 5) (ha4 : 0 ≤ a4) (ka4 : a4 < 5) (ha5 : 0 ≤ a5) (ka5 : a5 < 5) :
    Calls Try.prog 79 #[.agg #[.int .i64 w0, .int .i64 w1, .int .i64 w2, .int .i64 w3, .int .i64 w4], .agg #[.int .i64 a0, .int .i64 a1, .int .i64 a2, .int .i64 a3, .int .i64 a4, .int .i64 a5], .agg #[.int .i64 b0, .int .i64 b1, .int .i64 b2, .int .i64 b3, .int .i64 b4, .int .i64 b5]] w fun e w' => e = .returned (.int .i64 (wcost w0 w1 w2 w3 w4 a0 a1 a2 a3 a4 a5 b0 b1 b2 b3 b4 b5)) ∧ Below w.heap.size w w' := by
  go_enter Try.func79, Try.ntmps79
  go_wp2
  generalize hW : (World.alloc _ _) = W
  have HW : Hid (Below w.heap.size w W) := Lib.hid (by subst hW; go_grown)
  have hs : w.heap.size + 2 < W.heap.size := by subst hW; simp
  have cw : ∀ j, W.cell? ⟨w.heap.size, j, none⟩ = [Value.int .i64 w0, Value.int .i64 w1, Value.int .i64 w2, Value.int .i64 w3, Value.int .i64 w4][j]? := by subst hW; intro j; simp [go_sem]
  have Ca : Hid (∀ j, W.cell? ⟨w.heap.size + 1, j, none⟩ = [Value.int .i64 a0, Value.int .i64 a1, Value.int .i64 a2, Value.int .i64 a3, Value.int .i64 a4, Value.int .i64 a5][j]?) := Lib.hid (by subst hW; intro j; simp [go_sem])
  have Cb : Hid (∀ j, W.cell? ⟨w.heap.size + 1 + 1, j, none⟩ = [Value.int .i64 b0, Value.int .i64 b1, Value.int .i64 b2, Value.int .i64 b3, Value.int .i64 b4, Value.int .i64 b5][j]?) := Lib.hid (by subst hW; intro j; simp [go_sem])
  clear hW
  go_loopw [7, 8] (fun n i wr => ∃ (k : Nat) (z : Gr), k ≤ 6 ∧ i = .int .i64 k ∧ n = .int .i64 (distK (g5 w0 w1 w2 w3 w4 a0) (g5 w0 w1 w2 w3 w4 a1) (g5 w0 w1 w2 w3 w4 a2) (g5 w0 w1 w2 w3 w4 a3) (g5 w0 w1 w2 w3 w4 a4) (g5 w0 w1 w2 w3 w4 a5) b0 b1 b2 b3 b4 b5 k) ∧ wr = grow W z) (fun _ i _ => 6 - (intOf i).toNat)
  case atStart => exact ⟨0, ⟨#[], W.drawn⟩, by omega, rfl, rfl, by simp [grow]⟩
  case round =>
    obtain ⟨k, z, hk, rfl, rfl, rfl⟩ := hrel
    have hsz : w.heap.size + 2 < (grow W z).heap.size := by simp; omega
    by_cases hlt : k < 6
    · have ca := (Ca.out k).trans (at6n _ _ _ _ _ _ k hlt)
      have cb := (Cb.out k).trans (at6n _ _ _ _ _ _ k hlt)
      have Hstep : Hid (distK (g5 w0 w1 w2 w3 w4 a0) (g5 w0 w1 w2 w3 w4 a1) (g5 w0 w1 w2 w3 w4 a2) (g5 w0 w1 w2 w3 w4 a3) (g5 w0 w1 w2 w3 w4 a4) (g5 w0 w1 w2 w3 w4 a5) b0 b1 b2 b3 b4 b5 (k + 1) =
          distK (g5 w0 w1 w2 w3 w4 a0) (g5 w0 w1 w2 w3 w4 a1) (g5 w0 w1 w2 w3 w4 a2) (g5 w0 w1 w2 w3 w4 a3) (g5 w0 w1 w2 w3 w4 a4) (g5 w0 w1 w2 w3 w4 a5) b0 b1 b2 b3 b4 b5 k + mis (g5 w0 w1 w2 w3 w4 (g6 a0 a1 a2 a3 a4 a5 k)) (g6 b0 b1 b2 b3 b4 b5 k)) := Lib.hid (by
        rcases (by omega : k = 0 ∨ k = 1 ∨ k = 2 ∨ k = 3 ∨ k = 4 ∨ k = 5) with rfl | rfl | rfl | rfl | rfl | rfl <;> rfl)
      have ba : 0 ≤ g6 a0 a1 a2 a3 a4 a5 k ∧ g6 a0 a1 a2 a3 a4 a5 k < 5 := by
        rcases (by omega : k = 0 ∨ k = 1 ∨ k = 2 ∨ k = 3 ∨ k = 4 ∨ k = 5) with rfl | rfl | rfl | rfl | rfl | rfl <;> exact ⟨by assumption, by assumption⟩
      have hd := distK_bd (g5 w0 w1 w2 w3 w4 a0) (g5 w0 w1 w2 w3 w4 a1) (g5 w0 w1 w2 w3 w4 a2) (g5 w0 w1 w2 w3 w4 a3) (g5 w0 w1 w2 w3 w4 a4) (g5 w0 w1 w2 w3 w4 a5) b0 b1 b2 b3 b4 b5 k
      generalize distK (g5 w0 w1 w2 w3 w4 a0) (g5 w0 w1 w2 w3 w4 a1) (g5 w0 w1 w2 w3 w4 a2) (g5 w0 w1 w2 w3 w4 a3) (g5 w0 w1 w2 w3 w4 a4) (g5 w0 w1 w2 w3 w4 a5) b0 b1 b2 b3 b4 b5 k = d at *
      obtain ⟨p1, p2⟩ := ba
      generalize g6 a0 a1 a2 a3 a4 a5 k = x at *
      generalize g6 b0 b1 b2 b3 b4 b5 k = y at *
      go_wp2
      refine wp_region_grow (by kernel_rfl) (by kernel_rfl) ?_
      repeat (go_big_quiet_step ((fail)))
      refine wpQuiet_nil ?_
      intro z'
      obtain ⟨v, hv⟩ := grow_grow W z z'
      rw [hv]
      clear hv
      go_wp2
      all_goals
        refine ⟨⟨k + 1, v, by omega, by go_num, ?_, rfl⟩, by simp [intOf]; omega⟩
        refine congrArg (Value.int IntKind.i64) ?_
        rw [Hstep.out]
        first
          | (rw [mis_yes (by assumption)]; done)
          | (rw [mis_no (by assumption)]; omega)
    · obtain rfl : k = 6 := by omega
      go_wp2
      go_ret
      exact ⟨by rw [distK_6]; rfl, up HW.out (grow_below W z)⟩
end Go.Proofs.Ytpahbpgkmebieaa
