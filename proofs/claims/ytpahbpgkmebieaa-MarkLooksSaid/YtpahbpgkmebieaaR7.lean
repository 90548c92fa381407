/- The example of the statement. Own text. -/
import Derived.Test.YtpahbpgkmebieaaR6
namespace Go.Proofs.Ytpahbpgkmebieaa
open Go Go.RowKit
set_option maxHeartbeats 400000
set_option maxRecDepth 100000

def bookG : List Giv := [⟨1, 0, 0, 0, 0, 0, 0⟩, ⟨2, 2, 0, 0, 0, 0, 0⟩, ⟨3, 3, 0, 0, 0, 0, 2⟩]
theorem f1 : brE 1 3 4 24 24 0 bookG ⟨31, 1, 1, 1, 1, 31⟩ = 0 := by kernel_rfl
theorem f2 : own (brG 1 3 4 24 24 0 bookG ⟨31, 1, 1, 1, 1, 31⟩) = [1, 2, 3] := by kernel_rfl
theorem f3 : lookR 1 3 4 24 24 0 bookG ⟨31, 1, 1, 1, 1, 31⟩ = [0] := by kernel_rfl
theorem f4 : lookE 1 3 4 24 24 0 bookG ⟨31, 1, 1, 1, 1, 31⟩ ⟨16, 1, 1, 1, 1, 1⟩ [0] = 0 := by kernel_rfl
theorem f5 : own (lookG 1 3 4 24 24 0 bookG ⟨31, 1, 1, 1, 1, 31⟩ ⟨16, 1, 1, 1, 1, 1⟩ [0]) = [3] := by kernel_rfl
theorem f6 : nextR 1 3 4 24 24 0 bookG = (⟨0, 0, 0, 0, 0, 2⟩, 0) := by
  unfold nextR
  rw [if_pos (by kernel_rfl), if_neg (by decide), find_hit (k := 2) (pre := [markNo 0, markNo 1]) (m := ⟨0, 0, 0, 0, 0, 2⟩) (by omega) (by kernel_rfl) (by intro x hx; simp at hx; rcases hx with rfl | rfl <;> kernel_rfl) (by kernel_rfl)]
theorem f7 : wornE 1 3 4 24 24 3 1 0 0 0 0 = 0 := by kernel_rfl
theorem g2 : (brG 1 3 4 24 24 0 bookG ⟨31, 1, 1, 1, 1, 31⟩).length = 3 := by kernel_rfl
theorem g5' : (lookG 1 3 4 24 24 0 bookG ⟨31, 1, 1, 1, 1, 31⟩ ⟨16, 1, 1, 1, 1, 1⟩ [0]).length = 1 := by kernel_rfl
theorem d1 : distV 1 3 4 24 24 2 1 0 0 0 0 3 2 0 0 0 0 = 2 := by kernel_rfl
theorem d2 : distE 1 3 4 24 24 2 1 0 0 0 0 3 2 0 0 0 0 = 0 := by kernel_rfl
theorem n0 : wornV 1 3 4 24 24 3 1 0 0 0 0 [1, 0] 0 = 16 := by kernel_rfl
theorem n1 : wornV 1 3 4 24 24 3 1 0 0 0 0 [1, 0] 1 = 1 := by kernel_rfl
theorem n2 : wornV 1 3 4 24 24 3 1 0 0 0 0 [1, 0] 2 = 1 := by kernel_rfl
theorem n3 : wornV 1 3 4 24 24 3 1 0 0 0 0 [1, 0] 3 = 1 := by kernel_rfl
theorem n4 : wornV 1 3 4 24 24 3 1 0 0 0 0 [1, 0] 4 = 1 := by kernel_rfl
theorem n5 : wornV 1 3 4 24 24 3 1 0 0 0 0 [1, 0] 5 = 1 := by kernel_rfl

theorem book_any (w : World) : Calls Try.prog 74 #[] w fun e w' => ∃ A, e = .returned (.agg #[.int .i64 1, .int .i64 3, .int .i64 4, .int .i64 24, .int .i64 24, .int .i64 0, .slice A 3 3]) ∧ Gs w' A 3 bookG ∧ Below w.heap.size w w' := by
  go_enter Try.func74, Try.ntmps74
  go_wp2
  refine bodyPost_ret (v := .agg #[.int .i64 1, .int .i64 3, .int .i64 4, .int .i64 24, .int .i64 24, .int .i64 0, .slice (some ⟨w.heap.size + 1, 0, none⟩) 3 3]) (by simp [results, Try.results74, go_sem]) rfl ⟨_, rfl, ⟨rfl, by decide, fun k hk => ?_⟩, by go_grown⟩
  refine ⟨w.heap.size + 1, 0, rfl, by simp, ?_⟩
  rcases (by simp [bookG] at hk; omega : k = 0 ∨ k = 1 ∨ k = 2) with rfl | rfl | rfl <;> (constructor <;> simp [go_sem, bookG])

theorem is1 (w : World) (a : Int) (t : TypeId) (B : Nat) (hB : B = w.heap.size) : Is (w.alloc (.cells #[.int .i64 a] t)) (some ⟨B, 0, none⟩) 1 [a] := by
  subst hB
  exact ⟨rfl, by decide, fun k hk => ⟨w.heap.size, 0, rfl, by simp, by
    obtain rfl : k = 0 := by simp at hk; omega
    simp [go_sem]⟩⟩
end Go.Proofs.Ytpahbpgkmebieaa
