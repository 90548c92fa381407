/- The example of the statement is as it says. Own text. -/
import Derived.Test.YtpahbpgkmebieaaR7
namespace Go.Proofs.Ytpahbpgkmebieaa
open Go Go.RowKit
set_option maxHeartbeats 400000
set_option maxRecDepth 100000

set_option maxHeartbeats 2000000 in
theorem sane_any (w : World) : Calls Try.prog 22 #[] w fun e w' => e = .returned (.bool true) ∧ Below w.heap.size w w' := by
  go_enter Try.func22, Try.ntmps22
  go_wp2_with (go_at_call 74; refine (book_any _).mono ?_; rintro e x1 ⟨A, rfl, hG, hb1⟩; have HG1 := Lib.hid hG; have HB1 := Lib.hid hb1; clear hG hb1)
  generalize hW : (World.alloc _ _) = W
  have HW : Hid (Below w.heap.size w W) := Lib.hid (by subst hW; exact up HB1.out (up (up_alloc _ _) (up_alloc _ _)))
  have HGW : Hid (Gs W A 3 bookG) := Lib.hid (HG1.out.keep (by subst hW; exact up (up_alloc _ _) (up_alloc _ _)))
  have t0_W : x1.heap.size < W.heap.size := by subst hW; simp; omega
  have t1_W : x1.heap.size + 1 < W.heap.size := by subst hW; simp
  have cmW : ∀ j, W.cell? ⟨x1.heap.size, j, none⟩ = [Value.int .i64 1, .int .i64 3, .int .i64 4, .int .i64 24, .int .i64 24, .int .i64 0, .slice A 3 3][j]? := by subst hW; intro j; simp [go_sem]
  have crW : ∀ j, W.cell? ⟨x1.heap.size + 1, j, none⟩ = [Value.int .i64 31, .int .i64 1, .int .i64 1, .int .i64 1, .int .i64 1, .int .i64 31][j]? := by subst hW; intro j; simp [go_sem]
  clear hW
  go_wp2_with (first
    | (go_at_call 32; refine (owners_any 1 3 4 24 24 0 A 3 3 bookG ⟨31, 1, 1, 1, 1, 31⟩ W HGW.out (Nat.le_refl _)).mono ?_; rintro e x2 ⟨v2, rfl, ho2, hb2⟩; rw [f1]; rw [g2, f2] at ho2; obtain ⟨A2, c2, rfl, hc2, hi2⟩ := Is.of_own ho2; have HI2 := Lib.hid hi2; have HBx2 := Lib.hid hb2; clear ho2 hi2 hb2; have t0_x2 : x1.heap.size < x2.heap.size := (by have := HBx2.out.size; omega); have t1_x2 : x1.heap.size + 1 < x2.heap.size := (by have := HBx2.out.size; omega); have cmx2 : ∀ j, x2.cell? ⟨x1.heap.size, j, none⟩ = [Value.int .i64 1, .int .i64 3, .int .i64 4, .int .i64 24, .int .i64 24, .int .i64 0, .slice A 3 3][j]? := fun j => (HBx2.out.cell (p := ⟨x1.heap.size, j, none⟩) t0_W).trans (cmW j); have crx2 : ∀ j, x2.cell? ⟨x1.heap.size + 1, j, none⟩ = [Value.int .i64 31, .int .i64 1, .int .i64 1, .int .i64 1, .int .i64 1, .int .i64 31][j]? := fun j => (HBx2.out.cell (p := ⟨x1.heap.size + 1, j, none⟩) t1_W).trans (crW j); have HGx2 := Lib.hid (HGW.out.keep (HBx2.out)))
    | (go_at_call 48; refine (look_any 1 3 4 24 24 0 A 3 3 bookG ⟨31, 1, 1, 1, 1, 31⟩ _ HGx2.out (Nat.le_refl _)).mono ?_; rintro e x3 ⟨A3, k3, c3, rfl, hc3, hi3, hb3⟩; rw [f1]; rw [f3] at hi3; obtain rfl : k3 = 1 := hi3.len; have HI3 := Lib.hid hi3; have HBx3 := Lib.hid hb3; clear hi3 hb3; have t0_x3 : x1.heap.size < x3.heap.size := (by have := HBx3.out.size; omega); have t1_x3 : x1.heap.size + 1 < x3.heap.size := (by have := HBx3.out.size; omega); have cmx3 : ∀ j, x3.cell? ⟨x1.heap.size, j, none⟩ = [Value.int .i64 1, .int .i64 3, .int .i64 4, .int .i64 24, .int .i64 24, .int .i64 0, .slice A 3 3][j]? := fun j => (HBx3.out.cell (p := ⟨x1.heap.size, j, none⟩) t0_x2).trans (cmx2 j); have crx3 : ∀ j, x3.cell? ⟨x1.heap.size + 1, j, none⟩ = [Value.int .i64 31, .int .i64 1, .int .i64 1, .int .i64 1, .int .i64 1, .int .i64 31][j]? := fun j => (HBx3.out.cell (p := ⟨x1.heap.size + 1, j, none⟩) t1_x2).trans (crx2 j); have HGx3 := Lib.hid (HGx2.out.keep (HBx3.out)))
    | (go_at_call 50; refine (looked_any 1 3 4 24 24 0 A 3 3 bookG ⟨31, 1, 1, 1, 1, 31⟩ ⟨16, 1, 1, 1, 1, 1⟩ (some ⟨x3.heap.size, 0, none⟩) 1 1 [0] _ (HGx3.out.keep (up_alloc _ _)) (Nat.le_refl _) (is1 _ _ _ _ rfl)).mono ?_; rintro e x4 ⟨v4, rfl, ho4, hb4⟩; rw [f4]; rw [g5', f5] at ho4; obtain ⟨A4, c4, rfl, hc4, hi4⟩ := Is.of_own ho4; have HI4 := Lib.hid hi4; have HBx4 := Lib.hid (up (up_alloc _ _) hb4); clear ho4 hi4 hb4; have t0_x4 : x1.heap.size < x4.heap.size := (by have := HBx4.out.size; omega); have t1_x4 : x1.heap.size + 1 < x4.heap.size := (by have := HBx4.out.size; omega); have cmx4 : ∀ j, x4.cell? ⟨x1.heap.size, j, none⟩ = [Value.int .i64 1, .int .i64 3, .int .i64 4, .int .i64 24, .int .i64 24, .int .i64 0, .slice A 3 3][j]? := fun j => (HBx4.out.cell (p := ⟨x1.heap.size, j, none⟩) t0_x3).trans (cmx3 j); have crx4 : ∀ j, x4.cell? ⟨x1.heap.size + 1, j, none⟩ = [Value.int .i64 31, .int .i64 1, .int .i64 1, .int .i64 1, .int .i64 1, .int .i64 31][j]? := fun j => (HBx4.out.cell (p := ⟨x1.heap.size + 1, j, none⟩) t1_x3).trans (crx3 j); have HGx4 := Lib.hid (HGx3.out.keep (HBx4.out)))
    | (go_at_call 39; refine (next_any 1 3 4 24 24 0 A 3 3 bookG _ HGx4.out (Nat.le_refl _)).mono ?_; rintro e x5 ⟨rfl, hb5⟩; rw [f6]; dsimp only [encR]; have HBx5 := Lib.hid hb5; clear hb5; have t0_x5 : x1.heap.size < x5.heap.size := (by have := HBx5.out.size; omega); have t1_x5 : x1.heap.size + 1 < x5.heap.size := (by have := HBx5.out.size; omega); have cmx5 : ∀ j, x5.cell? ⟨x1.heap.size, j, none⟩ = [Value.int .i64 1, .int .i64 3, .int .i64 4, .int .i64 24, .int .i64 24, .int .i64 0, .slice A 3 3][j]? := fun j => (HBx5.out.cell (p := ⟨x1.heap.size, j, none⟩) t0_x4).trans (cmx4 j); have crx5 : ∀ j, x5.cell? ⟨x1.heap.size + 1, j, none⟩ = [Value.int .i64 31, .int .i64 1, .int .i64 1, .int .i64 1, .int .i64 1, .int .i64 31][j]? := fun j => (HBx5.out.cell (p := ⟨x1.heap.size + 1, j, none⟩) t1_x4).trans (crx4 j); have HGx5 := Lib.hid (HGx4.out.keep (HBx5.out))))
  clear cmW crW cmx2 crx2 cmx3 crx3 cmx4 crx4 crx5
  go_wp2_with (go_at_call 25; refine (distance_any 1 3 4 24 24 2 1 0 0 0 0 3 2 0 0 0 0 _).mono ?_; rintro e x6 ⟨rfl, hb6⟩; rw [d1, d2]; have HBx6 := Lib.hid (up (up_alloc _ _) hb6); have t0_x6 : x1.heap.size < x6.heap.size := (by have := HBx6.out.size; omega); have cmx6 : ∀ j, x6.cell? ⟨x1.heap.size, j, none⟩ = [Value.int .i64 1, .int .i64 3, .int .i64 4, .int .i64 24, .int .i64 24, .int .i64 0, .slice A 3 3][j]? := fun j => (HBx6.out.cell (p := ⟨x1.heap.size, j, none⟩) t0_x5).trans (cmx5 j); have m_x6 : x5.heap.size < x6.heap.size := (by have := hb6.size; simp only [World.size_alloc] at this; omega); have mmx6 : ∀ j, x6.cell? ⟨x5.heap.size, j, none⟩ = [Value.int .i64 0, .int .i64 0, .int .i64 0, .int .i64 0, .int .i64 0, .int .i64 2][j]? := (fun j => (hb6.cell (p := ⟨x5.heap.size, j, none⟩) (by simp)).trans (by simp [go_sem])); clear hb6)
  go_wp2_with (go_at_call 54; refine (worn_any 1 3 4 24 24 3 1 0 0 0 0 (some ⟨x6.heap.size, 0, none⟩) 2 2 [1, 0] _ (is2 _ _ _ _ _ rfl)).mono ?_; rintro e x7 ⟨rfl, hb7⟩; rw [n0, n1, n2, n3, n4, n5, f7]; have HBx7 := Lib.hid (up (up_alloc _ _) hb7); clear hb7; have m_x7 : x5.heap.size < x7.heap.size := (by have := HBx7.out.size; omega); have mmx7 : ∀ j, x7.cell? ⟨x5.heap.size, j, none⟩ = [Value.int .i64 0, .int .i64 0, .int .i64 0, .int .i64 0, .int .i64 0, .int .i64 2][j]? := fun j => (HBx7.out.cell (p := ⟨x5.heap.size, j, none⟩) m_x6).trans (mmx6 j))
  clear cmx5 cmx6
  go_wp2_with fail
  refine (same_yes A2 (some ⟨x7.heap.size + 1, 0, none⟩) 3 c2 3 [1, 2, 3] _ (HI2.out.keep (up HBx3.out (up HBx4.out (up HBx5.out (up HBx6.out (up HBx7.out (up (up_alloc _ _) (up_alloc _ _)))))))) (is3 _ _ _ _ _ (x7.heap.size + 1) (by simp))).mono ?_
  rintro e x8 ⟨rfl, hb8⟩
  have HBx8 := Lib.hid (up (up_alloc _ _) (up (up_alloc _ _) hb8))
  have m_x8 : x5.heap.size < x8.heap.size := (by have := HBx8.out.size; omega)
  have mmx8 : ∀ j, x8.cell? ⟨x5.heap.size, j, none⟩ = [Value.int .i64 0, .int .i64 0, .int .i64 0, .int .i64 0, .int .i64 0, .int .i64 2][j]? := fun j => (HBx8.out.cell (p := ⟨x5.heap.size, j, none⟩) m_x7).trans (mmx7 j)
  have r_x8 : x7.heap.size < x8.heap.size := (by have := hb8.size; simp only [World.size_alloc] at this; omega)
  have rrx8 : ∀ j, x8.cell? ⟨x7.heap.size, j, none⟩ = [Value.int .i64 16, .int .i64 1, .int .i64 1, .int .i64 1, .int .i64 1, .int .i64 1][j]? := (fun j => (hb8.cell (p := ⟨x7.heap.size, j, none⟩) (show x7.heap.size < _ by simp only [World.size_alloc]; omega)).trans ((Below.cell (up_alloc (x7.alloc _) _) (p := ⟨x7.heap.size, j, none⟩) (show x7.heap.size < _ by simp)).trans (by simp [go_sem])))
  clear hb8
  go_wp2_with fail
  refine (same_yes A3 (some ⟨x8.heap.size, 0, none⟩) 1 c3 1 [0] _ (HI3.out.keep (up HBx4.out (up HBx5.out (up HBx6.out (up HBx7.out (up HBx8.out (up_alloc _ _))))))) (is1 _ _ _ _ rfl)).mono ?_
  rintro e x9 ⟨rfl, hb9⟩
  have HBx9 := Lib.hid (up (up_alloc _ _) hb9)
  clear hb9
  have m_x9 : x5.heap.size < x9.heap.size := (by have := HBx9.out.size; omega)
  have mmx9 : ∀ j, x9.cell? ⟨x5.heap.size, j, none⟩ = [Value.int .i64 0, .int .i64 0, .int .i64 0, .int .i64 0, .int .i64 0, .int .i64 2][j]? := fun j => (HBx9.out.cell (p := ⟨x5.heap.size, j, none⟩) m_x8).trans (mmx8 j)
  have r_x9 : x7.heap.size < x9.heap.size := (by have := HBx9.out.size; omega)
  have rrx9 : ∀ j, x9.cell? ⟨x7.heap.size, j, none⟩ = [Value.int .i64 16, .int .i64 1, .int .i64 1, .int .i64 1, .int .i64 1, .int .i64 1][j]? := fun j => (HBx9.out.cell (p := ⟨x7.heap.size, j, none⟩) r_x8).trans (rrx8 j)
  go_wp2_with fail
  refine (same_yes A4 (some ⟨x9.heap.size, 0, none⟩) 1 c4 1 [3] _ (HI4.out.keep (up HBx5.out (up HBx6.out (up HBx7.out (up HBx8.out (up HBx9.out (up_alloc _ _))))))) (is1 _ _ _ _ rfl)).mono ?_
  rintro e x10 ⟨rfl, hb10⟩
  have HBx10 := Lib.hid (up (up_alloc _ _) hb10)
  clear hb10
  have m_x10 : x5.heap.size < x10.heap.size := (by have := HBx10.out.size; omega)
  have mmx10 : ∀ j, x10.cell? ⟨x5.heap.size, j, none⟩ = [Value.int .i64 0, .int .i64 0, .int .i64 0, .int .i64 0, .int .i64 0, .int .i64 2][j]? := fun j => (HBx10.out.cell (p := ⟨x5.heap.size, j, none⟩) m_x9).trans (mmx9 j)
  have r_x10 : x7.heap.size < x10.heap.size := (by have := HBx10.out.size; omega)
  have rrx10 : ∀ j, x10.cell? ⟨x7.heap.size, j, none⟩ = [Value.int .i64 16, .int .i64 1, .int .i64 1, .int .i64 1, .int .i64 1, .int .i64 1][j]? := fun j => (HBx10.out.cell (p := ⟨x7.heap.size, j, none⟩) r_x9).trans (rrx9 j)
  go_wp2_with fail
  go_ret
  exact ⟨rfl, up HW.out (up HBx2.out (up HBx3.out (up HBx4.out (up HBx5.out (up HBx6.out (up HBx7.out (up HBx8.out (up HBx9.out HBx10.out))))))))⟩
end Go.Proofs.Ytpahbpgkmebieaa
