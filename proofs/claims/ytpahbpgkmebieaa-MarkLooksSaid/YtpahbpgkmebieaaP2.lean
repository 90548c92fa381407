/- What Meet returns is due. Own text. -/
import Derived.Test.YtpahbpgkmebieaaW28
namespace Go.Proofs.Ytpahbpgkmebieaa
open Go Go.RowKit
set_option maxRecDepth 100000

theorem sumK_congr {f g : Nat → Int} : ∀ n, (∀ j, j < n → f j = g j) → sumK f n = sumK g n
  | 0, _ => rfl
  | n + 1, h => by simp only [sumK]; rw [sumK_congr n (fun j hj => h j (by omega)), h n (by omega)]
theorem g6_fn (f : Nat → Int) (k : Nat) (h : k < 6) : g6 (f 0) (f 1) (f 2) (f 3) (f 4) (f 5) k = f k := by
  rcases (by omega : k = 0 ∨ k = 1 ∨ k = 2 ∨ k = 3 ∨ k = 4 ∨ k = 5) with rfl | rfl | rfl | rfl | rfl | rfl <;> rfl
theorem dist6_sum (a0 a1 a2 a3 a4 a5 : Int) (f : Nat → Int) : dist6 a0 a1 a2 a3 a4 a5 (f 0) (f 1) (f 2) (f 3) (f 4) (f 5) = sumK (fun j => mis (g6 a0 a1 a2 a3 a4 a5 j) (f j)) 6 := by
  rw [← distK_6]
  exact sumK_congr 6 fun j hj => by rw [g6_fn f j hj]
theorem st_rdB {s : Int} (h : st s) : rdB s = true := by obtain ⟨h1, h2⟩ := h; simp [rdB]; omega

theorem meetE_0 {w0 w1 w2 w3 w4 p a0 a1 a2 a3 a4 a5 b0 b1 b2 b3 b4 b5 : Int} (h : meetE w0 w1 w2 w3 w4 p a0 a1 a2 a3 a4 a5 b0 b1 b2 b3 b4 b5 = 0) : distE w0 w1 w2 w3 w4 a0 a1 a2 a3 a4 a5 b0 b1 b2 b3 b4 b5 = 0 ∧ (0 ≤ p ∧ p ≤ 2) ∧ wdist w0 w1 w2 w3 w4 a0 a1 a2 a3 a4 a5 b0 b1 b2 b3 b4 b5 ≤ 2 * p := by
  unfold meetE at h
  by_cases h1 : distE w0 w1 w2 w3 w4 a0 a1 a2 a3 a4 a5 b0 b1 b2 b3 b4 b5 = 0
  · rw [if_pos h1] at h
    by_cases h2 : 0 ≤ p ∧ p ≤ 2
    · rw [if_pos h2] at h
      by_cases h3 : 2 * p < wdist w0 w1 w2 w3 w4 a0 a1 a2 a3 a4 a5 b0 b1 b2 b3 b4 b5
      · rw [if_pos h3] at h; omega
      · exact ⟨h1, h2, by omega⟩
    · rw [if_neg h2] at h; omega
  · rw [if_neg h1] at h; exact absurd h h1

theorem meet_good {w0 w1 w2 w3 w4 p a0 a1 a2 a3 a4 a5 b0 b1 b2 b3 b4 b5 : Int} (h : meetE w0 w1 w2 w3 w4 p a0 a1 a2 a3 a4 a5 b0 b1 b2 b3 b4 b5 = 0) (f : Nat → Int) (hf : meetV w0 w1 w2 w3 w4 p a0 a1 a2 a3 a4 a5 b0 b1 b2 b3 b4 b5 = f) :
    okR (f 0) (f 1) (f 2) (f 3) (f 4) (f 5) = true ∧ (∀ k : Nat, k < 6 → st (g6 (f 0) (f 1) (f 2) (f 3) (f 4) (f 5) k) ∧ (band (g6 (f 0) (f 1) (f 2) (f 3) (f 4) (f 5) k) (g6 (f 0) (f 1) (f 2) (f 3) (f 4) (f 5) k - 1) == 0) = true) ∧
    wcost w0 w1 w2 w3 w4 a0 a1 a2 a3 a4 a5 (f 0) (f 1) (f 2) (f 3) (f 4) (f 5) ≤ p ∧ wcost w0 w1 w2 w3 w4 b0 b1 b2 b3 b4 b5 (f 0) (f 1) (f 2) (f 3) (f 4) (f 5) ≤ p := by
  obtain ⟨h1, ⟨hp0, hp2⟩, hd⟩ := meetE_0 h
  obtain ⟨ow, oa, ob⟩ := distE_ok h1
  have sa := worn6_st ow oa
  have sb := worn6_st ow ob
  have e : ∀ k, f k = meetK w0 w1 w2 w3 w4 p a0 a1 a2 a3 a4 a5 b0 b1 b2 b3 b4 b5 k := fun k => by rw [← hf]; unfold meetV; rw [if_pos h]
  have key : ∀ k : Nat, k < 6 → st (f k) ∧ (band (f k) (f k - 1) == 0) = true := fun k hk => by
    rw [e k]
    exact bt_st (sa k hk) (sb k hk)
  have hs : sumK (fun j => mis (g6 (g5 w0 w1 w2 w3 w4 a0) (g5 w0 w1 w2 w3 w4 a1) (g5 w0 w1 w2 w3 w4 a2) (g5 w0 w1 w2 w3 w4 a3) (g5 w0 w1 w2 w3 w4 a4) (g5 w0 w1 w2 w3 w4 a5) j) (g6 (g5 w0 w1 w2 w3 w4 b0) (g5 w0 w1 w2 w3 w4 b1) (g5 w0 w1 w2 w3 w4 b2) (g5 w0 w1 w2 w3 w4 b3) (g5 w0 w1 w2 w3 w4 b4) (g5 w0 w1 w2 w3 w4 b5) j)) 6 ≤ 2 * p := by
    have : wdist w0 w1 w2 w3 w4 a0 a1 a2 a3 a4 a5 b0 b1 b2 b3 b4 b5 = distK (g5 w0 w1 w2 w3 w4 a0) (g5 w0 w1 w2 w3 w4 a1) (g5 w0 w1 w2 w3 w4 a2) (g5 w0 w1 w2 w3 w4 a3) (g5 w0 w1 w2 w3 w4 a4) (g5 w0 w1 w2 w3 w4 a5) (g5 w0 w1 w2 w3 w4 b0) (g5 w0 w1 w2 w3 w4 b1) (g5 w0 w1 w2 w3 w4 b2) (g5 w0 w1 w2 w3 w4 b3) (g5 w0 w1 w2 w3 w4 b4) (g5 w0 w1 w2 w3 w4 b5) 6 := by rw [distK_6]; rfl
    rw [this] at hd
    exact hd
  have g := bt_good hp0 6 sa sb hs
  refine ⟨?_, fun k hk => by rw [g6_fn f k hk]; exact key k hk, ?_, ?_⟩
  · simp only [okR, Bool.and_eq_true]
    exact ⟨⟨⟨⟨⟨st_rdB (key 0 (by omega)).1, st_rdB (key 1 (by omega)).1⟩, st_rdB (key 2 (by omega)).1⟩, st_rdB (key 3 (by omega)).1⟩, st_rdB (key 4 (by omega)).1⟩, st_rdB (key 5 (by omega)).1⟩
  · show dist6 _ _ _ _ _ _ _ _ _ _ _ _ ≤ p
    rw [dist6_sum _ _ _ _ _ _ f, sumK_congr 6 (fun j _ => by rw [e j])]
    exact g.1
  · show dist6 _ _ _ _ _ _ _ _ _ _ _ _ ≤ p
    rw [dist6_sum _ _ _ _ _ _ f, sumK_congr 6 (fun j _ => by rw [e j])]
    exact g.2
end Go.Proofs.Ytpahbpgkmebieaa
