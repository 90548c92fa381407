/- What each small function returns: signs, rows. Own text. -/
import Derived.Test.YtpahbpgkmebieaaFac
namespace Go.Proofs.Ytpahbpgkmebieaa
open Go.RowKit
set_option maxHeartbeats 400000
set_option maxRecDepth 100000

/-- Two numbers' common bits. -/
def band (a b : Int) : Int := bits BinOp.and IntKind.i64 a b
/-- A sign of a mark. -/
def sg (s : Int) : Prop := 0 ≤ s ∧ s < 5

theorem in_any (n lo hi : Int) (w : World) :
    Calls Try.prog 67 #[.int .i64 n, .int .i64 lo, .int .i64 hi] w fun e w' => e = .returned (.bool (decide (lo ≤ n) && decide (n ≤ hi))) ∧ w = w' := by
  by_cases h : lo ≤ n <;> (go_enter Try.func67, Try.ntmps67; go_wp2; go_ret; exact ⟨by simp [h] <;> omega, rfl⟩)

theorem valid_any (s : Int) (w : World) :
    Calls Try.prog 68 #[.int .i64 s] w fun e w' => e = .returned (.bool (decide (0 ≤ s) && decide (s ≤ 31))) ∧ w = w' := by
  by_cases h : 0 ≤ s <;> (go_enter Try.func68, Try.ntmps68; go_wp2; go_ret; exact ⟨by simp [h] <;> omega, rfl⟩)

theorem places_any (s : Int) (w : World) :
    Calls Try.prog 70 #[.int .i64 s] w fun e w' => e = .returned (.bool (decide (0 ≤ s) && decide (s ≤ 2))) ∧ w = w' := by
  by_cases h : 0 ≤ s <;> (go_enter Try.func70, Try.ntmps70; go_wp2; go_ret; exact ⟨by simp [h] <;> omega, rfl⟩)

theorem owner_any (s : Int) (w : World) :
    Calls Try.prog 71 #[.int .i64 s] w fun e w' => e = .returned (.bool (decide (1 ≤ s) && decide (s ≤ 99))) ∧ w = w' := by
  by_cases h : 1 ≤ s <;> (go_enter Try.func71, Try.ntmps71; go_wp2; go_ret; exact ⟨by simp [h] <;> omega, rfl⟩)

theorem misses_any (a b : Int) (w : World) :
    Calls Try.prog 108 #[.int .i64 a, .int .i64 b] w fun e w' => e = .returned (.bool (band a b == 0)) ∧ w = w' := by
  go_enter Try.func108, Try.ntmps108; go_wp2; go_ret; exact ⟨rfl, rfl⟩

theorem meets_any (a b : Int) (w : World) :
    Calls Try.prog 112 #[.int .i64 a, .int .i64 b] w fun e w' => e = .returned (.bool (band a b != 0)) ∧ w = w' := by
  go_enter Try.func112, Try.ntmps112; go_wp2; go_ret; exact ⟨rfl, rfl⟩

theorem p2_wrap (s : Int) (h0 : 0 ≤ s) (h1 : s < 5) : wrap64 (2 ^ s.toNat) = 2 ^ s.toNat := by
  rcases (by omega : s = 0 ∨ s = 1 ∨ s = 2 ∨ s = 3 ∨ s = 4) with rfl | rfl | rfl | rfl | rfl <;> simp [wrap64]

theorem only_any (s : Int) (w : World) (h0 : 0 ≤ s) (h1 : s < 5) :
    Calls Try.prog 103 #[.int .i64 s] w fun e w' => e = .returned (.int .i64 (2 ^ s.toNat)) ∧ w = w' := by
  go_enter Try.func103, Try.ntmps103; go_wp2; go_ret; exact ⟨by simp [p2_wrap s h0 h1], rfl⟩

theorem has_any (a s : Int) (w : World) (h0 : 0 ≤ s) (h1 : s < 5) :
    Calls Try.prog 69 #[.int .i64 a, .int .i64 s] w fun e w' => e = .returned (.bool (band a (2 ^ s.toNat) != 0)) ∧ w = w' := by
  go_enter Try.func69, Try.ntmps69
  go_wp2_with (go_at_call 103; refine (only_any _ _ h0 h1).mono ?_; rintro e w' ⟨rfl, rfl⟩)
  go_ret; exact ⟨rfl, rfl⟩

theorem wornRow_any (w0 w1 w2 w3 w4 m0 m1 m2 m3 m4 m5 : Int) (w : World) (h0 : 0 ≤ m0) (k0 : m0 < 5) (h1 : 0 ≤ m1) (k1 : m1 < 5) (h2 : 0 ≤ m2) (k2 : m2 < 5)
    (h3 : 0 ≤ m3) (k3 : m3 < 5) (h4 : 0 ≤ m4) (k4 : m4 < 5) (h5 : 0 ≤ m5) (k5 : m5 < 5) :
    Calls Try.prog 77 #[.agg #[.int .i64 w0, .int .i64 w1, .int .i64 w2, .int .i64 w3, .int .i64 w4], .agg #[.int .i64 m0, .int .i64 m1, .int .i64 m2, .int .i64 m3, .int .i64 m4, .int .i64 m5]] w fun e w' => 
      e = .returned (.agg #[.int .i64 (g5 w0 w1 w2 w3 w4 m0), .int .i64 (g5 w0 w1 w2 w3 w4 m1), .int .i64 (g5 w0 w1 w2 w3 w4 m2), .int .i64 (g5 w0 w1 w2 w3 w4 m3), .int .i64 (g5 w0 w1 w2 w3 w4 m4), .int .i64 (g5 w0 w1 w2 w3 w4 m5)]) ∧ Below w.heap.size w w' := by
  go_enter Try.func77, Try.ntmps77
  go_wp2
  refine wp_loop_rounds 7 ?_
  repeat any_goals (rw [rounds_succ]; go_wp2)
  go_returns
  exact ⟨rfl, by go_grown⟩

theorem seenRow_any (m0 m1 m2 m3 m4 m5 : Int) (w : World) :
    Calls Try.prog 78 #[.agg #[.int .i64 m0, .int .i64 m1, .int .i64 m2, .int .i64 m3, .int .i64 m4, .int .i64 m5]] w fun e w' => 
      e = .returned (.agg #[.int .i64 m0, .int .i64 m1, .int .i64 m2, .int .i64 m3, .int .i64 m4, .int .i64 m5]) ∧ Below w.heap.size w w' := by
  go_enter Try.func78, Try.ntmps78
  go_wp2
  refine wp_loop_rounds 7 ?_
  repeat any_goals (rw [rounds_succ]; go_wp2)
  go_returns
  exact ⟨rfl, by go_grown⟩

theorem in_yes (n lo hi : Int) (w : World) (h : lo ≤ n ∧ n ≤ hi) : Calls Try.prog 67 #[.int .i64 n, .int .i64 lo, .int .i64 hi] w fun e w' => e = .returned (.bool true) ∧ Below w.heap.size w w' :=
  (in_any n lo hi w).mono fun e w' g => ⟨by rw [g.1]; simp [h.1, h.2], g.2 ▸ Below.refl _ _⟩
theorem in_no (n lo hi : Int) (w : World) (h : ¬ (lo ≤ n ∧ n ≤ hi)) : Calls Try.prog 67 #[.int .i64 n, .int .i64 lo, .int .i64 hi] w fun e w' => e = .returned (.bool false) ∧ Below w.heap.size w w' :=
  (in_any n lo hi w).mono fun e w' g => ⟨by rw [g.1]; simp <;> omega, g.2 ▸ Below.refl _ _⟩
theorem in_dec (n lo hi : Int) (w : World) : Calls Try.prog 67 #[.int .i64 n, .int .i64 lo, .int .i64 hi] w fun e w' =>
    (e = .returned (.bool true) ∧ (lo ≤ n ∧ n ≤ hi) ∧ w = w') ∨ (e = .returned (.bool false) ∧ ¬ (lo ≤ n ∧ n ≤ hi) ∧ w = w') :=
  (in_any n lo hi w).mono fun e w' h => by
    by_cases c : lo ≤ n ∧ n ≤ hi
    · exact .inl ⟨by rw [h.1]; simp [c.1, c.2], c, h.2⟩
    · exact .inr ⟨by rw [h.1]; simp <;> omega, c, h.2⟩
theorem valid_dec (n : Int) (w : World) : Calls Try.prog 68 #[.int .i64 n] w fun e w' =>
    (e = .returned (.bool true) ∧ (0 ≤ n ∧ n ≤ 31) ∧ w = w') ∨ (e = .returned (.bool false) ∧ ¬ (0 ≤ n ∧ n ≤ 31) ∧ w = w') :=
  (valid_any n w).mono fun e w' h => by
    by_cases c : 0 ≤ n ∧ n ≤ 31
    · exact .inl ⟨by rw [h.1]; simp [c.1, c.2], c, h.2⟩
    · exact .inr ⟨by rw [h.1]; simp <;> omega, c, h.2⟩
theorem places_dec (n : Int) (w : World) : Calls Try.prog 70 #[.int .i64 n] w fun e w' =>
    (e = .returned (.bool true) ∧ (0 ≤ n ∧ n ≤ 2) ∧ w = w') ∨ (e = .returned (.bool false) ∧ ¬ (0 ≤ n ∧ n ≤ 2) ∧ w = w') :=
  (places_any n w).mono fun e w' h => by
    by_cases c : 0 ≤ n ∧ n ≤ 2
    · exact .inl ⟨by rw [h.1]; simp [c.1, c.2], c, h.2⟩
    · exact .inr ⟨by rw [h.1]; simp <;> omega, c, h.2⟩
theorem owner_dec (n : Int) (w : World) : Calls Try.prog 71 #[.int .i64 n] w fun e w' =>
    (e = .returned (.bool true) ∧ (1 ≤ n ∧ n ≤ 99) ∧ w = w') ∨ (e = .returned (.bool false) ∧ ¬ (1 ≤ n ∧ n ≤ 99) ∧ w = w') :=
  (owner_any n w).mono fun e w' h => by
    by_cases c : 1 ≤ n ∧ n ≤ 99
    · exact .inl ⟨by rw [h.1]; simp [c.1, c.2], c, h.2⟩
    · exact .inr ⟨by rw [h.1]; simp <;> omega, c, h.2⟩
/-- Does a set have a sign? -/
def hasB (a : Int) (i : Nat) : Bool := band a (2 ^ i) != 0
theorem has_dec (a s : Int) (w : World) (h0 : 0 ≤ s) (h1 : s < 5) : Calls Try.prog 69 #[.int .i64 a, .int .i64 s] w fun e w' =>
    (e = .returned (.bool true) ∧ hasB a s.toNat = true ∧ w = w') ∨ (e = .returned (.bool false) ∧ hasB a s.toNat = false ∧ w = w') :=
  (has_any a s w h0 h1).mono fun e w' h => by
    cases c : hasB a s.toNat
    · exact .inr ⟨by rw [h.1]; unfold hasB at c; rw [c], rfl, h.2⟩
    · exact .inl ⟨by rw [h.1]; unfold hasB at c; rw [c], rfl, h.2⟩
end Go.Proofs.Ytpahbpgkmebieaa
