/- Looking an owner's mark up, in the program and in the reference. Own text. -/
import Derived.Test.YtpahbpgkmebieaaW11
namespace Go.Proofs.Ytpahbpgkmebieaa
open Go.RowKit
set_option maxHeartbeats 400000
set_option maxRecDepth 100000

theorem check_yes (w0 w1 w2 w3 w4 F : Int) (A : Option Addr) (n c : Nat) (gs : List Giv) (w : World) (hg : Gs w A n gs) (hnc : n ≤ c) (h : okB w0 w1 w2 w3 w4 F gs = true) :
    Calls Try.prog 20 #[.agg #[.int .i64 w0, .int .i64 w1, .int .i64 w2, .int .i64 w3, .int .i64 w4, .int .i64 F, .slice A n c]] w fun e w' => e = .returned (.int .i64 0) ∧ Below w.heap.size w w' :=
  (check_any _ _ _ _ _ _ _ _ _ _ _ hg hnc).mono fun e w' g => ⟨by rw [g.1, err_t _ h], g.2⟩
theorem check_no (w0 w1 w2 w3 w4 F : Int) (A : Option Addr) (n c : Nat) (gs : List Giv) (w : World) (hg : Gs w A n gs) (hnc : n ≤ c) (h : okB w0 w1 w2 w3 w4 F gs = false) :
    Calls Try.prog 20 #[.agg #[.int .i64 w0, .int .i64 w1, .int .i64 w2, .int .i64 w3, .int .i64 w4, .int .i64 F, .slice A n c]] w fun e w' => e = .returned (.int .i64 13) ∧ Below w.heap.size w w' :=
  (check_any _ _ _ _ _ _ _ _ _ _ _ hg hnc).mono fun e w' g => ⟨by rw [g.1, err_f _ (by rw [h]; simp)], g.2⟩
theorem refCheck_yes (w0 w1 w2 w3 w4 F : Int) (A : Option Addr) (n c : Nat) (gs : List Giv) (w : World) (hg : Gs w A n gs) (h : okB w0 w1 w2 w3 w4 F gs = true) :
    Calls Try.prog 21 #[.agg #[.int .i64 w0, .int .i64 w1, .int .i64 w2, .int .i64 w3, .int .i64 w4, .int .i64 F, .slice A n c]] w fun e w' => e = .returned (.int .i64 0) ∧ Below w.heap.size w w' :=
  (refCheck_any _ _ _ _ _ _ _ _ _ _ _ hg).mono fun e w' g => ⟨by rw [g.1, err_t _ h], g.2⟩
theorem refCheck_no (w0 w1 w2 w3 w4 F : Int) (A : Option Addr) (n c : Nat) (gs : List Giv) (w : World) (hg : Gs w A n gs) (h : okB w0 w1 w2 w3 w4 F gs = false) :
    Calls Try.prog 21 #[.agg #[.int .i64 w0, .int .i64 w1, .int .i64 w2, .int .i64 w3, .int .i64 w4, .int .i64 F, .slice A n c]] w fun e w' => e = .returned (.int .i64 13) ∧ Below w.heap.size w w' :=
  (refCheck_any _ _ _ _ _ _ _ _ _ _ _ hg).mono fun e w' g => ⟨by rw [g.1, err_f _ (by rw [h]; simp)], g.2⟩

theorem okB_40 {w0 w1 w2 w3 w4 F : Int} {gs : List Giv} (h : okB w0 w1 w2 w3 w4 F gs = true) : gs.length ≤ 40 := by
  simp only [okB, Bool.and_eq_true, decide_eq_true_eq] at h; exact h.1.2

/-- What is found of an owner: an index, and an error. -/
def findI (w0 w1 w2 w3 w4 F : Int) (gs : List Giv) (x : Int) : Int :=
  if okB w0 w1 w2 w3 w4 F gs = true ∧ (1 ≤ x ∧ x ≤ 99) ∧ 0 ≤ pos (own gs) x 0 then pos (own gs) x 0 else 0
def findE (w0 w1 w2 w3 w4 F : Int) (gs : List Giv) (x : Int) : Int :=
  if okB w0 w1 w2 w3 w4 F gs = true then if 1 ≤ x ∧ x ≤ 99 then if 0 ≤ pos (own gs) x 0 then 0 else 3 else 15 else 13

theorem pos_bd (l : List Int) (x : Int) : ∀ k, pos l x k = -1 ∨ ((k : Int) ≤ pos l x k ∧ pos l x k < k + l.length) := by
  induction l with
  | nil => intro k; left; rfl
  | cons y r ih =>
    intro k
    by_cases h : y = x
    · rw [pos_yes _ _ h]; right; simp; omega
    · rw [pos_no _ _ h]
      rcases ih (k + 1) with h1 | h1
      · left; exact h1
      · right; simp; omega

theorem ret_ii {a b c d : Int} (h1 : a = c) (h2 : b = d) : Ending.returned (.tuple #[.int .i64 a, .int .i64 b]) = Ending.returned (.tuple #[.int .i64 c, .int .i64 d]) := by rw [h1, h2]

theorem find_any (w0 w1 w2 w3 w4 F x : Int) (A : Option Addr) (n c : Nat) (gs : List Giv) (w : World) (hg : Gs w A n gs) (hnc : n ≤ c) :
    Calls Try.prog 64 #[.agg #[.int .i64 w0, .int .i64 w1, .int .i64 w2, .int .i64 w3, .int .i64 w4, .int .i64 F, .slice A n c], .int .i64 x] w fun e w' => e = .returned (.tuple #[.int .i64 (findI w0 w1 w2 w3 w4 F gs x), .int .i64 (findE w0 w1 w2 w3 w4 F gs x)]) ∧ Below w.heap.size w w' := by
  have Hl : Hid (n = gs.length) := Lib.hid hg.len
  go_enter Try.func64, Try.ntmps64
  go_wp2_with fail
  generalize hW : (World.alloc _ _) = W
  have HW : Hid (Below w.heap.size w W) := Lib.hid (by subst hW; go_grown)
  have hs : w.heap.size < W.heap.size := by subst hW; simp
  have cm : ∀ j, W.cell? ⟨w.heap.size, j, none⟩ = [Value.int .i64 w0, .int .i64 w1, .int .i64 w2, .int .i64 w3, .int .i64 w4, .int .i64 F, .slice A n c][j]? := by subst hW; intro j; simp [go_sem]
  clear hW
  cases hb : okB w0 w1 w2 w3 w4 F gs
  · refine (check_no w0 w1 w2 w3 w4 F A n c gs W (hg.keep HW.out) hnc hb).mono ?_
    rintro e x1 ⟨rfl, hb1⟩
    have Hb := Lib.hid hb
    clear hb
    go_wp2
    go_ret2
    refine ⟨ret_ii ?_ ?_, up HW.out hb1⟩
    · unfold findI; rw [if_neg (by rw [Hb.out]; simp)]
    · unfold findE; rw [if_neg (by rw [Hb.out]; simp)]
  refine (check_yes w0 w1 w2 w3 w4 F A n c gs W (hg.keep HW.out) hnc hb).mono ?_
  rintro e x1 ⟨rfl, hb1⟩
  obtain ⟨z0, rfl⟩ := below_grow hb1
  have h40 := okB_40 hb
  have Hb := Lib.hid hb
  clear hb hb1
  by_cases hx : 1 ≤ x ∧ x ≤ 99
  rotate_left
  · go_wp2_with (go_at_call 71; refine (owner_dec _ _).mono ?_; rintro e x1 (⟨rfl, hi, rfl⟩ | ⟨rfl, hi, rfl⟩))
    · exact absurd hi hx
    · go_ret2
      refine ⟨ret_ii ?_ ?_, up HW.out (grow_below W z0)⟩
      · unfold findI; rw [if_neg (fun h => hx h.2.1)]
      · unfold findE; rw [if_pos Hb.out, if_neg hx]
  by_cases hp : pos (own gs) x 0 < 0
  · go_wp2_with (first
      | (go_at_call 71; refine (owner_dec _ _).mono ?_; rintro e x1 (⟨rfl, hi, rfl⟩ | ⟨rfl, hi, rfl⟩))
      | (go_at_call 84; refine (ownersOf_any _ _ _ gs _ ((hg.keep HW.out).keep (grow_below _ _)) (by have := Hl.out; omega)).mono ?_; rintro e x1 ⟨v, rfl, hown, hb2⟩; obtain ⟨A', c', rfl, _, his⟩ := Is.of_own hown; clear hown; have His := Lib.hid his; clear his)
      | (go_at_call 106; refine (index_any _ _ _ _ _ _ His.out).mono ?_; rintro e x1 ⟨rfl, rfl⟩))
    · go_ret2
      refine ⟨ret_ii ?_ ?_, up HW.out (up (grow_below W z0) hb2)⟩
      · unfold findI; rw [if_neg (fun h => by omega)]
      · unfold findE; rw [if_pos Hb.out, if_pos hx, if_neg (by omega)]
    · exact absurd hx hi
  · go_wp2_with (first
      | (go_at_call 71; refine (owner_dec _ _).mono ?_; rintro e x1 (⟨rfl, hi, rfl⟩ | ⟨rfl, hi, rfl⟩))
      | (go_at_call 84; refine (ownersOf_any _ _ _ gs _ ((hg.keep HW.out).keep (grow_below _ _)) (by have := Hl.out; omega)).mono ?_; rintro e x1 ⟨v, rfl, hown, hb2⟩; obtain ⟨A', c', rfl, _, his⟩ := Is.of_own hown; clear hown; have His := Lib.hid his; clear his)
      | (go_at_call 106; refine (index_any _ _ _ _ _ _ His.out).mono ?_; rintro e x1 ⟨rfl, rfl⟩))
    · go_ret2
      refine ⟨ret_ii ?_ ?_, up HW.out (up (grow_below W z0) hb2)⟩
      · unfold findI; rw [if_pos ⟨Hb.out, hx, by omega⟩]
      · unfold findE; rw [if_pos Hb.out, if_pos hx, if_pos (by omega)]
    · exact absurd hx hi
end Go.Proofs.Ytpahbpgkmebieaa
