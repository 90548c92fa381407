/- The possible owners of a reading. Own text. -/
import Derived.Test.YtpahbpgkmebieaaW15
namespace Go.Proofs.Ytpahbpgkmebieaa
open Go.RowKit
set_option maxHeartbeats 400000
set_option maxRecDepth 100000

theorem is2 (w : World) (a b : Int) (t : TypeId) (B : Nat) (hB : B = w.heap.size) : Is (w.alloc (.cells #[.int .i64 a, .int .i64 b] t)) (some ⟨B, 0, none⟩) 2 [a, b] := by
  subst hB
  exact ⟨rfl, by decide, fun k hk => ⟨w.heap.size, 0, rfl, by simp, by
    rcases (by simp at hk; omega : k = 0 ∨ k = 1) with rfl | rfl <;> simp [go_sem]⟩⟩
theorem is3 (w : World) (a b c : Int) (t : TypeId) (B : Nat) (hB : B = w.heap.size) : Is (w.alloc (.cells #[.int .i64 a, .int .i64 b, .int .i64 c] t)) (some ⟨B, 0, none⟩) 3 [a, b, c] := by
  subst hB
  exact ⟨rfl, by decide, fun k hk => ⟨w.heap.size, 0, rfl, by simp, by
    rcases (by simp at hk; omega : k = 0 ∨ k = 1 ∨ k = 2) with rfl | rfl | rfl <;> simp [go_sem]⟩⟩
theorem rs1 (w : World) (r : Rd) (t : TypeId) (B : Nat) (hB : B = w.heap.size) : Rs (w.alloc (.cells #[.int .i64 r.r0, .int .i64 r.r1, .int .i64 r.r2, .int .i64 r.r3, .int .i64 r.r4, .int .i64 r.r5] t)) (some ⟨B, 0, none⟩) 1 [r] := by
  subst hB
  exact ⟨rfl, by decide, fun k hk => by
    obtain rfl : k = 0 := by simp at hk; omega
    refine ⟨w.heap.size, 0, rfl, by simp, ?_⟩
    constructor <;> simp [go_sem]⟩

theorem checkReading_yes (a0 a1 a2 a3 a4 a5 : Int) (w : World) (h : okR a0 a1 a2 a3 a4 a5 = true) : Calls Try.prog 18 #[.agg #[.int .i64 a0, .int .i64 a1, .int .i64 a2, .int .i64 a3, .int .i64 a4, .int .i64 a5]] w fun e w' => e = .returned (.int .i64 0) ∧ Below w.heap.size w w' :=
  (checkReading_any _ _ _ _ _ _ w).mono fun e w' g => ⟨by rw [g.1, err_t _ h], g.2⟩
theorem checkReading_no (a0 a1 a2 a3 a4 a5 : Int) (w : World) (h : okR a0 a1 a2 a3 a4 a5 = false) : Calls Try.prog 18 #[.agg #[.int .i64 a0, .int .i64 a1, .int .i64 a2, .int .i64 a3, .int .i64 a4, .int .i64 a5]] w fun e w' => e = .returned (.int .i64 12) ∧ Below w.heap.size w w' :=
  (checkReading_any _ _ _ _ _ _ w).mono fun e w' g => ⟨by rw [g.1, err_f _ (by rw [h]; simp)], g.2⟩

def Rd.ok (r : Rd) : Bool := okR r.r0 r.r1 r.r2 r.r3 r.r4 r.r5
/-- The error of a book and a reading. -/
def brE (w0 w1 w2 w3 w4 F : Int) (gs : List Giv) (r : Rd) : Int := firstE [err (okB w0 w1 w2 w3 w4 F gs) 13, err r.ok 12]
theorem brE_0 {w0 w1 w2 w3 w4 F : Int} {gs : List Giv} {r : Rd} (h1 : okB w0 w1 w2 w3 w4 F gs = true) (h2 : r.ok = true) : brE w0 w1 w2 w3 w4 F gs r = 0 := by
  unfold brE; rw [err_t _ h1, err_t _ h2]; rfl
theorem brE_1 {w0 w1 w2 w3 w4 F : Int} {gs : List Giv} {r : Rd} (h1 : okB w0 w1 w2 w3 w4 F gs = false) : brE w0 w1 w2 w3 w4 F gs r = 13 := by
  unfold brE; rw [err_f _ (by rw [h1]; simp)]; rfl
theorem brE_2 {w0 w1 w2 w3 w4 F : Int} {gs : List Giv} {r : Rd} (h1 : okB w0 w1 w2 w3 w4 F gs = true) (h2 : r.ok = false) : brE w0 w1 w2 w3 w4 F gs r = 12 := by
  unfold brE; rw [err_t _ h1, err_f _ (by rw [h2]; simp)]; rfl
/-- The possible marks; none where there is an error. -/
def brG (w0 w1 w2 w3 w4 F : Int) (gs : List Giv) (r : Rd) : List Giv := if brE w0 w1 w2 w3 w4 F gs r = 0 then possG w0 w1 w2 w3 w4 F [r] gs else []
theorem okB_ok {w0 w1 w2 w3 w4 F : Int} {gs : List Giv} (h : okB w0 w1 w2 w3 w4 F gs = true) : ∀ g ∈ gs, g.ok := by
  simp only [okB, Bool.and_eq_true] at h
  have := ok_take h.2
  rw [List.take_length] at this; exact this

theorem owners_any (w0 w1 w2 w3 w4 F : Int) (A : Option Addr) (n c : Nat) (gs : List Giv) (r : Rd) (w : World) (hg : Gs w A n gs) (hnc : n ≤ c) :
    Calls Try.prog 32 #[.agg #[.int .i64 w0, .int .i64 w1, .int .i64 w2, .int .i64 w3, .int .i64 w4, .int .i64 F, .slice A n c], .agg #[.int .i64 r.r0, .int .i64 r.r1, .int .i64 r.r2, .int .i64 r.r3, .int .i64 r.r4, .int .i64 r.r5]] w fun e w' =>
      ∃ v, e = .returned (.tuple #[v, .int .i64 (brE w0 w1 w2 w3 w4 F gs r)]) ∧ w'.ownsRow w.heap.size 3 1 v (brG w0 w1 w2 w3 w4 F gs r).length (ints (own (brG w0 w1 w2 w3 w4 F gs r))) ∧ Below w.heap.size w w' := by
  have Hl : Hid (n = gs.length) := Lib.hid hg.len
  go_enter Try.func32, Try.ntmps32
  go_wp2_with fail
  generalize hW : (World.alloc _ _) = W
  have HW : Hid (Below w.heap.size w W) := Lib.hid (by subst hW; go_grown)
  have hs : w.heap.size + 1 < W.heap.size := by subst hW; simp
  have cm : ∀ j, W.cell? ⟨w.heap.size, j, none⟩ = [Value.int .i64 w0, .int .i64 w1, .int .i64 w2, .int .i64 w3, .int .i64 w4, .int .i64 F, .slice A n c][j]? := by subst hW; intro j; simp [go_sem]
  have cr : ∀ j, W.cell? ⟨w.heap.size + 1, j, none⟩ = [Value.int .i64 r.r0, .int .i64 r.r1, .int .i64 r.r2, .int .i64 r.r3, .int .i64 r.r4, .int .i64 r.r5][j]? := by subst hW; intro j; simp [go_sem]
  clear hW
  have Hg1 := Lib.hid (hg.keep HW.out)
  cases hb : okB w0 w1 w2 w3 w4 F gs
  · have Hb := Lib.hid hb
    clear hb
    cases hr : r.ok
    all_goals
      have Hr := Lib.hid hr
      clear hr
      refine wp_region_grow_tail 4 (by kernel_rfl) (by kernel_rfl) ?_
      simp only [List.take_succ_cons, List.take_zero, List.drop_succ_cons, List.drop_zero]
      repeat (go_big_quiet_step ((first | (go_at_call 20; exact quiet_grow rfl (check_no _ _ _ _ _ _ _ _ _ _ _ (Hg1.out.keep (grow_below _ _)) hnc Hb.out)) | (go_at_call 18; exact quiet_grow rfl (checkReading_no _ _ _ _ _ _ _ Hr.out)) | (go_at_call 18; exact quiet_grow rfl (checkReading_yes _ _ _ _ _ _ _ Hr.out)))))
      refine wpQuiet_nil ?_
      intro z
      go_wp2_with (go_at_call 75; refine (first_any _ _ _ _ _ (is2 _ _ _ _ _ (by simp))).mono ?_; rintro e x1 ⟨rfl, rfl⟩; rw [show firstE [13, _] = 13 from rfl])
      go_ret2
      refine ⟨_, by rw [brE_1 Hb.out]; rfl, ?_, up HW.out (up (grow_below W z) (up_alloc _ _))⟩
      unfold brG; rw [brE_1 Hb.out]; exact World.ownsRow_nil _ _ _ _
  have Hb := Lib.hid hb
  clear hb
  cases hr : r.ok
  · have Hr := Lib.hid hr
    clear hr
    refine wp_region_grow_tail 4 (by kernel_rfl) (by kernel_rfl) ?_
    simp only [List.take_succ_cons, List.take_zero, List.drop_succ_cons, List.drop_zero]
    repeat (go_big_quiet_step ((first | (go_at_call 20; exact quiet_grow rfl (check_yes _ _ _ _ _ _ _ _ _ _ _ (Hg1.out.keep (grow_below _ _)) hnc Hb.out)) | (go_at_call 18; exact quiet_grow rfl (checkReading_no _ _ _ _ _ _ _ Hr.out)))))
    refine wpQuiet_nil ?_
    intro z
    go_wp2_with (go_at_call 75; refine (first_any _ _ _ _ _ (is2 _ _ _ _ _ (by simp))).mono ?_; rintro e x1 ⟨rfl, rfl⟩; rw [show firstE [0, 12] = 12 from rfl])
    go_ret2
    refine ⟨_, by rw [brE_2 Hb.out Hr.out]; rfl, ?_, up HW.out (up (grow_below W z) (up_alloc _ _))⟩
    unfold brG; rw [brE_2 Hb.out Hr.out]; exact World.ownsRow_nil _ _ _ _
  have Hr := Lib.hid hr
  clear hr
  refine wp_region_grow_tail 4 (by kernel_rfl) (by kernel_rfl) ?_
  simp only [List.take_succ_cons, List.take_zero, List.drop_succ_cons, List.drop_zero]
  repeat (go_big_quiet_step ((first | (go_at_call 20; exact quiet_grow rfl (check_yes _ _ _ _ _ _ _ _ _ _ _ (Hg1.out.keep (grow_below _ _)) hnc Hb.out)) | (go_at_call 18; exact quiet_grow rfl (checkReading_yes _ _ _ _ _ _ _ Hr.out)))))
  refine wpQuiet_nil ?_
  intro z
  have e1 : w.heap.size < W.heap.size + z.blocks.size := by omega
  have e2 : w.heap.size + 1 < W.heap.size + z.blocks.size := by omega
  have e3 : w.heap.size < W.heap.size := by omega
  have hpl : (possG w0 w1 w2 w3 w4 F [r] gs).length ≤ 40 := Nat.le_trans (possG_len w0 w1 w2 w3 w4 F [r] gs) (okB_40 Hb.out)
  have h40 : n ≤ 40 := by have := Hl.out; have := okB_40 Hb.out; omega
  go_wp2_with (first
    | (go_at_call 75; refine (first_any _ _ _ _ _ (is2 _ _ _ _ _ (by simp))).mono ?_; rintro e x1 ⟨rfl, rfl⟩; rw [show firstE [0, 0] = 0 from rfl])
    | (go_at_call 85; refine (possibleMarks_any _ _ _ _ _ _ _ _ _ gs _ _ _ [r] _ (Hg1.out.keep (up (grow_below W z) (up (up_alloc _ _) (up_alloc _ _)))) (rs1 _ r _ _ (by simp)) (okB_ok Hb.out) (by omega)).mono ?_; rintro e x1 ⟨v, rfl, hown, hb1⟩; obtain ⟨A', c', rfl, _, _, hgs⟩ := Gs.of_own hown; have HG := Lib.hid (hgs (by omega)); clear hgs hown; have HB1 := Lib.hid (up HW.out (up (grow_below W z) (up (up_alloc _ _) (up (up_alloc _ _) hb1)))))
    | (go_at_call 84; refine (ownersOf_any _ _ _ _ _ HG.out (by omega)).mono ?_; rintro e x2 ⟨v, rfl, hown, hb2⟩; have Hown := Lib.hid hown; clear hown))
  go_ret2
  refine ⟨_, by rw [brE_0 Hb.out Hr.out]; rfl, ?_, up HB1.out hb2⟩
  unfold brG; rw [brE_0 Hb.out Hr.out]
  have := HB1.out.size
  exact own_mono Hown.out this
end Go.Proofs.Ytpahbpgkmebieaa
