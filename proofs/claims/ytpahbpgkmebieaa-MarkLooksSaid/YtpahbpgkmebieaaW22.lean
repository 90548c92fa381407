/- Cost and distance: the reference; whether a mark is possible, both. Own text. -/
import Derived.Test.YtpahbpgkmebieaaW17
import Derived.Test.YtpahbpgkmebieaaO1
namespace Go.Proofs.Ytpahbpgkmebieaa
open Go.RowKit
set_option maxHeartbeats 400000
set_option maxRecDepth 100000

/-- The error of a cost, and the cost where there is none. -/
def costE (w0 w1 w2 w3 w4 a0 a1 a2 a3 a4 a5 r0 r1 r2 r3 r4 r5 : Int) : Int := firstE [err (okW w0 w1 w2 w3 w4) 11, err (okM a0 a1 a2 a3 a4 a5) 10, err (okR r0 r1 r2 r3 r4 r5) 12]
def costV (w0 w1 w2 w3 w4 a0 a1 a2 a3 a4 a5 r0 r1 r2 r3 r4 r5 : Int) : Int := if costE w0 w1 w2 w3 w4 a0 a1 a2 a3 a4 a5 r0 r1 r2 r3 r4 r5 = 0 then wcost w0 w1 w2 w3 w4 a0 a1 a2 a3 a4 a5 r0 r1 r2 r3 r4 r5 else 0

theorem cost_any (w0 w1 w2 w3 w4 a0 a1 a2 a3 a4 a5 r0 r1 r2 r3 r4 r5 : Int) (w : World) :
    Calls Try.prog 23 #[.agg #[.int .i64 w0, .int .i64 w1, .int .i64 w2, .int .i64 w3, .int .i64 w4], .agg #[.int .i64 a0, .int .i64 a1, .int .i64 a2, .int .i64 a3, .int .i64 a4, .int .i64 a5], .agg #[.int .i64 r0, .int .i64 r1, .int .i64 r2, .int .i64 r3, .int .i64 r4, .int .i64 r5]] w fun e w' => e = .returned (.tuple #[.int .i64 (costV w0 w1 w2 w3 w4 a0 a1 a2 a3 a4 a5 r0 r1 r2 r3 r4 r5), .int .i64 (costE w0 w1 w2 w3 w4 a0 a1 a2 a3 a4 a5 r0 r1 r2 r3 r4 r5)]) ∧ Below w.heap.size w w' := by
  go_enter Try.func23, Try.ntmps23
  go_wp2_with fail
  generalize hW : (World.alloc _ _) = W
  have HW : Hid (Below w.heap.size w W) := Lib.hid (by subst hW; go_grown)
  have KW : Bk W w.heap.size [Value.int .i64 w0, Value.int .i64 w1, Value.int .i64 w2, Value.int .i64 w3, Value.int .i64 w4] := ⟨by subst hW; simp only [World.size_alloc]; omega, by subst hW; intro j; simp [go_sem]⟩
  have KA : Bk W (w.heap.size + 1) [Value.int .i64 a0, Value.int .i64 a1, Value.int .i64 a2, Value.int .i64 a3, Value.int .i64 a4, Value.int .i64 a5] := ⟨by subst hW; simp only [World.size_alloc]; omega, by subst hW; intro j; simp [go_sem]⟩
  have KR : Bk W (w.heap.size + 1 + 1) [Value.int .i64 r0, Value.int .i64 r1, Value.int .i64 r2, Value.int .i64 r3, Value.int .i64 r4, Value.int .i64 r5] := ⟨by subst hW; simp only [World.size_alloc]; omega, by subst hW; intro j; simp [go_sem]⟩
  clear hW
  have KWl := KW.lt; have KWc := KW.get; have KAl := KA.lt; have KAc := KA.get; have KRl := KR.lt; have KRc := KR.get
  refine wp_region_grow_tail 6 (by kernel_rfl) (by kernel_rfl) ?_
  simp only [List.take_succ_cons, List.take_zero, List.drop_succ_cons, List.drop_zero]
  repeat (go_big_quiet_step ((first | (go_at_call 16; exact quiet_grow rfl (checkWear_any _ _ _ _ _ _)) | (go_at_call 14; exact quiet_grow rfl (checkMark_any _ _ _ _ _ _ _)) | (go_at_call 18; exact quiet_grow rfl (checkReading_any _ _ _ _ _ _ _)))))
  refine wpQuiet_nil ?_
  intro z
  by_cases hE : costE w0 w1 w2 w3 w4 a0 a1 a2 a3 a4 a5 r0 r1 r2 r3 r4 r5 = 0
  · have HE := Lib.hid hE
    have hE1 := hE
    unfold costE at hE1
    obtain ⟨o1, o2, o3⟩ := firstE3_0 hE1
    have m2 := (okM_iff _ _ _ _ _ _).1 (err_0 (by decide) o2)
    clear o1 o2 o3
    obtain ⟨⟨p0, q0⟩, ⟨p1, q1⟩, ⟨p2, q2⟩, ⟨p3, q3⟩, ⟨p4, q4⟩, ⟨p5, q5⟩⟩ := m2
    have HE1 := Lib.hid hE1
    clear hE hE1
    go_wp2_with (go_at_call 75; refine (first_any _ _ _ _ _ (is3 _ _ _ _ _ _ (by simp))).mono ?_; rintro e x1 ⟨rfl, rfl⟩; rw [HE1.out])
    generalize hV : World.alloc (grow W z) _ = V
    have hb : Below W.heap.size W V := by subst hV; exact up (grow_below W z) (up_alloc _ _)
    clear hV
    clear KWl KWc KAl KAc KRl KRc; replace KW := KW.keep hb; have KWl := KW.lt; have KWc := KW.get; replace KA := KA.keep hb; have KAl := KA.lt; have KAc := KA.get; replace KR := KR.keep hb; have KRl := KR.lt; have KRc := KR.get; have HV := Lib.hid hb; clear hb
    refine wp_region_grow (by kernel_rfl) (by kernel_rfl) ?_
    repeat (go_big_quiet_step ((first | (go_at_call 77; exact quiet_grow rfl (wornRow_any _ _ _ _ _ _ _ _ _ _ _ _ (by assumption) (by assumption) (by assumption) (by assumption) (by assumption) (by assumption) (by assumption) (by assumption) (by assumption) (by assumption) (by assumption) (by assumption))) | (go_at_call 78; exact quiet_grow rfl (seenRow_any _ _ _ _ _ _ _)) | (go_at_call 76; exact quiet_grow rfl (false_any _ _ _ _ _ _ _ _ _ _ _ _ _)))))
    refine wpQuiet_nil ?_
    intro z2
    go_wp2
    go_ret2
    refine ⟨ret_ii ?_ HE.out.symm, up HW.out (up HV.out (grow_below _ z2))⟩
    unfold costV; rw [if_pos HE.out]; rfl
  · have HE := Lib.hid hE
    have hb : (costE w0 w1 w2 w3 w4 a0 a1 a2 a3 a4 a5 r0 r1 r2 r3 r4 r5 != 0) = true := by simpa using hE
    clear hE
    go_wp2_with (go_at_call 75; refine (first_any _ _ _ _ _ (is3 _ _ _ _ _ _ (by simp))).mono ?_; rintro e x1 ⟨rfl, rfl⟩; rw [show firstE [err (okW w0 w1 w2 w3 w4) 11, err (okM a0 a1 a2 a3 a4 a5) 10, err (okR r0 r1 r2 r3 r4 r5) 12] = costE w0 w1 w2 w3 w4 a0 a1 a2 a3 a4 a5 r0 r1 r2 r3 r4 r5 from rfl])
    go_ret2
    refine ⟨ret_ii ?_ rfl, up HW.out (up (grow_below W z) (up_alloc _ _))⟩
    unfold costV; rw [if_neg HE.out]

theorem refCheckReading_yes (a0 a1 a2 a3 a4 a5 : Int) (w : World) (h : okR a0 a1 a2 a3 a4 a5 = true) : Calls Try.prog 19 #[.agg #[.int .i64 a0, .int .i64 a1, .int .i64 a2, .int .i64 a3, .int .i64 a4, .int .i64 a5]] w fun e w' => e = .returned (.int .i64 0) ∧ Below w.heap.size w w' :=
  (refCheckReading_any _ _ _ _ _ _ w).mono fun e w' g => ⟨by rw [g.1, err_t _ h], g.2⟩
theorem refCheckReading_no (a0 a1 a2 a3 a4 a5 : Int) (w : World) (h : okR a0 a1 a2 a3 a4 a5 = false) : Calls Try.prog 19 #[.agg #[.int .i64 a0, .int .i64 a1, .int .i64 a2, .int .i64 a3, .int .i64 a4, .int .i64 a5]] w fun e w' => e = .returned (.int .i64 12) ∧ Below w.heap.size w w' :=
  (refCheckReading_any _ _ _ _ _ _ w).mono fun e w' g => ⟨by rw [g.1, err_f _ (by rw [h]; simp)], g.2⟩

theorem firstE3_1 {a b c : Bool} {x y z : Int} (h : a = false) (hx : x ≠ 0) : firstE [err a x, err b y, err c z] = x := by
  rw [firstE_cons, err_f (b := a) x (by simp [h]), if_neg hx]
theorem firstE3_2 {a b c : Bool} {x y z : Int} (h : a = true) (h2 : b = false) (hy : y ≠ 0) : firstE [err a x, err b y, err c z] = y := by
  rw [firstE_cons, err_t (b := a) x h, if_pos rfl, firstE_cons, err_f (b := b) y (by simp [h2]), if_neg hy]
theorem firstE3_3 {a b c : Bool} {x y z : Int} (h : a = true) (h2 : b = true) (h3 : c = false) (hz : z ≠ 0) : firstE [err a x, err b y, err c z] = z := by
  rw [firstE_cons, err_t (b := a) x h, if_pos rfl, firstE_cons, err_t (b := b) y h2, if_pos rfl, firstE_cons, err_f (b := c) z (by simp [h3]), if_neg hz]
theorem firstE3_4 {a b c : Bool} {x y z : Int} (h : a = true) (h2 : b = true) (h3 : c = true) : firstE [err a x, err b y, err c z] = 0 := by
  rw [err_t (b := a) x h, err_t (b := b) y h2, err_t (b := c) z h3]; rfl

theorem refCostX_any (w0 w1 w2 w3 w4 a0 a1 a2 a3 a4 a5 r0 r1 r2 r3 r4 r5 : Int) (w : World) :
    Calls Try.prog 24 #[.agg #[.int .i64 w0, .int .i64 w1, .int .i64 w2, .int .i64 w3, .int .i64 w4], .agg #[.int .i64 a0, .int .i64 a1, .int .i64 a2, .int .i64 a3, .int .i64 a4, .int .i64 a5], .agg #[.int .i64 r0, .int .i64 r1, .int .i64 r2, .int .i64 r3, .int .i64 r4, .int .i64 r5]] w fun e w' => e = .returned (.tuple #[.int .i64 (costV w0 w1 w2 w3 w4 a0 a1 a2 a3 a4 a5 r0 r1 r2 r3 r4 r5), .int .i64 (costE w0 w1 w2 w3 w4 a0 a1 a2 a3 a4 a5 r0 r1 r2 r3 r4 r5)]) ∧ Below w.heap.size w w' := by
  go_enter Try.func24, Try.ntmps24
  go_wp2_with fail
  generalize hW : (World.alloc _ _) = W
  have HW : Hid (Below w.heap.size w W) := Lib.hid (by subst hW; go_grown)
  have KW : Bk W w.heap.size [Value.int .i64 w0, Value.int .i64 w1, Value.int .i64 w2, Value.int .i64 w3, Value.int .i64 w4] := ⟨by subst hW; simp only [World.size_alloc]; omega, by subst hW; intro j; simp [go_sem]⟩
  have KA : Bk W (w.heap.size + 1) [Value.int .i64 a0, Value.int .i64 a1, Value.int .i64 a2, Value.int .i64 a3, Value.int .i64 a4, Value.int .i64 a5] := ⟨by subst hW; simp only [World.size_alloc]; omega, by subst hW; intro j; simp [go_sem]⟩
  have KR : Bk W (w.heap.size + 1 + 1) [Value.int .i64 r0, Value.int .i64 r1, Value.int .i64 r2, Value.int .i64 r3, Value.int .i64 r4, Value.int .i64 r5] := ⟨by subst hW; simp only [World.size_alloc]; omega, by subst hW; intro j; simp [go_sem]⟩
  clear hW
  have KWl := KW.lt; have KWc := KW.get; have KAl := KA.lt; have KAc := KA.get; have KRl := KR.lt; have KRc := KR.get
  cases hw : okW w0 w1 w2 w3 w4
  · have Hw := Lib.hid hw
    clear hw
    refine (refCheckWear_no w0 w1 w2 w3 w4 W Hw.out).mono ?_; rintro e x1 ⟨rfl, hb1⟩; clear KWl KWc KAl KAc KRl KRc; replace KW := KW.keep hb1; have KWl := KW.lt; have KWc := KW.get; replace KA := KA.keep hb1; have KAl := KA.lt; have KAc := KA.get; replace KR := KR.keep hb1; have KRl := KR.lt; have KRc := KR.get; have HB1 := Lib.hid hb1; clear hb1
    go_wp2
    go_ret2
    have E : costE w0 w1 w2 w3 w4 a0 a1 a2 a3 a4 a5 r0 r1 r2 r3 r4 r5 = 11 := firstE3_1 Hw.out (by decide)
    exact ⟨ret_ii (by unfold costV; rw [E]; rfl) E.symm, up HW.out HB1.out⟩
  have Hw := Lib.hid hw
  clear hw
  refine (refCheckWear_yes w0 w1 w2 w3 w4 W Hw.out).mono ?_; rintro e x1 ⟨rfl, hb1⟩; clear KWl KWc KAl KAc KRl KRc; replace KW := KW.keep hb1; have KWl := KW.lt; have KWc := KW.get; replace KA := KA.keep hb1; have KAl := KA.lt; have KAc := KA.get; replace KR := KR.keep hb1; have KRl := KR.lt; have KRc := KR.get; have HB1 := Lib.hid hb1; clear hb1
  cases hm : okM a0 a1 a2 a3 a4 a5
  · have Hm := Lib.hid hm
    clear hm
    go_wp2_with (go_at_call 15; refine (refCheckMark_no a0 a1 a2 a3 a4 a5 x1 Hm.out).mono ?_; rintro e x2 ⟨rfl, hb2⟩; clear KWl KWc KAl KAc KRl KRc; replace KW := KW.keep hb2; have KWl := KW.lt; have KWc := KW.get; replace KA := KA.keep hb2; have KAl := KA.lt; have KAc := KA.get; replace KR := KR.keep hb2; have KRl := KR.lt; have KRc := KR.get; have HB2 := Lib.hid hb2; clear hb2)
    go_ret2
    have E : costE w0 w1 w2 w3 w4 a0 a1 a2 a3 a4 a5 r0 r1 r2 r3 r4 r5 = 10 := firstE3_2 Hw.out Hm.out (by decide)
    exact ⟨ret_ii (by unfold costV; rw [E]; rfl) E.symm, up HW.out (up HB1.out HB2.out)⟩
  have Hm := Lib.hid hm
  obtain ⟨⟨p0, q0⟩, ⟨p1, q1⟩, ⟨p2, q2⟩, ⟨p3, q3⟩, ⟨p4, q4⟩, ⟨p5, q5⟩⟩ := (okM_iff _ _ _ _ _ _).1 hm
  clear hm
  cases hr : okR r0 r1 r2 r3 r4 r5
  · have Hr := Lib.hid hr
    clear hr
    go_wp2_with (first
      | (go_at_call 15; refine (refCheckMark_yes a0 a1 a2 a3 a4 a5 x1 Hm.out).mono ?_; rintro e x2 ⟨rfl, hb2⟩; clear KWl KWc KAl KAc KRl KRc; replace KW := KW.keep hb2; have KWl := KW.lt; have KWc := KW.get; replace KA := KA.keep hb2; have KAl := KA.lt; have KAc := KA.get; replace KR := KR.keep hb2; have KRl := KR.lt; have KRc := KR.get; have HB2 := Lib.hid hb2; clear hb2)
      | (go_at_call 19; refine (refCheckReading_no r0 r1 r2 r3 r4 r5 _ Hr.out).mono ?_; rintro e x3 ⟨rfl, hb3⟩; clear KWl KWc KAl KAc KRl KRc; replace KW := KW.keep hb3; have KWl := KW.lt; have KWc := KW.get; replace KA := KA.keep hb3; have KAl := KA.lt; have KAc := KA.get; replace KR := KR.keep hb3; have KRl := KR.lt; have KRc := KR.get; have HB3 := Lib.hid hb3; clear hb3))
    go_ret2
    have E : costE w0 w1 w2 w3 w4 a0 a1 a2 a3 a4 a5 r0 r1 r2 r3 r4 r5 = 12 := firstE3_3 Hw.out Hm.out Hr.out (by decide)
    exact ⟨ret_ii (by unfold costV; rw [E]; rfl) E.symm, up HW.out (up HB1.out (up HB2.out HB3.out))⟩
  have Hr := Lib.hid hr
  clear hr
  go_wp2_with (first
    | (go_at_call 15; refine (refCheckMark_yes a0 a1 a2 a3 a4 a5 x1 Hm.out).mono ?_; rintro e x2 ⟨rfl, hb2⟩; clear KWl KWc KAl KAc KRl KRc; replace KW := KW.keep hb2; have KWl := KW.lt; have KWc := KW.get; replace KA := KA.keep hb2; have KAl := KA.lt; have KAc := KA.get; replace KR := KR.keep hb2; have KRl := KR.lt; have KRc := KR.get; have HB2 := Lib.hid hb2; clear hb2)
    | (go_at_call 19; refine (refCheckReading_yes r0 r1 r2 r3 r4 r5 _ Hr.out).mono ?_; rintro e x3 ⟨rfl, hb3⟩; clear KWl KWc KAl KAc KRl KRc; replace KW := KW.keep hb3; have KWl := KW.lt; have KWc := KW.get; replace KA := KA.keep hb3; have KAl := KA.lt; have KAc := KA.get; replace KR := KR.keep hb3; have KRl := KR.lt; have KRc := KR.get; have HB3 := Lib.hid hb3; clear hb3)
    | (go_at_call 79; refine (refCost_any w0 w1 w2 w3 w4 a0 a1 a2 a3 a4 a5 r0 r1 r2 r3 r4 r5 _ p0 q0 p1 q1 p2 q2 p3 q3 p4 q4 p5 q5).mono ?_; rintro e x4 ⟨rfl, hb4⟩; clear KWl KWc KAl KAc KRl KRc; replace KW := KW.keep hb4; have KWl := KW.lt; have KWc := KW.get; replace KA := KA.keep hb4; have KAl := KA.lt; have KAc := KA.get; replace KR := KR.keep hb4; have KRl := KR.lt; have KRc := KR.get; have HB4 := Lib.hid hb4; clear hb4))
  go_ret2
  have E : costE w0 w1 w2 w3 w4 a0 a1 a2 a3 a4 a5 r0 r1 r2 r3 r4 r5 = 0 := firstE3_4 Hw.out Hm.out Hr.out
  exact ⟨ret_ii (by unfold costV; rw [E]; rfl) E.symm, up HW.out (up HB1.out (up HB2.out (up HB3.out HB4.out)))⟩

theorem refDistanceX_any (w0 w1 w2 w3 w4 a0 a1 a2 a3 a4 a5 b0 b1 b2 b3 b4 b5 : Int) (w : World) :
    Calls Try.prog 26 #[.agg #[.int .i64 w0, .int .i64 w1, .int .i64 w2, .int .i64 w3, .int .i64 w4], .agg #[.int .i64 a0, .int .i64 a1, .int .i64 a2, .int .i64 a3, .int .i64 a4, .int .i64 a5], .agg #[.int .i64 b0, .int .i64 b1, .int .i64 b2, .int .i64 b3, .int .i64 b4, .int .i64 b5]] w fun e w' => e = .returned (.tuple #[.int .i64 (distV w0 w1 w2 w3 w4 a0 a1 a2 a3 a4 a5 b0 b1 b2 b3 b4 b5), .int .i64 (distE w0 w1 w2 w3 w4 a0 a1 a2 a3 a4 a5 b0 b1 b2 b3 b4 b5)]) ∧ Below w.heap.size w w' := by
  go_enter Try.func26, Try.ntmps26
  go_wp2_with fail
  generalize hW : (World.alloc _ _) = W
  have HW : Hid (Below w.heap.size w W) := Lib.hid (by subst hW; go_grown)
  have KW : Bk W w.heap.size [Value.int .i64 w0, Value.int .i64 w1, Value.int .i64 w2, Value.int .i64 w3, Value.int .i64 w4] := ⟨by subst hW; simp only [World.size_alloc]; omega, by subst hW; intro j; simp [go_sem]⟩
  have KA : Bk W (w.heap.size + 1) [Value.int .i64 a0, Value.int .i64 a1, Value.int .i64 a2, Value.int .i64 a3, Value.int .i64 a4, Value.int .i64 a5] := ⟨by subst hW; simp only [World.size_alloc]; omega, by subst hW; intro j; simp [go_sem]⟩
  have KR : Bk W (w.heap.size + 1 + 1) [Value.int .i64 b0, Value.int .i64 b1, Value.int .i64 b2, Value.int .i64 b3, Value.int .i64 b4, Value.int .i64 b5] := ⟨by subst hW; simp only [World.size_alloc]; omega, by subst hW; intro j; simp [go_sem]⟩
  clear hW
  have KWl := KW.lt; have KWc := KW.get; have KAl := KA.lt; have KAc := KA.get; have KRl := KR.lt; have KRc := KR.get
  cases hw : okW w0 w1 w2 w3 w4
  · have Hw := Lib.hid hw
    clear hw
    refine (refCheckWear_no w0 w1 w2 w3 w4 W Hw.out).mono ?_; rintro e x1 ⟨rfl, hb1⟩; clear KWl KWc KAl KAc KRl KRc; replace KW := KW.keep hb1; have KWl := KW.lt; have KWc := KW.get; replace KA := KA.keep hb1; have KAl := KA.lt; have KAc := KA.get; replace KR := KR.keep hb1; have KRl := KR.lt; have KRc := KR.get; have HB1 := Lib.hid hb1; clear hb1
    go_wp2
    go_ret2
    have E : distE w0 w1 w2 w3 w4 a0 a1 a2 a3 a4 a5 b0 b1 b2 b3 b4 b5 = 11 := firstE3_1 Hw.out (by decide)
    exact ⟨ret_ii (by unfold distV; rw [E]; rfl) E.symm, up HW.out HB1.out⟩
  have Hw := Lib.hid hw
  clear hw
  refine (refCheckWear_yes w0 w1 w2 w3 w4 W Hw.out).mono ?_; rintro e x1 ⟨rfl, hb1⟩; clear KWl KWc KAl KAc KRl KRc; replace KW := KW.keep hb1; have KWl := KW.lt; have KWc := KW.get; replace KA := KA.keep hb1; have KAl := KA.lt; have KAc := KA.get; replace KR := KR.keep hb1; have KRl := KR.lt; have KRc := KR.get; have HB1 := Lib.hid hb1; clear hb1
  cases hm : okM a0 a1 a2 a3 a4 a5
  · have Hm := Lib.hid hm
    clear hm
    go_wp2_with (go_at_call 15; refine (refCheckMark_no a0 a1 a2 a3 a4 a5 x1 Hm.out).mono ?_; rintro e x2 ⟨rfl, hb2⟩; clear KWl KWc KAl KAc KRl KRc; replace KW := KW.keep hb2; have KWl := KW.lt; have KWc := KW.get; replace KA := KA.keep hb2; have KAl := KA.lt; have KAc := KA.get; replace KR := KR.keep hb2; have KRl := KR.lt; have KRc := KR.get; have HB2 := Lib.hid hb2; clear hb2)
    go_ret2
    have E : distE w0 w1 w2 w3 w4 a0 a1 a2 a3 a4 a5 b0 b1 b2 b3 b4 b5 = 10 := firstE3_2 Hw.out Hm.out (by decide)
    exact ⟨ret_ii (by unfold distV; rw [E]; rfl) E.symm, up HW.out (up HB1.out HB2.out)⟩
  have Hm := Lib.hid hm
  obtain ⟨⟨p0, q0⟩, ⟨p1, q1⟩, ⟨p2, q2⟩, ⟨p3, q3⟩, ⟨p4, q4⟩, ⟨p5, q5⟩⟩ := (okM_iff _ _ _ _ _ _).1 hm
  clear hm
  go_wp2_with fail
  refine (refCheckMark_yes a0 a1 a2 a3 a4 a5 x1 Hm.out).mono ?_; rintro e x2 ⟨rfl, hb2⟩; clear KWl KWc KAl KAc KRl KRc; replace KW := KW.keep hb2; have KWl := KW.lt; have KWc := KW.get; replace KA := KA.keep hb2; have KAl := KA.lt; have KAc := KA.get; replace KR := KR.keep hb2; have KRl := KR.lt; have KRc := KR.get; have HB2 := Lib.hid hb2; clear hb2
  cases hr : okM b0 b1 b2 b3 b4 b5
  · have Hr := Lib.hid hr
    clear hr
    go_wp2_with (go_at_call 15; refine (refCheckMark_no b0 b1 b2 b3 b4 b5 _ Hr.out).mono ?_; rintro e x3 ⟨rfl, hb3⟩; clear KWl KWc KAl KAc KRl KRc; replace KW := KW.keep hb3; have KWl := KW.lt; have KWc := KW.get; replace KA := KA.keep hb3; have KAl := KA.lt; have KAc := KA.get; replace KR := KR.keep hb3; have KRl := KR.lt; have KRc := KR.get; have HB3 := Lib.hid hb3; clear hb3)
    go_ret2
    have E : distE w0 w1 w2 w3 w4 a0 a1 a2 a3 a4 a5 b0 b1 b2 b3 b4 b5 = 10 := firstE3_3 Hw.out Hm.out Hr.out (by decide)
    exact ⟨ret_ii (by unfold distV; rw [E]; rfl) E.symm, up HW.out (up HB1.out (up HB2.out HB3.out))⟩
  have Hr := Lib.hid hr
  obtain ⟨⟨r0, s0⟩, ⟨r1, s1⟩, ⟨r2, s2⟩, ⟨r3, s3⟩, ⟨r4, s4⟩, ⟨r5, s5⟩⟩ := (okM_iff _ _ _ _ _ _).1 hr
  clear hr
  go_wp2_with (first
    | (go_at_call 15; refine (refCheckMark_yes b0 b1 b2 b3 b4 b5 _ Hr.out).mono ?_; rintro e x3 ⟨rfl, hb3⟩; clear KWl KWc KAl KAc KRl KRc; replace KW := KW.keep hb3; have KWl := KW.lt; have KWc := KW.get; replace KA := KA.keep hb3; have KAl := KA.lt; have KAc := KA.get; replace KR := KR.keep hb3; have KRl := KR.lt; have KRc := KR.get; have HB3 := Lib.hid hb3; clear hb3)
    | (go_at_call 73; refine (refDistance_any w0 w1 w2 w3 w4 a0 a1 a2 a3 a4 a5 b0 b1 b2 b3 b4 b5 _ p0 q0 p1 q1 p2 q2 p3 q3 p4 q4 p5 q5 r0 s0 r1 s1 r2 s2 r3 s3 r4 s4 r5 s5).mono ?_; rintro e x4 ⟨rfl, hb4⟩; clear KWl KWc KAl KAc KRl KRc; replace KW := KW.keep hb4; have KWl := KW.lt; have KWc := KW.get; replace KA := KA.keep hb4; have KAl := KA.lt; have KAc := KA.get; replace KR := KR.keep hb4; have KRl := KR.lt; have KRc := KR.get; have HB4 := Lib.hid hb4; clear hb4))
  go_ret2
  have E : distE w0 w1 w2 w3 w4 a0 a1 a2 a3 a4 a5 b0 b1 b2 b3 b4 b5 = 0 := firstE3_4 Hw.out Hm.out Hr.out
  exact ⟨ret_ii (by unfold distV; rw [E]; rfl) E.symm, up HW.out (up HB1.out (up HB2.out (up HB3.out HB4.out)))⟩
end Go.Proofs.Ytpahbpgkmebieaa
