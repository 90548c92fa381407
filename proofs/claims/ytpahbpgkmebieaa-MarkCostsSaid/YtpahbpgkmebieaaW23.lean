/- Whether a mark is possible, both ways. Own text. -/
import Derived.Test.YtpahbpgkmebieaaW22
namespace Go.Proofs.Ytpahbpgkmebieaa
open Go.RowKit
set_option maxHeartbeats 400000
set_option maxRecDepth 100000

def posE (w0 w1 w2 w3 w4 F : Int) (gs : List Giv) (a0 a1 a2 a3 a4 a5 r0 r1 r2 r3 r4 r5 : Int) : Int := firstE [err (okB w0 w1 w2 w3 w4 F gs) 13, err (okM a0 a1 a2 a3 a4 a5) 10, err (okR r0 r1 r2 r3 r4 r5) 12]
def posV (w0 w1 w2 w3 w4 F : Int) (gs : List Giv) (a0 a1 a2 a3 a4 a5 r0 r1 r2 r3 r4 r5 : Int) : Bool := if posE w0 w1 w2 w3 w4 F gs a0 a1 a2 a3 a4 a5 r0 r1 r2 r3 r4 r5 = 0 then decide (wcost w0 w1 w2 w3 w4 a0 a1 a2 a3 a4 a5 r0 r1 r2 r3 r4 r5 ≤ F) else false
theorem ret_bi {a c : Bool} {b d : Int} (h1 : a = c) (h2 : b = d) : Ending.returned (.tuple #[.bool a, .int .i64 b]) = Ending.returned (.tuple #[.bool c, .int .i64 d]) := by rw [h1, h2]

theorem possibleX_any (w0 w1 w2 w3 w4 F : Int) (A : Option Addr) (n c : Nat) (gs : List Giv) (a0 a1 a2 a3 a4 a5 r0 r1 r2 r3 r4 r5 : Int) (w : World) (hg : Gs w A n gs) (hnc : n ≤ c) :
    Calls Try.prog 27 #[.agg #[.int .i64 w0, .int .i64 w1, .int .i64 w2, .int .i64 w3, .int .i64 w4, .int .i64 F, .slice A n c], .agg #[.int .i64 a0, .int .i64 a1, .int .i64 a2, .int .i64 a3, .int .i64 a4, .int .i64 a5], .agg #[.int .i64 r0, .int .i64 r1, .int .i64 r2, .int .i64 r3, .int .i64 r4, .int .i64 r5]] w fun e w' => e = .returned (.tuple #[.bool (posV w0 w1 w2 w3 w4 F gs a0 a1 a2 a3 a4 a5 r0 r1 r2 r3 r4 r5), .int .i64 (posE w0 w1 w2 w3 w4 F gs a0 a1 a2 a3 a4 a5 r0 r1 r2 r3 r4 r5)]) ∧ Below w.heap.size w w' := by
  go_enter Try.func27, Try.ntmps27
  go_wp2_with fail
  generalize hW : (World.alloc _ _) = W
  have HW : Hid (Below w.heap.size w W) := Lib.hid (by subst hW; go_grown)
  have KM : Bk W w.heap.size [.int .i64 w0, .int .i64 w1, .int .i64 w2, .int .i64 w3, .int .i64 w4, .int .i64 F, .slice A n c] := ⟨by subst hW; simp only [World.size_alloc]; omega, by subst hW; intro j; simp [go_sem]⟩
  have KA : Bk W (w.heap.size + 1) [Value.int .i64 a0, Value.int .i64 a1, Value.int .i64 a2, Value.int .i64 a3, Value.int .i64 a4, Value.int .i64 a5] := ⟨by subst hW; simp only [World.size_alloc]; omega, by subst hW; intro j; simp [go_sem]⟩
  have KR : Bk W (w.heap.size + 1 + 1) [Value.int .i64 r0, Value.int .i64 r1, Value.int .i64 r2, Value.int .i64 r3, Value.int .i64 r4, Value.int .i64 r5] := ⟨by subst hW; simp only [World.size_alloc]; omega, by subst hW; intro j; simp [go_sem]⟩
  clear hW
  have KMl := KM.lt; have KMc := KM.get; have KAl := KA.lt; have KAc := KA.get; have KRl := KR.lt; have KRc := KR.get
  have HG := Lib.hid (hg.keep HW.out)
  refine wp_region_grow_tail 6 (by kernel_rfl) (by kernel_rfl) ?_
  simp only [List.take_succ_cons, List.take_zero, List.drop_succ_cons, List.drop_zero]
  repeat (go_big_quiet_step ((first | (go_at_call 20; exact quiet_grow rfl (check_any _ _ _ _ _ _ _ _ _ gs _ (HG.out.keep (grow_below _ _)) hnc)) | (go_at_call 14; exact quiet_grow rfl (checkMark_any _ _ _ _ _ _ _)) | (go_at_call 18; exact quiet_grow rfl (checkReading_any _ _ _ _ _ _ _)))))
  refine wpQuiet_nil ?_
  intro z
  by_cases hE : posE w0 w1 w2 w3 w4 F gs a0 a1 a2 a3 a4 a5 r0 r1 r2 r3 r4 r5 = 0
  · have HE := Lib.hid hE
    have hE1 := hE
    unfold posE at hE1
    obtain ⟨o1, o2, o3⟩ := firstE3_0 hE1
    have m2 := (okM_iff _ _ _ _ _ _).1 (err_0 (by decide) o2)
    clear o1 o2 o3
    obtain ⟨⟨p0, q0⟩, ⟨p1, q1⟩, ⟨p2, q2⟩, ⟨p3, q3⟩, ⟨p4, q4⟩, ⟨p5, q5⟩⟩ := m2
    have HE1 := Lib.hid hE1
    clear hE hE1
    have e1 : w.heap.size < W.heap.size + z.blocks.size := by omega
    have e2 : w.heap.size + 1 < W.heap.size + z.blocks.size := by omega
    have e3 : w.heap.size + 1 + 1 < W.heap.size + z.blocks.size := by omega
    go_wp2_with (first
      | (go_at_call 75; refine (first_any _ _ _ _ _ (is3 _ _ _ _ _ _ (by simp))).mono ?_; rintro e x1 ⟨rfl, rfl⟩; rw [HE1.out])
      | (go_at_call 80; refine (possible_any _ _ _ _ _ _ _ _ _ _ _ _ _ _ _ _ _ _ _ _ p0 q0 p1 q1 p2 q2 p3 q3 p4 q4 p5 q5).mono ?_; rintro e x2 ⟨rfl, hb2⟩))
    go_ret2
    refine ⟨ret_bi ?_ HE.out.symm, up HW.out (up (grow_below W z) (up (up_alloc _ _) hb2))⟩
    unfold posV; rw [if_pos HE.out]
  · have HE := Lib.hid hE
    have hb : (posE w0 w1 w2 w3 w4 F gs a0 a1 a2 a3 a4 a5 r0 r1 r2 r3 r4 r5 != 0) = true := by simpa using hE
    clear hE
    go_wp2_with (go_at_call 75; refine (first_any _ _ _ _ _ (is3 _ _ _ _ _ _ (by simp))).mono ?_; rintro e x1 ⟨rfl, rfl⟩; rw [show firstE [err (okB w0 w1 w2 w3 w4 F gs) 13, err (okM a0 a1 a2 a3 a4 a5) 10, err (okR r0 r1 r2 r3 r4 r5) 12] = posE w0 w1 w2 w3 w4 F gs a0 a1 a2 a3 a4 a5 r0 r1 r2 r3 r4 r5 from rfl])
    go_ret2
    refine ⟨ret_bi ?_ rfl, up HW.out (up (grow_below W z) (up_alloc _ _))⟩
    unfold posV; rw [if_neg HE.out]

theorem refPossibleX_any (w0 w1 w2 w3 w4 F : Int) (A : Option Addr) (n c : Nat) (gs : List Giv) (a0 a1 a2 a3 a4 a5 r0 r1 r2 r3 r4 r5 : Int) (w : World) (hg : Gs w A n gs) :
    Calls Try.prog 28 #[.agg #[.int .i64 w0, .int .i64 w1, .int .i64 w2, .int .i64 w3, .int .i64 w4, .int .i64 F, .slice A n c], .agg #[.int .i64 a0, .int .i64 a1, .int .i64 a2, .int .i64 a3, .int .i64 a4, .int .i64 a5], .agg #[.int .i64 r0, .int .i64 r1, .int .i64 r2, .int .i64 r3, .int .i64 r4, .int .i64 r5]] w fun e w' => e = .returned (.tuple #[.bool (posV w0 w1 w2 w3 w4 F gs a0 a1 a2 a3 a4 a5 r0 r1 r2 r3 r4 r5), .int .i64 (posE w0 w1 w2 w3 w4 F gs a0 a1 a2 a3 a4 a5 r0 r1 r2 r3 r4 r5)]) ∧ Below w.heap.size w w' := by
  go_enter Try.func28, Try.ntmps28
  go_wp2_with fail
  generalize hW : (World.alloc _ _) = W
  have HW : Hid (Below w.heap.size w W) := Lib.hid (by subst hW; go_grown)
  have KM : Bk W w.heap.size [.int .i64 w0, .int .i64 w1, .int .i64 w2, .int .i64 w3, .int .i64 w4, .int .i64 F, .slice A n c] := ⟨by subst hW; simp only [World.size_alloc]; omega, by subst hW; intro j; simp [go_sem]⟩
  have KA : Bk W (w.heap.size + 1) [Value.int .i64 a0, Value.int .i64 a1, Value.int .i64 a2, Value.int .i64 a3, Value.int .i64 a4, Value.int .i64 a5] := ⟨by subst hW; simp only [World.size_alloc]; omega, by subst hW; intro j; simp [go_sem]⟩
  have KR : Bk W (w.heap.size + 1 + 1) [Value.int .i64 r0, Value.int .i64 r1, Value.int .i64 r2, Value.int .i64 r3, Value.int .i64 r4, Value.int .i64 r5] := ⟨by subst hW; simp only [World.size_alloc]; omega, by subst hW; intro j; simp [go_sem]⟩
  clear hW
  have KMl := KM.lt; have KMc := KM.get; have KAl := KA.lt; have KAc := KA.get; have KRl := KR.lt; have KRc := KR.get
  have HG := Lib.hid (hg.keep HW.out)
  cases hw : okB w0 w1 w2 w3 w4 F gs
  · have Hw := Lib.hid hw
    clear hw
    refine (refCheck_no _ _ _ _ _ _ _ _ _ gs _ HG.out Hw.out).mono ?_; rintro e x1 ⟨rfl, hb1⟩; clear KMl KMc KAl KAc KRl KRc; replace KM := KM.keep hb1; have KMl := KM.lt; have KMc := KM.get; replace KA := KA.keep hb1; have KAl := KA.lt; have KAc := KA.get; replace KR := KR.keep hb1; have KRl := KR.lt; have KRc := KR.get; have HB1 := Lib.hid hb1; clear hb1
    go_wp2
    go_ret2
    have E : posE w0 w1 w2 w3 w4 F gs a0 a1 a2 a3 a4 a5 r0 r1 r2 r3 r4 r5 = 13 := firstE3_1 Hw.out (by decide)
    exact ⟨ret_bi (by unfold posV; rw [E]; rfl) E.symm, up HW.out HB1.out⟩
  have Hw := Lib.hid hw
  clear hw
  refine (refCheck_yes _ _ _ _ _ _ _ _ _ gs _ HG.out Hw.out).mono ?_; rintro e x1 ⟨rfl, hb1⟩; clear KMl KMc KAl KAc KRl KRc; replace KM := KM.keep hb1; have KMl := KM.lt; have KMc := KM.get; replace KA := KA.keep hb1; have KAl := KA.lt; have KAc := KA.get; replace KR := KR.keep hb1; have KRl := KR.lt; have KRc := KR.get; have HB1 := Lib.hid hb1; clear hb1
  cases hm : okM a0 a1 a2 a3 a4 a5
  · have Hm := Lib.hid hm
    clear hm
    go_wp2_with (go_at_call 15; refine (refCheckMark_no a0 a1 a2 a3 a4 a5 x1 Hm.out).mono ?_; rintro e x2 ⟨rfl, hb2⟩; clear KMl KMc KAl KAc KRl KRc; replace KM := KM.keep hb2; have KMl := KM.lt; have KMc := KM.get; replace KA := KA.keep hb2; have KAl := KA.lt; have KAc := KA.get; replace KR := KR.keep hb2; have KRl := KR.lt; have KRc := KR.get; have HB2 := Lib.hid hb2; clear hb2)
    go_ret2
    have E : posE w0 w1 w2 w3 w4 F gs a0 a1 a2 a3 a4 a5 r0 r1 r2 r3 r4 r5 = 10 := firstE3_2 Hw.out Hm.out (by decide)
    exact ⟨ret_bi (by unfold posV; rw [E]; rfl) E.symm, up HW.out (up HB1.out HB2.out)⟩
  have Hm := Lib.hid hm
  obtain ⟨⟨p0, q0⟩, ⟨p1, q1⟩, ⟨p2, q2⟩, ⟨p3, q3⟩, ⟨p4, q4⟩, ⟨p5, q5⟩⟩ := (okM_iff _ _ _ _ _ _).1 hm
  clear hm
  cases hr : okR r0 r1 r2 r3 r4 r5
  · have Hr := Lib.hid hr
    clear hr
    go_wp2_with (first
      | (go_at_call 15; refine (refCheckMark_yes a0 a1 a2 a3 a4 a5 x1 Hm.out).mono ?_; rintro e x2 ⟨rfl, hb2⟩; clear KMl KMc KAl KAc KRl KRc; replace KM := KM.keep hb2; have KMl := KM.lt; have KMc := KM.get; replace KA := KA.keep hb2; have KAl := KA.lt; have KAc := KA.get; replace KR := KR.keep hb2; have KRl := KR.lt; have KRc := KR.get; have HB2 := Lib.hid hb2; clear hb2)
      | (go_at_call 19; refine (refCheckReading_no r0 r1 r2 r3 r4 r5 _ Hr.out).mono ?_; rintro e x3 ⟨rfl, hb3⟩; clear KMl KMc KAl KAc KRl KRc; replace KM := KM.keep hb3; have KMl := KM.lt; have KMc := KM.get; replace KA := KA.keep hb3; have KAl := KA.lt; have KAc := KA.get; replace KR := KR.keep hb3; have KRl := KR.lt; have KRc := KR.get; have HB3 := Lib.hid hb3; clear hb3))
    go_ret2
    have E : posE w0 w1 w2 w3 w4 F gs a0 a1 a2 a3 a4 a5 r0 r1 r2 r3 r4 r5 = 12 := firstE3_3 Hw.out Hm.out Hr.out (by decide)
    exact ⟨ret_bi (by unfold posV; rw [E]; rfl) E.symm, up HW.out (up HB1.out (up HB2.out HB3.out))⟩
  have Hr := Lib.hid hr
  clear hr
  go_wp2_with (first
    | (go_at_call 15; refine (refCheckMark_yes a0 a1 a2 a3 a4 a5 x1 Hm.out).mono ?_; rintro e x2 ⟨rfl, hb2⟩; clear KMl KMc KAl KAc KRl KRc; replace KM := KM.keep hb2; have KMl := KM.lt; have KMc := KM.get; replace KA := KA.keep hb2; have KAl := KA.lt; have KAc := KA.get; replace KR := KR.keep hb2; have KRl := KR.lt; have KRc := KR.get; have HB2 := Lib.hid hb2; clear hb2)
    | (go_at_call 19; refine (refCheckReading_yes r0 r1 r2 r3 r4 r5 _ Hr.out).mono ?_; rintro e x3 ⟨rfl, hb3⟩; clear KMl KMc KAl KAc KRl KRc; replace KM := KM.keep hb3; have KMl := KM.lt; have KMc := KM.get; replace KA := KA.keep hb3; have KAl := KA.lt; have KAc := KA.get; replace KR := KR.keep hb3; have KRl := KR.lt; have KRc := KR.get; have HB3 := Lib.hid hb3; clear hb3))
  refine wp_region_grow (by kernel_rfl) (by kernel_rfl) ?_
  repeat (go_big_quiet_step ((go_at_call 79; exact quiet_grow rfl (refCost_any _ _ _ _ _ _ _ _ _ _ _ _ _ _ _ _ _ _ p0 q0 p1 q1 p2 q2 p3 q3 p4 q4 p5 q5))))
  refine wpQuiet_nil ?_
  intro z
  go_wp2
  go_ret2
  have E : posE w0 w1 w2 w3 w4 F gs a0 a1 a2 a3 a4 a5 r0 r1 r2 r3 r4 r5 = 0 := firstE3_4 Hw.out Hm.out Hr.out
  exact ⟨ret_bi (by unfold posV; rw [E]; rfl) E.symm, up HW.out (up HB1.out (up HB2.out (up HB3.out (grow_below _ z))))⟩
end Go.Proofs.Ytpahbpgkmebieaa
