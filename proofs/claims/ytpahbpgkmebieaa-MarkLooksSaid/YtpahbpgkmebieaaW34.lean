/- Whether places settle a reading, both ways. Own text. -/
import Derived.Test.YtpahbpgkmebieaaW33
import Derived.Test.YtpahbpgkmebieaaW21
namespace Go.Proofs.Ytpahbpgkmebieaa
open Go Go.RowKit
set_option maxHeartbeats 400000
set_option maxRecDepth 100000

/-- The error of CheckLook. -/
def clE (w0 w1 w2 w3 w4 F : Int) (gs : List Giv) (r : Rd) (l : List Int) : Int := if brE w0 w1 w2 w3 w4 F gs r = 0 then (if riseB l (-1) = true then (if settleB (rowsOf w0 w1 w2 w3 w4 (possG w0 w1 w2 w3 w4 F [r] gs)) l = true then 0 else 18) else 18) else brE w0 w1 w2 w3 w4 F gs r
theorem clE_1 {w0 w1 w2 w3 w4 F : Int} {gs : List Giv} {r : Rd} (l : List Int) (h : brE w0 w1 w2 w3 w4 F gs r ≠ 0) : clE w0 w1 w2 w3 w4 F gs r l = brE w0 w1 w2 w3 w4 F gs r := if_neg h
theorem clE_2 {w0 w1 w2 w3 w4 F : Int} {gs : List Giv} {r : Rd} {l : List Int} (h : brE w0 w1 w2 w3 w4 F gs r = 0) (h2 : riseB l (-1) = false) : clE w0 w1 w2 w3 w4 F gs r l = 18 := by unfold clE; rw [if_pos h, if_neg (by simp [h2])]
theorem clE_3 {w0 w1 w2 w3 w4 F : Int} {gs : List Giv} {r : Rd} {l : List Int} (h : brE w0 w1 w2 w3 w4 F gs r = 0) (h2 : riseB l (-1) = true) (h3 : settleB (rowsOf w0 w1 w2 w3 w4 (possG w0 w1 w2 w3 w4 F [r] gs)) l = false) : clE w0 w1 w2 w3 w4 F gs r l = 18 := by unfold clE; rw [if_pos h, if_pos h2, if_neg (by simp [h3])]
theorem clE_4 {w0 w1 w2 w3 w4 F : Int} {gs : List Giv} {r : Rd} {l : List Int} (h : brE w0 w1 w2 w3 w4 F gs r = 0) (h2 : riseB l (-1) = true) (h3 : settleB (rowsOf w0 w1 w2 w3 w4 (possG w0 w1 w2 w3 w4 F [r] gs)) l = true) : clE w0 w1 w2 w3 w4 F gs r l = 0 := by unfold clE; rw [if_pos h, if_pos h2, if_pos h3]
theorem brE_ok {w0 w1 w2 w3 w4 F : Int} {gs : List Giv} {r : Rd} (h : brE w0 w1 w2 w3 w4 F gs r = 0) : okB w0 w1 w2 w3 w4 F gs = true ∧ r.ok = true := by
  unfold brE at h
  obtain ⟨o1, o2⟩ := firstE2_0 h
  exact ⟨err_0 (by decide) o1, err_0 (by decide) o2⟩

theorem checkLook_any (w0 w1 w2 w3 w4 F : Int) (A : Option Addr) (n c : Nat) (gs : List Giv) (r : Rd) (B : Option Addr) (n' c' : Nat) (l : List Int) (w : World) (hg : Gs w A n gs) (hnc : n ≤ c) (hl : Is w B n' l) :
    Calls Try.prog 52 #[.agg #[.int .i64 w0, .int .i64 w1, .int .i64 w2, .int .i64 w3, .int .i64 w4, .int .i64 F, .slice A n c], .agg #[.int .i64 r.r0, .int .i64 r.r1, .int .i64 r.r2, .int .i64 r.r3, .int .i64 r.r4, .int .i64 r.r5], .slice B n' c'] w fun e w' => e = .returned (.int .i64 (clE w0 w1 w2 w3 w4 F gs r l)) ∧ Below w.heap.size w w' := by
  have Hl : Hid (n = gs.length) := Lib.hid hg.len
  go_enter Try.func52, Try.ntmps52
  go_wp2_with fail
  generalize hW : (World.alloc _ _) = W
  have HW : Hid (Below w.heap.size w W) := Lib.hid (by subst hW; go_grown)
  have KM : Bk W w.heap.size [.int .i64 w0, .int .i64 w1, .int .i64 w2, .int .i64 w3, .int .i64 w4, .int .i64 F, .slice A n c] := ⟨by subst hW; simp only [World.size_alloc]; omega, by subst hW; intro j; simp [go_sem]⟩
  have KR : Bk W (w.heap.size + 1) [.int .i64 r.r0, .int .i64 r.r1, .int .i64 r.r2, .int .i64 r.r3, .int .i64 r.r4, .int .i64 r.r5] := ⟨by subst hW; simp only [World.size_alloc]; omega, by subst hW; intro j; simp [go_sem]⟩
  clear hW
  have KMl := KM.lt; have KMc := KM.get; have KRl := KR.lt; have KRc := KR.get
  have HG := Lib.hid (hg.keep HW.out)
  have HI := Lib.hid (hl.keep HW.out)
  refine wp_region_grow_tail 4 (by kernel_rfl) (by kernel_rfl) ?_
  simp only [List.take_succ_cons, List.take_zero, List.drop_succ_cons, List.drop_zero]
  repeat (go_big_quiet_step ((first | (go_at_call 20; exact quiet_grow rfl (check_any _ _ _ _ _ _ _ _ _ gs _ (HG.out.keep (grow_below _ _)) hnc)) | (go_at_call 18; exact quiet_grow rfl (checkReading_any _ _ _ _ _ _ _)))))
  refine wpQuiet_nil ?_
  intro z
  go_wp2_with fail
  refine Calls.mono (first_any _ _ _ _ _ (is2 _ _ _ _ _ (by simp))) ?_
  rintro e x1 ⟨rfl, rfl⟩
  rw [show firstE [err (okB w0 w1 w2 w3 w4 F gs) 13, err (okR r.r0 r.r1 r.r2 r.r3 r.r4 r.r5) 12] = brE w0 w1 w2 w3 w4 F gs r from rfl]
  generalize hV : World.alloc (grow W z) _ = V
  have hb : Below W.heap.size W V := by subst hV; exact up (grow_below W z) (up_alloc _ _)
  clear hV
  replace HG := Lib.hid (HG.out.keep hb)
  replace HI := Lib.hid (HI.out.keep hb)
  clear KMl KMc KRl KRc; replace KM := KM.keep hb; have KMl := KM.lt; have KMc := KM.get; replace KR := KR.keep hb; have KRl := KR.lt; have KRc := KR.get; have HV := Lib.hid hb; clear hb
  by_cases hE : brE w0 w1 w2 w3 w4 F gs r = 0
  rotate_left
  · have HE := Lib.hid hE
    have hb : (brE w0 w1 w2 w3 w4 F gs r != 0) = true := by simpa using hE
    clear hE
    go_wp2
    go_ret
    exact ⟨congrArg (fun v => Ending.returned (Value.int .i64 v)) (clE_1 l HE.out).symm, up HW.out HV.out⟩
  have HE := Lib.hid hE
  have Ob := Lib.hid (brE_ok hE).1
  rw [hE]
  clear hE
  have h40 : n ≤ 40 := by have := Hl.out; have := okB_40 Ob.out; omega
  cases hr : riseB l (-1)
  · have Hr := Lib.hid hr
    clear hr
    go_wp2_with (go_at_call 99; refine (validLook_any _ _ _ l _ HI.out).mono ?_; rintro e x2 ⟨rfl, rfl⟩; rw [Hr.out])
    go_ret
    exact ⟨congrArg (fun v => Ending.returned (Value.int .i64 v)) (clE_2 HE.out Hr.out).symm, up HW.out HV.out⟩
  have Hr := Lib.hid hr
  have Hin := Lib.hid (riseB_in l (-1) (by omega) hr)
  clear hr
  have Hs2 : Hid (settleB (rowsOf w0 w1 w2 w3 w4 (possG w0 w1 w2 w3 w4 F [r] gs)) l = false → clE w0 w1 w2 w3 w4 F gs r l = 18) := Lib.hid (fun h => clE_3 HE.out Hr.out h)
  have Hs3 : Hid (settleB (rowsOf w0 w1 w2 w3 w4 (possG w0 w1 w2 w3 w4 F [r] gs)) l = true → clE w0 w1 w2 w3 w4 F gs r l = 0) := Lib.hid (fun h => clE_4 HE.out Hr.out h)
  go_wp2_with (first
    | (go_at_call 99; refine (validLook_any _ _ _ l _ HI.out).mono ?_; rintro e x2 ⟨rfl, rfl⟩; rw [Hr.out])
    | (go_at_call 93; refine (possibleRows_any _ _ _ _ _ _ _ _ _ gs r _ HG.out (okB_ok Ob.out) h40).mono ?_; rintro e U0 ⟨v, rfl, hown, hb1⟩; have HU0 := Lib.hid hb1; clear hb1; obtain ⟨B1, c1, rfl, hcp, hrs⟩ := Rs.of_own hown; have HR0 := Lib.hid hrs; clear hrs hown)
    | fail)
  refine (settle_any _ _ _ _ _ _ _ l _ HR0.out hcp (HI.out.keep HU0.out) Hin.out).mono ?_
  rintro e U1 ⟨rfl, hb2⟩
  have HB := Lib.hid (up HW.out (up HV.out (up HU0.out hb2)))
  clear hb2
  cases hs : settleB (rowsOf w0 w1 w2 w3 w4 (possG w0 w1 w2 w3 w4 F [r] gs)) l
  · have Hs := Lib.hid hs
    clear hs
    go_wp2
    go_ret
    exact ⟨congrArg (fun v => Ending.returned (Value.int .i64 v)) (Hs2.out Hs.out).symm, HB.out⟩
  · have Hs := Lib.hid hs
    clear hs
    go_wp2
    go_ret
    exact ⟨congrArg (fun v => Ending.returned (Value.int .i64 v)) (Hs3.out Hs.out).symm, HB.out⟩

theorem refCheckLook_any (w0 w1 w2 w3 w4 F : Int) (A : Option Addr) (n c : Nat) (gs : List Giv) (r : Rd) (B : Option Addr) (n' c' : Nat) (l : List Int) (w : World) (hg : Gs w A n gs) (hl : Is w B n' l) :
    Calls Try.prog 53 #[.agg #[.int .i64 w0, .int .i64 w1, .int .i64 w2, .int .i64 w3, .int .i64 w4, .int .i64 F, .slice A n c], .agg #[.int .i64 r.r0, .int .i64 r.r1, .int .i64 r.r2, .int .i64 r.r3, .int .i64 r.r4, .int .i64 r.r5], .slice B n' c'] w fun e w' => e = .returned (.int .i64 (clE w0 w1 w2 w3 w4 F gs r l)) ∧ Below w.heap.size w w' := by
  go_enter Try.func53, Try.ntmps53
  go_wp2_with fail
  generalize hW : (World.alloc _ _) = W
  have HW : Hid (Below w.heap.size w W) := Lib.hid (by subst hW; go_grown)
  have KM : Bk W w.heap.size [.int .i64 w0, .int .i64 w1, .int .i64 w2, .int .i64 w3, .int .i64 w4, .int .i64 F, .slice A n c] := ⟨by subst hW; simp only [World.size_alloc]; omega, by subst hW; intro j; simp [go_sem]⟩
  have KR : Bk W (w.heap.size + 1) [.int .i64 r.r0, .int .i64 r.r1, .int .i64 r.r2, .int .i64 r.r3, .int .i64 r.r4, .int .i64 r.r5] := ⟨by subst hW; simp only [World.size_alloc]; omega, by subst hW; intro j; simp [go_sem]⟩
  clear hW
  have HG := Lib.hid (hg.keep HW.out)
  have HI := Lib.hid (hl.keep HW.out)
  refine (refOwners_any w0 w1 w2 w3 w4 F A n c gs r W HG.out).mono ?_
  rintro e V ⟨v, rfl, _, hb⟩
  replace HG := Lib.hid (HG.out.keep hb)
  replace HI := Lib.hid (HI.out.keep hb)
  replace KM := KM.keep hb; replace KR := KR.keep hb
  have HV := Lib.hid hb
  clear hb
  have KMl := KM.lt; have KMc := KM.get; have KRl := KR.lt; have KRc := KR.get
  by_cases hE : brE w0 w1 w2 w3 w4 F gs r = 0
  rotate_left
  · have HE := Lib.hid hE
    have hb : (brE w0 w1 w2 w3 w4 F gs r != 0) = true := by simpa using hE
    clear hE
    go_wp2
    go_ret
    exact ⟨congrArg (fun v => Ending.returned (Value.int .i64 v)) (clE_1 l HE.out).symm, up HW.out HV.out⟩
  have HE := Lib.hid hE
  have Ob := Lib.hid (brE_ok hE).1
  rw [hE]
  clear hE
  cases hr : riseB l (-1)
  · have Hr := Lib.hid hr
    clear hr
    go_wp2_with (go_at_call 101; refine (arePlaces_any _ _ _ l _ HI.out).mono ?_; rintro e x2 ⟨rfl, hb2⟩; rw [Hr.out])
    go_ret
    exact ⟨congrArg (fun v => Ending.returned (Value.int .i64 v)) (clE_2 HE.out Hr.out).symm, up HW.out (up HV.out hb2)⟩
  have Hr := Lib.hid hr
  have Hin := Lib.hid (riseB_in l (-1) (by omega) hr)
  clear hr
  have Hs2 : Hid (settleB (rowsOf w0 w1 w2 w3 w4 (possG w0 w1 w2 w3 w4 F [r] gs)) l = false → clE w0 w1 w2 w3 w4 F gs r l = 18) := Lib.hid (fun h => clE_3 HE.out Hr.out h)
  have Hs3 : Hid (settleB (rowsOf w0 w1 w2 w3 w4 (possG w0 w1 w2 w3 w4 F [r] gs)) l = true → clE w0 w1 w2 w3 w4 F gs r l = 0) := Lib.hid (fun h => clE_4 HE.out Hr.out h)
  go_wp2_with fail
  refine (arePlaces_any _ _ _ l _ HI.out).mono ?_
  rintro e x2 ⟨rfl, hb2⟩
  rw [Hr.out]
  replace HG := Lib.hid (HG.out.keep hb2)
  replace HI := Lib.hid (HI.out.keep hb2)
  clear KMl KMc KRl KRc; replace KM := KM.keep hb2; have KMl := KM.lt; have KMc := KM.get; replace KR := KR.keep hb2; have KRl := KR.lt; have KRc := KR.get; have HB2 := Lib.hid hb2; clear hb2
  go_wp2_with fail
  refine (settles_any w0 w1 w2 w3 w4 F A n c gs r B n' c' l _ HG.out Ob.out HI.out Hin.out).mono ?_
  rintro e U1 ⟨rfl, hb3⟩
  have HB := Lib.hid (up HW.out (up HV.out (up HB2.out hb3)))
  clear hb3
  cases hs : settleB (rowsOf w0 w1 w2 w3 w4 (possG w0 w1 w2 w3 w4 F [r] gs)) l
  · have Hs := Lib.hid hs
    clear hs
    go_wp2
    go_ret
    exact ⟨congrArg (fun v => Ending.returned (Value.int .i64 v)) (Hs2.out Hs.out).symm, HB.out⟩
  · have Hs := Lib.hid hs
    clear hs
    go_wp2
    go_ret
    exact ⟨congrArg (fun v => Ending.returned (Value.int .i64 v)) (Hs3.out Hs.out).symm, HB.out⟩
end Go.Proofs.Ytpahbpgkmebieaa
