/- MarkChecks: whatever the mark book, the given mark and the reading, the law returns true, and its arguments read as before. No condition. Own text. -/
import Derived.Test.YtpahbpgkmebieaaR8
import Derived.Test.YtpahbpgkmebieaaO1
namespace Go.Proofs.Ytpahbpgkmebieaa
open Go Go.RowKit
set_option maxHeartbeats 400000
set_option maxRecDepth 100000

theorem same6_refl (a0 a1 a2 a3 a4 a5 : Int) : same6 a0 a1 a2 a3 a4 a5 a0 a1 a2 a3 a4 a5 = true := by simp [same6]

set_option maxHeartbeats 2000000 in
theorem markChecks_any (w0 w1 w2 w3 w4 F : Int) (A : Option Addr) (n c : Nat) (gs : List Giv) (g : Giv) (r : Rd) (w : World) (hg : Gs w A n gs) (hnc : n ≤ c) :
    Calls Try.prog 3 #[.agg #[.int .i64 w0, .int .i64 w1, .int .i64 w2, .int .i64 w3, .int .i64 w4, .int .i64 F, .slice A n c], .agg #[.int .i64 g.o, .int .i64 g.m0, .int .i64 g.m1, .int .i64 g.m2, .int .i64 g.m3, .int .i64 g.m4, .int .i64 g.m5], .agg #[.int .i64 r.r0, .int .i64 r.r1, .int .i64 r.r2, .int .i64 r.r3, .int .i64 r.r4, .int .i64 r.r5]] w fun e w' => e = .returned (.bool true) ∧ Below w.heap.size w w' := by
  go_enter Try.func3, Try.ntmps3
  go_wp2_with fail
  generalize hW : (World.alloc _ _) = W
  have HW : Hid (Below w.heap.size w W) := Lib.hid (by subst hW; go_grown)
  have KM : Bk W w.heap.size [.int .i64 w0, .int .i64 w1, .int .i64 w2, .int .i64 w3, .int .i64 w4, .int .i64 F, .slice A n c] := ⟨by subst hW; simp only [World.size_alloc]; omega, by subst hW; intro j; simp [go_sem]⟩
  have KG : Bk W (w.heap.size + 1) [.int .i64 g.o, .int .i64 g.m0, .int .i64 g.m1, .int .i64 g.m2, .int .i64 g.m3, .int .i64 g.m4, .int .i64 g.m5] := ⟨by subst hW; simp only [World.size_alloc]; omega, by subst hW; intro j; simp [go_sem]⟩
  have KR : Bk W (w.heap.size + 1 + 1) [.int .i64 r.r0, .int .i64 r.r1, .int .i64 r.r2, .int .i64 r.r3, .int .i64 r.r4, .int .i64 r.r5] := ⟨by subst hW; simp only [World.size_alloc]; omega, by subst hW; intro j; simp [go_sem]⟩
  clear hW
  have HG := Lib.hid (hg.keep HW.out)
  refine (markOf_any w0 w1 w2 w3 w4 F g.o A n c gs W HG.out hnc).mono ?_
  rintro e x1 ⟨rfl, hb1⟩
  generalize hm : foundM w0 w1 w2 w3 w4 F gs g.o = m
  generalize he : findE w0 w1 w2 w3 w4 F gs g.o = e1
  have Hm := Lib.hid hm
  have He := Lib.hid he
  clear hm he
  dsimp only [Giv.agg]
  replace KM := KM.keep hb1; replace KG := KG.keep hb1; replace KR := KR.keep hb1; replace HG := Lib.hid (HG.out.keep hb1); have HB1 := Lib.hid hb1; clear hb1
  have KMl := KM.lt; have KMc := KM.get; have KGl := KG.lt; have KGc := KG.get; have KRl := KR.lt; have KRc := KR.get
  go_wp2_with fail
  generalize hV : World.alloc x1 _ = V
  have hb2 : Below x1.heap.size x1 V := by subst hV; exact up_alloc _ _
  have KX : Bk V x1.heap.size [.int .i64 m.m0, .int .i64 m.m1, .int .i64 m.m2, .int .i64 m.m3, .int .i64 m.m4, .int .i64 m.m5] := ⟨by subst hV; simp, by subst hV; intro j; simp [go_sem]⟩
  clear hV
  replace HG := Lib.hid (HG.out.keep hb2)
  clear KMl KMc KGl KGc KRl KRc; replace KM := KM.keep hb2; have KMl := KM.lt; have KMc := KM.get; replace KG := KG.keep hb2; have KGl := KG.lt; have KGc := KG.get; replace KR := KR.keep hb2; have KRl := KR.lt; have KRc := KR.get; have HB2 := Lib.hid hb2; clear hb2
  refine (refMarkOf_any w0 w1 w2 w3 w4 F g.o A n c gs _ HG.out).mono ?_
  rintro e x2 ⟨rfl, hb3⟩
  rw [Hm.out, He.out]
  dsimp only [Giv.agg]
  replace HG := Lib.hid (HG.out.keep hb3)
  replace KX := KX.keep hb3
  clear KMl KMc KGl KGc KRl KRc; replace KM := KM.keep hb3; have KMl := KM.lt; have KMc := KM.get; replace KG := KG.keep hb3; have KGl := KG.lt; have KGc := KG.get; replace KR := KR.keep hb3; have KRl := KR.lt; have KRc := KR.get; have HB3 := Lib.hid hb3; clear hb3
  have KXl := KX.lt; have KXc := KX.get
  go_wp2_with fail
  generalize hV : World.alloc x2 _ = V2
  have hb4 : Below x2.heap.size x2 V2 := by subst hV; exact up_alloc _ _
  have KY : Bk V2 x2.heap.size [.int .i64 m.m0, .int .i64 m.m1, .int .i64 m.m2, .int .i64 m.m3, .int .i64 m.m4, .int .i64 m.m5] := ⟨by subst hV; simp, by subst hV; intro j; simp [go_sem]⟩
  clear hV
  replace HG := Lib.hid (HG.out.keep hb4)
  clear KMl KMc KGl KGc KRl KRc KXl KXc; replace KM := KM.keep hb4; have KMl := KM.lt; have KMc := KM.get; replace KG := KG.keep hb4; have KGl := KG.lt; have KGc := KG.get; replace KR := KR.keep hb4; have KRl := KR.lt; have KRc := KR.get; replace KX := KX.keep hb4; have KXl := KX.lt; have KXc := KX.get; have HB4 := Lib.hid hb4; clear hb4
  have KYl := KY.lt; have KYc := KY.get
  have hs6 := same6_refl m.m0 m.m1 m.m2 m.m3 m.m4 m.m5
  refine wp_region_grow (by kernel_rfl) (by kernel_rfl) ?_
  repeat (go_big_quiet_step ((first | (go_at_call 14; exact quiet_grow rfl (checkMark_any _ _ _ _ _ _ _)) | (go_at_call 15; exact quiet_grow rfl (refCheckMark_any _ _ _ _ _ _ _)) | (go_at_call 16; exact quiet_grow rfl (checkWear_any _ _ _ _ _ _)) | (go_at_call 17; exact quiet_grow rfl (refCheckWear_any _ _ _ _ _ _)) | (go_at_call 18; exact quiet_grow rfl (checkReading_any _ _ _ _ _ _ _)) | (go_at_call 19; exact quiet_grow rfl (refCheckReading_any _ _ _ _ _ _ _)) | (go_at_call 20; exact quiet_grow rfl (check_any _ _ _ _ _ _ _ _ _ gs _ (HG.out.keep (grow_below _ _)) hnc)) | (go_at_call 21; exact quiet_grow rfl (refCheck_any _ _ _ _ _ _ _ _ _ gs _ (HG.out.keep (grow_below _ _)))) | (go_at_call 22; exact quiet_grow rfl (sane_any _)))))
  refine wpQuiet_nil ?_
  intro z
  go_wp2
  go_ret
  exact ⟨rfl, up HW.out (up HB1.out (up HB2.out (up HB3.out (up HB4.out (grow_below _ z)))))⟩

end Go.Proofs.Ytpahbpgkmebieaa
