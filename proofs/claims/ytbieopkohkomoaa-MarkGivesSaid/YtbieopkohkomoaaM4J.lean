/- MarkGives: whatever the mark book, the mark and the owner, the law returns true, and its arguments read as before; no condition. Own text. -/
import Derived.Test.YtbieopkohkomoaaJi
set_option linter.unusedVariables false
set_option linter.unusedSimpArgs false
set_option linter.unusedSectionVars false
namespace Go.Proofs.Ytbieopkohkomoaa
open Go Go.ChangeShapes Go.WideShapes Go.RowKit Go.Deep
set_option maxHeartbeats 400000
set_option maxRecDepth 100000

set_option maxHeartbeats 3000000 in
theorem markGives_any (w0 w1 w2 w3 w4 F x : Int) (A : Option Addr) (n c : Nat) (gs : List Giv) (g : Giv) (w : World) (hg : Gs w A n gs) (hnc : n ≤ c) :
    Calls Try.prog 6 #[.agg #[.int .i64 w0, .int .i64 w1, .int .i64 w2, .int .i64 w3, .int .i64 w4, .int .i64 F, .slice A n c], .agg #[.int .i64 g.o, .int .i64 g.m0, .int .i64 g.m1, .int .i64 g.m2, .int .i64 g.m3, .int .i64 g.m4, .int .i64 g.m5], .int .i64 x] w fun e w' => e = .returned (.bool true) ∧ Below w.heap.size w w' := by
  go_enter Try.func6, Try.ntmps6
  go_wp2_with fail
  generalize hW : (World.alloc _ _) = W
  have HW : Hid (Below w.heap.size w W) := Lib.hid (by subst hW; go_grown)
  have KM : Bk W w.heap.size [.int .i64 w0, .int .i64 w1, .int .i64 w2, .int .i64 w3, .int .i64 w4, .int .i64 F, .slice A n c] := ⟨by subst hW; simp only [World.size_alloc]; omega, by subst hW; intro j; simp [go_sem]⟩
  have KG : Bk W (w.heap.size + 1) [.int .i64 g.o, .int .i64 g.m0, .int .i64 g.m1, .int .i64 g.m2, .int .i64 g.m3, .int .i64 g.m4, .int .i64 g.m5] := ⟨by subst hW; simp only [World.size_alloc]; omega, by subst hW; intro j; simp [go_sem]⟩
  clear hW
  have HG := Lib.hid (hg.keep HW.out)
  clear hg
  generalize hE2 : giveE w0 w1 w2 w3 w4 F gs x = E2
  generalize hL2 : giveL w0 w1 w2 w3 w4 F gs x = L2
  generalize hE3 : addE w0 w1 w2 w3 w4 F gs g = E3
  generalize hL3 : addL w0 w1 w2 w3 w4 F gs g = L3
  generalize hE4 : findE w0 w1 w2 w3 w4 F gs x = E4
  generalize hL4 : takeL w0 w1 w2 w3 w4 F gs x = L4
  generalize hN1 : nextR w0 w1 w2 w3 w4 F gs = N1
  obtain ⟨m, E1⟩ := N1
  refine (next_any w0 w1 w2 w3 w4 F A n c gs W HG.out hnc).mono ?_
  rintro e x0 ⟨rfl, hb⟩
  have HX0 := Lib.hid hb
  replace KM := KM.keep hb
  replace KG := KG.keep hb
  replace HG := Lib.hid (HG.out.keep hb)
  clear hb
  rw [hN1]
  unfold encR
  dsimp only
  have KMl := KM.lt; have KMc := KM.get; have KGl := KG.lt; have KGc := KG.get
  go_upto_region 2 with (fail)
  clear KMl KMc KGl KGc
  generalize hV : World.alloc x0 _ = V0
  have hb : Below x0.heap.size x0 V0 := by subst hV; exact up_alloc _ _
  have KB0 : Bk V0 x0.heap.size [.int .i64 m.r0, .int .i64 m.r1, .int .i64 m.r2, .int .i64 m.r3, .int .i64 m.r4, .int .i64 m.r5] := ⟨by subst hV; simp, by subst hV; intro j; simp [go_sem]⟩
  clear hV
  have HV0 := Lib.hid hb
  replace KM := KM.keep hb
  replace KG := KG.keep hb
  replace HG := Lib.hid (HG.out.keep hb)
  clear hb
  have KMl := KM.lt; have KMc := KM.get; have KGl := KG.lt; have KGc := KG.get; have KB0l := KB0.lt; have KB0c := KB0.get
  go_wp2_with fail
  clear KMl KMc KGl KGc KB0l KB0c
  refine (refNext_any w0 w1 w2 w3 w4 F A n c gs V0 HG.out).mono ?_
  rintro e x1 ⟨rfl, hb⟩
  have HX1 := Lib.hid hb
  replace KM := KM.keep hb
  replace KG := KG.keep hb
  replace KB0 := KB0.keep hb
  replace HG := Lib.hid (HG.out.keep hb)
  clear hb
  rw [hN1]
  unfold encR
  dsimp only
  have KMl := KM.lt; have KMc := KM.get; have KGl := KG.lt; have KGc := KG.get; have KB0l := KB0.lt; have KB0c := KB0.get
  go_upto_region 3 with (fail)
  clear KMl KMc KGl KGc KB0l KB0c
  generalize hV : World.alloc x1 _ = V1
  have hb : Below x1.heap.size x1 V1 := by subst hV; exact up_alloc _ _
  have KB1 : Bk V1 x1.heap.size [.int .i64 m.r0, .int .i64 m.r1, .int .i64 m.r2, .int .i64 m.r3, .int .i64 m.r4, .int .i64 m.r5] := ⟨by subst hV; simp, by subst hV; intro j; simp [go_sem]⟩
  clear hV
  have HV1 := Lib.hid hb
  replace KM := KM.keep hb
  replace KG := KG.keep hb
  replace KB0 := KB0.keep hb
  replace HG := Lib.hid (HG.out.keep hb)
  clear hb
  have KMl := KM.lt; have KMc := KM.get; have KGl := KG.lt; have KGc := KG.get; have KB0l := KB0.lt; have KB0c := KB0.get; have KB1l := KB1.lt; have KB1c := KB1.get
  go_wp2_with fail
  clear KMl KMc KGl KGc KB0l KB0c KB1l KB1c
  refine (give_any w0 w1 w2 w3 w4 F x A n c gs V1 HG.out hnc).mono ?_
  rintro e x2 ⟨B2, n2, c2, rfl, hc2, hg2, hb⟩
  rw [hL2] at hg2
  rw [hE2]
  have HI2 := Lib.hid hg2
  clear hg2 hc2
  have HX2 := Lib.hid hb
  replace KM := KM.keep hb
  replace KG := KG.keep hb
  replace KB0 := KB0.keep hb
  replace KB1 := KB1.keep hb
  replace HG := Lib.hid (HG.out.keep hb)
  clear hb
  have KMl := KM.lt; have KMc := KM.get; have KGl := KG.lt; have KGc := KG.get; have KB0l := KB0.lt; have KB0c := KB0.get; have KB1l := KB1.lt; have KB1c := KB1.get
  go_upto_region 4 with (fail)
  clear KMl KMc KGl KGc KB0l KB0c KB1l KB1c
  generalize hV : World.alloc x2 _ = V2
  have hb : Below x2.heap.size x2 V2 := by subst hV; exact up_alloc _ _
  have KB2 : Bk V2 x2.heap.size [.int .i64 (cv E2 w0), .int .i64 (cv E2 w1), .int .i64 (cv E2 w2), .int .i64 (cv E2 w3), .int .i64 (cv E2 w4), .int .i64 (cv E2 F), .slice B2 n2 c2] := ⟨by subst hV; simp, by subst hV; intro j; simp [go_sem]⟩
  clear hV
  have HV2 := Lib.hid hb
  replace KM := KM.keep hb
  replace KG := KG.keep hb
  replace KB0 := KB0.keep hb
  replace KB1 := KB1.keep hb
  replace HG := Lib.hid (HG.out.keep hb)
  replace HI2 := Lib.hid (HI2.out.keep hb)
  clear hb
  have KMl := KM.lt; have KMc := KM.get; have KGl := KG.lt; have KGc := KG.get; have KB0l := KB0.lt; have KB0c := KB0.get; have KB1l := KB1.lt; have KB1c := KB1.get; have KB2l := KB2.lt; have KB2c := KB2.get
  go_wp2_with fail
  clear KMl KMc KGl KGc KB0l KB0c KB1l KB1c KB2l KB2c
  refine (refGive_any w0 w1 w2 w3 w4 F x A n c gs V2 HG.out hnc).mono ?_
  rintro e x3 ⟨B3, n3, c3, rfl, hc3, hg3, hb⟩
  rw [hL2] at hg3
  rw [hE2]
  have HI3 := Lib.hid hg3
  clear hg3 hc3
  have HX3 := Lib.hid hb
  replace KM := KM.keep hb
  replace KG := KG.keep hb
  replace KB0 := KB0.keep hb
  replace KB1 := KB1.keep hb
  replace KB2 := KB2.keep hb
  replace HG := Lib.hid (HG.out.keep hb)
  replace HI2 := Lib.hid (HI2.out.keep hb)
  clear hb
  have KMl := KM.lt; have KMc := KM.get; have KGl := KG.lt; have KGc := KG.get; have KB0l := KB0.lt; have KB0c := KB0.get; have KB1l := KB1.lt; have KB1c := KB1.get; have KB2l := KB2.lt; have KB2c := KB2.get
  go_upto_region 5 with (fail)
  clear KMl KMc KGl KGc KB0l KB0c KB1l KB1c KB2l KB2c
  generalize hV : World.alloc x3 _ = V3
  have hb : Below x3.heap.size x3 V3 := by subst hV; exact up_alloc _ _
  have KB3 : Bk V3 x3.heap.size [.int .i64 (cv E2 w0), .int .i64 (cv E2 w1), .int .i64 (cv E2 w2), .int .i64 (cv E2 w3), .int .i64 (cv E2 w4), .int .i64 (cv E2 F), .slice B3 n3 c3] := ⟨by subst hV; simp, by subst hV; intro j; simp [go_sem]⟩
  clear hV
  have HV3 := Lib.hid hb
  replace KM := KM.keep hb
  replace KG := KG.keep hb
  replace KB0 := KB0.keep hb
  replace KB1 := KB1.keep hb
  replace KB2 := KB2.keep hb
  replace HG := Lib.hid (HG.out.keep hb)
  replace HI2 := Lib.hid (HI2.out.keep hb)
  replace HI3 := Lib.hid (HI3.out.keep hb)
  clear hb
  have KMl := KM.lt; have KMc := KM.get; have KGl := KG.lt; have KGc := KG.get; have KB0l := KB0.lt; have KB0c := KB0.get; have KB1l := KB1.lt; have KB1c := KB1.get; have KB2l := KB2.lt; have KB2c := KB2.get; have KB3l := KB3.lt; have KB3c := KB3.get
  go_wp2_with fail
  clear KMl KMc KGl KGc KB0l KB0c KB1l KB1c KB2l KB2c KB3l KB3c
  refine (add_any w0 w1 w2 w3 w4 F A n c gs g V3 HG.out hnc).mono ?_
  rintro e x4 ⟨B4, n4, c4, rfl, hc4, hg4, hb⟩
  rw [hL3] at hg4
  rw [hE3]
  have HI4 := Lib.hid hg4
  clear hg4 hc4
  have HX4 := Lib.hid hb
  replace KM := KM.keep hb
  replace KG := KG.keep hb
  replace KB0 := KB0.keep hb
  replace KB1 := KB1.keep hb
  replace KB2 := KB2.keep hb
  replace KB3 := KB3.keep hb
  replace HG := Lib.hid (HG.out.keep hb)
  replace HI2 := Lib.hid (HI2.out.keep hb)
  replace HI3 := Lib.hid (HI3.out.keep hb)
  clear hb
  have KMl := KM.lt; have KMc := KM.get; have KGl := KG.lt; have KGc := KG.get; have KB0l := KB0.lt; have KB0c := KB0.get; have KB1l := KB1.lt; have KB1c := KB1.get; have KB2l := KB2.lt; have KB2c := KB2.get; have KB3l := KB3.lt; have KB3c := KB3.get
  go_upto_region 6 with (fail)
  clear KMl KMc KGl KGc KB0l KB0c KB1l KB1c KB2l KB2c KB3l KB3c
  generalize hV : World.alloc x4 _ = V4
  have hb : Below x4.heap.size x4 V4 := by subst hV; exact up_alloc _ _
  have KB4 : Bk V4 x4.heap.size [.int .i64 (cv E3 w0), .int .i64 (cv E3 w1), .int .i64 (cv E3 w2), .int .i64 (cv E3 w3), .int .i64 (cv E3 w4), .int .i64 (cv E3 F), .slice B4 n4 c4] := ⟨by subst hV; simp, by subst hV; intro j; simp [go_sem]⟩
  clear hV
  have HV4 := Lib.hid hb
  replace KM := KM.keep hb
  replace KG := KG.keep hb
  replace KB0 := KB0.keep hb
  replace KB1 := KB1.keep hb
  replace KB2 := KB2.keep hb
  replace KB3 := KB3.keep hb
  replace HG := Lib.hid (HG.out.keep hb)
  replace HI2 := Lib.hid (HI2.out.keep hb)
  replace HI3 := Lib.hid (HI3.out.keep hb)
  replace HI4 := Lib.hid (HI4.out.keep hb)
  clear hb
  have KMl := KM.lt; have KMc := KM.get; have KGl := KG.lt; have KGc := KG.get; have KB0l := KB0.lt; have KB0c := KB0.get; have KB1l := KB1.lt; have KB1c := KB1.get; have KB2l := KB2.lt; have KB2c := KB2.get; have KB3l := KB3.lt; have KB3c := KB3.get; have KB4l := KB4.lt; have KB4c := KB4.get
  go_wp2_with fail
  clear KMl KMc KGl KGc KB0l KB0c KB1l KB1c KB2l KB2c KB3l KB3c KB4l KB4c
  refine (refAdd_any w0 w1 w2 w3 w4 F A n c gs g V4 HG.out hnc).mono ?_
  rintro e x5 ⟨B5, n5, c5, rfl, hc5, hg5, hb⟩
  rw [hL3] at hg5
  rw [hE3]
  have HI5 := Lib.hid hg5
  clear hg5 hc5
  have HX5 := Lib.hid hb
  replace KM := KM.keep hb
  replace KG := KG.keep hb
  replace KB0 := KB0.keep hb
  replace KB1 := KB1.keep hb
  replace KB2 := KB2.keep hb
  replace KB3 := KB3.keep hb
  replace KB4 := KB4.keep hb
  replace HG := Lib.hid (HG.out.keep hb)
  replace HI2 := Lib.hid (HI2.out.keep hb)
  replace HI3 := Lib.hid (HI3.out.keep hb)
  replace HI4 := Lib.hid (HI4.out.keep hb)
  clear hb
  have KMl := KM.lt; have KMc := KM.get; have KGl := KG.lt; have KGc := KG.get; have KB0l := KB0.lt; have KB0c := KB0.get; have KB1l := KB1.lt; have KB1c := KB1.get; have KB2l := KB2.lt; have KB2c := KB2.get; have KB3l := KB3.lt; have KB3c := KB3.get; have KB4l := KB4.lt; have KB4c := KB4.get
  go_upto_region 7 with (fail)
  clear KMl KMc KGl KGc KB0l KB0c KB1l KB1c KB2l KB2c KB3l KB3c KB4l KB4c
  generalize hV : World.alloc x5 _ = V5
  have hb : Below x5.heap.size x5 V5 := by subst hV; exact up_alloc _ _
  have KB5 : Bk V5 x5.heap.size [.int .i64 (cv E3 w0), .int .i64 (cv E3 w1), .int .i64 (cv E3 w2), .int .i64 (cv E3 w3), .int .i64 (cv E3 w4), .int .i64 (cv E3 F), .slice B5 n5 c5] := ⟨by subst hV; simp, by subst hV; intro j; simp [go_sem]⟩
  clear hV
  have HV5 := Lib.hid hb
  replace KM := KM.keep hb
  replace KG := KG.keep hb
  replace KB0 := KB0.keep hb
  replace KB1 := KB1.keep hb
  replace KB2 := KB2.keep hb
  replace KB3 := KB3.keep hb
  replace KB4 := KB4.keep hb
  replace HG := Lib.hid (HG.out.keep hb)
  replace HI2 := Lib.hid (HI2.out.keep hb)
  replace HI3 := Lib.hid (HI3.out.keep hb)
  replace HI4 := Lib.hid (HI4.out.keep hb)
  replace HI5 := Lib.hid (HI5.out.keep hb)
  clear hb
  have KMl := KM.lt; have KMc := KM.get; have KGl := KG.lt; have KGc := KG.get; have KB0l := KB0.lt; have KB0c := KB0.get; have KB1l := KB1.lt; have KB1c := KB1.get; have KB2l := KB2.lt; have KB2c := KB2.get; have KB3l := KB3.lt; have KB3c := KB3.get; have KB4l := KB4.lt; have KB4c := KB4.get; have KB5l := KB5.lt; have KB5c := KB5.get
  go_wp2_with fail
  clear KMl KMc KGl KGc KB0l KB0c KB1l KB1c KB2l KB2c KB3l KB3c KB4l KB4c KB5l KB5c
  refine (take_any w0 w1 w2 w3 w4 F x A n c gs V5 HG.out hnc).mono ?_
  rintro e x6 ⟨B6, n6, c6, rfl, hc6, hg6, hb⟩
  rw [hL4] at hg6
  rw [hE4]
  have HI6 := Lib.hid hg6
  clear hg6 hc6
  have HX6 := Lib.hid hb
  replace KM := KM.keep hb
  replace KG := KG.keep hb
  replace KB0 := KB0.keep hb
  replace KB1 := KB1.keep hb
  replace KB2 := KB2.keep hb
  replace KB3 := KB3.keep hb
  replace KB4 := KB4.keep hb
  replace KB5 := KB5.keep hb
  replace HG := Lib.hid (HG.out.keep hb)
  replace HI2 := Lib.hid (HI2.out.keep hb)
  replace HI3 := Lib.hid (HI3.out.keep hb)
  replace HI4 := Lib.hid (HI4.out.keep hb)
  replace HI5 := Lib.hid (HI5.out.keep hb)
  clear hb
  have KMl := KM.lt; have KMc := KM.get; have KGl := KG.lt; have KGc := KG.get; have KB0l := KB0.lt; have KB0c := KB0.get; have KB1l := KB1.lt; have KB1c := KB1.get; have KB2l := KB2.lt; have KB2c := KB2.get; have KB3l := KB3.lt; have KB3c := KB3.get; have KB4l := KB4.lt; have KB4c := KB4.get; have KB5l := KB5.lt; have KB5c := KB5.get
  go_upto_region 8 with (fail)
  clear KMl KMc KGl KGc KB0l KB0c KB1l KB1c KB2l KB2c KB3l KB3c KB4l KB4c KB5l KB5c
  generalize hV : World.alloc x6 _ = V6
  have hb : Below x6.heap.size x6 V6 := by subst hV; exact up_alloc _ _
  have KB6 : Bk V6 x6.heap.size [.int .i64 (cv E4 w0), .int .i64 (cv E4 w1), .int .i64 (cv E4 w2), .int .i64 (cv E4 w3), .int .i64 (cv E4 w4), .int .i64 (cv E4 F), .slice B6 n6 c6] := ⟨by subst hV; simp, by subst hV; intro j; simp [go_sem]⟩
  clear hV
  have HV6 := Lib.hid hb
  replace KM := KM.keep hb
  replace KG := KG.keep hb
  replace KB0 := KB0.keep hb
  replace KB1 := KB1.keep hb
  replace KB2 := KB2.keep hb
  replace KB3 := KB3.keep hb
  replace KB4 := KB4.keep hb
  replace KB5 := KB5.keep hb
  replace HG := Lib.hid (HG.out.keep hb)
  replace HI2 := Lib.hid (HI2.out.keep hb)
  replace HI3 := Lib.hid (HI3.out.keep hb)
  replace HI4 := Lib.hid (HI4.out.keep hb)
  replace HI5 := Lib.hid (HI5.out.keep hb)
  replace HI6 := Lib.hid (HI6.out.keep hb)
  clear hb
  have KMl := KM.lt; have KMc := KM.get; have KGl := KG.lt; have KGc := KG.get; have KB0l := KB0.lt; have KB0c := KB0.get; have KB1l := KB1.lt; have KB1c := KB1.get; have KB2l := KB2.lt; have KB2c := KB2.get; have KB3l := KB3.lt; have KB3c := KB3.get; have KB4l := KB4.lt; have KB4c := KB4.get; have KB5l := KB5.lt; have KB5c := KB5.get; have KB6l := KB6.lt; have KB6c := KB6.get
  go_wp2_with fail
  clear KMl KMc KGl KGc KB0l KB0c KB1l KB1c KB2l KB2c KB3l KB3c KB4l KB4c KB5l KB5c KB6l KB6c
  refine (refTake_any w0 w1 w2 w3 w4 F x A n c gs V6 HG.out hnc).mono ?_
  rintro e x7 ⟨B7, n7, c7, rfl, hc7, hg7, hb⟩
  rw [hL4] at hg7
  rw [hE4]
  have HI7 := Lib.hid hg7
  clear hg7 hc7
  have HX7 := Lib.hid hb
  replace KM := KM.keep hb
  replace KG := KG.keep hb
  replace KB0 := KB0.keep hb
  replace KB1 := KB1.keep hb
  replace KB2 := KB2.keep hb
  replace KB3 := KB3.keep hb
  replace KB4 := KB4.keep hb
  replace KB5 := KB5.keep hb
  replace KB6 := KB6.keep hb
  replace HG := Lib.hid (HG.out.keep hb)
  replace HI2 := Lib.hid (HI2.out.keep hb)
  replace HI3 := Lib.hid (HI3.out.keep hb)
  replace HI4 := Lib.hid (HI4.out.keep hb)
  replace HI5 := Lib.hid (HI5.out.keep hb)
  replace HI6 := Lib.hid (HI6.out.keep hb)
  clear hb
  have KMl := KM.lt; have KMc := KM.get; have KGl := KG.lt; have KGc := KG.get; have KB0l := KB0.lt; have KB0c := KB0.get; have KB1l := KB1.lt; have KB1c := KB1.get; have KB2l := KB2.lt; have KB2c := KB2.get; have KB3l := KB3.lt; have KB3c := KB3.get; have KB4l := KB4.lt; have KB4c := KB4.get; have KB5l := KB5.lt; have KB5c := KB5.get; have KB6l := KB6.lt; have KB6c := KB6.get
  go_upto_region 9 with (fail)
  clear KMl KMc KGl KGc KB0l KB0c KB1l KB1c KB2l KB2c KB3l KB3c KB4l KB4c KB5l KB5c KB6l KB6c
  generalize hV : World.alloc x7 _ = V7
  have hb : Below x7.heap.size x7 V7 := by subst hV; exact up_alloc _ _
  have KB7 : Bk V7 x7.heap.size [.int .i64 (cv E4 w0), .int .i64 (cv E4 w1), .int .i64 (cv E4 w2), .int .i64 (cv E4 w3), .int .i64 (cv E4 w4), .int .i64 (cv E4 F), .slice B7 n7 c7] := ⟨by subst hV; simp, by subst hV; intro j; simp [go_sem]⟩
  clear hV
  have HV7 := Lib.hid hb
  replace KM := KM.keep hb
  replace KG := KG.keep hb
  replace KB0 := KB0.keep hb
  replace KB1 := KB1.keep hb
  replace KB2 := KB2.keep hb
  replace KB3 := KB3.keep hb
  replace KB4 := KB4.keep hb
  replace KB5 := KB5.keep hb
  replace KB6 := KB6.keep hb
  replace HG := Lib.hid (HG.out.keep hb)
  replace HI2 := Lib.hid (HI2.out.keep hb)
  replace HI3 := Lib.hid (HI3.out.keep hb)
  replace HI4 := Lib.hid (HI4.out.keep hb)
  replace HI5 := Lib.hid (HI5.out.keep hb)
  replace HI6 := Lib.hid (HI6.out.keep hb)
  replace HI7 := Lib.hid (HI7.out.keep hb)
  clear hb
  clear KM KG HG hE2 hL2 hE3 hL3 hE4 hL4 hN1
  have hn2 : n2 = n3 := HI2.out.len.trans HI3.out.len.symm
  subst hn2
  have hn4 : n4 = n5 := HI4.out.len.trans HI5.out.len.symm
  subst hn4
  have hn6 : n6 = n7 := HI6.out.len.trans HI7.out.len.symm
  subst hn6
  have hs6 : same6 m.r0 m.r1 m.r2 m.r3 m.r4 m.r5 m.r0 m.r1 m.r2 m.r3 m.r4 m.r5 = true := by simp [same6]
  have Hs6 := Lib.hid hs6
  clear hs6
  have hs6 := Hs6.out
  have KB0l := KB0.lt; have KB0c := KB0.get; have KB1l := KB1.lt; have KB1c := KB1.get; have KB2l := KB2.lt; have KB2c := KB2.get; have KB3l := KB3.lt; have KB3c := KB3.get; have KB4l := KB4.lt; have KB4c := KB4.get; have KB5l := KB5.lt; have KB5c := KB5.get; have KB6l := KB6.lt; have KB6c := KB6.get; have KB7l := KB7.lt; have KB7c := KB7.get
  go_wp2_with fail
  clear hs6
  clear KB0l KB0c KB1l KB1c KB2l KB2c KB3l KB3c KB4l KB4c KB5l KB5c KB6l KB6c KB7l KB7c
  refine (sameMarks_yes (cv E2 w0) (cv E2 w1) (cv E2 w2) (cv E2 w3) (cv E2 w4) (cv E2 F) B2 B3 n2 c2 c3 _ _ HI2.out HI3.out).mono ?_
  rintro e y2 ⟨rfl, hb⟩
  have HY2 := Lib.hid hb
  replace KB0 := KB0.keep hb
  replace KB1 := KB1.keep hb
  replace KB2 := KB2.keep hb
  replace KB3 := KB3.keep hb
  replace KB4 := KB4.keep hb
  replace KB5 := KB5.keep hb
  replace KB6 := KB6.keep hb
  replace KB7 := KB7.keep hb
  replace HI2 := Lib.hid (HI2.out.keep hb)
  replace HI3 := Lib.hid (HI3.out.keep hb)
  replace HI4 := Lib.hid (HI4.out.keep hb)
  replace HI5 := Lib.hid (HI5.out.keep hb)
  replace HI6 := Lib.hid (HI6.out.keep hb)
  replace HI7 := Lib.hid (HI7.out.keep hb)
  clear hb
  have hs6 := Hs6.out
  have KB0l := KB0.lt; have KB0c := KB0.get; have KB1l := KB1.lt; have KB1c := KB1.get; have KB2l := KB2.lt; have KB2c := KB2.get; have KB3l := KB3.lt; have KB3c := KB3.get; have KB4l := KB4.lt; have KB4c := KB4.get; have KB5l := KB5.lt; have KB5c := KB5.get; have KB6l := KB6.lt; have KB6c := KB6.get; have KB7l := KB7.lt; have KB7c := KB7.get
  go_wp2_with fail
  clear hs6
  clear KB0l KB0c KB1l KB1c KB2l KB2c KB3l KB3c KB4l KB4c KB5l KB5c KB6l KB6c KB7l KB7c
  refine (sameMarks_yes (cv E3 w0) (cv E3 w1) (cv E3 w2) (cv E3 w3) (cv E3 w4) (cv E3 F) B4 B5 n4 c4 c5 _ _ HI4.out HI5.out).mono ?_
  rintro e y4 ⟨rfl, hb⟩
  have HY4 := Lib.hid hb
  replace KB0 := KB0.keep hb
  replace KB1 := KB1.keep hb
  replace KB2 := KB2.keep hb
  replace KB3 := KB3.keep hb
  replace KB4 := KB4.keep hb
  replace KB5 := KB5.keep hb
  replace KB6 := KB6.keep hb
  replace KB7 := KB7.keep hb
  replace HI2 := Lib.hid (HI2.out.keep hb)
  replace HI3 := Lib.hid (HI3.out.keep hb)
  replace HI4 := Lib.hid (HI4.out.keep hb)
  replace HI5 := Lib.hid (HI5.out.keep hb)
  replace HI6 := Lib.hid (HI6.out.keep hb)
  replace HI7 := Lib.hid (HI7.out.keep hb)
  clear hb
  have hs6 := Hs6.out
  have KB0l := KB0.lt; have KB0c := KB0.get; have KB1l := KB1.lt; have KB1c := KB1.get; have KB2l := KB2.lt; have KB2c := KB2.get; have KB3l := KB3.lt; have KB3c := KB3.get; have KB4l := KB4.lt; have KB4c := KB4.get; have KB5l := KB5.lt; have KB5c := KB5.get; have KB6l := KB6.lt; have KB6c := KB6.get; have KB7l := KB7.lt; have KB7c := KB7.get
  go_wp2_with fail
  clear hs6
  clear KB0l KB0c KB1l KB1c KB2l KB2c KB3l KB3c KB4l KB4c KB5l KB5c KB6l KB6c KB7l KB7c
  refine (sameMarks_yes (cv E4 w0) (cv E4 w1) (cv E4 w2) (cv E4 w3) (cv E4 w4) (cv E4 F) B6 B7 n6 c6 c7 _ _ HI6.out HI7.out).mono ?_
  rintro e y6 ⟨rfl, hb⟩
  have HY6 := Lib.hid hb
  replace KB0 := KB0.keep hb
  replace KB1 := KB1.keep hb
  replace KB2 := KB2.keep hb
  replace KB3 := KB3.keep hb
  replace KB4 := KB4.keep hb
  replace KB5 := KB5.keep hb
  replace KB6 := KB6.keep hb
  replace KB7 := KB7.keep hb
  replace HI2 := Lib.hid (HI2.out.keep hb)
  replace HI3 := Lib.hid (HI3.out.keep hb)
  replace HI4 := Lib.hid (HI4.out.keep hb)
  replace HI5 := Lib.hid (HI5.out.keep hb)
  replace HI6 := Lib.hid (HI6.out.keep hb)
  replace HI7 := Lib.hid (HI7.out.keep hb)
  clear hb
  have KB0l := KB0.lt; have KB0c := KB0.get; have KB1l := KB1.lt; have KB1c := KB1.get; have KB2l := KB2.lt; have KB2c := KB2.get; have KB3l := KB3.lt; have KB3c := KB3.get; have KB4l := KB4.lt; have KB4c := KB4.get; have KB5l := KB5.lt; have KB5c := KB5.get; have KB6l := KB6.lt; have KB6c := KB6.get; have KB7l := KB7.lt; have KB7c := KB7.get
  go_wp2_with fail
  clear KB0l KB0c KB1l KB1c KB2l KB2c KB3l KB3c KB4l KB4c KB5l KB5c KB6l KB6c KB7l KB7c
  refine (sane_any _).mono ?_
  rintro e y8 ⟨rfl, hb⟩
  have HY8 := Lib.hid hb; clear hb
  go_wp2
  go_ret
  exact ⟨rfl, up HW.out (up HX0.out (up HV0.out (up HX1.out (up HV1.out (up HX2.out (up HV2.out (up HX3.out (up HV3.out (up HX4.out (up HV4.out (up HX5.out (up HV5.out (up HX6.out (up HV6.out (up HX7.out (up HV7.out (up HY2.out (up HY4.out (up HY6.out HY8.out)))))))))))))))))))⟩

theorem markGives_lifted (os : Os) (started : os.Started) (H : Type) (enc : TypeId × Value → H) :
    ReturnsInHanded {} Try.checked os 6 .any (Rows.markGivesSpec.pre6 enc Try.prog Try.f6 Rows.markGivesRow.domain false) (Rows.markGivesSpec.post enc Try.prog Try.f6 false true false false) := by
  refine law_lift started (by kernel_rfl) Try.func6 (ChangeSpec.witness6 (enc := enc) (C := Try.checked) false ⟨#[], #[.agg #[.int .i64 0, .int .i64 0, .int .i64 0, .int .i64 0, .int .i64 0, .int .i64 0, .slice none 0 0], .agg #[.int .i64 0, .int .i64 0, .int .i64 0, .int .i64 0, .int .i64 0, .int .i64 0, .int .i64 0], .int .i64 0], []⟩ 8 (by kernel_rfl) (by kernel_rfl) (by kernel_rfl) (by kernel_rfl))
    rfl rfl (fun ds h => ?_) ?_ ?_
  · match ds, h with
    | [a, b, c], _ => rfl
  · rw [Try.params6]; intro t ht; simp at ht; rcases ht with rfl | rfl | rfl <;> exact ⟨by kernel_rfl, of_decide_eq_true (by kernel_rfl)⟩
  · intro W base args ds p hval hA hz
    rw [Try.params6] at hA hval hz
    obtain ⟨v0, v1, v2, d0, d1, d2, p0, p1, p2, rfl, rfl, rfl, h0, h1, h2⟩ := trodAll_three hA
    obtain ⟨w0, w1, w2, w3, w4, F, A, n, c, gs, rfl, hg, hnc, _⟩ := open_marks (hval 0 26 v0 rfl rfl) h0 (hz 0 26 d0 rfl rfl)
    obtain ⟨g, rfl⟩ := open_given (hval 1 30 v1 rfl rfl) h1
    obtain ⟨x, rfl, _⟩ := open_int3 (hval 2 3 v2 rfl rfl) h2
    exact markGives_any w0 w1 w2 w3 w4 F x A n c gs g W hg hnc

theorem markGives_holds : Rows.MarkGivesSaid :=
  OpenClaim.holds_of_wide 6 Try.f6 rfl rfl rfl rfl rfl rfl rfl ⟨rfl, rfl, rfl, rfl, rfl⟩ rfl rfl rfl rfl rfl (by kernel_rfl) Try.func6 (by kernel_rfl)
    (of_decide_eq_true (by kernel_rfl)) (by unfold Func.isWrapper; first | (rw [if_pos (by decide +kernel)]; kernel_rfl) | (rw [if_neg (by decide +kernel)]; exact ⟨rfl, rfl⟩))
    (fun os started H enc _ => markGives_lifted os started H enc)
end Go.Proofs.Ytbieopkohkomoaa

