/- MarkLooks: whatever the mark book, the two readings with places, and the picks, the law returns true, and its arguments read as before. No condition. Own text. -/
import Derived.Test.YtpahbpgkmebieaaW36
import Derived.Test.YtpahbpgkmebieaaW31
import Derived.Test.YtpahbpgkmebieaaW21
import Derived.Test.YtpahbpgkmebieaaLT
import Derived.Test.YtpahbpgkmebieaaR8
import Derived.Test.YtpahbpgkmebieaaO4
namespace Go.Proofs.Ytpahbpgkmebieaa
open Go Go.ChangeShapes Go.WideShapes Go.RowKit Go.Deep
set_option maxHeartbeats 400000
set_option maxRecDepth 100000

set_option maxHeartbeats 2000000 in
theorem markLooks_any (w0 w1 w2 w3 w4 F : Int) (A : Option Addr) (n c : Nat) (gs : List Giv) (r s : Rd) (B : Option Addr) (n' c' : Nat) (l : List Int) (C : Option Addr) (n2 c2 : Nat) (l2 : List Int) (w : World) (hg : Gs w A n gs) (hnc : n ≤ c) (hl : Is w B n' l) (hl2 : Is w C n2 l2) (hn2 : n2 ≤ 4611686018427387904) :
    Calls Try.prog 7 #[.agg #[.int .i64 w0, .int .i64 w1, .int .i64 w2, .int .i64 w3, .int .i64 w4, .int .i64 F, .slice A n c], .agg #[.int .i64 r.r0, .int .i64 r.r1, .int .i64 r.r2, .int .i64 r.r3, .int .i64 r.r4, .int .i64 r.r5, .int .i64 s.r0, .int .i64 s.r1, .int .i64 s.r2, .int .i64 s.r3, .int .i64 s.r4, .int .i64 s.r5, .slice B n' c'], .slice C n2 c2] w fun e w' => e = .returned (.bool true) ∧ Below w.heap.size w w' := by
  have Hl : Hid (n = gs.length) := Lib.hid hg.len
  go_enter Try.func7, Try.ntmps7
  go_wp2_with fail
  generalize hW : (World.alloc _ _) = W
  have HW : Hid (Below w.heap.size w W) := Lib.hid (by subst hW; go_grown)
  have KM : Bk W w.heap.size [.int .i64 w0, .int .i64 w1, .int .i64 w2, .int .i64 w3, .int .i64 w4, .int .i64 F, .slice A n c] := ⟨by subst hW; simp only [World.size_alloc]; omega, by subst hW; intro j; simp [go_sem]⟩
  have KS : Bk W (w.heap.size + 1) [.int .i64 r.r0, .int .i64 r.r1, .int .i64 r.r2, .int .i64 r.r3, .int .i64 r.r4, .int .i64 r.r5, .int .i64 s.r0, .int .i64 s.r1, .int .i64 s.r2, .int .i64 s.r3, .int .i64 s.r4, .int .i64 s.r5, .slice B n' c'] := ⟨by subst hW; simp only [World.size_alloc]; omega, by subst hW; intro j; simp [go_sem]⟩
  clear hW
  have HG := Lib.hid (hg.keep HW.out)
  have HI := Lib.hid (hl.keep HW.out)
  have HP := Lib.hid (hl2.keep HW.out)
  clear hg hl hl2
  refine (look_any w0 w1 w2 w3 w4 F A n c gs r W HG.out hnc).mono ?_
  rintro e x1 ⟨B1, k1, c1, rfl, _, hi1, hb1⟩
  have HI1 := Lib.hid hi1
  have HB1 := Lib.hid hb1
  clear hi1
  replace HG := Lib.hid (HG.out.keep hb1); replace HI := Lib.hid (HI.out.keep hb1); replace HP := Lib.hid (HP.out.keep hb1); replace KM := KM.keep hb1; replace KS := KS.keep hb1; clear hb1
  have KMl := KM.lt; have KMc := KM.get; have KSl := KS.lt; have KSc := KS.get
  go_wp2_with fail
  refine (refLook_any w0 w1 w2 w3 w4 F A n c gs r x1 HG.out).mono ?_
  rintro e x2 ⟨B2, k2, c3, rfl, hi2, hb2⟩
  have HI2 := Lib.hid hi2
  clear hi2
  replace HG := Lib.hid (HG.out.keep hb2); replace HI := Lib.hid (HI.out.keep hb2); replace HP := Lib.hid (HP.out.keep hb2); replace HI1 := Lib.hid (HI1.out.keep hb2)
  clear KMl KMc KSl KSc; replace KM := KM.keep hb2; have KMl := KM.lt; have KMc := KM.get; replace KS := KS.keep hb2; have KSl := KS.lt; have KSc := KS.get; have HB2 := Lib.hid hb2; clear hb2
  obtain rfl : k1 = k2 := HI1.out.len.trans HI2.out.len.symm
  generalize lookR w0 w1 w2 w3 w4 F gs r = l3 at *
  generalize brE w0 w1 w2 w3 w4 F gs r = e1
  go_wp2_with fail
  refine (looked_any w0 w1 w2 w3 w4 F A n c gs r s B n' c' l x2 HG.out hnc HI.out).mono ?_
  rintro e x3 ⟨v3, rfl, hown, hb3⟩
  obtain ⟨A3, c4, rfl, _, hi3⟩ := Is.of_own hown
  have HI3 := Lib.hid hi3
  clear hown hi3
  replace HG := Lib.hid (HG.out.keep hb3); replace HI := Lib.hid (HI.out.keep hb3); replace HP := Lib.hid (HP.out.keep hb3); replace HI1 := Lib.hid (HI1.out.keep hb3); replace HI2 := Lib.hid (HI2.out.keep hb3)
  clear KMl KMc KSl KSc; replace KM := KM.keep hb3; have KMl := KM.lt; have KMc := KM.get; replace KS := KS.keep hb3; have KSl := KS.lt; have KSc := KS.get; have HB3 := Lib.hid hb3; clear hb3
  go_wp2_with fail
  refine (refLooked_any w0 w1 w2 w3 w4 F A n c gs r s B n' c' l x3 HG.out HI.out).mono ?_
  rintro e x4 ⟨v4, rfl, hown, hb4⟩
  obtain ⟨A4, c5, rfl, _, hi4⟩ := Is.of_own hown
  have HI4 := Lib.hid hi4
  clear hown hi4
  replace HG := Lib.hid (HG.out.keep hb4); replace HI := Lib.hid (HI.out.keep hb4); replace HP := Lib.hid (HP.out.keep hb4); replace HI1 := Lib.hid (HI1.out.keep hb4); replace HI2 := Lib.hid (HI2.out.keep hb4); replace HI3 := Lib.hid (HI3.out.keep hb4)
  clear KMl KMc KSl KSc; replace KM := KM.keep hb4; have KMl := KM.lt; have KMc := KM.get; replace KS := KS.keep hb4; have KSl := KS.lt; have KSc := KS.get; have HB4 := Lib.hid hb4; clear hb4
  generalize (lookG w0 w1 w2 w3 w4 F gs r s l).length = n3 at *
  generalize own (lookG w0 w1 w2 w3 w4 F gs r s l) = l4 at *
  generalize lookE w0 w1 w2 w3 w4 F gs r s l = e2
  have HC1 : Hid (∀ V, Below x4.heap.size x4 V → Calls Try.prog 52 _ V _) := Lib.hid (fun V hb => checkLook_any w0 w1 w2 w3 w4 F A n c gs r B n' c' l V (HG.out.keep hb) hnc (HI.out.keep hb))
  have HC2 : Hid (∀ V, Below x4.heap.size x4 V → Calls Try.prog 53 _ V _) := Lib.hid (fun V hb => refCheckLook_any w0 w1 w2 w3 w4 F A n c gs r B n' c' l V (HG.out.keep hb) (HI.out.keep hb))
  generalize clE w0 w1 w2 w3 w4 F gs r l = e3 at *
  go_wp2
  refine wp_region_grow (by kernel_rfl) (by kernel_rfl) ?_
  iterate 12 (go_big_quiet_step ((go_at_call 38; exact quiet_grow rfl (same_yes B1 B2 k1 c1 c3 l3 _ (HI1.out.keep (grow_below _ _)) (HI2.out.keep (grow_below _ _))))))
  repeat (go_big_quiet_step ((first | (go_at_call 38; exact quiet_grow rfl (same_yes A3 A4 n3 c4 c5 l4 _ (HI3.out.keep (grow_below _ _)) (HI4.out.keep (grow_below _ _)))) | (go_at_call 52; exact quiet_grow rfl (HC1.out _ (grow_below _ _))) | (go_at_call 53; exact quiet_grow rfl (HC2.out _ (grow_below _ _))))))
  refine wpQuiet_nil ?_
  intro z1
  generalize hX : grow x4 z1 = X
  have hb5 : Below x4.heap.size x4 X := by subst hX; exact grow_below x4 z1
  clear hX HC1 HC2 HI1 HI2 HI3 HI4 HI
  have HB := Lib.hid (up HW.out (up HB1.out (up HB2.out (up HB3.out (up HB4.out hb5)))))
  clear HB1 HB2 HB3 HB4
  replace HG := Lib.hid (HG.out.keep hb5); replace HP := Lib.hid (HP.out.keep hb5)
  clear KSl KSc KS
  clear KMl KMc; replace KM := KM.keep hb5; have KMl := KM.lt; have KMc := KM.get; have HB5 := Lib.hid hb5; clear hb5
  have hgs := HG.out.small
  go_wp2
  clear KMl KMc
  go_loopw [15] (fun i wr => ∃ (k : Nat) (z : Gr), k ≤ n ∧ k ≤ 3 ∧ i = .int .i64 k ∧ wr = grow X z) (fun i _ => 3 - (intOf i).toNat)
  case atStart => exact ⟨0, ⟨#[], X.drawn⟩, by omega, by omega, rfl, by simp [grow]⟩
  case round =>
    obtain ⟨k, z, hk, hk3, rfl, rfl⟩ := hrel
    have HbY := Lib.hid (grow_below X z)
    have KM1 := KM.keep HbY.out
    have KM1l := KM1.lt; have KM1c := KM1.get
    by_cases hlt : k < n
    rotate_left
    · obtain rfl : k = n := by omega
      have hx : ¬ ((k : Int) < k) := by omega
      go_wp2_with (go_at_call 22; refine (sane_any _).mono ?_; rintro e x9 ⟨rfl, hb9⟩)
      go_ret
      exact ⟨rfl, up HB.out (up HbY.out hb9)⟩
    by_cases hlt3 : k < 3
    rotate_left
    · obtain rfl : k = 3 := by omega
      go_wp2_with (go_at_call 22; refine (sane_any _).mono ?_; rintro e x9 ⟨rfl, hb9⟩)
      go_ret
      exact ⟨rfl, up HB.out (up HbY.out hb9)⟩
    · obtain ⟨bg, og, rfl, hbg, hga⟩ := HG.out.get k (by rw [← Hl.out]; exact hlt)
      generalize gs[k]'(by rw [← Hl.out]; exact hlt) = g at *
      obtain ⟨a0', a1', a2', a3', a4', a5', a6'⟩ := hga
      have e0 := KM.lt
      have e1 : w.heap.size < X.heap.size + z.blocks.size := by omega
      have e5 : bg < X.heap.size + z.blocks.size := by omega
      go_wp2
      clear KM1l KM1c
      refine wp_region_alloc_late 14 13 16 12 14 (.cells #[.int .i64 0, .int .i64 0, .int .i64 0, .int .i64 0, .int .i64 0, .int .i64 0] 31) (by kernel_rfl) rfl (by decide) (by decide) rfl rfl (by decide) rfl rfl (by kernel_rfl) (by kernel_rfl) (by kernel_rfl) (fun N => by kernel_rfl) (fun a w => by simp [execOp, Act.eval, go_sem]) (by kernel_rfl) ?_
      apply Exists.intro
      refine ⟨fun b N hbN => ?_, fun N => ?_, fun W9 N hW9 hN9 hblk => ?_⟩
      · have hbV := up HbY.out hbN
        have KMb := KM.keep hbV
        have KMbl := KMb.lt
        have KMbc := KMb.get
        have e1b : w.heap.size < b.heap.size := KMb.lt
        have e5b : bg < b.heap.size := by have := hbV.size; omega
        have u4 := (hbV.cell (p := ⟨bg, og + k * 7 + 1, none⟩) hbg).trans a1'
        have u5 := (hbV.cell (p := ⟨bg, og + k * 7 + 2, none⟩) hbg).trans a2'
        have u6 := (hbV.cell (p := ⟨bg, og + k * 7 + 3, none⟩) hbg).trans a3'
        have u7 := (hbV.cell (p := ⟨bg, og + k * 7 + 4, none⟩) hbg).trans a4'
        have u8 := (hbV.cell (p := ⟨bg, og + k * 7 + 5, none⟩) hbg).trans a5'
        have u9 := (hbV.cell (p := ⟨bg, og + k * 7 + 6, none⟩) hbg).trans a6'
        have HPb := Lib.hid (HP.out.keep hbV)
        simp only [List.set_cons_succ, List.set_cons_zero, ptrOp, List.take_succ_cons, List.take_zero]
        repeat (go_big_quiet_step ((go_at_call 54; exact quiet_grow rfl (worn_any w0 w1 w2 w3 w4 _ _ _ _ _ _ C n2 c2 l2 _ (HPb.out.keep (grow_below _ _))))))
        refine wpQuiet_nil ?_
        rfl
      · rfl
      simp only [List.set_cons_succ, List.set_cons_zero, late, List.drop_succ_cons, List.drop_zero]
      obtain ⟨n1, n2', n3'⟩ := made6 hblk
      go_wp2
      refine ⟨rfl, ?_⟩
      have KA := put6_bk hblk (.int .i64 (wornV w0 w1 w2 w3 w4 g.m0 g.m1 g.m2 g.m3 g.m4 g.m5 l2 0)) (.int .i64 (wornV w0 w1 w2 w3 w4 g.m0 g.m1 g.m2 g.m3 g.m4 g.m5 l2 1)) (.int .i64 (wornV w0 w1 w2 w3 w4 g.m0 g.m1 g.m2 g.m3 g.m4 g.m5 l2 2)) (.int .i64 (wornV w0 w1 w2 w3 w4 g.m0 g.m1 g.m2 g.m3 g.m4 g.m5 l2 3)) (.int .i64 (wornV w0 w1 w2 w3 w4 g.m0 g.m1 g.m2 g.m3 g.m4 g.m5 l2 4)) (.int .i64 (wornV w0 w1 w2 w3 w4 g.m0 g.m1 g.m2 g.m3 g.m4 g.m5 l2 5))
      have hbU := put6_below (up HbY.out hW9) (Nat.le_trans HbY.out.size hN9) (.int .i64 (wornV w0 w1 w2 w3 w4 g.m0 g.m1 g.m2 g.m3 g.m4 g.m5 l2 0)) (.int .i64 (wornV w0 w1 w2 w3 w4 g.m0 g.m1 g.m2 g.m3 g.m4 g.m5 l2 1)) (.int .i64 (wornV w0 w1 w2 w3 w4 g.m0 g.m1 g.m2 g.m3 g.m4 g.m5 l2 2)) (.int .i64 (wornV w0 w1 w2 w3 w4 g.m0 g.m1 g.m2 g.m3 g.m4 g.m5 l2 3)) (.int .i64 (wornV w0 w1 w2 w3 w4 g.m0 g.m1 g.m2 g.m3 g.m4 g.m5 l2 4)) (.int .i64 (wornV w0 w1 w2 w3 w4 g.m0 g.m1 g.m2 g.m3 g.m4 g.m5 l2 5))
      generalize World.setCell _ ⟨N, 5, none⟩ _ = U at KA hbU ⊢
      clear n1 n2' n3' hblk hW9 hN9 e1 e5
      have HbU := Lib.hid hbU
      clear hbU
      generalize N = NA at *
      have KM2 := KM.keep HbU.out
      have KM2l := KM2.lt; have KM2c := KM2.get
      have e1 : w.heap.size < U.heap.size := KM2.lt
      have e5 : bg < U.heap.size := by have := HbU.out.size; omega
      go_wp2
      clear KM2l KM2c
      refine wp_region_alloc_late 14 13 18 12 14 (.cells #[.int .i64 0, .int .i64 0, .int .i64 0, .int .i64 0, .int .i64 0, .int .i64 0] 31) (by kernel_rfl) rfl (by decide) (by decide) rfl rfl (by decide) rfl rfl (by kernel_rfl) (by kernel_rfl) (by kernel_rfl) (fun N => by kernel_rfl) (fun a w => by simp [execOp, Act.eval, go_sem]) (by kernel_rfl) ?_
      apply Exists.intro
      refine ⟨fun b N hbN => ?_, fun N => ?_, fun W9 N hW9 hN9 hblk => ?_⟩
      · have hbV := up HbU.out hbN
        have KMb := KM.keep hbV
        have KMbl := KMb.lt
        have KMbc := KMb.get
        have e1b : w.heap.size < b.heap.size := KMb.lt
        have e5b : bg < b.heap.size := by have := hbV.size; omega
        have u4 := (hbV.cell (p := ⟨bg, og + k * 7 + 1, none⟩) hbg).trans a1'
        have u5 := (hbV.cell (p := ⟨bg, og + k * 7 + 2, none⟩) hbg).trans a2'
        have u6 := (hbV.cell (p := ⟨bg, og + k * 7 + 3, none⟩) hbg).trans a3'
        have u7 := (hbV.cell (p := ⟨bg, og + k * 7 + 4, none⟩) hbg).trans a4'
        have u8 := (hbV.cell (p := ⟨bg, og + k * 7 + 5, none⟩) hbg).trans a5'
        have u9 := (hbV.cell (p := ⟨bg, og + k * 7 + 6, none⟩) hbg).trans a6'
        have HPb := Lib.hid (HP.out.keep hbV)
        simp only [List.set_cons_succ, List.set_cons_zero, ptrOp, List.take_succ_cons, List.take_zero]
        repeat (go_big_quiet_step ((go_at_call 55; exact quiet_grow rfl (refWorn_any w0 w1 w2 w3 w4 _ _ _ _ _ _ C n2 c2 l2 _ (HPb.out.keep (grow_below _ _)) hn2))))
        refine wpQuiet_nil ?_
        rfl
      · rfl
      simp only [List.set_cons_succ, List.set_cons_zero, late, List.drop_succ_cons, List.drop_zero]
      obtain ⟨n1, n2', n3'⟩ := made6 hblk
      go_wp2
      refine ⟨rfl, ?_⟩
      have KB := put6_bk hblk (.int .i64 (wornV w0 w1 w2 w3 w4 g.m0 g.m1 g.m2 g.m3 g.m4 g.m5 l2 0)) (.int .i64 (wornV w0 w1 w2 w3 w4 g.m0 g.m1 g.m2 g.m3 g.m4 g.m5 l2 1)) (.int .i64 (wornV w0 w1 w2 w3 w4 g.m0 g.m1 g.m2 g.m3 g.m4 g.m5 l2 2)) (.int .i64 (wornV w0 w1 w2 w3 w4 g.m0 g.m1 g.m2 g.m3 g.m4 g.m5 l2 3)) (.int .i64 (wornV w0 w1 w2 w3 w4 g.m0 g.m1 g.m2 g.m3 g.m4 g.m5 l2 4)) (.int .i64 (wornV w0 w1 w2 w3 w4 g.m0 g.m1 g.m2 g.m3 g.m4 g.m5 l2 5))
      have hbU2 := put6_below hW9 hN9 (.int .i64 (wornV w0 w1 w2 w3 w4 g.m0 g.m1 g.m2 g.m3 g.m4 g.m5 l2 0)) (.int .i64 (wornV w0 w1 w2 w3 w4 g.m0 g.m1 g.m2 g.m3 g.m4 g.m5 l2 1)) (.int .i64 (wornV w0 w1 w2 w3 w4 g.m0 g.m1 g.m2 g.m3 g.m4 g.m5 l2 2)) (.int .i64 (wornV w0 w1 w2 w3 w4 g.m0 g.m1 g.m2 g.m3 g.m4 g.m5 l2 3)) (.int .i64 (wornV w0 w1 w2 w3 w4 g.m0 g.m1 g.m2 g.m3 g.m4 g.m5 l2 4)) (.int .i64 (wornV w0 w1 w2 w3 w4 g.m0 g.m1 g.m2 g.m3 g.m4 g.m5 l2 5))
      generalize World.setCell _ ⟨N, 5, none⟩ _ = U2 at KB hbU2 ⊢
      clear n1 n2' n3' hblk hW9 hN9 e1 e5
      replace KA := KA.keep hbU2
      obtain ⟨y2, rfl⟩ := below_grow (up HbU.out hbU2)
      clear hbU2
      generalize wornV w0 w1 w2 w3 w4 g.m0 g.m1 g.m2 g.m3 g.m4 g.m5 l2 0 = q0 at *
      generalize wornV w0 w1 w2 w3 w4 g.m0 g.m1 g.m2 g.m3 g.m4 g.m5 l2 1 = q1 at *
      generalize wornV w0 w1 w2 w3 w4 g.m0 g.m1 g.m2 g.m3 g.m4 g.m5 l2 2 = q2 at *
      generalize wornV w0 w1 w2 w3 w4 g.m0 g.m1 g.m2 g.m3 g.m4 g.m5 l2 3 = q3 at *
      generalize wornV w0 w1 w2 w3 w4 g.m0 g.m1 g.m2 g.m3 g.m4 g.m5 l2 4 = q4 at *
      generalize wornV w0 w1 w2 w3 w4 g.m0 g.m1 g.m2 g.m3 g.m4 g.m5 l2 5 = q5 at *
      generalize wornE w0 w1 w2 w3 w4 g.m0 g.m1 g.m2 g.m3 g.m4 g.m5 = q6 at *
      have KAl := KA.lt; have KAc := KA.get; have KBl := KB.lt; have KBc := KB.get
      have hs6 : same6 q0 q1 q2 q3 q4 q5 q0 q1 q2 q3 q4 q5 = true := by simp [same6]
      go_wp2
      exact ⟨⟨k + 1, y2, by omega, by omega, by go_num, rfl⟩, by simp [intOf]; omega⟩

theorem reachN {n : Nat} (h : n * 8 ≤ reachBytes) : n ≤ 4611686018427387904 := by have := reachBytes_lt; omega

theorem markLooks_lifted (os : Os) (started : os.Started) (H : Type) (enc : TypeId × Value → H) :
    ReturnsInHanded {} Try.checked os 7 .any (Rows.markLooksSpec.pre6 enc Try.prog Try.f7 Rows.markLooksRow.domain false) (Rows.markLooksSpec.post enc Try.prog Try.f7 false true false false) := by
  refine law_lift started (by kernel_rfl) Try.func7 (ChangeSpec.witness6 (enc := enc) (C := Try.checked) false ⟨#[], #[.agg #[.int .i64 0, .int .i64 0, .int .i64 0, .int .i64 0, .int .i64 0, .int .i64 0, .slice none 0 0], .agg #[.int .i64 0, .int .i64 0, .int .i64 0, .int .i64 0, .int .i64 0, .int .i64 0, .int .i64 0, .int .i64 0, .int .i64 0, .int .i64 0, .int .i64 0, .int .i64 0, .slice none 0 0], .slice none 0 0], []⟩ 8 (by kernel_rfl) (by kernel_rfl) (by kernel_rfl) (by kernel_rfl))
    rfl rfl (fun ds h => ?_) ?_ ?_
  · match ds, h with
    | [a, b, c], _ => rfl
  · rw [Try.params7]; intro t ht; simp at ht; rcases ht with rfl | rfl | rfl <;> exact ⟨by kernel_rfl, of_decide_eq_true (by kernel_rfl)⟩
  · intro W base args ds p hval hA hz
    rw [Try.params7] at hA hval hz
    obtain ⟨v0, v1, v2, d0, d1, d2, p0, p1, p2, rfl, rfl, rfl, h0, h1, h2⟩ := trodAll_three hA
    obtain ⟨w0, w1, w2, w3, w4, F, A, n, c, gs, rfl, hg, hnc, _⟩ := open_marks (hval 0 26 v0 rfl rfl) h0 (hz 0 26 d0 rfl rfl)
    obtain ⟨x, y, B, n', c', l, rfl, hl, _, _, _⟩ := open_sights (hval 1 68 v1 rfl rfl) h1 (hz 1 68 d1 rfl rfl)
    obtain ⟨C, n2, c2, l2, rfl, hl2, _, hn2, _⟩ := open_is (hval 2 54 v2 rfl rfl) h2 (hz 2 54 d2 rfl rfl)
    exact markLooks_any w0 w1 w2 w3 w4 F A n c gs x y B n' c' l C n2 c2 l2 W hg hnc hl hl2 (reachN hn2)

theorem markLooks_holds : Rows.MarkLooksSaid :=
  OpenClaim.holds_of_wide 7 Try.f7 rfl rfl rfl rfl rfl rfl rfl ⟨rfl, rfl, rfl, rfl, rfl⟩ rfl rfl rfl rfl rfl (by kernel_rfl) Try.func7 (by kernel_rfl)
    (of_decide_eq_true (by kernel_rfl)) (by unfold Func.isWrapper; first | (rw [if_pos (by decide +kernel)]; kernel_rfl) | (rw [if_neg (by decide +kernel)]; exact ⟨rfl, rfl⟩))
    (fun os started H enc _ => markLooks_lifted os started H enc)
#print axioms markLooks_holds
end Go.Proofs.Ytpahbpgkmebieaa
