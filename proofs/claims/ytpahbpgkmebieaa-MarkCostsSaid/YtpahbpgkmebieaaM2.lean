/- MarkCosts: whatever the mark book, the two marks and the reading, the law returns true, and its arguments read as before. No condition. Own text. -/
import Derived.Test.YtpahbpgkmebieaaP2
import Derived.Test.YtpahbpgkmebieaaW23
import Derived.Test.YtpahbpgkmebieaaR8
import Derived.Test.YtpahbpgkmebieaaO4
namespace Go.Proofs.Ytpahbpgkmebieaa
open Go Go.ChangeShapes Go.WideShapes Go.RowKit Go.Deep
set_option maxHeartbeats 400000
set_option maxRecDepth 100000

theorem zero_same6 : same6 0 0 0 0 0 0 0 0 0 0 0 0 = true := rfl
theorem meetV_0 {w0 w1 w2 w3 w4 p a0 a1 a2 a3 a4 a5 b0 b1 b2 b3 b4 b5 : Int} (h : meetE w0 w1 w2 w3 w4 p a0 a1 a2 a3 a4 a5 b0 b1 b2 b3 b4 b5 ≠ 0) (k : Nat) : meetV w0 w1 w2 w3 w4 p a0 a1 a2 a3 a4 a5 b0 b1 b2 b3 b4 b5 k = 0 := by unfold meetV; rw [if_neg h]

set_option maxHeartbeats 2000000 in
theorem markCosts_any (w0 w1 w2 w3 w4 F : Int) (A : Option Addr) (n c : Nat) (gs : List Giv) (a0 a1 a2 a3 a4 a5 b0 b1 b2 b3 b4 b5 r0 r1 r2 r3 r4 r5 : Int) (w : World) (hg : Gs w A n gs) (hnc : n ≤ c) :
    Calls Try.prog 4 #[.agg #[.int .i64 w0, .int .i64 w1, .int .i64 w2, .int .i64 w3, .int .i64 w4, .int .i64 F, .slice A n c], .agg #[.int .i64 a0, .int .i64 a1, .int .i64 a2, .int .i64 a3, .int .i64 a4, .int .i64 a5, .int .i64 b0, .int .i64 b1, .int .i64 b2, .int .i64 b3, .int .i64 b4, .int .i64 b5], .agg #[.int .i64 r0, .int .i64 r1, .int .i64 r2, .int .i64 r3, .int .i64 r4, .int .i64 r5]] w fun e w' => e = .returned (.bool true) ∧ Below w.heap.size w w' := by
  go_enter Try.func4, Try.ntmps4
  go_wp2_with fail
  generalize hW : (World.alloc _ _) = W
  have HW : Hid (Below w.heap.size w W) := Lib.hid (by subst hW; go_grown)
  have KM : Bk W w.heap.size [.int .i64 w0, .int .i64 w1, .int .i64 w2, .int .i64 w3, .int .i64 w4, .int .i64 F, .slice A n c] := ⟨by subst hW; simp only [World.size_alloc]; omega, by subst hW; intro j; simp [go_sem]⟩
  have KP : Bk W (w.heap.size + 1) [.int .i64 a0, .int .i64 a1, .int .i64 a2, .int .i64 a3, .int .i64 a4, .int .i64 a5, .int .i64 b0, .int .i64 b1, .int .i64 b2, .int .i64 b3, .int .i64 b4, .int .i64 b5] := ⟨by subst hW; simp only [World.size_alloc]; omega, by subst hW; intro j; simp [go_sem]⟩
  have KR : Bk W (w.heap.size + 1 + 1) [Value.int .i64 r0, Value.int .i64 r1, Value.int .i64 r2, Value.int .i64 r3, Value.int .i64 r4, Value.int .i64 r5] := ⟨by subst hW; simp only [World.size_alloc]; omega, by subst hW; intro j; simp [go_sem]⟩
  clear hW
  have HG := Lib.hid (hg.keep HW.out)
  refine (cost_any w0 w1 w2 w3 w4 a0 a1 a2 a3 a4 a5 r0 r1 r2 r3 r4 r5 W).mono ?_
  rintro e x1 ⟨rfl, hb1⟩
  replace HG := Lib.hid (HG.out.keep hb1); have HB1 := Lib.hid hb1
  replace KM := KM.keep hb1; replace KP := KP.keep hb1; replace KR := KR.keep hb1; clear hb1
  have KMl := KM.lt; have KMc := KM.get; have KPl := KP.lt; have KPc := KP.get; have KRl := KR.lt; have KRc := KR.get
  go_wp2_with fail
  refine (refCostX_any w0 w1 w2 w3 w4 a0 a1 a2 a3 a4 a5 r0 r1 r2 r3 r4 r5 _).mono ?_
  rintro e x2 ⟨rfl, hb2⟩
  generalize costV w0 w1 w2 w3 w4 a0 a1 a2 a3 a4 a5 r0 r1 r2 r3 r4 r5 = v1
  generalize costE w0 w1 w2 w3 w4 a0 a1 a2 a3 a4 a5 r0 r1 r2 r3 r4 r5 = e1
  replace HG := Lib.hid (HG.out.keep hb2)
  clear KMl KMc KPl KPc KRl KRc; replace KM := KM.keep hb2; have KMl := KM.lt; have KMc := KM.get; replace KP := KP.keep hb2; have KPl := KP.lt; have KPc := KP.get; replace KR := KR.keep hb2; have KRl := KR.lt; have KRc := KR.get; have HB2 := Lib.hid hb2; clear hb2
  go_wp2_with fail
  refine (distance_any w0 w1 w2 w3 w4 a0 a1 a2 a3 a4 a5 b0 b1 b2 b3 b4 b5 _).mono ?_
  rintro e x3 ⟨rfl, hb3⟩
  replace HG := Lib.hid (HG.out.keep hb3)
  clear KMl KMc KPl KPc KRl KRc; replace KM := KM.keep hb3; have KMl := KM.lt; have KMc := KM.get; replace KP := KP.keep hb3; have KPl := KP.lt; have KPc := KP.get; replace KR := KR.keep hb3; have KRl := KR.lt; have KRc := KR.get; have HB3 := Lib.hid hb3; clear hb3
  go_wp2_with fail
  refine (refDistanceX_any w0 w1 w2 w3 w4 a0 a1 a2 a3 a4 a5 b0 b1 b2 b3 b4 b5 _).mono ?_
  rintro e x4 ⟨rfl, hb4⟩
  generalize distV w0 w1 w2 w3 w4 a0 a1 a2 a3 a4 a5 b0 b1 b2 b3 b4 b5 = v2
  generalize distE w0 w1 w2 w3 w4 a0 a1 a2 a3 a4 a5 b0 b1 b2 b3 b4 b5 = e2
  replace HG := Lib.hid (HG.out.keep hb4)
  clear KMl KMc KPl KPc KRl KRc; replace KM := KM.keep hb4; have KMl := KM.lt; have KMc := KM.get; replace KP := KP.keep hb4; have KPl := KP.lt; have KPc := KP.get; replace KR := KR.keep hb4; have KRl := KR.lt; have KRc := KR.get; have HB4 := Lib.hid hb4; clear hb4
  go_wp2_with fail
  refine (possibleX_any w0 w1 w2 w3 w4 F A n c gs a0 a1 a2 a3 a4 a5 r0 r1 r2 r3 r4 r5 _ HG.out hnc).mono ?_
  rintro e x5 ⟨rfl, hb5⟩
  replace HG := Lib.hid (HG.out.keep hb5)
  clear KMl KMc KPl KPc KRl KRc; replace KM := KM.keep hb5; have KMl := KM.lt; have KMc := KM.get; replace KP := KP.keep hb5; have KPl := KP.lt; have KPc := KP.get; replace KR := KR.keep hb5; have KRl := KR.lt; have KRc := KR.get; have HB5 := Lib.hid hb5; clear hb5
  go_wp2_with fail
  refine (refPossibleX_any w0 w1 w2 w3 w4 F A n c gs a0 a1 a2 a3 a4 a5 r0 r1 r2 r3 r4 r5 _ HG.out).mono ?_
  rintro e V ⟨rfl, hb6⟩
  generalize posV w0 w1 w2 w3 w4 F gs a0 a1 a2 a3 a4 a5 r0 r1 r2 r3 r4 r5 = v3
  generalize posE w0 w1 w2 w3 w4 F gs a0 a1 a2 a3 a4 a5 r0 r1 r2 r3 r4 r5 = e3
  clear KMl KMc KPl KPc KRl KRc; replace KM := KM.keep hb6; have KMl := KM.lt; have KMc := KM.get; replace KP := KP.keep hb6; have KPl := KP.lt; have KPc := KP.get; replace KR := KR.keep hb6; have KRl := KR.lt; have KRc := KR.get; have HB6 := Lib.hid hb6; clear hb6
  have HB := Lib.hid (up HW.out (up HB1.out (up HB2.out (up HB3.out (up HB4.out (up HB5.out HB6.out))))))
  clear HB1 HB2 HB3 HB4 HB5 HB6
  go_wp2
  go_loopw [19] (fun i wr => ∃ (k : Nat) (z : Gr), k ≤ 5 ∧ i = .int .i64 ((k : Int) - 1) ∧ wr = grow V z) (fun i _ => (4 - intOf i).toNat)
  case atStart => exact ⟨0, ⟨#[], V.drawn⟩, by omega, rfl, by simp [grow]⟩
  case round =>
    obtain ⟨k, z, hk, rfl, rfl⟩ := hrel
    generalize hU : grow V z = U
    have hbU : Below V.heap.size V U := by subst hU; exact grow_below V z
    clear hU
    clear KMl KMc KPl KPc KRl KRc; replace KM := KM.keep hbU; have KMl := KM.lt; have KMc := KM.get; replace KP := KP.keep hbU; have KPl := KP.lt; have KPc := KP.get; replace KR := KR.keep hbU; have KRl := KR.lt; have KRc := KR.get; have HU := Lib.hid hbU; clear hbU
    by_cases hlt : k < 5
    · have h1 : ((k : Int) - 1 ≤ 3) := by omega
      generalize hp : (k : Int) - 1 = p at *
      have Hp := Lib.hid hp
      clear hp
      have hwr : wrap64 (p + 1) = p + 1 := by have := Hp.out; unfold wrap64; omega
      go_wp2_with fail
      refine (meet_any w0 w1 w2 w3 w4 p a0 a1 a2 a3 a4 a5 b0 b1 b2 b3 b4 b5 U).mono ?_
      rintro e x6 ⟨rfl, hb6⟩
      clear KMl KMc KPl KPc KRl KRc; replace KM := KM.keep hb6; have KMl := KM.lt; have KMc := KM.get; replace KP := KP.keep hb6; have KPl := KP.lt; have KPc := KP.get; replace KR := KR.keep hb6; have KRl := KR.lt; have KRc := KR.get; have HB6 := Lib.hid hb6; clear hb6
      generalize hf : meetV w0 w1 w2 w3 w4 p a0 a1 a2 a3 a4 a5 b0 b1 b2 b3 b4 b5 = f
      have Hf := Lib.hid hf
      clear hf
      go_wp2_with fail
      generalize hV2 : World.alloc x6 _ = V2
      have hb7 : Below x6.heap.size x6 V2 := by subst hV2; exact up_alloc _ _
      have KX : Bk V2 x6.heap.size [.int .i64 (f 0), .int .i64 (f 1), .int .i64 (f 2), .int .i64 (f 3), .int .i64 (f 4), .int .i64 (f 5)] := ⟨by subst hV2; simp, by subst hV2; intro j; simp [go_sem]⟩
      clear hV2
      clear KMl KMc KPl KPc KRl KRc; replace KM := KM.keep hb7; have KMl := KM.lt; have KMc := KM.get; replace KP := KP.keep hb7; have KPl := KP.lt; have KPc := KP.get; replace KR := KR.keep hb7; have KRl := KR.lt; have KRc := KR.get; have HB7 := Lib.hid hb7; clear hb7
      refine (meetError_any w0 w1 w2 w3 w4 p a0 a1 a2 a3 a4 a5 b0 b1 b2 b3 b4 b5 _).mono ?_
      rintro e x8 ⟨rfl, hb8⟩
      replace KX := KX.keep hb8
      clear KMl KMc KPl KPc KRl KRc; replace KM := KM.keep hb8; have KMl := KM.lt; have KMc := KM.get; replace KP := KP.keep hb8; have KPl := KP.lt; have KPc := KP.get; replace KR := KR.keep hb8; have KRl := KR.lt; have KRc := KR.get; have HB8 := Lib.hid hb8; clear hb8
      have KXl := KX.lt
      have KXc := KX.get
      have HBB := Lib.hid (up HU.out (up HB6.out (up HB7.out HB8.out)))
      by_cases hE : meetE w0 w1 w2 w3 w4 p a0 a1 a2 a3 a4 a5 b0 b1 b2 b3 b4 b5 = 0
      · obtain ⟨g1, g2, g3, g4⟩ := meet_good hE f Hf.out
        obtain ⟨_, oa, ob⟩ := distE_ok (meetE_0 hE).1
        obtain ⟨⟨p0, q0⟩, ⟨p1, q1⟩, ⟨p2, q2⟩, ⟨p3, q3⟩, ⟨p4, q4⟩, ⟨p5, q5⟩⟩ := (okM_iff _ _ _ _ _ _).1 oa
        obtain ⟨⟨r0', s0⟩, ⟨r1', s1⟩, ⟨r2', s2⟩, ⟨r3', s3⟩, ⟨r4', s4⟩, ⟨r5', s5⟩⟩ := (okM_iff _ _ _ _ _ _).1 ob
        have G1 := Lib.hid g1
        have G2 := Lib.hid g2
        have G3 := Lib.hid g3
        have G4 := Lib.hid g4
        rw [hE]
        clear hE oa ob g1 g2 g3 g4
        go_wp2_with (go_at_call 31; refine (meets_yes w0 w1 w2 w3 w4 p a0 a1 a2 a3 a4 a5 b0 b1 b2 b3 b4 b5 _ _ _ _ _ _ _ p0 q0 p1 q1 p2 q2 p3 q3 p4 q4 p5 q5 r0' s0 r1' s1 r2' s2 r3' s3 r4' s4 r5' s5 G1.out G2.out G3.out G4.out).mono ?_; rintro e x9 ⟨rfl, hb9⟩; have HB9 := Lib.hid (up HBB.out hb9); clear hb9)
        obtain ⟨y, rfl⟩ := below_grow HB9.out
        refine ⟨⟨k + 1, y, by omega, congrArg (Value.int .i64) (by have := Hp.out; omega), rfl⟩, by have := Hp.out; simp only [intOf, hwr]; omega⟩
      · have hz := meetV_0 hE
        rw [Hf.out] at hz
        have z0 := hz 0; have z1 := hz 1; have z2 := hz 2; have z3 := hz 3; have z4 := hz 4; have z5 := hz 5
        rw [z0, z1, z2, z3, z4, z5] at KXc
        have hb : (meetE w0 w1 w2 w3 w4 p a0 a1 a2 a3 a4 a5 b0 b1 b2 b3 b4 b5 != 0) = true := by simpa using hE
        have hb2 : (meetE w0 w1 w2 w3 w4 p a0 a1 a2 a3 a4 a5 b0 b1 b2 b3 b4 b5 == 0) = false := by simpa using hE
        have hs0 := zero_same6
        clear hE hz z0 z1 z2 z3 z4 z5
        go_wp2
        obtain ⟨y, rfl⟩ := below_grow HBB.out
        refine ⟨⟨k + 1, y, by omega, congrArg (Value.int .i64) (by have := Hp.out; omega), rfl⟩, by have := Hp.out; simp only [intOf, hwr]; omega⟩
    · obtain rfl : k = 5 := by omega
      go_wp2_with (go_at_call 22; refine (sane_any _).mono ?_; rintro e x9 ⟨rfl, hb9⟩)
      go_ret
      exact ⟨rfl, up HB.out (up HU.out hb9)⟩

theorem markCosts_lifted (os : Os) (started : os.Started) (H : Type) (enc : TypeId × Value → H) :
    ReturnsInHanded {} Try.checked os 4 .any (Rows.markCostsSpec.pre6 enc Try.prog Try.f4 Rows.markCostsRow.domain false) (Rows.markCostsSpec.post enc Try.prog Try.f4 false true false false) := by
  refine law_lift started (by kernel_rfl) Try.func4 (ChangeSpec.witness6 (enc := enc) (C := Try.checked) false ⟨#[], #[.agg #[.int .i64 0, .int .i64 0, .int .i64 0, .int .i64 0, .int .i64 0, .int .i64 0, .slice none 0 0], .agg #[.int .i64 0, .int .i64 0, .int .i64 0, .int .i64 0, .int .i64 0, .int .i64 0, .int .i64 0, .int .i64 0, .int .i64 0, .int .i64 0, .int .i64 0, .int .i64 0], .agg #[.int .i64 0, .int .i64 0, .int .i64 0, .int .i64 0, .int .i64 0, .int .i64 0]], []⟩ 8 (by kernel_rfl) (by kernel_rfl) (by kernel_rfl) (by kernel_rfl))
    rfl rfl (fun ds h => ?_) ?_ ?_
  · match ds, h with
    | [a, b, c], _ => rfl
  · rw [Try.params4]; intro t ht; simp at ht; rcases ht with rfl | rfl | rfl <;> exact ⟨by kernel_rfl, of_decide_eq_true (by kernel_rfl)⟩
  · intro W base args ds p hval hA hz
    rw [Try.params4] at hA hval hz
    obtain ⟨v0, v1, v2, d0, d1, d2, p0, p1, p2, rfl, rfl, rfl, h0, h1, h2⟩ := trodAll_three hA
    obtain ⟨w0, w1, w2, w3, w4, F, A, n, c, gs, rfl, hg, hnc, _⟩ := open_marks (hval 0 26 v0 rfl rfl) h0 (hz 0 26 d0 rfl rfl)
    obtain ⟨x, y, rfl⟩ := open_pair (hval 1 42 v1 rfl rfl) h1
    obtain ⟨r, rfl⟩ := open_rd Try.underlying31 (by kernel_rfl) (hval 2 31 v2 rfl rfl) h2
    exact markCosts_any w0 w1 w2 w3 w4 F A n c gs x.r0 x.r1 x.r2 x.r3 x.r4 x.r5 y.r0 y.r1 y.r2 y.r3 y.r4 y.r5 r.r0 r.r1 r.r2 r.r3 r.r4 r.r5 W hg hnc

theorem markCosts_holds : Rows.MarkCostsSaid :=
  OpenClaim.holds_of_wide 4 Try.f4 rfl rfl rfl rfl rfl rfl rfl ⟨rfl, rfl, rfl, rfl, rfl⟩ rfl rfl rfl rfl rfl (by kernel_rfl) Try.func4 (by kernel_rfl)
    (of_decide_eq_true (by kernel_rfl)) (by unfold Func.isWrapper; first | (rw [if_pos (by decide +kernel)]; kernel_rfl) | (rw [if_neg (by decide +kernel)]; exact ⟨rfl, rfl⟩))
    (fun os started H enc _ => markCosts_lifted os started H enc)
#print axioms markCosts_holds
end Go.Proofs.Ytpahbpgkmebieaa
