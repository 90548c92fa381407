/- MarkOwners: whatever the mark book, the reading and the list of readings, the law returns true, and its arguments read as before. No condition. Own text. -/
import Derived.Test.YtpahbpgkmebieaaW26
import Derived.Test.YtpahbpgkmebieaaR8
import Derived.Test.YtpahbpgkmebieaaO3
namespace Go.Proofs.Ytpahbpgkmebieaa
open Go Go.ChangeShapes Go.WideShapes Go.RowKit Go.Deep
set_option maxHeartbeats 400000
set_option maxRecDepth 100000

set_option maxHeartbeats 2000000 in
theorem markOwners_any (w0 w1 w2 w3 w4 F : Int) (A : Option Addr) (n c : Nat) (gs : List Giv) (r : Rd) (B : Option Addr) (n' c' : Nat) (rs : List Rd) (w : World) (hg : Gs w A n gs) (hnc : n ≤ c) (hr : Rs w B n' rs) :
    Calls Try.prog 5 #[.agg #[.int .i64 w0, .int .i64 w1, .int .i64 w2, .int .i64 w3, .int .i64 w4, .int .i64 F, .slice A n c], .agg #[.int .i64 r.r0, .int .i64 r.r1, .int .i64 r.r2, .int .i64 r.r3, .int .i64 r.r4, .int .i64 r.r5], .slice B n' c'] w fun e w' => e = .returned (.bool true) ∧ Below w.heap.size w w' := by
  go_enter Try.func5, Try.ntmps5
  go_wp2_with fail
  generalize hW : (World.alloc _ _) = W
  have HW : Hid (Below w.heap.size w W) := Lib.hid (by subst hW; go_grown)
  have KM : Bk W w.heap.size [.int .i64 w0, .int .i64 w1, .int .i64 w2, .int .i64 w3, .int .i64 w4, .int .i64 F, .slice A n c] := ⟨by subst hW; simp only [World.size_alloc]; omega, by subst hW; intro j; simp [go_sem]⟩
  have KR : Bk W (w.heap.size + 1) [.int .i64 r.r0, .int .i64 r.r1, .int .i64 r.r2, .int .i64 r.r3, .int .i64 r.r4, .int .i64 r.r5] := ⟨by subst hW; simp only [World.size_alloc]; omega, by subst hW; intro j; simp [go_sem]⟩
  clear hW
  have HG := Lib.hid (hg.keep HW.out)
  have HR := Lib.hid (hr.keep HW.out)
  refine (owners_any w0 w1 w2 w3 w4 F A n c gs r W HG.out hnc).mono ?_
  rintro e x1 ⟨v1, rfl, hown, hb1⟩
  obtain ⟨A1, c1, rfl, _, hi1⟩ := Is.of_own hown
  have HI1 := Lib.hid hi1
  clear hown hi1
  have HB1 := Lib.hid hb1
  replace HG := Lib.hid (HG.out.keep hb1); replace HR := Lib.hid (HR.out.keep hb1); replace KM := KM.keep hb1; replace KR := KR.keep hb1; clear hb1
  have KMl := KM.lt; have KMc := KM.get; have KRl := KR.lt; have KRc := KR.get
  go_wp2_with fail
  refine (refOwners_any w0 w1 w2 w3 w4 F A n c gs r _ HG.out).mono ?_
  rintro e x2 ⟨v2, rfl, hown, hb2⟩
  obtain ⟨A2, c2, rfl, _, hi2⟩ := Is.of_own hown
  have HI2 := Lib.hid hi2
  clear hown hi2
  replace HG := Lib.hid (HG.out.keep hb2); replace HR := Lib.hid (HR.out.keep hb2); replace HI1 := Lib.hid (HI1.out.keep hb2)
  clear KMl KMc KRl KRc; replace KM := KM.keep hb2; have KMl := KM.lt; have KMc := KM.get; replace KR := KR.keep hb2; have KRl := KR.lt; have KRc := KR.get; have HB2 := Lib.hid hb2; clear hb2
  go_wp2_with fail
  refine (owner_any' w0 w1 w2 w3 w4 F A n c gs r _ HG.out hnc _ _ rfl rfl).mono ?_
  rintro e x3 ⟨rfl, hb3⟩
  replace HG := Lib.hid (HG.out.keep hb3); replace HR := Lib.hid (HR.out.keep hb3); replace HI1 := Lib.hid (HI1.out.keep hb3); replace HI2 := Lib.hid (HI2.out.keep hb3)
  clear KMl KMc KRl KRc; replace KM := KM.keep hb3; have KMl := KM.lt; have KMc := KM.get; replace KR := KR.keep hb3; have KRl := KR.lt; have KRc := KR.get; have HB3 := Lib.hid hb3; clear hb3
  go_wp2_with fail
  refine (refOwner_any' w0 w1 w2 w3 w4 F A n c gs r _ HG.out _ _ rfl rfl).mono ?_
  rintro e x4 ⟨rfl, hb4⟩
  replace HG := Lib.hid (HG.out.keep hb4); replace HR := Lib.hid (HR.out.keep hb4); replace HI1 := Lib.hid (HI1.out.keep hb4); replace HI2 := Lib.hid (HI2.out.keep hb4)
  clear KMl KMc KRl KRc; replace KM := KM.keep hb4; have KMl := KM.lt; have KMc := KM.get; replace KR := KR.keep hb4; have KRl := KR.lt; have KRc := KR.get; have HB4 := Lib.hid hb4; clear hb4
  generalize oneV (brE w0 w1 w2 w3 w4 F gs r) (own (brG w0 w1 w2 w3 w4 F gs r)) = v3
  generalize oneE (brE w0 w1 w2 w3 w4 F gs r) (own (brG w0 w1 w2 w3 w4 F gs r)) = e3
  go_wp2_with fail
  refine (of_any' w0 w1 w2 w3 w4 F A n c gs B n' c' rs _ HG.out hnc HR.out).mono ?_
  rintro e x5 ⟨v5, rfl, hown, hb5⟩
  obtain ⟨A5, c5, rfl, _, hi5⟩ := Is.of_own hown
  have HI5 := Lib.hid hi5
  clear hown hi5
  replace HG := Lib.hid (HG.out.keep hb5); replace HR := Lib.hid (HR.out.keep hb5); replace HI1 := Lib.hid (HI1.out.keep hb5); replace HI2 := Lib.hid (HI2.out.keep hb5)
  clear KMl KMc KRl KRc; replace KM := KM.keep hb5; have KMl := KM.lt; have KMc := KM.get; replace KR := KR.keep hb5; have KRl := KR.lt; have KRc := KR.get; have HB5 := Lib.hid hb5; clear hb5
  go_wp2_with fail
  refine (refOf_any' w0 w1 w2 w3 w4 F A n c gs B n' c' rs _ HG.out HR.out).mono ?_
  rintro e x6 ⟨v6, rfl, hown, hb6⟩
  obtain ⟨A6, c6, rfl, _, hi6⟩ := Is.of_own hown
  have HI6 := Lib.hid hi6
  clear hown hi6
  replace HI1 := Lib.hid (HI1.out.keep hb6); replace HI2 := Lib.hid (HI2.out.keep hb6); replace HI5 := Lib.hid (HI5.out.keep hb6)
  clear KMl KMc KRl KRc; replace KM := KM.keep hb6; have KMl := KM.lt; have KMc := KM.get; replace KR := KR.keep hb6; have KRl := KR.lt; have KRc := KR.get; have HB6 := Lib.hid hb6; clear hb6
  generalize (brG w0 w1 w2 w3 w4 F gs r).length = n1 at *
  generalize own (brG w0 w1 w2 w3 w4 F gs r) = l1 at *
  generalize brE w0 w1 w2 w3 w4 F gs r = e1 at *
  generalize (ofG w0 w1 w2 w3 w4 F gs rs).length = n5 at *
  generalize own (ofG w0 w1 w2 w3 w4 F gs rs) = l5 at *
  generalize ofE w0 w1 w2 w3 w4 F gs rs = e5 at *
  go_wp2_with fail
  refine (same_yes A1 A2 n1 c1 c2 l1 _ HI1.out HI2.out).mono ?_
  rintro e x7 ⟨rfl, hb7⟩
  replace HI5 := Lib.hid (HI5.out.keep hb7); replace HI6 := Lib.hid (HI6.out.keep hb7)
  have HB7 := Lib.hid hb7; clear hb7
  go_wp2_with fail
  refine (same_yes A5 A6 n5 c5 c6 l5 _ HI5.out HI6.out).mono ?_
  rintro e x8 ⟨rfl, hb8⟩
  have HB8 := Lib.hid hb8; clear hb8
  go_wp2_with fail
  refine (sane_any _).mono ?_
  rintro e x9 ⟨rfl, hb9⟩
  have HB9 := Lib.hid hb9; clear hb9
  go_wp2
  go_ret
  exact ⟨rfl, up HW.out (up HB1.out (up HB2.out (up HB3.out (up HB4.out (up HB5.out (up HB6.out (up HB7.out (up HB8.out HB9.out))))))))⟩

theorem markOwners_lifted (os : Os) (started : os.Started) (H : Type) (enc : TypeId × Value → H) :
    ReturnsInHanded {} Try.checked os 5 .any (Rows.markOwnersSpec.pre6 enc Try.prog Try.f5 Rows.markOwnersRow.domain false) (Rows.markOwnersSpec.post enc Try.prog Try.f5 false true false false) := by
  refine law_lift started (by kernel_rfl) Try.func5 (ChangeSpec.witness6 (enc := enc) (C := Try.checked) false ⟨#[], #[.agg #[.int .i64 0, .int .i64 0, .int .i64 0, .int .i64 0, .int .i64 0, .int .i64 0, .slice none 0 0], .agg #[.int .i64 0, .int .i64 0, .int .i64 0, .int .i64 0, .int .i64 0, .int .i64 0], .slice none 0 0], []⟩ 8 (by kernel_rfl) (by kernel_rfl) (by kernel_rfl) (by kernel_rfl))
    rfl rfl (fun ds h => ?_) ?_ ?_
  · match ds, h with
    | [a, b, c], _ => rfl
  · rw [Try.params5]; intro t ht; simp at ht; rcases ht with rfl | rfl | rfl <;> exact ⟨by kernel_rfl, of_decide_eq_true (by kernel_rfl)⟩
  · intro W base args ds p hval hA hz
    rw [Try.params5] at hA hval hz
    obtain ⟨v0, v1, v2, d0, d1, d2, p0, p1, p2, rfl, rfl, rfl, h0, h1, h2⟩ := trodAll_three hA
    obtain ⟨w0, w1, w2, w3, w4, F, A, n, c, gs, rfl, hg, hnc, _⟩ := open_marks (hval 0 26 v0 rfl rfl) h0 (hz 0 26 d0 rfl rfl)
    obtain ⟨r, rfl⟩ := open_rd Try.underlying31 (by kernel_rfl) (hval 1 31 v1 rfl rfl) h1
    obtain ⟨B, n', c', rs, rfl, hr, _, _⟩ := open_rds (hval 2 53 v2 rfl rfl) h2 (hz 2 53 d2 rfl rfl)
    exact markOwners_any w0 w1 w2 w3 w4 F A n c gs r B n' c' rs W hg hnc hr

theorem markOwners_holds : Rows.MarkOwnersSaid :=
  OpenClaim.holds_of_wide 5 Try.f5 rfl rfl rfl rfl rfl rfl rfl ⟨rfl, rfl, rfl, rfl, rfl⟩ rfl rfl rfl rfl rfl (by kernel_rfl) Try.func5 (by kernel_rfl)
    (of_decide_eq_true (by kernel_rfl)) (by unfold Func.isWrapper; first | (rw [if_pos (by decide +kernel)]; kernel_rfl) | (rw [if_neg (by decide +kernel)]; exact ⟨rfl, rfl⟩))
    (fun os started H enc _ => markOwners_lifted os started H enc)
#print axioms markOwners_holds
end Go.Proofs.Ytpahbpgkmebieaa
