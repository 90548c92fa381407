/- MarkApart: whatever the numbers, the law returns true, and its arguments read as before. No condition. Own text. -/
import Derived.Test.YtpahbpgkmebieaaW30
import Derived.Test.YtpahbpgkmebieaaR8
import Derived.Test.YtpahbpgkmebieaaO4
namespace Go.Proofs.Ytpahbpgkmebieaa
open Go Go.ChangeShapes Go.WideShapes Go.RowKit Go.Deep
set_option maxHeartbeats 400000
set_option maxRecDepth 100000

theorem tri_dec : ∀ (j : Fin 5) (a b : Fin 32), mis a.val b.val ≤ mis a.val (2 ^ j.val) + mis b.val (2 ^ j.val) := by decide +kernel
theorem tri {a b : Int} (ha : st a) (hb : st b) {j : Nat} (hj : j < 5) : mis a b ≤ mis a (2 ^ j) + mis b (2 ^ j) := by
  obtain ⟨f, rfl, _⟩ := st_fin ha
  obtain ⟨g, rfl, _⟩ := st_fin hb
  exact tri_dec ⟨j, hj⟩ f g
/-- The sharp reading that numbers describe. -/
def srK (l : List Int) (k : Nat) : Int := 2 ^ (atL l k % 5).toNat
theorem srK_rd (l : List Int) (k : Nat) : rdB (srK l k) = true := by
  have g0 := Int.emod_nonneg (atL l k) (by decide : (5 : Int) ≠ 0)
  have key : ∀ j : Fin 5, rdB (2 ^ j.val) = true := by decide +kernel
  exact key ⟨(atL l k % 5).toNat, by omega⟩
theorem sr_ok (l : List Int) : okR (srK l 0) (srK l 1) (srK l 2) (srK l 3) (srK l 4) (srK l 5) = true := by
  simp only [okR, srK_rd]; rfl
theorem dig_okM {r : Rd} (h : r.dig) : okM r.r0 r.r1 r.r2 r.r3 r.r4 r.r5 = true := (okM_iff _ _ _ _ _ _).2 h
theorem sr_tri {w0 w1 w2 w3 w4 a0 a1 a2 a3 a4 a5 b0 b1 b2 b3 b4 b5 : Int} (ow : okW w0 w1 w2 w3 w4 = true) (oa : okM a0 a1 a2 a3 a4 a5 = true) (ob : okM b0 b1 b2 b3 b4 b5 = true) (l : List Int) :
    wdist w0 w1 w2 w3 w4 a0 a1 a2 a3 a4 a5 b0 b1 b2 b3 b4 b5 ≤ wcost w0 w1 w2 w3 w4 a0 a1 a2 a3 a4 a5 (srK l 0) (srK l 1) (srK l 2) (srK l 3) (srK l 4) (srK l 5) + wcost w0 w1 w2 w3 w4 b0 b1 b2 b3 b4 b5 (srK l 0) (srK l 1) (srK l 2) (srK l 3) (srK l 4) (srK l 5) := by
  obtain ⟨⟨p0, q0⟩, ⟨p1, q1⟩, ⟨p2, q2⟩, ⟨p3, q3⟩, ⟨p4, q4⟩, ⟨p5, q5⟩⟩ := (okM_iff _ _ _ _ _ _).1 oa
  obtain ⟨⟨r0, s0⟩, ⟨r1, s1⟩, ⟨r2, s2⟩, ⟨r3, s3⟩, ⟨r4, s4⟩, ⟨r5, s5⟩⟩ := (okM_iff _ _ _ _ _ _).1 ob
  have hj : ∀ k : Nat, (atL l k % 5).toNat < 5 := fun k => by have := Int.emod_nonneg (atL l k) (by decide : (5 : Int) ≠ 0); omega
  have t0 := tri (worn_st ow p0 q0) (worn_st ow r0 s0) (hj 0)
  have t1 := tri (worn_st ow p1 q1) (worn_st ow r1 s1) (hj 1)
  have t2 := tri (worn_st ow p2 q2) (worn_st ow r2 s2) (hj 2)
  have t3 := tri (worn_st ow p3 q3) (worn_st ow r3 s3) (hj 3)
  have t4 := tri (worn_st ow p4 q4) (worn_st ow r4 s4) (hj 4)
  have t5 := tri (worn_st ow p5 q5) (worn_st ow r5 s5) (hj 5)
  show dist6 _ _ _ _ _ _ _ _ _ _ _ _ ≤ dist6 _ _ _ _ _ _ _ _ _ _ _ _ + dist6 _ _ _ _ _ _ _ _ _ _ _ _
  unfold dist6 srK
  omega

theorem costE_0 {w0 w1 w2 w3 w4 a0 a1 a2 a3 a4 a5 r0 r1 r2 r3 r4 r5 : Int} (h1 : okW w0 w1 w2 w3 w4 = true) (h2 : okM a0 a1 a2 a3 a4 a5 = true) (h3 : okR r0 r1 r2 r3 r4 r5 = true) : costE w0 w1 w2 w3 w4 a0 a1 a2 a3 a4 a5 r0 r1 r2 r3 r4 r5 = 0 ∧ costV w0 w1 w2 w3 w4 a0 a1 a2 a3 a4 a5 r0 r1 r2 r3 r4 r5 = wcost w0 w1 w2 w3 w4 a0 a1 a2 a3 a4 a5 r0 r1 r2 r3 r4 r5 := by
  have : costE w0 w1 w2 w3 w4 a0 a1 a2 a3 a4 a5 r0 r1 r2 r3 r4 r5 = 0 := firstE3_4 h1 h2 h3
  exact ⟨this, by unfold costV; rw [if_pos this]⟩
theorem distE_0 {w0 w1 w2 w3 w4 a0 a1 a2 a3 a4 a5 r0 r1 r2 r3 r4 r5 : Int} (h1 : okW w0 w1 w2 w3 w4 = true) (h2 : okM a0 a1 a2 a3 a4 a5 = true) (h3 : okM r0 r1 r2 r3 r4 r5 = true) : distE w0 w1 w2 w3 w4 a0 a1 a2 a3 a4 a5 r0 r1 r2 r3 r4 r5 = 0 ∧ distV w0 w1 w2 w3 w4 a0 a1 a2 a3 a4 a5 r0 r1 r2 r3 r4 r5 = wdist w0 w1 w2 w3 w4 a0 a1 a2 a3 a4 a5 r0 r1 r2 r3 r4 r5 := by
  have : distE w0 w1 w2 w3 w4 a0 a1 a2 a3 a4 a5 r0 r1 r2 r3 r4 r5 = 0 := firstE3_4 h1 h2 h3
  exact ⟨this, by unfold distV; rw [if_pos this]⟩

set_option maxHeartbeats 2000000 in
theorem markApart_any (A : Option Addr) (n c : Nat) (l : List Int) (n0 n1 : Int) (B : Option Addr) (n' c' : Nat) (l' : List Int) (w : World) (hl : Is w A n l) (hn : n ≤ 4611686018427387904) (hs : Is w B n' l') (hn' : n' ≤ 4611686018427387904) :
    Calls Try.prog 8 #[.slice A n c, .agg #[.int .i64 n0, .int .i64 n1], .slice B n' c'] w fun e w' => e = .returned (.bool true) ∧ Below w.heap.size w w' := by
  have g0 := Int.emod_nonneg n0 (by decide : (15625 : Int) ≠ 0)
  have g1 := Int.emod_lt_of_pos n0 (by decide : (0 : Int) < 15625)
  have k0 := Int.emod_nonneg n1 (by decide : (15625 : Int) ≠ 0)
  have k1 := Int.emod_lt_of_pos n1 (by decide : (0 : Int) < 15625)
  obtain ⟨q0, hq0⟩ := Int.eq_ofNat_of_zero_le g0
  obtain ⟨q1, hq1⟩ := Int.eq_ofNat_of_zero_le k0
  have hq0' : q0 < 15625 := by omega
  have hq1' : q1 < 15625 := by omega
  have Hq0 := Lib.hid hq0
  have Hq1 := Lib.hid hq1
  clear hq0 hq1 g0 g1 k0 k1
  go_enter Try.func8, Try.ntmps8
  go_wp2_with fail
  generalize hW : (World.alloc _ _) = W
  have HW : Hid (Below w.heap.size w W) := Lib.hid (by subst hW; go_grown)
  have KN : Bk W w.heap.size [.int .i64 n0, .int .i64 n1] := ⟨by subst hW; simp, by subst hW; intro j; simp [go_sem]⟩
  clear hW
  have HL := Lib.hid (hl.keep HW.out)
  have HS := Lib.hid (hs.keep HW.out)
  refine (wears_any A n c l W HL.out hn).mono ?_
  rintro e x1 ⟨rfl, hb1⟩
  have Ow := Lib.hid (wears_ok l)
  generalize wrN l 0 = w0 at *
  generalize wrN l 1 = w1 at *
  generalize wrN l 2 = w2 at *
  generalize wrN l 3 = w3 at *
  generalize wrN l 4 = w4 at *
  have HB1 := Lib.hid hb1
  replace HS := Lib.hid (HS.out.keep hb1)
  replace KN := KN.keep hb1; clear hb1
  have KNl := KN.lt; have KNc := KN.get
  go_wp2_with fail
  generalize hV : World.alloc x1 _ = V
  have hb2 : Below x1.heap.size x1 V := by subst hV; exact up_alloc _ _
  have KW : Bk V x1.heap.size [Value.int .i64 w0, Value.int .i64 w1, Value.int .i64 w2, Value.int .i64 w3, Value.int .i64 w4] := ⟨by subst hV; simp, by subst hV; intro j; simp [go_sem]⟩
  clear hV
  replace HS := Lib.hid (HS.out.keep hb2)
  clear KNl KNc; replace KN := KN.keep hb2; have KNl := KN.lt; have KNc := KN.get; have HB2 := Lib.hid hb2; clear hb2
  refine (mod_any n0 15625 V (by omega) (by omega)).mono ?_
  rintro e x2 ⟨rfl, rfl⟩
  rw [Hq0.out]
  have KWl := KW.lt; have KWc := KW.get
  go_wp2_with fail
  refine (numbered_any q0 _ hq0').mono ?_
  rintro e x3 ⟨rfl, hb3⟩
  have Da := Lib.hid (dig_okM (markNo_dig q0))
  generalize markNo q0 = a at *
  obtain ⟨a0, a1, a2, a3, a4, a5⟩ := a
  dsimp only at Da ⊢
  replace HS := Lib.hid (HS.out.keep hb3)
  clear KNl KNc KWl KWc; replace KN := KN.keep hb3; have KNl := KN.lt; have KNc := KN.get; replace KW := KW.keep hb3; have KWl := KW.lt; have KWc := KW.get; have HB3 := Lib.hid hb3; clear hb3
  go_wp2_with fail
  generalize hV : World.alloc x3 _ = V2
  have hb4 : Below x3.heap.size x3 V2 := by subst hV; exact up_alloc _ _
  have KA : Bk V2 x3.heap.size [Value.int .i64 a0, Value.int .i64 a1, Value.int .i64 a2, Value.int .i64 a3, Value.int .i64 a4, Value.int .i64 a5] := ⟨by subst hV; simp, by subst hV; intro j; simp [go_sem]⟩
  clear hV
  replace HS := Lib.hid (HS.out.keep hb4)
  clear KNl KNc KWl KWc; replace KN := KN.keep hb4; have KNl := KN.lt; have KNc := KN.get; replace KW := KW.keep hb4; have KWl := KW.lt; have KWc := KW.get; have HB4 := Lib.hid hb4; clear hb4
  refine (mod_any n1 15625 V2 (by omega) (by omega)).mono ?_
  rintro e x4 ⟨rfl, rfl⟩
  rw [Hq1.out]
  have KAl := KA.lt; have KAc := KA.get
  go_wp2_with fail
  refine (numbered_any q1 _ hq1').mono ?_
  rintro e x5 ⟨rfl, hb5⟩
  have Db := Lib.hid (dig_okM (markNo_dig q1))
  generalize markNo q1 = b at *
  obtain ⟨b0, b1, b2, b3, b4, b5⟩ := b
  dsimp only at Db ⊢
  replace HS := Lib.hid (HS.out.keep hb5)
  clear KNl KNc KWl KWc KAl KAc; replace KN := KN.keep hb5; have KNl := KN.lt; have KNc := KN.get; replace KW := KW.keep hb5; have KWl := KW.lt; have KWc := KW.get; replace KA := KA.keep hb5; have KAl := KA.lt; have KAc := KA.get; have HB5 := Lib.hid hb5; clear hb5
  go_wp2_with fail
  generalize hV : World.alloc x5 _ = V3
  have hb6 : Below x5.heap.size x5 V3 := by subst hV; exact up_alloc _ _
  have KB : Bk V3 x5.heap.size [Value.int .i64 b0, Value.int .i64 b1, Value.int .i64 b2, Value.int .i64 b3, Value.int .i64 b4, Value.int .i64 b5] := ⟨by subst hV; simp, by subst hV; intro j; simp [go_sem]⟩
  clear hV
  replace HS := Lib.hid (HS.out.keep hb6)
  clear KNl KNc KWl KWc KAl KAc; replace KN := KN.keep hb6; have KNl := KN.lt; have KNc := KN.get; replace KW := KW.keep hb6; have KWl := KW.lt; have KWc := KW.get; replace KA := KA.keep hb6; have KAl := KA.lt; have KAc := KA.get; have HB6 := Lib.hid hb6; clear hb6
  clear KNl KNc KN
  have KBl := KB.lt; have KBc := KB.get
  refine (distance_any w0 w1 w2 w3 w4 a0 a1 a2 a3 a4 a5 b0 b1 b2 b3 b4 b5 V3).mono ?_
  rintro e x7 ⟨rfl, hb7⟩
  replace HS := Lib.hid (HS.out.keep hb7)
  clear KWl KWc KAl KAc KBl KBc; replace KW := KW.keep hb7; have KWl := KW.lt; have KWc := KW.get; replace KA := KA.keep hb7; have KAl := KA.lt; have KAc := KA.get; replace KB := KB.keep hb7; have KBl := KB.lt; have KBc := KB.get; have HB7 := Lib.hid hb7; clear hb7
  have HD := Lib.hid (distE_0 Ow.out Da.out Db.out)
  rw [HD.out.1, HD.out.2]
  have HT := Lib.hid (sr_tri Ow.out Da.out Db.out l')
  have HBA := Lib.hid (up HW.out (up HB1.out (up HB2.out (up HB3.out (up HB4.out (up HB5.out (up HB6.out HB7.out)))))))
  clear HB1 HB2 HB3 HB4 HB5 HB6 HB7
  have hd := wdist_bd w0 w1 w2 w3 w4 a0 a1 a2 a3 a4 a5 b0 b1 b2 b3 b4 b5
  obtain ⟨hd0, hd6⟩ := hd
  have HD2 : Hid (∀ D, wdist w0 w1 w2 w3 w4 a0 a1 a2 a3 a4 a5 b0 b1 b2 b3 b4 b5 = D → ∀ p, meetE w0 w1 w2 w3 w4 p a0 a1 a2 a3 a4 a5 b0 b1 b2 b3 b4 b5 = if 0 ≤ p ∧ p ≤ 2 then (if 2 * p < D then 14 else 0) else 1) := Lib.hid (fun D h p => by unfold meetE; rw [if_pos HD.out.1, h])
  generalize hDD : wdist w0 w1 w2 w3 w4 a0 a1 a2 a3 a4 a5 b0 b1 b2 b3 b4 b5 = D at *
  replace HD2 := Lib.hid (HD2.out D rfl)
  clear hDD HD
  go_wp2
  generalize hV : World.alloc x7 _ = V4
  have Hbx : Hid (FBox V4 x7.heap.size 6 (srK l') 0) := Lib.hid (by
    subst hV
    exact ⟨by simp, fun j hj => by
      rw [World.cell?_alloc_at _ _ _ _ rfl, if_neg (by omega)]
      rcases (by omega : j = 0 ∨ j = 1 ∨ j = 2 ∨ j = 3 ∨ j = 4 ∨ j = 5) with rfl | rfl | rfl | rfl | rfl | rfl <;> rfl, fun j => World.frozen?_alloc_at _ _ _ _ rfl⟩)
  have HV0 : Hid (Below x7.heap.size x7 V4) := Lib.hid (by subst hV; exact up_alloc _ _)
  clear hV
  clear KWl KWc KAl KAc KBl KBc
  go_loopw [13] (fun i wr => ∃ (k : Nat), k ≤ 6 ∧ i = .int .i64 k ∧ Below x7.heap.size x7 wr ∧ FBox wr x7.heap.size 6 (srK l') k) (fun i _ => 6 - (intOf i).toNat)
  case atStart => exact ⟨0, by omega, rfl, HV0.out, Hbx.out⟩
  case round =>
    obtain ⟨k, hk, rfl, hbw, hbx⟩ := hrel
    have Hbw := Lib.hid hbw
    have Hbx2 := Lib.hid hbx
    clear hbw hbx
    by_cases hlt : k < 6
    · have f1 := Hbx2.out.cell k hlt
      have f2 := Hbx2.out.fro k
      have f3 := Hbx2.out.lt
      have m0 := Int.emod_nonneg (atL l' k) (by decide : (5 : Int) ≠ 0)
      have m1 := Int.emod_lt_of_pos (atL l' k) (by decide : (0 : Int) < 5)
      have Hval : Hid (srK l' k = 2 ^ (atL l' k % 5).toNat) := Lib.hid rfl
      generalize hq : atL l' k % 5 = q at *
      have Hq := Lib.hid hq
      clear hq
      have hp2 := p2_wrap q m0 m1
      go_wp2_with (first
        | (go_at_call 59; refine (at_any _ _ _ l' k _ (HS.out.keep Hbw.out) hn').mono ?_; rintro e x9 ⟨rfl, rfl⟩)
        | (go_at_call 58; refine (mod_any _ _ _ (by omega) (by omega)).mono ?_; rintro e x9 ⟨rfl, rfl⟩; rw [Hq.out]))
      refine ⟨⟨k + 1, by omega, by go_num, Hbw.out.setCell (Nat.le_refl _) _, ?_⟩, by simp [intOf]; omega⟩
      exact Hbx2.out.put hlt _ Hval.out (fun _ _ => rfl)
    · obtain rfl : k = 6 := by omega
      have hlt6 := Hbx2.out.lt
      have d0 := Hbx2.out.cell 0 (by omega); have d1 := Hbx2.out.cell 1 (by omega); have d2 := Hbx2.out.cell 2 (by omega); have d3 := Hbx2.out.cell 3 (by omega); have d4 := Hbx2.out.cell 4 (by omega); have d5 := Hbx2.out.cell 5 (by omega)
      simp only [show (0 : Nat) < 6 by decide, show (1 : Nat) < 6 by decide, show (2 : Nat) < 6 by decide, show (3 : Nat) < 6 by decide, show (4 : Nat) < 6 by decide, show (5 : Nat) < 6 by decide, if_true] at d0 d1 d2 d3 d4 d5
      have Or := Lib.hid (sr_ok l')
      have HbO := Lib.hid Hbw.out
      replace KW := KW.keep Hbw.out; replace KA := KA.keep Hbw.out; replace KB := KB.keep Hbw.out
      have KWl := KW.lt; have KWc := KW.get; have KAl := KA.lt; have KAc := KA.get; have KBl := KB.lt; have KBc := KB.get
      generalize srK l' 0 = r0 at *
      generalize srK l' 1 = r1 at *
      generalize srK l' 2 = r2 at *
      generalize srK l' 3 = r3 at *
      generalize srK l' 4 = r4 at *
      generalize srK l' 5 = r5 at *
      go_wp2_with fail
      refine (cost_any w0 w1 w2 w3 w4 a0 a1 a2 a3 a4 a5 r0 r1 r2 r3 r4 r5 wr).mono ?_
      rintro e x10 ⟨rfl, hb10⟩
      have D0 := (hb10.cell (p := ⟨x7.heap.size, 0, none⟩) hlt6).trans d0
      have D1 := (hb10.cell (p := ⟨x7.heap.size, 1, none⟩) hlt6).trans d1
      have D2 := (hb10.cell (p := ⟨x7.heap.size, 2, none⟩) hlt6).trans d2
      have D3 := (hb10.cell (p := ⟨x7.heap.size, 3, none⟩) hlt6).trans d3
      have D4 := (hb10.cell (p := ⟨x7.heap.size, 4, none⟩) hlt6).trans d4
      have D5 := (hb10.cell (p := ⟨x7.heap.size, 5, none⟩) hlt6).trans d5
      clear d0 d1 d2 d3 d4 d5
      have CA := Lib.hid (costE_0 Ow.out Da.out Or.out)
      rw [CA.out.1, CA.out.2]
      clear KWl KWc KAl KAc KBl KBc; replace KW := KW.keep hb10; have KWl := KW.lt; have KWc := KW.get; replace KA := KA.keep hb10; have KAl := KA.lt; have KAc := KA.get; replace KB := KB.keep hb10; have KBl := KB.lt; have KBc := KB.get; have HB10 := Lib.hid hb10; clear hb10
      go_wp2_with fail
      refine (cost_any w0 w1 w2 w3 w4 b0 b1 b2 b3 b4 b5 r0 r1 r2 r3 r4 r5 x10).mono ?_
      rintro e x11 ⟨rfl, hb11⟩
      have CB := Lib.hid (costE_0 Ow.out Db.out Or.out)
      rw [CB.out.1, CB.out.2]
      clear KWl KWc KAl KAc KBl KBc; replace KW := KW.keep hb11; have KWl := KW.lt; have KWc := KW.get; replace KA := KA.keep hb11; have KAl := KA.lt; have KAc := KA.get; replace KB := KB.keep hb11; have KBl := KB.lt; have KBc := KB.get; have HB11 := Lib.hid hb11; clear hb11
      clear D0 D1 D2 D3 D4 D5 CA CB
      have hx := wcost_bd w0 w1 w2 w3 w4 a0 a1 a2 a3 a4 a5 r0 r1 r2 r3 r4 r5
      have hy := wcost_bd w0 w1 w2 w3 w4 b0 b1 b2 b3 b4 b5 r0 r1 r2 r3 r4 r5
      obtain ⟨hx0, hx6⟩ := hx
      obtain ⟨hy0, hy6⟩ := hy
      generalize wcost w0 w1 w2 w3 w4 a0 a1 a2 a3 a4 a5 r0 r1 r2 r3 r4 r5 = X at *
      generalize wcost w0 w1 w2 w3 w4 b0 b1 b2 b3 b4 b5 r0 r1 r2 r3 r4 r5 = Y at *
      have hT := HT.out
      have hTd : decide (X + Y < D) = false := by simpa using hT
      go_wp2
      have HBL := Lib.hid (up HBA.out (up HbO.out (up HB10.out HB11.out)))
      clear hTd
      go_loopw [18] (fun i wr => ∃ (k : Nat) (z : Gr), k ≤ 3 ∧ i = .int .i64 k ∧ wr = grow x11 z) (fun i _ => 3 - (intOf i).toNat)
      case atStart => exact ⟨0, ⟨#[], x11.drawn⟩, by omega, rfl, by simp [grow]⟩
      case round =>
        obtain ⟨k, z, hk, rfl, rfl⟩ := hrel
        generalize hU : grow x11 z = U
        have hbU : Below x11.heap.size x11 U := by subst hU; exact grow_below x11 z
        clear hU
        clear KWl KWc KAl KAc KBl KBc; replace KW := KW.keep hbU; have KWl := KW.lt; have KWc := KW.get; replace KA := KA.keep hbU; have KAl := KA.lt; have KAc := KA.get; replace KB := KB.keep hbU; have KBl := KB.lt; have KBc := KB.get; have HU := Lib.hid hbU; clear hbU
        by_cases hlt : k < 3
        · go_wp2_with fail
          refine (meet_any w0 w1 w2 w3 w4 k a0 a1 a2 a3 a4 a5 b0 b1 b2 b3 b4 b5 U).mono ?_
          rintro e x12 ⟨rfl, hb12⟩
          clear KWl KWc KAl KAc KBl KBc; replace KW := KW.keep hb12; have KWl := KW.lt; have KWc := KW.get; replace KA := KA.keep hb12; have KAl := KA.lt; have KAc := KA.get; replace KB := KB.keep hb12; have KBl := KB.lt; have KBc := KB.get; have HB12 := Lib.hid hb12; clear hb12
          generalize hf : meetV w0 w1 w2 w3 w4 k a0 a1 a2 a3 a4 a5 b0 b1 b2 b3 b4 b5 = f
          have Hf := Lib.hid hf
          clear hf
          by_cases hD : 2 * (k : Int) < D
          · have hE : meetE w0 w1 w2 w3 w4 k a0 a1 a2 a3 a4 a5 b0 b1 b2 b3 b4 b5 = 14 := by rw [HD2.out, if_pos (by omega), if_pos hD]
            rw [hE]
            clear hE
            go_wp2
            all_goals first
              | (obtain ⟨y, hy⟩ := below_grow (up HU.out (up HB12.out (up_alloc _ _))); exact ⟨⟨k + 1, y, by omega, by go_num, hy⟩, by simp [intOf]; omega⟩)
              | (exfalso; omega)
          · have hE : meetE w0 w1 w2 w3 w4 k a0 a1 a2 a3 a4 a5 b0 b1 b2 b3 b4 b5 = 0 := by rw [HD2.out, if_pos (by omega), if_neg hD]
            obtain ⟨j1, _, j3, j4⟩ := meet_good hE f Hf.out
            have CA := Lib.hid (costE_0 Ow.out Da.out j1)
            have CB := Lib.hid (costE_0 Ow.out Db.out j1)
            rw [hE]
            clear hE j1
            have hDd : decide (D ≤ 2 * (k : Int)) = true := by simp; omega
            by_cases hX : X ≤ (k : Int) <;> by_cases hY : Y ≤ (k : Int)
            all_goals
              go_wp2_with fail
              generalize hV5 : World.alloc x12 _ = V5
              have hb13 : Below x12.heap.size x12 V5 := by subst hV5; exact up_alloc _ _
              have KX : Bk V5 x12.heap.size [.int .i64 (f 0), .int .i64 (f 1), .int .i64 (f 2), .int .i64 (f 3), .int .i64 (f 4), .int .i64 (f 5)] := ⟨by subst hV5; simp, by subst hV5; intro j; simp [go_sem]⟩
              clear hV5
              clear KWl KWc KAl KAc KBl KBc; replace KW := KW.keep hb13; have KWl := KW.lt; have KWc := KW.get; replace KA := KA.keep hb13; have KAl := KA.lt; have KAc := KA.get; replace KB := KB.keep hb13; have KBl := KB.lt; have KBc := KB.get; have HB13 := Lib.hid hb13; clear hb13
              refine (cost_any w0 w1 w2 w3 w4 a0 a1 a2 a3 a4 a5 _ _ _ _ _ _ V5).mono ?_
              rintro e x14 ⟨rfl, hb14⟩
              rw [CA.out.1, CA.out.2]
              replace KX := KX.keep hb14
              have KXl := KX.lt; have KXc := KX.get
              clear KWl KWc KAl KAc KBl KBc; replace KW := KW.keep hb14; have KWl := KW.lt; have KWc := KW.get; replace KA := KA.keep hb14; have KAl := KA.lt; have KAc := KA.get; replace KB := KB.keep hb14; have KBl := KB.lt; have KBc := KB.get; have HB14 := Lib.hid hb14; clear hb14
              go_wp2_with fail
              refine (cost_any w0 w1 w2 w3 w4 b0 b1 b2 b3 b4 b5 _ _ _ _ _ _ _).mono ?_
              rintro e x15 ⟨rfl, hb15⟩
              rw [CB.out.1, CB.out.2]
              have Hfin := Lib.hid (up HU.out (up HB12.out (up HB13.out (up HB14.out hb15))))
              clear hb15
              go_wp2
              obtain ⟨y, hy⟩ := below_grow Hfin.out
              exact ⟨⟨k + 1, y, by omega, by go_num, hy⟩, by simp [intOf]; omega⟩
        · obtain rfl : k = 3 := by omega
          go_wp2_with (go_at_call 22; refine (sane_any _).mono ?_; rintro e x9 ⟨rfl, hb9⟩)
          go_ret
          exact ⟨rfl, up HBL.out (up HU.out hb9)⟩

theorem reach_n {n : Nat} (h : n * 8 ≤ reachBytes) : n ≤ 4611686018427387904 := by have := reachBytes_lt; omega

theorem markApart_lifted (os : Os) (started : os.Started) (H : Type) (enc : TypeId × Value → H) :
    ReturnsInHanded {} Try.checked os 8 .any (Rows.markApartSpec.pre6 enc Try.prog Try.f8 Rows.markApartRow.domain false) (Rows.markApartSpec.post enc Try.prog Try.f8 false true false false) := by
  refine law_lift started (by kernel_rfl) Try.func8 (ChangeSpec.witness6 (enc := enc) (C := Try.checked) false ⟨#[], #[.slice none 0 0, .agg #[.int .i64 0, .int .i64 0], .slice none 0 0], []⟩ 8 (by kernel_rfl) (by kernel_rfl) (by kernel_rfl) (by kernel_rfl))
    rfl rfl (fun ds h => ?_) ?_ ?_
  · match ds, h with
    | [a, b, c], _ => rfl
  · rw [Try.params8]; intro t ht; simp at ht; rcases ht with rfl | rfl | rfl <;> exact ⟨by kernel_rfl, of_decide_eq_true (by kernel_rfl)⟩
  · intro W base args ds p hval hA hz
    rw [Try.params8] at hA hval hz
    obtain ⟨v0, v1, v2, d0, d1, d2, p0, p1, p2, rfl, rfl, rfl, h0, h1, h2⟩ := trodAll_three hA
    obtain ⟨A, n, c, l, rfl, hl, _, hn, _⟩ := open_is (hval 0 54 v0 rfl rfl) h0 (hz 0 54 d0 rfl rfl)
    obtain ⟨x, y, rfl, _, _⟩ := open_two (hval 1 74 v1 rfl rfl) h1
    obtain ⟨B, n', c', l', rfl, hl', _, hn', _⟩ := open_is (hval 2 54 v2 rfl rfl) h2 (hz 2 54 d2 rfl rfl)
    exact markApart_any A n c l x y B n' c' l' W hl (reach_n hn) hl' (reach_n hn')

theorem markApart_holds : Rows.MarkApartSaid :=
  OpenClaim.holds_of_wide 8 Try.f8 rfl rfl rfl rfl rfl rfl rfl ⟨rfl, rfl, rfl, rfl, rfl⟩ rfl rfl rfl rfl rfl (by kernel_rfl) Try.func8 (by kernel_rfl)
    (of_decide_eq_true (by kernel_rfl)) (by unfold Func.isWrapper; first | (rw [if_pos (by decide +kernel)]; kernel_rfl) | (rw [if_neg (by decide +kernel)]; exact ⟨rfl, rfl⟩))
    (fun os started H enc _ => markApart_lifted os started H enc)
#print axioms markApart_holds
end Go.Proofs.Ytpahbpgkmebieaa
