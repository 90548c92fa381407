/- MarkAright: whatever the numbers, the law returns true, and its arguments read as before; no condition. Own text. -/
import Derived.Test.YtbieopkohkomoaaJj
import Derived.Deep.Cut
set_option linter.unusedVariables false
set_option linter.unusedSimpArgs false
set_option linter.unusedSectionVars false
namespace Go.Proofs.Ytbieopkohkomoaa
open Go Go.ChangeShapes Go.WideShapes Go.RowKit Go.Deep
set_option maxHeartbeats 400000
set_option maxRecDepth 100000

theorem rs2 (w : World) (r s : Rd) (t : TypeId) (B : Nat) (hB : B = w.heap.size) : Rs (w.alloc (.cells #[.int .i64 r.r0, .int .i64 r.r1, .int .i64 r.r2, .int .i64 r.r3, .int .i64 r.r4, .int .i64 r.r5, .int .i64 s.r0, .int .i64 s.r1, .int .i64 s.r2, .int .i64 s.r3, .int .i64 s.r4, .int .i64 s.r5] t)) (some ⟨B, 0, none⟩) 2 [r, s] := by
  subst hB
  exact ⟨rfl, by decide, fun k hk => by
    rcases (by simp at hk; omega : k = 0 ∨ k = 1) with rfl | rfl
    · exact ⟨w.heap.size, 0, rfl, by simp, by constructor <;> simp [go_sem]⟩
    · exact ⟨w.heap.size, 0, rfl, by simp, by constructor <;> simp [go_sem]⟩⟩

set_option maxHeartbeats 1000000 in
theorem markAright_any (A : Option Addr) (n c : Nat) (l : List Int) (which : Int) (B : Option Addr) (n' c' : Nat) (p : List Int) (w : World) (hl : Is w A n l) (hn : n ≤ 4611686018427387904) (hp : Is w B n' p) (hn' : n' ≤ 4611686018427387904) :
    Calls Try.prog 9 #[.slice A n c, .int .i64 which, .slice B n' c'] w fun e w' => e = .returned (.bool true) ∧ Below w.heap.size w w' := by
  go_enter Try.func9, Try.ntmps9
  go_wp2_with fail
  refine (made_any A n c l w hl hn).mono ?_
  rintro e x0 ⟨C, q, cq, rfl, hqc, hgs, hb0⟩
  have HP := Lib.hid (hp.keep hb0)
  have HB0 := Lib.hid hb0
  have HGs := Lib.hid hgs
  have Hok := Lib.hid (made_ok l)
  have Hw := Lib.hid (wears_ok l)
  have hFb := madeF_bd l
  clear hp hl hb0 hgs
  generalize wrN l 0 = w0 at *
  generalize wrN l 1 = w1 at *
  generalize wrN l 2 = w2 at *
  generalize wrN l 3 = w3 at *
  generalize wrN l 4 = w4 at *
  generalize madeF l = F at *
  generalize madeG l = gs at *
  have hq9 : q ≤ 9 := by have := HGs.out.len; have := Hok.out.2.1; omega
  go_upto_region 2 with (fail)
  generalize hV : World.alloc x0 _ = V
  have hb : Below x0.heap.size x0 V := by subst hV; exact up_alloc _ _
  have KM : Bk V x0.heap.size [.int .i64 w0, .int .i64 w1, .int .i64 w2, .int .i64 w3, .int .i64 w4, .int .i64 F, .slice C q cq] := ⟨by subst hV; simp, by subst hV; intro j; simp [go_sem]⟩
  clear hV
  replace HP := Lib.hid (HP.out.keep hb); replace HGs := Lib.hid (HGs.out.keep hb)
  have HB1 := Lib.hid hb
  clear hb
  by_cases hq0 : q = 0
  · subst hq0
    have KMl := KM.lt; have KMc := KM.get
    go_wp2_with fail
    refine (sane_any _).mono ?_
    rintro e x1 ⟨rfl, hb1⟩
    have HBs := Lib.hid hb1
    clear hb1
    go_wp2
    go_ret
    exact ⟨rfl, up HB0.out (up HB1.out HBs.out)⟩
  have hqb : ((q : Int) == 0) = false := by rw [beq_eq_false_iff_ne]; omega
  have hqn : (q == 0) = false := by simpa using hq0
  have g0 := Int.emod_nonneg which (by omega : (q : Int) ≠ 0)
  have g1 := Int.emod_lt_of_pos which (by omega : (0 : Int) < q)
  obtain ⟨i, hi⟩ := Int.eq_ofNat_of_zero_le g0
  have hiq : i < q := by omega
  have hi1 : (i : Int) < (q : Int) := by omega
  have hi0 : (0 : Int) ≤ (i : Int) := by omega
  have hil : i < gs.length := by rw [← HGs.out.len]; exact hiq
  have HI := Lib.hid hi
  have hqp : (0 : Int) < q := by omega
  have hqm : (q : Int) ≤ 4611686018427387904 := by omega
  have HMod : Hid (∀ X : World, Calls Try.prog 58 #[.int .i64 which, .int .i64 q] X fun e w' => e = .returned (.int .i64 i) ∧ X = w') := Lib.hid (fun X => by have h := mod_any which q X hqp hqm; rw [hi] at h; exact h)
  clear hi g0 g1 hq0
  obtain ⟨bg, og, hCe, hbg, hga⟩ := HGs.out.get i hil
  subst hCe
  have Hmem := Lib.hid (List.getElem_mem hil)
  generalize gs[i] = g at *
  have KMl := KM.lt; have KMc := KM.get
  go_wp2
  clear KMl KMc
  refine wp_region_alloc 10 9 8 (.cells #[.int .i64 0, .int .i64 0, .int .i64 0, .int .i64 0, .int .i64 0, .int .i64 0, .int .i64 0] 30) (by kernel_rfl) rfl (fun N => by kernel_rfl) (by decide) (fun a w => by simp [execOp, Act.eval, go_sem]) (by kernel_rfl) ?_
  apply Exists.intro
  refine ⟨fun b N hbN => ?_, fun N => ?_, fun W9 N hW9 hN9 hblk => ?_⟩
  · have KMb := KM.keep hbN
    have KMbl := KMb.lt
    have KMbc := KMb.get
    have e1 : bg < b.heap.size := by have := hbN.size; omega
    obtain ⟨u0, u1, u2, u3, u4, u5, u6⟩ := hga.keep fun j => hbN.cell (p := ⟨bg, j, none⟩) hbg
    simp only [List.set_cons_succ, List.set_cons_zero, ptrOp, List.take_succ_cons, List.take_zero]
    repeat (go_big_quiet_step ((go_at_call 58; exact quiet_grow rfl (still_grow (HMod.out _)))))
    refine wpQuiet_nil ?_
    rfl
  · rfl
  simp only [List.drop_succ_cons, List.drop_zero]
  obtain ⟨hNb, nfr⟩ := made7 hblk
  have nlt := hNb.lt
  have nce := hNb.get
  go_upto_region 5 with (fail)
  have KG := put7_bk hNb (.int .i64 g.o) (.int .i64 g.m0) (.int .i64 g.m1) (.int .i64 g.m2) (.int .i64 g.m3) (.int .i64 g.m4) (.int .i64 g.m5)
  have hbU := put7_below hW9 hN9 (.int .i64 g.o) (.int .i64 g.m0) (.int .i64 g.m1) (.int .i64 g.m2) (.int .i64 g.m3) (.int .i64 g.m4) (.int .i64 g.m5)
  generalize World.setCell _ ⟨N, 6, none⟩ _ = V2 at KG hbU ⊢
  clear nlt nce nfr hNb hblk hW9 hN9 hga
  replace KM := KM.keep hbU; replace HGs := Lib.hid (HGs.out.keep hbU); replace HP := Lib.hid (HP.out.keep hbU)
  have HB2 := Lib.hid hbU
  clear hbU
  generalize hCg : some (⟨bg, og, none⟩ : Addr) = C at *
  clear hCg hbg
  have KMl := KM.lt; have KMc := KM.get; have KGl := KG.lt; have KGc := KG.get
  go_wp2_with fail
  refine (seen_any w0 w1 w2 w3 w4 F g.m0 g.m1 g.m2 g.m3 g.m4 g.m5 C q cq B n' c' p V2 ⟨hFb.1, by omega⟩ HP.out hn').mono ?_
  rintro e x1 ⟨rfl, hb1⟩
  clear KMl KMc KGl KGc
  replace KM := KM.keep hb1; replace KG := KG.keep hb1; replace HGs := Lib.hid (HGs.out.keep hb1); replace HP := Lib.hid (HP.out.keep hb1)
  have HX1 := Lib.hid hb1
  clear hb1
  have hgB := okB_at Hok.out.1 g Hmem.out
  obtain ⟨hst, hcs⟩ := seen_good Hw.out hgB hFb.1 p
  have Hst := Lib.hid hst; have Hcs := Lib.hid hcs; have HgB := Lib.hid hgB
  clear hst hcs hgB
  generalize seenR w0 w1 w2 w3 w4 g.m0 g.m1 g.m2 g.m3 g.m4 g.m5 F p = f at *
  have KMl := KM.lt; have KMc := KM.get; have KGl := KG.lt; have KGc := KG.get
  go_upto_region 6 with (fail)
  clear KMl KMc KGl KGc
  generalize hV : World.alloc x1 _ = V3
  have hb : Below x1.heap.size x1 V3 := by subst hV; exact up_alloc _ _
  have KR : Bk V3 x1.heap.size [.int .i64 (f 0), .int .i64 (f 1), .int .i64 (f 2), .int .i64 (f 3), .int .i64 (f 4), .int .i64 (f 5)] := ⟨by subst hV; simp, by subst hV; intro j; simp [go_sem]⟩
  clear hV
  replace KM := KM.keep hb; replace KG := KG.keep hb; replace HGs := Lib.hid (HGs.out.keep hb); replace HP := Lib.hid (HP.out.keep hb)
  have HV3 := Lib.hid hb
  clear hb
  have KMl := KM.lt; have KMc := KM.get; have KRl := KR.lt; have KRc := KR.get
  go_wp2_with fail
  refine (owners_any w0 w1 w2 w3 w4 F C q cq gs (rdF f) V3 HGs.out hqc).mono ?_
  rintro e x2 ⟨v1, rfl, hown, hb2⟩
  clear KMl KMc KRl KRc
  rw [brE_okF Hok.out.1 Hst.out]
  rw [brG_okF Hok.out.1 Hst.out] at hown
  obtain ⟨A1, c1, rfl, _, hi1⟩ := Is.of_own hown
  have HI1 := Lib.hid hi1
  clear hown hi1
  replace KM := KM.keep hb2; replace KG := KG.keep hb2; replace KR := KR.keep hb2; replace HGs := Lib.hid (HGs.out.keep hb2); replace HP := Lib.hid (HP.out.keep hb2)
  have HX2 := Lib.hid hb2
  clear hb2
  have Hhas := Lib.hid (hasL_own (poss_mem Hmem.out Hcs.out))
  generalize hn1 : (possG w0 w1 w2 w3 w4 F [rdF f] gs).length = n1 at *
  clear hn1
  have KMl := KM.lt; have KMc := KM.get; have KGl := KG.lt; have KGc := KG.get; have KRl := KR.lt; have KRc := KR.get
  go_upto_region 9 with (go_at_call 62; refine (has_any' _ _ _ _ _ _ HI1.out).mono ?_; rintro e x3 ⟨rfl, rfl⟩; rw [Hhas.out])
  have hS0 : SBox (x2.alloc (.cells #[.int .i64 (f 0), .int .i64 (f 1), .int .i64 (f 2), .int .i64 (f 3), .int .i64 (f 4), .int .i64 (f 5)] 31)) x2.heap.size (dropK p f 0) := ⟨by simp, fun j hj => by
      rw [World.cell?_alloc_at _ _ _ _ rfl]
      rcases (by omega : j = 0 ∨ j = 1 ∨ j = 2 ∨ j = 3 ∨ j = 4 ∨ j = 5) with rfl | rfl | rfl | rfl | rfl | rfl <;> rfl, fun j => World.frozen?_alloc_at _ _ _ _ rfl⟩
  have HS0 := Lib.hid hS0
  have HV0 := Lib.hid (up_alloc x2 (.cells #[.int .i64 (f 0), .int .i64 (f 1), .int .i64 (f 2), .int .i64 (f 3), .int .i64 (f 4), .int .i64 (f 5)] 31))
  clear hS0
  go_wp2
  clear KMl KMc KGl KGc KRl KRc
  generalize (x2.alloc (.cells #[.int .i64 (f 0), .int .i64 (f 1), .int .i64 (f 2), .int .i64 (f 3), .int .i64 (f 4), .int .i64 (f 5)] 31)) = V4 at *
  go_loopw [13] (fun s wr => ∃ k : Nat, k ≤ 6 ∧ s = .int .i64 k ∧ Below x2.heap.size x2 wr ∧ SBox wr x2.heap.size (dropK p f k)) (fun s _ => 6 - (intOf s).toNat)
  case atStart => exact ⟨0, by omega, rfl, HV0.out, HS0.out⟩
  case round =>
    obtain ⟨k, hk, rfl, hbw, hsb⟩ := hrel
    have Hbw := Lib.hid hbw
    have Hsb := Lib.hid hsb
    clear hbw hsb
    by_cases hlt : k < 6
    · have KR1 := KR.keep Hbw.out
      have hrc : wr.cell? ⟨x1.heap.size, k, none⟩ = some (.int .i64 (f k)) := by
        rw [KR1.get k]
        rcases (by omega : k = 0 ∨ k = 1 ∨ k = 2 ∨ k = 3 ∨ k = 4 ∨ k = 5) with rfl | rfl | rfl | rfl | rfl | rfl <;> rfl
      have hrl := KR1.lt
      have hk0 : (0 : Int) ≤ (k : Int) := by omega
      have hk6 : (k : Int) < 6 := by omega
      have hstk := Hst.out k hlt
      have Hput := Lib.hid (dropK_put p f k)
      have Hsame := Lib.hid (dropK_same p f k)
      generalize hx : f k = x at *
      have Hx := Lib.hid hx
      clear hx
      go_wp2_with fail
      refine (members_any x wr).mono ?_
      rintro e y1 ⟨v, rfl, hown, hb1⟩
      obtain ⟨A2, c2, rfl, _, hi2⟩ := Is.of_own hown
      have HI2 := Lib.hid hi2
      clear hown hi2
      have Hy1 := Lib.hid hb1
      have hrc1 : y1.cell? ⟨x1.heap.size, k, none⟩ = some (.int .i64 x) := (hb1.cell (p := ⟨x1.heap.size, k, none⟩) hrl).trans hrc
      have hrl1 : x1.heap.size < y1.heap.size := Nat.lt_of_lt_of_le hrl hb1.size
      have HS1 := Lib.hid (Hsb.out.keep hb1)
      clear hb1 hrc hrl
      have hl5 : (sgK x 5).length ≤ 5 := by
        obtain ⟨fx, rfl, _⟩ := st_fin hstk
        exact sgK_len5 fx
      by_cases h1 : 1 < (sgK x 5).length
      · have Hdv : Hid (dropV p x k = bits BinOp.and IntKind.i64 x (bits BinOp.xor IntKind.i64 (-1) (2 ^ ((sgK x 5).getD (atL p k % ((sgK x 5).length : Int)).toNat 0).toNat))) := Lib.hid (by unfold dropV; rw [if_pos h1])
        have g0 := Int.emod_nonneg (atL p k) (by omega : ((sgK x 5).length : Int) ≠ 0)
        have g1 := Int.emod_lt_of_pos (atL p k) (by omega : (0 : Int) < ((sgK x 5).length : Int))
        obtain ⟨a, ha⟩ := Int.eq_ofNat_of_zero_le g0
        rw [ha, Int.toNat_natCast] at Hdv
        have hal : a < (sgK x 5).length := by omega
        obtain ⟨s0, s5, _⟩ := sg_get hstk hal
        have hgd : (sgK x 5).getD a 0 = (sgK x 5)[a] := by rw [List.getD_eq_getElem?_getD, List.getElem?_eq_getElem hal]; rfl
        obtain ⟨bm, om, hAe, hbm, hcm⟩ := HI2.out.get a hal
        subst hAe
        rw [hgd] at s0 s5 Hdv
        generalize (sgK x 5)[a] = sg at *
        generalize hnl : (sgK x 5).length = nl at *
        have Ha := Lib.hid ha
        have hai : (a : Int) < (nl : Int) := by omega
        have hai0 : (0 : Int) ≤ (a : Int) := by omega
        have hnl1 : (1 : Int) < (nl : Int) := by omega
        have hp2 := p2_wrap sg s0 s5
        have HMod2 : Hid (∀ X : World, Calls Try.prog 58 #[.int .i64 (atL p k), .int .i64 nl] X fun e w' => e = .returned (.int .i64 a) ∧ X = w') := Lib.hid (fun X => by have h := mod_any (atL p k) nl X (by omega) (by omega); rw [ha] at h; exact h)
        clear ha g0 g1 hnl hgd
        go_wp2
        refine wp_region_grow_tail 17 (by kernel_rfl) (by kernel_rfl) ?_
        simp only [List.take_succ_cons, List.take_zero, List.drop_succ_cons, List.drop_zero]
        repeat (go_big_quiet_step ((first | (go_at_call 59; exact quiet_grow rfl (still_grow (at_any _ _ _ p _ _ ((HP.out.keep (up Hbw.out Hy1.out)).keep (by first | exact Below.refl _ _ | exact grow_below _ _)) hn'))) | (go_at_call 58; exact quiet_grow rfl (still_grow (HMod2.out _))))))
        refine wpQuiet_nil ?_
        intro z
        have Hz := Lib.hid (grow_below y1 z)
        have HS2 := Lib.hid (HS1.out.keep Hz.out)
        generalize grow y1 z = R at *
        have q1 := HS2.out.cell k hlt
        have q2 := HS2.out.fro k
        have q3 := HS2.out.lt
        go_wp2
        refine ⟨⟨k + 1, by omega, by go_num, ((Hbw.out.trans (Hy1.out.mono (Nat.le_of_lt Hsb.out.lt))).trans (Hz.out.mono (Nat.le_of_lt HS1.out.lt))).setCell (Nat.le_refl _) _, ?_⟩, by simp [intOf]; omega⟩
        rw [Hput.out, Hdv.out]
        exact HS2.out.put hlt _
      · have Hsm := Lib.hid (Hsame.out h1)
        have hnl1 : ¬ (1 : Int) < ((sgK x 5).length : Int) := by omega
        have hnl2 : decide (1 < (sgK x 5).length) = false := by simpa using h1
        have hnl3 : decide ((1 : Int) < ((sgK x 5).length : Int)) = false := decide_eq_false hnl1
        generalize (sgK x 5).length = nl at *
        go_wp2
        exact ⟨⟨k + 1, by omega, by go_num, Hbw.out.trans (Hy1.out.mono (Nat.le_of_lt Hsb.out.lt)), by rw [Hsm.out]; exact HS1.out⟩, by simp [intOf]; omega⟩
    · obtain rfl : k = 6 := by omega
      have HSt2 := Lib.hid (dropK_st Hst.out p)
      have Hfew := Lib.hid (poss_fewer (F := F) (gs := gs) (f := f) (f' := dropK p f 6) (fun y hy => dropK_cst (wf_st Hw.out (okB_at Hok.out.1 y hy)) Hst.out p))
      generalize dropK p f 6 = f2 at *
      have d0 := Hsb.out.cell 0 (by omega); have d1 := Hsb.out.cell 1 (by omega); have d2 := Hsb.out.cell 2 (by omega); have d3 := Hsb.out.cell 3 (by omega); have d4 := Hsb.out.cell 4 (by omega); have d5 := Hsb.out.cell 5 (by omega)
      have d6 := Hsb.out.lt
      replace KM := KM.keep Hbw.out; replace KG := KG.keep Hbw.out; replace KR := KR.keep Hbw.out; replace HGs := Lib.hid (HGs.out.keep Hbw.out); replace HP := Lib.hid (HP.out.keep Hbw.out); replace HI1 := Lib.hid (HI1.out.keep Hbw.out)
      have KMl := KM.lt; have KMc := KM.get; have KGl := KG.lt; have KGc := KG.get; have KRl := KR.lt; have KRc := KR.get
      go_wp2_with fail
      refine (owners_any w0 w1 w2 w3 w4 F C q cq gs (rdF f2) wr HGs.out hqc).mono ?_
      rintro e x4 ⟨v, rfl, hown, hb4⟩
      clear KMl KMc KGl KGc KRl KRc
      clear d0 d1 d2 d3 d4 d5 d6
      rw [brE_okF Hok.out.1 HSt2.out]
      rw [brG_okF Hok.out.1 HSt2.out] at hown
      obtain ⟨A4, c4, rfl, _, hi4⟩ := Is.of_own hown
      have HI4 := Lib.hid hi4
      clear hown hi4
      replace KM := KM.keep hb4; replace KG := KG.keep hb4; replace KR := KR.keep hb4; replace HGs := Lib.hid (HGs.out.keep hb4); replace HP := Lib.hid (HP.out.keep hb4); replace HI1 := Lib.hid (HI1.out.keep hb4)
      have HX4 := Lib.hid hb4
      clear hb4
      have HI4l : Hid ((possG w0 w1 w2 w3 w4 F [rdF f2] gs).length = (own (possG w0 w1 w2 w3 w4 F [rdF f2] gs)).length) := Lib.hid (by unfold own; simp)
      generalize (possG w0 w1 w2 w3 w4 F [rdF f2] gs).length = n4 at *
      generalize own (possG w0 w1 w2 w3 w4 F [rdF f2] gs) = L4 at *
      generalize own (possG w0 w1 w2 w3 w4 F [rdF f] gs) = L1 at *
      have hn4 := HI4.out.small
      go_wp2
      go_loop [17] (fun s => ∃ j : Nat, j ≤ n4 ∧ s = .int .i64 j) (fun s => n4 - (intOf s).toNat)
      case atStart => exact ⟨0, by omega, rfl⟩
      case round =>
        obtain ⟨j, hj, rfl⟩ := hrel
        by_cases hjn : j < n4
        · have hjl : j < L4.length := by rw [← HI4l.out]; exact hjn
          obtain ⟨b4, o4, hAe, hb4, hc4⟩ := HI4.out.get j hjl
          subst hAe
          have Hin := Lib.hid (Hfew.out _ (List.getElem_mem hjl))
          generalize L4[j] = y at *
          have j0 : (0 : Int) ≤ (j : Int) := by omega
          have j1 : (j : Int) < (n4 : Int) := by omega
          go_wp2_with (go_at_call 62; refine (has_any' _ _ _ _ _ _ HI1.out).mono ?_; rintro e x5 ⟨rfl, rfl⟩; rw [Hin.out])
          exact ⟨⟨j + 1, by omega, by go_num⟩, by simp [intOf]; omega⟩
        · obtain rfl : j = n4 := by omega
          clear HI4 HI4l Hfew HSt2 HI1
          have KMl := KM.lt; have KMc := KM.get; have KGl := KG.lt; have KGc := KG.get
          go_wp2_with fail
          refine (worn_any w0 w1 w2 w3 w4 g.m0 g.m1 g.m2 g.m3 g.m4 g.m5 B n' c' p x4 HP.out).mono ?_
          rintro e x6 ⟨rfl, hb6⟩
          clear KMl KMc KGl KGc
          have hwE : wornE w0 w1 w2 w3 w4 g.m0 g.m1 g.m2 g.m3 g.m4 g.m5 = 0 := by unfold wornE; rw [Hw.out, show okM g.m0 g.m1 g.m2 g.m3 g.m4 g.m5 = true from HgB.out]; rfl
          rw [hwE]
          clear hwE
          replace KM := KM.keep hb6; replace KG := KG.keep hb6; replace KR := KR.keep hb6; replace HGs := Lib.hid (HGs.out.keep hb6); replace HP := Lib.hid (HP.out.keep hb6)
          have HX6 := Lib.hid hb6
          clear hb6
          have Hone := Lib.hid (fun k hk => (worn_one Hw.out HgB.out p k hk).1)
          have Hcz := Lib.hid (worn_cst Hw.out HgB.out p)
          generalize wornV w0 w1 w2 w3 w4 g.m0 g.m1 g.m2 g.m3 g.m4 g.m5 p = t0 at *
          have KMl := KM.lt; have KMc := KM.get; have KGl := KG.lt; have KGc := KG.get
          go_upto_region 25 with (fail)
          clear KMl KMc KGl KGc
          have hS5 : SBox (x6.alloc (.cells #[.int .i64 (t0 0), .int .i64 (t0 1), .int .i64 (t0 2), .int .i64 (t0 3), .int .i64 (t0 4), .int .i64 (t0 5)] 31)) x6.heap.size (falseK p 1 4 t0 0) := ⟨by simp, fun j hj => by
              rw [World.cell?_alloc_at _ _ _ _ rfl]
              rcases (by omega : j = 0 ∨ j = 1 ∨ j = 2 ∨ j = 3 ∨ j = 4 ∨ j = 5) with rfl | rfl | rfl | rfl | rfl | rfl <;> rfl, fun j => World.frozen?_alloc_at _ _ _ _ rfl⟩
          have HS5 := Lib.hid hS5
          have HV5 := Lib.hid (up_alloc x6 (.cells #[.int .i64 (t0 0), .int .i64 (t0 1), .int .i64 (t0 2), .int .i64 (t0 3), .int .i64 (t0 4), .int .i64 (t0 5)] 31))
          clear hS5
          generalize (x6.alloc (.cells #[.int .i64 (t0 0), .int .i64 (t0 1), .int .i64 (t0 2), .int .i64 (t0 3), .int .i64 (t0 4), .int .i64 (t0 5)] 31)) = V5 at *
          obtain ⟨F', hF'⟩ := Int.eq_ofNat_of_zero_le hFb.1
          subst hF'
          have hF2 : F' ≤ 1 := by omega
          go_wp2
          have Hbw6 := Hbw
          clear Hbw Hsb
          go_loopw [20] (fun s wr => ∃ k : Nat, k ≤ F' ∧ s = .int .i64 k ∧ Below x6.heap.size x6 wr ∧ SBox wr x6.heap.size (falseK p 1 4 t0 k)) (fun s _ => F' - (intOf s).toNat)
          case atStart => exact ⟨0, by omega, rfl, HV5.out, HS5.out⟩
          case round =>
            obtain ⟨k, hk, rfl, hbw, hsb⟩ := hrel
            have Hbw := Lib.hid hbw
            have Hsb := Lib.hid hsb
            clear hbw hsb
            have KM1 := KM.keep Hbw.out
            by_cases hlt : k < F'
            · have Hnx : Hid (falseK p 1 4 t0 (k + 1) = updF (falseK p 1 4 t0 k) (atL p ((k : Int) + 1) % 6).toNat (2 ^ (atL p ((k : Int) + 4) % 5).toNat)) := Lib.hid rfl
              have g0 := Int.emod_nonneg (atL p ((k : Int) + 1)) (by decide : (6 : Int) ≠ 0)
              have g1 := Int.emod_lt_of_pos (atL p ((k : Int) + 1)) (by decide : (0 : Int) < 6)
              have g2 := Int.emod_nonneg (atL p ((k : Int) + 4)) (by decide : (5 : Int) ≠ 0)
              have g3 := Int.emod_lt_of_pos (atL p ((k : Int) + 4)) (by decide : (0 : Int) < 5)
              obtain ⟨a, ha⟩ := Int.eq_ofNat_of_zero_le g0
              generalize hq : atL p ((k : Int) + 4) % 5 = s at *
              have Hq := Lib.hid hq
              have Ha := Lib.hid ha
              have ha6 : a < 6 := by omega
              have hai : (a : Int) < 6 := by omega
              have hp2 := p2_wrap s g2 g3
              clear hq ha g0 g1
              rw [Ha.out, Int.toNat_natCast] at Hnx
              have hk5 : (0 : Int) ≤ (k : Int) := by omega
              have f1 := Hsb.out.cell a ha6
              have f2' := Hsb.out.fro a
              have f3 := Hsb.out.lt
              have KM1l := KM1.lt; have KM1c := KM1.get
              go_wp2_with (first
                | (go_at_call 59; refine (at_any _ _ _ p _ _ (HP.out.keep Hbw.out) hn').mono ?_; rintro e x9 ⟨rfl, rfl⟩)
                | (go_at_call 58; refine (mod_any _ _ _ (by omega) (by omega)).mono ?_; rintro e x9 ⟨rfl, rfl⟩; first | rw [Ha.out] | rw [Hq.out]))
              exact ⟨⟨k + 1, by omega, by go_num, Hbw.out.setCell (Nat.le_refl _) _, by rw [Hnx.out]; exact Hsb.out.put ha6 _⟩, by simp [intOf]; omega⟩
            · obtain rfl : k = F' := by omega
              have Ht1 := Lib.hid (false_one Hone.out p 1 4 k)
              have Htc : Hid (cst (wf w0 w1 w2 w3 w4 g) (falseK p 1 4 t0 k) ≤ (k : Int)) := Lib.hid (by have := false_cst (wf w0 w1 w2 w3 w4 g) t0 p 1 4 k; rw [Hcz.out] at this; omega)
              generalize falseK p 1 4 t0 k = t at *
              have Hts := Lib.hid (fun i hi => one_st (Ht1.out i hi))
              have Hal1 := Lib.hid (alone (rs := [rdF t]) Hok.out.1 Hmem.out Ht1.out Htc.out (by simp) (by intro r hr; rw [List.mem_singleton.1 hr, possR_F]; simpa using Htc.out))
              have Hal2 := Lib.hid (alone (rs := [rdF f, rdF t]) Hok.out.1 Hmem.out Ht1.out Htc.out (by simp) (by
                intro r hr
                simp only [List.mem_cons, List.mem_nil_iff, or_false] at hr
                rcases hr with rfl | rfl
                · rw [possR_F]; simpa using Hcs.out
                · rw [possR_F]; simpa using Htc.out))
              have HofE : Hid (ofE w0 w1 w2 w3 w4 (k : Int) gs [rdF f, rdF t] = 0) := Lib.hid (by
                unfold ofE
                rw [if_pos Hok.out.1, if_neg (by simp), if_pos (by simp only [List.all_cons, List.all_nil, rdF_ok Hst.out, rdF_ok Hts.out]; rfl)])
              have HofG : Hid (ofG w0 w1 w2 w3 w4 (k : Int) gs [rdF f, rdF t] = [g]) := Lib.hid (by unfold ofG; rw [if_pos HofE.out, Hal2.out])
              have d0 := Hsb.out.cell 0 (by omega); have d1 := Hsb.out.cell 1 (by omega); have d2 := Hsb.out.cell 2 (by omega); have d3 := Hsb.out.cell 3 (by omega); have d4 := Hsb.out.cell 4 (by omega); have d5 := Hsb.out.cell 5 (by omega)
              have d6 := Hsb.out.lt
              replace KM := KM.keep Hbw.out; replace KG := KG.keep Hbw.out; replace KR := KR.keep Hbw.out; replace HGs := Lib.hid (HGs.out.keep Hbw.out)
              clear KM1
              have KMl := KM.lt; have KMc := KM.get; have KGl := KG.lt; have KGc := KG.get; have KRl := KR.lt; have KRc := KR.get
              go_wp2_with fail
              refine (owner_any' w0 w1 w2 w3 w4 (k : Int) C q cq gs (rdF t) wr HGs.out hqc 0 [g.o] (brE_okF Hok.out.1 Hts.out) (by rw [brG_okF Hok.out.1 Hts.out, Hal1.out]; rfl)).mono ?_
              rintro e x10 ⟨rfl, hb10⟩
              clear KMl KMc KGl KGc KRl KRc
              clear d0 d1 d2 d3 d4 d5 d6
              have Hsb2 := Lib.hid (Hsb.out.keep hb10)
              replace KM := KM.keep hb10; replace KG := KG.keep hb10; replace KR := KR.keep hb10; replace HGs := Lib.hid (HGs.out.keep hb10)
              have HX10 := Lib.hid hb10
              clear hb10
              have d0 := Hsb2.out.cell 0 (by omega); have d1 := Hsb2.out.cell 1 (by omega); have d2 := Hsb2.out.cell 2 (by omega); have d3 := Hsb2.out.cell 3 (by omega); have d4 := Hsb2.out.cell 4 (by omega); have d5 := Hsb2.out.cell 5 (by omega)
              have d6 := Hsb2.out.lt
              rw [show oneV 0 [g.o] = g.o from rfl, show oneE 0 [g.o] = 0 from rfl]
              have KMl := KM.lt; have KMc := KM.get; have KGl := KG.lt; have KGc := KG.get; have KRl := KR.lt; have KRc := KR.get
              go_wp2_with fail
              clear KMl KMc KGl KGc KRl KRc
              clear d0 d1 d2 d3 d4 d5 d6
              generalize hV6 : World.alloc x10 _ = V6
              have hb11 : Below x10.heap.size x10 V6 := by subst hV6; exact up_alloc _ _
              have hrs : Rs V6 (some ⟨x10.heap.size, 0, none⟩) 2 [rdF f, rdF t] := by subst hV6; exact rs2 x10 (rdF f) (rdF t) _ _ rfl
              have HRs := Lib.hid hrs
              clear hrs hV6
              replace KM := KM.keep hb11; replace KG := KG.keep hb11; replace HGs := Lib.hid (HGs.out.keep hb11)
              have HV6 := Lib.hid hb11
              clear hb11
              refine (of_any' w0 w1 w2 w3 w4 (k : Int) C q cq gs _ _ _ _ V6 HGs.out hqc HRs.out).mono ?_
              rintro e x12 ⟨v, rfl, hown, hb12⟩
              rw [HofE.out]
              rw [HofG.out] at hown
              obtain ⟨A5, c5, rfl, _, hi5⟩ := Is.of_own hown
              have HI5 := Lib.hid hi5
              clear hown hi5
              replace KM := KM.keep hb12; replace KG := KG.keep hb12
              have HX12 := Lib.hid hb12
              clear hb12
              have KGl := KG.lt; have KGc := KG.get
              go_wp2_with fail
              clear KGl KGc
              generalize hV7 : World.alloc x12 _ = V7
              have hb13 : Below x12.heap.size x12 V7 := by subst hV7; exact up_alloc _ _
              have hi6 : Is V7 (some ⟨x12.heap.size, 0, none⟩) 1 [g.o] := by subst hV7; exact is1 x12 g.o _ _ rfl
              have HI6 := Lib.hid hi6
              have HI5' := Lib.hid (HI5.out.keep hb13)
              have HV7 := Lib.hid hb13
              clear hi6 hV7 hb13
              refine (same_yes _ _ 1 _ _ [g.o] V7 HI5'.out HI6.out).mono ?_
              rintro e x14 ⟨rfl, hb14⟩
              have HX14 := Lib.hid hb14
              clear hb14
              go_wp2_with fail
              refine (sane_any _).mono ?_
              rintro e x15 ⟨rfl, hb15⟩
              have HX15 := Lib.hid hb15
              clear hb15
              go_wp2
              go_ret
              exact ⟨rfl, up HB0.out (up HB1.out (up HB2.out (up HX1.out (up HV3.out (up HX2.out (up Hbw6.out (up HX4.out (up HX6.out (up Hbw.out (up HX10.out (up HV6.out (up HX12.out (up HV7.out (up HX14.out HX15.out))))))))))))))⟩

theorem markAright_lifted (os : Os) (started : os.Started) (H : Type) (enc : TypeId × Value → H) :
    ReturnsInHanded {} Try.checked os 9 .any (Rows.markArightSpec.pre6 enc Try.prog Try.f9 Rows.markArightRow.domain false) (Rows.markArightSpec.post enc Try.prog Try.f9 false true false false) := by
  refine law_lift started (by kernel_rfl) Try.func9 (ChangeSpec.witness6 (enc := enc) (C := Try.checked) false ⟨#[], #[.slice none 0 0, .int .i64 0, .slice none 0 0], []⟩ 8 (by kernel_rfl) (by kernel_rfl) (by kernel_rfl) (by kernel_rfl))
    rfl rfl (fun ds h => ?_) ?_ ?_
  · match ds, h with
    | [a, b, c], _ => rfl
  · rw [Try.params9]; intro t ht; simp at ht; rcases ht with rfl | rfl | rfl <;> exact ⟨by kernel_rfl, of_decide_eq_true (by kernel_rfl)⟩
  · intro W base args ds p hval hA hz
    rw [Try.params9] at hA hval hz
    obtain ⟨v0, v1, v2, d0, d1, d2, p0, p1, p2, rfl, rfl, rfl, h0, h1, h2⟩ := trodAll_three hA
    obtain ⟨A, n, c, l, rfl, hl, _, hn, _⟩ := open_is (hval 0 54 v0 rfl rfl) h0 (hz 0 54 d0 rfl rfl)
    obtain ⟨x, rfl, _⟩ := open_int3 (hval 1 3 v1 rfl rfl) h1
    obtain ⟨B, n', c', l', rfl, hl', _, hn', _⟩ := open_is (hval 2 54 v2 rfl rfl) h2 (hz 2 54 d2 rfl rfl)
    exact markAright_any A n c l x B n' c' l' W hl (by unfold reachBytes at hn; omega) hl' (by unfold reachBytes at hn'; omega)

theorem markAright_holds : Rows.MarkArightSaid :=
  OpenClaim.holds_of_wide 9 Try.f9 rfl rfl rfl rfl rfl rfl rfl ⟨rfl, rfl, rfl, rfl, rfl⟩ rfl rfl rfl rfl rfl (by kernel_rfl) Try.func9 (by kernel_rfl)
    (of_decide_eq_true (by kernel_rfl)) (by unfold Func.isWrapper; first | (rw [if_pos (by decide +kernel)]; kernel_rfl) | (rw [if_neg (by decide +kernel)]; exact ⟨rfl, rfl⟩))
    (fun os started H enc _ => markAright_lifted os started H enc)
end Go.Proofs.Ytbieopkohkomoaa

