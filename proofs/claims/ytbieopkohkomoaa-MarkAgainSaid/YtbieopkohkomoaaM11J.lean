/- MarkAgain: whatever the numbers, the law returns true, and its arguments read as before; no condition. Own text. -/
import Derived.Test.YtbieopkohkomoaaJl
import Derived.Deep.Cut
set_option linter.unusedVariables false
set_option linter.unusedSimpArgs false
set_option linter.unusedSectionVars false
namespace Go.Proofs.Ytbieopkohkomoaa
open Go Go.ChangeShapes Go.WideShapes Go.RowKit Go.Deep
set_option maxHeartbeats 400000
set_option maxRecDepth 100000

set_option maxHeartbeats 1000000 in
theorem markAgain_any (A : Option Addr) (n c : Nat) (l : List Int) (m0 m1 : Int) (B : Option Addr) (n' c' : Nat) (p : List Int) (w : World) (hl : Is w A n l) (hn : n ≤ 4611686018427387904) (hp : Is w B n' p) (hn' : n' ≤ 4611686018427387904) :
    Calls Try.prog 11 #[.slice A n c, .agg #[.int .i64 m0, .int .i64 m1], .slice B n' c'] w fun e w' => e = .returned (.bool true) ∧ Below w.heap.size w w' := by
  go_enter Try.func11, Try.ntmps11
  go_wp2_with fail
  generalize hW : (World.alloc _ _) = W
  have HW : Hid (Below w.heap.size w W) := Lib.hid (by subst hW; go_grown)
  have KN : Bk W w.heap.size [.int .i64 m0, .int .i64 m1] := ⟨by subst hW; simp only [World.size_alloc]; omega, by subst hW; intro j; simp [go_sem]⟩
  clear hW
  have HP := Lib.hid (hp.keep HW.out)
  have HL := Lib.hid (hl.keep HW.out)
  clear hp hl
  refine (made_any A n c l W HL.out hn).mono ?_
  rintro e x0 ⟨C, q, cq, rfl, hqc, hgs, hb⟩
  have HB0 := Lib.hid hb
  replace KN := KN.keep hb
  replace HP := Lib.hid (HP.out.keep hb)
  clear hb
  have HGs := Lib.hid hgs
  have Hok := Lib.hid (made_ok l)
  have Hw := Lib.hid (wears_ok l)
  have hFb := madeF_bd l
  clear hgs HL
  generalize wrN l 0 = w0 at *
  generalize wrN l 1 = w1 at *
  generalize wrN l 2 = w2 at *
  generalize wrN l 3 = w3 at *
  generalize wrN l 4 = w4 at *
  generalize madeF l = F at *
  generalize madeG l = gs at *
  have hq9 : q ≤ 9 := by have := HGs.out.len; have := Hok.out.2.1; omega
  go_upto_region 2 with (fail)
  generalize hV : World.alloc x0 _ = V
  have hb : Below x0.heap.size x0 V := by subst hV; exact up_alloc _ _
  have KM : Bk V x0.heap.size [.int .i64 w0, .int .i64 w1, .int .i64 w2, .int .i64 w3, .int .i64 w4, .int .i64 F, .slice C q cq] := ⟨by subst hV; simp, by subst hV; intro j; simp [go_sem]⟩
  clear hV
  have HB1 := Lib.hid hb
  replace KN := KN.keep hb
  replace HP := Lib.hid (HP.out.keep hb)
  replace HGs := Lib.hid (HGs.out.keep hb)
  clear hb
  by_cases hq0 : q = 0
  · subst hq0
    have KMl := KM.lt; have KMc := KM.get
    go_wp2_with fail
    refine (sane_any _).mono ?_
    rintro e z1 ⟨rfl, hb1⟩
    have HBs := Lib.hid hb1
    clear hb1
    go_wp2
    go_ret
    exact ⟨rfl, up HW.out (up HB0.out (up HB1.out HBs.out))⟩
  have hqb : ((q : Int) == 0) = false := by rw [beq_eq_false_iff_ne]; omega
  have hqn : (q == 0) = false := by simpa using hq0
  have g0 := Int.emod_nonneg m0 (by omega : (q : Int) ≠ 0)
  have g1 := Int.emod_lt_of_pos m0 (by omega : (0 : Int) < q)
  obtain ⟨i, hi⟩ := Int.eq_ofNat_of_zero_le g0
  have hiq : i < q := by omega
  have hi1 : (i : Int) < (q : Int) := by omega
  have hi0 : (0 : Int) ≤ (i : Int) := by omega
  have hil : i < gs.length := by rw [← HGs.out.len]; exact hiq
  have hqp : (0 : Int) < q := by omega
  have hqm : (q : Int) ≤ 4611686018427387904 := by omega
  have HMod : Hid (∀ X : World, Calls Try.prog 58 #[.int .i64 m0, .int .i64 q] X fun e w' => e = .returned (.int .i64 i) ∧ X = w') := Lib.hid (fun X => by have h := mod_any m0 q X hqp hqm; rw [hi] at h; exact h)
  clear hi g0 g1 hq0
  obtain ⟨bg, og, hCe, hbg, hga⟩ := HGs.out.get i hil
  subst hCe
  have Hmem := Lib.hid (List.getElem_mem hil)
  generalize gs[i] = g at *
  have KMl := KM.lt; have KMc := KM.get
  go_wp2
  clear KMl KMc
  refine wp_region_alloc 11 10 8 (.cells #[.int .i64 0, .int .i64 0, .int .i64 0, .int .i64 0, .int .i64 0, .int .i64 0, .int .i64 0] 30) (by kernel_rfl) rfl (fun N => by kernel_rfl) (by decide) (fun a w => by simp [execOp, Act.eval, go_sem]) (by kernel_rfl) ?_
  apply Exists.intro
  refine ⟨fun b N hbN => ?_, fun N => ?_, fun W9 N hW9 hN9 hblk => ?_⟩
  · have KMb := KM.keep hbN
    have KMbl := KMb.lt
    have KMbc := KMb.get
    have KNb := KN.keep hbN
    have KNbl := KNb.lt
    have KNbc := KNb.get
    have e1 : bg < b.heap.size := by have := hbN.size; omega
    obtain ⟨u0, u1, u2, u3, u4, u5, u6⟩ := hga.keep fun j => hbN.cell (p := ⟨bg, j, none⟩) hbg
    simp only [List.set_cons_succ, List.set_cons_zero, ptrOp, List.take_succ_cons, List.take_zero]
    repeat (go_big_quiet_step ((go_at_call 58; exact quiet_grow rfl (still_grow (HMod.out _)))))
    refine wpQuiet_nil ?_
    rfl
  · rfl
  simp only [List.drop_succ_cons, List.drop_zero]
  obtain ⟨hNb, nfr⟩ := made7 hblk
  have nlt := hNb.lt
  have nce := hNb.get
  go_upto_region 5 with (fail)
  have KG := put7_bk hNb (.int .i64 g.o) (.int .i64 g.m0) (.int .i64 g.m1) (.int .i64 g.m2) (.int .i64 g.m3) (.int .i64 g.m4) (.int .i64 g.m5)
  have hbU := put7_below hW9 hN9 (.int .i64 g.o) (.int .i64 g.m0) (.int .i64 g.m1) (.int .i64 g.m2) (.int .i64 g.m3) (.int .i64 g.m4) (.int .i64 g.m5)
  generalize World.setCell _ ⟨N, 6, none⟩ _ = V2 at KG hbU ⊢
  clear nlt nce nfr hNb hblk hW9 hN9 hga
  have HB2 := Lib.hid hbU
  replace KN := KN.keep hbU
  replace KM := KM.keep hbU
  replace HP := Lib.hid (HP.out.keep hbU)
  replace HGs := Lib.hid (HGs.out.keep hbU)
  clear hbU
  generalize hCg : some (⟨bg, og, none⟩ : Addr) = C at *
  clear hCg hbg
  have KMl := KM.lt; have KMc := KM.get; have KGl := KG.lt; have KGc := KG.get
  go_wp2_with fail
  refine (seen_any w0 w1 w2 w3 w4 F g.m0 g.m1 g.m2 g.m3 g.m4 g.m5 C q cq B n' c' p V2 ⟨hFb.1, by omega⟩ HP.out hn').mono ?_
  rintro e x1 ⟨rfl, hb1⟩
  clear KMl KMc KGl KGc
  have HX1 := Lib.hid hb1
  replace KN := KN.keep hb1
  replace KM := KM.keep hb1
  replace KG := KG.keep hb1
  replace HP := Lib.hid (HP.out.keep hb1)
  replace HGs := Lib.hid (HGs.out.keep hb1)
  clear hb1
  have hgB := okB_at Hok.out.1 g Hmem.out
  obtain ⟨hst, hcs⟩ := seen_good Hw.out hgB hFb.1 p
  have HgB := Lib.hid hgB
  have Hst := Lib.hid (anyK_st hst p 3)
  have Hcs := Lib.hid (Int.le_trans (anyK_cst (wf_st Hw.out hgB) p 3) hcs)
  clear hst hcs hgB
  generalize seenR w0 w1 w2 w3 w4 g.m0 g.m1 g.m2 g.m3 g.m4 g.m5 F p = f0 at *
  have KMl := KM.lt; have KMc := KM.get; have KGl := KG.lt; have KGc := KG.get
  go_upto_region 6 with (fail)
  clear KMl KMc KGl KGc
  have hS0 : SBox (x1.alloc (.cells #[.int .i64 (f0 0), .int .i64 (f0 1), .int .i64 (f0 2), .int .i64 (f0 3), .int .i64 (f0 4), .int .i64 (f0 5)] 31)) x1.heap.size (anyK p f0 0) := ⟨by simp, fun j hj => by
        rw [World.cell?_alloc_at _ _ _ _ rfl]
        rcases (by omega : j = 0 ∨ j = 1 ∨ j = 2 ∨ j = 3 ∨ j = 4 ∨ j = 5) with rfl | rfl | rfl | rfl | rfl | rfl <;> rfl, fun j => World.frozen?_alloc_at _ _ _ _ rfl⟩
  have HS0 := Lib.hid hS0
  have HV0 := Lib.hid (up_alloc x1 (.cells #[.int .i64 (f0 0), .int .i64 (f0 1), .int .i64 (f0 2), .int .i64 (f0 3), .int .i64 (f0 4), .int .i64 (f0 5)] 31))
  clear hS0
  go_wp2
  generalize (x1.alloc (.cells #[.int .i64 (f0 0), .int .i64 (f0 1), .int .i64 (f0 2), .int .i64 (f0 3), .int .i64 (f0 4), .int .i64 (f0 5)] 31)) = V3 at *
  go_loopw [10] (fun s wr => ∃ k : Nat, k ≤ 3 ∧ s = .int .i64 k ∧ Below x1.heap.size x1 wr ∧ SBox wr x1.heap.size (anyK p f0 k)) (fun s _ => 3 - (intOf s).toNat)
  case atStart => exact ⟨0, by omega, rfl, HV0.out, HS0.out⟩
  case round =>
    obtain ⟨k, hk, rfl, hbw, hsb⟩ := hrel
    have Hbw := Lib.hid hbw
    have Hsb := Lib.hid hsb
    clear hbw hsb
    by_cases hlt : k < 3
    · have Hnx : Hid (anyK p f0 (k + 1) = updF (anyK p f0 k) (atL p (k : Int) % 6).toNat 31) := Lib.hid rfl
      have g0 := Int.emod_nonneg (atL p (k : Int)) (by decide : (6 : Int) ≠ 0)
      have g1 := Int.emod_lt_of_pos (atL p (k : Int)) (by decide : (0 : Int) < 6)
      obtain ⟨a, ha⟩ := Int.eq_ofNat_of_zero_le g0
      have Ha := Lib.hid ha
      have ha6 : a < 6 := by omega
      have hai : (a : Int) < 6 := by omega
      clear ha g0 g1
      rw [Ha.out, Int.toNat_natCast] at Hnx
      have hk5 : (0 : Int) ≤ (k : Int) := by omega
      have f1 := Hsb.out.cell a ha6
      have f2 := Hsb.out.fro a
      have f3 := Hsb.out.lt
      go_wp2_with (first
        | (go_at_call 59; refine (at_any _ _ _ p _ _ (HP.out.keep Hbw.out) hn').mono ?_; rintro e x9 ⟨rfl, rfl⟩)
        | (go_at_call 58; refine (mod_any _ _ _ (by omega) (by omega)).mono ?_; rintro e x9 ⟨rfl, rfl⟩; rw [Ha.out]))
      exact ⟨⟨k + 1, by omega, by go_num, Hbw.out.setCell (Nat.le_refl _) _, by rw [Hnx.out]; exact Hsb.out.put ha6 _⟩, by simp [intOf]; omega⟩
    · obtain rfl : k = 3 := by omega
      clear HS0 HV0
      generalize anyK p f0 3 = f at *
      have HSr := Hsb
      replace KN := KN.keep Hbw.out
      replace KM := KM.keep Hbw.out
      replace KG := KG.keep Hbw.out
      replace HP := Lib.hid (HP.out.keep Hbw.out)
      replace HGs := Lib.hid (HGs.out.keep Hbw.out)
      have d0 := HSr.out.cell 0 (by omega)
      have d1 := HSr.out.cell 1 (by omega)
      have d2 := HSr.out.cell 2 (by omega)
      have d3 := HSr.out.cell 3 (by omega)
      have d4 := HSr.out.cell 4 (by omega)
      have d5 := HSr.out.cell 5 (by omega)
      have d6 := HSr.out.lt
      have KMl := KM.lt; have KMc := KM.get; have KGl := KG.lt; have KGc := KG.get
      go_wp2_with fail
      refine (look_any w0 w1 w2 w3 w4 F C q cq gs (rdF f) wr HGs.out hqc).mono ?_
      rintro e x2 ⟨D, kl, cl0, rfl, hkl, hil, hb⟩
      clear KMl KMc KGl KGc
      clear d0 d1 d2 d3 d4 d5 d6
      have HX2 := Lib.hid hb
      replace KN := KN.keep hb
      replace KM := KM.keep hb
      replace KG := KG.keep hb
      replace HP := Lib.hid (HP.out.keep hb)
      replace HGs := Lib.hid (HGs.out.keep hb)
      replace HSr := Lib.hid (HSr.out.keep hb)
      clear hb
      have hbr := brE_okF Hok.out.1 Hst.out
      obtain ⟨ix, hix, hlk, hset, hmin⟩ := look_spec (settle_all Hok.out.1 [rdF f])
      have hLk : lookR w0 w1 w2 w3 w4 F gs (rdF f) = chK (ix : Int) 6 := by unfold lookR; rw [if_pos hbr, hlk]
      rw [hLk] at hil
      rw [hbr]
      have HIl := Lib.hid hil
      have Hbr := Lib.hid hbr
      have Hset := Lib.hid hset
      have Hmin := Lib.hid hmin
      have Hrise := Lib.hid (ch_rise hix)
      have Hin6 : Hid (∀ y ∈ chK (ix : Int) 6, 0 ≤ y ∧ y < 6) := Lib.hid (fun y hy => by have := chK_in (ix : Int) 6 y hy; omega)
      clear hil hbr hlk hset hmin hLk
      have HLk6 := Lib.hid (chK_len (ix : Int) 6)
      generalize hLn : chK (ix : Int) 6 = Lk at *
      clear hLn
      have KMl := KM.lt; have KMc := KM.get; have KGl := KG.lt; have KGc := KG.get
      go_wp2_with fail
      refine (worn_any w0 w1 w2 w3 w4 g.m0 g.m1 g.m2 g.m3 g.m4 g.m5 B n' c' p x2 HP.out).mono ?_
      rintro e x6 ⟨rfl, hb6⟩
      clear KMl KMc KGl KGc
      have hwE : wornE w0 w1 w2 w3 w4 g.m0 g.m1 g.m2 g.m3 g.m4 g.m5 = 0 := by unfold wornE; rw [Hw.out, show okM g.m0 g.m1 g.m2 g.m3 g.m4 g.m5 = true from HgB.out]; rfl
      rw [hwE]
      clear hwE
      have HX6 := Lib.hid hb6
      replace KN := KN.keep hb6
      replace KM := KM.keep hb6
      replace KG := KG.keep hb6
      replace HP := Lib.hid (HP.out.keep hb6)
      replace HGs := Lib.hid (HGs.out.keep hb6)
      replace HSr := Lib.hid (HSr.out.keep hb6)
      replace HIl := Lib.hid (HIl.out.keep hb6)
      clear hb6
      have Hone := Lib.hid (fun k hk => (worn_one Hw.out HgB.out p k hk).1)
      have Hmz := Lib.hid (fun k hk => (worn_one Hw.out HgB.out p k hk).2)
      generalize wornV w0 w1 w2 w3 w4 g.m0 g.m1 g.m2 g.m3 g.m4 g.m5 p = t at *
      have Hts := Lib.hid (fun i hi => one_st (Hone.out i hi))
      have KMl := KM.lt; have KMc := KM.get; have KGl := KG.lt; have KGc := KG.get
      go_upto_region 12 with (fail)
      clear KMl KMc KGl KGc
      generalize hV : World.alloc x6 _ = V5
      have hb : Below x6.heap.size x6 V5 := by subst hV; exact up_alloc _ _
      have KT : Bk V5 x6.heap.size [.int .i64 (t 0), .int .i64 (t 1), .int .i64 (t 2), .int .i64 (t 3), .int .i64 (t 4), .int .i64 (t 5)] := ⟨by subst hV; simp, by subst hV; intro j; simp [go_sem]⟩
      clear hV
      have HV5 := Lib.hid hb
      replace KN := KN.keep hb
      replace KM := KM.keep hb
      replace KG := KG.keep hb
      replace HP := Lib.hid (HP.out.keep hb)
      replace HGs := Lib.hid (HGs.out.keep hb)
      replace HSr := Lib.hid (HSr.out.keep hb)
      replace HIl := Lib.hid (HIl.out.keep hb)
      clear hb
      have d0 := HSr.out.cell 0 (by omega)
      have d1 := HSr.out.cell 1 (by omega)
      have d2 := HSr.out.cell 2 (by omega)
      have d3 := HSr.out.cell 3 (by omega)
      have d4 := HSr.out.cell 4 (by omega)
      have d5 := HSr.out.cell 5 (by omega)
      have d6 := HSr.out.lt
      have KMl := KM.lt; have KMc := KM.get; have KGl := KG.lt; have KGc := KG.get; have KTl := KT.lt; have KTc := KT.get
      go_wp2_with fail
      refine (checkLook_any w0 w1 w2 w3 w4 F C q cq gs (rdF f) D kl cl0 Lk V5 HGs.out hqc HIl.out).mono ?_
      rintro e x7 ⟨rfl, hb⟩
      clear KMl KMc KGl KGc KTl KTc
      clear d0 d1 d2 d3 d4 d5 d6
      rw [clE_4 Hbr.out Hrise.out Hset.out]
      have HX7 := Lib.hid hb
      replace KN := KN.keep hb
      replace KM := KM.keep hb
      replace KG := KG.keep hb
      replace KT := KT.keep hb
      replace HP := Lib.hid (HP.out.keep hb)
      replace HGs := Lib.hid (HGs.out.keep hb)
      replace HSr := Lib.hid (HSr.out.keep hb)
      replace HIl := Lib.hid (HIl.out.keep hb)
      clear hb
      obtain ⟨i0, hi_, hz0, hz1, hz2⟩ := info_parts info3
      have HI0 := Lib.hid hi_
      have HZ0 := Lib.hid hz0
      have HZ1 := Lib.hid hz1
      have HZ2 := Lib.hid hz2
      clear hi_ hz0 hz1 hz2
      have g0 := Int.emod_nonneg m1 (by decide : (64 : Int) ≠ 0)
      have g1 := Int.emod_lt_of_pos m1 (by decide : (0 : Int) < 64)
      obtain ⟨jx, hjx⟩ := Int.eq_ofNat_of_zero_le g0
      have hj64 : jx < 64 := by omega
      have HMod2 : Hid (∀ X : World, Calls Try.prog 58 #[.int .i64 m1, .int .i64 64] X fun e w' => e = .returned (.int .i64 jx) ∧ X = w') := Lib.hid (fun X => by have h := mod_any m1 64 X (by decide) (by decide); rw [hjx] at h; exact h)
      clear hjx g0 g1
      have KMl := KM.lt; have KMc := KM.get; have KGl := KG.lt; have KGc := KG.get
      go_wp2
      clear KMl KMc KGl KGc
      go_loopw [15, 16] (fun v s wr => ∃ (k : Nat) (z : Gr), k ≤ 6 ∧ s = .int .i64 k ∧ wr = grow x7 z ∧ (grow x7 z).ownsRow x7.heap.size 3 1 v (chK (jx : Int) k).length (ints (chK (jx : Int) k))) (fun _ s _ => 6 - (intOf s).toNat)
      case atStart => exact ⟨0, ⟨#[], x7.drawn⟩, by omega, rfl, by simp [grow], World.ownsRow_nil _ _ _ _⟩
      case round =>
        obtain ⟨k, z, hk, rfl, rfl, hown⟩ := hrel
        have Hown := Lib.hid hown
        clear hown
        by_cases hlt : k < 6
        · have hln := chK_len (jx : Int) k
          have hp := p2n6 k hlt
          have Hy : Hid (hasB (jx : Int) k = true → chK (jx : Int) (k + 1) = chK (jx : Int) k ++ [(k : Int)]) := Lib.hid (fun h => by rw [chK, if_pos h])
          have Hn : Hid (hasB (jx : Int) k = false → chK (jx : Int) (k + 1) = chK (jx : Int) k) := Lib.hid (fun h => by rw [chK, if_neg (by rw [h]; simp)])
          generalize hX : chK (jx : Int) k = X at *
          have HX := Lib.hid hX
          clear hX
          generalize hnX : X.length = nX at *
          have HnX := Lib.hid hnX
          clear hnX
          have k0 : (0 : Int) ≤ (k : Int) := by omega
          have e0 := KN.lt
          have KNc := KN.get
          have HbZ := Lib.hid (grow_below x7 z)
          cases hh : hasB (jx : Int) k
          · have hb1 : (bits BinOp.and IntKind.i64 (jx : Int) (2 ^ k) != 0) = false := hh
            have hb2 : (bits BinOp.and IntKind.i64 (jx : Int) (2 ^ k) == 0) = true := by simpa [bne] using hb1
            have Hh := Lib.hid hh
            clear hh
            have e0' : w.heap.size < x7.heap.size + z.blocks.size := by omega
            go_wp2_with fail
            refine wp_region_grow (by kernel_rfl) (by kernel_rfl) ?_
            repeat (go_big_quiet_step ((go_at_call 58; exact quiet_grow rfl (still_grow (HMod2.out _)))))
            refine wpQuiet_nil ?_
            intro z2
            obtain ⟨y, hy⟩ := grow_grow x7 z z2
            have Ho : Hid ((grow x7 y).ownsRow x7.heap.size 3 1 _ nX (ints X)) := Lib.hid (by rw [← hy]; exact own_below Hown.out (grow_below _ z2))
            rw [hy]
            clear hy
            go_wp2
            exact ⟨⟨k + 1, y, by omega, by go_num, rfl, by rw [Hn.out Hh.out, HnX.out]; exact Ho.out⟩, by simp [intOf]; omega⟩
          · have hb1 : (bits BinOp.and IntKind.i64 (jx : Int) (2 ^ k) != 0) = true := hh
            have hb2 : (bits BinOp.and IntKind.i64 (jx : Int) (2 ^ k) == 0) = false := by simpa [bne] using hb1
            have Hh := Lib.hid hh
            clear hh
            have e0' : w.heap.size < x7.heap.size + z.blocks.size := by omega
            go_wp2_with fail
            refine wp_region_grow (by kernel_rfl) (by kernel_rfl) ?_
            repeat (go_big_quiet_step ((go_at_call 58; exact quiet_grow rfl (still_grow (HMod2.out _)))))
            refine wpQuiet_nil ?_
            intro z2
            obtain ⟨y, hy⟩ := grow_grow x7 z z2
            have Ho : Hid ((grow x7 y).ownsRow x7.heap.size 3 1 _ nX (ints X)) := Lib.hid (by rw [← hy]; exact own_below Hown.out (grow_below _ z2))
            rw [hy]
            clear hy
            go_wp2_with (at_builtin; refine wpList_append_own _ rfl _ _ 54 rfl x7.heap.size 3 i0 (.int .i64 0) 1 8 Try.underlying54 HI0.out HZ0.out HZ1.out HZ2.out rfl (by decide) _ _ _ rfl (Ho.out.alloc _) ⟨x7.heap.size + y.blocks.size, 0, none⟩ 1 1 [.int .i64 k] rfl rfl ?c1 ?c2 ?c3 ?c4 ?c5 ?_)
            case c1 =>
              intro j u hu
              rw [Addr.add_lit, World.cell?_alloc_at _ _ _ _ (by simp), Nat.zero_add]
              simpa using hu
            case c2 => intro u hu; simp at hu; subst hu; rfl
            case c3 => unfold maxLen; omega
            case c4 => omega
            case c5 => simp; omega
            intro v' w' hown' hgr _
            have hbel : Below x7.heap.size x7 w' := (up (grow_below x7 y) (up_alloc _ _)).grown hgr (by simp; omega) (fun q hq => (Ho.out.lt q hq).1)
            have Hown' := Lib.hid hown'
            clear hown' hgr
            obtain ⟨y3, rfl⟩ := below_grow hbel
            go_wp2
            exact ⟨⟨k + 1, y3, by omega, by go_num, rfl, by rw [Hy.out Hh.out, ints_snoc, List.length_append, HnX.out]; exact Hown'.out⟩, by simp [intOf]; omega⟩
        · obtain rfl : k = 6 := by omega
          have HbL := Lib.hid (grow_below x7 z)
          obtain ⟨Ao, co, rfl, _, hio⟩ := Is.of_own Hown.out
          have HIo := Lib.hid hio
          have Hch := Lib.hid (fun hlt : (chK (jx : Int) 6).length < Lk.length => clE_3 Hbr.out (ch_rise hj64) (Hmin.out jx hj64 hlt))
          have Hchn : Hid ((chK (jx : Int) 6).length ≤ 6) := Lib.hid (chK_len _ _)
          have Hkl : Hid (kl = Lk.length) := Lib.hid HIl.out.len
          clear hio Hown
          generalize chK (jx : Int) 6 = Lo at *
          generalize hno : Lo.length = no at *
          have hno6 := Hchn.out
          generalize grow x7 z = T at *
          replace KN := KN.keep HbL.out
          replace KM := KM.keep HbL.out
          replace KG := KG.keep HbL.out
          replace KT := KT.keep HbL.out
          replace HP := Lib.hid (HP.out.keep HbL.out)
          replace HGs := Lib.hid (HGs.out.keep HbL.out)
          replace HSr := Lib.hid (HSr.out.keep HbL.out)
          replace HIl := Lib.hid (HIl.out.keep HbL.out)
          have hkl6 : kl ≤ 6 := by have := Hkl.out; have := HLk6.out; omega
          clear hno
          have hno0 : True := trivial
          by_cases hcmp : no < kl
          · have d0 := HSr.out.cell 0 (by omega)
            have d1 := HSr.out.cell 1 (by omega)
            have d2 := HSr.out.cell 2 (by omega)
            have d3 := HSr.out.cell 3 (by omega)
            have d4 := HSr.out.cell 4 (by omega)
            have d5 := HSr.out.cell 5 (by omega)
            have d6 := HSr.out.lt
            have KMl := KM.lt; have KMc := KM.get; have KGl := KG.lt; have KGc := KG.get; have KTl := KT.lt; have KTc := KT.get
            have hc1 : decide (no < kl) = true := by simpa using hcmp
            have hc2 : (no : Int) < (kl : Int) := by omega
            have H18 := Lib.hid (Hch.out (by rw [← Hkl.out]; exact hcmp))
            clear hcmp
            go_wp2_with fail
            refine (checkLook_any w0 w1 w2 w3 w4 F C q cq gs (rdF f) Ao no co Lo T HGs.out hqc HIo.out).mono ?_
            rintro e T2 ⟨rfl, hb⟩
            clear KMl KMc KGl KGc KTl KTc
            clear d0 d1 d2 d3 d4 d5 d6
            rw [H18.out]
            have HT2 := Lib.hid hb
            replace KM := KM.keep hb
            replace KG := KG.keep hb
            replace KT := KT.keep hb
            replace HP := Lib.hid (HP.out.keep hb)
            replace HGs := Lib.hid (HGs.out.keep hb)
            replace HSr := Lib.hid (HSr.out.keep hb)
            replace HIl := Lib.hid (HIl.out.keep hb)
            clear hb
            have d0 := HSr.out.cell 0 (by omega)
            have d1 := HSr.out.cell 1 (by omega)
            have d2 := HSr.out.cell 2 (by omega)
            have d3 := HSr.out.cell 3 (by omega)
            have d4 := HSr.out.cell 4 (by omega)
            have d5 := HSr.out.cell 5 (by omega)
            have d6 := HSr.out.lt
            have KMl := KM.lt; have KMc := KM.get; have KGl := KG.lt; have KGc := KG.get; have KTl := KT.lt; have KTc := KT.get
            go_wp2_with fail
            refine (owners_any w0 w1 w2 w3 w4 F C q cq gs (rdF f) T2 HGs.out hqc).mono ?_
            rintro e a1 ⟨v, rfl, hown, hb⟩
            clear KMl KMc KGl KGc KTl KTc
            clear d0 d1 d2 d3 d4 d5 d6
            rw [Hbr.out]
            rw [brG_okF Hok.out.1 Hst.out] at hown
            obtain ⟨A1, c1, rfl, _, hi1⟩ := Is.of_own hown
            have HI1 := Lib.hid hi1
            clear hown hi1
            have HA1 := Lib.hid hb
            replace KM := KM.keep hb
            replace KG := KG.keep hb
            replace KT := KT.keep hb
            replace HP := Lib.hid (HP.out.keep hb)
            replace HGs := Lib.hid (HGs.out.keep hb)
            replace HSr := Lib.hid (HSr.out.keep hb)
            replace HIl := Lib.hid (HIl.out.keep hb)
            clear hb
            have d0 := HSr.out.cell 0 (by omega)
            have d1 := HSr.out.cell 1 (by omega)
            have d2 := HSr.out.cell 2 (by omega)
            have d3 := HSr.out.cell 3 (by omega)
            have d4 := HSr.out.cell 4 (by omega)
            have d5 := HSr.out.cell 5 (by omega)
            have d6 := HSr.out.lt
            have KMl := KM.lt; have KMc := KM.get; have KGl := KG.lt; have KGc := KG.get; have KTl := KT.lt; have KTc := KT.get
            go_wp2_with fail
            refine (looked_any w0 w1 w2 w3 w4 F C q cq gs (rdF f) (rdF t) D kl cl0 Lk a1 HGs.out hqc HIl.out).mono ?_
            rintro e a2 ⟨v, rfl, hown, hb⟩
            clear KMl KMc KGl KGc KTl KTc
            clear d0 d1 d2 d3 d4 d5 d6
            have hle := lookE_F (f := f) (t := t) Hok.out.1 Hst.out Hts.out Hrise.out
            have Hpm := Lib.hid (poss_mem (F := F) Hmem.out Hcs.out)
            rw [hle.2, left_one Hok.out.1 Hin6.out Hset.out Hpm.out Hone.out Hmz.out] at hown
            rw [hle.1]
            clear hle
            obtain ⟨A2, c2, rfl, _, hi2⟩ := Is.of_own hown
            have hi2' : Is a2 A2 1 [g.o] := hi2
            have HI2 := Lib.hid hi2'
            clear hown hi2 hi2'
            have HA2 := Lib.hid hb
            replace KM := KM.keep hb
            replace KG := KG.keep hb
            replace KT := KT.keep hb
            replace HP := Lib.hid (HP.out.keep hb)
            replace HGs := Lib.hid (HGs.out.keep hb)
            replace HSr := Lib.hid (HSr.out.keep hb)
            replace HIl := Lib.hid (HIl.out.keep hb)
            replace HI1 := Lib.hid (HI1.out.keep hb)
            clear hb
            rw [show ([g] : List Giv).length = 1 from rfl]
            have KTl := KT.lt; have KTc := KT.get
            go_upto_region 25 with (fail)
            clear KTl KTc
            have hS0 : SBox (a2.alloc (.cells #[.int .i64 (t 0), .int .i64 (t 1), .int .i64 (t 2), .int .i64 (t 3), .int .i64 (t 4), .int .i64 (t 5)] 31)) a2.heap.size (wideK p t 0) := by rw [wideK_0]; exact ⟨by simp, fun j hj => by
                  rw [World.cell?_alloc_at _ _ _ _ rfl]
                  rcases (by omega : j = 0 ∨ j = 1 ∨ j = 2 ∨ j = 3 ∨ j = 4 ∨ j = 5) with rfl | rfl | rfl | rfl | rfl | rfl <;> rfl, fun j => World.frozen?_alloc_at _ _ _ _ rfl⟩
            have HS0 := Lib.hid hS0
            have HV0 := Lib.hid (up_alloc a2 (.cells #[.int .i64 (t 0), .int .i64 (t 1), .int .i64 (t 2), .int .i64 (t 3), .int .i64 (t 4), .int .i64 (t 5)] 31))
            clear hS0
            go_wp2
            generalize (a2.alloc (.cells #[.int .i64 (t 0), .int .i64 (t 1), .int .i64 (t 2), .int .i64 (t 3), .int .i64 (t 4), .int .i64 (t 5)] 31)) = V7 at *
            go_loopw [22] (fun s wr => ∃ k : Nat, k ≤ 6 ∧ s = .int .i64 k ∧ Below a2.heap.size a2 wr ∧ SBox wr a2.heap.size (wideK p t k)) (fun s _ => 6 - (intOf s).toNat)
            case atStart => exact ⟨0, by omega, rfl, HV0.out, HS0.out⟩
            case round =>
              obtain ⟨k, hk, rfl, hbw, hsb⟩ := hrel
              have Hbw7 := Lib.hid hbw
              have Hsb7 := Lib.hid hsb
              clear hbw hsb
              by_cases hlt : k < 6
              · have Hnx : Hid (wideK p t (k + 1) = updF (wideK p t k) k (bits BinOp.or IntKind.i64 (wideK p t k k) (atL p ((k : Int) + 1) % 32))) := Lib.hid (by rw [wideK_put]; unfold wideV; rw [show wideK p t k k = t k by simp [wideK]])
                have hk5 : (0 : Int) ≤ (k : Int) := by omega
                have hk6 : (k : Int) < 6 := by omega
                have f1 := Hsb7.out.cell k hlt
                have f2 := Hsb7.out.fro k
                have f3 := Hsb7.out.lt
                go_wp2
                refine wp_region_grow_tail 11 (by kernel_rfl) (by kernel_rfl) ?_
                simp only [List.take_succ_cons, List.take_zero, List.drop_succ_cons, List.drop_zero]
                repeat (go_big_quiet_step ((first | (go_at_call 59; exact quiet_grow rfl (still_grow (at_any _ _ _ p _ _ ((HP.out.keep Hbw7.out).keep (by first | exact Below.refl _ _ | exact grow_below _ _)) hn'))) | (go_at_call 58; exact quiet_grow rfl (still_grow (mod_any _ _ _ (by decide) (by decide)))))))
                refine wpQuiet_nil ?_
                intro z
                have Hz := Lib.hid (grow_below wr z)
                have Hsb2 := Lib.hid (Hsb7.out.keep Hz.out)
                generalize grow wr z = R at *
                clear f1 f2 f3
                have f1 := Hsb2.out.cell k hlt
                have f2 := Hsb2.out.fro k
                have f3 := Hsb2.out.lt
                go_wp2
                exact ⟨⟨k + 1, by omega, by go_num, (Hbw7.out.trans (Hz.out.mono (Nat.le_of_lt Hsb7.out.lt))).setCell (Nat.le_refl _) _, by rw [Hnx.out]; exact Hsb2.out.put hlt _⟩, by simp [intOf]; omega⟩
              · obtain rfl : k = 6 := by omega
                have Hws : Hid (∀ k, k < 6 → st (wideK p t 6 k)) := Lib.hid (fun k hk => by unfold wideK; rw [if_pos hk]; exact (wide_ok (Hts.out k hk) p k).1)
                have Hwz : Hid (∀ k, k < 6 → mis (wf w0 w1 w2 w3 w4 g k) (wideK p t 6 k) = 0) := Lib.hid (fun k hk => by unfold wideK; rw [if_pos hk]; exact (wide_ok (Hts.out k hk) p k).2 _ (wf_st Hw.out HgB.out k hk) (Hmz.out k hk))
                generalize wideK p t 6 = tw at *
                clear HS0 HV0
                replace KM := KM.keep Hbw7.out
                replace KG := KG.keep Hbw7.out
                replace KT := KT.keep Hbw7.out
                replace HP := Lib.hid (HP.out.keep Hbw7.out)
                replace HGs := Lib.hid (HGs.out.keep Hbw7.out)
                replace HSr := Lib.hid (HSr.out.keep Hbw7.out)
                replace HIl := Lib.hid (HIl.out.keep Hbw7.out)
                replace HI1 := Lib.hid (HI1.out.keep Hbw7.out)
                replace HI2 := Lib.hid (HI2.out.keep Hbw7.out)
                have HSw := Hsb7
                have d0 := HSr.out.cell 0 (by omega)
                have d1 := HSr.out.cell 1 (by omega)
                have d2 := HSr.out.cell 2 (by omega)
                have d3 := HSr.out.cell 3 (by omega)
                have d4 := HSr.out.cell 4 (by omega)
                have d5 := HSr.out.cell 5 (by omega)
                have d6 := HSr.out.lt
                have b0 := HSw.out.cell 0 (by omega)
                have b1 := HSw.out.cell 1 (by omega)
                have b2 := HSw.out.cell 2 (by omega)
                have b3 := HSw.out.cell 3 (by omega)
                have b4 := HSw.out.cell 4 (by omega)
                have b5 := HSw.out.cell 5 (by omega)
                have b6 := HSw.out.lt
                have KMl := KM.lt; have KMc := KM.get; have KGl := KG.lt; have KGc := KG.get
                go_wp2_with fail
                refine (looked_any w0 w1 w2 w3 w4 F C q cq gs (rdF f) (rdF tw) D kl cl0 Lk wr HGs.out hqc HIl.out).mono ?_
                rintro e a3 ⟨v, rfl, hown, hb⟩
                clear KMl KMc KGl KGc
                clear d0 d1 d2 d3 d4 d5 d6
                clear b0 b1 b2 b3 b4 b5 b6
                have hle := lookE_F (f := f) (t := tw) Hok.out.1 Hst.out Hws.out Hrise.out
                rw [hle.2] at hown
                rw [hle.1]
                clear hle
                obtain ⟨A3, c3, rfl, _, hi3⟩ := Is.of_own hown
                have HI3 := Lib.hid hi3
                clear hown hi3
                have HA3 := Lib.hid hb
                replace KM := KM.keep hb
                replace KG := KG.keep hb
                replace KT := KT.keep hb
                replace HP := Lib.hid (HP.out.keep hb)
                replace HGs := Lib.hid (HGs.out.keep hb)
                replace HSr := Lib.hid (HSr.out.keep hb)
                replace HIl := Lib.hid (HIl.out.keep hb)
                replace HI1 := Lib.hid (HI1.out.keep hb)
                replace HI2 := Lib.hid (HI2.out.keep hb)
                replace HSw := Lib.hid (HSw.out.keep hb)
                clear hb
                have Hhas := Lib.hid (left_has (t := tw) Hin6.out Hpm.out Hwz.out)
                by_cases h1 : 1 < (possG w0 w1 w2 w3 w4 F [rdF f] gs).length
                · generalize (possG w0 w1 w2 w3 w4 F [rdF f] gs).length = n1 at *
                  have hn1 : (1 : Int) < (n1 : Int) := by omega
                  have hn2 : decide (1 < n1) = true := by simpa using h1
                  have KGl := KG.lt; have KGc := KG.get
                  go_wp2_with (go_at_call 62; refine (has_any' _ _ _ _ _ _ HI3.out).mono ?_; rintro e x5 ⟨rfl, rfl⟩; rw [Hhas.out])
                  clear KGl KGc
                  generalize hV7 : World.alloc a3 _ = V8
                  have hb13 : Below a3.heap.size a3 V8 := by subst hV7; exact up_alloc _ _
                  have hi6 : Is V8 (some ⟨a3.heap.size, 0, none⟩) 1 [g.o] := by subst hV7; exact is1 a3 g.o _ _ rfl
                  have HI6 := Lib.hid hi6
                  have HI2' := Lib.hid (HI2.out.keep hb13)
                  have HV8 := Lib.hid hb13
                  clear hi6 hV7 hb13
                  refine (same_yes _ _ 1 _ _ [g.o] V8 HI2'.out HI6.out).mono ?_
                  rintro e a5 ⟨rfl, hb14⟩
                  have HA5 := Lib.hid hb14
                  clear hb14
                  go_wp2_with fail
                  refine (sane_any _).mono ?_
                  rintro e a6 ⟨rfl, hb15⟩
                  have HA6 := Lib.hid hb15
                  clear hb15
                  go_wp2
                  go_ret
                  exact ⟨rfl, up HW.out (up HB0.out (up HB1.out (up HB2.out (up HX1.out (up Hbw.out (up HX2.out (up HX6.out (up HV5.out (up HX7.out (up HbL.out (up HT2.out (up HA1.out (up HA2.out (up Hbw7.out (up HA3.out (up HV8.out (up HA5.out HA6.out)))))))))))))))))⟩
                · have hone : possG w0 w1 w2 w3 w4 F [rdF f] gs = [g] := by
                    have hm := Hpm.out
                    cases hP : possG w0 w1 w2 w3 w4 F [rdF f] gs with
                    | nil => rw [hP] at hm; simp at hm
                    | cons y r =>
                      rw [hP] at hm h1
                      have : r = [] := by simpa using h1
                      subst this
                      rw [List.mem_singleton.1 hm]
                  have HI1' : Hid (Is a3 A1 1 [g.o]) := Lib.hid (by have h := HI1.out; rw [hone] at h; exact h)
                  have hn3 : (possG w0 w1 w2 w3 w4 F [rdF f] gs).length = 1 := by rw [hone]; rfl
                  rw [hn3]
                  clear hn3 h1 hone
                  have KGl := KG.lt; have KGc := KG.get
                  go_wp2_with (go_at_call 62; refine (has_any' _ _ _ _ _ _ HI3.out).mono ?_; rintro e x5 ⟨rfl, rfl⟩; rw [Hhas.out])
                  clear KGl KGc
                  refine (same_yes _ _ 1 _ _ [g.o] a3 HI2.out HI1'.out).mono ?_
                  rintro e a5 ⟨rfl, hb14⟩
                  have HA5 := Lib.hid hb14
                  clear hb14
                  go_wp2_with fail
                  refine (sane_any _).mono ?_
                  rintro e a6 ⟨rfl, hb15⟩
                  have HA6 := Lib.hid hb15
                  clear hb15
                  go_wp2
                  go_ret
                  exact ⟨rfl, up HW.out (up HB0.out (up HB1.out (up HB2.out (up HX1.out (up Hbw.out (up HX2.out (up HX6.out (up HV5.out (up HX7.out (up HbL.out (up HT2.out (up HA1.out (up HA2.out (up Hbw7.out (up HA3.out (up HA5.out HA6.out))))))))))))))))⟩
          · have hc1 : decide (no < kl) = false := by simpa using hcmp
            have hc2 : ¬ (no : Int) < (kl : Int) := by omega
            have d0 := HSr.out.cell 0 (by omega)
            have d1 := HSr.out.cell 1 (by omega)
            have d2 := HSr.out.cell 2 (by omega)
            have d3 := HSr.out.cell 3 (by omega)
            have d4 := HSr.out.cell 4 (by omega)
            have d5 := HSr.out.cell 5 (by omega)
            have d6 := HSr.out.lt
            have KMl := KM.lt; have KMc := KM.get; have KGl := KG.lt; have KGc := KG.get; have KTl := KT.lt; have KTc := KT.get
            go_wp2_with fail
            refine (owners_any w0 w1 w2 w3 w4 F C q cq gs (rdF f) T HGs.out hqc).mono ?_
            rintro e a1 ⟨v, rfl, hown, hb⟩
            clear KMl KMc KGl KGc KTl KTc
            clear d0 d1 d2 d3 d4 d5 d6
            rw [Hbr.out]
            rw [brG_okF Hok.out.1 Hst.out] at hown
            obtain ⟨A1, c1, rfl, _, hi1⟩ := Is.of_own hown
            have HI1 := Lib.hid hi1
            clear hown hi1
            have HA1 := Lib.hid hb
            replace KM := KM.keep hb
            replace KG := KG.keep hb
            replace KT := KT.keep hb
            replace HP := Lib.hid (HP.out.keep hb)
            replace HGs := Lib.hid (HGs.out.keep hb)
            replace HSr := Lib.hid (HSr.out.keep hb)
            replace HIl := Lib.hid (HIl.out.keep hb)
            clear hb
            have d0 := HSr.out.cell 0 (by omega)
            have d1 := HSr.out.cell 1 (by omega)
            have d2 := HSr.out.cell 2 (by omega)
            have d3 := HSr.out.cell 3 (by omega)
            have d4 := HSr.out.cell 4 (by omega)
            have d5 := HSr.out.cell 5 (by omega)
            have d6 := HSr.out.lt
            have KMl := KM.lt; have KMc := KM.get; have KGl := KG.lt; have KGc := KG.get; have KTl := KT.lt; have KTc := KT.get
            go_wp2_with fail
            refine (looked_any w0 w1 w2 w3 w4 F C q cq gs (rdF f) (rdF t) D kl cl0 Lk a1 HGs.out hqc HIl.out).mono ?_
            rintro e a2 ⟨v, rfl, hown, hb⟩
            clear KMl KMc KGl KGc KTl KTc
            clear d0 d1 d2 d3 d4 d5 d6
            have hle := lookE_F (f := f) (t := t) Hok.out.1 Hst.out Hts.out Hrise.out
            have Hpm := Lib.hid (poss_mem (F := F) Hmem.out Hcs.out)
            rw [hle.2, left_one Hok.out.1 Hin6.out Hset.out Hpm.out Hone.out Hmz.out] at hown
            rw [hle.1]
            clear hle
            obtain ⟨A2, c2, rfl, _, hi2⟩ := Is.of_own hown
            have hi2' : Is a2 A2 1 [g.o] := hi2
            have HI2 := Lib.hid hi2'
            clear hown hi2 hi2'
            have HA2 := Lib.hid hb
            replace KM := KM.keep hb
            replace KG := KG.keep hb
            replace KT := KT.keep hb
            replace HP := Lib.hid (HP.out.keep hb)
            replace HGs := Lib.hid (HGs.out.keep hb)
            replace HSr := Lib.hid (HSr.out.keep hb)
            replace HIl := Lib.hid (HIl.out.keep hb)
            replace HI1 := Lib.hid (HI1.out.keep hb)
            clear hb
            rw [show ([g] : List Giv).length = 1 from rfl]
            have KTl := KT.lt; have KTc := KT.get
            go_upto_region 25 with (fail)
            clear KTl KTc
            have hS0 : SBox (a2.alloc (.cells #[.int .i64 (t 0), .int .i64 (t 1), .int .i64 (t 2), .int .i64 (t 3), .int .i64 (t 4), .int .i64 (t 5)] 31)) a2.heap.size (wideK p t 0) := by rw [wideK_0]; exact ⟨by simp, fun j hj => by
                  rw [World.cell?_alloc_at _ _ _ _ rfl]
                  rcases (by omega : j = 0 ∨ j = 1 ∨ j = 2 ∨ j = 3 ∨ j = 4 ∨ j = 5) with rfl | rfl | rfl | rfl | rfl | rfl <;> rfl, fun j => World.frozen?_alloc_at _ _ _ _ rfl⟩
            have HS0 := Lib.hid hS0
            have HV0 := Lib.hid (up_alloc a2 (.cells #[.int .i64 (t 0), .int .i64 (t 1), .int .i64 (t 2), .int .i64 (t 3), .int .i64 (t 4), .int .i64 (t 5)] 31))
            clear hS0
            go_wp2
            generalize (a2.alloc (.cells #[.int .i64 (t 0), .int .i64 (t 1), .int .i64 (t 2), .int .i64 (t 3), .int .i64 (t 4), .int .i64 (t 5)] 31)) = V7 at *
            go_loopw [22] (fun s wr => ∃ k : Nat, k ≤ 6 ∧ s = .int .i64 k ∧ Below a2.heap.size a2 wr ∧ SBox wr a2.heap.size (wideK p t k)) (fun s _ => 6 - (intOf s).toNat)
            case atStart => exact ⟨0, by omega, rfl, HV0.out, HS0.out⟩
            case round =>
              obtain ⟨k, hk, rfl, hbw, hsb⟩ := hrel
              have Hbw7 := Lib.hid hbw
              have Hsb7 := Lib.hid hsb
              clear hbw hsb
              by_cases hlt : k < 6
              · have Hnx : Hid (wideK p t (k + 1) = updF (wideK p t k) k (bits BinOp.or IntKind.i64 (wideK p t k k) (atL p ((k : Int) + 1) % 32))) := Lib.hid (by rw [wideK_put]; unfold wideV; rw [show wideK p t k k = t k by simp [wideK]])
                have hk5 : (0 : Int) ≤ (k : Int) := by omega
                have hk6 : (k : Int) < 6 := by omega
                have f1 := Hsb7.out.cell k hlt
                have f2 := Hsb7.out.fro k
                have f3 := Hsb7.out.lt
                go_wp2
                refine wp_region_grow_tail 11 (by kernel_rfl) (by kernel_rfl) ?_
                simp only [List.take_succ_cons, List.take_zero, List.drop_succ_cons, List.drop_zero]
                repeat (go_big_quiet_step ((first | (go_at_call 59; exact quiet_grow rfl (still_grow (at_any _ _ _ p _ _ ((HP.out.keep Hbw7.out).keep (by first | exact Below.refl _ _ | exact grow_below _ _)) hn'))) | (go_at_call 58; exact quiet_grow rfl (still_grow (mod_any _ _ _ (by decide) (by decide)))))))
                refine wpQuiet_nil ?_
                intro z
                have Hz := Lib.hid (grow_below wr z)
                have Hsb2 := Lib.hid (Hsb7.out.keep Hz.out)
                generalize grow wr z = R at *
                clear f1 f2 f3
                have f1 := Hsb2.out.cell k hlt
                have f2 := Hsb2.out.fro k
                have f3 := Hsb2.out.lt
                go_wp2
                exact ⟨⟨k + 1, by omega, by go_num, (Hbw7.out.trans (Hz.out.mono (Nat.le_of_lt Hsb7.out.lt))).setCell (Nat.le_refl _) _, by rw [Hnx.out]; exact Hsb2.out.put hlt _⟩, by simp [intOf]; omega⟩
              · obtain rfl : k = 6 := by omega
                have Hws : Hid (∀ k, k < 6 → st (wideK p t 6 k)) := Lib.hid (fun k hk => by unfold wideK; rw [if_pos hk]; exact (wide_ok (Hts.out k hk) p k).1)
                have Hwz : Hid (∀ k, k < 6 → mis (wf w0 w1 w2 w3 w4 g k) (wideK p t 6 k) = 0) := Lib.hid (fun k hk => by unfold wideK; rw [if_pos hk]; exact (wide_ok (Hts.out k hk) p k).2 _ (wf_st Hw.out HgB.out k hk) (Hmz.out k hk))
                generalize wideK p t 6 = tw at *
                clear HS0 HV0
                replace KM := KM.keep Hbw7.out
                replace KG := KG.keep Hbw7.out
                replace KT := KT.keep Hbw7.out
                replace HP := Lib.hid (HP.out.keep Hbw7.out)
                replace HGs := Lib.hid (HGs.out.keep Hbw7.out)
                replace HSr := Lib.hid (HSr.out.keep Hbw7.out)
                replace HIl := Lib.hid (HIl.out.keep Hbw7.out)
                replace HI1 := Lib.hid (HI1.out.keep Hbw7.out)
                replace HI2 := Lib.hid (HI2.out.keep Hbw7.out)
                have HSw := Hsb7
                have d0 := HSr.out.cell 0 (by omega)
                have d1 := HSr.out.cell 1 (by omega)
                have d2 := HSr.out.cell 2 (by omega)
                have d3 := HSr.out.cell 3 (by omega)
                have d4 := HSr.out.cell 4 (by omega)
                have d5 := HSr.out.cell 5 (by omega)
                have d6 := HSr.out.lt
                have b0 := HSw.out.cell 0 (by omega)
                have b1 := HSw.out.cell 1 (by omega)
                have b2 := HSw.out.cell 2 (by omega)
                have b3 := HSw.out.cell 3 (by omega)
                have b4 := HSw.out.cell 4 (by omega)
                have b5 := HSw.out.cell 5 (by omega)
                have b6 := HSw.out.lt
                have KMl := KM.lt; have KMc := KM.get; have KGl := KG.lt; have KGc := KG.get
                go_wp2_with fail
                refine (looked_any w0 w1 w2 w3 w4 F C q cq gs (rdF f) (rdF tw) D kl cl0 Lk wr HGs.out hqc HIl.out).mono ?_
                rintro e a3 ⟨v, rfl, hown, hb⟩
                clear KMl KMc KGl KGc
                clear d0 d1 d2 d3 d4 d5 d6
                clear b0 b1 b2 b3 b4 b5 b6
                have hle := lookE_F (f := f) (t := tw) Hok.out.1 Hst.out Hws.out Hrise.out
                rw [hle.2] at hown
                rw [hle.1]
                clear hle
                obtain ⟨A3, c3, rfl, _, hi3⟩ := Is.of_own hown
                have HI3 := Lib.hid hi3
                clear hown hi3
                have HA3 := Lib.hid hb
                replace KM := KM.keep hb
                replace KG := KG.keep hb
                replace KT := KT.keep hb
                replace HP := Lib.hid (HP.out.keep hb)
                replace HGs := Lib.hid (HGs.out.keep hb)
                replace HSr := Lib.hid (HSr.out.keep hb)
                replace HIl := Lib.hid (HIl.out.keep hb)
                replace HI1 := Lib.hid (HI1.out.keep hb)
                replace HI2 := Lib.hid (HI2.out.keep hb)
                replace HSw := Lib.hid (HSw.out.keep hb)
                clear hb
                have Hhas := Lib.hid (left_has (t := tw) Hin6.out Hpm.out Hwz.out)
                by_cases h1 : 1 < (possG w0 w1 w2 w3 w4 F [rdF f] gs).length
                · generalize (possG w0 w1 w2 w3 w4 F [rdF f] gs).length = n1 at *
                  have hn1 : (1 : Int) < (n1 : Int) := by omega
                  have hn2 : decide (1 < n1) = true := by simpa using h1
                  have KGl := KG.lt; have KGc := KG.get
                  go_wp2_with (go_at_call 62; refine (has_any' _ _ _ _ _ _ HI3.out).mono ?_; rintro e x5 ⟨rfl, rfl⟩; rw [Hhas.out])
                  clear KGl KGc
                  generalize hV7 : World.alloc a3 _ = V8
                  have hb13 : Below a3.heap.size a3 V8 := by subst hV7; exact up_alloc _ _
                  have hi6 : Is V8 (some ⟨a3.heap.size, 0, none⟩) 1 [g.o] := by subst hV7; exact is1 a3 g.o _ _ rfl
                  have HI6 := Lib.hid hi6
                  have HI2' := Lib.hid (HI2.out.keep hb13)
                  have HV8 := Lib.hid hb13
                  clear hi6 hV7 hb13
                  refine (same_yes _ _ 1 _ _ [g.o] V8 HI2'.out HI6.out).mono ?_
                  rintro e a5 ⟨rfl, hb14⟩
                  have HA5 := Lib.hid hb14
                  clear hb14
                  go_wp2_with fail
                  refine (sane_any _).mono ?_
                  rintro e a6 ⟨rfl, hb15⟩
                  have HA6 := Lib.hid hb15
                  clear hb15
                  go_wp2
                  go_ret
                  exact ⟨rfl, up HW.out (up HB0.out (up HB1.out (up HB2.out (up HX1.out (up Hbw.out (up HX2.out (up HX6.out (up HV5.out (up HX7.out (up HbL.out (up HA1.out (up HA2.out (up Hbw7.out (up HA3.out (up HV8.out (up HA5.out HA6.out))))))))))))))))⟩
                · have hone : possG w0 w1 w2 w3 w4 F [rdF f] gs = [g] := by
                    have hm := Hpm.out
                    cases hP : possG w0 w1 w2 w3 w4 F [rdF f] gs with
                    | nil => rw [hP] at hm; simp at hm
                    | cons y r =>
                      rw [hP] at hm h1
                      have : r = [] := by simpa using h1
                      subst this
                      rw [List.mem_singleton.1 hm]
                  have HI1' : Hid (Is a3 A1 1 [g.o]) := Lib.hid (by have h := HI1.out; rw [hone] at h; exact h)
                  have hn3 : (possG w0 w1 w2 w3 w4 F [rdF f] gs).length = 1 := by rw [hone]; rfl
                  rw [hn3]
                  clear hn3 h1 hone
                  have KGl := KG.lt; have KGc := KG.get
                  go_wp2_with (go_at_call 62; refine (has_any' _ _ _ _ _ _ HI3.out).mono ?_; rintro e x5 ⟨rfl, rfl⟩; rw [Hhas.out])
                  clear KGl KGc
                  refine (same_yes _ _ 1 _ _ [g.o] a3 HI2.out HI1'.out).mono ?_
                  rintro e a5 ⟨rfl, hb14⟩
                  have HA5 := Lib.hid hb14
                  clear hb14
                  go_wp2_with fail
                  refine (sane_any _).mono ?_
                  rintro e a6 ⟨rfl, hb15⟩
                  have HA6 := Lib.hid hb15
                  clear hb15
                  go_wp2
                  go_ret
                  exact ⟨rfl, up HW.out (up HB0.out (up HB1.out (up HB2.out (up HX1.out (up Hbw.out (up HX2.out (up HX6.out (up HV5.out (up HX7.out (up HbL.out (up HA1.out (up HA2.out (up Hbw7.out (up HA3.out (up HA5.out HA6.out)))))))))))))))⟩

theorem markAgain_lifted (os : Os) (started : os.Started) (H : Type) (enc : TypeId × Value → H) :
    ReturnsInHanded {} Try.checked os 11 .any (Rows.markAgainSpec.pre6 enc Try.prog Try.f11 Rows.markAgainRow.domain false) (Rows.markAgainSpec.post enc Try.prog Try.f11 false true false false) := by
  refine law_lift started (by kernel_rfl) Try.func11 (ChangeSpec.witness6 (enc := enc) (C := Try.checked) false ⟨#[], #[.slice none 0 0, .agg #[.int .i64 0, .int .i64 0], .slice none 0 0], []⟩ 8 (by kernel_rfl) (by kernel_rfl) (by kernel_rfl) (by kernel_rfl))
    rfl rfl (fun ds h => ?_) ?_ ?_
  · match ds, h with
    | [a, b, c], _ => rfl
  · rw [Try.params11]; intro t ht; simp at ht; rcases ht with rfl | rfl | rfl <;> exact ⟨by kernel_rfl, of_decide_eq_true (by kernel_rfl)⟩
  · intro W base args ds p hval hA hz
    rw [Try.params11] at hA hval hz
    obtain ⟨v0, v1, v2, d0, d1, d2, p0, p1, p2, rfl, rfl, rfl, h0, h1, h2⟩ := trodAll_three hA
    obtain ⟨A, n, c, l, rfl, hl, _, hn, _⟩ := open_is (hval 0 54 v0 rfl rfl) h0 (hz 0 54 d0 rfl rfl)
    obtain ⟨x, y, rfl, _, _⟩ := open_two (hval 1 74 v1 rfl rfl) h1
    obtain ⟨B, n', c', l', rfl, hl', _, hn', _⟩ := open_is (hval 2 54 v2 rfl rfl) h2 (hz 2 54 d2 rfl rfl)
    exact markAgain_any A n c l x y B n' c' l' W hl (by unfold reachBytes at hn; omega) hl' (by unfold reachBytes at hn'; omega)

theorem markAgain_holds : Rows.MarkAgainSaid :=
  OpenClaim.holds_of_wide 11 Try.f11 rfl rfl rfl rfl rfl rfl rfl ⟨rfl, rfl, rfl, rfl, rfl⟩ rfl rfl rfl rfl rfl (by kernel_rfl) Try.func11 (by kernel_rfl)
    (of_decide_eq_true (by kernel_rfl)) (by unfold Func.isWrapper; first | (rw [if_pos (by decide +kernel)]; kernel_rfl) | (rw [if_neg (by decide +kernel)]; exact ⟨rfl, rfl⟩))
    (fun os started H enc _ => markAgain_lifted os started H enc)
end Go.Proofs.Ytbieopkohkomoaa

