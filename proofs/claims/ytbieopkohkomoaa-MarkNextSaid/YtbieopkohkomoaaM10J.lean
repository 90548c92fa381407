/- MarkNext: whatever the numbers, the law returns true, and its arguments read as before; no condition. Own text. -/
import Derived.Test.YtbieopkohkomoaaJk
import Derived.Deep.Cut
set_option linter.unusedVariables false
set_option linter.unusedSimpArgs false
set_option linter.unusedSectionVars false
namespace Go.Proofs.Ytbieopkohkomoaa
open Go Go.ChangeShapes Go.WideShapes Go.RowKit Go.Deep
set_option maxHeartbeats 400000
set_option maxRecDepth 100000

/-- The number of a mark, sign by sign. -/
def hor (m : Rd) : Nat → Int
  | 0 => 0
  | j + 1 => hor m j * 5 + g6 m.r0 m.r1 m.r2 m.r3 m.r4 m.r5 j
theorem hor6 (m : Rd) : hor m 6 = valR m := by simp only [hor, valR, g6]; simp
theorem hor_bd {m : Rd} (h : m.dig) : ∀ j, j ≤ 6 → 0 ≤ hor m j ∧ hor m j ≤ 15624 := by
  obtain ⟨⟨a0, b0⟩, ⟨a1, b1⟩, ⟨a2, b2⟩, ⟨a3, b3⟩, ⟨a4, b4⟩, ⟨a5, b5⟩⟩ := h
  intro j hj
  rcases (by omega : j = 0 ∨ j = 1 ∨ j = 2 ∨ j = 3 ∨ j = 4 ∨ j = 5 ∨ j = 6) with rfl | rfl | rfl | rfl | rfl | rfl | rfl <;> simp only [hor, g6] <;> simp <;> omega

set_option maxHeartbeats 1000000 in
theorem markNext_any (A : Option Addr) (n c : Nat) (l : List Int) (nn x : Int) (w : World) (hl : Is w A n l) (hn : n ≤ 4611686018427387904) :
    Calls Try.prog 10 #[.slice A n c, .int .i64 nn, .int .i64 x] w fun e w' => e = .returned (.bool true) ∧ Below w.heap.size w w' := by
  have y0 := Int.emod_nonneg x (by decide : (99 : Int) ≠ 0)
  have y1 := Int.emod_lt_of_pos x (by decide : (0 : Int) < 99)
  go_enter Try.func10, Try.ntmps10
  go_wp2_with fail
  refine (made_any A n c l w hl hn).mono ?_
  rintro e x0 ⟨C, q, cq, rfl, hqc, hgs, hb0⟩
  have HB0 := Lib.hid hb0
  have HG := Lib.hid hgs
  have Hok := Lib.hid (made_ok l)
  clear hl hb0 hgs
  generalize wrN l 0 = w0 at *
  generalize wrN l 1 = w1 at *
  generalize wrN l 2 = w2 at *
  generalize wrN l 3 = w3 at *
  generalize wrN l 4 = w4 at *
  generalize madeF l = F at *
  generalize madeG l = gs at *
  have hq9 : q ≤ 9 := by have := HG.out.len; have := Hok.out.2.1; omega
  have Hql := Lib.hid HG.out.len
  go_upto_region 2 with (fail)
  generalize hV : World.alloc x0 _ = V
  have hb : Below x0.heap.size x0 V := by subst hV; exact up_alloc _ _
  have KM : Bk V x0.heap.size [.int .i64 w0, .int .i64 w1, .int .i64 w2, .int .i64 w3, .int .i64 w4, .int .i64 F, .slice C q cq] := ⟨by subst hV; simp, by subst hV; intro j; simp [go_sem]⟩
  clear hV
  replace HG := Lib.hid (HG.out.keep hb)
  have HB1 := Lib.hid hb
  clear hb
  have KMl := KM.lt; have KMc := KM.get
  go_wp2_with (go_at_call 58; refine (mod_any _ _ _ (by decide) (by decide)).mono ?_; rintro e z1 ⟨rfl, rfl⟩)
  refine (next_any w0 w1 w2 w3 w4 F C q cq gs V HG.out hqc).mono ?_
  rintro e x1 ⟨rfl, hb⟩
  clear KMl KMc
  replace KM := KM.keep hb; replace HG := Lib.hid (HG.out.keep hb)
  have HX1 := Lib.hid hb
  clear hb
  have hcase := next_cases Hok.out.1 (by have := Hok.out.2.1; omega)
  have Hfree := Lib.hid (fun (y : Giv) (hy : y ∈ gs) => (by have := Hok.out.2.2 y hy; omega : y.o ≠ 99))
  have HaddE := Lib.hid (fun k => addE_free k Hok.out.1 (by have := Hok.out.2.1; omega) (by decide : (1 : Int) ≤ 99 ∧ (99 : Int) ≤ 99) Hfree.out)
  have Hadd : Hid (∀ (k : Nat) (X : World), apAll w0 w1 w2 w3 w4 F gs (markNo k) = false → Gs X C q gs → Calls Try.prog 43 #[.agg #[.int .i64 w0, .int .i64 w1, .int .i64 w2, .int .i64 w3, .int .i64 w4, .int .i64 F, .slice C q cq], .agg #[.int .i64 99, .int .i64 (markNo k).r0, .int .i64 (markNo k).r1, .int .i64 (markNo k).r2, .int .i64 (markNo k).r3, .int .i64 (markNo k).r4, .int .i64 (markNo k).r5]] X fun e w' => e = .returned (.tuple #[.agg #[.int .i64 0, .int .i64 0, .int .i64 0, .int .i64 0, .int .i64 0, .int .i64 0, .slice none 0 0], .int .i64 19]) ∧ Below X.heap.size X w') := Lib.hid (fun k X hap hG => by
    have e19 : addE w0 w1 w2 w3 w4 F gs ((markNo k).giv 99) = 19 := by rw [HaddE.out k, hap]; rfl
    have := addErr_any w0 w1 w2 w3 w4 F C q cq gs ((markNo k).giv 99) X hG hqc (by rw [e19]; decide)
    rw [e19] at this
    exact this)
  rcases hcase with ⟨k, hk, hN, hap, hbef⟩ | ⟨hN, hno⟩
  rotate_left
  · rw [hN]
    unfold encR zeroR
    dsimp only
    have Hno := Lib.hid hno
    clear hN hno
    have KMl := KM.lt; have KMc := KM.get
    go_upto_region 4 with (fail)
    clear KMl KMc
    generalize hV : World.alloc x1 _ = V2
    have hb : Below x1.heap.size x1 V2 := by subst hV; exact up_alloc _ _
    clear hV
    replace KM := KM.keep hb; replace HG := Lib.hid (HG.out.keep hb)
    have HV2 := Lib.hid hb
    clear hb
    go_wp2_with fail
    have g0 := Int.emod_nonneg nn (by decide : (15625 : Int) ≠ 0)
    have g1 := Int.emod_lt_of_pos nn (by decide : (0 : Int) < 15625)
    obtain ⟨kk, hkk⟩ := Int.eq_ofNat_of_zero_le g0
    have hkk2 : kk < 15625 := by omega
    have HMod : Hid (∀ X : World, Calls Try.prog 58 #[.int .i64 nn, .int .i64 15625] X fun e w' => e = .returned (.int .i64 kk) ∧ X = w') := Lib.hid (fun X => by have h := mod_any nn 15625 X (by decide) (by decide); rw [hkk] at h; exact h)
    have Hap := Lib.hid (Hno.out kk hkk2)
    clear hkk g0 g1
    refine wp_region_alloc_late 10 9 10 8 10 (.cells #[.int .i64 0, .int .i64 0, .int .i64 0, .int .i64 0, .int .i64 0, .int .i64 0, .slice none 0 0] 26) (by kernel_rfl) rfl (by decide) (by decide) rfl rfl (by decide) rfl rfl (by kernel_rfl) (by kernel_rfl) (by kernel_rfl) (fun N => by kernel_rfl) (fun a w => by simp [execOp, Act.eval, go_sem]) (by kernel_rfl) ?_
    apply Exists.intro
    refine ⟨fun b N hbN => ?_, fun N => ?_, fun W9 N hW9 hN9 hblk => ?_⟩
    · have KMb := KM.keep hbN
      have KMbl := KMb.lt
      have KMbc := KMb.get
      have HGb := Lib.hid (HG.out.keep hbN)
      simp only [List.set_cons_succ, List.set_cons_zero, ptrOp, List.take_succ_cons, List.take_zero]
      repeat (go_big_quiet_step ((first | (go_at_call 58; exact quiet_grow rfl (still_grow (HMod.out _))) | (go_at_call 57; exact quiet_grow rfl (numbered_any kk _ hkk2)) | (go_at_call 43; exact quiet_grow rfl (Hadd.out kk _ Hap.out (HGb.out.keep (grow_below _ _)))))))
      refine wpQuiet_nil ?_
      rfl
    · rfl
    simp only [List.set_cons_succ, List.set_cons_zero, late, List.drop_succ_cons, List.drop_zero]
    obtain ⟨hNb, nfr⟩ := made7 hblk
    have nlt := hNb.lt
    have nce := hNb.get
    go_wp2
    refine ⟨rfl, ?_⟩
    have hbU := put7_below hW9 hN9 (.int .i64 0) (.int .i64 0) (.int .i64 0) (.int .i64 0) (.int .i64 0) (.int .i64 0) (.slice none 0 0)
    generalize World.setCell _ ⟨N, 6, none⟩ _ = U at hbU ⊢
    have HbU := Lib.hid hbU
    clear hbU nlt nce nfr hNb hblk hW9 hN9
    go_wp2_with fail
    refine (sane_any _).mono ?_
    rintro e z2 ⟨rfl, hb⟩
    have HZ := Lib.hid hb
    clear hb
    go_wp2
    go_ret
    exact ⟨rfl, up HB0.out (up HB1.out (up HX1.out (up HV2.out (up HbU.out HZ.out))))⟩
  have Hm := Lib.hid (markNo_dig k)
  have HokC := Lib.hid (next_book Hok.out.1 Hok.out.2.1 Hok.out.2.2 hap).2
  have HaddOK : Hid (∀ X : World, Gs X C q gs → Calls Try.prog 43 #[.agg #[.int .i64 w0, .int .i64 w1, .int .i64 w2, .int .i64 w3, .int .i64 w4, .int .i64 F, .slice C q cq], .agg #[.int .i64 99, .int .i64 (markNo k).r0, .int .i64 (markNo k).r1, .int .i64 (markNo k).r2, .int .i64 (markNo k).r3, .int .i64 (markNo k).r4, .int .i64 (markNo k).r5]] X fun e w' => ∃ B k' c', e = .returned (.tuple #[.agg #[.int .i64 w0, .int .i64 w1, .int .i64 w2, .int .i64 w3, .int .i64 w4, .int .i64 F, .slice B k' c'], .int .i64 0]) ∧ k' ≤ c' ∧ Gs w' B k' (gs ++ [(markNo k).giv 99]) ∧ Below X.heap.size X w') := Lib.hid (fun X hG => by
    have e0 : addE w0 w1 w2 w3 w4 F gs ((markNo k).giv 99) = 0 := by rw [HaddE.out k, hap]; rfl
    have := add_any w0 w1 w2 w3 w4 F C q cq gs ((markNo k).giv 99) X hG hqc
    unfold addL at this
    rw [e0, (next_book Hok.out.1 Hok.out.2.1 Hok.out.2.2 hap).1] at this
    exact this)
  have HgiveOK : Hid (∀ X : World, Gs X C q gs → Calls Try.prog 41 #[.agg #[.int .i64 w0, .int .i64 w1, .int .i64 w2, .int .i64 w3, .int .i64 w4, .int .i64 F, .slice C q cq], .int .i64 99] X fun e w' => ∃ B k' c', e = .returned (.tuple #[.agg #[.int .i64 w0, .int .i64 w1, .int .i64 w2, .int .i64 w3, .int .i64 w4, .int .i64 F, .slice B k' c'], .int .i64 0]) ∧ k' ≤ c' ∧ Gs w' B k' (gs ++ [(markNo k).giv 99]) ∧ Below X.heap.size X w') := Lib.hid (fun X hG => by
    have e0 : giveE w0 w1 w2 w3 w4 F gs 99 = 0 := by
      unfold giveE; rw [newE_free Hok.out.1 (by decide) Hfree.out, hN]; rfl
    have := give_any w0 w1 w2 w3 w4 F 99 C q cq gs X hG hqc
    unfold giveL at this
    rw [e0, hN, (next_book Hok.out.1 Hok.out.2.1 Hok.out.2.2 hap).1] at this
    exact this)
  have HtakeC : Hid (∀ (B : Option Addr) (k' c' : Nat) (X : World), Gs X B k' (gs ++ [(markNo k).giv 99]) → k' ≤ c' → Calls Try.prog 45 #[.agg #[.int .i64 w0, .int .i64 w1, .int .i64 w2, .int .i64 w3, .int .i64 w4, .int .i64 F, .slice B k' c'], .int .i64 99] X fun e w' => ∃ B k' c', e = .returned (.tuple #[.agg #[.int .i64 w0, .int .i64 w1, .int .i64 w2, .int .i64 w3, .int .i64 w4, .int .i64 F, .slice B k' c'], .int .i64 0]) ∧ k' ≤ c' ∧ Gs w' B k' gs ∧ Below X.heap.size X w') := Lib.hid (fun B k' c' X hG hc => by
    have e0 := next_take HokC.out
    rw [show ((markNo k).giv 99).o = 99 from rfl] at e0
    have := take_any w0 w1 w2 w3 w4 F 99 B k' c' (gs ++ [(markNo k).giv 99]) X hG hc
    rw [e0.1, e0.2] at this
    exact this)
  have Hbef := Lib.hid hbef
  have Hval := Lib.hid (val_no k hk)
  rw [hN]
  unfold encR
  dsimp only
  clear hN hap hbef HaddE Hfree
  generalize hm : markNo k = m at *
  clear hm
  have Hhb := Lib.hid (hor_bd Hm.out)
  have KMl := KM.lt; have KMc := KM.get
  go_upto_region 4 with (fail)
  clear KMl KMc
  generalize hV : World.alloc x1 _ = V2
  have hb : Below x1.heap.size x1 V2 := by subst hV; exact up_alloc _ _
  have KB : Bk V2 x1.heap.size [.int .i64 m.r0, .int .i64 m.r1, .int .i64 m.r2, .int .i64 m.r3, .int .i64 m.r4, .int .i64 m.r5] := ⟨by subst hV; simp, by subst hV; intro j; simp [go_sem]⟩
  clear hV
  replace KM := KM.keep hb; replace HG := Lib.hid (HG.out.keep hb)
  have HV2 := Lib.hid hb
  clear hb
  go_wp2
  go_loop [12, 13] (fun a s => ∃ j : Nat, j ≤ 6 ∧ a = .int .i64 (hor m j) ∧ s = .int .i64 j) (fun _ s => 6 - (intOf s).toNat)
  case atStart => exact ⟨0, by omega, rfl, rfl⟩
  case round =>
    obtain ⟨j, hj, rfl, rfl⟩ := hrel
    by_cases hj6 : j < 6
    · have Hnx : Hid (hor m (j + 1) = hor m j * 5 + g6 m.r0 m.r1 m.r2 m.r3 m.r4 m.r5 j) := Lib.hid rfl
      have hcb : V2.cell? ⟨x1.heap.size, j, none⟩ = some (.int .i64 (g6 m.r0 m.r1 m.r2 m.r3 m.r4 m.r5 j)) := by
        rw [KB.get j]
        rcases (by omega : j = 0 ∨ j = 1 ∨ j = 2 ∨ j = 3 ∨ j = 4 ∨ j = 5) with rfl | rfl | rfl | rfl | rfl | rfl <;> rfl
      have hb1 := Hhb.out j (by omega)
      have hb2 := Hhb.out (j + 1) (by omega)
      rw [Hnx.out] at hb2
      generalize hor m j = v at *
      generalize g6 m.r0 m.r1 m.r2 m.r3 m.r4 m.r5 j = u at *
      obtain ⟨v0, v1⟩ := hb1
      obtain ⟨u0, u1⟩ := hb2
      have hbl := KB.lt
      have j0 : (0 : Int) ≤ (j : Int) := by omega
      have j1 : (j : Int) < 6 := by omega
      go_wp2
      exact ⟨⟨j + 1, by omega, by rw [Hnx.out], by go_num⟩, by simp [intOf]; omega⟩
    · obtain rfl : j = 6 := by omega
      rw [hor6, Hval.out]
      have k0 : (0 : Int) ≤ (k : Int) := by omega
      have k1 : (k : Int) < 15625 := by omega
      have k2 : ¬ (k : Int) < 0 := by omega
      have k3 : ¬ (15625 : Int) ≤ (k : Int) := by omega
      by_cases hk0 : k = 0
      · subst hk0
        clear Hadd Hbef Hval Hhb
        have KMl := KM.lt; have KMc := KM.get; have KBl := KB.lt; have KBc := KB.get
        go_wp2_with fail
        clear KMl KMc KBl KBc
        refine (HaddOK.out _ HG.out).mono ?_
        rintro e a1 ⟨B1, k1, c1, rfl, hc1, hg1, hb⟩
        have HA1 := Lib.hid hb
        replace KM := KM.keep hb
        replace KB := KB.keep hb
        replace HG := Lib.hid (HG.out.keep hb)
        clear hb
        have HG1 := Lib.hid hg1
        clear hg1
        have KMl := KM.lt; have KMc := KM.get
        go_upto_region 21 with (fail)
        clear KMl KMc
        generalize hV : World.alloc a1 _ = b1
        have hb : Below a1.heap.size a1 b1 := by subst hV; exact up_alloc _ _
        have K1 : Bk b1 a1.heap.size [.int .i64 w0, .int .i64 w1, .int .i64 w2, .int .i64 w3, .int .i64 w4, .int .i64 F, .slice B1 k1 c1] := ⟨by subst hV; simp, by subst hV; intro j; simp [go_sem]⟩
        clear hV
        have HBB1 := Lib.hid hb
        replace KM := KM.keep hb
        replace KB := KB.keep hb
        replace HG := Lib.hid (HG.out.keep hb)
        replace HG1 := Lib.hid (HG1.out.keep hb)
        clear hb
        have KMl := KM.lt; have KMc := KM.get
        go_wp2_with fail
        clear KMl KMc
        refine (HgiveOK.out _ HG.out).mono ?_
        rintro e a2 ⟨B2, k2, c2, rfl, hc2, hg2, hb⟩
        have HA2 := Lib.hid hb
        replace KM := KM.keep hb
        replace KB := KB.keep hb
        replace K1 := K1.keep hb
        replace HG := Lib.hid (HG.out.keep hb)
        replace HG1 := Lib.hid (HG1.out.keep hb)
        clear hb
        have HG2 := Lib.hid hg2
        clear hg2
        have KMl := KM.lt; have KMc := KM.get
        go_upto_region 22 with (fail)
        clear KMl KMc
        generalize hV : World.alloc a2 _ = b2
        have hb : Below a2.heap.size a2 b2 := by subst hV; exact up_alloc _ _
        have K2 : Bk b2 a2.heap.size [.int .i64 w0, .int .i64 w1, .int .i64 w2, .int .i64 w3, .int .i64 w4, .int .i64 F, .slice B2 k2 c2] := ⟨by subst hV; simp, by subst hV; intro j; simp [go_sem]⟩
        clear hV
        have HBB2 := Lib.hid hb
        replace KM := KM.keep hb
        replace KB := KB.keep hb
        replace K1 := K1.keep hb
        replace HG := Lib.hid (HG.out.keep hb)
        replace HG1 := Lib.hid (HG1.out.keep hb)
        replace HG2 := Lib.hid (HG2.out.keep hb)
        clear hb
        have hk12 : k1 = k2 := HG1.out.len.trans HG2.out.len.symm
        subst hk12
        have K1l := K1.lt; have K1c := K1.get; have K2l := K2.lt; have K2c := K2.get
        go_wp2_with fail
        clear K1l K1c K2l K2c
        refine (sameMarks_yes w0 w1 w2 w3 w4 F B1 B2 k1 c1 c2 _ _ HG1.out HG2.out).mono ?_
        rintro e a3 ⟨rfl, hb⟩
        have HA3 := Lib.hid hb
        replace KM := KM.keep hb
        replace KB := KB.keep hb
        replace K1 := K1.keep hb
        replace K2 := K2.keep hb
        replace HG := Lib.hid (HG.out.keep hb)
        replace HG1 := Lib.hid (HG1.out.keep hb)
        replace HG2 := Lib.hid (HG2.out.keep hb)
        clear hb
        have K1l := K1.lt; have K1c := K1.get; have K2l := K2.lt; have K2c := K2.get
        go_wp2_with fail
        clear K1l K1c K2l K2c
        refine (check_yes w0 w1 w2 w3 w4 F B1 k1 c1 _ _ HG1.out hc1 HokC.out).mono ?_
        rintro e a4 ⟨rfl, hb⟩
        have HA4 := Lib.hid hb
        replace KM := KM.keep hb
        replace KB := KB.keep hb
        replace K1 := K1.keep hb
        replace K2 := K2.keep hb
        replace HG := Lib.hid (HG.out.keep hb)
        replace HG1 := Lib.hid (HG1.out.keep hb)
        replace HG2 := Lib.hid (HG2.out.keep hb)
        clear hb
        clear HG2 K2 hc2
        go_wp2
        go_loopw [20] (fun s wr => ∃ (j : Nat) (z : Gr), j ≤ q ∧ s = .int .i64 j ∧ wr = grow a4 z) (fun s _ => q - (intOf s).toNat)
        case atStart => exact ⟨0, ⟨#[], a4.drawn⟩, by omega, rfl, by simp [grow]⟩
        case round =>
          obtain ⟨j, z, hj, rfl, rfl⟩ := hrel
          have HbY := Lib.hid (grow_below a4 z)
          have KMj := KM.keep HbY.out
          have K1j := K1.keep HbY.out
          by_cases hjq : j < q
          · have hjl : j < gs.length := by rw [← Hql.out]; exact hjq
            obtain ⟨bg, og, hCe, hbg, hga⟩ := HG.out.get j hjl
            subst hCe
            have Hfd := Lib.hid (next_found HokC.out j hjl)
            generalize gs[j] = g at *
            obtain ⟨a0', a1', a2', a3', a4', a5', a6'⟩ := hga
            have j0 : (0 : Int) ≤ (j : Int) := by omega
            have j1 : (j : Int) < (q : Int) := by omega
            have e0 := KM.lt
            have e1 := K1.lt
            have e5 : bg < a4.heap.size + z.blocks.size := by omega
            have KMjl := KMj.lt; have KMjc := KMj.get; have K1jl := K1j.lt; have K1jc := K1j.get
            go_wp2
            clear KMjl KMjc K1jl K1jc
            refine wp_region_alloc_late 12 11 21 10 12 (.cells #[.int .i64 0, .int .i64 0, .int .i64 0, .int .i64 0, .int .i64 0, .int .i64 0] 28) (by kernel_rfl) rfl (by decide) (by decide) rfl rfl (by decide) rfl rfl (by kernel_rfl) (by kernel_rfl) (by kernel_rfl) (fun N => by kernel_rfl) (fun a w => by simp [execOp, Act.eval, go_sem]) (by kernel_rfl) ?_
            apply Exists.intro
            refine ⟨fun b N hbN => ?_, fun N => ?_, fun W9 N hW9 hN9 hblk => ?_⟩
            · have hbV := up HbY.out hbN
              have KMb := KM.keep hbV
              have KMbl := KMb.lt
              have KMbc := KMb.get
              have K1b := K1.keep hbV
              have K1bl := K1b.lt
              have K1bc := K1b.get
              have e5b : bg < b.heap.size := by have := hbV.size; omega
              have u0 := (hbV.cell (p := ⟨bg, og + j * 7, none⟩) hbg).trans a0'
              have HG1b := Lib.hid (HG1.out.keep hbV)
              simp only [List.set_cons_succ, List.set_cons_zero, ptrOp, List.take_succ_cons, List.take_zero]
              repeat (go_big_quiet_step ((go_at_call 12; exact quiet_grow rfl ((markOf_any w0 w1 w2 w3 w4 F g.o B1 k1 c1 _ _ (HG1b.out.keep (grow_below _ _)) hc1).mono (fun e w' h => by rw [Hfd.out.1, Hfd.out.2] at h; exact h)))))
              refine wpQuiet_nil ?_
              rfl
            · rfl
            simp only [List.set_cons_succ, List.set_cons_zero, late, List.drop_succ_cons, List.drop_zero, Giv.agg]
            obtain ⟨n1, n2, n3⟩ := made6 hblk
            go_wp2
            refine ⟨rfl, ?_⟩
            have KA := put6_bk hblk (.int .i64 g.m0) (.int .i64 g.m1) (.int .i64 g.m2) (.int .i64 g.m3) (.int .i64 g.m4) (.int .i64 g.m5)
            have hbU := put6_below (up HbY.out hW9) (Nat.le_trans HbY.out.size hN9) (.int .i64 g.m0) (.int .i64 g.m1) (.int .i64 g.m2) (.int .i64 g.m3) (.int .i64 g.m4) (.int .i64 g.m5)
            generalize World.setCell _ ⟨N, 5, none⟩ _ = U at KA hbU ⊢
            clear n1 n2 n3 hblk hW9 hN9 e0 e1 e5 KMj K1j
            have HbU := Lib.hid hbU
            clear hbU
            have KMu := KM.keep HbU.out
            have e0 := KMu.lt
            have e5 : bg < U.heap.size := by have := HbU.out.size; omega
            have v0 := (HbU.out.cell (p := ⟨bg, og + j * 7 + 1, none⟩) hbg).trans a1'
            have v1 := (HbU.out.cell (p := ⟨bg, og + j * 7 + 2, none⟩) hbg).trans a2'
            have v2 := (HbU.out.cell (p := ⟨bg, og + j * 7 + 3, none⟩) hbg).trans a3'
            have v3 := (HbU.out.cell (p := ⟨bg, og + j * 7 + 4, none⟩) hbg).trans a4'
            have v4 := (HbU.out.cell (p := ⟨bg, og + j * 7 + 5, none⟩) hbg).trans a5'
            have v5 := (HbU.out.cell (p := ⟨bg, og + j * 7 + 6, none⟩) hbg).trans a6'
            have hs6 : same6 g.m0 g.m1 g.m2 g.m3 g.m4 g.m5 g.m0 g.m1 g.m2 g.m3 g.m4 g.m5 = true := by simp [same6]
            go_wp2_with fail
            have KAl := KA.lt
            have KAc := KA.get
            have KMuc := KMu.get
            refine wp_region_grow (by kernel_rfl) (by kernel_rfl) ?_
            repeat (go_big_quiet_step ((fail)))
            refine wpQuiet_nil ?_
            intro z2
            have Hz2 := Lib.hid (grow_below U z2)
            obtain ⟨y2, hy2⟩ := below_grow (up HbU.out Hz2.out)
            rw [hy2]
            clear hy2
            go_wp2
            exact ⟨⟨j + 1, y2, by omega, by go_num, rfl⟩, by simp [intOf]; omega⟩
          · obtain rfl : j = q := by omega
            generalize grow a4 z = T0 at *
            replace KM := KMj
            replace K1 := K1j
            clear KMj K1j
            replace HG := Lib.hid (HG.out.keep HbY.out)
            replace HG1 := Lib.hid (HG1.out.keep HbY.out)
            clear KB
            have KMl := KM.lt; have KMc := KM.get; have K1l := K1.lt; have K1c := K1.get
            go_wp2_with fail
            clear KMl KMc K1l K1c
            refine (HtakeC.out _ _ _ _ HG1.out hc1).mono ?_
            rintro e t1 ⟨B3, k3, c3, rfl, hc3, hg3, hb⟩
            have HT1 := Lib.hid hb
            replace KM := KM.keep hb
            replace K1 := K1.keep hb
            replace HG := Lib.hid (HG.out.keep hb)
            replace HG1 := Lib.hid (HG1.out.keep hb)
            clear hb
            have HG3 := Lib.hid hg3
            clear hg3
            have KMl := KM.lt; have KMc := KM.get
            go_upto_region 31 with (fail)
            clear KMl KMc
            generalize hV : World.alloc t1 _ = t2
            have hb : Below t1.heap.size t1 t2 := by subst hV; exact up_alloc _ _
            have K3 : Bk t2 t1.heap.size [.int .i64 w0, .int .i64 w1, .int .i64 w2, .int .i64 w3, .int .i64 w4, .int .i64 F, .slice B3 k3 c3] := ⟨by subst hV; simp, by subst hV; intro j; simp [go_sem]⟩
            clear hV
            have HT2 := Lib.hid hb
            replace KM := KM.keep hb
            replace K1 := K1.keep hb
            replace HG := Lib.hid (HG.out.keep hb)
            replace HG1 := Lib.hid (HG1.out.keep hb)
            replace HG3 := Lib.hid (HG3.out.keep hb)
            clear hb
            have KMl := KM.lt; have KMc := KM.get
            go_wp2_with fail
            clear KMl KMc
            refine (take_any w0 w1 w2 w3 w4 F (1 + x % 99) C j cq gs _ HG.out hqc).mono ?_
            rintro e t3 ⟨B4, k4, c4, rfl, hc4, hg4, hb⟩
            have HT3 := Lib.hid hb
            replace KM := KM.keep hb
            replace K1 := K1.keep hb
            replace K3 := K3.keep hb
            replace HG := Lib.hid (HG.out.keep hb)
            replace HG1 := Lib.hid (HG1.out.keep hb)
            replace HG3 := Lib.hid (HG3.out.keep hb)
            clear hb
            clear hg4 hc4
            generalize hE4 : findE w0 w1 w2 w3 w4 F gs (1 + x % 99) = E4
            have KMl := KM.lt; have KMc := KM.get
            go_upto_region 32 with (fail)
            clear KMl KMc
            generalize hV : World.alloc t3 _ = t4
            have hb : Below t3.heap.size t3 t4 := by subst hV; exact up_alloc _ _
            have K4 : Bk t4 t3.heap.size [.int .i64 (cv E4 w0), .int .i64 (cv E4 w1), .int .i64 (cv E4 w2), .int .i64 (cv E4 w3), .int .i64 (cv E4 w4), .int .i64 (cv E4 F), .slice B4 k4 c4] := ⟨by subst hV; simp, by subst hV; intro j; simp [go_sem]⟩
            clear hV
            have HT4 := Lib.hid hb
            replace KM := KM.keep hb
            replace K1 := K1.keep hb
            replace K3 := K3.keep hb
            replace HG := Lib.hid (HG.out.keep hb)
            replace HG1 := Lib.hid (HG1.out.keep hb)
            replace HG3 := Lib.hid (HG3.out.keep hb)
            clear hb
            clear K4
            have KMl := KM.lt; have KMc := KM.get
            go_wp2_with fail
            clear KMl KMc
            refine (markOf_any w0 w1 w2 w3 w4 F (1 + x % 99) C j cq gs _ HG.out hqc).mono ?_
            rintro e t5 ⟨rfl, hb⟩
            have HT5 := Lib.hid hb
            replace KM := KM.keep hb
            replace K1 := K1.keep hb
            replace K3 := K3.keep hb
            replace HG := Lib.hid (HG.out.keep hb)
            replace HG1 := Lib.hid (HG1.out.keep hb)
            replace HG3 := Lib.hid (HG3.out.keep hb)
            clear hb
            rw [hE4]
            unfold Giv.agg
            generalize foundM w0 w1 w2 w3 w4 F gs (1 + x % 99) = fm
            have KMl := KM.lt; have KMc := KM.get; have K3l := K3.lt; have K3c := K3.get
            go_upto_region 33 with (fail)
            clear KMl KMc K3l K3c
            generalize hV : World.alloc t5 _ = t6
            have hb : Below t5.heap.size t5 t6 := by subst hV; exact up_alloc _ _
            clear hV
            have HT6 := Lib.hid hb
            replace KM := KM.keep hb
            replace K1 := K1.keep hb
            replace K3 := K3.keep hb
            replace HG := Lib.hid (HG.out.keep hb)
            replace HG1 := Lib.hid (HG1.out.keep hb)
            replace HG3 := Lib.hid (HG3.out.keep hb)
            clear hb
            have hk3 : k3 = j := HG3.out.len.trans HG.out.len.symm
            subst hk3
            have KMl := KM.lt; have KMc := KM.get; have K3l := K3.lt; have K3c := K3.get
            go_wp2_with fail
            clear KMl KMc K3l K3c
            refine (sameMarks_yes w0 w1 w2 w3 w4 F B3 C k3 c3 cq gs _ HG3.out HG.out).mono ?_
            rintro e t7 ⟨rfl, hb⟩
            have HT7 := Lib.hid hb
            replace KM := KM.keep hb
            replace K1 := K1.keep hb
            replace K3 := K3.keep hb
            replace HG := Lib.hid (HG.out.keep hb)
            replace HG1 := Lib.hid (HG1.out.keep hb)
            replace HG3 := Lib.hid (HG3.out.keep hb)
            clear hb
            go_wp2_with fail
            refine (sane_any _).mono ?_
            rintro e t8 ⟨rfl, hb⟩
            have HT8 := Lib.hid hb; clear hb
            go_wp2
            go_ret
            exact ⟨rfl, up HB0.out (up HB1.out (up HX1.out (up HV2.out (up HA1.out (up HBB1.out (up HA2.out (up HBB2.out (up HA3.out (up HA4.out (up HbY.out (up HT1.out (up HT2.out (up HT3.out (up HT4.out (up HT5.out (up HT6.out (up HT7.out HT8.out)))))))))))))))))⟩
      have kp : (0 : Int) < (k : Int) := by omega
      go_wp2_with fail
      have g0 := Int.emod_nonneg nn (by omega : (k : Int) ≠ 0)
      have g1 := Int.emod_lt_of_pos nn kp
      obtain ⟨kk, hkk⟩ := Int.eq_ofNat_of_zero_le g0
      have hkk2 : kk < k := by omega
      have hkk3 : kk < 15625 := by omega
      have HMod : Hid (∀ X : World, Calls Try.prog 58 #[.int .i64 nn, .int .i64 (k : Int)] X fun e w' => e = .returned (.int .i64 kk) ∧ X = w') := Lib.hid (fun X => by have h := mod_any nn k X kp (by omega); rw [hkk] at h; exact h)
      have Hap := Lib.hid (Hbef.out kk hkk2)
      clear hkk g0 g1
      refine wp_region_alloc_late 11 10 14 9 11 (.cells #[.int .i64 0, .int .i64 0, .int .i64 0, .int .i64 0, .int .i64 0, .int .i64 0, .slice none 0 0] 26) (by kernel_rfl) rfl (by decide) (by decide) rfl rfl (by decide) rfl rfl (by kernel_rfl) (by kernel_rfl) (by kernel_rfl) (fun N => by kernel_rfl) (fun a w => by simp [execOp, Act.eval, go_sem]) (by kernel_rfl) ?_
      apply Exists.intro
      refine ⟨fun b N hbN => ?_, fun N => ?_, fun W9 N hW9 hN9 hblk => ?_⟩
      · have KMb := KM.keep hbN
        have KMbl := KMb.lt
        have KMbc := KMb.get
        have HGb := Lib.hid (HG.out.keep hbN)
        simp only [List.set_cons_succ, List.set_cons_zero, ptrOp, List.take_succ_cons, List.take_zero]
        repeat (go_big_quiet_step ((first | (go_at_call 58; exact quiet_grow rfl (still_grow (HMod.out _))) | (go_at_call 57; exact quiet_grow rfl (numbered_any kk _ hkk3)) | (go_at_call 43; exact quiet_grow rfl (Hadd.out kk _ Hap.out (HGb.out.keep (grow_below _ _)))))))
        refine wpQuiet_nil ?_
        rfl
      · rfl
      simp only [List.set_cons_succ, List.set_cons_zero, late, List.drop_succ_cons, List.drop_zero]
      obtain ⟨hNb, nfr⟩ := made7 hblk
      have nlt := hNb.lt
      have nce := hNb.get
      go_wp2
      refine ⟨rfl, ?_⟩
      have hbU := put7_below hW9 hN9 (.int .i64 0) (.int .i64 0) (.int .i64 0) (.int .i64 0) (.int .i64 0) (.int .i64 0) (.slice none 0 0)
      generalize World.setCell _ ⟨N, 6, none⟩ _ = U at hbU ⊢
      have HbU := Lib.hid hbU
      replace KM := KM.keep hbU; replace KB := KB.keep hbU; replace HG := Lib.hid (HG.out.keep hbU)
      clear hbU nlt nce nfr hNb hblk hW9 hN9 HMod Hap Hadd Hbef Hval Hhb
      have KMl := KM.lt; have KMc := KM.get; have KBl := KB.lt; have KBc := KB.get
      go_wp2_with fail
      clear KMl KMc KBl KBc
      refine (HaddOK.out _ HG.out).mono ?_
      rintro e a1 ⟨B1, k1, c1, rfl, hc1, hg1, hb⟩
      have HA1 := Lib.hid hb
      replace KM := KM.keep hb
      replace KB := KB.keep hb
      replace HG := Lib.hid (HG.out.keep hb)
      clear hb
      have HG1 := Lib.hid hg1
      clear hg1
      have KMl := KM.lt; have KMc := KM.get
      go_upto_region 21 with (fail)
      clear KMl KMc
      generalize hV : World.alloc a1 _ = b1
      have hb : Below a1.heap.size a1 b1 := by subst hV; exact up_alloc _ _
      have K1 : Bk b1 a1.heap.size [.int .i64 w0, .int .i64 w1, .int .i64 w2, .int .i64 w3, .int .i64 w4, .int .i64 F, .slice B1 k1 c1] := ⟨by subst hV; simp, by subst hV; intro j; simp [go_sem]⟩
      clear hV
      have HBB1 := Lib.hid hb
      replace KM := KM.keep hb
      replace KB := KB.keep hb
      replace HG := Lib.hid (HG.out.keep hb)
      replace HG1 := Lib.hid (HG1.out.keep hb)
      clear hb
      have KMl := KM.lt; have KMc := KM.get
      go_wp2_with fail
      clear KMl KMc
      refine (HgiveOK.out _ HG.out).mono ?_
      rintro e a2 ⟨B2, k2, c2, rfl, hc2, hg2, hb⟩
      have HA2 := Lib.hid hb
      replace KM := KM.keep hb
      replace KB := KB.keep hb
      replace K1 := K1.keep hb
      replace HG := Lib.hid (HG.out.keep hb)
      replace HG1 := Lib.hid (HG1.out.keep hb)
      clear hb
      have HG2 := Lib.hid hg2
      clear hg2
      have KMl := KM.lt; have KMc := KM.get
      go_upto_region 22 with (fail)
      clear KMl KMc
      generalize hV : World.alloc a2 _ = b2
      have hb : Below a2.heap.size a2 b2 := by subst hV; exact up_alloc _ _
      have K2 : Bk b2 a2.heap.size [.int .i64 w0, .int .i64 w1, .int .i64 w2, .int .i64 w3, .int .i64 w4, .int .i64 F, .slice B2 k2 c2] := ⟨by subst hV; simp, by subst hV; intro j; simp [go_sem]⟩
      clear hV
      have HBB2 := Lib.hid hb
      replace KM := KM.keep hb
      replace KB := KB.keep hb
      replace K1 := K1.keep hb
      replace HG := Lib.hid (HG.out.keep hb)
      replace HG1 := Lib.hid (HG1.out.keep hb)
      replace HG2 := Lib.hid (HG2.out.keep hb)
      clear hb
      have hk12 : k1 = k2 := HG1.out.len.trans HG2.out.len.symm
      subst hk12
      have K1l := K1.lt; have K1c := K1.get; have K2l := K2.lt; have K2c := K2.get
      go_wp2_with fail
      clear K1l K1c K2l K2c
      refine (sameMarks_yes w0 w1 w2 w3 w4 F B1 B2 k1 c1 c2 _ _ HG1.out HG2.out).mono ?_
      rintro e a3 ⟨rfl, hb⟩
      have HA3 := Lib.hid hb
      replace KM := KM.keep hb
      replace KB := KB.keep hb
      replace K1 := K1.keep hb
      replace K2 := K2.keep hb
      replace HG := Lib.hid (HG.out.keep hb)
      replace HG1 := Lib.hid (HG1.out.keep hb)
      replace HG2 := Lib.hid (HG2.out.keep hb)
      clear hb
      have K1l := K1.lt; have K1c := K1.get; have K2l := K2.lt; have K2c := K2.get
      go_wp2_with fail
      clear K1l K1c K2l K2c
      refine (check_yes w0 w1 w2 w3 w4 F B1 k1 c1 _ _ HG1.out hc1 HokC.out).mono ?_
      rintro e a4 ⟨rfl, hb⟩
      have HA4 := Lib.hid hb
      replace KM := KM.keep hb
      replace KB := KB.keep hb
      replace K1 := K1.keep hb
      replace K2 := K2.keep hb
      replace HG := Lib.hid (HG.out.keep hb)
      replace HG1 := Lib.hid (HG1.out.keep hb)
      replace HG2 := Lib.hid (HG2.out.keep hb)
      clear hb
      clear HG2 K2 hc2
      go_wp2
      go_loopw [20] (fun s wr => ∃ (j : Nat) (z : Gr), j ≤ q ∧ s = .int .i64 j ∧ wr = grow a4 z) (fun s _ => q - (intOf s).toNat)
      case atStart => exact ⟨0, ⟨#[], a4.drawn⟩, by omega, rfl, by simp [grow]⟩
      case round =>
        obtain ⟨j, z, hj, rfl, rfl⟩ := hrel
        have HbY := Lib.hid (grow_below a4 z)
        have KMj := KM.keep HbY.out
        have K1j := K1.keep HbY.out
        by_cases hjq : j < q
        · have hjl : j < gs.length := by rw [← Hql.out]; exact hjq
          obtain ⟨bg, og, hCe, hbg, hga⟩ := HG.out.get j hjl
          subst hCe
          have Hfd := Lib.hid (next_found HokC.out j hjl)
          generalize gs[j] = g at *
          obtain ⟨a0', a1', a2', a3', a4', a5', a6'⟩ := hga
          have j0 : (0 : Int) ≤ (j : Int) := by omega
          have j1 : (j : Int) < (q : Int) := by omega
          have e0 := KM.lt
          have e1 := K1.lt
          have e5 : bg < a4.heap.size + z.blocks.size := by omega
          have KMjl := KMj.lt; have KMjc := KMj.get; have K1jl := K1j.lt; have K1jc := K1j.get
          go_wp2
          clear KMjl KMjc K1jl K1jc
          refine wp_region_alloc_late 12 11 21 10 12 (.cells #[.int .i64 0, .int .i64 0, .int .i64 0, .int .i64 0, .int .i64 0, .int .i64 0] 28) (by kernel_rfl) rfl (by decide) (by decide) rfl rfl (by decide) rfl rfl (by kernel_rfl) (by kernel_rfl) (by kernel_rfl) (fun N => by kernel_rfl) (fun a w => by simp [execOp, Act.eval, go_sem]) (by kernel_rfl) ?_
          apply Exists.intro
          refine ⟨fun b N hbN => ?_, fun N => ?_, fun W9 N hW9 hN9 hblk => ?_⟩
          · have hbV := up HbY.out hbN
            have KMb := KM.keep hbV
            have KMbl := KMb.lt
            have KMbc := KMb.get
            have K1b := K1.keep hbV
            have K1bl := K1b.lt
            have K1bc := K1b.get
            have e5b : bg < b.heap.size := by have := hbV.size; omega
            have u0 := (hbV.cell (p := ⟨bg, og + j * 7, none⟩) hbg).trans a0'
            have HG1b := Lib.hid (HG1.out.keep hbV)
            simp only [List.set_cons_succ, List.set_cons_zero, ptrOp, List.take_succ_cons, List.take_zero]
            repeat (go_big_quiet_step ((go_at_call 12; exact quiet_grow rfl ((markOf_any w0 w1 w2 w3 w4 F g.o B1 k1 c1 _ _ (HG1b.out.keep (grow_below _ _)) hc1).mono (fun e w' h => by rw [Hfd.out.1, Hfd.out.2] at h; exact h)))))
            refine wpQuiet_nil ?_
            rfl
          · rfl
          simp only [List.set_cons_succ, List.set_cons_zero, late, List.drop_succ_cons, List.drop_zero, Giv.agg]
          obtain ⟨n1, n2, n3⟩ := made6 hblk
          go_wp2
          refine ⟨rfl, ?_⟩
          have KA := put6_bk hblk (.int .i64 g.m0) (.int .i64 g.m1) (.int .i64 g.m2) (.int .i64 g.m3) (.int .i64 g.m4) (.int .i64 g.m5)
          have hbU := put6_below (up HbY.out hW9) (Nat.le_trans HbY.out.size hN9) (.int .i64 g.m0) (.int .i64 g.m1) (.int .i64 g.m2) (.int .i64 g.m3) (.int .i64 g.m4) (.int .i64 g.m5)
          generalize World.setCell _ ⟨N, 5, none⟩ _ = U at KA hbU ⊢
          clear n1 n2 n3 hblk hW9 hN9 e0 e1 e5 KMj K1j
          have HbU := Lib.hid hbU
          clear hbU
          have KMu := KM.keep HbU.out
          have e0 := KMu.lt
          have e5 : bg < U.heap.size := by have := HbU.out.size; omega
          have v0 := (HbU.out.cell (p := ⟨bg, og + j * 7 + 1, none⟩) hbg).trans a1'
          have v1 := (HbU.out.cell (p := ⟨bg, og + j * 7 + 2, none⟩) hbg).trans a2'
          have v2 := (HbU.out.cell (p := ⟨bg, og + j * 7 + 3, none⟩) hbg).trans a3'
          have v3 := (HbU.out.cell (p := ⟨bg, og + j * 7 + 4, none⟩) hbg).trans a4'
          have v4 := (HbU.out.cell (p := ⟨bg, og + j * 7 + 5, none⟩) hbg).trans a5'
          have v5 := (HbU.out.cell (p := ⟨bg, og + j * 7 + 6, none⟩) hbg).trans a6'
          have hs6 : same6 g.m0 g.m1 g.m2 g.m3 g.m4 g.m5 g.m0 g.m1 g.m2 g.m3 g.m4 g.m5 = true := by simp [same6]
          go_wp2_with fail
          have KAl := KA.lt
          have KAc := KA.get
          have KMuc := KMu.get
          refine wp_region_grow (by kernel_rfl) (by kernel_rfl) ?_
          repeat (go_big_quiet_step ((fail)))
          refine wpQuiet_nil ?_
          intro z2
          have Hz2 := Lib.hid (grow_below U z2)
          obtain ⟨y2, hy2⟩ := below_grow (up HbU.out Hz2.out)
          rw [hy2]
          clear hy2
          go_wp2
          exact ⟨⟨j + 1, y2, by omega, by go_num, rfl⟩, by simp [intOf]; omega⟩
        · obtain rfl : j = q := by omega
          generalize grow a4 z = T0 at *
          replace KM := KMj
          replace K1 := K1j
          clear KMj K1j
          replace HG := Lib.hid (HG.out.keep HbY.out)
          replace HG1 := Lib.hid (HG1.out.keep HbY.out)
          clear KB
          have KMl := KM.lt; have KMc := KM.get; have K1l := K1.lt; have K1c := K1.get
          go_wp2_with fail
          clear KMl KMc K1l K1c
          refine (HtakeC.out _ _ _ _ HG1.out hc1).mono ?_
          rintro e t1 ⟨B3, k3, c3, rfl, hc3, hg3, hb⟩
          have HT1 := Lib.hid hb
          replace KM := KM.keep hb
          replace K1 := K1.keep hb
          replace HG := Lib.hid (HG.out.keep hb)
          replace HG1 := Lib.hid (HG1.out.keep hb)
          clear hb
          have HG3 := Lib.hid hg3
          clear hg3
          have KMl := KM.lt; have KMc := KM.get
          go_upto_region 31 with (fail)
          clear KMl KMc
          generalize hV : World.alloc t1 _ = t2
          have hb : Below t1.heap.size t1 t2 := by subst hV; exact up_alloc _ _
          have K3 : Bk t2 t1.heap.size [.int .i64 w0, .int .i64 w1, .int .i64 w2, .int .i64 w3, .int .i64 w4, .int .i64 F, .slice B3 k3 c3] := ⟨by subst hV; simp, by subst hV; intro j; simp [go_sem]⟩
          clear hV
          have HT2 := Lib.hid hb
          replace KM := KM.keep hb
          replace K1 := K1.keep hb
          replace HG := Lib.hid (HG.out.keep hb)
          replace HG1 := Lib.hid (HG1.out.keep hb)
          replace HG3 := Lib.hid (HG3.out.keep hb)
          clear hb
          have KMl := KM.lt; have KMc := KM.get
          go_wp2_with fail
          clear KMl KMc
          refine (take_any w0 w1 w2 w3 w4 F (1 + x % 99) C j cq gs _ HG.out hqc).mono ?_
          rintro e t3 ⟨B4, k4, c4, rfl, hc4, hg4, hb⟩
          have HT3 := Lib.hid hb
          replace KM := KM.keep hb
          replace K1 := K1.keep hb
          replace K3 := K3.keep hb
          replace HG := Lib.hid (HG.out.keep hb)
          replace HG1 := Lib.hid (HG1.out.keep hb)
          replace HG3 := Lib.hid (HG3.out.keep hb)
          clear hb
          clear hg4 hc4
          generalize hE4 : findE w0 w1 w2 w3 w4 F gs (1 + x % 99) = E4
          have KMl := KM.lt; have KMc := KM.get
          go_upto_region 32 with (fail)
          clear KMl KMc
          generalize hV : World.alloc t3 _ = t4
          have hb : Below t3.heap.size t3 t4 := by subst hV; exact up_alloc _ _
          have K4 : Bk t4 t3.heap.size [.int .i64 (cv E4 w0), .int .i64 (cv E4 w1), .int .i64 (cv E4 w2), .int .i64 (cv E4 w3), .int .i64 (cv E4 w4), .int .i64 (cv E4 F), .slice B4 k4 c4] := ⟨by subst hV; simp, by subst hV; intro j; simp [go_sem]⟩
          clear hV
          have HT4 := Lib.hid hb
          replace KM := KM.keep hb
          replace K1 := K1.keep hb
          replace K3 := K3.keep hb
          replace HG := Lib.hid (HG.out.keep hb)
          replace HG1 := Lib.hid (HG1.out.keep hb)
          replace HG3 := Lib.hid (HG3.out.keep hb)
          clear hb
          clear K4
          have KMl := KM.lt; have KMc := KM.get
          go_wp2_with fail
          clear KMl KMc
          refine (markOf_any w0 w1 w2 w3 w4 F (1 + x % 99) C j cq gs _ HG.out hqc).mono ?_
          rintro e t5 ⟨rfl, hb⟩
          have HT5 := Lib.hid hb
          replace KM := KM.keep hb
          replace K1 := K1.keep hb
          replace K3 := K3.keep hb
          replace HG := Lib.hid (HG.out.keep hb)
          replace HG1 := Lib.hid (HG1.out.keep hb)
          replace HG3 := Lib.hid (HG3.out.keep hb)
          clear hb
          rw [hE4]
          unfold Giv.agg
          generalize foundM w0 w1 w2 w3 w4 F gs (1 + x % 99) = fm
          have KMl := KM.lt; have KMc := KM.get; have K3l := K3.lt; have K3c := K3.get
          go_upto_region 33 with (fail)
          clear KMl KMc K3l K3c
          generalize hV : World.alloc t5 _ = t6
          have hb : Below t5.heap.size t5 t6 := by subst hV; exact up_alloc _ _
          clear hV
          have HT6 := Lib.hid hb
          replace KM := KM.keep hb
          replace K1 := K1.keep hb
          replace K3 := K3.keep hb
          replace HG := Lib.hid (HG.out.keep hb)
          replace HG1 := Lib.hid (HG1.out.keep hb)
          replace HG3 := Lib.hid (HG3.out.keep hb)
          clear hb
          have hk3 : k3 = j := HG3.out.len.trans HG.out.len.symm
          subst hk3
          have KMl := KM.lt; have KMc := KM.get; have K3l := K3.lt; have K3c := K3.get
          go_wp2_with fail
          clear KMl KMc K3l K3c
          refine (sameMarks_yes w0 w1 w2 w3 w4 F B3 C k3 c3 cq gs _ HG3.out HG.out).mono ?_
          rintro e t7 ⟨rfl, hb⟩
          have HT7 := Lib.hid hb
          replace KM := KM.keep hb
          replace K1 := K1.keep hb
          replace K3 := K3.keep hb
          replace HG := Lib.hid (HG.out.keep hb)
          replace HG1 := Lib.hid (HG1.out.keep hb)
          replace HG3 := Lib.hid (HG3.out.keep hb)
          clear hb
          go_wp2_with fail
          refine (sane_any _).mono ?_
          rintro e t8 ⟨rfl, hb⟩
          have HT8 := Lib.hid hb; clear hb
          go_wp2
          go_ret
          exact ⟨rfl, up HB0.out (up HB1.out (up HX1.out (up HV2.out (up HbU.out (up HA1.out (up HBB1.out (up HA2.out (up HBB2.out (up HA3.out (up HA4.out (up HbY.out (up HT1.out (up HT2.out (up HT3.out (up HT4.out (up HT5.out (up HT6.out (up HT7.out HT8.out))))))))))))))))))⟩

theorem markNext_lifted (os : Os) (started : os.Started) (H : Type) (enc : TypeId × Value → H) :
    ReturnsInHanded {} Try.checked os 10 .any (Rows.markNextSpec.pre6 enc Try.prog Try.f10 Rows.markNextRow.domain false) (Rows.markNextSpec.post enc Try.prog Try.f10 false true false false) := by
  refine law_lift started (by kernel_rfl) Try.func10 (ChangeSpec.witness6 (enc := enc) (C := Try.checked) false ⟨#[], #[.slice none 0 0, .int .i64 0, .int .i64 0], []⟩ 8 (by kernel_rfl) (by kernel_rfl) (by kernel_rfl) (by kernel_rfl))
    rfl rfl (fun ds h => ?_) ?_ ?_
  · match ds, h with
    | [a, b, c], _ => rfl
  · rw [Try.params10]; intro t ht; simp at ht; rcases ht with rfl | rfl | rfl <;> exact ⟨by kernel_rfl, of_decide_eq_true (by kernel_rfl)⟩
  · intro W base args ds p hval hA hz
    rw [Try.params10] at hA hval hz
    obtain ⟨v0, v1, v2, d0, d1, d2, p0, p1, p2, rfl, rfl, rfl, h0, h1, h2⟩ := trodAll_three hA
    obtain ⟨A, n, c, l, rfl, hl, _, hn, _⟩ := open_is (hval 0 54 v0 rfl rfl) h0 (hz 0 54 d0 rfl rfl)
    obtain ⟨x, rfl, _⟩ := open_int3 (hval 1 3 v1 rfl rfl) h1
    obtain ⟨y, rfl, _⟩ := open_int3 (hval 2 3 v2 rfl rfl) h2
    exact markNext_any A n c l x y W hl (by unfold reachBytes at hn; omega)

theorem markNext_holds : Rows.MarkNextSaid :=
  OpenClaim.holds_of_wide 10 Try.f10 rfl rfl rfl rfl rfl rfl rfl ⟨rfl, rfl, rfl, rfl, rfl⟩ rfl rfl rfl rfl rfl (by kernel_rfl) Try.func10 (by kernel_rfl)
    (of_decide_eq_true (by kernel_rfl)) (by unfold Func.isWrapper; first | (rw [if_pos (by decide +kernel)]; kernel_rfl) | (rw [if_neg (by decide +kernel)]; exact ⟨rfl, rfl⟩))
    (fun os started H enc _ => markNext_lifted os started H enc)
end Go.Proofs.Ytbieopkohkomoaa

