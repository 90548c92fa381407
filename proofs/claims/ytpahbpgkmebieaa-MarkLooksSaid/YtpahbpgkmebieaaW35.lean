/- The owners that are left when places were looked at again: the reference. Own text. -/
import Derived.Test.YtpahbpgkmebieaaW34
namespace Go.Proofs.Ytpahbpgkmebieaa
open Go Go.RowKit
set_option maxHeartbeats 400000
set_option maxRecDepth 100000

theorem ownG_take (w0 w1 w2 w3 w4 : Int) (s : Rd) (l : List Int) (P : List Giv) (k : Nat) (hk : k < P.length) : keepG w0 w1 w2 w3 w4 s l (P.take (k + 1)) = if meetAll (rowOf w0 w1 w2 w3 w4 P[k]) s l = true then keepG w0 w1 w2 w3 w4 s l (P.take k) ++ [P[k]] else keepG w0 w1 w2 w3 w4 s l (P.take k) := by
  rw [List.take_succ_eq_append_getElem hk]
  cases h : meetAll (rowOf w0 w1 w2 w3 w4 P[k]) s l
  · rw [keepG_no h]; simp
  · rw [keepG_yes h]; simp

set_option maxHeartbeats 1600000 in
theorem refLooked_any (w0 w1 w2 w3 w4 F : Int) (A : Option Addr) (n c : Nat) (gs : List Giv) (r s : Rd) (B : Option Addr) (n' c' : Nat) (l : List Int) (w : World) (hg : Gs w A n gs) (hl : Is w B n' l) :
    Calls Try.prog 51 #[.agg #[.int .i64 w0, .int .i64 w1, .int .i64 w2, .int .i64 w3, .int .i64 w4, .int .i64 F, .slice A n c], .agg #[.int .i64 r.r0, .int .i64 r.r1, .int .i64 r.r2, .int .i64 r.r3, .int .i64 r.r4, .int .i64 r.r5, .int .i64 s.r0, .int .i64 s.r1, .int .i64 s.r2, .int .i64 s.r3, .int .i64 s.r4, .int .i64 s.r5, .slice B n' c']] w fun e w' =>
      ∃ v, e = .returned (.tuple #[v, .int .i64 (lookE w0 w1 w2 w3 w4 F gs r s l)]) ∧ w'.ownsRow w.heap.size 3 1 v (lookG w0 w1 w2 w3 w4 F gs r s l).length (ints (own (lookG w0 w1 w2 w3 w4 F gs r s l))) ∧ Below w.heap.size w w' := by
  have hn' := hl.small
  have Hl : Hid (n = gs.length) := Lib.hid hg.len
  have Hl' : Hid (n' = l.length) := Lib.hid hl.len
  obtain ⟨i0, hi, hz0, hz1, hz2⟩ := info_parts info3
  have HI0 := Lib.hid hi
  have HZ0 := Lib.hid hz0
  have HZ1 := Lib.hid hz1
  have HZ2 := Lib.hid hz2
  clear hi hz0 hz1 hz2
  go_enter Try.func51, Try.ntmps51
  go_wp2_with fail
  generalize hW : (World.alloc _ _) = W
  have HW : Hid (Below w.heap.size w W) := Lib.hid (by subst hW; go_grown)
  have KM : Bk W w.heap.size [.int .i64 w0, .int .i64 w1, .int .i64 w2, .int .i64 w3, .int .i64 w4, .int .i64 F, .slice A n c] := ⟨by subst hW; simp only [World.size_alloc]; omega, by subst hW; intro j; simp [go_sem]⟩
  have KS : Bk W (w.heap.size + 1) [.int .i64 r.r0, .int .i64 r.r1, .int .i64 r.r2, .int .i64 r.r3, .int .i64 r.r4, .int .i64 r.r5, .int .i64 s.r0, .int .i64 s.r1, .int .i64 s.r2, .int .i64 s.r3, .int .i64 s.r4, .int .i64 s.r5, .slice B n' c'] := ⟨by subst hW; simp only [World.size_alloc]; omega, by subst hW; intro j; simp [go_sem]⟩
  clear hW
  have HG := Lib.hid (hg.keep HW.out)
  have HI := Lib.hid (hl.keep HW.out)
  clear hg hl
  have HlE : Hid (lookE3 w0 w1 w2 w3 w4 F gs r s = if brE w0 w1 w2 w3 w4 F gs r = 0 then err s.ok 12 else brE w0 w1 w2 w3 w4 F gs r) := Lib.hid (by
    unfold lookE3 brE
    rw [firstE_cons, firstE_cons, firstE_cons, firstE_cons, firstE_cons]
    by_cases h1 : err (okB w0 w1 w2 w3 w4 F gs) 13 = 0
    · rw [if_pos h1, if_pos h1]
      by_cases h2 : err r.ok 12 = 0
      · rw [if_pos h2, if_pos h2]
        by_cases h3 : err s.ok 12 = 0
        · rw [if_pos h3, h3]; rfl
        · rw [if_neg h3]; rfl
      · rw [if_neg h2, if_neg h2, if_neg h2]
    · rw [if_neg h1, if_neg h1, if_neg h1])
  refine (refOwners_any w0 w1 w2 w3 w4 F A n c gs r W HG.out).mono ?_
  rintro e V ⟨v, rfl, hown, hb⟩
  replace HG := Lib.hid (HG.out.keep hb)
  replace HI := Lib.hid (HI.out.keep hb)
  replace KM := KM.keep hb; replace KS := KS.keep hb
  have HV := Lib.hid hb
  clear hb
  have KMl := KM.lt; have KMc := KM.get; have KSl := KS.lt; have KSc := KS.get
  by_cases hE : brE w0 w1 w2 w3 w4 F gs r = 0
  rotate_left
  · have HE := Lib.hid hE
    have hb : (brE w0 w1 w2 w3 w4 F gs r != 0) = true := by simpa using hE
    have Hx : Hid (lookE w0 w1 w2 w3 w4 F gs r s l = brE w0 w1 w2 w3 w4 F gs r) := Lib.hid (by
      have e3 := HlE.out
      rw [if_neg hE] at e3
      unfold lookE
      rw [e3, if_neg hE])
    clear hE hown
    go_wp2
    go_ret2
    refine ⟨_, by rw [Hx.out]; rfl, ?_, up HW.out HV.out⟩
    unfold lookG; rw [Hx.out, if_neg HE.out]; exact World.ownsRow_nil _ _ _ _
  have HE := Lib.hid hE
  have Ob := Lib.hid (brE_ok hE).1
  have Hbr : Hid (brG w0 w1 w2 w3 w4 F gs r = possG w0 w1 w2 w3 w4 F [r] gs) := Lib.hid (by unfold brG; rw [if_pos hE])
  rw [Hbr.out] at hown
  rw [hE]
  obtain ⟨A2, c2, rfl, _, hi2⟩ := Is.of_own hown
  have HO := Lib.hid hi2
  have H3 : Hid (lookE3 w0 w1 w2 w3 w4 F gs r s = err s.ok 12) := Lib.hid (by have e3 := HlE.out; rwa [if_pos hE] at e3)
  clear hE hown hi2 Hbr
  have h40 : n ≤ 40 := by have := Hl.out; have := okB_40 Ob.out; omega
  cases hs : s.ok
  · have Hs := Lib.hid hs
    have Hx : Hid (lookE w0 w1 w2 w3 w4 F gs r s l = 12) := Lib.hid (by
      unfold lookE
      rw [H3.out, err_f (b := s.ok) 12 (by simp [hs]), if_neg (by decide)])
    clear hs
    go_wp2_with (go_at_call 19; refine (refCheckReading_no _ _ _ _ _ _ _ Hs.out).mono ?_; rintro e x2 ⟨rfl, hb2⟩)
    go_ret2
    refine ⟨_, by rw [Hx.out]; rfl, ?_, up HW.out (up HV.out hb2)⟩
    unfold lookG; rw [Hx.out, if_neg (by decide)]; exact World.ownsRow_nil _ _ _ _
  have Hs := Lib.hid hs
  have H0 : Hid (lookE3 w0 w1 w2 w3 w4 F gs r s = 0) := Lib.hid (by rw [H3.out, err_t (b := s.ok) 12 hs])
  clear hs
  go_wp2_with fail
  refine (refCheckReading_yes _ _ _ _ _ _ _ Hs.out).mono ?_
  rintro e x2 ⟨rfl, hb2⟩
  replace HG := Lib.hid (HG.out.keep hb2)
  replace HI := Lib.hid (HI.out.keep hb2)
  replace HO := Lib.hid (HO.out.keep hb2)
  clear KMl KMc KSl KSc; replace KM := KM.keep hb2; have KMl := KM.lt; have KMc := KM.get; replace KS := KS.keep hb2; have KSl := KS.lt; have KSc := KS.get; have HB2 := Lib.hid hb2; clear hb2
  cases hr : riseB l (-1)
  · have Hr := Lib.hid hr
    clear hr
    go_wp2_with (go_at_call 101; refine (arePlaces_any _ _ _ l _ HI.out).mono ?_; rintro e x3 ⟨rfl, hb3⟩; rw [Hr.out])
    go_ret2
    refine ⟨_, by rw [lookE_18 H0.out Hr.out]; rfl, ?_, up HW.out (up HV.out (up HB2.out hb3))⟩
    unfold lookG; rw [lookE_18 H0.out Hr.out]; exact World.ownsRow_nil _ _ _ _
  have Hr := Lib.hid hr
  have Hin := Lib.hid (riseB_in l (-1) (by omega) hr)
  clear hr
  go_wp2_with fail
  refine (arePlaces_any _ _ _ l _ HI.out).mono ?_
  rintro e U ⟨rfl, hb3⟩
  rw [Hr.out]
  replace HG := Lib.hid (HG.out.keep hb3)
  replace HI := Lib.hid (HI.out.keep hb3)
  replace HO := Lib.hid (HO.out.keep hb3)
  clear KMl KMc KSl KSc; replace KM := KM.keep hb3; have KMl := KM.lt; have KMc := KM.get; replace KS := KS.keep hb3; have KSl := KS.lt; have KSc := KS.get; have HB3 := Lib.hid hb3; clear hb3
  have HBA := Lib.hid (up HW.out (up HV.out (up HB2.out HB3.out)))
  clear HV HB2 HB3
  have hpl : (possG w0 w1 w2 w3 w4 F [r] gs).length ≤ 40 := Nat.le_trans (possG_len w0 w1 w2 w3 w4 F [r] gs) (okB_40 Ob.out)
  have HSub : Hid (∀ g ∈ possG w0 w1 w2 w3 w4 F [r] gs, g ∈ gs) := Lib.hid (possG_sub)
  have HLG : Hid (lookG w0 w1 w2 w3 w4 F gs r s l = keepG w0 w1 w2 w3 w4 s l (possG w0 w1 w2 w3 w4 F [r] gs)) := Lib.hid (by unfold lookG; rw [lookE_0 H0.out Hr.out, if_pos rfl])
  have HLE := Lib.hid (lookE_0 H0.out Hr.out)
  generalize hP : possG w0 w1 w2 w3 w4 F [r] gs = P at *
  clear hP
  generalize hm : P.length = m at *
  have Hm := Lib.hid hm
  clear hm
  go_wp2
  go_loopw [8, 9] (fun v i wr => ∃ (k : Nat) (z : Gr), k ≤ m ∧ i = .int .i64 k ∧ wr = grow U z ∧ (grow U z).ownsRow U.heap.size 3 1 v (keepG w0 w1 w2 w3 w4 s l (P.take k)).length (ints (own (keepG w0 w1 w2 w3 w4 s l (P.take k))))) (fun _ i _ => m - (intOf i).toNat)
  case atStart => exact ⟨0, ⟨#[], U.drawn⟩, by omega, rfl, by simp [grow], World.ownsRow_nil _ _ _ _⟩
  case round =>
    obtain ⟨k, z, hk, rfl, rfl, hown⟩ := hrel
    have Hown := Lib.hid hown; clear hown
    have hklen : (keepG w0 w1 w2 w3 w4 s l (P.take k)).length ≤ 40 := Nat.le_trans (keepG_len w0 w1 w2 w3 w4 s l (P.take k)) (by simp; omega)
    by_cases hlt : k < m
    rotate_left
    · obtain rfl : k = m := by omega
      have Hf : Hid (keepG w0 w1 w2 w3 w4 s l (P.take k) = keepG w0 w1 w2 w3 w4 s l P) := Lib.hid (by rw [List.take_of_length_le (by rw [Hm.out]; exact Nat.le_refl _)])
      go_wp2
      go_ret2
      refine ⟨_, by rw [HLE.out]; rfl, ?_, up HBA.out (grow_below U z)⟩
      rw [HLG.out, ← Hf.out]
      exact own_mono Hown.out HBA.out.size
    have hkP : k < P.length := by rw [Hm.out]; exact hlt
    have Htk := Lib.hid (ownG_take w0 w1 w2 w3 w4 s l P k hkP)
    have hmem := HSub.out _ (List.getElem_mem hkP)
    obtain ⟨ja, hja, hpa, hga⟩ := found_at Ob.out hmem
    have Hoka := Lib.hid (okB_ok Ob.out _ hmem)
    have hown_a : (own P)[k]'(by simpa [own] using hkP) = P[k].o := by simp [own]
    obtain ⟨b2, o2, rfl, hb2, hc2⟩ := HO.out.get k (by simpa [own] using hkP)
    rw [hown_a] at hc2
    clear hown_a hmem
    generalize P[k] = a at *
    have Hpa := Lib.hid hpa
    clear hpa
    obtain ⟨bg, og, rfl, hbg, hga2⟩ := HG.out.get ja hja
    rw [hga] at hga2
    obtain ⟨a0', a1', a2', a3', a4', a5', a6'⟩ := hga2
    clear hga
    have hjan : ja < n := by rw [Hl.out]; exact hja
    generalize hX : keepG w0 w1 w2 w3 w4 s l (P.take k) = Xk at *
    have HX := Lib.hid hX
    clear hX
    generalize hnX : Xk.length = nX at *
    have HnX := Lib.hid hnX
    clear hnX
    have e2 : b2 < U.heap.size + z.blocks.size := by omega
    have e1 : w.heap.size < U.heap.size + z.blocks.size := by omega
    have HbY := Lib.hid (grow_below U z)
    go_wp2
    refine wp_region_alloc 12 11 10 (.cells #[.int .i64 0, .int .i64 0, .int .i64 0, .int .i64 0, .int .i64 0, .int .i64 0] 28) (by kernel_rfl) rfl (fun N => by kernel_rfl) (by decide) (fun a w => by simp [execOp, Act.eval, go_sem]) (by kernel_rfl) ?_
    apply Exists.intro
    refine ⟨fun b N hbN => ?_, fun N => ?_, fun W9 N hW9 hN9 hblk => ?_⟩
    · have hbV := up HbY.out hbN
      have KMb := KM.keep hbV
      have KMbl := KMb.lt
      have KMbc := KMb.get
      have e1b : w.heap.size < b.heap.size := KMb.lt
      have e2b : b2 < b.heap.size := by have := hbV.size; omega
      have e5b : bg < b.heap.size := by have := hbV.size; omega
      have u3 := (hbV.cell (p := ⟨b2, o2 + k, none⟩) hb2).trans hc2
      have u4 := (hbV.cell (p := ⟨bg, og + ja * 7 + 1, none⟩) hbg).trans a1'
      have u5 := (hbV.cell (p := ⟨bg, og + ja * 7 + 2, none⟩) hbg).trans a2'
      have u6 := (hbV.cell (p := ⟨bg, og + ja * 7 + 3, none⟩) hbg).trans a3'
      have u7 := (hbV.cell (p := ⟨bg, og + ja * 7 + 4, none⟩) hbg).trans a4'
      have u8 := (hbV.cell (p := ⟨bg, og + ja * 7 + 5, none⟩) hbg).trans a5'
      have u9 := (hbV.cell (p := ⟨bg, og + ja * 7 + 6, none⟩) hbg).trans a6'
      have HGb := Lib.hid (HG.out.keep hbV)
      simp only [List.set_cons_succ, List.set_cons_zero, ptrOp, List.take_succ_cons, List.take_zero]
      repeat (go_big_quiet_step ((go_at_call 66; exact quiet_grow rfl (refIndex_at _ _ _ gs _ (HGb.out.keep (grow_below _ _)) ja Hpa.out))))
      refine wpQuiet_nil ?_
      rfl
    · rfl
    simp only [List.drop_succ_cons, List.drop_zero]
    obtain ⟨n1, n2, n3⟩ := made6 hblk
    go_wp2
    have KA := put6_bk hblk (.int .i64 a.m0) (.int .i64 a.m1) (.int .i64 a.m2) (.int .i64 a.m3) (.int .i64 a.m4) (.int .i64 a.m5)
    have hbX := put6_below hW9 hN9 (.int .i64 a.m0) (.int .i64 a.m1) (.int .i64 a.m2) (.int .i64 a.m3) (.int .i64 a.m4) (.int .i64 a.m5)
    generalize World.setCell _ ⟨N, 5, none⟩ _ = X at KA hbX ⊢
    have HbX := Lib.hid (up HbY.out hbX)
    have HOX := Lib.hid (own_below Hown.out hbX)
    have KMX := KM.keep HbX.out
    have KSX := KS.keep HbX.out
    have HIX := Lib.hid (HI.out.keep HbX.out)
    have hc2X := (HbX.out.cell (p := ⟨b2, o2 + k, none⟩) hb2).trans hc2
    have hb2X : b2 < X.heap.size := by have := HbX.out.size; omega
    clear n1 n2 n3 hblk hW9 hN9 hbX e1 e2 hc2
    have HWT : Hid (∀ s : Int, 0 ≤ s → s < 5 → [Value.int .i64 w0, .int .i64 w1, .int .i64 w2, .int .i64 w3, .int .i64 w4, .int .i64 F, .slice (some ⟨bg, og, none⟩) n c][s.toNat]? = some (.int .i64 (g5 w0 w1 w2 w3 w4 s))) := Lib.hid (fun s h0 h1 => by
      rcases (by omega : s = 0 ∨ s = 1 ∨ s = 2 ∨ s = 3 ∨ s = 4) with rfl | rfl | rfl | rfl | rfl <;> rfl)
    have HST : Hid (∀ i : Int, 0 ≤ i → i < 6 → [Value.int .i64 r.r0, .int .i64 r.r1, .int .i64 r.r2, .int .i64 r.r3, .int .i64 r.r4, .int .i64 r.r5, .int .i64 s.r0, .int .i64 s.r1, .int .i64 s.r2, .int .i64 s.r3, .int .i64 s.r4, .int .i64 s.r5, .slice B n' c'][6 + i.toNat]? = some (.int .i64 (g6 s.r0 s.r1 s.r2 s.r3 s.r4 s.r5 i))) := Lib.hid (fun i h0 h1 => by
      rcases (by omega : i = 0 ∨ i = 1 ∨ i = 2 ∨ i = 3 ∨ i = 4 ∨ i = 5) with rfl | rfl | rfl | rfl | rfl | rfl <;> rfl)
    have l1 := KA.lt
    have l2 := KSX.lt
    have l3 := KMX.lt
    have cB : X.cell? ⟨w.heap.size + 1, 12, none⟩ = some (.slice B n' c') := KSX.get 12
    go_loopw [11, 12] (fun t i wr => ∃ (u : Nat) (x : Gr) (p : Bool), u ≤ n' ∧ i = .int .i64 u ∧ t = .bool p ∧ wr = grow X x ∧ meetAll (rowOf w0 w1 w2 w3 w4 a) s (l.take u) = p) (fun _ i _ => n' - (intOf i).toNat)
    case atStart => exact ⟨0, ⟨#[], X.drawn⟩, true, by omega, rfl, rfl, by simp [grow], rfl⟩
    case round =>
      obtain ⟨u, x, pb, hu, rfl, rfl, rfl, hpb⟩ := hrel
      have Hpb := Lib.hid hpb
      clear hpb
      have l4 : N < X.heap.size + x.blocks.size := by omega
      have l5 : w.heap.size + 1 < X.heap.size + x.blocks.size := by omega
      have l6 : w.heap.size < X.heap.size + x.blocks.size := by omega
      have l8 : b2 < X.heap.size + x.blocks.size := by omega
      by_cases hlt3 : u < n'
      · have hul : u < l.length := by rw [← Hl'.out]; exact hlt3
        have Htu : Hid (l.take (u + 1) = l.take u ++ [l[u]]) := Lib.hid (List.take_succ_eq_append_getElem hul)
        obtain ⟨hx0, hx6⟩ := Hin.out _ (List.getElem_mem hul)
        obtain ⟨b4, o4, rfl, hb4, hc4⟩ := HIX.out.get u hul
        generalize l[u] = p at *
        have l7 : b4 < X.heap.size + x.blocks.size := by omega
        obtain ⟨sa0, sa5⟩ := g6_bd ((okM_iff _ _ _ _ _ _).2 Hoka.out) hx0 hx6
        have ca : X.cell? ⟨N, p.toNat, none⟩ = some (.int .i64 (g6 a.m0 a.m1 a.m2 a.m3 a.m4 a.m5 p)) := (KA.get _).trans (at6 _ _ _ _ _ _ p hx0 hx6)
        have cs : X.cell? ⟨w.heap.size + 1, 6 + p.toNat, none⟩ = some (.int .i64 (g6 s.r0 s.r1 s.r2 s.r3 s.r4 s.r5 p)) := (KSX.get _).trans (HST.out p hx0 hx6)
        have HmB : Hid (meetB (rowOf w0 w1 w2 w3 w4 a) s p = (band (g5 w0 w1 w2 w3 w4 (g6 a.m0 a.m1 a.m2 a.m3 a.m4 a.m5 p)) (g6 s.r0 s.r1 s.r2 s.r3 s.r4 s.r5 p) != 0)) := Lib.hid (by
          unfold meetB rowOf; dsimp only; rw [g6_map (g5 w0 w1 w2 w3 w4)])
        generalize g6 a.m0 a.m1 a.m2 a.m3 a.m4 a.m5 p = sa at *
        generalize g6 s.r0 s.r1 s.r2 s.r3 s.r4 s.r5 p = ys at *
        have cw : X.cell? ⟨w.heap.size, sa.toNat, none⟩ = some (.int .i64 (g5 w0 w1 w2 w3 w4 sa)) := (KMX.get _).trans (HWT.out sa sa0 sa5)
        generalize g5 w0 w1 w2 w3 w4 sa = ya at *
        cases pb
        · go_wp2
          refine wp_region_grow (by kernel_rfl) (by kernel_rfl) ?_
          repeat (go_big_quiet_step ((fail)))
          refine wpQuiet_nil ?_
          intro x1
          obtain ⟨x2, hx2⟩ := grow_grow X x x1
          rw [hx2]
          clear hx2
          go_wp2
          refine ⟨⟨u + 1, x2, false, by omega, by go_num, rfl, rfl, ?_⟩, by simp [intOf]; omega⟩
          rw [Htu.out, meetAll_snoc, Hpb.out]; rfl
        · cases hz : (band ya ys != 0)
          all_goals
            have Hz := Lib.hid hz
            have hz2 : (bits BinOp.and IntKind.i64 ya ys != 0) = _ := hz
            clear hz
            go_wp2
            refine wp_region_grow (by kernel_rfl) (by kernel_rfl) ?_
            repeat (go_big_quiet_step ((fail)))
            refine wpQuiet_nil ?_
            intro x1
            obtain ⟨x2, hx2⟩ := grow_grow X x x1
            rw [hx2]
            clear hx2
            go_wp2
            refine ⟨⟨u + 1, x2, _, by omega, by go_num, rfl, rfl, ?_⟩, by simp [intOf]; omega⟩
            rw [Htu.out, meetAll_snoc, Hpb.out, HmB.out, Hz.out]; rfl
      · obtain rfl : u = n' := by omega
        have Hfull : Hid (meetAll (rowOf w0 w1 w2 w3 w4 a) s l = pb) := Lib.hid (by
          have := Hpb.out
          rwa [List.take_of_length_le (by rw [← Hl'.out]; exact Nat.le_refl _)] at this)
        have Ho : Hid ((grow X x).ownsRow U.heap.size 3 1 _ nX (ints (own Xk))) := Lib.hid (own_below HOX.out (grow_below X x))
        cases pb
        · go_wp2
          obtain ⟨y2, hy2⟩ := below_grow (up HbX.out (grow_below X x))
          refine ⟨⟨k + 1, y2, by omega, by go_num, hy2, ?_⟩, by simp [intOf]; omega⟩
          rw [← hy2, Htk.out, if_neg (by simp [Hfull.out]), HnX.out]
          exact Ho.out
        · go_wp2_with (at_builtin; refine wpList_append_own _ rfl _ _ 54 rfl U.heap.size 3 i0 (.int .i64 0) 1 8 Try.underlying54 HI0.out HZ0.out HZ1.out HZ2.out rfl (by decide) _ _ _ rfl (Ho.out.alloc _) ⟨X.heap.size + x.blocks.size, 0, none⟩ 1 1 [.int .i64 a.o] rfl rfl ?c1 ?c2 ?c3 ?c4 ?c5 ?_)
          case c1 =>
            intro j u hu
            rw [Addr.add_lit, World.cell?_alloc_at _ _ _ _ (by simp), Nat.zero_add]
            simpa using hu
          case c2 => intro u hu; simp at hu; subst hu; rfl
          case c3 => unfold maxLen; omega
          case c4 => omega
          case c5 => have := HbX.out.size; simp; omega
          intro v' w' hown' hgr _
          have hbel : Below U.heap.size U w' := (up HbX.out (up (grow_below X x) (up_alloc _ _))).grown hgr (by have := HbX.out.size; simp; omega) (fun q hq => (Ho.out.lt q hq).1)
          have Hown' := Lib.hid hown'
          clear hown' hgr
          obtain ⟨y2, rfl⟩ := below_grow hbel
          go_wp2
          refine ⟨⟨k + 1, y2, by omega, by go_num, rfl, ?_⟩, by simp [intOf]; omega⟩
          rw [Htk.out, if_pos Hfull.out, own_snoc, ints_snoc, List.length_append, HnX.out]
          exact Hown'.out
end Go.Proofs.Ytpahbpgkmebieaa
