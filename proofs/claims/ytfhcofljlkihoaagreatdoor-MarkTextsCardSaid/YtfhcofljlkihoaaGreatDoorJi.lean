/- Contracts of functions of the program and of the reference, and plain facts: a part of a proof. Own text. -/
import Derived.Test.YtfhcofljlkihoaaGreatDoorJh
set_option linter.unusedVariables false
set_option linter.unusedSimpArgs false
set_option linter.unusedSectionVars false
namespace Go.Proofs.YtfhcofljlkihoaaGreatDoor
open Go Go.RowKit
set_option maxHeartbeats 400000
set_option maxRecDepth 100000

theorem print_no (w0 w1 w2 w3 w4 F : Int) (A : Option Addr) (n c : Nat) (gs : List Giv) (w : World) (hg : Gs w A n gs) (hnc : n ≤ c) (hb : okB w0 w1 w2 w3 w4 F gs = false) :
    Calls Tryz.prog 4 #[.agg #[.int .i64 w0, .int .i64 w1, .int .i64 w2, .int .i64 w3, .int .i64 w4, .int .i64 F, .slice A n c]] w fun e w' => e = .returned (.tuple #[.string ⟨#[]⟩, .int .i64 13]) ∧ Below w.heap.size w w' := by
  have HGx := Lib.hid (hg.keep (up_alloc w (.cells #[.int .i64 w0, .int .i64 w1, .int .i64 w2, .int .i64 w3, .int .i64 w4, .int .i64 F, .slice A n c] 26)))
  clear hg
  go_enter Tryz.func4, Tryz.ntmps4
  go_wp2_with (go_at_call 10; refine (check_no w0 w1 w2 w3 w4 F A n c gs _ HGx.out hnc hb).mono ?_; rintro e x1 ⟨rfl, hb1⟩)
  go_ret2
  exact ⟨rfl, up (up_alloc _ _) hb1⟩

set_option maxHeartbeats 4000000 in
theorem print_yes (w0 w1 w2 w3 w4 F : Int) (A : Option Addr) (n c : Nat) (gs : List Giv) (w : World) (hg : Gs w A n gs) (hnc : n ≤ c) (hb : okB w0 w1 w2 w3 w4 F gs = true) :
    Calls Tryz.prog 4 #[.agg #[.int .i64 w0, .int .i64 w1, .int .i64 w2, .int .i64 w3, .int .i64 w4, .int .i64 F, .slice A n c]] w fun e w' => e = .returned (.tuple #[.string (textB w0 w1 w2 w3 w4 F gs), .int .i64 0]) ∧ Below w.heap.size w w' := by
  have Hl : Hid (n = gs.length) := Lib.hid hg.len
  have Hsm := Lib.hid (okB_wear hb)
  have Hrw := Lib.hid (okB_row hb)
  have H40 := Lib.hid (okB_40 hb)
  have HG := Lib.hid hg
  clear hg
  go_enter Tryz.func4, Tryz.ntmps4
  go_wp2_with fail
  refine (check_yes w0 w1 w2 w3 w4 F A n c gs _ (HG.out.keep (up_alloc _ _)) hnc hb).mono ?_
  rintro e x1 ⟨rfl, hb1⟩
  have HB1 := Lib.hid (up (up_alloc w (.cells #[.int .i64 w0, .int .i64 w1, .int .i64 w2, .int .i64 w3, .int .i64 w4, .int .i64 F, .slice A n c] 26)) hb1)
  have t1 : w.heap.size < x1.heap.size := by have := hb1.size; simp at this; omega
  have cm : ∀ j, x1.cell? ⟨w.heap.size, j, none⟩ = [Value.int .i64 w0, .int .i64 w1, .int .i64 w2, .int .i64 w3, .int .i64 w4, .int .i64 F, .slice A n c][j]? := fun j => (hb1.cell (p := ⟨w.heap.size, j, none⟩) (by simp)).trans (by simp [go_sem])
  clear hb1
  go_wp2
  have HC := Lib.hid (show ∀ y, Below x1.heap.size x1 y → Is y (some ⟨w.heap.size, 0, none⟩) 5 [w0, w1, w2, w3, w4] from fun y hy => ⟨rfl, by decide, fun k hk => ⟨w.heap.size, 0, rfl, Nat.lt_of_lt_of_le t1 hy.size, by
    rw [Nat.zero_add, hy.cell (p := ⟨w.heap.size, k, none⟩) t1, cm k]
    rcases (by simp at hk; omega : k = 0 ∨ k = 1 ∨ k = 2 ∨ k = 3 ∨ k = 4) with rfl | rfl | rfl | rfl | rfl <;> rfl⟩⟩)
  obtain ⟨i0, hi, hz0, hz1, hz2⟩ := info_parts info3
  have HI0 := Lib.hid hi
  have HZ0 := Lib.hid hz0
  have HZ1 := Lib.hid hz1
  have HZ2 := Lib.hid hz2
  clear hi hz0 hz1 hz2
  have s1 := lineB_size wearW [w0, w1, w2, w3, w4] Hsm.out.1
  have s1' : wearW.size = 4 := rfl
  have s2 := lineB_size falseW [F] Hsm.out.2
  have s2' : falseW.size = 5 := rfl
  simp only [List.length_cons, List.length_nil] at s1 s2
  generalize hL1 : lineB wearW [w0, w1, w2, w3, w4] = L1 at *
  generalize hL2 : lineB falseW [F] = L2 at *
  have hH : L1 ++ L2 = headB w0 w1 w2 w3 w4 F := by subst hL1; subst hL2; rfl
  have sH : (L1 ++ L2).size ≤ 100 := by rw [ByteArray.size_append]; omega
  have HH := Lib.hid hH
  have HL1 := Lib.hid (show lineK wearW [w0, w1, w2, w3, w4] ++ ⟨#[10]⟩ = L1 from hL1)
  have HL2 := Lib.hid (show lineK falseW [F] ++ ⟨#[10]⟩ = L2 from hL2)
  clear hH hL1 hL2
  have hrest : ∀ y, Below x1.heap.size x1 y → True := fun _ _ => trivial
  clear hrest
  refine wp_region_takesG 7 5 [0, 1, 3, 4] (by kernel_rfl) (by kernel_rfl) (by kernel_rfl) (by kernel_rfl) (by decide) (fun d _ _ _ _ h => by cases d <;> exact h) (by kernel_rfl) rfl ?_
  refine wpTakes_step (v := ?_) rfl (by rfl) ?_ ?_
  rotate_left
  · (rintro _ ⟨z9, rfl⟩; go_simp; try (with_reducible rfl))
  simp only [Act.put, List.setIfInBounds_toArray, List.set_cons_zero, List.set_cons_succ]
  refine wpTakes_step (v := ?_) rfl (by rfl) ?_ ?_
  rotate_left
  · (rintro _ ⟨z9, rfl⟩; go_simp; try (with_reducible rfl))
  simp only [Act.put, List.setIfInBounds_toArray, List.set_cons_zero, List.set_cons_succ]
  refine wpTakes_step (v := ?_) rfl (by rfl) ?_ ?_
  rotate_left
  · (rintro _ ⟨z9, rfl⟩; go_simp; try (with_reducible rfl))
  simp only [Act.put, List.setIfInBounds_toArray, List.set_cons_zero, List.set_cons_succ]
  refine wpTakes_step (v := ?_) rfl (by rfl) ?_ ?_
  rotate_left
  · (rintro _ ⟨z9, rfl⟩; go_simp; try (with_reducible rfl))
  simp only [Act.put, List.setIfInBounds_toArray, List.set_cons_zero, List.set_cons_succ]
  simp only [wpTakes]
  refine wpAnyT_step2 (i := 2) (j := 5) (by kernel_rfl) rfl rfl rfl rfl ?_ ?_
  · go_wp2_with fail
    refine (lineOf_any wearW _ 5 5 [w0, w1, w2, w3, w4] _ (HC.out _ (by go_grown)) Hsm.out.1 (by decide) (by omega)).mono ?_
    rintro e x2 ⟨rfl, hb2⟩
    rw [HL1.out]
    have HB2 := Lib.hid (up (show Below x1.heap.size x1 x1.drew by go_grown) hb2)
    refine ⟨below_grow HB2.out, ?_⟩
    clear hb2
    refine wpAnyT_step (i := 5) rfl (by kernel_rfl) rfl ?_
    refine makes_grown (makes_slice Tryz.underlying37 HI0.out HZ0.out rfl (by rw [HZ1.out]; decide)) (below_grow HB2.out) ?_
    go_wp2_with fail
    refine wpAnyT_step (i := 6) rfl (by kernel_rfl) rfl ?_
    go_wp2_with fail
    refine (lineOf_any falseW _ 1 1 [F] _ ((is1n x2 F 3 x2.heap.size rfl).keep (by go_grown)) Hsm.out.2 (by decide) (by omega)).mono ?_
    rintro e x3 ⟨rfl, hb3⟩
    rw [HL2.out]
    have HB3 := Lib.hid (up HB2.out (up (show Below x2.heap.size x2 (x2.alloc (.cells #[.int .i64 F] 3)) from up_alloc _ _) hb3))
    refine ⟨below_grow HB3.out, ?_⟩
    refine wpAnyT_tail rfl (by kernel_rfl) (by kernel_rfl) ?_
    clear hb3 HB2
    have t3 : w.heap.size < x3.heap.size := Nat.lt_of_lt_of_le t1 HB3.out.size
    have cm3 : ∀ j, x3.cell? ⟨w.heap.size, j, none⟩ = [Value.int .i64 w0, .int .i64 w1, .int .i64 w2, .int .i64 w3, .int .i64 w4, .int .i64 F, .slice A n c][j]? := fun j => (HB3.out.cell (p := ⟨w.heap.size, j, none⟩) t1).trans (cm j)
    go_wp2
    generalize L1 ++ L2 = H at *
    have HG3 := Lib.hid (HG.out.keep (up HB1.out HB3.out))
    have hsz3 : x1.heap.size ≤ x3.heap.size := HB3.out.size
    clear cm
    go_loopw [5, 24] (fun v i wr => ∃ (k : Nat) (z : Gr), k ≤ n ∧ v = .string (marksK H (gs.take k)) ∧ i = .int .i64 k ∧ wr = grow x3 z) (fun _ i _ => n - (intOf i).toNat)
    case atStart => exact ⟨0, ⟨#[], x3.drawn⟩, by omega, by simp [marksK], rfl, by simp [grow]⟩
    case round =>
      obtain ⟨k, z, hk, rfl, rfl, rfl⟩ := hrel
      by_cases hlt : k < n
      · have hkl : k < gs.length := by have := Hl.out; omega
        have hx := Hrw.out gs[k] (List.getElem_mem _)
        have HX := Lib.hid hx
        have z2 : (marksK H (gs.take k)).size ≤ 2000 := by
          have := marksK_size H (gs.take k) (fun y hy => Hrw.out y (List.mem_of_mem_take hy))
          have h8 := H40.out
          have h9 : (gs.take k).length ≤ gs.length := by simp; omega
          omega
        have z4 := lineB_size markW gs[k].row hx
        have z5 : markW.size = 4 := rfl
        have z6 : gs[k].row.length = 7 := rfl
        have hsn : marksK H (gs.take (k + 1)) = marksK H (gs.take k) ++ lineB markW gs[k].row := by
          rw [List.take_succ_eq_append_getElem hkl, marksK_snoc]
        have HSN := Lib.hid hsn
        clear hsn hx
        have HG4 := Lib.hid (HG3.out.keep (grow_below x3 z))
        obtain ⟨bg, og, rfl, hbg, hga⟩ := HG4.out.get k hkl
        obtain ⟨c0, c1, c2, c3, c4, c5, c6⟩ := hga
        generalize hgk : gs[k] = g at *
        have i1 : (0 : Int) ≤ (k : Int) := by omega
        have i2 : (k : Int) < (n : Int) := by omega
        go_wp2
        generalize hV : World.alloc _ _ = V
        have HV := Lib.hid (show Below (grow x3 z).heap.size (grow x3 z) V by subst hV; exact up_alloc _ _)
        have hVs : V.heap.size = x3.heap.size + z.blocks.size + 1 := by subst hV; simp
        have cv : ∀ j, V.cell? ⟨x3.heap.size + z.blocks.size, j, none⟩ = [Value.int .i64 g.o, .int .i64 g.m0, .int .i64 g.m1, .int .i64 g.m2, .int .i64 g.m3, .int .i64 g.m4, .int .i64 g.m5][j]? := by
          subst hV; intro j; simp [go_sem]
        have e2 : x3.heap.size + z.blocks.size < V.heap.size := by omega
        clear hV c0 c1 c2 c3 c4 c5 c6 hVs
        generalize x3.heap.size + z.blocks.size = G at *
        refine wp_region_takesG 8 5 [0, 1, 2, 4, 5] (by kernel_rfl) (by kernel_rfl) (by kernel_rfl) (by kernel_rfl) (by decide) (fun d _ _ _ _ h => by cases d <;> exact h) (by kernel_rfl) rfl ?_
        refine wpTakes_step (v := ?_) rfl (by rfl) ?_ ?_
        rotate_left
        · (rintro _ ⟨z9, rfl⟩; go_simp; try (with_reducible rfl))
        simp only [Act.put, List.setIfInBounds_toArray, List.set_cons_zero, List.set_cons_succ]
        refine wpTakes_step (v := ?_) rfl (by rfl) ?_ ?_
        rotate_left
        · (rintro _ ⟨z9, rfl⟩; go_simp; try (with_reducible rfl))
        simp only [Act.put, List.setIfInBounds_toArray, List.set_cons_zero, List.set_cons_succ]
        refine wpTakes_step (v := ?_) rfl (by rfl) ?_ ?_
        rotate_left
        · (rintro _ ⟨z9, rfl⟩; go_simp; try (with_reducible rfl))
        simp only [Act.put, List.setIfInBounds_toArray, List.set_cons_zero, List.set_cons_succ]
        refine wpTakes_step (v := ?_) rfl (by rfl) ?_ ?_
        rotate_left
        · (rintro _ ⟨z9, rfl⟩; go_simp; try (with_reducible rfl))
        simp only [Act.put, List.setIfInBounds_toArray, List.set_cons_zero, List.set_cons_succ]
        refine wpTakes_step (v := ?_) rfl (by rfl) ?_ ?_
        rotate_left
        · (rintro _ ⟨z9, rfl⟩; go_simp; try (with_reducible rfl))
        simp only [Act.put, List.setIfInBounds_toArray, List.set_cons_zero, List.set_cons_succ]
        simp only [wpTakes]
        refine wpAnyT_step (i := 3) rfl (by kernel_rfl) rfl ?_
        refine makes_grown (makes_slice Tryz.underlying37 HI0.out HZ0.out rfl (by rw [HZ1.out]; decide)) (below_grow (show Below V.heap.size V V.drew by go_grown)) ?_
        go_wp2_with fail
        refine wpAnyT_step (i := 6) rfl (by kernel_rfl) rfl ?_
        have hrow : ((V.alloc (.cells #[.int .i64 g.o] 3)).drew).ownsRow V.heap.size 3 1 (.slice (some ⟨V.heap.size, 0, none⟩) 1 1) 1 [.int .i64 g.o] :=
          ⟨rfl, .inr ⟨V.heap.size, 1, #[.int .i64 g.o], rfl, Nat.le_refl _, heap_alloc_new _ _, Nat.le_refl _, by unfold maxLen; omega, rfl, rfl⟩⟩
        have hnews : ∀ (j : Nat) u, [Value.int .i64 g.m0, .int .i64 g.m1, .int .i64 g.m2, .int .i64 g.m3, .int .i64 g.m4, .int .i64 g.m5][j]? = some u → ((V.alloc (.cells #[.int .i64 g.o] 3)).drew).cell? ((⟨G, 1, none⟩ : Addr).add j) = some u := by
          intro j u hu
          have hc := cv (1 + j)
          rw [Addr.add_lit]
          have h0 : Below V.heap.size V ((V.alloc (.cells #[.int .i64 g.o] 3)).drew) := by go_grown
          rw [h0.cell (p := ⟨G, 1 + j, none⟩) e2, hc]
          rw [Nat.add_comm 1 j, List.getElem?_cons_succ]; exact hu
        refine wp_append_own _ (.tmp 31) (.tmp 33) 37 rfl V.heap.size 3 i0 (.int .i64 0) 1 8 Tryz.underlying37 HI0.out HZ0.out HZ1.out HZ2.out rfl (by decide) (.slice (some ⟨V.heap.size, 0, none⟩) 1 1) 1 [.int .i64 g.o] rfl hrow ⟨G, 1, none⟩ 6 6 [.int .i64 g.m0, .int .i64 g.m1, .int .i64 g.m2, .int .i64 g.m3, .int .i64 g.m4, .int .i64 g.m5] rfl rfl hnews (by intro u hu; simp at hu; rcases hu with rfl | rfl | rfl | rfl | rfl | rfl <;> rfl) (by unfold maxLen; omega) (by omega) (by simp) ?_
        intro v' w5 hown5 hgr5 _
        have HV5 := Lib.hid (show Below V.heap.size V w5 from (show Below V.heap.size V ((V.alloc (.cells #[.int .i64 g.o] 3)).drew) by go_grown).grown hgr5 (by simp) (fun r hr => by simp [Value.ownBlock] at hr; omega))
        refine ⟨below_grow HV5.out, ?_⟩
        obtain ⟨A7, c7, rfl, hn7, hv7⟩ := Vs.of_own hown5
        have HI7 := Lib.hid (Vs.ints (l := g.row) hv7)
        clear hown5 hgr5 hrow hv7 cv hnews
        refine wpAnyT_step (i := 7) rfl (by kernel_rfl) rfl ?_
        go_wp2_with fail
        refine (lineOf_any markW A7 _ c7 g.row _ HI7.out HX.out (by decide) (by omega)).mono ?_
        rintro e x5 ⟨rfl, hb5⟩
        rw [show lineK markW g.row ++ ⟨#[10]⟩ = lineB markW g.row from rfl]
        have hV5 : Below V.heap.size V x5 := up HV5.out hb5
        refine ⟨below_grow hV5, ?_⟩
        refine wpAnyT_tail rfl (by kernel_rfl) (by kernel_rfl) ?_
        obtain ⟨y, rfl⟩ := below_grow (up (grow_below x3 z) (up HV.out hV5))
        clear hb5 hV5
        go_wp2
        rw [wr41 (lt41 Hl.out H40.out hlt)]
        exact ⟨⟨k + 1, y, hlt, congrArg Value.string HSN.out.symm, int41 k, rfl⟩, less41 hlt⟩
      · obtain rfl : k = n := by omega
        go_wp2
        go_ret2
        refine ⟨?_, up HB1.out (up HB3.out (grow_below x3 z))⟩
        show Ending.returned (Value.tuple #[Value.string (marksK H (gs.take k)), Value.int .i64 0]) = _
        rw [List.take_of_length_le (by have := Hl.out; omega), HH.out]; rfl
  · refine makes_grown (makes_slice Tryz.underlying37 HI0.out HZ0.out rfl (by rw [HZ1.out]; decide)) (below_grow (show Below x1.heap.size x1 x1.drew by go_grown)) ?_
    go_wp2_with fail
    refine wpAnyT_step (i := 2) rfl (by kernel_rfl) rfl ?_
    go_wp2_with fail
    refine (lineOf_any wearW _ 5 5 [w0, w1, w2, w3, w4] _ (HC.out _ (by go_grown)) Hsm.out.1 (by decide) (by omega)).mono ?_
    rintro e x2 ⟨rfl, hb2⟩
    rw [HL1.out]
    have HI2 := Lib.hid (Is.keep (w := (x1.alloc (.cells #[.int .i64 F] 3)).drew) ((is1n x1 F 3 x1.heap.size rfl).keep (by go_grown)) hb2)
    have HB2 := Lib.hid (up (show Below x1.heap.size x1 ((x1.alloc (.cells #[.int .i64 F] 3)).drew) by go_grown) hb2)
    refine ⟨below_grow HB2.out, ?_⟩
    clear hb2
    refine wpAnyT_step (i := 6) rfl (by kernel_rfl) rfl ?_
    go_wp2_with fail
    refine (lineOf_any falseW _ 1 1 [F] _ HI2.out Hsm.out.2 (by decide) (by omega)).mono ?_
    rintro e x3 ⟨rfl, hb3⟩
    rw [HL2.out]
    have HB3 := Lib.hid (up HB2.out hb3)
    refine ⟨below_grow HB3.out, ?_⟩
    refine wpAnyT_tail rfl (by kernel_rfl) (by kernel_rfl) ?_
    clear hb3 HB2
    have t3 : w.heap.size < x3.heap.size := Nat.lt_of_lt_of_le t1 HB3.out.size
    have cm3 : ∀ j, x3.cell? ⟨w.heap.size, j, none⟩ = [Value.int .i64 w0, .int .i64 w1, .int .i64 w2, .int .i64 w3, .int .i64 w4, .int .i64 F, .slice A n c][j]? := fun j => (HB3.out.cell (p := ⟨w.heap.size, j, none⟩) t1).trans (cm j)
    go_wp2
    generalize L1 ++ L2 = H at *
    have HG3 := Lib.hid (HG.out.keep (up HB1.out HB3.out))
    have hsz3 : x1.heap.size ≤ x3.heap.size := HB3.out.size
    clear cm
    go_loopw [5, 24] (fun v i wr => ∃ (k : Nat) (z : Gr), k ≤ n ∧ v = .string (marksK H (gs.take k)) ∧ i = .int .i64 k ∧ wr = grow x3 z) (fun _ i _ => n - (intOf i).toNat)
    case atStart => exact ⟨0, ⟨#[], x3.drawn⟩, by omega, by simp [marksK], rfl, by simp [grow]⟩
    case round =>
      obtain ⟨k, z, hk, rfl, rfl, rfl⟩ := hrel
      by_cases hlt : k < n
      · have hkl : k < gs.length := by have := Hl.out; omega
        have hx := Hrw.out gs[k] (List.getElem_mem _)
        have HX := Lib.hid hx
        have z2 : (marksK H (gs.take k)).size ≤ 2000 := by
          have := marksK_size H (gs.take k) (fun y hy => Hrw.out y (List.mem_of_mem_take hy))
          have h8 := H40.out
          have h9 : (gs.take k).length ≤ gs.length := by simp; omega
          omega
        have z4 := lineB_size markW gs[k].row hx
        have z5 : markW.size = 4 := rfl
        have z6 : gs[k].row.length = 7 := rfl
        have hsn : marksK H (gs.take (k + 1)) = marksK H (gs.take k) ++ lineB markW gs[k].row := by
          rw [List.take_succ_eq_append_getElem hkl, marksK_snoc]
        have HSN := Lib.hid hsn
        clear hsn hx
        have HG4 := Lib.hid (HG3.out.keep (grow_below x3 z))
        obtain ⟨bg, og, rfl, hbg, hga⟩ := HG4.out.get k hkl
        obtain ⟨c0, c1, c2, c3, c4, c5, c6⟩ := hga
        generalize hgk : gs[k] = g at *
        have i1 : (0 : Int) ≤ (k : Int) := by omega
        have i2 : (k : Int) < (n : Int) := by omega
        go_wp2
        generalize hV : World.alloc _ _ = V
        have HV := Lib.hid (show Below (grow x3 z).heap.size (grow x3 z) V by subst hV; exact up_alloc _ _)
        have hVs : V.heap.size = x3.heap.size + z.blocks.size + 1 := by subst hV; simp
        have cv : ∀ j, V.cell? ⟨x3.heap.size + z.blocks.size, j, none⟩ = [Value.int .i64 g.o, .int .i64 g.m0, .int .i64 g.m1, .int .i64 g.m2, .int .i64 g.m3, .int .i64 g.m4, .int .i64 g.m5][j]? := by
          subst hV; intro j; simp [go_sem]
        have e2 : x3.heap.size + z.blocks.size < V.heap.size := by omega
        clear hV c0 c1 c2 c3 c4 c5 c6 hVs
        generalize x3.heap.size + z.blocks.size = G at *
        refine wp_region_takesG 8 5 [0, 1, 2, 4, 5] (by kernel_rfl) (by kernel_rfl) (by kernel_rfl) (by kernel_rfl) (by decide) (fun d _ _ _ _ h => by cases d <;> exact h) (by kernel_rfl) rfl ?_
        refine wpTakes_step (v := ?_) rfl (by rfl) ?_ ?_
        rotate_left
        · (rintro _ ⟨z9, rfl⟩; go_simp; try (with_reducible rfl))
        simp only [Act.put, List.setIfInBounds_toArray, List.set_cons_zero, List.set_cons_succ]
        refine wpTakes_step (v := ?_) rfl (by rfl) ?_ ?_
        rotate_left
        · (rintro _ ⟨z9, rfl⟩; go_simp; try (with_reducible rfl))
        simp only [Act.put, List.setIfInBounds_toArray, List.set_cons_zero, List.set_cons_succ]
        refine wpTakes_step (v := ?_) rfl (by rfl) ?_ ?_
        rotate_left
        · (rintro _ ⟨z9, rfl⟩; go_simp; try (with_reducible rfl))
        simp only [Act.put, List.setIfInBounds_toArray, List.set_cons_zero, List.set_cons_succ]
        refine wpTakes_step (v := ?_) rfl (by rfl) ?_ ?_
        rotate_left
        · (rintro _ ⟨z9, rfl⟩; go_simp; try (with_reducible rfl))
        simp only [Act.put, List.setIfInBounds_toArray, List.set_cons_zero, List.set_cons_succ]
        refine wpTakes_step (v := ?_) rfl (by rfl) ?_ ?_
        rotate_left
        · (rintro _ ⟨z9, rfl⟩; go_simp; try (with_reducible rfl))
        simp only [Act.put, List.setIfInBounds_toArray, List.set_cons_zero, List.set_cons_succ]
        simp only [wpTakes]
        refine wpAnyT_step (i := 3) rfl (by kernel_rfl) rfl ?_
        refine makes_grown (makes_slice Tryz.underlying37 HI0.out HZ0.out rfl (by rw [HZ1.out]; decide)) (below_grow (show Below V.heap.size V V.drew by go_grown)) ?_
        go_wp2_with fail
        refine wpAnyT_step (i := 6) rfl (by kernel_rfl) rfl ?_
        have hrow : ((V.alloc (.cells #[.int .i64 g.o] 3)).drew).ownsRow V.heap.size 3 1 (.slice (some ⟨V.heap.size, 0, none⟩) 1 1) 1 [.int .i64 g.o] :=
          ⟨rfl, .inr ⟨V.heap.size, 1, #[.int .i64 g.o], rfl, Nat.le_refl _, heap_alloc_new _ _, Nat.le_refl _, by unfold maxLen; omega, rfl, rfl⟩⟩
        have hnews : ∀ (j : Nat) u, [Value.int .i64 g.m0, .int .i64 g.m1, .int .i64 g.m2, .int .i64 g.m3, .int .i64 g.m4, .int .i64 g.m5][j]? = some u → ((V.alloc (.cells #[.int .i64 g.o] 3)).drew).cell? ((⟨G, 1, none⟩ : Addr).add j) = some u := by
          intro j u hu
          have hc := cv (1 + j)
          rw [Addr.add_lit]
          have h0 : Below V.heap.size V ((V.alloc (.cells #[.int .i64 g.o] 3)).drew) := by go_grown
          rw [h0.cell (p := ⟨G, 1 + j, none⟩) e2, hc]
          rw [Nat.add_comm 1 j, List.getElem?_cons_succ]; exact hu
        refine wp_append_own _ (.tmp 31) (.tmp 33) 37 rfl V.heap.size 3 i0 (.int .i64 0) 1 8 Tryz.underlying37 HI0.out HZ0.out HZ1.out HZ2.out rfl (by decide) (.slice (some ⟨V.heap.size, 0, none⟩) 1 1) 1 [.int .i64 g.o] rfl hrow ⟨G, 1, none⟩ 6 6 [.int .i64 g.m0, .int .i64 g.m1, .int .i64 g.m2, .int .i64 g.m3, .int .i64 g.m4, .int .i64 g.m5] rfl rfl hnews (by intro u hu; simp at hu; rcases hu with rfl | rfl | rfl | rfl | rfl | rfl <;> rfl) (by unfold maxLen; omega) (by omega) (by simp) ?_
        intro v' w5 hown5 hgr5 _
        have HV5 := Lib.hid (show Below V.heap.size V w5 from (show Below V.heap.size V ((V.alloc (.cells #[.int .i64 g.o] 3)).drew) by go_grown).grown hgr5 (by simp) (fun r hr => by simp [Value.ownBlock] at hr; omega))
        refine ⟨below_grow HV5.out, ?_⟩
        obtain ⟨A7, c7, rfl, hn7, hv7⟩ := Vs.of_own hown5
        have HI7 := Lib.hid (Vs.ints (l := g.row) hv7)
        clear hown5 hgr5 hrow hv7 cv hnews
        refine wpAnyT_step (i := 7) rfl (by kernel_rfl) rfl ?_
        go_wp2_with fail
        refine (lineOf_any markW A7 _ c7 g.row _ HI7.out HX.out (by decide) (by omega)).mono ?_
        rintro e x5 ⟨rfl, hb5⟩
        rw [show lineK markW g.row ++ ⟨#[10]⟩ = lineB markW g.row from rfl]
        have hV5 : Below V.heap.size V x5 := up HV5.out hb5
        refine ⟨below_grow hV5, ?_⟩
        refine wpAnyT_tail rfl (by kernel_rfl) (by kernel_rfl) ?_
        obtain ⟨y, rfl⟩ := below_grow (up (grow_below x3 z) (up HV.out hV5))
        clear hb5 hV5
        go_wp2
        rw [wr41 (lt41 Hl.out H40.out hlt)]
        exact ⟨⟨k + 1, y, hlt, congrArg Value.string HSN.out.symm, int41 k, rfl⟩, less41 hlt⟩
      · obtain rfl : k = n := by omega
        go_wp2
        go_ret2
        refine ⟨?_, up HB1.out (up HB3.out (grow_below x3 z))⟩
        show Ending.returned (Value.tuple #[Value.string (marksK H (gs.take k)), Value.int .i64 0]) = _
        rw [List.take_of_length_le (by have := Hl.out; omega), HH.out]; rfl
end Go.Proofs.YtfhcofljlkihoaaGreatDoor

