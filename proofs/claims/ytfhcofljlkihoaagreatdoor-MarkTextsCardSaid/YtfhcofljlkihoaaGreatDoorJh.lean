/- Contracts of functions of the program and of the reference, and plain facts: a part of a proof. Own text. -/
import Derived.Test.YtfhcofljlkihoaaGreatDoorJg
set_option linter.unusedVariables false
set_option linter.unusedSimpArgs false
set_option linter.unusedSectionVars false
namespace Go.Proofs.YtfhcofljlkihoaaGreatDoor
open Go Go.RowKit
set_option maxHeartbeats 400000
set_option maxRecDepth 100000

theorem refPrint_no (w0 w1 w2 w3 w4 F : Int) (A : Option Addr) (n c : Nat) (gs : List Giv) (w : World) (hg : Gs w A n gs) (hb : okB w0 w1 w2 w3 w4 F gs = false) :
    Calls Tryz.prog 5 #[.agg #[.int .i64 w0, .int .i64 w1, .int .i64 w2, .int .i64 w3, .int .i64 w4, .int .i64 F, .slice A n c]] w fun e w' => e = .returned (.tuple #[.string ⟨#[]⟩, .int .i64 13]) ∧ Below w.heap.size w w' := by
  have HGx := Lib.hid (hg.keep (up_alloc w (.cells #[.int .i64 w0, .int .i64 w1, .int .i64 w2, .int .i64 w3, .int .i64 w4, .int .i64 F, .slice A n c] 26)))
  clear hg
  go_enter Tryz.func5, Tryz.ntmps5
  go_wp2_with (go_at_call 12; refine (refCheck_no w0 w1 w2 w3 w4 F A n c gs _ HGx.out hb).mono ?_; rintro e x1 ⟨rfl, hb1⟩)
  go_ret2
  exact ⟨rfl, up (up_alloc _ _) hb1⟩

theorem is1n (w : World) (a : Int) (t : TypeId) (B : Nat) (hB : B = w.heap.size) : Is (w.alloc (.cells #[.int .i64 a] t)) (some ⟨B, 0, none⟩) 1 [a] := by subst hB; exact
  ⟨rfl, by decide, fun k hk => ⟨w.heap.size, 0, rfl, by simp, by
    rcases (by simp at hk; omega : k = 0) with rfl; simp [go_sem]⟩⟩
theorem is5n (w : World) (a b c d f : Int) (t : TypeId) (B : Nat) (hB : B = w.heap.size) : Is (w.alloc (.cells #[.int .i64 a, .int .i64 b, .int .i64 c, .int .i64 d, .int .i64 f] t)) (some ⟨B, 0, none⟩) 5 [a, b, c, d, f] := by subst hB; exact
  ⟨rfl, by decide, fun k hk => ⟨w.heap.size, 0, rfl, by simp, by
    rcases (by simp at hk; omega : k = 0 ∨ k = 1 ∨ k = 2 ∨ k = 3 ∨ k = 4) with rfl | rfl | rfl | rfl | rfl <;> simp [go_sem]⟩⟩
theorem is7n (w : World) (a b c d f g h : Int) (t : TypeId) (B : Nat) (hB : B = w.heap.size) : Is (w.alloc (.cells #[.int .i64 a, .int .i64 b, .int .i64 c, .int .i64 d, .int .i64 f, .int .i64 g, .int .i64 h] t)) (some ⟨B, 0, none⟩) 7 [a, b, c, d, f, g, h] := by subst hB; exact
  ⟨rfl, by decide, fun k hk => ⟨w.heap.size, 0, rfl, by simp, by
    rcases (by simp at hk; omega : k = 0 ∨ k = 1 ∨ k = 2 ∨ k = 3 ∨ k = 4 ∨ k = 5 ∨ k = 6) with rfl | rfl | rfl | rfl | rfl | rfl | rfl <;> simp [go_sem]⟩⟩

end Go.Proofs.YtfhcofljlkihoaaGreatDoor

namespace Go.Proofs.YtfhcofljlkihoaaGreatDoor
open Go Go.RowKit
set_option maxHeartbeats 400000
set_option maxRecDepth 100000

theorem wr41 {k : Nat} (h : k < 41) : wrap64 ((k : Int) + 1) = (k : Int) + 1 := by unfold wrap64; omega
theorem lt41 {k n m : Nat} (h1 : n = m) (h2 : m ≤ 40) (h3 : k < n) : k < 41 := by omega
theorem int41 (k : Nat) : Value.int .i64 ((k : Int) + 1) = Value.int .i64 ((k + 1 : Nat) : Int) := by simp
theorem less41 {k n : Nat} (h : k < n) : n - (intOf (Value.int .i64 ((k : Int) + 1))).toNat < n - (intOf (Value.int .i64 (k : Int))).toNat := by simp [intOf]; omega

set_option maxHeartbeats 800000 in
theorem refPrint_yes (w0 w1 w2 w3 w4 F : Int) (A : Option Addr) (n c : Nat) (gs : List Giv) (w : World) (hg : Gs w A n gs) (hb : okB w0 w1 w2 w3 w4 F gs = true) :
    Calls Tryz.prog 5 #[.agg #[.int .i64 w0, .int .i64 w1, .int .i64 w2, .int .i64 w3, .int .i64 w4, .int .i64 F, .slice A n c]] w fun e w' => e = .returned (.tuple #[.string (textB w0 w1 w2 w3 w4 F gs), .int .i64 0]) ∧ Below w.heap.size w w' := by
  have Hl : Hid (n = gs.length) := Lib.hid hg.len
  have Hsm := Lib.hid (okB_wear hb)
  have Hrw := Lib.hid (okB_row hb)
  have H40 := Lib.hid (okB_40 hb)
  have HG := Lib.hid hg
  clear hg
  go_enter Tryz.func5, Tryz.ntmps5
  go_wp2_with fail
  refine (refCheck_yes w0 w1 w2 w3 w4 F A n c gs _ (HG.out.keep (up_alloc _ _)) hb).mono ?_
  rintro e x1 ⟨rfl, hb1⟩
  have HB1 := Lib.hid (up (up_alloc _ _) hb1)
  have t1 : w.heap.size < x1.heap.size := by have := hb1.size; simp at this; omega
  have cm : ∀ j, x1.cell? ⟨w.heap.size, j, none⟩ = [Value.int .i64 w0, .int .i64 w1, .int .i64 w2, .int .i64 w3, .int .i64 w4, .int .i64 F, .slice A n c][j]? := fun j => (hb1.cell (p := ⟨w.heap.size, j, none⟩) (by simp)).trans (by simp [go_sem])
  clear hb1
  go_wp2_with fail
  refine (refRow_any wearW _ 5 5 [w0, w1, w2, w3, w4] _ (is5n _ _ _ _ _ _ _ _ (by simp)) Hsm.out.1 (by decide) (by omega)).mono ?_
  rintro e x2 ⟨rfl, hb2⟩
  have HB2 := Lib.hid (up HB1.out (up (up_alloc _ _) (up (up_alloc _ _) hb2)))
  have cm2 : ∀ j, x2.cell? ⟨w.heap.size, j, none⟩ = [Value.int .i64 w0, .int .i64 w1, .int .i64 w2, .int .i64 w3, .int .i64 w4, .int .i64 F, .slice A n c][j]? := fun j => ((up (up_alloc _ _) (up (up_alloc _ _) hb2)).cell (p := ⟨w.heap.size, j, none⟩) t1).trans (cm j)
  have t2 : w.heap.size < x2.heap.size := by have := hb2.size; simp at this; omega
  clear hb2 cm
  have zF : (⟨#[102, 97, 108, 115, 101]⟩ : ByteArray).size = 5 := rfl
  have s1 := lineB_size wearW [w0, w1, w2, w3, w4] Hsm.out.1
  have s1' : wearW.size = 4 := rfl
  have s2 := lineB_size falseW [F] Hsm.out.2
  have s2' : falseW.size = 5 := rfl
  simp only [List.length_cons, List.length_nil] at s1 s2
  rw [show lineK wearW [w0, w1, w2, w3, w4] ++ ⟨#[10]⟩ = lineB wearW [w0, w1, w2, w3, w4] from rfl]
  generalize hL1 : lineB wearW [w0, w1, w2, w3, w4] = L1 at *
  go_wp2_with fail
  refine (refRow_any falseW _ 1 1 [F] _ (is1n _ _ _ _ (by simp)) Hsm.out.2 (by decide) (by omega)).mono ?_
  rintro e x3 ⟨rfl, hb3⟩
  have HB3 := Lib.hid (up HB2.out (up (up_alloc _ _) hb3))
  have cm3 : ∀ j, x3.cell? ⟨w.heap.size, j, none⟩ = [Value.int .i64 w0, .int .i64 w1, .int .i64 w2, .int .i64 w3, .int .i64 w4, .int .i64 F, .slice A n c][j]? := fun j => ((up (up_alloc _ _) hb3).cell (p := ⟨w.heap.size, j, none⟩) t2).trans (cm2 j)
  have t3 : w.heap.size < x3.heap.size := by have := hb3.size; simp at this; omega
  clear hb3 cm2
  rw [show lineK falseW [F] ++ ⟨#[10]⟩ = lineB falseW [F] from rfl]
  generalize hL2 : lineB falseW [F] = L2 at *
  go_wp2
  have hH : L1 ++ L2 = headB w0 w1 w2 w3 w4 F := by subst hL1; subst hL2; rfl
  have sH : (L1 ++ L2).size ≤ 100 := by rw [ByteArray.size_append]; omega
  have HH := Lib.hid hH
  clear hH hL1 hL2 s1 s2 s1' s2'
  generalize L1 ++ L2 = H at *
  obtain ⟨i0, hi, hz0, hz1, hz2⟩ := info_parts info3
  have HI0 := Lib.hid hi
  have HZ0 := Lib.hid hz0
  have HZ1 := Lib.hid hz1
  clear hi hz0 hz1 hz2
  have HG3 := Lib.hid (HG.out.keep HB3.out)
  go_loopw [5, 6] (fun v i wr => ∃ (k : Nat) (z : Gr), k ≤ n ∧ v = .string (marksK H (gs.take k)) ∧ i = .int .i64 k ∧ wr = grow x3 z) (fun _ i _ => n - (intOf i).toNat)
  case atStart => exact ⟨0, ⟨#[], x3.drawn⟩, by omega, by simp [marksK], rfl, by simp [grow]⟩
  case round =>
    obtain ⟨k, z, hk, rfl, rfl, rfl⟩ := hrel
    have t4 : w.heap.size < x3.heap.size + z.blocks.size := by omega
    by_cases hlt : k < n
    · have hkl : k < gs.length := by have := Hl.out; omega
      have hx := Hrw.out gs[k] (List.getElem_mem _)
      have HX := Lib.hid hx
      have z2 : (marksK H (gs.take k)).size ≤ 2000 := by
        have := marksK_size H (gs.take k) (fun y hy => Hrw.out y (List.mem_of_mem_take hy))
        have h8 := H40.out
        have h9 : (gs.take k).length ≤ gs.length := by simp; omega
        omega
      have z4 := lineB_size markW gs[k].row hx
      have z5 : markW.size = 4 := rfl
      have z6 : gs[k].row.length = 7 := rfl
      have hsn : marksK H (gs.take (k + 1)) = marksK H (gs.take k) ++ lineB markW gs[k].row := by
        rw [List.take_succ_eq_append_getElem hkl, marksK_snoc]
      have HSN := Lib.hid hsn
      clear hsn hx
      have HG4 := Lib.hid (HG3.out.keep (grow_below x3 z))
      obtain ⟨bg, og, rfl, hbg, hga⟩ := HG4.out.get k hkl
      obtain ⟨c0, c1, c2, c3, c4, c5, c6⟩ := hga
      generalize hgk : gs[k] = g at *
      have i1 : (0 : Int) ≤ (k : Int) := by omega
      have i2 : (k : Int) < (n : Int) := by omega
      go_wp2
      generalize hV : World.alloc _ _ = V
      have HV := Lib.hid (show Below (grow x3 z).heap.size (grow x3 z) V by subst hV; exact up_alloc _ _)
      have cg : V.cell? ⟨bg, og + k * 7, none⟩ = some (.int .i64 g.o) := (HV.out.cell (p := ⟨bg, og + k * 7, none⟩) hbg).trans c0
      have ck : ∀ j, V.cell? ⟨w.heap.size, j, none⟩ = [Value.int .i64 w0, .int .i64 w1, .int .i64 w2, .int .i64 w3, .int .i64 w4, .int .i64 F, .slice (some ⟨bg, og, none⟩) n c][j]? := fun j => ((up (grow_below x3 z) HV.out).cell (p := ⟨w.heap.size, j, none⟩) t3).trans (cm3 j)
      have cv : ∀ j, V.cell? ⟨x3.heap.size + z.blocks.size, j, none⟩ = [Value.int .i64 g.m0, .int .i64 g.m1, .int .i64 g.m2, .int .i64 g.m3, .int .i64 g.m4, .int .i64 g.m5][j]? := by
        subst hV; intro j; simp [go_sem]
      have e1 : bg < V.heap.size := by subst hV; simp at *; omega
      have e2 : x3.heap.size + z.blocks.size < V.heap.size := by subst hV; simp
      have e3 : w.heap.size < V.heap.size := by omega
      clear hV c0 c1 c2 c3 c4 c5 c6
      refine wp_region_takes2 21 19 20 [0,1,2,3,4,5,6,7,8,9,10,11,12,13,14,15,16,17,18] _ _ (by kernel_rfl) (by kernel_rfl) (by kernel_rfl) (by kernel_rfl) (by decide) (fun d _ _ _ _ h => by cases d <;> exact h) (by kernel_rfl) rfl rfl rfl rfl (by kernel_rfl) (by kernel_rfl) (by kernel_rfl) (by kernel_rfl) rfl (makes_slice Tryz.underlying37 HI0.out HZ0.out rfl (by rw [HZ1.out]; decide)) ?_
      refine wpTakes_step (v := ?_) rfl (by rfl) ?_ ?_
      rotate_left
      · (rintro _ ⟨z9, rfl⟩; go_simp; try (with_reducible rfl))
      simp only [Act.put, List.setIfInBounds_toArray, List.set_cons_zero, List.set_cons_succ]
      refine wpTakes_step (v := ?_) rfl (by rfl) ?_ ?_
      rotate_left
      · (rintro _ ⟨z9, rfl⟩; go_simp; try (with_reducible rfl))
      simp only [Act.put, List.setIfInBounds_toArray, List.set_cons_zero, List.set_cons_succ]
      refine wpTakes_step (v := ?_) rfl (by rfl) ?_ ?_
      rotate_left
      · (rintro _ ⟨z9, rfl⟩; go_simp; try (with_reducible rfl))
      simp only [Act.put, List.setIfInBounds_toArray, List.set_cons_zero, List.set_cons_succ]
      refine wpTakes_step (v := ?_) rfl (by rfl) ?_ ?_
      rotate_left
      · (rintro _ ⟨z9, rfl⟩; go_simp; try (with_reducible rfl))
      simp only [Act.put, List.setIfInBounds_toArray, List.set_cons_zero, List.set_cons_succ]
      refine wpTakes_step (v := ?_) rfl (by rfl) ?_ ?_
      rotate_left
      · (rintro _ ⟨z9, rfl⟩; go_simp; try (with_reducible rfl))
      simp only [Act.put, List.setIfInBounds_toArray, List.set_cons_zero, List.set_cons_succ]
      refine wpTakes_step (v := ?_) rfl (by rfl) ?_ ?_
      rotate_left
      · (rintro _ ⟨z9, rfl⟩; go_simp; try (with_reducible rfl))
      simp only [Act.put, List.setIfInBounds_toArray, List.set_cons_zero, List.set_cons_succ]
      refine wpTakes_step (v := ?_) rfl (by rfl) ?_ ?_
      rotate_left
      · (rintro _ ⟨z9, rfl⟩; go_simp; try (with_reducible rfl))
      simp only [Act.put, List.setIfInBounds_toArray, List.set_cons_zero, List.set_cons_succ]
      refine wpTakes_step (v := ?_) rfl (by rfl) ?_ ?_
      rotate_left
      · (rintro _ ⟨z9, rfl⟩; go_simp; try (with_reducible rfl))
      simp only [Act.put, List.setIfInBounds_toArray, List.set_cons_zero, List.set_cons_succ]
      refine wpTakes_step (v := ?_) rfl (by rfl) ?_ ?_
      rotate_left
      · (rintro _ ⟨z9, rfl⟩; go_simp; try (with_reducible rfl))
      simp only [Act.put, List.setIfInBounds_toArray, List.set_cons_zero, List.set_cons_succ]
      refine wpTakes_step (v := ?_) rfl (by rfl) ?_ ?_
      rotate_left
      · (rintro _ ⟨z9, rfl⟩; go_simp; try (with_reducible rfl))
      simp only [Act.put, List.setIfInBounds_toArray, List.set_cons_zero, List.set_cons_succ]
      refine wpTakes_step (v := ?_) rfl (by rfl) ?_ ?_
      rotate_left
      · (rintro _ ⟨z9, rfl⟩; go_simp; try (with_reducible rfl))
      simp only [Act.put, List.setIfInBounds_toArray, List.set_cons_zero, List.set_cons_succ]
      refine wpTakes_step (v := ?_) rfl (by rfl) ?_ ?_
      rotate_left
      · (rintro _ ⟨z9, rfl⟩; go_simp; try (with_reducible rfl))
      simp only [Act.put, List.setIfInBounds_toArray, List.set_cons_zero, List.set_cons_succ]
      refine wpTakes_step (v := ?_) rfl (by rfl) ?_ ?_
      rotate_left
      · (rintro _ ⟨z9, rfl⟩; go_simp; try (with_reducible rfl))
      simp only [Act.put, List.setIfInBounds_toArray, List.set_cons_zero, List.set_cons_succ]
      refine wpTakes_step (v := ?_) rfl (by rfl) ?_ ?_
      rotate_left
      · (rintro _ ⟨z9, rfl⟩; go_simp; try (with_reducible rfl))
      simp only [Act.put, List.setIfInBounds_toArray, List.set_cons_zero, List.set_cons_succ]
      refine wpTakes_step (v := ?_) rfl (by rfl) ?_ ?_
      rotate_left
      · (rintro _ ⟨z9, rfl⟩; go_simp; try (with_reducible rfl))
      simp only [Act.put, List.setIfInBounds_toArray, List.set_cons_zero, List.set_cons_succ]
      refine wpTakes_step (v := ?_) rfl (by rfl) ?_ ?_
      rotate_left
      · (rintro _ ⟨z9, rfl⟩; go_simp; try (with_reducible rfl))
      simp only [Act.put, List.setIfInBounds_toArray, List.set_cons_zero, List.set_cons_succ]
      refine wpTakes_step (v := ?_) rfl (by rfl) ?_ ?_
      rotate_left
      · (rintro _ ⟨z9, rfl⟩; go_simp; try (with_reducible rfl))
      simp only [Act.put, List.setIfInBounds_toArray, List.set_cons_zero, List.set_cons_succ]
      refine wpTakes_step (v := ?_) rfl (by rfl) ?_ ?_
      rotate_left
      · (rintro _ ⟨z9, rfl⟩; go_simp; try (with_reducible rfl))
      simp only [Act.put, List.setIfInBounds_toArray, List.set_cons_zero, List.set_cons_succ]
      refine wpTakes_step (v := ?_) rfl (by rfl) ?_ ?_
      rotate_left
      · (rintro _ ⟨z9, rfl⟩; go_simp; try (with_reducible rfl))
      simp only [Act.put, List.setIfInBounds_toArray, List.set_cons_zero, List.set_cons_succ]
      simp only [wpTakes, List.drop_succ_cons, List.drop_zero]
      go_wp2_with fail
      refine (refRow_any markW _ 7 7 g.row _ ((is7n V g.o g.m0 g.m1 g.m2 g.m3 g.m4 g.m5 3 V.heap.size rfl).keep (by go_grown)) HX.out (by decide) (by omega)).mono ?_
      rintro e x5 ⟨rfl, hb5⟩
      rw [show lineK markW g.row ++ ⟨#[10]⟩ = lineB markW g.row from rfl]
      have hV5 : Below V.heap.size V x5 := up (show Below V.heap.size V (V.alloc (.cells #[.int .i64 g.o, .int .i64 g.m0, .int .i64 g.m1, .int .i64 g.m2, .int .i64 g.m3, .int .i64 g.m4, .int .i64 g.m5] 3)).drew by go_grown) hb5
      refine ⟨below_grow hV5, ?_⟩
      obtain ⟨y, rfl⟩ := below_grow (up (grow_below x3 z) (up HV.out hV5))
      clear hb5 hV5 cg ck cv
      go_wp2
      rw [wr41 (lt41 Hl.out H40.out hlt)]
      exact ⟨⟨k + 1, y, hlt, congrArg Value.string HSN.out.symm, int41 k, rfl⟩, less41 hlt⟩
    · obtain rfl : k = n := by omega
      go_wp2
      go_ret2
      refine ⟨?_, up HB3.out (grow_below x3 z)⟩
      rw [List.take_of_length_le (by have := Hl.out; omega), HH.out]; rfl
end Go.Proofs.YtfhcofljlkihoaaGreatDoor

namespace Go.Proofs.YtfhcofljlkihoaaGreatDoor
open Go Go.RowKit

section takes
variable {P : Program} {ops : Array Oper} {md : Region.Mode} {S : World → Prop} {Q : Exit → Act → World → Prop} {n : Nat}
theorem wpAnyT_step2 {i j fuel : Nat} {listed : Array Bool} {a : Act} {w : World} {o p : Oper} (hr : Region.ready md ops listed = [i, j]) (hi : ops[i]? = some o) (hg : o.guard = none) (hj : ops[j]? = some p) (hg2 : p.guard = none)
    (h : o.wp P a w (fun a' w' => S w' ∧ wpAnyT P md ops Q S n fuel (listed.setIfInBounds i true) a' w') Q)
    (h2 : p.wp P a w (fun a' w' => S w' ∧ wpAnyT P md ops Q S n fuel (listed.setIfInBounds j true) a' w') Q) : wpAnyT P md ops Q S n (fuel + 1) listed a w := by
  refine ⟨fun h0 => absurd (hr.symm.trans h0) (by simp), fun k hk => ?_⟩
  rw [hr] at hk
  unfold wpOp
  rcases (by simpa using hk : k = i ∨ k = j) with rfl | rfl
  · simp only [hi, Region.wanted, hg, if_true]
    exact .inl (Oper.wp_mono (fun a'' w'' h2 => ⟨fun _ => h2.1, h2.2⟩) h)
  · simp only [hj, Region.wanted, hg2, if_true]
    exact .inl (Oper.wp_mono (fun a'' w'' h2 => ⟨fun _ => h2.1, h2.2⟩) h2)
theorem wpAnyT_tail {l : List Oper} {fuel : Nat} {listed : Array Bool} {a : Act} {w : World} (hf : l.length - n = fuel) (hall : (List.range n).all (fun i => listed.getD i true) = true) (hseq : Region.seqB md l.toArray (l.length - n) n listed = true)
    (h : wpList P l.toArray Q (l.drop n) a w) : wpAnyT P md l.toArray Q S n fuel listed a w := by
  subst hf
  refine wpAnyT_of _ _ _ _ (fun i hi => by have := List.all_eq_true.1 hall i (List.mem_range.2 hi); exact this) ?_
  have := wpAny_of_seq (md := md) (ops := l.toArray) (Q' := Q) (l.drop n) n listed a w (fun j => by simp [List.getElem?_drop]) (by rw [List.length_drop]; exact hseq) h
  rwa [List.length_drop] at this
end takes
theorem makes_grown {P : Program} {Q : Exit → Act → World → Prop} {o : Oper} {a : Act} {w v : World} {K : Act → World → Prop} (hm : Makes P o) (hv : grown w v) (h : o.wp P a v (fun a' w' => K a' w') Q) : o.wp P a v (fun a' w' => grown w w' ∧ K a' w') Q := by
  refine Oper.wp_mono (fun a1 w1 h1 => ⟨?_, h1.2⟩) (hm.wp h)
  obtain ⟨z, rfl⟩ := hv
  exact below_grow (up (grow_below w z) h1.1)

theorem wp_region_takesG {P : Program} {id : Nat} {Q : Exit → Act → World → Prop} {a : Act} {w : World} {l : List Oper} (n fuel : Nat) (is : List Nat) (hmo : P.follows .mixedOrders = true)
    (hsel : Region.noSelect l.toArray = true) (hs : Region.sinkB .any l.toArray n = true) (hc : Region.chainB .any l.toArray n = true) (hn : n < l.length)
    (hQ : ∀ d v c a w, Q (.panic c) (a.put d v) w → Q (.panic c) a w)
    (hB : takesB .any l.toArray n is (Array.replicate l.length false) = true) (hlen : l.length = fuel + is.length)
    (h : wpTakes P l.toArray (grown w) (fun a' => wpAnyT P .any l.toArray Q (grown w) n fuel (marks is (Array.replicate l.length false)) a' w.drew) is a) : (Code.region id l.toArray true).wp P Q a w := by
  refine wp_region_any hmo ?_
  refine wpAny_of_T (S := grown w) (n := n) _ _ _ _ ?_
  have inv0 : HeadInv .any l.toArray n (Array.replicate l.length false) :=
    { size := by simp
      closed := fun j oj _ hl => by rw [getD_replicate_false] at hl; cases hl
      tail := fun t _ ht => getD_in (by simpa using ht) (getD_replicate_false _ _) }
  have hw0 : grown w { w with drawn := w.drawn + 1 } := ⟨⟨#[], w.drawn + 1⟩, by simp [grow]⟩
  have key := wpAnyT_takes (P := P) (Q := Q) (S := grown w) (md := .any) hsel hs hc (by simpa using hn) hQ is (Array.replicate l.length false) a { w with drawn := w.drawn + 1 } fuel hB inv0 hw0 h (fun a' hG _ => hG)
  rw [← hlen] at key
  simpa using key
end Go.Proofs.YtfhcofljlkihoaaGreatDoor

