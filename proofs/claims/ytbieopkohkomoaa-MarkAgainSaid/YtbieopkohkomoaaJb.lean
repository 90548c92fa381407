/- Contracts of functions of the program and of the reference, and plain facts: a part of a proof. Own text. -/
import Derived.Test.YtbieopkohkomoaaJa
import Derived.OwnWalk
set_option linter.unusedVariables false
set_option linter.unusedSimpArgs false
set_option linter.unusedSectionVars false
namespace Go.Proofs.Ytbieopkohkomoaa
open Go.RowKit
set_option maxHeartbeats 400000
set_option maxRecDepth 100000

theorem band_self (s : Int) (h0 : 0 ≤ s) (h1 : s ≤ 31) (i : Nat) (hi : hasB s i = true) : (band s s == 0) = false := by
  have key : ∀ t : Fin 32, (band t.val t.val == 0) = true → t.val = 0 := by decide
  obtain ⟨n, rfl⟩ := Int.eq_ofNat_of_zero_le h0
  cases e : (band (n : Int) n == 0)
  · rfl
  · have := key ⟨n, by omega⟩ e
    have h0 : n = 0 := this
    subst h0
    have : hasB 0 i = false := by
      unfold hasB band
      have : bits BinOp.and IntKind.i64 0 (2 ^ i) = 0 := by simp [bits]; rfl
      simp [this]
    rw [show ((0 : Nat) : Int) = 0 from rfl, this] at hi
    cases hi
/-- A sign's worn signs have the sign itself. -/
theorem worn_self {w0 w1 w2 w3 w4 : Int} (h : okW w0 w1 w2 w3 w4 = true) {s : Int} (h0 : 0 ≤ s) (h1 : s < 5) : mis (g5 w0 w1 w2 w3 w4 s) (g5 w0 w1 w2 w3 w4 s) = 0 := by
  simp only [okW, wrB, Bool.and_eq_true, decide_eq_true_eq] at h
  obtain ⟨⟨⟨⟨⟨⟨a0, b0⟩, c0⟩, ⟨a1, b1⟩, c1⟩, ⟨a2, b2⟩, c2⟩, ⟨a3, b3⟩, c3⟩, ⟨a4, b4⟩, c4⟩ := h
  rcases (by omega : s = 0 ∨ s = 1 ∨ s = 2 ∨ s = 3 ∨ s = 4) with rfl | rfl | rfl | rfl | rfl
  · exact mis_no (band_self w0 a0 b0 0 c0)
  · exact mis_no (band_self w1 a1 b1 1 c1)
  · exact mis_no (band_self w2 a2 b2 2 c2)
  · exact mis_no (band_self w3 a3 b3 3 c3)
  · exact mis_no (band_self w4 a4 b4 4 c4)
theorem apartB_eq {w0 w1 w2 w3 w4 p a0 a1 a2 a3 a4 a5 b0 b1 b2 b3 b4 b5 : Int} (h : okW w0 w1 w2 w3 w4 = true) (hp : 0 ≤ p) (ha0 : 0 ≤ a0) (ka0 : a0 < 5) (ha1 : 0 ≤ a1) (ka1 : a1 < 5) (ha2 : 0 ≤ a2) (ka2 : a2 < 5) (ha3 : 0 ≤ a3) (ka3 : a3 < 5) (ha4 : 0 ≤ a4) (ka4 : a4 < 5) (ha5 : 0 ≤ a5) (ka5 : a5 < 5) : apartB w0 w1 w2 w3 w4 p a0 a1 a2 a3 a4 a5 b0 b1 b2 b3 b4 b5 = decide (2 * p < wdist w0 w1 w2 w3 w4 a0 a1 a2 a3 a4 a5 b0 b1 b2 b3 b4 b5) := by
  unfold apartB
  cases hs : same6 a0 a1 a2 a3 a4 a5 b0 b1 b2 b3 b4 b5
  · rfl
  · obtain ⟨rfl, rfl, rfl, rfl, rfl, rfl⟩ := (same6_iff _ _ _ _ _ _ _ _ _ _ _ _).1 hs
    have : wdist w0 w1 w2 w3 w4 a0 a1 a2 a3 a4 a5 a0 a1 a2 a3 a4 a5 = 0 := by
      unfold wdist dist6
      rw [worn_self h ha0 ka0, worn_self h ha1 ka1, worn_self h ha2 ka2, worn_self h ha3 ka3, worn_self h ha4 ka4, worn_self h ha5 ka5]; rfl
    rw [this]
    symm
    simp; omega
/-- Near, by distance. -/
def nearD (w0 w1 w2 w3 w4 p m0 m1 m2 m3 m4 m5 : Int) (gs : List Giv) : Bool := gs.any fun g => decide (wdist w0 w1 w2 w3 w4 g.m0 g.m1 g.m2 g.m3 g.m4 g.m5 m0 m1 m2 m3 m4 m5 ≤ 2 * p)
theorem near_eq {w0 w1 w2 w3 w4 p m0 m1 m2 m3 m4 m5 : Int} {gs : List Giv} (h : okW w0 w1 w2 w3 w4 = true) (hp : 0 ≤ p) (hok : ∀ g ∈ gs, g.ok) : nearB w0 w1 w2 w3 w4 p m0 m1 m2 m3 m4 m5 gs = nearD w0 w1 w2 w3 w4 p m0 m1 m2 m3 m4 m5 gs := by
  unfold nearB nearD
  induction gs with
  | nil => rfl
  | cons g gs ih =>
    rw [List.any_cons, List.any_cons, ih fun x hx => hok x (List.mem_cons_of_mem _ hx)]
    obtain ⟨⟨p0, q0⟩, ⟨p1, q1⟩, ⟨p2, q2⟩, ⟨p3, q3⟩, ⟨p4, q4⟩, ⟨p5, q5⟩⟩ := hok g (List.mem_cons_self ..)
    rw [apartB_eq h hp p0 q0 p1 q1 p2 q2 p3 q3 p4 q4 p5 q5]
    congr 1
    by_cases c : 2 * p < wdist w0 w1 w2 w3 w4 g.m0 g.m1 g.m2 g.m3 g.m4 g.m5 m0 m1 m2 m3 m4 m5
    · simp [c]
    · simp [c]; omega

theorem refCheckWear_yes (a0 a1 a2 a3 a4 : Int) (w : World) (h : okW a0 a1 a2 a3 a4 = true) : Calls Try.prog 17 #[.agg #[.int .i64 a0, .int .i64 a1, .int .i64 a2, .int .i64 a3, .int .i64 a4]] w fun e w' => e = .returned (.int .i64 0) ∧ Below w.heap.size w w' :=
  (refCheckWear_any _ _ _ _ _ w).mono fun e w' g => ⟨by rw [g.1, err_t _ h], g.2⟩
theorem refCheckWear_no (a0 a1 a2 a3 a4 : Int) (w : World) (h : okW a0 a1 a2 a3 a4 = false) : Calls Try.prog 17 #[.agg #[.int .i64 a0, .int .i64 a1, .int .i64 a2, .int .i64 a3, .int .i64 a4]] w fun e w' => e = .returned (.int .i64 11) ∧ Below w.heap.size w w' :=
  (refCheckWear_any _ _ _ _ _ w).mono fun e w' g => ⟨by rw [g.1, err_f _ (by rw [h]; simp)], g.2⟩
theorem refCheckMark_yes (a0 a1 a2 a3 a4 a5 : Int) (w : World) (h : okM a0 a1 a2 a3 a4 a5 = true) : Calls Try.prog 15 #[.agg #[.int .i64 a0, .int .i64 a1, .int .i64 a2, .int .i64 a3, .int .i64 a4, .int .i64 a5]] w fun e w' => e = .returned (.int .i64 0) ∧ Below w.heap.size w w' :=
  (refCheckMark_any _ _ _ _ _ _ w).mono fun e w' g => ⟨by rw [g.1, err_t _ h], g.2⟩
theorem refCheckMark_no (a0 a1 a2 a3 a4 a5 : Int) (w : World) (h : okM a0 a1 a2 a3 a4 a5 = false) : Calls Try.prog 15 #[.agg #[.int .i64 a0, .int .i64 a1, .int .i64 a2, .int .i64 a3, .int .i64 a4, .int .i64 a5]] w fun e w' => e = .returned (.int .i64 10) ∧ Below w.heap.size w w' :=
  (refCheckMark_any _ _ _ _ _ _ w).mono fun e w' g => ⟨by rw [g.1, err_f _ (by rw [h]; simp)], g.2⟩

theorem refCheck_any (w0 w1 w2 w3 w4 F : Int) (A : Option Addr) (n c : Nat) (gs : List Giv) (w : World) (hg : Gs w A n gs) :
    Calls Try.prog 21 #[.agg #[.int .i64 w0, .int .i64 w1, .int .i64 w2, .int .i64 w3, .int .i64 w4, .int .i64 F, .slice A n c]] w fun e w' => e = .returned (.int .i64 (err (okB w0 w1 w2 w3 w4 F gs) 13)) ∧ Below w.heap.size w w' := by
  have hn := hg.small
  have Hl : Hid (n = gs.length) := Lib.hid hg.len
  go_enter Try.func21, Try.ntmps21
  go_wp2_with fail
  generalize hW : (World.alloc _ _) = W
  have HW : Hid (Below w.heap.size w W) := Lib.hid (by subst hW; go_grown)
  have hs : w.heap.size < W.heap.size := by subst hW; simp
  have cm : ∀ j, W.cell? ⟨w.heap.size, j, none⟩ = [Value.int .i64 w0, .int .i64 w1, .int .i64 w2, .int .i64 w3, .int .i64 w4, .int .i64 F, .slice A n c][j]? := by subst hW; intro j; simp [go_sem]
  clear hW
  cases hw : okW w0 w1 w2 w3 w4
  · refine (refCheckWear_no w0 w1 w2 w3 w4 W hw).mono ?_
    rintro e x1 ⟨rfl, hb1⟩
    obtain ⟨z, rfl⟩ := below_grow hb1
    have Hw := Lib.hid hw
    clear hw
    go_wp2
    go_ret
    refine ⟨congrArg (fun v => Ending.returned (Value.int .i64 v)) ?_, up HW.out (grow_below W z)⟩
    rw [err_f]; unfold okB; rw [Hw.out]; simp
  refine (refCheckWear_yes w0 w1 w2 w3 w4 W hw).mono ?_
  rintro e x1 ⟨rfl, hb1⟩
  obtain ⟨z0, rfl⟩ := below_grow hb1
  have Hw := Lib.hid hw
  clear hw hb1
  by_cases hF : 0 ≤ F ∧ F ≤ 2
  rotate_left
  · go_wp2_with (go_at_call 67; refine (in_dec _ _ _ _).mono ?_; rintro e x1 (⟨rfl, hi, rfl⟩ | ⟨rfl, hi, rfl⟩))
    · exact absurd hi hF
    · go_ret
      refine ⟨congrArg (fun v => Ending.returned (Value.int .i64 v)) ?_, up HW.out (grow_below W z0)⟩
      rw [err_f]; unfold okB; simp; intros; omega
  obtain ⟨hF0, hF2⟩ := hF
  by_cases h40 : 40 < n
  · go_wp2_with (go_at_call 67; refine (in_dec _ _ _ _).mono ?_; rintro e x1 (⟨rfl, hi, rfl⟩ | ⟨rfl, hi, rfl⟩))
    · go_ret
      refine ⟨congrArg (fun v => Ending.returned (Value.int .i64 v)) ?_, up HW.out (grow_below W z0)⟩
      rw [err_f]; unfold okB; rw [← Hl.out]; simp; intros; omega
    · exact absurd ⟨hF0, hF2⟩ hi
  go_wp2_with (go_at_call 67; refine (in_dec _ _ _ _).mono ?_; rintro e x1 (⟨rfl, hi, rfl⟩ | ⟨rfl, hi, rfl⟩))
  rotate_left
  · exact absurd ⟨hF0, hF2⟩ hi
  clear hi
  have hg1 := hg.keep HW.out
  go_loopw [3] (fun i wr => ∃ (k : Nat) (z : Gr), k ≤ n ∧ i = .int .i64 k ∧ wr = grow W z ∧ allK (okAt w0 w1 w2 w3 w4 F gs) k = true) (fun i _ => n - (intOf i).toNat)
  case atStart => exact ⟨0, z0, by omega, rfl, rfl, rfl⟩
  case round =>
    obtain ⟨k, z, hk, rfl, rfl, hall⟩ := hrel
    have e1 : w.heap.size < W.heap.size + z.blocks.size := by omega
    have e3 : w.heap.size < W.heap.size + z.blocks.size + 1 := by omega
    have hsz : w.heap.size < (grow W z).heap.size := by simp; omega
    by_cases hlt : k < n
    rotate_left
    · obtain rfl : k = n := by omega
      go_wp2
      go_ret
      refine ⟨congrArg (fun v => Ending.returned (Value.int .i64 v)) ?_, up HW.out (grow_below W z)⟩
      rw [err_t]; unfold okB; rw [Hw.out, ← Hl.out, hall]; simp; omega
    have hkl : k < gs.length := by rw [← Hl.out]; exact hlt
    have hga : gs[k]? = some gs[k] := List.getElem?_eq_getElem hkl
    have Hat := Lib.hid (okAt_some (w0 := w0) (w1 := w1) (w2 := w2) (w3 := w3) (w4 := w4) (F := F) hga)
    have Hno := Lib.hid (fun h => allK_no (okAt w0 w1 w2 w3 w4 F gs) k h gs.length hkl)
    have hok := ok_take hall
    have hgt := hg1.take k hk
    obtain ⟨b, o, rfl, hb, hc⟩ := hg1.get k hkl
    have Hg1 := Lib.hid hg1
    obtain ⟨c0, c1, c2, c3, c4, c5, c6⟩ := hc
    have Hall := Lib.hid hall
    generalize gs[k] = g at *
    have Hgt := Lib.hid hgt
    have Hok := Lib.hid hok
    have Hga := Lib.hid hga
    clear hall hga hgt hok hg1
    have fin : ∀ (x1 : World), Below W.heap.size W x1 → okAt w0 w1 w2 w3 w4 F gs k = false → Ending.returned (Value.int .i64 13) = Ending.returned (Value.int .i64 (err (okB w0 w1 w2 w3 w4 F gs) 13)) ∧ Below w.heap.size w x1 := fun y hy h =>
      ⟨by rw [err_f]; unfold okB; rw [Hno.out h]; simp, up HW.out hy⟩
    have Fin := Lib.hid fin
    clear fin
    have e5 : b < W.heap.size + z.blocks.size := by omega
    by_cases hrg : 1 ≤ g.o ∧ g.o ≤ 99
    rotate_left
    · have C2 := Lib.hid hrg
      clear hrg
      go_wp2
      refine wp_region_grow (by kernel_rfl) (by kernel_rfl) ?_
      repeat (go_big_quiet_step ((go_at_call 67; exact quiet_grow rfl (in_no _ _ _ _ C2.out))))
      refine wpQuiet_nil ?_
      intro z'
      go_wp2
      go_ret
      exact Fin.out _ (up (grow_below W z) (up (up_alloc _ _) (grow_below _ _))) (by rw [Hat.out]; simp; intros; have := C2.out; omega)
    cases hm : okM g.m0 g.m1 g.m2 g.m3 g.m4 g.m5
    · have Hm := Lib.hid hm
      clear hm
      go_wp2
      refine wp_region_grow (by kernel_rfl) (by kernel_rfl) ?_
      repeat (go_big_quiet_step ((first | (go_at_call 67; exact quiet_grow rfl (in_yes _ _ _ _ hrg)) | (go_at_call 15; exact quiet_grow rfl (refCheckMark_no _ _ _ _ _ _ _ Hm.out)))))
      refine wpQuiet_nil ?_
      intro z'
      go_wp2
      go_ret
      exact Fin.out _ (up (grow_below W z) (up (up_alloc _ _) (grow_below _ _))) (by rw [Hat.out]; unfold Giv.okB; rw [Hm.out]; simp)
    have Hm := Lib.hid hm
    obtain ⟨⟨p0, q0⟩, ⟨p1, q1⟩, ⟨p2, q2⟩, ⟨p3, q3⟩, ⟨p4, q4⟩, ⟨p5, q5⟩⟩ := (okM_iff _ _ _ _ _ _).1 hm
    clear hm
    have Hnq : Hid (nearB w0 w1 w2 w3 w4 F g.m0 g.m1 g.m2 g.m3 g.m4 g.m5 (gs.take k) = nearD w0 w1 w2 w3 w4 F g.m0 g.m1 g.m2 g.m3 g.m4 g.m5 (gs.take k)) := Lib.hid (near_eq Hw.out hF0 Hok.out)
    have Hprev : Hid (0 < k → W.cell? ⟨b, o + (k - 1) * 7, none⟩ = some (.int .i64 (lastO gs k))) := Lib.hid (fun h0 => by
      obtain ⟨k', rfl⟩ : ∃ k', k = k' + 1 := ⟨k - 1, by omega⟩
      obtain ⟨b', o', hbo, hb', hc'⟩ := Hg1.out.get k' (by omega)
      obtain ⟨rfl, rfl⟩ : b = b' ∧ o = o' := by simpa using hbo
      have : lastO gs (k' + 1) = (gs[k']'(by omega)).o := by show (gs.getD k' default).o = _; simp [show k' < gs.length by omega]
      rw [this]; exact hc'.c0)
    have Hl0 : Hid (¬ 0 < k → lastO gs k = 0) := Lib.hid (fun h => by obtain rfl : k = 0 := by omega
                                                                      rfl)
    generalize lastO gs k = L at *
    by_cases hlo : g.o ≤ L
    · by_cases hk0 : 0 < k
      rotate_left
      · have := Hl0.out hk0; omega
      have d0 := Hprev.out hk0
      have hk1 : decide ((0 : Int) < (k : Int)) = true := by simpa using hk0
      go_wp2
      refine wp_region_grow (by kernel_rfl) (by kernel_rfl) ?_
      repeat (go_big_quiet_step ((first | (go_at_call 67; exact quiet_grow rfl (in_yes _ _ _ _ hrg)) | (go_at_call 15; exact quiet_grow rfl (refCheckMark_yes _ _ _ _ _ _ _ Hm.out)))))
      refine wpQuiet_nil ?_
      intro z'
      go_wp2
      go_ret
      exact Fin.out _ (up (grow_below W z) (up (up_alloc _ _) (grow_below _ _))) (by rw [Hat.out]; simp; intros; omega)
    by_cases hk0 : 0 < k
    · have d0 := Hprev.out hk0
      have hk1 : decide ((0 : Int) < (k : Int)) = true := by simpa using hk0
      go_wp2
      refine wp_region_grow (by kernel_rfl) (by kernel_rfl) ?_
      repeat (go_big_quiet_step ((first | (go_at_call 67; exact quiet_grow rfl (in_yes _ _ _ _ hrg)) | (go_at_call 15; exact quiet_grow rfl (refCheckMark_yes _ _ _ _ _ _ _ Hm.out)))))
      refine wpQuiet_nil ?_
      intro z'
      go_wp2
      generalize hV : grow (World.alloc _ _) z' = V
      have HV : Hid (Below W.heap.size W V) := Lib.hid (by subst hV; exact up (grow_below W z) (up (up_alloc _ _) (grow_below _ _)))
      have v1 : w.heap.size < V.heap.size := by subst hV; simp; omega
      have v2 : W.heap.size + z.blocks.size < V.heap.size := by subst hV; simp; omega
      have v3 : b < V.heap.size := by subst hV; simp; omega
      have cv : ∀ j, V.cell? ⟨w.heap.size, j, none⟩ = [Value.int .i64 w0, .int .i64 w1, .int .i64 w2, .int .i64 w3, .int .i64 w4, .int .i64 F, .slice (some ⟨b, o, none⟩) n c][j]? := by
        intro j; rw [← cm j]; exact HV.out.cell (p := ⟨w.heap.size, j, none⟩) hs
      have cg : ∀ j, V.cell? ⟨W.heap.size + z.blocks.size, j, none⟩ = [Value.int .i64 g.o, .int .i64 g.m0, .int .i64 g.m1, .int .i64 g.m2, .int .i64 g.m3, .int .i64 g.m4, .int .i64 g.m5][j]? := by
        subst hV; intro j
        rw [grow_cell_lt _ _ _ _ (by simp), World.cell?_alloc_at _ _ _ _ (by simp)]; simp
      have HG := Lib.hid (Hgt.out.keep HV.out)
      clear hV hk1 hk0
      go_loopw [5] (fun j wr => ∃ (q : Nat) (y : Gr), q ≤ k ∧ j = .int .i64 q ∧ wr = grow V y ∧ nearD w0 w1 w2 w3 w4 F g.m0 g.m1 g.m2 g.m3 g.m4 g.m5 ((gs.take k).take q) = false) (fun j _ => k - (intOf j).toNat)
      case atStart => exact ⟨0, ⟨#[], V.drawn⟩, by omega, rfl, by simp [grow], rfl⟩
      case round =>
        obtain ⟨q, y, hq, rfl, rfl, hnd⟩ := hrel
        have Hnd := Lib.hid hnd
        clear hnd
        have f1 : w.heap.size < V.heap.size + y.blocks.size := by omega
        have f2 : w.heap.size < (grow V y).heap.size := by simp; omega
        have f3 : W.heap.size + z.blocks.size < (grow V y).heap.size := by simp; omega
        have f4 : b < (grow V y).heap.size := by simp; omega
        by_cases hqk : q < k
        · have hql : q < (gs.take k).length := by rw [← HG.out.len]; exact hqk
          have Hsn : Hid ((gs.take k).take (q + 1) = (gs.take k).take q ++ [(gs.take k)[q]]) := Lib.hid (List.take_succ_eq_append_getElem hql)
          have hmem := List.getElem_mem hql
          obtain ⟨b', o', hbo, hb', hc'⟩ := HG.out.get q hql
          obtain ⟨rfl, rfl⟩ : b = b' ∧ o = o' := by simpa using hbo
          generalize (gs.take k)[q] = x at *
          have Hmem := Lib.hid hmem
          obtain ⟨⟨r0, s0⟩, ⟨r1, s1⟩, ⟨r2, s2⟩, ⟨r3, s3⟩, ⟨r4, s4⟩, ⟨r5, s5⟩⟩ := Hok.out x hmem
          obtain ⟨x0, x1, x2, x3, x4, x5, x6⟩ := hc'
          clear hmem hbo
          by_cases hle : wdist w0 w1 w2 w3 w4 x.m0 x.m1 x.m2 x.m3 x.m4 x.m5 g.m0 g.m1 g.m2 g.m3 g.m4 g.m5 ≤ 2 * F
          · go_wp2
            refine wp_region_grow (by kernel_rfl) (by kernel_rfl) ?_
            repeat (go_big_quiet_step ((go_at_call 73; exact quiet_grow rfl (refDistance_any _ _ _ _ _ _ _ _ _ _ _ _ _ _ _ _ _ _ (by assumption) (by assumption) (by assumption) (by assumption) (by assumption) (by assumption) (by assumption) (by assumption) (by assumption) (by assumption) (by assumption) (by assumption) (by assumption) (by assumption) (by assumption) (by assumption) (by assumption) (by assumption) (by assumption) (by assumption) (by assumption) (by assumption) (by assumption) (by assumption) ))))
            refine wpQuiet_nil ?_
            intro y'
            go_wp2
            go_ret
            refine Fin.out _ (up HV.out (up (grow_below V y) (grow_below _ y'))) ?_
            rw [Hat.out, Hnq.out, show nearD w0 w1 w2 w3 w4 F g.m0 g.m1 g.m2 g.m3 g.m4 g.m5 (gs.take k) = true from List.any_eq_true.2 ⟨x, Hmem.out, by simpa using hle⟩]; simp
          · go_wp2
            refine wp_region_grow (by kernel_rfl) (by kernel_rfl) ?_
            repeat (go_big_quiet_step ((go_at_call 73; exact quiet_grow rfl (refDistance_any _ _ _ _ _ _ _ _ _ _ _ _ _ _ _ _ _ _ (by assumption) (by assumption) (by assumption) (by assumption) (by assumption) (by assumption) (by assumption) (by assumption) (by assumption) (by assumption) (by assumption) (by assumption) (by assumption) (by assumption) (by assumption) (by assumption) (by assumption) (by assumption) (by assumption) (by assumption) (by assumption) (by assumption) (by assumption) (by assumption) ))))
            refine wpQuiet_nil ?_
            intro y'
            obtain ⟨v, hv⟩ := grow_grow V y y'
            rw [hv]
            clear hv
            go_wp2
            refine ⟨⟨q + 1, v, by omega, by go_num, rfl, ?_⟩, by simp [intOf]; omega⟩
            rw [Hsn.out]
            unfold nearD
            rw [List.any_append, show ((gs.take k).take q).any (fun g_1 => decide (wdist w0 w1 w2 w3 w4 g_1.m0 g_1.m1 g_1.m2 g_1.m3 g_1.m4 g_1.m5 g.m0 g.m1 g.m2 g.m3 g.m4 g.m5 ≤ 2 * F)) = false from Hnd.out]
            simpa using hle
        · obtain rfl : q = k := by omega
          go_wp2
          obtain ⟨v, hv⟩ := below_grow (up HV.out (grow_below V y))
          refine ⟨⟨q + 1, v, by omega, by go_num, hv, ?_⟩, by simp [intOf]; omega⟩
          show (allK (okAt w0 w1 w2 w3 w4 F gs) q && okAt w0 w1 w2 w3 w4 F gs q) = true
          have hnd := Hnd.out
          rw [List.take_of_length_le (by simp; omega)] at hnd
          rw [Hall.out, Hat.out, Hnq.out, hnd]; unfold Giv.okB; rw [Hm.out]; simp; omega
    · have hk1 : decide ((0 : Int) < (k : Int)) = false := by simpa using hk0
      go_wp2
      refine wp_region_grow (by kernel_rfl) (by kernel_rfl) ?_
      repeat (go_big_quiet_step ((first | (go_at_call 67; exact quiet_grow rfl (in_yes _ _ _ _ hrg)) | (go_at_call 15; exact quiet_grow rfl (refCheckMark_yes _ _ _ _ _ _ _ Hm.out)))))
      refine wpQuiet_nil ?_
      intro z'
      go_wp2
      generalize hV : grow (World.alloc _ _) z' = V
      have HV : Hid (Below W.heap.size W V) := Lib.hid (by subst hV; exact up (grow_below W z) (up (up_alloc _ _) (grow_below _ _)))
      have v1 : w.heap.size < V.heap.size := by subst hV; simp; omega
      have v2 : W.heap.size + z.blocks.size < V.heap.size := by subst hV; simp; omega
      have v3 : b < V.heap.size := by subst hV; simp; omega
      have cv : ∀ j, V.cell? ⟨w.heap.size, j, none⟩ = [Value.int .i64 w0, .int .i64 w1, .int .i64 w2, .int .i64 w3, .int .i64 w4, .int .i64 F, .slice (some ⟨b, o, none⟩) n c][j]? := by
        intro j; rw [← cm j]; exact HV.out.cell (p := ⟨w.heap.size, j, none⟩) hs
      have cg : ∀ j, V.cell? ⟨W.heap.size + z.blocks.size, j, none⟩ = [Value.int .i64 g.o, .int .i64 g.m0, .int .i64 g.m1, .int .i64 g.m2, .int .i64 g.m3, .int .i64 g.m4, .int .i64 g.m5][j]? := by
        subst hV; intro j
        rw [grow_cell_lt _ _ _ _ (by simp), World.cell?_alloc_at _ _ _ _ (by simp)]; simp
      have HG := Lib.hid (Hgt.out.keep HV.out)
      clear hV hk1 hk0
      go_loopw [5] (fun j wr => ∃ (q : Nat) (y : Gr), q ≤ k ∧ j = .int .i64 q ∧ wr = grow V y ∧ nearD w0 w1 w2 w3 w4 F g.m0 g.m1 g.m2 g.m3 g.m4 g.m5 ((gs.take k).take q) = false) (fun j _ => k - (intOf j).toNat)
      case atStart => exact ⟨0, ⟨#[], V.drawn⟩, by omega, rfl, by simp [grow], rfl⟩
      case round =>
        obtain ⟨q, y, hq, rfl, rfl, hnd⟩ := hrel
        have Hnd := Lib.hid hnd
        clear hnd
        have f1 : w.heap.size < V.heap.size + y.blocks.size := by omega
        have f2 : w.heap.size < (grow V y).heap.size := by simp; omega
        have f3 : W.heap.size + z.blocks.size < (grow V y).heap.size := by simp; omega
        have f4 : b < (grow V y).heap.size := by simp; omega
        by_cases hqk : q < k
        · have hql : q < (gs.take k).length := by rw [← HG.out.len]; exact hqk
          have Hsn : Hid ((gs.take k).take (q + 1) = (gs.take k).take q ++ [(gs.take k)[q]]) := Lib.hid (List.take_succ_eq_append_getElem hql)
          have hmem := List.getElem_mem hql
          obtain ⟨b', o', hbo, hb', hc'⟩ := HG.out.get q hql
          obtain ⟨rfl, rfl⟩ : b = b' ∧ o = o' := by simpa using hbo
          generalize (gs.take k)[q] = x at *
          have Hmem := Lib.hid hmem
          obtain ⟨⟨r0, s0⟩, ⟨r1, s1⟩, ⟨r2, s2⟩, ⟨r3, s3⟩, ⟨r4, s4⟩, ⟨r5, s5⟩⟩ := Hok.out x hmem
          obtain ⟨x0, x1, x2, x3, x4, x5, x6⟩ := hc'
          clear hmem hbo
          by_cases hle : wdist w0 w1 w2 w3 w4 x.m0 x.m1 x.m2 x.m3 x.m4 x.m5 g.m0 g.m1 g.m2 g.m3 g.m4 g.m5 ≤ 2 * F
          · go_wp2
            refine wp_region_grow (by kernel_rfl) (by kernel_rfl) ?_
            repeat (go_big_quiet_step ((go_at_call 73; exact quiet_grow rfl (refDistance_any _ _ _ _ _ _ _ _ _ _ _ _ _ _ _ _ _ _ (by assumption) (by assumption) (by assumption) (by assumption) (by assumption) (by assumption) (by assumption) (by assumption) (by assumption) (by assumption) (by assumption) (by assumption) (by assumption) (by assumption) (by assumption) (by assumption) (by assumption) (by assumption) (by assumption) (by assumption) (by assumption) (by assumption) (by assumption) (by assumption) ))))
            refine wpQuiet_nil ?_
            intro y'
            go_wp2
            go_ret
            refine Fin.out _ (up HV.out (up (grow_below V y) (grow_below _ y'))) ?_
            rw [Hat.out, Hnq.out, show nearD w0 w1 w2 w3 w4 F g.m0 g.m1 g.m2 g.m3 g.m4 g.m5 (gs.take k) = true from List.any_eq_true.2 ⟨x, Hmem.out, by simpa using hle⟩]; simp
          · go_wp2
            refine wp_region_grow (by kernel_rfl) (by kernel_rfl) ?_
            repeat (go_big_quiet_step ((go_at_call 73; exact quiet_grow rfl (refDistance_any _ _ _ _ _ _ _ _ _ _ _ _ _ _ _ _ _ _ (by assumption) (by assumption) (by assumption) (by assumption) (by assumption) (by assumption) (by assumption) (by assumption) (by assumption) (by assumption) (by assumption) (by assumption) (by assumption) (by assumption) (by assumption) (by assumption) (by assumption) (by assumption) (by assumption) (by assumption) (by assumption) (by assumption) (by assumption) (by assumption) ))))
            refine wpQuiet_nil ?_
            intro y'
            obtain ⟨v, hv⟩ := grow_grow V y y'
            rw [hv]
            clear hv
            go_wp2
            refine ⟨⟨q + 1, v, by omega, by go_num, rfl, ?_⟩, by simp [intOf]; omega⟩
            rw [Hsn.out]
            unfold nearD
            rw [List.any_append, show ((gs.take k).take q).any (fun g_1 => decide (wdist w0 w1 w2 w3 w4 g_1.m0 g_1.m1 g_1.m2 g_1.m3 g_1.m4 g_1.m5 g.m0 g.m1 g.m2 g.m3 g.m4 g.m5 ≤ 2 * F)) = false from Hnd.out]
            simpa using hle
        · obtain rfl : q = k := by omega
          go_wp2
          obtain ⟨v, hv⟩ := below_grow (up HV.out (grow_below V y))
          refine ⟨⟨q + 1, v, by omega, by go_num, hv, ?_⟩, by simp [intOf]; omega⟩
          show (allK (okAt w0 w1 w2 w3 w4 F gs) q && okAt w0 w1 w2 w3 w4 F gs q) = true
          have hnd := Hnd.out
          rw [List.take_of_length_le (by simp; omega)] at hnd
          rw [Hall.out, Hat.out, Hnq.out, hnd]; unfold Giv.okB; rw [Hm.out]; simp; omega
end Go.Proofs.Ytbieopkohkomoaa

namespace Go.Proofs.Ytbieopkohkomoaa
open Go.RowKit
set_option maxHeartbeats 400000
set_option maxRecDepth 100000

/-- Numbers as values; the owners of marks. -/
def ints (l : List Int) : List Value := l.map (Value.int .i64)
def own (gs : List Giv) : List Int := gs.map Giv.o
theorem ints_snoc (l : List Int) (x : Int) : ints (l ++ [x]) = ints l ++ [.int .i64 x] := by simp [ints]
theorem own_snoc (l : List Giv) (x : Giv) : own (l ++ [x]) = own l ++ [x.o] := by simp [own]
/-- A slice holds these numbers. -/
structure Is (w : World) (A : Option Addr) (n : Nat) (l : List Int) : Prop where
  len : n = l.length
  small : n ≤ 9223372036854775807
  get : ∀ k (h : k < l.length), ∃ b o, A = some ⟨b, o, none⟩ ∧ b < w.heap.size ∧ w.cell? ⟨b, o + k, none⟩ = some (.int .i64 l[k])
theorem Is.keep {w w' : World} {A : Option Addr} {n : Nat} {l : List Int} (h : Is w A n l) (hb : Below w.heap.size w w') : Is w' A n l :=
  ⟨h.len, h.small, fun k hk => by
    obtain ⟨b, o, e, hlt, hg⟩ := h.get k hk
    exact ⟨b, o, e, by have := hb.size; omega, (hb.cell (p := ⟨b, o + k, none⟩) hlt).trans hg⟩⟩
/-- A function hands back a slice of its own with these numbers. -/
theorem Is.of_own {w : World} {base n : Nat} {v : Value} {l : List Int} (h : w.ownsRow base 3 1 v n (ints l)) : ∃ A c, v = .slice A n c ∧ n ≤ c ∧ Is w A n l := by
  have hl : n = l.length := by have := h.1; simp [ints] at this; omega
  rcases h.2 with ⟨rfl, rfl⟩ | ⟨g, cap, cur, rfl, _, hg, hnc, hcm, hcs, htk⟩
  · exact ⟨none, 0, rfl, Nat.le_refl _, hl, by omega, fun k hk => by omega⟩
  · refine ⟨some ⟨g, 0, none⟩, cap, rfl, hnc, hl, by unfold maxLen at hcm; omega, fun k hk => ⟨g, 0, rfl, (Array.getElem?_eq_some_iff.1 hg).1, ?_⟩⟩
    have := h.cells (g := g) rfl k (.int .i64 l[k]) (by simp [ints, hk])
    rw [Nat.zero_add]; rw [Addr.add_lit] at this; simpa using this

theorem info3 : (Try.prog.info? 3).map (fun i => (i.zero, i.size, i.bytes)) = some (some (.int .i64 0), 1, 8) := by kernel_rfl

theorem ownersOf_any (A : Option Addr) (n c : Nat) (gs : List Giv) (w : World) (hg : Gs w A n gs) (hr : n ≤ 17592186044416) :
    Calls Try.prog 84 #[.slice A n c] w fun e w' => ∃ v, e = .returned v ∧ w'.ownsRow w.heap.size 3 1 v n (ints (own gs)) ∧ Below w.heap.size w w' := by
  have hn := hg.small
  have Hl : Hid (n = gs.length) := Lib.hid hg.len
  obtain ⟨i0, hi, hz0, hz1, hz2⟩ := info_parts info3
  have HI := Lib.hid hi
  have HZ0 := Lib.hid hz0
  have HZ1 := Lib.hid hz1
  have HZ2 := Lib.hid hz2
  clear hi hz0 hz1 hz2
  go_enter Try.func84, Try.ntmps84
  go_wp2
  go_loopw [3, 8] (fun v i wr => ∃ (k : Nat) (z : Gr), k ≤ n ∧ i = .int .i64 k ∧ wr = grow w z ∧ (grow w z).ownsRow w.heap.size 3 1 v k (ints (own (gs.take k)))) (fun _ i _ => n - (intOf i).toNat)
  case atStart => exact ⟨0, ⟨#[], w.drawn⟩, by omega, rfl, by simp [grow], World.ownsRow_nil _ _ _ _⟩
  case round =>
    obtain ⟨k, z, hk, rfl, rfl, hown⟩ := hrel
    have Hown := Lib.hid hown; clear hown
    by_cases hlt : k < n
    · have hkl : k < gs.length := by rw [← Hl.out]; exact hlt
      have Htk : Hid (ints (own (gs.take (k + 1))) = ints (own (gs.take k)) ++ [.int .i64 gs[k].o]) := Lib.hid (by rw [List.take_succ_eq_append_getElem hkl, own_snoc, ints_snoc])
      generalize hX : ints (own (gs.take k)) = X at *
      have HX := Lib.hid hX; clear hX
      obtain ⟨b, o, rfl, hb, hc⟩ := hg.get k hkl
      obtain ⟨c0, c1, c2, c3, c4, c5, c6⟩ := hc
      generalize gs[k] = g at *
      have e5 : b < w.heap.size + z.blocks.size := by omega
      go_wp2_with (at_builtin; refine wpList_append_own _ rfl _ _ 54 rfl w.heap.size 3 i0 (.int .i64 0) 1 8 Try.underlying54 HI.out HZ0.out HZ1.out HZ2.out rfl (by decide) _ _ _ rfl ((Hown.out.alloc _).alloc _) ⟨w.heap.size + z.blocks.size + 1, 0, none⟩ 1 1 [.int .i64 g.o] rfl rfl ?c1 ?c2 ?c3 ?c4 ?c5 ?_)
      case c1 =>
        intro j u hu
        cases j with
        | zero => simp at hu; subst hu; simp [Addr.add_lit, go_sem]
        | succ j => simp at hu
      case c2 => intro u hu; simp at hu; subst hu; rfl
      case c3 => unfold maxLen; omega
      case c4 => omega
      case c5 => simp; omega
      intro v' w' hown' hgr _
      have hbel : Below w.heap.size w w' := (up (grow_below w z) (up (up_alloc _ _) (up_alloc _ _))).grown hgr (by simp; omega) (fun q hq => (Hown.out.lt q hq).1)
      have Hown' := Lib.hid hown'
      clear hown' hgr
      obtain ⟨y, rfl⟩ := below_grow hbel
      go_wp2
      refine ⟨⟨k + 1, y, by omega, by go_num, rfl, ?_⟩, by simp [intOf]; omega⟩
      rw [Htk.out]; exact Hown'.out
    · obtain rfl : k = n := by omega
      go_wp2
      go_ret
      refine ⟨_, rfl, ?_, grow_below w z⟩
      have := Hown.out
      rw [List.take_of_length_le (by rw [← Hl.out]; exact Nat.le_refl _)] at this
      exact this
end Go.Proofs.Ytbieopkohkomoaa

namespace Go.Proofs.Ytbieopkohkomoaa
open Go.RowKit
set_option maxHeartbeats 400000
set_option maxRecDepth 100000

/-- The index of a number from k on, -1 if there is none. -/
def pos (l : List Int) (x : Int) (k : Nat) : Int :=
  match l with
  | [] => -1
  | y :: r => if (y == x) = true then k else pos r x (k + 1)
theorem pos_yes {y x : Int} (r : List Int) (k : Nat) (h : y = x) : pos (y :: r) x k = k := by unfold pos; rw [if_pos (by simp [h])]
theorem pos_no {y x : Int} (r : List Int) (k : Nat) (h : y ≠ x) : pos (y :: r) x k = pos r x (k + 1) := by rw [pos, if_neg (by simp [h])]

theorem index_any (A : Option Addr) (n c : Nat) (l : List Int) (x : Int) (w : World) (hg : Is w A n l) :
    Calls Try.prog 106 #[.slice A n c, .int .i64 x] w fun e w' => e = .returned (.int .i64 (pos l x 0)) ∧ w = w' := by
  have hn := hg.small
  have Hl : Hid (n = l.length) := Lib.hid hg.len
  go_enter Try.func106, Try.ntmps106
  go_wp2
  go_loop [8] (fun i => ∃ (k : Nat), k ≤ n ∧ i = .int .i64 k ∧ pos (l.drop k) x k = pos l x 0) (fun i => n - (intOf i).toNat)
  case atStart => exact ⟨0, by omega, rfl, rfl⟩
  case round =>
    obtain ⟨k, hk, rfl, hp⟩ := hrel
    have Hp := Lib.hid hp; clear hp
    by_cases hlt : k < n
    · have hkl : k < l.length := by rw [← Hl.out]; exact hlt
      have Hd : Hid (l.drop k = l[k] :: l.drop (k + 1)) := Lib.hid (List.drop_eq_getElem_cons hkl)
      obtain ⟨b, o, rfl, hb, hc⟩ := hg.get k hkl
      generalize l[k] = y at *
      by_cases hy : x = y
      · have hy1 : (x == y) = true := by simpa using hy
        have Hy := Lib.hid hy
        clear hy
        go_wp2
        go_ret
        refine ⟨congrArg (fun v => Ending.returned (Value.int .i64 v)) ?_, rfl⟩
        rw [← Hp.out, Hd.out, pos_yes _ _ Hy.out.symm]
      · have hy1 : (x == y) = false := by simpa using hy
        have Hy := Lib.hid hy
        clear hy
        go_wp2
        refine ⟨⟨k + 1, by omega, by go_num, ?_⟩, by simp [intOf]; omega⟩
        rw [← Hp.out, Hd.out, pos_no _ _ (fun h => Hy.out h.symm)]
    · obtain rfl : k = n := by omega
      go_wp2
      go_ret
      refine ⟨congrArg (fun v => Ending.returned (Value.int .i64 v)) ?_, rfl⟩
      rw [← Hp.out, Hl.out, List.drop_length]; rfl

/-- The first that is not 0. -/
def firstE : List Int → Int
  | [] => 0
  | y :: r => if (y != 0) = true then y else firstE r
theorem firstE_yes {y : Int} (r : List Int) (h : (y != 0) = true) : firstE (y :: r) = y := by unfold firstE; rw [if_pos h]
theorem firstE_no {y : Int} (r : List Int) (h : (y != 0) = false) : firstE (y :: r) = firstE r := by rw [firstE, if_neg (by simp [h])]

theorem first_any (A : Option Addr) (n c : Nat) (l : List Int) (w : World) (hg : Is w A n l) :
    Calls Try.prog 75 #[.slice A n c] w fun e w' => e = .returned (.int .i64 (firstE l)) ∧ w = w' := by
  have hn := hg.small
  have Hl : Hid (n = l.length) := Lib.hid hg.len
  go_enter Try.func75, Try.ntmps75
  go_wp2
  go_loop [7] (fun i => ∃ (k : Nat), k ≤ n ∧ i = .int .i64 k ∧ firstE (l.drop k) = firstE l) (fun i => n - (intOf i).toNat)
  case atStart => exact ⟨0, by omega, rfl, rfl⟩
  case round =>
    obtain ⟨k, hk, rfl, hp⟩ := hrel
    have Hp := Lib.hid hp; clear hp
    by_cases hlt : k < n
    · have hkl : k < l.length := by rw [← Hl.out]; exact hlt
      have Hd : Hid (l.drop k = l[k] :: l.drop (k + 1)) := Lib.hid (List.drop_eq_getElem_cons hkl)
      obtain ⟨b, o, rfl, hb, hc⟩ := hg.get k hkl
      generalize l[k] = y at *
      cases hy : (y != 0)
      · have Hy := Lib.hid hy
        go_wp2
        refine ⟨⟨k + 1, by omega, by go_num, ?_⟩, by simp [intOf]; omega⟩
        rw [← Hp.out, Hd.out, firstE_no _ Hy.out]
      · have Hy := Lib.hid hy
        go_wp2
        go_ret
        refine ⟨congrArg (fun v => Ending.returned (Value.int .i64 v)) ?_, rfl⟩
        rw [← Hp.out, Hd.out, firstE_yes _ Hy.out]
    · obtain rfl : k = n := by omega
      go_wp2
      go_ret
      refine ⟨congrArg (fun v => Ending.returned (Value.int .i64 v)) ?_, rfl⟩
      rw [← Hp.out, Hl.out, List.drop_length]; rfl

/-- The same lists. -/
def sameL (a b : List Int) : Bool := a == b
theorem same_yes (A A' : Option Addr) (n c c' : Nat) (l : List Int) (w : World) (hg : Is w A n l) (hg' : Is w A' n l) :
    Calls Try.prog 38 #[.slice A n c, .slice A' n c'] w fun e w' => e = .returned (.bool true) ∧ Below w.heap.size w w' := by
  have hn := hg.small
  have Hl : Hid (n = l.length) := Lib.hid hg.len
  go_enter Try.func38, Try.ntmps38
  go_wp2
  go_loopw [5] (fun i wr => ∃ (k : Nat) (z : Gr), k ≤ n ∧ i = .int .i64 k ∧ wr = grow w z) (fun i _ => n - (intOf i).toNat)
  case atStart => exact ⟨0, ⟨#[], w.drawn⟩, by omega, rfl, by simp [grow]⟩
  case round =>
    obtain ⟨k, z, hk, rfl, rfl⟩ := hrel
    by_cases hlt : k < n
    · have hkl : k < l.length := by rw [← Hl.out]; exact hlt
      obtain ⟨b, o, rfl, hb, hc⟩ := hg.get k hkl
      obtain ⟨b', o', rfl, hb', hc'⟩ := hg'.get k hkl
      generalize l[k] = y at *
      have e1 : b < (grow w z).heap.size := by simp; omega
      have e2 : b' < (grow w z).heap.size := by simp; omega
      go_wp2
      refine wp_region_grow (by kernel_rfl) (by kernel_rfl) ?_
      repeat (go_big_quiet_step ((fail)))
      refine wpQuiet_nil ?_
      intro z'
      obtain ⟨x, hx⟩ := grow_grow w z z'
      rw [hx]
      clear hx
      go_wp2
      exact ⟨⟨k + 1, x, by omega, by go_num, rfl⟩, by simp [intOf]; omega⟩
    · obtain rfl : k = n := by omega
      go_wp2
      go_ret
      exact ⟨rfl, grow_below w z⟩
end Go.Proofs.Ytbieopkohkomoaa

namespace Go.Proofs.Ytbieopkohkomoaa
open Go.RowKit
set_option maxHeartbeats 400000
set_option maxRecDepth 100000

theorem check_yes (w0 w1 w2 w3 w4 F : Int) (A : Option Addr) (n c : Nat) (gs : List Giv) (w : World) (hg : Gs w A n gs) (hnc : n ≤ c) (h : okB w0 w1 w2 w3 w4 F gs = true) :
    Calls Try.prog 20 #[.agg #[.int .i64 w0, .int .i64 w1, .int .i64 w2, .int .i64 w3, .int .i64 w4, .int .i64 F, .slice A n c]] w fun e w' => e = .returned (.int .i64 0) ∧ Below w.heap.size w w' :=
  (check_any _ _ _ _ _ _ _ _ _ _ _ hg hnc).mono fun e w' g => ⟨by rw [g.1, err_t _ h], g.2⟩
theorem check_no (w0 w1 w2 w3 w4 F : Int) (A : Option Addr) (n c : Nat) (gs : List Giv) (w : World) (hg : Gs w A n gs) (hnc : n ≤ c) (h : okB w0 w1 w2 w3 w4 F gs = false) :
    Calls Try.prog 20 #[.agg #[.int .i64 w0, .int .i64 w1, .int .i64 w2, .int .i64 w3, .int .i64 w4, .int .i64 F, .slice A n c]] w fun e w' => e = .returned (.int .i64 13) ∧ Below w.heap.size w w' :=
  (check_any _ _ _ _ _ _ _ _ _ _ _ hg hnc).mono fun e w' g => ⟨by rw [g.1, err_f _ (by rw [h]; simp)], g.2⟩
theorem refCheck_yes (w0 w1 w2 w3 w4 F : Int) (A : Option Addr) (n c : Nat) (gs : List Giv) (w : World) (hg : Gs w A n gs) (h : okB w0 w1 w2 w3 w4 F gs = true) :
    Calls Try.prog 21 #[.agg #[.int .i64 w0, .int .i64 w1, .int .i64 w2, .int .i64 w3, .int .i64 w4, .int .i64 F, .slice A n c]] w fun e w' => e = .returned (.int .i64 0) ∧ Below w.heap.size w w' :=
  (refCheck_any _ _ _ _ _ _ _ _ _ _ _ hg).mono fun e w' g => ⟨by rw [g.1, err_t _ h], g.2⟩
theorem refCheck_no (w0 w1 w2 w3 w4 F : Int) (A : Option Addr) (n c : Nat) (gs : List Giv) (w : World) (hg : Gs w A n gs) (h : okB w0 w1 w2 w3 w4 F gs = false) :
    Calls Try.prog 21 #[.agg #[.int .i64 w0, .int .i64 w1, .int .i64 w2, .int .i64 w3, .int .i64 w4, .int .i64 F, .slice A n c]] w fun e w' => e = .returned (.int .i64 13) ∧ Below w.heap.size w w' :=
  (refCheck_any _ _ _ _ _ _ _ _ _ _ _ hg).mono fun e w' g => ⟨by rw [g.1, err_f _ (by rw [h]; simp)], g.2⟩

theorem okB_40 {w0 w1 w2 w3 w4 F : Int} {gs : List Giv} (h : okB w0 w1 w2 w3 w4 F gs = true) : gs.length ≤ 40 := by
  simp only [okB, Bool.and_eq_true, decide_eq_true_eq] at h; exact h.1.2

/-- What is found of an owner: an index, and an error. -/
def findI (w0 w1 w2 w3 w4 F : Int) (gs : List Giv) (x : Int) : Int :=
  if okB w0 w1 w2 w3 w4 F gs = true ∧ (1 ≤ x ∧ x ≤ 99) ∧ 0 ≤ pos (own gs) x 0 then pos (own gs) x 0 else 0
def findE (w0 w1 w2 w3 w4 F : Int) (gs : List Giv) (x : Int) : Int :=
  if okB w0 w1 w2 w3 w4 F gs = true then if 1 ≤ x ∧ x ≤ 99 then if 0 ≤ pos (own gs) x 0 then 0 else 3 else 15 else 13

theorem pos_bd (l : List Int) (x : Int) : ∀ k, pos l x k = -1 ∨ ((k : Int) ≤ pos l x k ∧ pos l x k < k + l.length) := by
  induction l with
  | nil => intro k; left; rfl
  | cons y r ih =>
    intro k
    by_cases h : y = x
    · rw [pos_yes _ _ h]; right; simp; omega
    · rw [pos_no _ _ h]
      rcases ih (k + 1) with h1 | h1
      · left; exact h1
      · right; simp; omega

theorem ret_ii {a b c d : Int} (h1 : a = c) (h2 : b = d) : Ending.returned (.tuple #[.int .i64 a, .int .i64 b]) = Ending.returned (.tuple #[.int .i64 c, .int .i64 d]) := by rw [h1, h2]

theorem find_any (w0 w1 w2 w3 w4 F x : Int) (A : Option Addr) (n c : Nat) (gs : List Giv) (w : World) (hg : Gs w A n gs) (hnc : n ≤ c) :
    Calls Try.prog 64 #[.agg #[.int .i64 w0, .int .i64 w1, .int .i64 w2, .int .i64 w3, .int .i64 w4, .int .i64 F, .slice A n c], .int .i64 x] w fun e w' => e = .returned (.tuple #[.int .i64 (findI w0 w1 w2 w3 w4 F gs x), .int .i64 (findE w0 w1 w2 w3 w4 F gs x)]) ∧ Below w.heap.size w w' := by
  have Hl : Hid (n = gs.length) := Lib.hid hg.len
  go_enter Try.func64, Try.ntmps64
  go_wp2_with fail
  generalize hW : (World.alloc _ _) = W
  have HW : Hid (Below w.heap.size w W) := Lib.hid (by subst hW; go_grown)
  have hs : w.heap.size < W.heap.size := by subst hW; simp
  have cm : ∀ j, W.cell? ⟨w.heap.size, j, none⟩ = [Value.int .i64 w0, .int .i64 w1, .int .i64 w2, .int .i64 w3, .int .i64 w4, .int .i64 F, .slice A n c][j]? := by subst hW; intro j; simp [go_sem]
  clear hW
  cases hb : okB w0 w1 w2 w3 w4 F gs
  · refine (check_no w0 w1 w2 w3 w4 F A n c gs W (hg.keep HW.out) hnc hb).mono ?_
    rintro e x1 ⟨rfl, hb1⟩
    have Hb := Lib.hid hb
    clear hb
    go_wp2
    go_ret2
    refine ⟨ret_ii ?_ ?_, up HW.out hb1⟩
    · unfold findI; rw [if_neg (by rw [Hb.out]; simp)]
    · unfold findE; rw [if_neg (by rw [Hb.out]; simp)]
  refine (check_yes w0 w1 w2 w3 w4 F A n c gs W (hg.keep HW.out) hnc hb).mono ?_
  rintro e x1 ⟨rfl, hb1⟩
  obtain ⟨z0, rfl⟩ := below_grow hb1
  have h40 := okB_40 hb
  have Hb := Lib.hid hb
  clear hb hb1
  by_cases hx : 1 ≤ x ∧ x ≤ 99
  rotate_left
  · go_wp2_with (go_at_call 71; refine (owner_dec _ _).mono ?_; rintro e x1 (⟨rfl, hi, rfl⟩ | ⟨rfl, hi, rfl⟩))
    · exact absurd hi hx
    · go_ret2
      refine ⟨ret_ii ?_ ?_, up HW.out (grow_below W z0)⟩
      · unfold findI; rw [if_neg (fun h => hx h.2.1)]
      · unfold findE; rw [if_pos Hb.out, if_neg hx]
  by_cases hp : pos (own gs) x 0 < 0
  · go_wp2_with (first
      | (go_at_call 71; refine (owner_dec _ _).mono ?_; rintro e x1 (⟨rfl, hi, rfl⟩ | ⟨rfl, hi, rfl⟩))
      | (go_at_call 84; refine (ownersOf_any _ _ _ gs _ ((hg.keep HW.out).keep (grow_below _ _)) (by have := Hl.out; omega)).mono ?_; rintro e x1 ⟨v, rfl, hown, hb2⟩; obtain ⟨A', c', rfl, _, his⟩ := Is.of_own hown; clear hown; have His := Lib.hid his; clear his)
      | (go_at_call 106; refine (index_any _ _ _ _ _ _ His.out).mono ?_; rintro e x1 ⟨rfl, rfl⟩))
    · go_ret2
      refine ⟨ret_ii ?_ ?_, up HW.out (up (grow_below W z0) hb2)⟩
      · unfold findI; rw [if_neg (fun h => by omega)]
      · unfold findE; rw [if_pos Hb.out, if_pos hx, if_neg (by omega)]
    · exact absurd hx hi
  · go_wp2_with (first
      | (go_at_call 71; refine (owner_dec _ _).mono ?_; rintro e x1 (⟨rfl, hi, rfl⟩ | ⟨rfl, hi, rfl⟩))
      | (go_at_call 84; refine (ownersOf_any _ _ _ gs _ ((hg.keep HW.out).keep (grow_below _ _)) (by have := Hl.out; omega)).mono ?_; rintro e x1 ⟨v, rfl, hown, hb2⟩; obtain ⟨A', c', rfl, _, his⟩ := Is.of_own hown; clear hown; have His := Lib.hid his; clear his)
      | (go_at_call 106; refine (index_any _ _ _ _ _ _ His.out).mono ?_; rintro e x1 ⟨rfl, rfl⟩))
    · go_ret2
      refine ⟨ret_ii ?_ ?_, up HW.out (up (grow_below W z0) hb2)⟩
      · unfold findI; rw [if_pos ⟨Hb.out, hx, by omega⟩]
      · unfold findE; rw [if_pos Hb.out, if_pos hx, if_pos (by omega)]
    · exact absurd hx hi
end Go.Proofs.Ytbieopkohkomoaa

namespace Go.Proofs.Ytbieopkohkomoaa
open Go.RowKit
set_option maxHeartbeats 400000
set_option maxRecDepth 100000

/-- The mark that is found; zeros if none. -/
def foundM (w0 w1 w2 w3 w4 F : Int) (gs : List Giv) (x : Int) : Giv := if findE w0 w1 w2 w3 w4 F gs x = 0 then gs.getD (findI w0 w1 w2 w3 w4 F gs x).toNat default else default
def Giv.agg (g : Giv) : Value := .agg #[.int .i64 g.m0, .int .i64 g.m1, .int .i64 g.m2, .int .i64 g.m3, .int .i64 g.m4, .int .i64 g.m5]

theorem findE_cases (w0 w1 w2 w3 w4 F : Int) (gs : List Giv) (x : Int) :
    (findE w0 w1 w2 w3 w4 F gs x ≠ 0 ∧ foundM w0 w1 w2 w3 w4 F gs x = default) ∨
    (findE w0 w1 w2 w3 w4 F gs x = 0 ∧ okB w0 w1 w2 w3 w4 F gs = true ∧ (1 ≤ x ∧ x ≤ 99) ∧ ∃ k : Nat, k < gs.length ∧ findI w0 w1 w2 w3 w4 F gs x = k ∧ pos (own gs) x 0 = k ∧ foundM w0 w1 w2 w3 w4 F gs x = gs.getD k default) := by
  by_cases h : findE w0 w1 w2 w3 w4 F gs x = 0
  · right
    have h0 := h
    unfold findE at h
    by_cases h1 : okB w0 w1 w2 w3 w4 F gs = true
    · rw [if_pos h1] at h
      by_cases h2 : 1 ≤ x ∧ x ≤ 99
      · rw [if_pos h2] at h
        by_cases h3 : 0 ≤ pos (own gs) x 0
        · have hI : findI w0 w1 w2 w3 w4 F gs x = pos (own gs) x 0 := by unfold findI; rw [if_pos ⟨h1, h2, h3⟩]
          have hb := pos_bd (own gs) x 0
          have hl : (own gs).length = gs.length := by simp [own]
          obtain ⟨k, hk⟩ := Int.eq_ofNat_of_zero_le h3
          refine ⟨h0, h1, h2, k, by omega, by rw [hI, hk], hk, ?_⟩
          unfold foundM; rw [if_pos h0, hI, hk]; rfl
        · rw [if_neg h3] at h; omega
      · rw [if_neg h2] at h; omega
    · rw [if_neg h1] at h; omega
  · left; exact ⟨h, by unfold foundM; rw [if_neg h]⟩

theorem ret_gi {a c : Int} {g : Giv} (h1 : g = default) (h2 : a = c) : Ending.returned (.tuple #[.agg #[.int .i64 0, .int .i64 0, .int .i64 0, .int .i64 0, .int .i64 0, .int .i64 0], .int .i64 a]) = Ending.returned (.tuple #[g.agg, .int .i64 c]) := by
  rw [h1, h2]; rfl
theorem ret_Gi {a c : Int} {g g' : Giv} (h1 : g = g') (h2 : a = c) : Ending.returned (.tuple #[.agg #[.int .i64 g.m0, .int .i64 g.m1, .int .i64 g.m2, .int .i64 g.m3, .int .i64 g.m4, .int .i64 g.m5], .int .i64 a]) = Ending.returned (.tuple #[g'.agg, .int .i64 c]) := by
  rw [h1, h2]; rfl

/-- Six cells written, read again. -/
theorem put6 (w : World) (b : Nat) (v0 v1 v2 v3 v4 v5 : Value) (h : ∀ j, j < 6 → (w.cell? ⟨b, j, none⟩).isSome = true) : ∀ j, j < 6 →
    ((((((w.setCell ⟨b, 0, none⟩ v0).setCell ⟨b, 1, none⟩ v1).setCell ⟨b, 2, none⟩ v2).setCell ⟨b, 3, none⟩ v3).setCell ⟨b, 4, none⟩ v4).setCell ⟨b, 5, none⟩ v5).cell? ⟨b, j, none⟩ = [v0, v1, v2, v3, v4, v5][j]? := by
  intro j hj
  have := World.cell?_setCells_in b [v0, v1, v2, v3, v4, v5] 0 w (fun j hj => by rw [Nat.zero_add]; exact h j (by simpa using hj)) j (by simpa using hj)
  rw [Nat.zero_add] at this
  rw [List.getElem?_eq_getElem (by simpa using hj)]
  exact this
theorem put6_below {a w : World} {B b : Nat} (h : Below B a w) (hB : B ≤ b) (v0 v1 v2 v3 v4 v5 : Value) :
    Below B a ((((((w.setCell ⟨b, 0, none⟩ v0).setCell ⟨b, 1, none⟩ v1).setCell ⟨b, 2, none⟩ v2).setCell ⟨b, 3, none⟩ v3).setCell ⟨b, 4, none⟩ v4).setCell ⟨b, 5, none⟩ v5) :=
  (((((h.setCell hB _).setCell hB _).setCell hB _).setCell hB _).setCell hB _).setCell hB _

theorem markOf_any (w0 w1 w2 w3 w4 F x : Int) (A : Option Addr) (n c : Nat) (gs : List Giv) (w : World) (hg : Gs w A n gs) (hnc : n ≤ c) :
    Calls Try.prog 12 #[.agg #[.int .i64 w0, .int .i64 w1, .int .i64 w2, .int .i64 w3, .int .i64 w4, .int .i64 F, .slice A n c], .int .i64 x] w fun e w' => e = .returned (.tuple #[(foundM w0 w1 w2 w3 w4 F gs x).agg, .int .i64 (findE w0 w1 w2 w3 w4 F gs x)]) ∧ Below w.heap.size w w' := by
  have Hl : Hid (n = gs.length) := Lib.hid hg.len
  go_enter Try.func12, Try.ntmps12
  go_wp2_with fail
  generalize hW : (World.alloc _ _) = W
  have HW : Hid (Below w.heap.size w W) := Lib.hid (by subst hW; go_grown)
  have hs : w.heap.size + 1 < W.heap.size := by subst hW; simp
  have cm : ∀ j, W.cell? ⟨w.heap.size, j, none⟩ = [Value.int .i64 w0, .int .i64 w1, .int .i64 w2, .int .i64 w3, .int .i64 w4, .int .i64 F, .slice A n c][j]? := by subst hW; intro j; simp [go_sem]
  have cr : ∀ j, W.cell? ⟨w.heap.size + 1, j, none⟩ = [Value.int .i64 0, .int .i64 0, .int .i64 0, .int .i64 0, .int .i64 0, .int .i64 0][j]? := by subst hW; intro j; simp [go_sem]
  have fr : ∀ j, W.frozen? ⟨w.heap.size + 1, j, none⟩ = false := by subst hW; intro j; simp [go_sem]
  clear hW
  refine (find_any w0 w1 w2 w3 w4 F x A n c gs W (hg.keep HW.out) hnc).mono ?_
  rintro e x1 ⟨rfl, hb1⟩
  obtain ⟨z, rfl⟩ := below_grow hb1
  clear hb1
  have hs0 : w.heap.size < W.heap.size := by omega
  have Ex : Hid (∀ j, j < 6 → ((grow W z).cell? ⟨w.heap.size + 1, j, none⟩).isSome = true) := Lib.hid (by
    intro j hj
    rw [grow_cell_lt _ _ _ _ hs, cr j]
    rcases (by omega : j = 0 ∨ j = 1 ∨ j = 2 ∨ j = 3 ∨ j = 4 ∨ j = 5) with rfl | rfl | rfl | rfl | rfl | rfl <;> rfl)
  rcases findE_cases w0 w1 w2 w3 w4 F gs x with ⟨h0, hd⟩ | ⟨h0, hb, hx, k, hk, hI, hp, hd⟩
  · have H0 := Lib.hid h0
    have Hd := Lib.hid hd
    have h1 : (findE w0 w1 w2 w3 w4 F gs x != 0) = true := by simpa using h0
    clear h0 hd
    go_wp2
    have P := put6 (grow W z) (w.heap.size + 1) (.int .i64 0) (.int .i64 0) (.int .i64 0) (.int .i64 0) (.int .i64 0) (.int .i64 0) Ex.out
    have B := put6_below (up HW.out (grow_below W z)) (by omega : w.heap.size ≤ w.heap.size + 1) (.int .i64 0) (.int .i64 0) (.int .i64 0) (.int .i64 0) (.int .i64 0) (.int .i64 0)
    generalize World.setCell _ ⟨w.heap.size + 1, 5, none⟩ _ = V at P B ⊢
    have p0 := P 0 (by omega); have p1 := P 1 (by omega); have p2 := P 2 (by omega); have p3 := P 3 (by omega); have p4 := P 4 (by omega); have p5 := P 5 (by omega)
    clear P
    simp at p0 p1 p2 p3 p4 p5
    refine bodyPost_ret (v := .tuple #[.agg #[.int .i64 0, .int .i64 0, .int .i64 0, .int .i64 0, .int .i64 0, .int .i64 0], .int .i64 (findE w0 w1 w2 w3 w4 F gs x)]) (by simp [results, Try.results12, go_sem, p0, p1, p2, p3, p4, p5]) rfl ⟨ret_gi Hd.out rfl, B⟩
  · have H0 := Lib.hid h0
    have Hd := Lib.hid hd
    have h1 : (findE w0 w1 w2 w3 w4 F gs x != 0) = false := by simpa using h0
    clear h0 hd hp
    obtain ⟨b, o, rfl, hbl, hc⟩ := (hg.keep HW.out).get k hk
    obtain ⟨c0, c1, c2, c3, c4, c5, c6⟩ := hc
    have Hgk : Hid (gs.getD k default = gs[k]) := Lib.hid (by simp [hk])
    have hkn : k < n := by rw [Hl.out]; exact hk
    generalize gs[k] = g at *
    rw [hI]
    clear hI
    go_wp2
    have P := put6 (grow W z) (w.heap.size + 1) (.int .i64 g.m0) (.int .i64 g.m1) (.int .i64 g.m2) (.int .i64 g.m3) (.int .i64 g.m4) (.int .i64 g.m5) Ex.out
    have B := put6_below (up HW.out (grow_below W z)) (by omega : w.heap.size ≤ w.heap.size + 1) (.int .i64 g.m0) (.int .i64 g.m1) (.int .i64 g.m2) (.int .i64 g.m3) (.int .i64 g.m4) (.int .i64 g.m5)
    generalize World.setCell _ ⟨w.heap.size + 1, 5, none⟩ _ = V at P B ⊢
    have p0 := P 0 (by omega); have p1 := P 1 (by omega); have p2 := P 2 (by omega); have p3 := P 3 (by omega); have p4 := P 4 (by omega); have p5 := P 5 (by omega)
    clear P
    simp at p0 p1 p2 p3 p4 p5
    refine bodyPost_ret (v := .tuple #[.agg #[.int .i64 g.m0, .int .i64 g.m1, .int .i64 g.m2, .int .i64 g.m3, .int .i64 g.m4, .int .i64 g.m5], .int .i64 0]) (by simp [results, Try.results12, go_sem, p0, p1, p2, p3, p4, p5]) rfl ⟨ret_Gi (by rw [Hd.out, Hgk.out]) H0.out.symm, B⟩

theorem refAsked_any (w0 w1 w2 w3 w4 F x : Int) (A : Option Addr) (n c : Nat) (gs : List Giv) (w : World) (hg : Gs w A n gs) :
    Calls Try.prog 65 #[.agg #[.int .i64 w0, .int .i64 w1, .int .i64 w2, .int .i64 w3, .int .i64 w4, .int .i64 F, .slice A n c], .int .i64 x] w fun e w' => e = .returned (.int .i64 (if okB w0 w1 w2 w3 w4 F gs = true then if 1 ≤ x ∧ x ≤ 99 then 0 else 15 else 13)) ∧ Below w.heap.size w w' := by
  generalize hR : (if okB w0 w1 w2 w3 w4 F gs = true then if 1 ≤ x ∧ x ≤ 99 then (0 : Int) else 15 else 13) = R
  have HR := Lib.hid hR
  clear hR
  go_enter Try.func65, Try.ntmps65
  cases hb : okB w0 w1 w2 w3 w4 F gs
  · have Hb := Lib.hid hb
    clear hb
    go_wp2_with (go_at_call 21; refine (refCheck_no w0 w1 w2 w3 w4 F A n c gs _ (hg.keep (up_alloc _ _)) Hb.out).mono ?_; rintro e x1 ⟨rfl, hb1⟩)
    go_ret
    refine ⟨congrArg (fun v => Ending.returned (Value.int .i64 v)) ?_, up (up_alloc _ _) hb1⟩
    rw [← HR.out, if_neg (by rw [Hb.out]; simp)]
  · have Hb := Lib.hid hb
    clear hb
    by_cases hx : 1 ≤ x ∧ x ≤ 99
    · have Hx := Lib.hid hx
      go_wp2_with (first | (go_at_call 21; refine (refCheck_yes w0 w1 w2 w3 w4 F A n c gs _ (hg.keep (up_alloc _ _)) Hb.out).mono ?_; rintro e x1 ⟨rfl, hb1⟩) | (go_at_call 67; refine (in_dec _ _ _ _).mono ?_; rintro e x1 (⟨rfl, hi, rfl⟩ | ⟨rfl, hi, rfl⟩)))
      · go_ret
        refine ⟨congrArg (fun v => Ending.returned (Value.int .i64 v)) ?_, up (up_alloc _ _) hb1⟩
        rw [← HR.out, if_pos Hb.out, if_pos Hx.out]
      · exact absurd hx hi
    · have Hx := Lib.hid hx
      go_wp2_with (first | (go_at_call 21; refine (refCheck_yes w0 w1 w2 w3 w4 F A n c gs _ (hg.keep (up_alloc _ _)) Hb.out).mono ?_; rintro e x1 ⟨rfl, hb1⟩) | (go_at_call 67; refine (in_dec _ _ _ _).mono ?_; rintro e x1 (⟨rfl, hi, rfl⟩ | ⟨rfl, hi, rfl⟩)))
      · exact absurd hi Hx.out
      · go_ret
        refine ⟨congrArg (fun v => Ending.returned (Value.int .i64 v)) ?_, up (up_alloc _ _) hb1⟩
        rw [← HR.out, if_pos Hb.out, if_neg Hx.out]

theorem refIndex_any (w0 w1 w2 w3 w4 F x : Int) (A : Option Addr) (n c : Nat) (gs : List Giv) (w : World) (hg : Gs w A n gs) :
    Calls Try.prog 66 #[.agg #[.int .i64 w0, .int .i64 w1, .int .i64 w2, .int .i64 w3, .int .i64 w4, .int .i64 F, .slice A n c], .int .i64 x] w fun e w' => e = .returned (.int .i64 (pos (own gs) x 0)) ∧ Below w.heap.size w w' := by
  have hn := hg.small
  have Hl : Hid (n = gs.length) := Lib.hid hg.len
  go_enter Try.func66, Try.ntmps66
  go_wp2
  generalize hW : (World.alloc _ _) = W
  have HW : Hid (Below w.heap.size w W) := Lib.hid (by subst hW; go_grown)
  have hs : w.heap.size < W.heap.size := by subst hW; simp
  have cm : ∀ j, W.cell? ⟨w.heap.size, j, none⟩ = [Value.int .i64 w0, .int .i64 w1, .int .i64 w2, .int .i64 w3, .int .i64 w4, .int .i64 F, .slice A n c][j]? := by subst hW; intro j; simp [go_sem]
  clear hW
  have hg1 := hg.keep HW.out
  go_loop [5] (fun i => ∃ (k : Nat), k ≤ n ∧ i = .int .i64 k ∧ pos ((own gs).drop k) x k = pos (own gs) x 0) (fun i => n - (intOf i).toNat)
  case atStart => exact ⟨0, by omega, rfl, rfl⟩
  case round =>
    obtain ⟨k, hk, rfl, hp⟩ := hrel
    have Hp := Lib.hid hp; clear hp
    by_cases hlt : k < n
    · have hkl : k < gs.length := by rw [← Hl.out]; exact hlt
      have hko : k < (own gs).length := by simp [own]; exact hkl
      have Hd : Hid ((own gs).drop k = gs[k].o :: (own gs).drop (k + 1)) := Lib.hid (by rw [List.drop_eq_getElem_cons hko]; simp [own])
      obtain ⟨b, o, rfl, hb, hc⟩ := hg1.get k hkl
      obtain ⟨c0, c1, c2, c3, c4, c5, c6⟩ := hc
      generalize gs[k] = g at *
      by_cases hy : g.o = x
      · have hy1 : (g.o == x) = true := by simpa using hy
        have Hy := Lib.hid hy
        clear hy
        go_wp2
        go_ret
        refine ⟨congrArg (fun v => Ending.returned (Value.int .i64 v)) ?_, HW.out⟩
        rw [← Hp.out, Hd.out, pos_yes _ _ Hy.out]
      · have hy1 : (g.o == x) = false := by simpa using hy
        have Hy := Lib.hid hy
        clear hy
        go_wp2
        refine ⟨⟨k + 1, by omega, by go_num, ?_⟩, by simp [intOf]; omega⟩
        rw [← Hp.out, Hd.out, pos_no _ _ Hy.out]
    · obtain rfl : k = n := by omega
      go_wp2
      go_ret
      refine ⟨congrArg (fun v => Ending.returned (Value.int .i64 v)) ?_, HW.out⟩
      rw [← Hp.out, List.drop_of_length_le (by simp [own]; rw [← Hl.out]; exact Nat.le_refl _)]; rfl
end Go.Proofs.Ytbieopkohkomoaa

namespace Go.Proofs.Ytbieopkohkomoaa
open Go.RowKit
set_option maxHeartbeats 400000
set_option maxRecDepth 100000

theorem refMarkOf_any (w0 w1 w2 w3 w4 F x : Int) (A : Option Addr) (n c : Nat) (gs : List Giv) (w : World) (hg : Gs w A n gs) :
    Calls Try.prog 13 #[.agg #[.int .i64 w0, .int .i64 w1, .int .i64 w2, .int .i64 w3, .int .i64 w4, .int .i64 F, .slice A n c], .int .i64 x] w fun e w' => e = .returned (.tuple #[(foundM w0 w1 w2 w3 w4 F gs x).agg, .int .i64 (findE w0 w1 w2 w3 w4 F gs x)]) ∧ Below w.heap.size w w' := by
  have Hl : Hid (n = gs.length) := Lib.hid hg.len
  go_enter Try.func13, Try.ntmps13
  go_wp2_with fail
  generalize hW : (World.alloc _ _) = W
  have HW : Hid (Below w.heap.size w W) := Lib.hid (by subst hW; go_grown)
  have hs : w.heap.size + 1 < W.heap.size := by subst hW; simp
  have cm : ∀ j, W.cell? ⟨w.heap.size, j, none⟩ = [Value.int .i64 w0, .int .i64 w1, .int .i64 w2, .int .i64 w3, .int .i64 w4, .int .i64 F, .slice A n c][j]? := by subst hW; intro j; simp [go_sem]
  have cr : ∀ j, W.cell? ⟨w.heap.size + 1, j, none⟩ = [Value.int .i64 0, .int .i64 0, .int .i64 0, .int .i64 0, .int .i64 0, .int .i64 0][j]? := by subst hW; intro j; simp [go_sem]
  have fr : ∀ j, W.frozen? ⟨w.heap.size + 1, j, none⟩ = false := by subst hW; intro j; simp [go_sem]
  clear hW
  refine (refAsked_any w0 w1 w2 w3 w4 F x A n c gs W (hg.keep HW.out)).mono ?_
  rintro e x1 ⟨rfl, hb1⟩
  obtain ⟨z, rfl⟩ := below_grow hb1
  clear hb1
  have hs0 : w.heap.size < W.heap.size := by omega
  have Ex : Hid (∀ z, ∀ j, j < 6 → ((grow W z).cell? ⟨w.heap.size + 1, j, none⟩).isSome = true) := Lib.hid (by
    intro z j hj
    rw [grow_cell_lt _ _ _ _ hs, cr j]
    rcases (by omega : j = 0 ∨ j = 1 ∨ j = 2 ∨ j = 3 ∨ j = 4 ∨ j = 5) with rfl | rfl | rfl | rfl | rfl | rfl <;> rfl)
  have P := fun z => put6 (grow W z) (w.heap.size + 1) (.int .i64 0) (.int .i64 0) (.int .i64 0) (.int .i64 0) (.int .i64 0) (.int .i64 0) (Ex.out z)
  have HP := Lib.hid P
  clear P
  by_cases hb : okB w0 w1 w2 w3 w4 F gs = true
  rotate_left
  · have He : Hid (findE w0 w1 w2 w3 w4 F gs x = 13) := Lib.hid (by unfold findE; rw [if_neg hb])
    have Hd : Hid (foundM w0 w1 w2 w3 w4 F gs x = default) := Lib.hid (by unfold foundM; rw [if_neg (by rw [He.out]; decide)])
    rw [if_neg hb]
    clear hb
    go_wp2
    have P := HP.out z
    have B := put6_below (up HW.out (grow_below W z)) (by omega : w.heap.size ≤ w.heap.size + 1) (.int .i64 0) (.int .i64 0) (.int .i64 0) (.int .i64 0) (.int .i64 0) (.int .i64 0)
    generalize World.setCell _ ⟨w.heap.size + 1, 5, none⟩ _ = V at P B ⊢
    have p0 := P 0 (by omega); have p1 := P 1 (by omega); have p2 := P 2 (by omega); have p3 := P 3 (by omega); have p4 := P 4 (by omega); have p5 := P 5 (by omega)
    clear P
    simp at p0 p1 p2 p3 p4 p5
    refine bodyPost_ret (v := .tuple #[.agg #[.int .i64 0, .int .i64 0, .int .i64 0, .int .i64 0, .int .i64 0, .int .i64 0], .int .i64 13]) (by simp [results, Try.results13, go_sem, p0, p1, p2, p3, p4, p5]) rfl ⟨ret_gi Hd.out He.out.symm, B⟩
  by_cases hx : 1 ≤ x ∧ x ≤ 99
  rotate_left
  · have He : Hid (findE w0 w1 w2 w3 w4 F gs x = 15) := Lib.hid (by unfold findE; rw [if_pos hb, if_neg hx])
    have Hd : Hid (foundM w0 w1 w2 w3 w4 F gs x = default) := Lib.hid (by unfold foundM; rw [if_neg (by rw [He.out]; decide)])
    rw [if_pos hb, if_neg hx]
    clear hb hx
    go_wp2
    have P := HP.out z
    have B := put6_below (up HW.out (grow_below W z)) (by omega : w.heap.size ≤ w.heap.size + 1) (.int .i64 0) (.int .i64 0) (.int .i64 0) (.int .i64 0) (.int .i64 0) (.int .i64 0)
    generalize World.setCell _ ⟨w.heap.size + 1, 5, none⟩ _ = V at P B ⊢
    have p0 := P 0 (by omega); have p1 := P 1 (by omega); have p2 := P 2 (by omega); have p3 := P 3 (by omega); have p4 := P 4 (by omega); have p5 := P 5 (by omega)
    clear P
    simp at p0 p1 p2 p3 p4 p5
    refine bodyPost_ret (v := .tuple #[.agg #[.int .i64 0, .int .i64 0, .int .i64 0, .int .i64 0, .int .i64 0, .int .i64 0], .int .i64 15]) (by simp [results, Try.results13, go_sem, p0, p1, p2, p3, p4, p5]) rfl ⟨ret_gi Hd.out He.out.symm, B⟩
  rw [if_pos hb, if_pos hx]
  have hf := findE_cases w0 w1 w2 w3 w4 F gs x
  by_cases hp : pos (own gs) x 0 < 0
  · have He : Hid (findE w0 w1 w2 w3 w4 F gs x = 3) := Lib.hid (by unfold findE; rw [if_pos hb, if_pos hx, if_neg (by omega)])
    have Hd : Hid (foundM w0 w1 w2 w3 w4 F gs x = default) := Lib.hid (by unfold foundM; rw [if_neg (by rw [He.out]; decide)])
    clear hb hx hf
    go_wp2_with (go_at_call 66; refine (refIndex_any _ _ _ _ _ _ _ _ _ _ gs _ ((hg.keep HW.out).keep (grow_below W z))).mono ?_; rintro e x1 ⟨rfl, hb2⟩; obtain ⟨z2, rfl⟩ := below_grow (up (grow_below W z) hb2); clear hb2)
    have P := HP.out z2
    have B := put6_below (up HW.out (grow_below W z2)) (by omega : w.heap.size ≤ w.heap.size + 1) (.int .i64 0) (.int .i64 0) (.int .i64 0) (.int .i64 0) (.int .i64 0) (.int .i64 0)
    generalize World.setCell _ ⟨w.heap.size + 1, 5, none⟩ _ = V at P B ⊢
    have p0 := P 0 (by omega); have p1 := P 1 (by omega); have p2 := P 2 (by omega); have p3 := P 3 (by omega); have p4 := P 4 (by omega); have p5 := P 5 (by omega)
    clear P
    simp at p0 p1 p2 p3 p4 p5
    refine bodyPost_ret (v := .tuple #[.agg #[.int .i64 0, .int .i64 0, .int .i64 0, .int .i64 0, .int .i64 0, .int .i64 0], .int .i64 3]) (by simp [results, Try.results13, go_sem, p0, p1, p2, p3, p4, p5]) rfl ⟨ret_gi Hd.out He.out.symm, B⟩
  · have He : Hid (findE w0 w1 w2 w3 w4 F gs x = 0) := Lib.hid (by unfold findE; rw [if_pos hb, if_pos hx, if_pos (by omega)])
    rcases hf with ⟨h0, _⟩ | ⟨_, _, _, k, hk, _, hpk, hd⟩
    · exact absurd He.out h0
    have Hd := Lib.hid hd
    have Hpk := Lib.hid hpk
    obtain ⟨b, o, rfl, hbl, hc⟩ := (hg.keep HW.out).get k hk
    obtain ⟨c0, c1, c2, c3, c4, c5, c6⟩ := hc
    have Hgk : Hid (gs.getD k default = gs[k]) := Lib.hid (by simp [hk])
    have hkn : k < n := by rw [Hl.out]; exact hk
    generalize gs[k] = g at *
    clear hb hx hd hpk hp
    go_wp2_with (go_at_call 66; refine (refIndex_any _ _ _ _ _ _ _ _ _ _ gs _ ((hg.keep HW.out).keep (grow_below W z))).mono ?_; rintro e x1 ⟨rfl, hb2⟩; obtain ⟨z2, rfl⟩ := below_grow (up (grow_below W z) hb2); clear hb2; rw [Hpk.out])
    have P := put6 (grow W z2) (w.heap.size + 1) (.int .i64 g.m0) (.int .i64 g.m1) (.int .i64 g.m2) (.int .i64 g.m3) (.int .i64 g.m4) (.int .i64 g.m5) (Ex.out z2)
    have B := put6_below (up HW.out (grow_below W z2)) (by omega : w.heap.size ≤ w.heap.size + 1) (.int .i64 g.m0) (.int .i64 g.m1) (.int .i64 g.m2) (.int .i64 g.m3) (.int .i64 g.m4) (.int .i64 g.m5)
    generalize World.setCell _ ⟨w.heap.size + 1, 5, none⟩ _ = V at P B ⊢
    have p0 := P 0 (by omega); have p1 := P 1 (by omega); have p2 := P 2 (by omega); have p3 := P 3 (by omega); have p4 := P 4 (by omega); have p5 := P 5 (by omega)
    clear P
    simp at p0 p1 p2 p3 p4 p5
    refine bodyPost_ret (v := .tuple #[.agg #[.int .i64 g.m0, .int .i64 g.m1, .int .i64 g.m2, .int .i64 g.m3, .int .i64 g.m4, .int .i64 g.m5], .int .i64 0]) (by simp [results, Try.results13, go_sem, p0, p1, p2, p3, p4, p5]) rfl ⟨ret_Gi (by rw [Hd.out, Hgk.out]) He.out.symm, B⟩
end Go.Proofs.Ytbieopkohkomoaa

namespace Go.Proofs.Ytbieopkohkomoaa
open Go.RowKit
set_option maxHeartbeats 400000
set_option maxRecDepth 100000

theorem possible_any (w0 w1 w2 w3 w4 F m0 m1 m2 m3 m4 m5 r0 r1 r2 r3 r4 r5 : Int) (S : Value) (w : World) (hm0 : 0 ≤ m0) (km0 : m0 < 5) (hm1 : 0 ≤ m1) (km1 : m1 < 5) (hm2 : 0 ≤ m2) (km2 : m2 < 5) (hm3 : 0 ≤ m3) (km3 : m3 < 5) (hm4 : 0 ≤ m4) (km4 : m4 < 5) (hm5 : 0 ≤ m5) (km5 : m5 < 5) :
    Calls Try.prog 80 #[.agg #[.int .i64 w0, .int .i64 w1, .int .i64 w2, .int .i64 w3, .int .i64 w4, .int .i64 F, S], .agg #[.int .i64 m0, .int .i64 m1, .int .i64 m2, .int .i64 m3, .int .i64 m4, .int .i64 m5], .agg #[.int .i64 r0, .int .i64 r1, .int .i64 r2, .int .i64 r3, .int .i64 r4, .int .i64 r5]] w fun e w' => e = .returned (.bool (decide (wcost w0 w1 w2 w3 w4 m0 m1 m2 m3 m4 m5 r0 r1 r2 r3 r4 r5 ≤ F))) ∧ Below w.heap.size w w' := by
  go_enter Try.func80, Try.ntmps80
  go_wp2
  refine wp_region_grow (by kernel_rfl) (by kernel_rfl) ?_
  repeat (go_big_quiet_step ((first | (go_at_call 77; exact quiet_grow rfl (wornRow_any _ _ _ _ _ _ _ _ _ _ _ _ (by assumption) (by assumption) (by assumption) (by assumption) (by assumption) (by assumption) (by assumption) (by assumption) (by assumption) (by assumption) (by assumption) (by assumption))) | (go_at_call 78; exact quiet_grow rfl (seenRow_any _ _ _ _ _ _ _)) | (go_at_call 76; exact quiet_grow rfl (false_any _ _ _ _ _ _ _ _ _ _ _ _ _)))))
  refine wpQuiet_nil ?_
  intro z
  go_wp2
  go_ret
  exact ⟨rfl, (show Below w.heap.size w _ by go_grown).trans ((grow_below _ z).mono (by simp; omega))⟩

/-- A reading. -/
structure Rd where
  r0 : Int
  r1 : Int
  r2 : Int
  r3 : Int
  r4 : Int
  r5 : Int
structure RdAt (w : World) (b o : Nat) (g : Rd) : Prop where
  c0 : w.cell? ⟨b, o, none⟩ = some (.int .i64 g.r0)
  c1 : w.cell? ⟨b, o + 1, none⟩ = some (.int .i64 g.r1)
  c2 : w.cell? ⟨b, o + 2, none⟩ = some (.int .i64 g.r2)
  c3 : w.cell? ⟨b, o + 3, none⟩ = some (.int .i64 g.r3)
  c4 : w.cell? ⟨b, o + 4, none⟩ = some (.int .i64 g.r4)
  c5 : w.cell? ⟨b, o + 5, none⟩ = some (.int .i64 g.r5)
/-- A slice holds these rows of six. -/
structure Rs (w : World) (A : Option Addr) (n : Nat) (rs : List Rd) : Prop where
  len : n = rs.length
  small : n ≤ 9223372036854775807
  get : ∀ k (h : k < rs.length), ∃ b o, A = some ⟨b, o, none⟩ ∧ b < w.heap.size ∧ RdAt w b (o + k * 6) rs[k]
theorem RdAt.keep {w w' : World} {b o : Nat} {g : Rd} (h : RdAt w b o g) (hb : ∀ j, w'.cell? ⟨b, j, none⟩ = w.cell? ⟨b, j, none⟩) : RdAt w' b o g :=
  ⟨(hb _).trans h.c0, (hb _).trans h.c1, (hb _).trans h.c2, (hb _).trans h.c3, (hb _).trans h.c4, (hb _).trans h.c5⟩
theorem Rs.keep {w w' : World} {A : Option Addr} {n : Nat} {gs : List Rd} (h : Rs w A n gs) (hb : Below w.heap.size w w') : Rs w' A n gs :=
  ⟨h.len, h.small, fun k hk => by
    obtain ⟨b, o, e, hlt, hg⟩ := h.get k hk
    exact ⟨b, o, e, by have := hb.size; omega, hg.keep fun j => hb.cell (p := ⟨b, j, none⟩) hlt⟩⟩

/-- Cells of given marks in a row. -/
def gcells : List Giv → List Value
  | [] => []
  | g :: r => [.int .i64 g.o, .int .i64 g.m0, .int .i64 g.m1, .int .i64 g.m2, .int .i64 g.m3, .int .i64 g.m4, .int .i64 g.m5] ++ gcells r
theorem gcells_snoc (l : List Giv) (g : Giv) : gcells (l ++ [g]) = gcells l ++ [.int .i64 g.o, .int .i64 g.m0, .int .i64 g.m1, .int .i64 g.m2, .int .i64 g.m3, .int .i64 g.m4, .int .i64 g.m5] := by
  induction l with
  | nil => rfl
  | cons x r ih => simp [gcells, ih]
theorem gcells_len (l : List Giv) : (gcells l).length = l.length * 7 := by
  induction l with
  | nil => rfl
  | cons x r ih => simp [gcells, ih]; omega
theorem gcells_at : ∀ (l : List Giv) (k : Nat) (h : k < l.length), (gcells l)[k * 7]? = some (.int .i64 l[k].o) ∧ (gcells l)[k * 7 + 1]? = some (.int .i64 l[k].m0) ∧ (gcells l)[k * 7 + 2]? = some (.int .i64 l[k].m1) ∧ (gcells l)[k * 7 + 3]? = some (.int .i64 l[k].m2) ∧ (gcells l)[k * 7 + 4]? = some (.int .i64 l[k].m3) ∧ (gcells l)[k * 7 + 5]? = some (.int .i64 l[k].m4) ∧ (gcells l)[k * 7 + 6]? = some (.int .i64 l[k].m5)
  | [], k, h => by simp at h
  | g :: r, 0, h => by simp [gcells]
  | g :: r, k + 1, h => by
    have := gcells_at r k (by simpa using h)
    have e : ∀ j, (gcells (g :: r))[(k + 1) * 7 + j]? = (gcells r)[k * 7 + j]? := fun j => by
      simp only [gcells]
      rw [List.getElem?_append_right (by simp; omega)]
      congr 1; simp; omega
    have e0 := e 0
    simp only [Nat.add_zero] at e0
    rw [e0, e, e, e, e, e, e]; simpa using this
theorem Gs.of_own {w : World} {base n : Nat} {v : Value} {l : List Giv} (h : w.ownsRow base 30 7 v n (gcells l)) : ∃ A c, v = .slice A n c ∧ n ≤ c ∧ n = l.length ∧ (n < 9223372036854775807 → Gs w A n l) := by
  have hl : n = l.length := by have := h.1; rw [gcells_len] at this; omega
  rcases h.2 with ⟨rfl, rfl⟩ | ⟨g, cap, cur, rfl, _, hg, hnc, hcm, hcs, htk⟩
  · exact ⟨none, 0, rfl, Nat.le_refl _, hl, fun _ => ⟨hl, by omega, fun k hk => by omega⟩⟩
  · refine ⟨some ⟨g, 0, none⟩, cap, rfl, hnc, hl, fun hsm => ⟨hl, hsm, fun k hk => ⟨g, 0, rfl, (Array.getElem?_eq_some_iff.1 hg).1, ?_⟩⟩⟩
    have ha := gcells_at l k hk
    have key : ∀ j u, (gcells l)[j]? = some u → w.cell? ⟨g, j, none⟩ = some u := fun j u hu => by
      have := h.cells (g := g) rfl j u hu
      rw [Addr.add_lit] at this; simpa using this
    rw [Nat.zero_add]
    exact ⟨key _ _ ha.1, key _ _ ha.2.1, key _ _ ha.2.2.1, key _ _ ha.2.2.2.1, key _ _ ha.2.2.2.2.1, key _ _ ha.2.2.2.2.2.1, key _ _ ha.2.2.2.2.2.2⟩

theorem info30 : (Try.prog.info? 30).map (fun i => (i.zero, i.size, i.bytes)) = some (some (.agg #[.int .i64 0, .int .i64 0, .int .i64 0, .int .i64 0, .int .i64 0, .int .i64 0, .int .i64 0]), 7, 56) := by kernel_rfl

/-- Is a given mark possible for all readings? -/
def possR (w0 w1 w2 w3 w4 F : Int) (g : Giv) (r : Rd) : Bool := decide (wcost w0 w1 w2 w3 w4 g.m0 g.m1 g.m2 g.m3 g.m4 g.m5 r.r0 r.r1 r.r2 r.r3 r.r4 r.r5 ≤ F)
def possAll (w0 w1 w2 w3 w4 F : Int) (rs : List Rd) (g : Giv) : Bool := rs.all (possR w0 w1 w2 w3 w4 F g)
/-- The marks that are possible for all. -/
def possG (w0 w1 w2 w3 w4 F : Int) (rs : List Rd) : List Giv → List Giv
  | [] => []
  | g :: r => if possAll w0 w1 w2 w3 w4 F rs g = true then g :: possG w0 w1 w2 w3 w4 F rs r else possG w0 w1 w2 w3 w4 F rs r
theorem possG_yes {w0 w1 w2 w3 w4 F : Int} {rs : List Rd} {l : List Giv} {g : Giv} (h : possAll w0 w1 w2 w3 w4 F rs g = true) : possG w0 w1 w2 w3 w4 F rs (l ++ [g]) = possG w0 w1 w2 w3 w4 F rs l ++ [g] := by
  induction l with
  | nil => simp [possG, h]
  | cons x r ih => simp only [List.cons_append, possG, ih]; split <;> rfl
theorem possG_no {w0 w1 w2 w3 w4 F : Int} {rs : List Rd} {l : List Giv} {g : Giv} (h : possAll w0 w1 w2 w3 w4 F rs g = false) : possG w0 w1 w2 w3 w4 F rs (l ++ [g]) = possG w0 w1 w2 w3 w4 F rs l := by
  induction l with
  | nil => simp [possG, h]
  | cons x r ih => simp only [List.cons_append, possG, ih]
theorem possG_len (w0 w1 w2 w3 w4 F : Int) (rs : List Rd) (l : List Giv) : (possG w0 w1 w2 w3 w4 F rs l).length ≤ l.length := by
  induction l with
  | nil => exact Nat.le_refl _
  | cons x r ih => simp only [possG]; split <;> simp <;> omega

theorem own_below {w w' : World} {base : Nat} {e : TypeId} {size n : Nat} {v : Value} {xs : List Value} (h : w.ownsRow base e size v n xs) (hb : Below w.heap.size w w') : w'.ownsRow base e size v n xs :=
  h.kept (row := none) ⟨hb.os, hb.tape, hb.output, hb.size, fun k hk _ => hb.block k hk⟩ (by cases hv : v.ownBlock <;> simp)
theorem own_mono {w : World} {base base' : Nat} {e : TypeId} {size n : Nat} {v : Value} {xs : List Value} (h : w.ownsRow base e size v n xs) (hb : base' ≤ base) : w.ownsRow base' e size v n xs := by
  refine ⟨h.1, ?_⟩
  rcases h.2 with h2 | ⟨g, cap, cur, hv, hg, r⟩
  · exact .inl h2
  · exact .inr ⟨g, cap, cur, hv, Nat.le_trans hb hg, r⟩

theorem possibleMarks_any (w0 w1 w2 w3 w4 F : Int) (A : Option Addr) (n c : Nat) (gs : List Giv) (B : Option Addr) (n' c' : Nat) (rs : List Rd) (w : World) (hg : Gs w A n gs) (hr : Rs w B n' rs) (hok : ∀ g ∈ gs, g.ok) (h40 : n ≤ 40) :
    Calls Try.prog 85 #[.agg #[.int .i64 w0, .int .i64 w1, .int .i64 w2, .int .i64 w3, .int .i64 w4, .int .i64 F, .slice A n c], .slice B n' c'] w fun e w' => ∃ v, e = .returned v ∧ w'.ownsRow w.heap.size 30 7 v (possG w0 w1 w2 w3 w4 F rs gs).length (gcells (possG w0 w1 w2 w3 w4 F rs gs)) ∧ Below w.heap.size w w' := by
  have hn' := hr.small
  have Hl : Hid (n = gs.length) := Lib.hid hg.len
  have Hl' : Hid (n' = rs.length) := Lib.hid hr.len
  have Hok := Lib.hid hok
  clear hok
  obtain ⟨i0, hi, hz0, hz1, hz2⟩ := info_parts info30
  have HI := Lib.hid hi
  have HZ0 := Lib.hid hz0
  have HZ1 := Lib.hid hz1
  have HZ2 := Lib.hid hz2
  clear hi hz0 hz1 hz2
  go_enter Try.func85, Try.ntmps85
  go_wp2
  generalize hW : (World.alloc _ _) = W
  have HW : Hid (Below w.heap.size w W) := Lib.hid (by subst hW; go_grown)
  have hs : w.heap.size < W.heap.size := by subst hW; simp
  have cm : ∀ j, W.cell? ⟨w.heap.size, j, none⟩ = [Value.int .i64 w0, .int .i64 w1, .int .i64 w2, .int .i64 w3, .int .i64 w4, .int .i64 F, .slice A n c][j]? := by subst hW; intro j; simp [go_sem]
  clear hW
  go_step3
  go_wp2
  go_step3
  go_wp2
  have Hg1 := Lib.hid (hg.keep HW.out)
  have Hr1 := Lib.hid (hr.keep HW.out)
  go_loopw [5, 13] (fun v i wr => ∃ (k : Nat) (z : Gr), k ≤ n ∧ i = .int .i64 k ∧ wr = grow W z ∧ (grow W z).ownsRow W.heap.size 30 7 v (possG w0 w1 w2 w3 w4 F rs (gs.take k)).length (gcells (possG w0 w1 w2 w3 w4 F rs (gs.take k)))) (fun _ i _ => n - (intOf i).toNat)
  case atStart => exact ⟨0, ⟨#[], W.drawn⟩, by omega, rfl, by simp [grow], World.ownsRow_nil _ _ _ _⟩
  case round =>
    obtain ⟨k, z, hk, rfl, rfl, hown⟩ := hrel
    have Hown := Lib.hid hown; clear hown
    have e1 : w.heap.size < W.heap.size + z.blocks.size := by omega
    have e3 : w.heap.size < W.heap.size + z.blocks.size + 1 := by omega
    by_cases hlt : k < n
    rotate_left
    · obtain rfl : k = n := by omega
      go_wp2
      try rw [Exit.noGoto_ret]
      go_ret
      refine ⟨_, rfl, ?_, up HW.out (grow_below W z)⟩
      have := Hown.out
      rw [List.take_of_length_le (by rw [← Hl.out]; exact Nat.le_refl _)] at this
      exact own_mono this (by omega)
    have hkl : k < gs.length := by rw [← Hl.out]; exact hlt
    have Htk : Hid (gs.take (k + 1) = gs.take k ++ [gs[k]]) := Lib.hid (List.take_succ_eq_append_getElem hkl)
    have hlen := possG_len w0 w1 w2 w3 w4 F rs (gs.take k)
    have hlen2 : (gs.take k).length ≤ k := by simp; omega
    obtain ⟨b, o, rfl, hb, hc⟩ := Hg1.out.get k hkl
    obtain ⟨c0, c1, c2, c3, c4, c5, c6⟩ := hc
    obtain ⟨⟨p0, q0⟩, ⟨p1, q1⟩, ⟨p2, q2⟩, ⟨p3, q3⟩, ⟨p4, q4⟩, ⟨p5, q5⟩⟩ := Hok.out _ (List.getElem_mem hkl)
    generalize gs[k] = g at *
    generalize hX : possG w0 w1 w2 w3 w4 F rs (gs.take k) = X at *
    generalize hnX : X.length = nX at *
    have HX := Lib.hid hX
    have HnX := Lib.hid hnX
    clear hX hnX
    have e5 : b < W.heap.size + z.blocks.size := by omega
    go_wp2
    generalize hV : World.alloc (grow W z) _ = V
    have HV : Hid (Below W.heap.size W V) := Lib.hid (by subst hV; exact up (grow_below W z) (up_alloc _ _))
    have HVz : Hid (Below (grow W z).heap.size (grow W z) V) := Lib.hid (by subst hV; exact up_alloc _ _)
    have v1 : w.heap.size < V.heap.size := by subst hV; simp; omega
    have v2 : W.heap.size + z.blocks.size < V.heap.size := by subst hV; simp
    have cv : ∀ j, V.cell? ⟨w.heap.size, j, none⟩ = [Value.int .i64 w0, .int .i64 w1, .int .i64 w2, .int .i64 w3, .int .i64 w4, .int .i64 F, .slice (some ⟨b, o, none⟩) n c][j]? := by
      intro j; rw [← cm j]; exact HV.out.cell (p := ⟨w.heap.size, j, none⟩) hs
    have cg : ∀ j, V.cell? ⟨W.heap.size + z.blocks.size, j, none⟩ = [Value.int .i64 g.o, .int .i64 g.m0, .int .i64 g.m1, .int .i64 g.m2, .int .i64 g.m3, .int .i64 g.m4, .int .i64 g.m5][j]? := by
      subst hV; intro j
      rw [World.cell?_alloc_at _ _ _ _ (by simp)]; simp
    have HR := Lib.hid (Hr1.out.keep HV.out)
    clear hV c0 c1 c2 c3 c4 c5 c6
    go_loopw [19] (fun j wr => ∃ (q : Nat) (y : Gr), q ≤ n' ∧ j = .int .i64 q ∧ wr = grow V y ∧ possAll w0 w1 w2 w3 w4 F (rs.take q) g = true) (fun j _ => n' - (intOf j).toNat)
    case atStart => exact ⟨0, ⟨#[], V.drawn⟩, by omega, rfl, by simp [grow], rfl⟩
    case round =>
      obtain ⟨q, y, hq, rfl, rfl, hpa⟩ := hrel
      have Hpa := Lib.hid hpa; clear hpa
      have f1 : w.heap.size < V.heap.size + y.blocks.size := by omega
      have f2 : w.heap.size < V.heap.size + y.blocks.size + 1 := by omega
      have f3 : W.heap.size + z.blocks.size < V.heap.size + y.blocks.size := by omega
      have f4 : W.heap.size + z.blocks.size < V.heap.size + y.blocks.size + 1 := by omega
      by_cases hqn : q < n'
      · have hql : q < rs.length := by rw [← Hl'.out]; exact hqn
        have Hsn : Hid (rs.take (q + 1) = rs.take q ++ [rs[q]]) := Lib.hid (List.take_succ_eq_append_getElem hql)
        have Hall : Hid (possR w0 w1 w2 w3 w4 F g rs[q] = false → possAll w0 w1 w2 w3 w4 F rs g = false) := Lib.hid (fun h => by
          unfold possAll; rw [List.all_eq_false]; exact ⟨rs[q], List.getElem_mem hql, by rw [h]; simp⟩)
        obtain ⟨b', o', rfl, hb', hc'⟩ := HR.out.get q hql
        obtain ⟨d0, d1, d2, d3, d4, d5⟩ := hc'
        generalize rs[q] = r at *
        have f5 : b' < V.heap.size + y.blocks.size := by omega
        cases hp : possR w0 w1 w2 w3 w4 F g r
        · have Hd : Hid (decide (wcost w0 w1 w2 w3 w4 g.m0 g.m1 g.m2 g.m3 g.m4 g.m5 r.r0 r.r1 r.r2 r.r3 r.r4 r.r5 ≤ F) = false) := Lib.hid hp
          have Hp := Lib.hid hp
          clear hp
          go_wp2_with (go_at_call 80; refine (possible_any _ _ _ _ _ _ _ _ _ _ _ _ _ _ _ _ _ _ _ _ (by assumption) (by assumption) (by assumption) (by assumption) (by assumption) (by assumption) (by assumption) (by assumption) (by assumption) (by assumption) (by assumption) (by assumption) ).mono ?_; rintro e x1 ⟨rfl, hb1⟩; rw [Hd.out])
          obtain ⟨y2, hy2⟩ := below_grow (up HV.out (up (grow_below V y) (up (up_alloc _ _) hb1)))
          have Hy2 := Lib.hid hy2
          refine ⟨⟨k + 1, y2, by omega, by go_num, hy2, ?_⟩, by simp [intOf]; omega⟩
          rw [← hy2]
          have ho := own_below (own_below Hown.out HVz.out) (up (grow_below V y) (up (up_alloc _ _) hb1))
          rw [Htk.out, possG_no (Hall.out Hp.out)]
          rw [HX.out, HnX.out]
          exact ho
        · have Hd : Hid (decide (wcost w0 w1 w2 w3 w4 g.m0 g.m1 g.m2 g.m3 g.m4 g.m5 r.r0 r.r1 r.r2 r.r3 r.r4 r.r5 ≤ F) = true) := Lib.hid hp
          have Hp := Lib.hid hp
          clear hp
          go_wp2_with (go_at_call 80; refine (possible_any _ _ _ _ _ _ _ _ _ _ _ _ _ _ _ _ _ _ _ _ (by assumption) (by assumption) (by assumption) (by assumption) (by assumption) (by assumption) (by assumption) (by assumption) (by assumption) (by assumption) (by assumption) (by assumption) ).mono ?_; rintro e x1 ⟨rfl, hb1⟩; rw [Hd.out])
          obtain ⟨y2, hy2⟩ := below_grow (up (grow_below V y) (up (up_alloc _ _) hb1))
          refine ⟨⟨q + 1, y2, by omega, by go_num, hy2, ?_⟩, by simp [intOf]; omega⟩
          rw [Hsn.out]; unfold possAll; rw [List.all_append, show (rs.take q).all (possR w0 w1 w2 w3 w4 F g) = true from Hpa.out]; simp [Hp.out]
      · obtain rfl : q = n' := by omega
        have Hpy : Hid (possAll w0 w1 w2 w3 w4 F rs g = true) := Lib.hid (by have := Hpa.out; rw [List.take_of_length_le (by rw [← Hl'.out]; exact Nat.le_refl _)] at this; exact this)
        have ho := own_below (own_below Hown.out HVz.out) (grow_below V y)
        have Ho := Lib.hid ho
        clear ho
        go_wp2_with (at_builtin; refine wpList_append_own _ rfl _ _ 24 rfl W.heap.size 30 i0 (.agg #[.int .i64 0, .int .i64 0, .int .i64 0, .int .i64 0, .int .i64 0, .int .i64 0, .int .i64 0]) 7 56 Try.underlying24 HI.out HZ0.out HZ1.out HZ2.out rfl (by decide) _ _ _ rfl (Ho.out.alloc _) ⟨V.heap.size + y.blocks.size, 0, none⟩ 1 1 [.int .i64 g.o, .int .i64 g.m0, .int .i64 g.m1, .int .i64 g.m2, .int .i64 g.m3, .int .i64 g.m4, .int .i64 g.m5] rfl rfl ?c1 ?c2 ?c3 ?c4 ?c5 ?_)
        case c1 =>
          intro j u hu
          rw [Addr.add_lit, World.cell?_alloc_at _ _ _ _ (by simp), Nat.zero_add]
          simpa using hu
        case c2 => intro u hu; simp at hu; rcases hu with rfl | rfl | rfl | rfl | rfl | rfl | rfl <;> rfl
        case c3 => unfold maxLen; omega
        case c4 => omega
        case c5 => simp; omega
        intro v' w' hown' hgr _
        have hbel : Below W.heap.size W w' := (up HV.out (up (grow_below V y) (up_alloc _ _))).grown hgr (by have := HV.out.size; simp; omega) (fun q hq => (Ho.out.lt q hq).1)
        have Hown' := Lib.hid hown'
        clear hown' hgr
        obtain ⟨y3, rfl⟩ := below_grow hbel
        go_wp2
        refine ⟨⟨k + 1, y3, by omega, by go_num, rfl, ?_⟩, by simp [intOf]; omega⟩
        rw [Htk.out, possG_yes Hpy.out, HX.out, gcells_snoc, List.length_append, HnX.out]
        exact Hown'.out
end Go.Proofs.Ytbieopkohkomoaa

namespace Go.Proofs.Ytbieopkohkomoaa
open Go.RowKit
set_option maxHeartbeats 400000
set_option maxRecDepth 100000

theorem is2 (w : World) (a b : Int) (t : TypeId) (B : Nat) (hB : B = w.heap.size) : Is (w.alloc (.cells #[.int .i64 a, .int .i64 b] t)) (some ⟨B, 0, none⟩) 2 [a, b] := by
  subst hB
  exact ⟨rfl, by decide, fun k hk => ⟨w.heap.size, 0, rfl, by simp, by
    rcases (by simp at hk; omega : k = 0 ∨ k = 1) with rfl | rfl <;> simp [go_sem]⟩⟩
theorem is3 (w : World) (a b c : Int) (t : TypeId) (B : Nat) (hB : B = w.heap.size) : Is (w.alloc (.cells #[.int .i64 a, .int .i64 b, .int .i64 c] t)) (some ⟨B, 0, none⟩) 3 [a, b, c] := by
  subst hB
  exact ⟨rfl, by decide, fun k hk => ⟨w.heap.size, 0, rfl, by simp, by
    rcases (by simp at hk; omega : k = 0 ∨ k = 1 ∨ k = 2) with rfl | rfl | rfl <;> simp [go_sem]⟩⟩
theorem rs1 (w : World) (r : Rd) (t : TypeId) (B : Nat) (hB : B = w.heap.size) : Rs (w.alloc (.cells #[.int .i64 r.r0, .int .i64 r.r1, .int .i64 r.r2, .int .i64 r.r3, .int .i64 r.r4, .int .i64 r.r5] t)) (some ⟨B, 0, none⟩) 1 [r] := by
  subst hB
  exact ⟨rfl, by decide, fun k hk => by
    obtain rfl : k = 0 := by simp at hk; omega
    refine ⟨w.heap.size, 0, rfl, by simp, ?_⟩
    constructor <;> simp [go_sem]⟩

theorem checkReading_yes (a0 a1 a2 a3 a4 a5 : Int) (w : World) (h : okR a0 a1 a2 a3 a4 a5 = true) : Calls Try.prog 18 #[.agg #[.int .i64 a0, .int .i64 a1, .int .i64 a2, .int .i64 a3, .int .i64 a4, .int .i64 a5]] w fun e w' => e = .returned (.int .i64 0) ∧ Below w.heap.size w w' :=
  (checkReading_any _ _ _ _ _ _ w).mono fun e w' g => ⟨by rw [g.1, err_t _ h], g.2⟩
theorem checkReading_no (a0 a1 a2 a3 a4 a5 : Int) (w : World) (h : okR a0 a1 a2 a3 a4 a5 = false) : Calls Try.prog 18 #[.agg #[.int .i64 a0, .int .i64 a1, .int .i64 a2, .int .i64 a3, .int .i64 a4, .int .i64 a5]] w fun e w' => e = .returned (.int .i64 12) ∧ Below w.heap.size w w' :=
  (checkReading_any _ _ _ _ _ _ w).mono fun e w' g => ⟨by rw [g.1, err_f _ (by rw [h]; simp)], g.2⟩

def Rd.ok (r : Rd) : Bool := okR r.r0 r.r1 r.r2 r.r3 r.r4 r.r5
/-- The error of a book and a reading. -/
def brE (w0 w1 w2 w3 w4 F : Int) (gs : List Giv) (r : Rd) : Int := firstE [err (okB w0 w1 w2 w3 w4 F gs) 13, err r.ok 12]
theorem brE_0 {w0 w1 w2 w3 w4 F : Int} {gs : List Giv} {r : Rd} (h1 : okB w0 w1 w2 w3 w4 F gs = true) (h2 : r.ok = true) : brE w0 w1 w2 w3 w4 F gs r = 0 := by
  unfold brE; rw [err_t _ h1, err_t _ h2]; rfl
theorem brE_1 {w0 w1 w2 w3 w4 F : Int} {gs : List Giv} {r : Rd} (h1 : okB w0 w1 w2 w3 w4 F gs = false) : brE w0 w1 w2 w3 w4 F gs r = 13 := by
  unfold brE; rw [err_f _ (by rw [h1]; simp)]; rfl
theorem brE_2 {w0 w1 w2 w3 w4 F : Int} {gs : List Giv} {r : Rd} (h1 : okB w0 w1 w2 w3 w4 F gs = true) (h2 : r.ok = false) : brE w0 w1 w2 w3 w4 F gs r = 12 := by
  unfold brE; rw [err_t _ h1, err_f _ (by rw [h2]; simp)]; rfl
/-- The possible marks; none where there is an error. -/
def brG (w0 w1 w2 w3 w4 F : Int) (gs : List Giv) (r : Rd) : List Giv := if brE w0 w1 w2 w3 w4 F gs r = 0 then possG w0 w1 w2 w3 w4 F [r] gs else []
theorem okB_ok {w0 w1 w2 w3 w4 F : Int} {gs : List Giv} (h : okB w0 w1 w2 w3 w4 F gs = true) : ∀ g ∈ gs, g.ok := by
  simp only [okB, Bool.and_eq_true] at h
  have := ok_take h.2
  rw [List.take_length] at this; exact this

theorem owners_any (w0 w1 w2 w3 w4 F : Int) (A : Option Addr) (n c : Nat) (gs : List Giv) (r : Rd) (w : World) (hg : Gs w A n gs) (hnc : n ≤ c) :
    Calls Try.prog 32 #[.agg #[.int .i64 w0, .int .i64 w1, .int .i64 w2, .int .i64 w3, .int .i64 w4, .int .i64 F, .slice A n c], .agg #[.int .i64 r.r0, .int .i64 r.r1, .int .i64 r.r2, .int .i64 r.r3, .int .i64 r.r4, .int .i64 r.r5]] w fun e w' =>
      ∃ v, e = .returned (.tuple #[v, .int .i64 (brE w0 w1 w2 w3 w4 F gs r)]) ∧ w'.ownsRow w.heap.size 3 1 v (brG w0 w1 w2 w3 w4 F gs r).length (ints (own (brG w0 w1 w2 w3 w4 F gs r))) ∧ Below w.heap.size w w' := by
  have Hl : Hid (n = gs.length) := Lib.hid hg.len
  go_enter Try.func32, Try.ntmps32
  go_wp2_with fail
  generalize hW : (World.alloc _ _) = W
  have HW : Hid (Below w.heap.size w W) := Lib.hid (by subst hW; go_grown)
  have hs : w.heap.size + 1 < W.heap.size := by subst hW; simp
  have cm : ∀ j, W.cell? ⟨w.heap.size, j, none⟩ = [Value.int .i64 w0, .int .i64 w1, .int .i64 w2, .int .i64 w3, .int .i64 w4, .int .i64 F, .slice A n c][j]? := by subst hW; intro j; simp [go_sem]
  have cr : ∀ j, W.cell? ⟨w.heap.size + 1, j, none⟩ = [Value.int .i64 r.r0, .int .i64 r.r1, .int .i64 r.r2, .int .i64 r.r3, .int .i64 r.r4, .int .i64 r.r5][j]? := by subst hW; intro j; simp [go_sem]
  clear hW
  have Hg1 := Lib.hid (hg.keep HW.out)
  cases hb : okB w0 w1 w2 w3 w4 F gs
  · have Hb := Lib.hid hb
    clear hb
    cases hr : r.ok
    all_goals
      have Hr := Lib.hid hr
      clear hr
      refine wp_region_grow_tail 4 (by kernel_rfl) (by kernel_rfl) ?_
      simp only [List.take_succ_cons, List.take_zero, List.drop_succ_cons, List.drop_zero]
      repeat (go_big_quiet_step ((first | (go_at_call 20; exact quiet_grow rfl (check_no _ _ _ _ _ _ _ _ _ _ _ (Hg1.out.keep (grow_below _ _)) hnc Hb.out)) | (go_at_call 18; exact quiet_grow rfl (checkReading_no _ _ _ _ _ _ _ Hr.out)) | (go_at_call 18; exact quiet_grow rfl (checkReading_yes _ _ _ _ _ _ _ Hr.out)))))
      refine wpQuiet_nil ?_
      intro z
      go_wp2_with (go_at_call 75; refine (first_any _ _ _ _ _ (is2 _ _ _ _ _ (by simp))).mono ?_; rintro e x1 ⟨rfl, rfl⟩; rw [show firstE [13, _] = 13 from rfl])
      go_ret2
      refine ⟨_, by rw [brE_1 Hb.out]; rfl, ?_, up HW.out (up (grow_below W z) (up_alloc _ _))⟩
      unfold brG; rw [brE_1 Hb.out]; exact World.ownsRow_nil _ _ _ _
  have Hb := Lib.hid hb
  clear hb
  cases hr : r.ok
  · have Hr := Lib.hid hr
    clear hr
    refine wp_region_grow_tail 4 (by kernel_rfl) (by kernel_rfl) ?_
    simp only [List.take_succ_cons, List.take_zero, List.drop_succ_cons, List.drop_zero]
    repeat (go_big_quiet_step ((first | (go_at_call 20; exact quiet_grow rfl (check_yes _ _ _ _ _ _ _ _ _ _ _ (Hg1.out.keep (grow_below _ _)) hnc Hb.out)) | (go_at_call 18; exact quiet_grow rfl (checkReading_no _ _ _ _ _ _ _ Hr.out)))))
    refine wpQuiet_nil ?_
    intro z
    go_wp2_with (go_at_call 75; refine (first_any _ _ _ _ _ (is2 _ _ _ _ _ (by simp))).mono ?_; rintro e x1 ⟨rfl, rfl⟩; rw [show firstE [0, 12] = 12 from rfl])
    go_ret2
    refine ⟨_, by rw [brE_2 Hb.out Hr.out]; rfl, ?_, up HW.out (up (grow_below W z) (up_alloc _ _))⟩
    unfold brG; rw [brE_2 Hb.out Hr.out]; exact World.ownsRow_nil _ _ _ _
  have Hr := Lib.hid hr
  clear hr
  refine wp_region_grow_tail 4 (by kernel_rfl) (by kernel_rfl) ?_
  simp only [List.take_succ_cons, List.take_zero, List.drop_succ_cons, List.drop_zero]
  repeat (go_big_quiet_step ((first | (go_at_call 20; exact quiet_grow rfl (check_yes _ _ _ _ _ _ _ _ _ _ _ (Hg1.out.keep (grow_below _ _)) hnc Hb.out)) | (go_at_call 18; exact quiet_grow rfl (checkReading_yes _ _ _ _ _ _ _ Hr.out)))))
  refine wpQuiet_nil ?_
  intro z
  have e1 : w.heap.size < W.heap.size + z.blocks.size := by omega
  have e2 : w.heap.size + 1 < W.heap.size + z.blocks.size := by omega
  have e3 : w.heap.size < W.heap.size := by omega
  have hpl : (possG w0 w1 w2 w3 w4 F [r] gs).length ≤ 40 := Nat.le_trans (possG_len w0 w1 w2 w3 w4 F [r] gs) (okB_40 Hb.out)
  have h40 : n ≤ 40 := by have := Hl.out; have := okB_40 Hb.out; omega
  go_wp2_with (first
    | (go_at_call 75; refine (first_any _ _ _ _ _ (is2 _ _ _ _ _ (by simp))).mono ?_; rintro e x1 ⟨rfl, rfl⟩; rw [show firstE [0, 0] = 0 from rfl])
    | (go_at_call 85; refine (possibleMarks_any _ _ _ _ _ _ _ _ _ gs _ _ _ [r] _ (Hg1.out.keep (up (grow_below W z) (up (up_alloc _ _) (up_alloc _ _)))) (rs1 _ r _ _ (by simp)) (okB_ok Hb.out) (by omega)).mono ?_; rintro e x1 ⟨v, rfl, hown, hb1⟩; obtain ⟨A', c', rfl, _, _, hgs⟩ := Gs.of_own hown; have HG := Lib.hid (hgs (by omega)); clear hgs hown; have HB1 := Lib.hid (up HW.out (up (grow_below W z) (up (up_alloc _ _) (up (up_alloc _ _) hb1)))))
    | (go_at_call 84; refine (ownersOf_any _ _ _ _ _ HG.out (by omega)).mono ?_; rintro e x2 ⟨v, rfl, hown, hb2⟩; have Hown := Lib.hid hown; clear hown))
  go_ret2
  refine ⟨_, by rw [brE_0 Hb.out Hr.out]; rfl, ?_, up HB1.out hb2⟩
  unfold brG; rw [brE_0 Hb.out Hr.out]
  have := HB1.out.size
  exact own_mono Hown.out this
end Go.Proofs.Ytbieopkohkomoaa

namespace Go.Proofs.Ytbieopkohkomoaa
open Go.RowKit
set_option maxHeartbeats 400000
set_option maxRecDepth 100000

theorem err_0 {b : Bool} {n : Int} (hn : n ≠ 0) (h : err b n = 0) : b = true := by
  cases b
  · exact absurd ((err_f n (by simp)).symm.trans h) hn
  · rfl
theorem firstE_cons (x : Int) (r : List Int) : firstE (x :: r) = if x = 0 then firstE r else x := by
  by_cases h : x = 0
  · rw [if_pos h, firstE_no _ (by simp [h])]
  · rw [if_neg h, firstE_yes _ (by simpa using h)]
theorem firstE3_0 {a b c : Int} (h : firstE [a, b, c] = 0) : a = 0 ∧ b = 0 ∧ c = 0 := by
  rw [firstE_cons, firstE_cons, firstE_cons] at h
  by_cases h1 : a = 0
  · by_cases h2 : b = 0
    · by_cases h3 : c = 0
      · exact ⟨h1, h2, h3⟩
      · simp [h1, h2, h3] at h
    · simp [h1, h2] at h
  · simp [h1] at h
theorem firstE2_0 {a b : Int} (h : firstE [a, b] = 0) : a = 0 ∧ b = 0 := by
  rw [firstE_cons, firstE_cons] at h
  by_cases h1 : a = 0
  · by_cases h2 : b = 0
    · exact ⟨h1, h2⟩
    · simp [h1, h2] at h
  · simp [h1] at h

/-- The error, and the distance where there is none. -/
def distE (w0 w1 w2 w3 w4 a0 a1 a2 a3 a4 a5 b0 b1 b2 b3 b4 b5 : Int) : Int := firstE [err (okW w0 w1 w2 w3 w4) 11, err (okM a0 a1 a2 a3 a4 a5) 10, err (okM b0 b1 b2 b3 b4 b5) 10]
def distV (w0 w1 w2 w3 w4 a0 a1 a2 a3 a4 a5 b0 b1 b2 b3 b4 b5 : Int) : Int := if distE w0 w1 w2 w3 w4 a0 a1 a2 a3 a4 a5 b0 b1 b2 b3 b4 b5 = 0 then wdist w0 w1 w2 w3 w4 a0 a1 a2 a3 a4 a5 b0 b1 b2 b3 b4 b5 else 0

theorem distance_any (w0 w1 w2 w3 w4 a0 a1 a2 a3 a4 a5 b0 b1 b2 b3 b4 b5 : Int) (w : World) :
    Calls Try.prog 25 #[.agg #[.int .i64 w0, .int .i64 w1, .int .i64 w2, .int .i64 w3, .int .i64 w4], .agg #[.int .i64 a0, .int .i64 a1, .int .i64 a2, .int .i64 a3, .int .i64 a4, .int .i64 a5], .agg #[.int .i64 b0, .int .i64 b1, .int .i64 b2, .int .i64 b3, .int .i64 b4, .int .i64 b5]] w fun e w' => e = .returned (.tuple #[.int .i64 (distV w0 w1 w2 w3 w4 a0 a1 a2 a3 a4 a5 b0 b1 b2 b3 b4 b5), .int .i64 (distE w0 w1 w2 w3 w4 a0 a1 a2 a3 a4 a5 b0 b1 b2 b3 b4 b5)]) ∧ Below w.heap.size w w' := by
  go_enter Try.func25, Try.ntmps25
  go_wp2_with fail
  generalize hW : (World.alloc _ _) = W
  have HW : Hid (Below w.heap.size w W) := Lib.hid (by subst hW; go_grown)
  have hs : w.heap.size + 2 < W.heap.size := by subst hW; simp
  have hs1 : w.heap.size + 1 < W.heap.size := by omega
  have hs0 : w.heap.size < W.heap.size := by omega
  have cw : ∀ j, W.cell? ⟨w.heap.size, j, none⟩ = [Value.int .i64 w0, Value.int .i64 w1, Value.int .i64 w2, Value.int .i64 w3, Value.int .i64 w4][j]? := by subst hW; intro j; simp [go_sem]
  have ca : ∀ j, W.cell? ⟨w.heap.size + 1, j, none⟩ = [Value.int .i64 a0, Value.int .i64 a1, Value.int .i64 a2, Value.int .i64 a3, Value.int .i64 a4, Value.int .i64 a5][j]? := by subst hW; intro j; simp [go_sem]
  have cb : ∀ j, W.cell? ⟨w.heap.size + 1 + 1, j, none⟩ = [Value.int .i64 b0, Value.int .i64 b1, Value.int .i64 b2, Value.int .i64 b3, Value.int .i64 b4, Value.int .i64 b5][j]? := by subst hW; intro j; simp [go_sem]
  clear hW
  refine wp_region_grow_tail 6 (by kernel_rfl) (by kernel_rfl) ?_
  simp only [List.take_succ_cons, List.take_zero, List.drop_succ_cons, List.drop_zero]
  repeat (go_big_quiet_step ((first | (go_at_call 16; exact quiet_grow rfl (checkWear_any _ _ _ _ _ _)) | (go_at_call 14; exact quiet_grow rfl (checkMark_any _ _ _ _ _ _ _)))))
  refine wpQuiet_nil ?_
  intro z
  have e1 : w.heap.size < W.heap.size + z.blocks.size := by omega
  have e2 : w.heap.size + 1 < W.heap.size + z.blocks.size := by omega
  have e3 : w.heap.size + 1 + 1 < W.heap.size + z.blocks.size := by omega
  have e4 : w.heap.size + 1 + 1 < W.heap.size := by omega
  by_cases hE : distE w0 w1 w2 w3 w4 a0 a1 a2 a3 a4 a5 b0 b1 b2 b3 b4 b5 = 0
  · have HE := Lib.hid hE
    have hE1 := hE
    unfold distE at hE1
    obtain ⟨o1, o2, o3⟩ := firstE3_0 hE1
    have m2 := (okM_iff _ _ _ _ _ _).1 (err_0 (by decide) o2)
    have m3 := (okM_iff _ _ _ _ _ _).1 (err_0 (by decide) o3)
    clear o1 o2 o3
    obtain ⟨⟨p0, q0⟩, ⟨p1, q1⟩, ⟨p2, q2⟩, ⟨p3, q3⟩, ⟨p4, q4⟩, ⟨p5, q5⟩⟩ := m2
    obtain ⟨⟨r0, s0⟩, ⟨r1, s1⟩, ⟨r2, s2⟩, ⟨r3, s3⟩, ⟨r4, s4⟩, ⟨r5, s5⟩⟩ := m3
    have HE1 := Lib.hid hE1
    clear hE hE1
    go_wp2_with (go_at_call 75; refine (first_any _ _ _ _ _ (is3 _ _ _ _ _ _ (by simp))).mono ?_; rintro e x1 ⟨rfl, rfl⟩; rw [HE1.out])
    refine wp_region_grow (by kernel_rfl) (by kernel_rfl) ?_
    repeat (go_big_quiet_step ((first | (go_at_call 77; exact quiet_grow rfl (wornRow_any _ _ _ _ _ _ _ _ _ _ _ _ (by assumption) (by assumption) (by assumption) (by assumption) (by assumption) (by assumption) (by assumption) (by assumption) (by assumption) (by assumption) (by assumption) (by assumption))) | (go_at_call 76; exact quiet_grow rfl (false_any _ _ _ _ _ _ _ _ _ _ _ _ _)))))
    refine wpQuiet_nil ?_
    intro z2
    go_wp2
    go_ret2
    refine ⟨ret_ii ?_ HE.out.symm, up HW.out (up (grow_below W z) (up (up_alloc _ _) (grow_below _ z2)))⟩
    unfold distV; rw [if_pos HE.out]; rfl
  · have HE := Lib.hid hE
    have hb : (distE w0 w1 w2 w3 w4 a0 a1 a2 a3 a4 a5 b0 b1 b2 b3 b4 b5 != 0) = true := by simpa using hE
    clear hE
    go_wp2_with (go_at_call 75; refine (first_any _ _ _ _ _ (is3 _ _ _ _ _ _ (by simp))).mono ?_; rintro e x1 ⟨rfl, rfl⟩; rw [show firstE [err (okW w0 w1 w2 w3 w4) 11, err (okM a0 a1 a2 a3 a4 a5) 10, err (okM b0 b1 b2 b3 b4 b5) 10] = distE w0 w1 w2 w3 w4 a0 a1 a2 a3 a4 a5 b0 b1 b2 b3 b4 b5 from rfl])
    go_ret2
    refine ⟨ret_ii ?_ rfl, up HW.out (up (grow_below W z) (up_alloc _ _))⟩
    unfold distV; rw [if_neg HE.out]

theorem tmod_neg_add {a n : Int} (hn : 0 < n) (h : a.tmod n < 0) : a.tmod n + n = a % n := by
  rw [Int.tmod_eq_emod] at *
  have := Int.emod_nonneg a (by omega : n ≠ 0)
  have := Int.emod_lt_of_pos a hn
  split at h
  · omega
  · rw [if_neg (by assumption)]; omega
theorem tmod_pos_eq {a n : Int} (hn : 0 < n) (h : ¬ a.tmod n < 0) : a.tmod n = a % n := by
  rw [Int.tmod_eq_emod] at *
  have := Int.emod_nonneg a (by omega : n ≠ 0)
  have := Int.emod_lt_of_pos a hn
  split at h
  · rw [if_pos (by assumption)]; omega
  · omega

theorem modulo_any (a n : Int) (w : World) (hn : 0 < n) (hn2 : n ≤ 1000) :
    Calls Try.prog 104 #[.int .i64 a, .int .i64 n] w fun e w' => e = .returned (.int .i64 (a % n)) ∧ w = w' := by
  have hb : (n == 0) = false := by simp; omega
  have h1 : n ≠ 0 := by omega
  have b1 := Int.tmod_lt_of_pos a hn
  have b2 : -n < a.tmod n := by
    rw [Int.tmod_eq_emod]
    have := Int.emod_nonneg a (by omega : n ≠ 0)
    split <;> omega
  by_cases h : a.tmod n < 0
  · have H := Lib.hid (tmod_neg_add hn h)
    go_enter Try.func104, Try.ntmps104
    go_wp2
    go_ret
    exact ⟨congrArg (fun v => Ending.returned (Value.int .i64 v)) H.out, rfl⟩
  · have H := Lib.hid (tmod_pos_eq hn h)
    go_enter Try.func104, Try.ntmps104
    go_wp2
    go_ret
    exact ⟨congrArg (fun v => Ending.returned (Value.int .i64 v)) H.out, rfl⟩

/-- The choice with an index. -/
def pickL (l : List Int) (k : Nat) : Int := l.getD (k % l.length) 0
theorem pickAt_any (A : Option Addr) (n c : Nat) (l : List Int) (k : Nat) (w : World) (hg : Is w A n l) (hk : k < 9223372036854775807) :
    Calls Try.prog 105 #[.slice A n c, .int .i64 k] w fun e w' => e = .returned (.int .i64 (pickL l k)) ∧ w = w' := by
  have hn := hg.small
  have Hl : Hid (n = l.length) := Lib.hid hg.len
  by_cases h0 : n = 0
  · have hb : ((n : Int) == 0) = true := by simp [h0]
    have H0 := Lib.hid h0
    clear h0
    go_enter Try.func105, Try.ntmps105
    go_wp2
    go_ret
    refine ⟨congrArg (fun v => Ending.returned (Value.int .i64 v)) ?_, rfl⟩
    have : l = [] := List.eq_nil_of_length_eq_zero (by rw [← Hl.out]; exact H0.out)
    rw [this]; rfl
  · have hb : ((n : Int) == 0) = false := by simp [h0]
    have hlt : k % n < n := Nat.mod_lt _ (by omega)
    have hkl : k % n < l.length := by rw [← Hl.out]; exact hlt
    obtain ⟨b, o, rfl, hbl, hc⟩ := hg.get (k % n) hkl
    have Hv : Hid (pickL l k = l[k % n]) := Lib.hid (by unfold pickL; rw [← Hl.out]; simp [hkl])
    generalize l[k % n] = y at *
    have hm : ((k : Int)).tmod (n : Int) = ((k % n : Nat) : Int) := by rw [Int.tmod_eq_emod_of_nonneg (by omega)]; rfl
    generalize hq : k % n = q at *
    have Hq := Lib.hid hq
    clear hq
    go_enter Try.func105, Try.ntmps105
    go_wp2
    go_ret
    exact ⟨by rw [Hv.out]; rfl, rfl⟩
end Go.Proofs.Ytbieopkohkomoaa

