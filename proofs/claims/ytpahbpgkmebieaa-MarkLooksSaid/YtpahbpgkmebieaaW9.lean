/- Plain facts on distances; the reference's Check. Own text. -/
import Derived.Test.YtpahbpgkmebieaaW8
namespace Go.Proofs.Ytpahbpgkmebieaa
open Go.RowKit
set_option maxHeartbeats 400000
set_option maxRecDepth 100000

theorem band_self (s : Int) (h0 : 0 ≤ s) (h1 : s ≤ 31) (i : Nat) (hi : hasB s i = true) : (band s s == 0) = false := by
  have key : ∀ t : Fin 32, (band t.val t.val == 0) = true → t.val = 0 := by decide
  obtain ⟨n, rfl⟩ := Int.eq_ofNat_of_zero_le h0
  cases e : (band (n : Int) n == 0)
  · rfl
  · have := key ⟨n, by omega⟩ e
    have h0 : n = 0 := this
    subst h0
    have : hasB 0 i = false := by
      unfold hasB band
      have : bits BinOp.and IntKind.i64 0 (2 ^ i) = 0 := by simp [bits]; rfl
      simp [this]
    rw [show ((0 : Nat) : Int) = 0 from rfl, this] at hi
    cases hi
/-- A sign's worn signs have the sign itself. -/
theorem worn_self {w0 w1 w2 w3 w4 : Int} (h : okW w0 w1 w2 w3 w4 = true) {s : Int} (h0 : 0 ≤ s) (h1 : s < 5) : mis (g5 w0 w1 w2 w3 w4 s) (g5 w0 w1 w2 w3 w4 s) = 0 := by
  simp only [okW, wrB, Bool.and_eq_true, decide_eq_true_eq] at h
  obtain ⟨⟨⟨⟨⟨⟨a0, b0⟩, c0⟩, ⟨a1, b1⟩, c1⟩, ⟨a2, b2⟩, c2⟩, ⟨a3, b3⟩, c3⟩, ⟨a4, b4⟩, c4⟩ := h
  rcases (by omega : s = 0 ∨ s = 1 ∨ s = 2 ∨ s = 3 ∨ s = 4) with rfl | rfl | rfl | rfl | rfl
  · exact mis_no (band_self w0 a0 b0 0 c0)
  · exact mis_no (band_self w1 a1 b1 1 c1)
  · exact mis_no (band_self w2 a2 b2 2 c2)
  · exact mis_no (band_self w3 a3 b3 3 c3)
  · exact mis_no (band_self w4 a4 b4 4 c4)
theorem apartB_eq {w0 w1 w2 w3 w4 p a0 a1 a2 a3 a4 a5 b0 b1 b2 b3 b4 b5 : Int} (h : okW w0 w1 w2 w3 w4 = true) (hp : 0 ≤ p) (ha0 : 0 ≤ a0) (ka0 : a0 < 5) (ha1 : 0 ≤ a1) (ka1 : a1 < 5) (ha2 : 0 ≤ a2) (ka2 : a2 < 5) (ha3 : 0 ≤ a3) (ka3 : a3 < 5) (ha4 : 0 ≤ a4) (ka4 : a4 < 5) (ha5 : 0 ≤ a5) (ka5 : a5 < 5) : apartB w0 w1 w2 w3 w4 p a0 a1 a2 a3 a4 a5 b0 b1 b2 b3 b4 b5 = decide (2 * p < wdist w0 w1 w2 w3 w4 a0 a1 a2 a3 a4 a5 b0 b1 b2 b3 b4 b5) := by
  unfold apartB
  cases hs : same6 a0 a1 a2 a3 a4 a5 b0 b1 b2 b3 b4 b5
  · rfl
  · obtain ⟨rfl, rfl, rfl, rfl, rfl, rfl⟩ := (same6_iff _ _ _ _ _ _ _ _ _ _ _ _).1 hs
    have : wdist w0 w1 w2 w3 w4 a0 a1 a2 a3 a4 a5 a0 a1 a2 a3 a4 a5 = 0 := by
      unfold wdist dist6
      rw [worn_self h ha0 ka0, worn_self h ha1 ka1, worn_self h ha2 ka2, worn_self h ha3 ka3, worn_self h ha4 ka4, worn_self h ha5 ka5]; rfl
    rw [this]
    symm
    simp; omega
/-- Near, by distance. -/
def nearD (w0 w1 w2 w3 w4 p m0 m1 m2 m3 m4 m5 : Int) (gs : List Giv) : Bool := gs.any fun g => decide (wdist w0 w1 w2 w3 w4 g.m0 g.m1 g.m2 g.m3 g.m4 g.m5 m0 m1 m2 m3 m4 m5 ≤ 2 * p)
theorem near_eq {w0 w1 w2 w3 w4 p m0 m1 m2 m3 m4 m5 : Int} {gs : List Giv} (h : okW w0 w1 w2 w3 w4 = true) (hp : 0 ≤ p) (hok : ∀ g ∈ gs, g.ok) : nearB w0 w1 w2 w3 w4 p m0 m1 m2 m3 m4 m5 gs = nearD w0 w1 w2 w3 w4 p m0 m1 m2 m3 m4 m5 gs := by
  unfold nearB nearD
  induction gs with
  | nil => rfl
  | cons g gs ih =>
    rw [List.any_cons, List.any_cons, ih fun x hx => hok x (List.mem_cons_of_mem _ hx)]
    obtain ⟨⟨p0, q0⟩, ⟨p1, q1⟩, ⟨p2, q2⟩, ⟨p3, q3⟩, ⟨p4, q4⟩, ⟨p5, q5⟩⟩ := hok g (List.mem_cons_self ..)
    rw [apartB_eq h hp p0 q0 p1 q1 p2 q2 p3 q3 p4 q4 p5 q5]
    congr 1
    by_cases c : 2 * p < wdist w0 w1 w2 w3 w4 g.m0 g.m1 g.m2 g.m3 g.m4 g.m5 m0 m1 m2 m3 m4 m5
    · simp [c]
    · simp [c]; omega

theorem refCheckWear_yes (a0 a1 a2 a3 a4 : Int) (w : World) (h : okW a0 a1 a2 a3 a4 = true) : Calls Try.prog 17 #[.agg #[.int .i64 a0, .int .i64 a1, .int .i64 a2, .int .i64 a3, .int .i64 a4]] w fun e w' => e = .returned (.int .i64 0) ∧ Below w.heap.size w w' :=
  (refCheckWear_any _ _ _ _ _ w).mono fun e w' g => ⟨by rw [g.1, err_t _ h], g.2⟩
theorem refCheckWear_no (a0 a1 a2 a3 a4 : Int) (w : World) (h : okW a0 a1 a2 a3 a4 = false) : Calls Try.prog 17 #[.agg #[.int .i64 a0, .int .i64 a1, .int .i64 a2, .int .i64 a3, .int .i64 a4]] w fun e w' => e = .returned (.int .i64 11) ∧ Below w.heap.size w w' :=
  (refCheckWear_any _ _ _ _ _ w).mono fun e w' g => ⟨by rw [g.1, err_f _ (by rw [h]; simp)], g.2⟩
theorem refCheckMark_yes (a0 a1 a2 a3 a4 a5 : Int) (w : World) (h : okM a0 a1 a2 a3 a4 a5 = true) : Calls Try.prog 15 #[.agg #[.int .i64 a0, .int .i64 a1, .int .i64 a2, .int .i64 a3, .int .i64 a4, .int .i64 a5]] w fun e w' => e = .returned (.int .i64 0) ∧ Below w.heap.size w w' :=
  (refCheckMark_any _ _ _ _ _ _ w).mono fun e w' g => ⟨by rw [g.1, err_t _ h], g.2⟩
theorem refCheckMark_no (a0 a1 a2 a3 a4 a5 : Int) (w : World) (h : okM a0 a1 a2 a3 a4 a5 = false) : Calls Try.prog 15 #[.agg #[.int .i64 a0, .int .i64 a1, .int .i64 a2, .int .i64 a3, .int .i64 a4, .int .i64 a5]] w fun e w' => e = .returned (.int .i64 10) ∧ Below w.heap.size w w' :=
  (refCheckMark_any _ _ _ _ _ _ w).mono fun e w' g => ⟨by rw [g.1, err_f _ (by rw [h]; simp)], g.2⟩

theorem refCheck_any (w0 w1 w2 w3 w4 F : Int) (A : Option Addr) (n c : Nat) (gs : List Giv) (w : World) (hg : Gs w A n gs) :
    Calls Try.prog 21 #[.agg #[.int .i64 w0, .int .i64 w1, .int .i64 w2, .int .i64 w3, .int .i64 w4, .int .i64 F, .slice A n c]] w fun e w' => e = .returned (.int .i64 (err (okB w0 w1 w2 w3 w4 F gs) 13)) ∧ Below w.heap.size w w' := by
  have hn := hg.small
  have Hl : Hid (n = gs.length) := Lib.hid hg.len
  go_enter Try.func21, Try.ntmps21
  go_wp2_with fail
  generalize hW : (World.alloc _ _) = W
  have HW : Hid (Below w.heap.size w W) := Lib.hid (by subst hW; go_grown)
  have hs : w.heap.size < W.heap.size := by subst hW; simp
  have cm : ∀ j, W.cell? ⟨w.heap.size, j, none⟩ = [Value.int .i64 w0, .int .i64 w1, .int .i64 w2, .int .i64 w3, .int .i64 w4, .int .i64 F, .slice A n c][j]? := by subst hW; intro j; simp [go_sem]
  clear hW
  cases hw : okW w0 w1 w2 w3 w4
  · refine (refCheckWear_no w0 w1 w2 w3 w4 W hw).mono ?_
    rintro e x1 ⟨rfl, hb1⟩
    obtain ⟨z, rfl⟩ := below_grow hb1
    have Hw := Lib.hid hw
    clear hw
    go_wp2
    go_ret
    refine ⟨congrArg (fun v => Ending.returned (Value.int .i64 v)) ?_, up HW.out (grow_below W z)⟩
    rw [err_f]; unfold okB; rw [Hw.out]; simp
  refine (refCheckWear_yes w0 w1 w2 w3 w4 W hw).mono ?_
  rintro e x1 ⟨rfl, hb1⟩
  obtain ⟨z0, rfl⟩ := below_grow hb1
  have Hw := Lib.hid hw
  clear hw hb1
  by_cases hF : 0 ≤ F ∧ F ≤ 2
  rotate_left
  · go_wp2_with (go_at_call 67; refine (in_dec _ _ _ _).mono ?_; rintro e x1 (⟨rfl, hi, rfl⟩ | ⟨rfl, hi, rfl⟩))
    · exact absurd hi hF
    · go_ret
      refine ⟨congrArg (fun v => Ending.returned (Value.int .i64 v)) ?_, up HW.out (grow_below W z0)⟩
      rw [err_f]; unfold okB; simp; intros; omega
  obtain ⟨hF0, hF2⟩ := hF
  by_cases h40 : 40 < n
  · go_wp2_with (go_at_call 67; refine (in_dec _ _ _ _).mono ?_; rintro e x1 (⟨rfl, hi, rfl⟩ | ⟨rfl, hi, rfl⟩))
    · go_ret
      refine ⟨congrArg (fun v => Ending.returned (Value.int .i64 v)) ?_, up HW.out (grow_below W z0)⟩
      rw [err_f]; unfold okB; rw [← Hl.out]; simp; intros; omega
    · exact absurd ⟨hF0, hF2⟩ hi
  go_wp2_with (go_at_call 67; refine (in_dec _ _ _ _).mono ?_; rintro e x1 (⟨rfl, hi, rfl⟩ | ⟨rfl, hi, rfl⟩))
  rotate_left
  · exact absurd ⟨hF0, hF2⟩ hi
  clear hi
  have hg1 := hg.keep HW.out
  go_loopw [3] (fun i wr => ∃ (k : Nat) (z : Gr), k ≤ n ∧ i = .int .i64 k ∧ wr = grow W z ∧ allK (okAt w0 w1 w2 w3 w4 F gs) k = true) (fun i _ => n - (intOf i).toNat)
  case atStart => exact ⟨0, z0, by omega, rfl, rfl, rfl⟩
  case round =>
    obtain ⟨k, z, hk, rfl, rfl, hall⟩ := hrel
    have e1 : w.heap.size < W.heap.size + z.blocks.size := by omega
    have e3 : w.heap.size < W.heap.size + z.blocks.size + 1 := by omega
    have hsz : w.heap.size < (grow W z).heap.size := by simp; omega
    by_cases hlt : k < n
    rotate_left
    · obtain rfl : k = n := by omega
      go_wp2
      go_ret
      refine ⟨congrArg (fun v => Ending.returned (Value.int .i64 v)) ?_, up HW.out (grow_below W z)⟩
      rw [err_t]; unfold okB; rw [Hw.out, ← Hl.out, hall]; simp; omega
    have hkl : k < gs.length := by rw [← Hl.out]; exact hlt
    have hga : gs[k]? = some gs[k] := List.getElem?_eq_getElem hkl
    have Hat := Lib.hid (okAt_some (w0 := w0) (w1 := w1) (w2 := w2) (w3 := w3) (w4 := w4) (F := F) hga)
    have Hno := Lib.hid (fun h => allK_no (okAt w0 w1 w2 w3 w4 F gs) k h gs.length hkl)
    have hok := ok_take hall
    have hgt := hg1.take k hk
    obtain ⟨b, o, rfl, hb, hc⟩ := hg1.get k hkl
    have Hg1 := Lib.hid hg1
    obtain ⟨c0, c1, c2, c3, c4, c5, c6⟩ := hc
    have Hall := Lib.hid hall
    generalize gs[k] = g at *
    have Hgt := Lib.hid hgt
    have Hok := Lib.hid hok
    have Hga := Lib.hid hga
    clear hall hga hgt hok hg1
    have fin : ∀ (x1 : World), Below W.heap.size W x1 → okAt w0 w1 w2 w3 w4 F gs k = false → Ending.returned (Value.int .i64 13) = Ending.returned (Value.int .i64 (err (okB w0 w1 w2 w3 w4 F gs) 13)) ∧ Below w.heap.size w x1 := fun y hy h =>
      ⟨by rw [err_f]; unfold okB; rw [Hno.out h]; simp, up HW.out hy⟩
    have Fin := Lib.hid fin
    clear fin
    have e5 : b < W.heap.size + z.blocks.size := by omega
    by_cases hrg : 1 ≤ g.o ∧ g.o ≤ 99
    rotate_left
    · have C2 := Lib.hid hrg
      clear hrg
      go_wp2
      refine wp_region_grow (by kernel_rfl) (by kernel_rfl) ?_
      repeat (go_big_quiet_step ((go_at_call 67; exact quiet_grow rfl (in_no _ _ _ _ C2.out))))
      refine wpQuiet_nil ?_
      intro z'
      go_wp2
      go_ret
      exact Fin.out _ (up (grow_below W z) (up (up_alloc _ _) (grow_below _ _))) (by rw [Hat.out]; simp; intros; have := C2.out; omega)
    cases hm : okM g.m0 g.m1 g.m2 g.m3 g.m4 g.m5
    · have Hm := Lib.hid hm
      clear hm
      go_wp2
      refine wp_region_grow (by kernel_rfl) (by kernel_rfl) ?_
      repeat (go_big_quiet_step ((first | (go_at_call 67; exact quiet_grow rfl (in_yes _ _ _ _ hrg)) | (go_at_call 15; exact quiet_grow rfl (refCheckMark_no _ _ _ _ _ _ _ Hm.out)))))
      refine wpQuiet_nil ?_
      intro z'
      go_wp2
      go_ret
      exact Fin.out _ (up (grow_below W z) (up (up_alloc _ _) (grow_below _ _))) (by rw [Hat.out]; unfold Giv.okB; rw [Hm.out]; simp)
    have Hm := Lib.hid hm
    obtain ⟨⟨p0, q0⟩, ⟨p1, q1⟩, ⟨p2, q2⟩, ⟨p3, q3⟩, ⟨p4, q4⟩, ⟨p5, q5⟩⟩ := (okM_iff _ _ _ _ _ _).1 hm
    clear hm
    have Hnq : Hid (nearB w0 w1 w2 w3 w4 F g.m0 g.m1 g.m2 g.m3 g.m4 g.m5 (gs.take k) = nearD w0 w1 w2 w3 w4 F g.m0 g.m1 g.m2 g.m3 g.m4 g.m5 (gs.take k)) := Lib.hid (near_eq Hw.out hF0 Hok.out)
    have Hprev : Hid (0 < k → W.cell? ⟨b, o + (k - 1) * 7, none⟩ = some (.int .i64 (lastO gs k))) := Lib.hid (fun h0 => by
      obtain ⟨k', rfl⟩ : ∃ k', k = k' + 1 := ⟨k - 1, by omega⟩
      obtain ⟨b', o', hbo, hb', hc'⟩ := Hg1.out.get k' (by omega)
      obtain ⟨rfl, rfl⟩ : b = b' ∧ o = o' := by simpa using hbo
      have : lastO gs (k' + 1) = (gs[k']'(by omega)).o := by show (gs.getD k' default).o = _; simp [show k' < gs.length by omega]
      rw [this]; exact hc'.c0)
    have Hl0 : Hid (¬ 0 < k → lastO gs k = 0) := Lib.hid (fun h => by obtain rfl : k = 0 := by omega
                                                                      rfl)
    generalize lastO gs k = L at *
    by_cases hlo : g.o ≤ L
    · by_cases hk0 : 0 < k
      rotate_left
      · have := Hl0.out hk0; omega
      have d0 := Hprev.out hk0
      have hk1 : decide ((0 : Int) < (k : Int)) = true := by simpa using hk0
      go_wp2
      refine wp_region_grow (by kernel_rfl) (by kernel_rfl) ?_
      repeat (go_big_quiet_step ((first | (go_at_call 67; exact quiet_grow rfl (in_yes _ _ _ _ hrg)) | (go_at_call 15; exact quiet_grow rfl (refCheckMark_yes _ _ _ _ _ _ _ Hm.out)))))
      refine wpQuiet_nil ?_
      intro z'
      go_wp2
      go_ret
      exact Fin.out _ (up (grow_below W z) (up (up_alloc _ _) (grow_below _ _))) (by rw [Hat.out]; simp; intros; omega)
    by_cases hk0 : 0 < k
    · have d0 := Hprev.out hk0
      have hk1 : decide ((0 : Int) < (k : Int)) = true := by simpa using hk0
      go_wp2
      refine wp_region_grow (by kernel_rfl) (by kernel_rfl) ?_
      repeat (go_big_quiet_step ((first | (go_at_call 67; exact quiet_grow rfl (in_yes _ _ _ _ hrg)) | (go_at_call 15; exact quiet_grow rfl (refCheckMark_yes _ _ _ _ _ _ _ Hm.out)))))
      refine wpQuiet_nil ?_
      intro z'
      go_wp2
      generalize hV : grow (World.alloc _ _) z' = V
      have HV : Hid (Below W.heap.size W V) := Lib.hid (by subst hV; exact up (grow_below W z) (up (up_alloc _ _) (grow_below _ _)))
      have v1 : w.heap.size < V.heap.size := by subst hV; simp; omega
      have v2 : W.heap.size + z.blocks.size < V.heap.size := by subst hV; simp; omega
      have v3 : b < V.heap.size := by subst hV; simp; omega
      have cv : ∀ j, V.cell? ⟨w.heap.size, j, none⟩ = [Value.int .i64 w0, .int .i64 w1, .int .i64 w2, .int .i64 w3, .int .i64 w4, .int .i64 F, .slice (some ⟨b, o, none⟩) n c][j]? := by
        intro j; rw [← cm j]; exact HV.out.cell (p := ⟨w.heap.size, j, none⟩) hs
      have cg : ∀ j, V.cell? ⟨W.heap.size + z.blocks.size, j, none⟩ = [Value.int .i64 g.o, .int .i64 g.m0, .int .i64 g.m1, .int .i64 g.m2, .int .i64 g.m3, .int .i64 g.m4, .int .i64 g.m5][j]? := by
        subst hV; intro j
        rw [grow_cell_lt _ _ _ _ (by simp), World.cell?_alloc_at _ _ _ _ (by simp)]; simp
      have HG := Lib.hid (Hgt.out.keep HV.out)
      clear hV hk1 hk0
      go_loopw [5] (fun j wr => ∃ (q : Nat) (y : Gr), q ≤ k ∧ j = .int .i64 q ∧ wr = grow V y ∧ nearD w0 w1 w2 w3 w4 F g.m0 g.m1 g.m2 g.m3 g.m4 g.m5 ((gs.take k).take q) = false) (fun j _ => k - (intOf j).toNat)
      case atStart => exact ⟨0, ⟨#[], V.drawn⟩, by omega, rfl, by simp [grow], rfl⟩
      case round =>
        obtain ⟨q, y, hq, rfl, rfl, hnd⟩ := hrel
        have Hnd := Lib.hid hnd
        clear hnd
        have f1 : w.heap.size < V.heap.size + y.blocks.size := by omega
        have f2 : w.heap.size < (grow V y).heap.size := by simp; omega
        have f3 : W.heap.size + z.blocks.size < (grow V y).heap.size := by simp; omega
        have f4 : b < (grow V y).heap.size := by simp; omega
        by_cases hqk : q < k
        · have hql : q < (gs.take k).length := by rw [← HG.out.len]; exact hqk
          have Hsn : Hid ((gs.take k).take (q + 1) = (gs.take k).take q ++ [(gs.take k)[q]]) := Lib.hid (List.take_succ_eq_append_getElem hql)
          have hmem := List.getElem_mem hql
          obtain ⟨b', o', hbo, hb', hc'⟩ := HG.out.get q hql
          obtain ⟨rfl, rfl⟩ : b = b' ∧ o = o' := by simpa using hbo
          generalize (gs.take k)[q] = x at *
          have Hmem := Lib.hid hmem
          obtain ⟨⟨r0, s0⟩, ⟨r1, s1⟩, ⟨r2, s2⟩, ⟨r3, s3⟩, ⟨r4, s4⟩, ⟨r5, s5⟩⟩ := Hok.out x hmem
          obtain ⟨x0, x1, x2, x3, x4, x5, x6⟩ := hc'
          clear hmem hbo
          by_cases hle : wdist w0 w1 w2 w3 w4 x.m0 x.m1 x.m2 x.m3 x.m4 x.m5 g.m0 g.m1 g.m2 g.m3 g.m4 g.m5 ≤ 2 * F
          · go_wp2
            refine wp_region_grow (by kernel_rfl) (by kernel_rfl) ?_
            repeat (go_big_quiet_step ((go_at_call 73; exact quiet_grow rfl (refDistance_any _ _ _ _ _ _ _ _ _ _ _ _ _ _ _ _ _ _ (by assumption) (by assumption) (by assumption) (by assumption) (by assumption) (by assumption) (by assumption) (by assumption) (by assumption) (by assumption) (by assumption) (by assumption) (by assumption) (by assumption) (by assumption) (by assumption) (by assumption) (by assumption) (by assumption) (by assumption) (by assumption) (by assumption) (by assumption) (by assumption) ))))
            refine wpQuiet_nil ?_
            intro y'
            go_wp2
            go_ret
            refine Fin.out _ (up HV.out (up (grow_below V y) (grow_below _ y'))) ?_
            rw [Hat.out, Hnq.out, show nearD w0 w1 w2 w3 w4 F g.m0 g.m1 g.m2 g.m3 g.m4 g.m5 (gs.take k) = true from List.any_eq_true.2 ⟨x, Hmem.out, by simpa using hle⟩]; simp
          · go_wp2
            refine wp_region_grow (by kernel_rfl) (by kernel_rfl) ?_
            repeat (go_big_quiet_step ((go_at_call 73; exact quiet_grow rfl (refDistance_any _ _ _ _ _ _ _ _ _ _ _ _ _ _ _ _ _ _ (by assumption) (by assumption) (by assumption) (by assumption) (by assumption) (by assumption) (by assumption) (by assumption) (by assumption) (by assumption) (by assumption) (by assumption) (by assumption) (by assumption) (by assumption) (by assumption) (by assumption) (by assumption) (by assumption) (by assumption) (by assumption) (by assumption) (by assumption) (by assumption) ))))
            refine wpQuiet_nil ?_
            intro y'
            obtain ⟨v, hv⟩ := grow_grow V y y'
            rw [hv]
            clear hv
            go_wp2
            refine ⟨⟨q + 1, v, by omega, by go_num, rfl, ?_⟩, by simp [intOf]; omega⟩
            rw [Hsn.out]
            unfold nearD
            rw [List.any_append, show ((gs.take k).take q).any (fun g_1 => decide (wdist w0 w1 w2 w3 w4 g_1.m0 g_1.m1 g_1.m2 g_1.m3 g_1.m4 g_1.m5 g.m0 g.m1 g.m2 g.m3 g.m4 g.m5 ≤ 2 * F)) = false from Hnd.out]
            simpa using hle
        · obtain rfl : q = k := by omega
          go_wp2
          obtain ⟨v, hv⟩ := below_grow (up HV.out (grow_below V y))
          refine ⟨⟨q + 1, v, by omega, by go_num, hv, ?_⟩, by simp [intOf]; omega⟩
          show (allK (okAt w0 w1 w2 w3 w4 F gs) q && okAt w0 w1 w2 w3 w4 F gs q) = true
          have hnd := Hnd.out
          rw [List.take_of_length_le (by simp; omega)] at hnd
          rw [Hall.out, Hat.out, Hnq.out, hnd]; unfold Giv.okB; rw [Hm.out]; simp; omega
    · have hk1 : decide ((0 : Int) < (k : Int)) = false := by simpa using hk0
      go_wp2
      refine wp_region_grow (by kernel_rfl) (by kernel_rfl) ?_
      repeat (go_big_quiet_step ((first | (go_at_call 67; exact quiet_grow rfl (in_yes _ _ _ _ hrg)) | (go_at_call 15; exact quiet_grow rfl (refCheckMark_yes _ _ _ _ _ _ _ Hm.out)))))
      refine wpQuiet_nil ?_
      intro z'
      go_wp2
      generalize hV : grow (World.alloc _ _) z' = V
      have HV : Hid (Below W.heap.size W V) := Lib.hid (by subst hV; exact up (grow_below W z) (up (up_alloc _ _) (grow_below _ _)))
      have v1 : w.heap.size < V.heap.size := by subst hV; simp; omega
      have v2 : W.heap.size + z.blocks.size < V.heap.size := by subst hV; simp; omega
      have v3 : b < V.heap.size := by subst hV; simp; omega
      have cv : ∀ j, V.cell? ⟨w.heap.size, j, none⟩ = [Value.int .i64 w0, .int .i64 w1, .int .i64 w2, .int .i64 w3, .int .i64 w4, .int .i64 F, .slice (some ⟨b, o, none⟩) n c][j]? := by
        intro j; rw [← cm j]; exact HV.out.cell (p := ⟨w.heap.size, j, none⟩) hs
      have cg : ∀ j, V.cell? ⟨W.heap.size + z.blocks.size, j, none⟩ = [Value.int .i64 g.o, .int .i64 g.m0, .int .i64 g.m1, .int .i64 g.m2, .int .i64 g.m3, .int .i64 g.m4, .int .i64 g.m5][j]? := by
        subst hV; intro j
        rw [grow_cell_lt _ _ _ _ (by simp), World.cell?_alloc_at _ _ _ _ (by simp)]; simp
      have HG := Lib.hid (Hgt.out.keep HV.out)
      clear hV hk1 hk0
      go_loopw [5] (fun j wr => ∃ (q : Nat) (y : Gr), q ≤ k ∧ j = .int .i64 q ∧ wr = grow V y ∧ nearD w0 w1 w2 w3 w4 F g.m0 g.m1 g.m2 g.m3 g.m4 g.m5 ((gs.take k).take q) = false) (fun j _ => k - (intOf j).toNat)
      case atStart => exact ⟨0, ⟨#[], V.drawn⟩, by omega, rfl, by simp [grow], rfl⟩
      case round =>
        obtain ⟨q, y, hq, rfl, rfl, hnd⟩ := hrel
        have Hnd := Lib.hid hnd
        clear hnd
        have f1 : w.heap.size < V.heap.size + y.blocks.size := by omega
        have f2 : w.heap.size < (grow V y).heap.size := by simp; omega
        have f3 : W.heap.size + z.blocks.size < (grow V y).heap.size := by simp; omega
        have f4 : b < (grow V y).heap.size := by simp; omega
        by_cases hqk : q < k
        · have hql : q < (gs.take k).length := by rw [← HG.out.len]; exact hqk
          have Hsn : Hid ((gs.take k).take (q + 1) = (gs.take k).take q ++ [(gs.take k)[q]]) := Lib.hid (List.take_succ_eq_append_getElem hql)
          have hmem := List.getElem_mem hql
          obtain ⟨b', o', hbo, hb', hc'⟩ := HG.out.get q hql
          obtain ⟨rfl, rfl⟩ : b = b' ∧ o = o' := by simpa using hbo
          generalize (gs.take k)[q] = x at *
          have Hmem := Lib.hid hmem
          obtain ⟨⟨r0, s0⟩, ⟨r1, s1⟩, ⟨r2, s2⟩, ⟨r3, s3⟩, ⟨r4, s4⟩, ⟨r5, s5⟩⟩ := Hok.out x hmem
          obtain ⟨x0, x1, x2, x3, x4, x5, x6⟩ := hc'
          clear hmem hbo
          by_cases hle : wdist w0 w1 w2 w3 w4 x.m0 x.m1 x.m2 x.m3 x.m4 x.m5 g.m0 g.m1 g.m2 g.m3 g.m4 g.m5 ≤ 2 * F
          · go_wp2
            refine wp_region_grow (by kernel_rfl) (by kernel_rfl) ?_
            repeat (go_big_quiet_step ((go_at_call 73; exact quiet_grow rfl (refDistance_any _ _ _ _ _ _ _ _ _ _ _ _ _ _ _ _ _ _ (by assumption) (by assumption) (by assumption) (by assumption) (by assumption) (by assumption) (by assumption) (by assumption) (by assumption) (by assumption) (by assumption) (by assumption) (by assumption) (by assumption) (by assumption) (by assumption) (by assumption) (by assumption) (by assumption) (by assumption) (by assumption) (by assumption) (by assumption) (by assumption) ))))
            refine wpQuiet_nil ?_
            intro y'
            go_wp2
            go_ret
            refine Fin.out _ (up HV.out (up (grow_below V y) (grow_below _ y'))) ?_
            rw [Hat.out, Hnq.out, show nearD w0 w1 w2 w3 w4 F g.m0 g.m1 g.m2 g.m3 g.m4 g.m5 (gs.take k) = true from List.any_eq_true.2 ⟨x, Hmem.out, by simpa using hle⟩]; simp
          · go_wp2
            refine wp_region_grow (by kernel_rfl) (by kernel_rfl) ?_
            repeat (go_big_quiet_step ((go_at_call 73; exact quiet_grow rfl (refDistance_any _ _ _ _ _ _ _ _ _ _ _ _ _ _ _ _ _ _ (by assumption) (by assumption) (by assumption) (by assumption) (by assumption) (by assumption) (by assumption) (by assumption) (by assumption) (by assumption) (by assumption) (by assumption) (by assumption) (by assumption) (by assumption) (by assumption) (by assumption) (by assumption) (by assumption) (by assumption) (by assumption) (by assumption) (by assumption) (by assumption) ))))
            refine wpQuiet_nil ?_
            intro y'
            obtain ⟨v, hv⟩ := grow_grow V y y'
            rw [hv]
            clear hv
            go_wp2
            refine ⟨⟨q + 1, v, by omega, by go_num, rfl, ?_⟩, by simp [intOf]; omega⟩
            rw [Hsn.out]
            unfold nearD
            rw [List.any_append, show ((gs.take k).take q).any (fun g_1 => decide (wdist w0 w1 w2 w3 w4 g_1.m0 g_1.m1 g_1.m2 g_1.m3 g_1.m4 g_1.m5 g.m0 g.m1 g.m2 g.m3 g.m4 g.m5 ≤ 2 * F)) = false from Hnd.out]
            simpa using hle
        · obtain rfl : q = k := by omega
          go_wp2
          obtain ⟨v, hv⟩ := below_grow (up HV.out (grow_below V y))
          refine ⟨⟨q + 1, v, by omega, by go_num, hv, ?_⟩, by simp [intOf]; omega⟩
          show (allK (okAt w0 w1 w2 w3 w4 F gs) q && okAt w0 w1 w2 w3 w4 F gs q) = true
          have hnd := Hnd.out
          rw [List.take_of_length_le (by simp; omega)] at hnd
          rw [Hall.out, Hat.out, Hnq.out, hnd]; unfold Giv.okB; rw [Hm.out]; simp; omega
end Go.Proofs.Ytpahbpgkmebieaa
