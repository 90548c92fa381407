/- Contracts of functions of the program and of the reference, and plain facts: a part of a proof. Own text. -/
import Derived.Test.YtfhcofljlkihoaaGreatDoorJa
import Derived.OwnWalk
import Derived.Test.YtfhcofljlkihoaaGreatDoorShelf
import Derived.Test.YtfhcofljlkihoaaGreatDoorRows
import Derived.ProofKit
import Derived.Deep.Slices
import Derived.Deep.Strs
import Derived.OpenShut
import Derived.SizedLaws
set_option linter.unusedVariables false
set_option linter.unusedSimpArgs false
set_option linter.unusedSectionVars false
namespace Go.Proofs.YtfhcofljlkihoaaGreatDoor
open Go.RowKit
set_option maxHeartbeats 400000
set_option maxRecDepth 100000

theorem band_self (s : Int) (h0 : 0 ≤ s) (h1 : s ≤ 31) (i : Nat) (hi : hasB s i = true) : (band s s == 0) = false := by
  have key : ∀ t : Fin 32, (band t.val t.val == 0) = true → t.val = 0 := by decide
  obtain ⟨n, rfl⟩ := Int.eq_ofNat_of_zero_le h0
  cases e : (band (n : Int) n == 0)
  · rfl
  · have := key ⟨n, by omega⟩ e
    have h0 : n = 0 := this
    subst h0
    have : hasB 0 i = false := by
      unfold hasB band
      have : bits BinOp.and IntKind.i64 0 (2 ^ i) = 0 := by simp [bits]; rfl
      simp [this]
    rw [show ((0 : Nat) : Int) = 0 from rfl, this] at hi
    cases hi
/-- A sign's worn signs have the sign itself. -/
theorem worn_self {w0 w1 w2 w3 w4 : Int} (h : okW w0 w1 w2 w3 w4 = true) {s : Int} (h0 : 0 ≤ s) (h1 : s < 5) : mis (g5 w0 w1 w2 w3 w4 s) (g5 w0 w1 w2 w3 w4 s) = 0 := by
  simp only [okW, wrB, Bool.and_eq_true, decide_eq_true_eq] at h
  obtain ⟨⟨⟨⟨⟨⟨a0, b0⟩, c0⟩, ⟨a1, b1⟩, c1⟩, ⟨a2, b2⟩, c2⟩, ⟨a3, b3⟩, c3⟩, ⟨a4, b4⟩, c4⟩ := h
  rcases (by omega : s = 0 ∨ s = 1 ∨ s = 2 ∨ s = 3 ∨ s = 4) with rfl | rfl | rfl | rfl | rfl
  · exact mis_no (band_self w0 a0 b0 0 c0)
  · exact mis_no (band_self w1 a1 b1 1 c1)
  · exact mis_no (band_self w2 a2 b2 2 c2)
  · exact mis_no (band_self w3 a3 b3 3 c3)
  · exact mis_no (band_self w4 a4 b4 4 c4)
theorem apartB_eq {w0 w1 w2 w3 w4 p a0 a1 a2 a3 a4 a5 b0 b1 b2 b3 b4 b5 : Int} (h : okW w0 w1 w2 w3 w4 = true) (hp : 0 ≤ p) (ha0 : 0 ≤ a0) (ka0 : a0 < 5) (ha1 : 0 ≤ a1) (ka1 : a1 < 5) (ha2 : 0 ≤ a2) (ka2 : a2 < 5) (ha3 : 0 ≤ a3) (ka3 : a3 < 5) (ha4 : 0 ≤ a4) (ka4 : a4 < 5) (ha5 : 0 ≤ a5) (ka5 : a5 < 5) : apartB w0 w1 w2 w3 w4 p a0 a1 a2 a3 a4 a5 b0 b1 b2 b3 b4 b5 = decide (2 * p < wdist w0 w1 w2 w3 w4 a0 a1 a2 a3 a4 a5 b0 b1 b2 b3 b4 b5) := by
  unfold apartB
  cases hs : same6 a0 a1 a2 a3 a4 a5 b0 b1 b2 b3 b4 b5
  · rfl
  · obtain ⟨rfl, rfl, rfl, rfl, rfl, rfl⟩ := (same6_iff _ _ _ _ _ _ _ _ _ _ _ _).1 hs
    have : wdist w0 w1 w2 w3 w4 a0 a1 a2 a3 a4 a5 a0 a1 a2 a3 a4 a5 = 0 := by
      unfold wdist dist6
      rw [worn_self h ha0 ka0, worn_self h ha1 ka1, worn_self h ha2 ka2, worn_self h ha3 ka3, worn_self h ha4 ka4, worn_self h ha5 ka5]; rfl
    rw [this]
    symm
    simp; omega
/-- Near, by distance. -/
def nearD (w0 w1 w2 w3 w4 p m0 m1 m2 m3 m4 m5 : Int) (gs : List Giv) : Bool := gs.any fun g => decide (wdist w0 w1 w2 w3 w4 g.m0 g.m1 g.m2 g.m3 g.m4 g.m5 m0 m1 m2 m3 m4 m5 ≤ 2 * p)
theorem near_eq {w0 w1 w2 w3 w4 p m0 m1 m2 m3 m4 m5 : Int} {gs : List Giv} (h : okW w0 w1 w2 w3 w4 = true) (hp : 0 ≤ p) (hok : ∀ g ∈ gs, g.ok) : nearB w0 w1 w2 w3 w4 p m0 m1 m2 m3 m4 m5 gs = nearD w0 w1 w2 w3 w4 p m0 m1 m2 m3 m4 m5 gs := by
  unfold nearB nearD
  induction gs with
  | nil => rfl
  | cons g gs ih =>
    rw [List.any_cons, List.any_cons, ih fun x hx => hok x (List.mem_cons_of_mem _ hx)]
    obtain ⟨⟨p0, q0⟩, ⟨p1, q1⟩, ⟨p2, q2⟩, ⟨p3, q3⟩, ⟨p4, q4⟩, ⟨p5, q5⟩⟩ := hok g (List.mem_cons_self ..)
    rw [apartB_eq h hp p0 q0 p1 q1 p2 q2 p3 q3 p4 q4 p5 q5]
    congr 1
    by_cases c : 2 * p < wdist w0 w1 w2 w3 w4 g.m0 g.m1 g.m2 g.m3 g.m4 g.m5 m0 m1 m2 m3 m4 m5
    · simp [c]
    · simp [c]; omega

theorem refCheckWear_yes (a0 a1 a2 a3 a4 : Int) (w : World) (h : okW a0 a1 a2 a3 a4 = true) : Calls Tryz.prog 33 #[.agg #[.int .i64 a0, .int .i64 a1, .int .i64 a2, .int .i64 a3, .int .i64 a4]] w fun e w' => e = .returned (.int .i64 0) ∧ Below w.heap.size w w' :=
  (refCheckWear_any _ _ _ _ _ w).mono fun e w' g => ⟨by rw [g.1, err_t _ h], g.2⟩
theorem refCheckWear_no (a0 a1 a2 a3 a4 : Int) (w : World) (h : okW a0 a1 a2 a3 a4 = false) : Calls Tryz.prog 33 #[.agg #[.int .i64 a0, .int .i64 a1, .int .i64 a2, .int .i64 a3, .int .i64 a4]] w fun e w' => e = .returned (.int .i64 11) ∧ Below w.heap.size w w' :=
  (refCheckWear_any _ _ _ _ _ w).mono fun e w' g => ⟨by rw [g.1, err_f _ (by rw [h]; simp)], g.2⟩
theorem refCheckMark_yes (a0 a1 a2 a3 a4 a5 : Int) (w : World) (h : okM a0 a1 a2 a3 a4 a5 = true) : Calls Tryz.prog 35 #[.agg #[.int .i64 a0, .int .i64 a1, .int .i64 a2, .int .i64 a3, .int .i64 a4, .int .i64 a5]] w fun e w' => e = .returned (.int .i64 0) ∧ Below w.heap.size w w' :=
  (refCheckMark_any _ _ _ _ _ _ w).mono fun e w' g => ⟨by rw [g.1, err_t _ h], g.2⟩
theorem refCheckMark_no (a0 a1 a2 a3 a4 a5 : Int) (w : World) (h : okM a0 a1 a2 a3 a4 a5 = false) : Calls Tryz.prog 35 #[.agg #[.int .i64 a0, .int .i64 a1, .int .i64 a2, .int .i64 a3, .int .i64 a4, .int .i64 a5]] w fun e w' => e = .returned (.int .i64 10) ∧ Below w.heap.size w w' :=
  (refCheckMark_any _ _ _ _ _ _ w).mono fun e w' g => ⟨by rw [g.1, err_f _ (by rw [h]; simp)], g.2⟩

theorem refCheck_any (w0 w1 w2 w3 w4 F : Int) (A : Option Addr) (n c : Nat) (gs : List Giv) (w : World) (hg : Gs w A n gs) :
    Calls Tryz.prog 12 #[.agg #[.int .i64 w0, .int .i64 w1, .int .i64 w2, .int .i64 w3, .int .i64 w4, .int .i64 F, .slice A n c]] w fun e w' => e = .returned (.int .i64 (err (okB w0 w1 w2 w3 w4 F gs) 13)) ∧ Below w.heap.size w w' := by
  have hn := hg.small
  have Hl : Hid (n = gs.length) := Lib.hid hg.len
  go_enter Tryz.func12, Tryz.ntmps12
  go_wp2_with fail
  generalize hW : (World.alloc _ _) = W
  have HW : Hid (Below w.heap.size w W) := Lib.hid (by subst hW; go_grown)
  have hs : w.heap.size < W.heap.size := by subst hW; simp
  have cm : ∀ j, W.cell? ⟨w.heap.size, j, none⟩ = [Value.int .i64 w0, .int .i64 w1, .int .i64 w2, .int .i64 w3, .int .i64 w4, .int .i64 F, .slice A n c][j]? := by subst hW; intro j; simp [go_sem]
  clear hW
  cases hw : okW w0 w1 w2 w3 w4
  · refine (refCheckWear_no w0 w1 w2 w3 w4 W hw).mono ?_
    rintro e x1 ⟨rfl, hb1⟩
    obtain ⟨z, rfl⟩ := below_grow hb1
    have Hw := Lib.hid hw
    clear hw
    go_wp2
    go_ret
    refine ⟨congrArg (fun v => Ending.returned (Value.int .i64 v)) ?_, up HW.out (grow_below W z)⟩
    rw [err_f]; unfold okB; rw [Hw.out]; simp
  refine (refCheckWear_yes w0 w1 w2 w3 w4 W hw).mono ?_
  rintro e x1 ⟨rfl, hb1⟩
  obtain ⟨z0, rfl⟩ := below_grow hb1
  have Hw := Lib.hid hw
  clear hw hb1
  by_cases hF : 0 ≤ F ∧ F ≤ 2
  rotate_left
  · go_wp2_with (go_at_call 34; refine (in_dec _ _ _ _).mono ?_; rintro e x1 (⟨rfl, hi, rfl⟩ | ⟨rfl, hi, rfl⟩))
    · exact absurd hi hF
    · go_ret
      refine ⟨congrArg (fun v => Ending.returned (Value.int .i64 v)) ?_, up HW.out (grow_below W z0)⟩
      rw [err_f]; unfold okB; simp; intros; omega
  obtain ⟨hF0, hF2⟩ := hF
  by_cases h40 : 40 < n
  · go_wp2_with (go_at_call 34; refine (in_dec _ _ _ _).mono ?_; rintro e x1 (⟨rfl, hi, rfl⟩ | ⟨rfl, hi, rfl⟩))
    · go_ret
      refine ⟨congrArg (fun v => Ending.returned (Value.int .i64 v)) ?_, up HW.out (grow_below W z0)⟩
      rw [err_f]; unfold okB; rw [← Hl.out]; simp; intros; omega
    · exact absurd ⟨hF0, hF2⟩ hi
  go_wp2_with (go_at_call 34; refine (in_dec _ _ _ _).mono ?_; rintro e x1 (⟨rfl, hi, rfl⟩ | ⟨rfl, hi, rfl⟩))
  rotate_left
  · exact absurd ⟨hF0, hF2⟩ hi
  clear hi
  have hg1 := hg.keep HW.out
  go_loopw [3] (fun i wr => ∃ (k : Nat) (z : Gr), k ≤ n ∧ i = .int .i64 k ∧ wr = grow W z ∧ allK (okAt w0 w1 w2 w3 w4 F gs) k = true) (fun i _ => n - (intOf i).toNat)
  case atStart => exact ⟨0, z0, by omega, rfl, rfl, rfl⟩
  case round =>
    obtain ⟨k, z, hk, rfl, rfl, hall⟩ := hrel
    have e1 : w.heap.size < W.heap.size + z.blocks.size := by omega
    have e3 : w.heap.size < W.heap.size + z.blocks.size + 1 := by omega
    have hsz : w.heap.size < (grow W z).heap.size := by simp; omega
    by_cases hlt : k < n
    rotate_left
    · obtain rfl : k = n := by omega
      go_wp2
      go_ret
      refine ⟨congrArg (fun v => Ending.returned (Value.int .i64 v)) ?_, up HW.out (grow_below W z)⟩
      rw [err_t]; unfold okB; rw [Hw.out, ← Hl.out, hall]; simp; omega
    have hkl : k < gs.length := by rw [← Hl.out]; exact hlt
    have hga : gs[k]? = some gs[k] := List.getElem?_eq_getElem hkl
    have Hat := Lib.hid (okAt_some (w0 := w0) (w1 := w1) (w2 := w2) (w3 := w3) (w4 := w4) (F := F) hga)
    have Hno := Lib.hid (fun h => allK_no (okAt w0 w1 w2 w3 w4 F gs) k h gs.length hkl)
    have hok := ok_take hall
    have hgt := hg1.take k hk
    obtain ⟨b, o, rfl, hb, hc⟩ := hg1.get k hkl
    have Hg1 := Lib.hid hg1
    obtain ⟨c0, c1, c2, c3, c4, c5, c6⟩ := hc
    have Hall := Lib.hid hall
    generalize gs[k] = g at *
    have Hgt := Lib.hid hgt
    have Hok := Lib.hid hok
    have Hga := Lib.hid hga
    clear hall hga hgt hok hg1
    have fin : ∀ (x1 : World), Below W.heap.size W x1 → okAt w0 w1 w2 w3 w4 F gs k = false → Ending.returned (Value.int .i64 13) = Ending.returned (Value.int .i64 (err (okB w0 w1 w2 w3 w4 F gs) 13)) ∧ Below w.heap.size w x1 := fun y hy h =>
      ⟨by rw [err_f]; unfold okB; rw [Hno.out h]; simp, up HW.out hy⟩
    have Fin := Lib.hid fin
    clear fin
    have e5 : b < W.heap.size + z.blocks.size := by omega
    by_cases hrg : 1 ≤ g.o ∧ g.o ≤ 99
    rotate_left
    · have C2 := Lib.hid hrg
      clear hrg
      go_wp2
      refine wp_region_grow (by kernel_rfl) (by kernel_rfl) ?_
      repeat (go_big_quiet_step ((go_at_call 34; exact quiet_grow rfl (in_no _ _ _ _ C2.out))))
      refine wpQuiet_nil ?_
      intro z'
      go_wp2
      go_ret
      exact Fin.out _ (up (grow_below W z) (up (up_alloc _ _) (grow_below _ _))) (by rw [Hat.out]; simp; intros; have := C2.out; omega)
    cases hm : okM g.m0 g.m1 g.m2 g.m3 g.m4 g.m5
    · have Hm := Lib.hid hm
      clear hm
      go_wp2
      refine wp_region_grow (by kernel_rfl) (by kernel_rfl) ?_
      repeat (go_big_quiet_step ((first | (go_at_call 34; exact quiet_grow rfl (in_yes _ _ _ _ hrg)) | (go_at_call 35; exact quiet_grow rfl (refCheckMark_no _ _ _ _ _ _ _ Hm.out)))))
      refine wpQuiet_nil ?_
      intro z'
      go_wp2
      go_ret
      exact Fin.out _ (up (grow_below W z) (up (up_alloc _ _) (grow_below _ _))) (by rw [Hat.out]; unfold Giv.okB; rw [Hm.out]; simp)
    have Hm := Lib.hid hm
    obtain ⟨⟨p0, q0⟩, ⟨p1, q1⟩, ⟨p2, q2⟩, ⟨p3, q3⟩, ⟨p4, q4⟩, ⟨p5, q5⟩⟩ := (okM_iff _ _ _ _ _ _).1 hm
    clear hm
    have Hnq : Hid (nearB w0 w1 w2 w3 w4 F g.m0 g.m1 g.m2 g.m3 g.m4 g.m5 (gs.take k) = nearD w0 w1 w2 w3 w4 F g.m0 g.m1 g.m2 g.m3 g.m4 g.m5 (gs.take k)) := Lib.hid (near_eq Hw.out hF0 Hok.out)
    have Hprev : Hid (0 < k → W.cell? ⟨b, o + (k - 1) * 7, none⟩ = some (.int .i64 (lastO gs k))) := Lib.hid (fun h0 => by
      obtain ⟨k', rfl⟩ : ∃ k', k = k' + 1 := ⟨k - 1, by omega⟩
      obtain ⟨b', o', hbo, hb', hc'⟩ := Hg1.out.get k' (by omega)
      obtain ⟨rfl, rfl⟩ : b = b' ∧ o = o' := by simpa using hbo
      have : lastO gs (k' + 1) = (gs[k']'(by omega)).o := by show (gs.getD k' default).o = _; simp [show k' < gs.length by omega]
      rw [this]; exact hc'.c0)
    have Hl0 : Hid (¬ 0 < k → lastO gs k = 0) := Lib.hid (fun h => by obtain rfl : k = 0 := by omega
                                                                      rfl)
    generalize lastO gs k = L at *
    by_cases hlo : g.o ≤ L
    · by_cases hk0 : 0 < k
      rotate_left
      · have := Hl0.out hk0; omega
      have d0 := Hprev.out hk0
      have hk1 : decide ((0 : Int) < (k : Int)) = true := by simpa using hk0
      go_wp2
      refine wp_region_grow (by kernel_rfl) (by kernel_rfl) ?_
      repeat (go_big_quiet_step ((first | (go_at_call 34; exact quiet_grow rfl (in_yes _ _ _ _ hrg)) | (go_at_call 35; exact quiet_grow rfl (refCheckMark_yes _ _ _ _ _ _ _ Hm.out)))))
      refine wpQuiet_nil ?_
      intro z'
      go_wp2
      go_ret
      exact Fin.out _ (up (grow_below W z) (up (up_alloc _ _) (grow_below _ _))) (by rw [Hat.out]; simp; intros; omega)
    by_cases hk0 : 0 < k
    · have d0 := Hprev.out hk0
      have hk1 : decide ((0 : Int) < (k : Int)) = true := by simpa using hk0
      go_wp2
      refine wp_region_grow (by kernel_rfl) (by kernel_rfl) ?_
      repeat (go_big_quiet_step ((first | (go_at_call 34; exact quiet_grow rfl (in_yes _ _ _ _ hrg)) | (go_at_call 35; exact quiet_grow rfl (refCheckMark_yes _ _ _ _ _ _ _ Hm.out)))))
      refine wpQuiet_nil ?_
      intro z'
      go_wp2
      generalize hV : grow (World.alloc _ _) z' = V
      have HV : Hid (Below W.heap.size W V) := Lib.hid (by subst hV; exact up (grow_below W z) (up (up_alloc _ _) (grow_below _ _)))
      have v1 : w.heap.size < V.heap.size := by subst hV; simp; omega
      have v2 : W.heap.size + z.blocks.size < V.heap.size := by subst hV; simp; omega
      have v3 : b < V.heap.size := by subst hV; simp; omega
      have cv : ∀ j, V.cell? ⟨w.heap.size, j, none⟩ = [Value.int .i64 w0, .int .i64 w1, .int .i64 w2, .int .i64 w3, .int .i64 w4, .int .i64 F, .slice (some ⟨b, o, none⟩) n c][j]? := by
        intro j; rw [← cm j]; exact HV.out.cell (p := ⟨w.heap.size, j, none⟩) hs
      have cg : ∀ j, V.cell? ⟨W.heap.size + z.blocks.size, j, none⟩ = [Value.int .i64 g.o, .int .i64 g.m0, .int .i64 g.m1, .int .i64 g.m2, .int .i64 g.m3, .int .i64 g.m4, .int .i64 g.m5][j]? := by
        subst hV; intro j
        rw [grow_cell_lt _ _ _ _ (by simp), World.cell?_alloc_at _ _ _ _ (by simp)]; simp
      have HG := Lib.hid (Hgt.out.keep HV.out)
      clear hV hk1 hk0
      go_loopw [5] (fun j wr => ∃ (q : Nat) (y : Gr), q ≤ k ∧ j = .int .i64 q ∧ wr = grow V y ∧ nearD w0 w1 w2 w3 w4 F g.m0 g.m1 g.m2 g.m3 g.m4 g.m5 ((gs.take k).take q) = false) (fun j _ => k - (intOf j).toNat)
      case atStart => exact ⟨0, ⟨#[], V.drawn⟩, by omega, rfl, by simp [grow], rfl⟩
      case round =>
        obtain ⟨q, y, hq, rfl, rfl, hnd⟩ := hrel
        have Hnd := Lib.hid hnd
        clear hnd
        have f1 : w.heap.size < V.heap.size + y.blocks.size := by omega
        have f2 : w.heap.size < (grow V y).heap.size := by simp; omega
        have f3 : W.heap.size + z.blocks.size < (grow V y).heap.size := by simp; omega
        have f4 : b < (grow V y).heap.size := by simp; omega
        by_cases hqk : q < k
        · have hql : q < (gs.take k).length := by rw [← HG.out.len]; exact hqk
          have Hsn : Hid ((gs.take k).take (q + 1) = (gs.take k).take q ++ [(gs.take k)[q]]) := Lib.hid (List.take_succ_eq_append_getElem hql)
          have hmem := List.getElem_mem hql
          obtain ⟨b', o', hbo, hb', hc'⟩ := HG.out.get q hql
          obtain ⟨rfl, rfl⟩ : b = b' ∧ o = o' := by simpa using hbo
          generalize (gs.take k)[q] = x at *
          have Hmem := Lib.hid hmem
          obtain ⟨⟨r0, s0⟩, ⟨r1, s1⟩, ⟨r2, s2⟩, ⟨r3, s3⟩, ⟨r4, s4⟩, ⟨r5, s5⟩⟩ := Hok.out x hmem
          obtain ⟨x0, x1, x2, x3, x4, x5, x6⟩ := hc'
          clear hmem hbo
          by_cases hle : wdist w0 w1 w2 w3 w4 x.m0 x.m1 x.m2 x.m3 x.m4 x.m5 g.m0 g.m1 g.m2 g.m3 g.m4 g.m5 ≤ 2 * F
          · go_wp2
            refine wp_region_grow (by kernel_rfl) (by kernel_rfl) ?_
            repeat (go_big_quiet_step ((go_at_call 36; exact quiet_grow rfl (refDistance_any _ _ _ _ _ _ _ _ _ _ _ _ _ _ _ _ _ _ (by assumption) (by assumption) (by assumption) (by assumption) (by assumption) (by assumption) (by assumption) (by assumption) (by assumption) (by assumption) (by assumption) (by assumption) (by assumption) (by assumption) (by assumption) (by assumption) (by assumption) (by assumption) (by assumption) (by assumption) (by assumption) (by assumption) (by assumption) (by assumption) ))))
            refine wpQuiet_nil ?_
            intro y'
            go_wp2
            go_ret
            refine Fin.out _ (up HV.out (up (grow_below V y) (grow_below _ y'))) ?_
            rw [Hat.out, Hnq.out, show nearD w0 w1 w2 w3 w4 F g.m0 g.m1 g.m2 g.m3 g.m4 g.m5 (gs.take k) = true from List.any_eq_true.2 ⟨x, Hmem.out, by simpa using hle⟩]; simp
          · go_wp2
            refine wp_region_grow (by kernel_rfl) (by kernel_rfl) ?_
            repeat (go_big_quiet_step ((go_at_call 36; exact quiet_grow rfl (refDistance_any _ _ _ _ _ _ _ _ _ _ _ _ _ _ _ _ _ _ (by assumption) (by assumption) (by assumption) (by assumption) (by assumption) (by assumption) (by assumption) (by assumption) (by assumption) (by assumption) (by assumption) (by assumption) (by assumption) (by assumption) (by assumption) (by assumption) (by assumption) (by assumption) (by assumption) (by assumption) (by assumption) (by assumption) (by assumption) (by assumption) ))))
            refine wpQuiet_nil ?_
            intro y'
            obtain ⟨v, hv⟩ := grow_grow V y y'
            rw [hv]
            clear hv
            go_wp2
            refine ⟨⟨q + 1, v, by omega, by go_num, rfl, ?_⟩, by simp [intOf]; omega⟩
            rw [Hsn.out]
            unfold nearD
            rw [List.any_append, show ((gs.take k).take q).any (fun g_1 => decide (wdist w0 w1 w2 w3 w4 g_1.m0 g_1.m1 g_1.m2 g_1.m3 g_1.m4 g_1.m5 g.m0 g.m1 g.m2 g.m3 g.m4 g.m5 ≤ 2 * F)) = false from Hnd.out]
            simpa using hle
        · obtain rfl : q = k := by omega
          go_wp2
          obtain ⟨v, hv⟩ := below_grow (up HV.out (grow_below V y))
          refine ⟨⟨q + 1, v, by omega, by go_num, hv, ?_⟩, by simp [intOf]; omega⟩
          show (allK (okAt w0 w1 w2 w3 w4 F gs) q && okAt w0 w1 w2 w3 w4 F gs q) = true
          have hnd := Hnd.out
          rw [List.take_of_length_le (by simp; omega)] at hnd
          rw [Hall.out, Hat.out, Hnq.out, hnd]; unfold Giv.okB; rw [Hm.out]; simp; omega
    · have hk1 : decide ((0 : Int) < (k : Int)) = false := by simpa using hk0
      go_wp2
      refine wp_region_grow (by kernel_rfl) (by kernel_rfl) ?_
      repeat (go_big_quiet_step ((first | (go_at_call 34; exact quiet_grow rfl (in_yes _ _ _ _ hrg)) | (go_at_call 35; exact quiet_grow rfl (refCheckMark_yes _ _ _ _ _ _ _ Hm.out)))))
      refine wpQuiet_nil ?_
      intro z'
      go_wp2
      generalize hV : grow (World.alloc _ _) z' = V
      have HV : Hid (Below W.heap.size W V) := Lib.hid (by subst hV; exact up (grow_below W z) (up (up_alloc _ _) (grow_below _ _)))
      have v1 : w.heap.size < V.heap.size := by subst hV; simp; omega
      have v2 : W.heap.size + z.blocks.size < V.heap.size := by subst hV; simp; omega
      have v3 : b < V.heap.size := by subst hV; simp; omega
      have cv : ∀ j, V.cell? ⟨w.heap.size, j, none⟩ = [Value.int .i64 w0, .int .i64 w1, .int .i64 w2, .int .i64 w3, .int .i64 w4, .int .i64 F, .slice (some ⟨b, o, none⟩) n c][j]? := by
        intro j; rw [← cm j]; exact HV.out.cell (p := ⟨w.heap.size, j, none⟩) hs
      have cg : ∀ j, V.cell? ⟨W.heap.size + z.blocks.size, j, none⟩ = [Value.int .i64 g.o, .int .i64 g.m0, .int .i64 g.m1, .int .i64 g.m2, .int .i64 g.m3, .int .i64 g.m4, .int .i64 g.m5][j]? := by
        subst hV; intro j
        rw [grow_cell_lt _ _ _ _ (by simp), World.cell?_alloc_at _ _ _ _ (by simp)]; simp
      have HG := Lib.hid (Hgt.out.keep HV.out)
      clear hV hk1 hk0
      go_loopw [5] (fun j wr => ∃ (q : Nat) (y : Gr), q ≤ k ∧ j = .int .i64 q ∧ wr = grow V y ∧ nearD w0 w1 w2 w3 w4 F g.m0 g.m1 g.m2 g.m3 g.m4 g.m5 ((gs.take k).take q) = false) (fun j _ => k - (intOf j).toNat)
      case atStart => exact ⟨0, ⟨#[], V.drawn⟩, by omega, rfl, by simp [grow], rfl⟩
      case round =>
        obtain ⟨q, y, hq, rfl, rfl, hnd⟩ := hrel
        have Hnd := Lib.hid hnd
        clear hnd
        have f1 : w.heap.size < V.heap.size + y.blocks.size := by omega
        have f2 : w.heap.size < (grow V y).heap.size := by simp; omega
        have f3 : W.heap.size + z.blocks.size < (grow V y).heap.size := by simp; omega
        have f4 : b < (grow V y).heap.size := by simp; omega
        by_cases hqk : q < k
        · have hql : q < (gs.take k).length := by rw [← HG.out.len]; exact hqk
          have Hsn : Hid ((gs.take k).take (q + 1) = (gs.take k).take q ++ [(gs.take k)[q]]) := Lib.hid (List.take_succ_eq_append_getElem hql)
          have hmem := List.getElem_mem hql
          obtain ⟨b', o', hbo, hb', hc'⟩ := HG.out.get q hql
          obtain ⟨rfl, rfl⟩ : b = b' ∧ o = o' := by simpa using hbo
          generalize (gs.take k)[q] = x at *
          have Hmem := Lib.hid hmem
          obtain ⟨⟨r0, s0⟩, ⟨r1, s1⟩, ⟨r2, s2⟩, ⟨r3, s3⟩, ⟨r4, s4⟩, ⟨r5, s5⟩⟩ := Hok.out x hmem
          obtain ⟨x0, x1, x2, x3, x4, x5, x6⟩ := hc'
          clear hmem hbo
          by_cases hle : wdist w0 w1 w2 w3 w4 x.m0 x.m1 x.m2 x.m3 x.m4 x.m5 g.m0 g.m1 g.m2 g.m3 g.m4 g.m5 ≤ 2 * F
          · go_wp2
            refine wp_region_grow (by kernel_rfl) (by kernel_rfl) ?_
            repeat (go_big_quiet_step ((go_at_call 36; exact quiet_grow rfl (refDistance_any _ _ _ _ _ _ _ _ _ _ _ _ _ _ _ _ _ _ (by assumption) (by assumption) (by assumption) (by assumption) (by assumption) (by assumption) (by assumption) (by assumption) (by assumption) (by assumption) (by assumption) (by assumption) (by assumption) (by assumption) (by assumption) (by assumption) (by assumption) (by assumption) (by assumption) (by assumption) (by assumption) (by assumption) (by assumption) (by assumption) ))))
            refine wpQuiet_nil ?_
            intro y'
            go_wp2
            go_ret
            refine Fin.out _ (up HV.out (up (grow_below V y) (grow_below _ y'))) ?_
            rw [Hat.out, Hnq.out, show nearD w0 w1 w2 w3 w4 F g.m0 g.m1 g.m2 g.m3 g.m4 g.m5 (gs.take k) = true from List.any_eq_true.2 ⟨x, Hmem.out, by simpa using hle⟩]; simp
          · go_wp2
            refine wp_region_grow (by kernel_rfl) (by kernel_rfl) ?_
            repeat (go_big_quiet_step ((go_at_call 36; exact quiet_grow rfl (refDistance_any _ _ _ _ _ _ _ _ _ _ _ _ _ _ _ _ _ _ (by assumption) (by assumption) (by assumption) (by assumption) (by assumption) (by assumption) (by assumption) (by assumption) (by assumption) (by assumption) (by assumption) (by assumption) (by assumption) (by assumption) (by assumption) (by assumption) (by assumption) (by assumption) (by assumption) (by assumption) (by assumption) (by assumption) (by assumption) (by assumption) ))))
            refine wpQuiet_nil ?_
            intro y'
            obtain ⟨v, hv⟩ := grow_grow V y y'
            rw [hv]
            clear hv
            go_wp2
            refine ⟨⟨q + 1, v, by omega, by go_num, rfl, ?_⟩, by simp [intOf]; omega⟩
            rw [Hsn.out]
            unfold nearD
            rw [List.any_append, show ((gs.take k).take q).any (fun g_1 => decide (wdist w0 w1 w2 w3 w4 g_1.m0 g_1.m1 g_1.m2 g_1.m3 g_1.m4 g_1.m5 g.m0 g.m1 g.m2 g.m3 g.m4 g.m5 ≤ 2 * F)) = false from Hnd.out]
            simpa using hle
        · obtain rfl : q = k := by omega
          go_wp2
          obtain ⟨v, hv⟩ := below_grow (up HV.out (grow_below V y))
          refine ⟨⟨q + 1, v, by omega, by go_num, hv, ?_⟩, by simp [intOf]; omega⟩
          show (allK (okAt w0 w1 w2 w3 w4 F gs) q && okAt w0 w1 w2 w3 w4 F gs q) = true
          have hnd := Hnd.out
          rw [List.take_of_length_le (by simp; omega)] at hnd
          rw [Hall.out, Hat.out, Hnq.out, hnd]; unfold Giv.okB; rw [Hm.out]; simp; omega
end Go.Proofs.YtfhcofljlkihoaaGreatDoor

namespace Go.Proofs.YtfhcofljlkihoaaGreatDoor
open Go.RowKit
set_option maxHeartbeats 400000
set_option maxRecDepth 100000

/-- Numbers as values; the owners of marks. -/
def ints (l : List Int) : List Value := l.map (Value.int .i64)
def own (gs : List Giv) : List Int := gs.map Giv.o
theorem ints_snoc (l : List Int) (x : Int) : ints (l ++ [x]) = ints l ++ [.int .i64 x] := by simp [ints]
theorem own_snoc (l : List Giv) (x : Giv) : own (l ++ [x]) = own l ++ [x.o] := by simp [own]
/-- A slice holds these numbers. -/
structure Is (w : World) (A : Option Addr) (n : Nat) (l : List Int) : Prop where
  len : n = l.length
  small : n ≤ 9223372036854775807
  get : ∀ k (h : k < l.length), ∃ b o, A = some ⟨b, o, none⟩ ∧ b < w.heap.size ∧ w.cell? ⟨b, o + k, none⟩ = some (.int .i64 l[k])
theorem Is.keep {w w' : World} {A : Option Addr} {n : Nat} {l : List Int} (h : Is w A n l) (hb : Below w.heap.size w w') : Is w' A n l :=
  ⟨h.len, h.small, fun k hk => by
    obtain ⟨b, o, e, hlt, hg⟩ := h.get k hk
    exact ⟨b, o, e, by have := hb.size; omega, (hb.cell (p := ⟨b, o + k, none⟩) hlt).trans hg⟩⟩
/-- A function hands back a slice of its own with these numbers. -/
theorem Is.of_own {w : World} {base n : Nat} {v : Value} {l : List Int} (h : w.ownsRow base 3 1 v n (ints l)) : ∃ A c, v = .slice A n c ∧ n ≤ c ∧ Is w A n l := by
  have hl : n = l.length := by have := h.1; simp [ints] at this; omega
  rcases h.2 with ⟨rfl, rfl⟩ | ⟨g, cap, cur, rfl, _, hg, hnc, hcm, hcs, htk⟩
  · exact ⟨none, 0, rfl, Nat.le_refl _, hl, by omega, fun k hk => by omega⟩
  · refine ⟨some ⟨g, 0, none⟩, cap, rfl, hnc, hl, by unfold maxLen at hcm; omega, fun k hk => ⟨g, 0, rfl, (Array.getElem?_eq_some_iff.1 hg).1, ?_⟩⟩
    have := h.cells (g := g) rfl k (.int .i64 l[k]) (by simp [ints, hk])
    rw [Nat.zero_add]; rw [Addr.add_lit] at this; simpa using this

theorem info3 : (Tryz.prog.info? 3).map (fun i => (i.zero, i.size, i.bytes)) = some (some (.int .i64 0), 1, 8) := by kernel_rfl

theorem ownersOf_any (A : Option Addr) (n c : Nat) (gs : List Giv) (w : World) (hg : Gs w A n gs) (hr : n ≤ 17592186044416) :
    Calls Tryz.prog 44 #[.slice A n c] w fun e w' => ∃ v, e = .returned v ∧ w'.ownsRow w.heap.size 3 1 v n (ints (own gs)) ∧ Below w.heap.size w w' := by
  have hn := hg.small
  have Hl : Hid (n = gs.length) := Lib.hid hg.len
  obtain ⟨i0, hi, hz0, hz1, hz2⟩ := info_parts info3
  have HI := Lib.hid hi
  have HZ0 := Lib.hid hz0
  have HZ1 := Lib.hid hz1
  have HZ2 := Lib.hid hz2
  clear hi hz0 hz1 hz2
  go_enter Tryz.func44, Tryz.ntmps44
  go_wp2
  go_loopw [3, 8] (fun v i wr => ∃ (k : Nat) (z : Gr), k ≤ n ∧ i = .int .i64 k ∧ wr = grow w z ∧ (grow w z).ownsRow w.heap.size 3 1 v k (ints (own (gs.take k)))) (fun _ i _ => n - (intOf i).toNat)
  case atStart => exact ⟨0, ⟨#[], w.drawn⟩, by omega, rfl, by simp [grow], World.ownsRow_nil _ _ _ _⟩
  case round =>
    obtain ⟨k, z, hk, rfl, rfl, hown⟩ := hrel
    have Hown := Lib.hid hown; clear hown
    by_cases hlt : k < n
    · have hkl : k < gs.length := by rw [← Hl.out]; exact hlt
      have Htk : Hid (ints (own (gs.take (k + 1))) = ints (own (gs.take k)) ++ [.int .i64 gs[k].o]) := Lib.hid (by rw [List.take_succ_eq_append_getElem hkl, own_snoc, ints_snoc])
      generalize hX : ints (own (gs.take k)) = X at *
      have HX := Lib.hid hX; clear hX
      obtain ⟨b, o, rfl, hb, hc⟩ := hg.get k hkl
      obtain ⟨c0, c1, c2, c3, c4, c5, c6⟩ := hc
      generalize gs[k] = g at *
      have e5 : b < w.heap.size + z.blocks.size := by omega
      go_wp2_with (at_builtin; refine wpList_append_own _ rfl _ _ 37 rfl w.heap.size 3 i0 (.int .i64 0) 1 8 Tryz.underlying37 HI.out HZ0.out HZ1.out HZ2.out rfl (by decide) _ _ _ rfl ((Hown.out.alloc _).alloc _) ⟨w.heap.size + z.blocks.size + 1, 0, none⟩ 1 1 [.int .i64 g.o] rfl rfl ?c1 ?c2 ?c3 ?c4 ?c5 ?_)
      case c1 =>
        intro j u hu
        cases j with
        | zero => simp at hu; subst hu; simp [Addr.add_lit, go_sem]
        | succ j => simp at hu
      case c2 => intro u hu; simp at hu; subst hu; rfl
      case c3 => unfold maxLen; omega
      case c4 => omega
      case c5 => simp; omega
      intro v' w' hown' hgr _
      have hbel : Below w.heap.size w w' := (up (grow_below w z) (up (up_alloc _ _) (up_alloc _ _))).grown hgr (by simp; omega) (fun q hq => (Hown.out.lt q hq).1)
      have Hown' := Lib.hid hown'
      clear hown' hgr
      obtain ⟨y, rfl⟩ := below_grow hbel
      go_wp2
      refine ⟨⟨k + 1, y, by omega, by go_num, rfl, ?_⟩, by simp [intOf]; omega⟩
      rw [Htk.out]; exact Hown'.out
    · obtain rfl : k = n := by omega
      go_wp2
      go_ret
      refine ⟨_, rfl, ?_, grow_below w z⟩
      have := Hown.out
      rw [List.take_of_length_le (by rw [← Hl.out]; exact Nat.le_refl _)] at this
      exact this
end Go.Proofs.YtfhcofljlkihoaaGreatDoor

namespace Go.Proofs.YtfhcofljlkihoaaGreatDoor
open Go.RowKit
set_option maxHeartbeats 400000
set_option maxRecDepth 100000

/-- The index of a number from k on, -1 if there is none. -/
def pos (l : List Int) (x : Int) (k : Nat) : Int :=
  match l with
  | [] => -1
  | y :: r => if (y == x) = true then k else pos r x (k + 1)
theorem pos_yes {y x : Int} (r : List Int) (k : Nat) (h : y = x) : pos (y :: r) x k = k := by unfold pos; rw [if_pos (by simp [h])]
theorem pos_no {y x : Int} (r : List Int) (k : Nat) (h : y ≠ x) : pos (y :: r) x k = pos r x (k + 1) := by rw [pos, if_neg (by simp [h])]

/-- The first that is not 0. -/
def firstE : List Int → Int
  | [] => 0
  | y :: r => if (y != 0) = true then y else firstE r
theorem firstE_yes {y : Int} (r : List Int) (h : (y != 0) = true) : firstE (y :: r) = y := by unfold firstE; rw [if_pos h]
theorem firstE_no {y : Int} (r : List Int) (h : (y != 0) = false) : firstE (y :: r) = firstE r := by rw [firstE, if_neg (by simp [h])]

theorem first_any (A : Option Addr) (n c : Nat) (l : List Int) (w : World) (hg : Is w A n l) :
    Calls Tryz.prog 42 #[.slice A n c] w fun e w' => e = .returned (.int .i64 (firstE l)) ∧ w = w' := by
  have hn := hg.small
  have Hl : Hid (n = l.length) := Lib.hid hg.len
  go_enter Tryz.func42, Tryz.ntmps42
  go_wp2
  go_loop [7] (fun i => ∃ (k : Nat), k ≤ n ∧ i = .int .i64 k ∧ firstE (l.drop k) = firstE l) (fun i => n - (intOf i).toNat)
  case atStart => exact ⟨0, by omega, rfl, rfl⟩
  case round =>
    obtain ⟨k, hk, rfl, hp⟩ := hrel
    have Hp := Lib.hid hp; clear hp
    by_cases hlt : k < n
    · have hkl : k < l.length := by rw [← Hl.out]; exact hlt
      have Hd : Hid (l.drop k = l[k] :: l.drop (k + 1)) := Lib.hid (List.drop_eq_getElem_cons hkl)
      obtain ⟨b, o, rfl, hb, hc⟩ := hg.get k hkl
      generalize l[k] = y at *
      cases hy : (y != 0)
      · have Hy := Lib.hid hy
        go_wp2
        refine ⟨⟨k + 1, by omega, by go_num, ?_⟩, by simp [intOf]; omega⟩
        rw [← Hp.out, Hd.out, firstE_no _ Hy.out]
      · have Hy := Lib.hid hy
        go_wp2
        go_ret
        refine ⟨congrArg (fun v => Ending.returned (Value.int .i64 v)) ?_, rfl⟩
        rw [← Hp.out, Hd.out, firstE_yes _ Hy.out]
    · obtain rfl : k = n := by omega
      go_wp2
      go_ret
      refine ⟨congrArg (fun v => Ending.returned (Value.int .i64 v)) ?_, rfl⟩
      rw [← Hp.out, Hl.out, List.drop_length]; rfl

/-- The same lists. -/
def sameL (a b : List Int) : Bool := a == b
theorem same_yes (A A' : Option Addr) (n c c' : Nat) (l : List Int) (w : World) (hg : Is w A n l) (hg' : Is w A' n l) :
    Calls Tryz.prog 26 #[.slice A n c, .slice A' n c'] w fun e w' => e = .returned (.bool true) ∧ Below w.heap.size w w' := by
  have hn := hg.small
  have Hl : Hid (n = l.length) := Lib.hid hg.len
  go_enter Tryz.func26, Tryz.ntmps26
  go_wp2
  go_loopw [5] (fun i wr => ∃ (k : Nat) (z : Gr), k ≤ n ∧ i = .int .i64 k ∧ wr = grow w z) (fun i _ => n - (intOf i).toNat)
  case atStart => exact ⟨0, ⟨#[], w.drawn⟩, by omega, rfl, by simp [grow]⟩
  case round =>
    obtain ⟨k, z, hk, rfl, rfl⟩ := hrel
    by_cases hlt : k < n
    · have hkl : k < l.length := by rw [← Hl.out]; exact hlt
      obtain ⟨b, o, rfl, hb, hc⟩ := hg.get k hkl
      obtain ⟨b', o', rfl, hb', hc'⟩ := hg'.get k hkl
      generalize l[k] = y at *
      have e1 : b < (grow w z).heap.size := by simp; omega
      have e2 : b' < (grow w z).heap.size := by simp; omega
      go_wp2
      refine wp_region_grow (by kernel_rfl) (by kernel_rfl) ?_
      repeat (go_big_quiet_step ((fail)))
      refine wpQuiet_nil ?_
      intro z'
      obtain ⟨x, hx⟩ := grow_grow w z z'
      rw [hx]
      clear hx
      go_wp2
      exact ⟨⟨k + 1, x, by omega, by go_num, rfl⟩, by simp [intOf]; omega⟩
    · obtain rfl : k = n := by omega
      go_wp2
      go_ret
      exact ⟨rfl, grow_below w z⟩
end Go.Proofs.YtfhcofljlkihoaaGreatDoor

namespace Go.Proofs.YtfhcofljlkihoaaGreatDoor
open Go.RowKit
set_option maxHeartbeats 400000
set_option maxRecDepth 100000

theorem check_yes (w0 w1 w2 w3 w4 F : Int) (A : Option Addr) (n c : Nat) (gs : List Giv) (w : World) (hg : Gs w A n gs) (hnc : n ≤ c) (h : okB w0 w1 w2 w3 w4 F gs = true) :
    Calls Tryz.prog 10 #[.agg #[.int .i64 w0, .int .i64 w1, .int .i64 w2, .int .i64 w3, .int .i64 w4, .int .i64 F, .slice A n c]] w fun e w' => e = .returned (.int .i64 0) ∧ Below w.heap.size w w' :=
  (check_any _ _ _ _ _ _ _ _ _ _ _ hg hnc).mono fun e w' g => ⟨by rw [g.1, err_t _ h], g.2⟩
theorem check_no (w0 w1 w2 w3 w4 F : Int) (A : Option Addr) (n c : Nat) (gs : List Giv) (w : World) (hg : Gs w A n gs) (hnc : n ≤ c) (h : okB w0 w1 w2 w3 w4 F gs = false) :
    Calls Tryz.prog 10 #[.agg #[.int .i64 w0, .int .i64 w1, .int .i64 w2, .int .i64 w3, .int .i64 w4, .int .i64 F, .slice A n c]] w fun e w' => e = .returned (.int .i64 13) ∧ Below w.heap.size w w' :=
  (check_any _ _ _ _ _ _ _ _ _ _ _ hg hnc).mono fun e w' g => ⟨by rw [g.1, err_f _ (by rw [h]; simp)], g.2⟩
theorem refCheck_yes (w0 w1 w2 w3 w4 F : Int) (A : Option Addr) (n c : Nat) (gs : List Giv) (w : World) (hg : Gs w A n gs) (h : okB w0 w1 w2 w3 w4 F gs = true) :
    Calls Tryz.prog 12 #[.agg #[.int .i64 w0, .int .i64 w1, .int .i64 w2, .int .i64 w3, .int .i64 w4, .int .i64 F, .slice A n c]] w fun e w' => e = .returned (.int .i64 0) ∧ Below w.heap.size w w' :=
  (refCheck_any _ _ _ _ _ _ _ _ _ _ _ hg).mono fun e w' g => ⟨by rw [g.1, err_t _ h], g.2⟩
theorem refCheck_no (w0 w1 w2 w3 w4 F : Int) (A : Option Addr) (n c : Nat) (gs : List Giv) (w : World) (hg : Gs w A n gs) (h : okB w0 w1 w2 w3 w4 F gs = false) :
    Calls Tryz.prog 12 #[.agg #[.int .i64 w0, .int .i64 w1, .int .i64 w2, .int .i64 w3, .int .i64 w4, .int .i64 F, .slice A n c]] w fun e w' => e = .returned (.int .i64 13) ∧ Below w.heap.size w w' :=
  (refCheck_any _ _ _ _ _ _ _ _ _ _ _ hg).mono fun e w' g => ⟨by rw [g.1, err_f _ (by rw [h]; simp)], g.2⟩

theorem okB_40 {w0 w1 w2 w3 w4 F : Int} {gs : List Giv} (h : okB w0 w1 w2 w3 w4 F gs = true) : gs.length ≤ 40 := by
  simp only [okB, Bool.and_eq_true, decide_eq_true_eq] at h; exact h.1.2

/-- What is found of an owner: an index, and an error. -/
def findI (w0 w1 w2 w3 w4 F : Int) (gs : List Giv) (x : Int) : Int :=
  if okB w0 w1 w2 w3 w4 F gs = true ∧ (1 ≤ x ∧ x ≤ 99) ∧ 0 ≤ pos (own gs) x 0 then pos (own gs) x 0 else 0
def findE (w0 w1 w2 w3 w4 F : Int) (gs : List Giv) (x : Int) : Int :=
  if okB w0 w1 w2 w3 w4 F gs = true then if 1 ≤ x ∧ x ≤ 99 then if 0 ≤ pos (own gs) x 0 then 0 else 3 else 15 else 13

theorem pos_bd (l : List Int) (x : Int) : ∀ k, pos l x k = -1 ∨ ((k : Int) ≤ pos l x k ∧ pos l x k < k + l.length) := by
  induction l with
  | nil => intro k; left; rfl
  | cons y r ih =>
    intro k
    by_cases h : y = x
    · rw [pos_yes _ _ h]; right; simp; omega
    · rw [pos_no _ _ h]
      rcases ih (k + 1) with h1 | h1
      · left; exact h1
      · right; simp; omega

theorem ret_ii {a b c d : Int} (h1 : a = c) (h2 : b = d) : Ending.returned (.tuple #[.int .i64 a, .int .i64 b]) = Ending.returned (.tuple #[.int .i64 c, .int .i64 d]) := by rw [h1, h2]

end Go.Proofs.YtfhcofljlkihoaaGreatDoor

namespace Go.Proofs.YtfhcofljlkihoaaGreatDoor
open Go.RowKit
set_option maxHeartbeats 400000
set_option maxRecDepth 100000

/-- The mark that is found; zeros if none. -/
def foundM (w0 w1 w2 w3 w4 F : Int) (gs : List Giv) (x : Int) : Giv := if findE w0 w1 w2 w3 w4 F gs x = 0 then gs.getD (findI w0 w1 w2 w3 w4 F gs x).toNat default else default
def Giv.agg (g : Giv) : Value := .agg #[.int .i64 g.m0, .int .i64 g.m1, .int .i64 g.m2, .int .i64 g.m3, .int .i64 g.m4, .int .i64 g.m5]

theorem findE_cases (w0 w1 w2 w3 w4 F : Int) (gs : List Giv) (x : Int) :
    (findE w0 w1 w2 w3 w4 F gs x ≠ 0 ∧ foundM w0 w1 w2 w3 w4 F gs x = default) ∨
    (findE w0 w1 w2 w3 w4 F gs x = 0 ∧ okB w0 w1 w2 w3 w4 F gs = true ∧ (1 ≤ x ∧ x ≤ 99) ∧ ∃ k : Nat, k < gs.length ∧ findI w0 w1 w2 w3 w4 F gs x = k ∧ pos (own gs) x 0 = k ∧ foundM w0 w1 w2 w3 w4 F gs x = gs.getD k default) := by
  by_cases h : findE w0 w1 w2 w3 w4 F gs x = 0
  · right
    have h0 := h
    unfold findE at h
    by_cases h1 : okB w0 w1 w2 w3 w4 F gs = true
    · rw [if_pos h1] at h
      by_cases h2 : 1 ≤ x ∧ x ≤ 99
      · rw [if_pos h2] at h
        by_cases h3 : 0 ≤ pos (own gs) x 0
        · have hI : findI w0 w1 w2 w3 w4 F gs x = pos (own gs) x 0 := by unfold findI; rw [if_pos ⟨h1, h2, h3⟩]
          have hb := pos_bd (own gs) x 0
          have hl : (own gs).length = gs.length := by simp [own]
          obtain ⟨k, hk⟩ := Int.eq_ofNat_of_zero_le h3
          refine ⟨h0, h1, h2, k, by omega, by rw [hI, hk], hk, ?_⟩
          unfold foundM; rw [if_pos h0, hI, hk]; rfl
        · rw [if_neg h3] at h; omega
      · rw [if_neg h2] at h; omega
    · rw [if_neg h1] at h; omega
  · left; exact ⟨h, by unfold foundM; rw [if_neg h]⟩

theorem ret_gi {a c : Int} {g : Giv} (h1 : g = default) (h2 : a = c) : Ending.returned (.tuple #[.agg #[.int .i64 0, .int .i64 0, .int .i64 0, .int .i64 0, .int .i64 0, .int .i64 0], .int .i64 a]) = Ending.returned (.tuple #[g.agg, .int .i64 c]) := by
  rw [h1, h2]; rfl
theorem ret_Gi {a c : Int} {g g' : Giv} (h1 : g = g') (h2 : a = c) : Ending.returned (.tuple #[.agg #[.int .i64 g.m0, .int .i64 g.m1, .int .i64 g.m2, .int .i64 g.m3, .int .i64 g.m4, .int .i64 g.m5], .int .i64 a]) = Ending.returned (.tuple #[g'.agg, .int .i64 c]) := by
  rw [h1, h2]; rfl

/-- Six cells written, read again. -/
theorem put6 (w : World) (b : Nat) (v0 v1 v2 v3 v4 v5 : Value) (h : ∀ j, j < 6 → (w.cell? ⟨b, j, none⟩).isSome = true) : ∀ j, j < 6 →
    ((((((w.setCell ⟨b, 0, none⟩ v0).setCell ⟨b, 1, none⟩ v1).setCell ⟨b, 2, none⟩ v2).setCell ⟨b, 3, none⟩ v3).setCell ⟨b, 4, none⟩ v4).setCell ⟨b, 5, none⟩ v5).cell? ⟨b, j, none⟩ = [v0, v1, v2, v3, v4, v5][j]? := by
  intro j hj
  have := World.cell?_setCells_in b [v0, v1, v2, v3, v4, v5] 0 w (fun j hj => by rw [Nat.zero_add]; exact h j (by simpa using hj)) j (by simpa using hj)
  rw [Nat.zero_add] at this
  rw [List.getElem?_eq_getElem (by simpa using hj)]
  exact this
theorem put6_below {a w : World} {B b : Nat} (h : Below B a w) (hB : B ≤ b) (v0 v1 v2 v3 v4 v5 : Value) :
    Below B a ((((((w.setCell ⟨b, 0, none⟩ v0).setCell ⟨b, 1, none⟩ v1).setCell ⟨b, 2, none⟩ v2).setCell ⟨b, 3, none⟩ v3).setCell ⟨b, 4, none⟩ v4).setCell ⟨b, 5, none⟩ v5) :=
  (((((h.setCell hB _).setCell hB _).setCell hB _).setCell hB _).setCell hB _).setCell hB _

end Go.Proofs.YtfhcofljlkihoaaGreatDoor

namespace Go.Proofs.YtfhcofljlkihoaaGreatDoor
open Go.RowKit
set_option maxHeartbeats 400000
set_option maxRecDepth 100000

end Go.Proofs.YtfhcofljlkihoaaGreatDoor

namespace Go.Proofs.YtfhcofljlkihoaaGreatDoor
open Go.RowKit
set_option maxHeartbeats 400000
set_option maxRecDepth 100000

theorem possible_any (w0 w1 w2 w3 w4 F m0 m1 m2 m3 m4 m5 r0 r1 r2 r3 r4 r5 : Int) (S : Value) (w : World) (hm0 : 0 ≤ m0) (km0 : m0 < 5) (hm1 : 0 ≤ m1) (km1 : m1 < 5) (hm2 : 0 ≤ m2) (km2 : m2 < 5) (hm3 : 0 ≤ m3) (km3 : m3 < 5) (hm4 : 0 ≤ m4) (km4 : m4 < 5) (hm5 : 0 ≤ m5) (km5 : m5 < 5) :
    Calls Tryz.prog 69 #[.agg #[.int .i64 w0, .int .i64 w1, .int .i64 w2, .int .i64 w3, .int .i64 w4, .int .i64 F, S], .agg #[.int .i64 m0, .int .i64 m1, .int .i64 m2, .int .i64 m3, .int .i64 m4, .int .i64 m5], .agg #[.int .i64 r0, .int .i64 r1, .int .i64 r2, .int .i64 r3, .int .i64 r4, .int .i64 r5]] w fun e w' => e = .returned (.bool (decide (wcost w0 w1 w2 w3 w4 m0 m1 m2 m3 m4 m5 r0 r1 r2 r3 r4 r5 ≤ F))) ∧ Below w.heap.size w w' := by
  go_enter Tryz.func69, Tryz.ntmps69
  go_wp2
  refine wp_region_grow (by kernel_rfl) (by kernel_rfl) ?_
  repeat (go_big_quiet_step ((first | (go_at_call 51; exact quiet_grow rfl (wornRow_any _ _ _ _ _ _ _ _ _ _ _ _ (by assumption) (by assumption) (by assumption) (by assumption) (by assumption) (by assumption) (by assumption) (by assumption) (by assumption) (by assumption) (by assumption) (by assumption))) | (go_at_call 52; exact quiet_grow rfl (seenRow_any _ _ _ _ _ _ _)) | (go_at_call 55; exact quiet_grow rfl (false_any _ _ _ _ _ _ _ _ _ _ _ _ _)))))
  refine wpQuiet_nil ?_
  intro z
  go_wp2
  go_ret
  exact ⟨rfl, (show Below w.heap.size w _ by go_grown).trans ((grow_below _ z).mono (by simp; omega))⟩

/-- A reading. -/
structure Rd where
  r0 : Int
  r1 : Int
  r2 : Int
  r3 : Int
  r4 : Int
  r5 : Int
structure RdAt (w : World) (b o : Nat) (g : Rd) : Prop where
  c0 : w.cell? ⟨b, o, none⟩ = some (.int .i64 g.r0)
  c1 : w.cell? ⟨b, o + 1, none⟩ = some (.int .i64 g.r1)
  c2 : w.cell? ⟨b, o + 2, none⟩ = some (.int .i64 g.r2)
  c3 : w.cell? ⟨b, o + 3, none⟩ = some (.int .i64 g.r3)
  c4 : w.cell? ⟨b, o + 4, none⟩ = some (.int .i64 g.r4)
  c5 : w.cell? ⟨b, o + 5, none⟩ = some (.int .i64 g.r5)
/-- A slice holds these rows of six. -/
structure Rs (w : World) (A : Option Addr) (n : Nat) (rs : List Rd) : Prop where
  len : n = rs.length
  small : n ≤ 9223372036854775807
  get : ∀ k (h : k < rs.length), ∃ b o, A = some ⟨b, o, none⟩ ∧ b < w.heap.size ∧ RdAt w b (o + k * 6) rs[k]
theorem RdAt.keep {w w' : World} {b o : Nat} {g : Rd} (h : RdAt w b o g) (hb : ∀ j, w'.cell? ⟨b, j, none⟩ = w.cell? ⟨b, j, none⟩) : RdAt w' b o g :=
  ⟨(hb _).trans h.c0, (hb _).trans h.c1, (hb _).trans h.c2, (hb _).trans h.c3, (hb _).trans h.c4, (hb _).trans h.c5⟩
theorem Rs.keep {w w' : World} {A : Option Addr} {n : Nat} {gs : List Rd} (h : Rs w A n gs) (hb : Below w.heap.size w w') : Rs w' A n gs :=
  ⟨h.len, h.small, fun k hk => by
    obtain ⟨b, o, e, hlt, hg⟩ := h.get k hk
    exact ⟨b, o, e, by have := hb.size; omega, hg.keep fun j => hb.cell (p := ⟨b, j, none⟩) hlt⟩⟩

/-- Cells of given marks in a row. -/
def gcells : List Giv → List Value
  | [] => []
  | g :: r => [.int .i64 g.o, .int .i64 g.m0, .int .i64 g.m1, .int .i64 g.m2, .int .i64 g.m3, .int .i64 g.m4, .int .i64 g.m5] ++ gcells r
theorem gcells_snoc (l : List Giv) (g : Giv) : gcells (l ++ [g]) = gcells l ++ [.int .i64 g.o, .int .i64 g.m0, .int .i64 g.m1, .int .i64 g.m2, .int .i64 g.m3, .int .i64 g.m4, .int .i64 g.m5] := by
  induction l with
  | nil => rfl
  | cons x r ih => simp [gcells, ih]
theorem gcells_len (l : List Giv) : (gcells l).length = l.length * 7 := by
  induction l with
  | nil => rfl
  | cons x r ih => simp [gcells, ih]; omega
theorem gcells_at : ∀ (l : List Giv) (k : Nat) (h : k < l.length), (gcells l)[k * 7]? = some (.int .i64 l[k].o) ∧ (gcells l)[k * 7 + 1]? = some (.int .i64 l[k].m0) ∧ (gcells l)[k * 7 + 2]? = some (.int .i64 l[k].m1) ∧ (gcells l)[k * 7 + 3]? = some (.int .i64 l[k].m2) ∧ (gcells l)[k * 7 + 4]? = some (.int .i64 l[k].m3) ∧ (gcells l)[k * 7 + 5]? = some (.int .i64 l[k].m4) ∧ (gcells l)[k * 7 + 6]? = some (.int .i64 l[k].m5)
  | [], k, h => by simp at h
  | g :: r, 0, h => by simp [gcells]
  | g :: r, k + 1, h => by
    have := gcells_at r k (by simpa using h)
    have e : ∀ j, (gcells (g :: r))[(k + 1) * 7 + j]? = (gcells r)[k * 7 + j]? := fun j => by
      simp only [gcells]
      rw [List.getElem?_append_right (by simp; omega)]
      congr 1; simp; omega
    have e0 := e 0
    simp only [Nat.add_zero] at e0
    rw [e0, e, e, e, e, e, e]; simpa using this
theorem Gs.of_own {w : World} {base n : Nat} {v : Value} {l : List Giv} (h : w.ownsRow base 41 7 v n (gcells l)) : ∃ A c, v = .slice A n c ∧ n ≤ c ∧ n = l.length ∧ (n < 9223372036854775807 → Gs w A n l) := by
  have hl : n = l.length := by have := h.1; rw [gcells_len] at this; omega
  rcases h.2 with ⟨rfl, rfl⟩ | ⟨g, cap, cur, rfl, _, hg, hnc, hcm, hcs, htk⟩
  · exact ⟨none, 0, rfl, Nat.le_refl _, hl, fun _ => ⟨hl, by omega, fun k hk => by omega⟩⟩
  · refine ⟨some ⟨g, 0, none⟩, cap, rfl, hnc, hl, fun hsm => ⟨hl, hsm, fun k hk => ⟨g, 0, rfl, (Array.getElem?_eq_some_iff.1 hg).1, ?_⟩⟩⟩
    have ha := gcells_at l k hk
    have key : ∀ j u, (gcells l)[j]? = some u → w.cell? ⟨g, j, none⟩ = some u := fun j u hu => by
      have := h.cells (g := g) rfl j u hu
      rw [Addr.add_lit] at this; simpa using this
    rw [Nat.zero_add]
    exact ⟨key _ _ ha.1, key _ _ ha.2.1, key _ _ ha.2.2.1, key _ _ ha.2.2.2.1, key _ _ ha.2.2.2.2.1, key _ _ ha.2.2.2.2.2.1, key _ _ ha.2.2.2.2.2.2⟩

theorem info30 : (Tryz.prog.info? 41).map (fun i => (i.zero, i.size, i.bytes)) = some (some (.agg #[.int .i64 0, .int .i64 0, .int .i64 0, .int .i64 0, .int .i64 0, .int .i64 0, .int .i64 0]), 7, 56) := by kernel_rfl

/-- Is a given mark possible for all readings? -/
def possR (w0 w1 w2 w3 w4 F : Int) (g : Giv) (r : Rd) : Bool := decide (wcost w0 w1 w2 w3 w4 g.m0 g.m1 g.m2 g.m3 g.m4 g.m5 r.r0 r.r1 r.r2 r.r3 r.r4 r.r5 ≤ F)
def possAll (w0 w1 w2 w3 w4 F : Int) (rs : List Rd) (g : Giv) : Bool := rs.all (possR w0 w1 w2 w3 w4 F g)
/-- The marks that are possible for all. -/
def possG (w0 w1 w2 w3 w4 F : Int) (rs : List Rd) : List Giv → List Giv
  | [] => []
  | g :: r => if possAll w0 w1 w2 w3 w4 F rs g = true then g :: possG w0 w1 w2 w3 w4 F rs r else possG w0 w1 w2 w3 w4 F rs r
theorem possG_yes {w0 w1 w2 w3 w4 F : Int} {rs : List Rd} {l : List Giv} {g : Giv} (h : possAll w0 w1 w2 w3 w4 F rs g = true) : possG w0 w1 w2 w3 w4 F rs (l ++ [g]) = possG w0 w1 w2 w3 w4 F rs l ++ [g] := by
  induction l with
  | nil => simp [possG, h]
  | cons x r ih => simp only [List.cons_append, possG, ih]; split <;> rfl
theorem possG_no {w0 w1 w2 w3 w4 F : Int} {rs : List Rd} {l : List Giv} {g : Giv} (h : possAll w0 w1 w2 w3 w4 F rs g = false) : possG w0 w1 w2 w3 w4 F rs (l ++ [g]) = possG w0 w1 w2 w3 w4 F rs l := by
  induction l with
  | nil => simp [possG, h]
  | cons x r ih => simp only [List.cons_append, possG, ih]
theorem possG_len (w0 w1 w2 w3 w4 F : Int) (rs : List Rd) (l : List Giv) : (possG w0 w1 w2 w3 w4 F rs l).length ≤ l.length := by
  induction l with
  | nil => exact Nat.le_refl _
  | cons x r ih => simp only [possG]; split <;> simp <;> omega

theorem own_below {w w' : World} {base : Nat} {e : TypeId} {size n : Nat} {v : Value} {xs : List Value} (h : w.ownsRow base e size v n xs) (hb : Below w.heap.size w w') : w'.ownsRow base e size v n xs :=
  h.kept (row := none) ⟨hb.os, hb.tape, hb.output, hb.size, fun k hk _ => hb.block k hk⟩ (by cases hv : v.ownBlock <;> simp)
theorem own_mono {w : World} {base base' : Nat} {e : TypeId} {size n : Nat} {v : Value} {xs : List Value} (h : w.ownsRow base e size v n xs) (hb : base' ≤ base) : w.ownsRow base' e size v n xs := by
  refine ⟨h.1, ?_⟩
  rcases h.2 with h2 | ⟨g, cap, cur, hv, hg, r⟩
  · exact .inl h2
  · exact .inr ⟨g, cap, cur, hv, Nat.le_trans hb hg, r⟩

theorem possibleMarks_any (w0 w1 w2 w3 w4 F : Int) (A : Option Addr) (n c : Nat) (gs : List Giv) (B : Option Addr) (n' c' : Nat) (rs : List Rd) (w : World) (hg : Gs w A n gs) (hr : Rs w B n' rs) (hok : ∀ g ∈ gs, g.ok) (h40 : n ≤ 40) :
    Calls Tryz.prog 45 #[.agg #[.int .i64 w0, .int .i64 w1, .int .i64 w2, .int .i64 w3, .int .i64 w4, .int .i64 F, .slice A n c], .slice B n' c'] w fun e w' => ∃ v, e = .returned v ∧ w'.ownsRow w.heap.size 41 7 v (possG w0 w1 w2 w3 w4 F rs gs).length (gcells (possG w0 w1 w2 w3 w4 F rs gs)) ∧ Below w.heap.size w w' := by
  have hn' := hr.small
  have Hl : Hid (n = gs.length) := Lib.hid hg.len
  have Hl' : Hid (n' = rs.length) := Lib.hid hr.len
  have Hok := Lib.hid hok
  clear hok
  obtain ⟨i0, hi, hz0, hz1, hz2⟩ := info_parts info30
  have HI := Lib.hid hi
  have HZ0 := Lib.hid hz0
  have HZ1 := Lib.hid hz1
  have HZ2 := Lib.hid hz2
  clear hi hz0 hz1 hz2
  go_enter Tryz.func45, Tryz.ntmps45
  go_wp2
  generalize hW : (World.alloc _ _) = W
  have HW : Hid (Below w.heap.size w W) := Lib.hid (by subst hW; go_grown)
  have hs : w.heap.size < W.heap.size := by subst hW; simp
  have cm : ∀ j, W.cell? ⟨w.heap.size, j, none⟩ = [Value.int .i64 w0, .int .i64 w1, .int .i64 w2, .int .i64 w3, .int .i64 w4, .int .i64 F, .slice A n c][j]? := by subst hW; intro j; simp [go_sem]
  clear hW
  go_step3
  go_wp2
  go_step3
  go_wp2
  have Hg1 := Lib.hid (hg.keep HW.out)
  have Hr1 := Lib.hid (hr.keep HW.out)
  go_loopw [5, 13] (fun v i wr => ∃ (k : Nat) (z : Gr), k ≤ n ∧ i = .int .i64 k ∧ wr = grow W z ∧ (grow W z).ownsRow W.heap.size 41 7 v (possG w0 w1 w2 w3 w4 F rs (gs.take k)).length (gcells (possG w0 w1 w2 w3 w4 F rs (gs.take k)))) (fun _ i _ => n - (intOf i).toNat)
  case atStart => exact ⟨0, ⟨#[], W.drawn⟩, by omega, rfl, by simp [grow], World.ownsRow_nil _ _ _ _⟩
  case round =>
    obtain ⟨k, z, hk, rfl, rfl, hown⟩ := hrel
    have Hown := Lib.hid hown; clear hown
    have e1 : w.heap.size < W.heap.size + z.blocks.size := by omega
    have e3 : w.heap.size < W.heap.size + z.blocks.size + 1 := by omega
    by_cases hlt : k < n
    rotate_left
    · obtain rfl : k = n := by omega
      go_wp2
      try rw [Exit.noGoto_ret]
      go_ret
      refine ⟨_, rfl, ?_, up HW.out (grow_below W z)⟩
      have := Hown.out
      rw [List.take_of_length_le (by rw [← Hl.out]; exact Nat.le_refl _)] at this
      exact own_mono this (by omega)
    have hkl : k < gs.length := by rw [← Hl.out]; exact hlt
    have Htk : Hid (gs.take (k + 1) = gs.take k ++ [gs[k]]) := Lib.hid (List.take_succ_eq_append_getElem hkl)
    have hlen := possG_len w0 w1 w2 w3 w4 F rs (gs.take k)
    have hlen2 : (gs.take k).length ≤ k := by simp; omega
    obtain ⟨b, o, rfl, hb, hc⟩ := Hg1.out.get k hkl
    obtain ⟨c0, c1, c2, c3, c4, c5, c6⟩ := hc
    obtain ⟨⟨p0, q0⟩, ⟨p1, q1⟩, ⟨p2, q2⟩, ⟨p3, q3⟩, ⟨p4, q4⟩, ⟨p5, q5⟩⟩ := Hok.out _ (List.getElem_mem hkl)
    generalize gs[k] = g at *
    generalize hX : possG w0 w1 w2 w3 w4 F rs (gs.take k) = X at *
    generalize hnX : X.length = nX at *
    have HX := Lib.hid hX
    have HnX := Lib.hid hnX
    clear hX hnX
    have e5 : b < W.heap.size + z.blocks.size := by omega
    go_wp2
    generalize hV : World.alloc (grow W z) _ = V
    have HV : Hid (Below W.heap.size W V) := Lib.hid (by subst hV; exact up (grow_below W z) (up_alloc _ _))
    have HVz : Hid (Below (grow W z).heap.size (grow W z) V) := Lib.hid (by subst hV; exact up_alloc _ _)
    have v1 : w.heap.size < V.heap.size := by subst hV; simp; omega
    have v2 : W.heap.size + z.blocks.size < V.heap.size := by subst hV; simp
    have cv : ∀ j, V.cell? ⟨w.heap.size, j, none⟩ = [Value.int .i64 w0, .int .i64 w1, .int .i64 w2, .int .i64 w3, .int .i64 w4, .int .i64 F, .slice (some ⟨b, o, none⟩) n c][j]? := by
      intro j; rw [← cm j]; exact HV.out.cell (p := ⟨w.heap.size, j, none⟩) hs
    have cg : ∀ j, V.cell? ⟨W.heap.size + z.blocks.size, j, none⟩ = [Value.int .i64 g.o, .int .i64 g.m0, .int .i64 g.m1, .int .i64 g.m2, .int .i64 g.m3, .int .i64 g.m4, .int .i64 g.m5][j]? := by
      subst hV; intro j
      rw [World.cell?_alloc_at _ _ _ _ (by simp)]; simp
    have HR := Lib.hid (Hr1.out.keep HV.out)
    clear hV c0 c1 c2 c3 c4 c5 c6
    go_loopw [19] (fun j wr => ∃ (q : Nat) (y : Gr), q ≤ n' ∧ j = .int .i64 q ∧ wr = grow V y ∧ possAll w0 w1 w2 w3 w4 F (rs.take q) g = true) (fun j _ => n' - (intOf j).toNat)
    case atStart => exact ⟨0, ⟨#[], V.drawn⟩, by omega, rfl, by simp [grow], rfl⟩
    case round =>
      obtain ⟨q, y, hq, rfl, rfl, hpa⟩ := hrel
      have Hpa := Lib.hid hpa; clear hpa
      have f1 : w.heap.size < V.heap.size + y.blocks.size := by omega
      have f2 : w.heap.size < V.heap.size + y.blocks.size + 1 := by omega
      have f3 : W.heap.size + z.blocks.size < V.heap.size + y.blocks.size := by omega
      have f4 : W.heap.size + z.blocks.size < V.heap.size + y.blocks.size + 1 := by omega
      by_cases hqn : q < n'
      · have hql : q < rs.length := by rw [← Hl'.out]; exact hqn
        have Hsn : Hid (rs.take (q + 1) = rs.take q ++ [rs[q]]) := Lib.hid (List.take_succ_eq_append_getElem hql)
        have Hall : Hid (possR w0 w1 w2 w3 w4 F g rs[q] = false → possAll w0 w1 w2 w3 w4 F rs g = false) := Lib.hid (fun h => by
          unfold possAll; rw [List.all_eq_false]; exact ⟨rs[q], List.getElem_mem hql, by rw [h]; simp⟩)
        obtain ⟨b', o', rfl, hb', hc'⟩ := HR.out.get q hql
        obtain ⟨d0, d1, d2, d3, d4, d5⟩ := hc'
        generalize rs[q] = r at *
        have f5 : b' < V.heap.size + y.blocks.size := by omega
        cases hp : possR w0 w1 w2 w3 w4 F g r
        · have Hd : Hid (decide (wcost w0 w1 w2 w3 w4 g.m0 g.m1 g.m2 g.m3 g.m4 g.m5 r.r0 r.r1 r.r2 r.r3 r.r4 r.r5 ≤ F) = false) := Lib.hid hp
          have Hp := Lib.hid hp
          clear hp
          go_wp2_with (go_at_call 69; refine (possible_any _ _ _ _ _ _ _ _ _ _ _ _ _ _ _ _ _ _ _ _ (by assumption) (by assumption) (by assumption) (by assumption) (by assumption) (by assumption) (by assumption) (by assumption) (by assumption) (by assumption) (by assumption) (by assumption) ).mono ?_; rintro e x1 ⟨rfl, hb1⟩; rw [Hd.out])
          obtain ⟨y2, hy2⟩ := below_grow (up HV.out (up (grow_below V y) (up (up_alloc _ _) hb1)))
          have Hy2 := Lib.hid hy2
          refine ⟨⟨k + 1, y2, by omega, by go_num, hy2, ?_⟩, by simp [intOf]; omega⟩
          rw [← hy2]
          have ho := own_below (own_below Hown.out HVz.out) (up (grow_below V y) (up (up_alloc _ _) hb1))
          rw [Htk.out, possG_no (Hall.out Hp.out)]
          rw [HX.out, HnX.out]
          exact ho
        · have Hd : Hid (decide (wcost w0 w1 w2 w3 w4 g.m0 g.m1 g.m2 g.m3 g.m4 g.m5 r.r0 r.r1 r.r2 r.r3 r.r4 r.r5 ≤ F) = true) := Lib.hid hp
          have Hp := Lib.hid hp
          clear hp
          go_wp2_with (go_at_call 69; refine (possible_any _ _ _ _ _ _ _ _ _ _ _ _ _ _ _ _ _ _ _ _ (by assumption) (by assumption) (by assumption) (by assumption) (by assumption) (by assumption) (by assumption) (by assumption) (by assumption) (by assumption) (by assumption) (by assumption) ).mono ?_; rintro e x1 ⟨rfl, hb1⟩; rw [Hd.out])
          obtain ⟨y2, hy2⟩ := below_grow (up (grow_below V y) (up (up_alloc _ _) hb1))
          refine ⟨⟨q + 1, y2, by omega, by go_num, hy2, ?_⟩, by simp [intOf]; omega⟩
          rw [Hsn.out]; unfold possAll; rw [List.all_append, show (rs.take q).all (possR w0 w1 w2 w3 w4 F g) = true from Hpa.out]; simp [Hp.out]
      · obtain rfl : q = n' := by omega
        have Hpy : Hid (possAll w0 w1 w2 w3 w4 F rs g = true) := Lib.hid (by have := Hpa.out; rw [List.take_of_length_le (by rw [← Hl'.out]; exact Nat.le_refl _)] at this; exact this)
        have ho := own_below (own_below Hown.out HVz.out) (grow_below V y)
        have Ho := Lib.hid ho
        clear ho
        go_wp2_with (at_builtin; refine wpList_append_own _ rfl _ _ 24 rfl W.heap.size 41 i0 (.agg #[.int .i64 0, .int .i64 0, .int .i64 0, .int .i64 0, .int .i64 0, .int .i64 0, .int .i64 0]) 7 56 Tryz.underlying24 HI.out HZ0.out HZ1.out HZ2.out rfl (by decide) _ _ _ rfl (Ho.out.alloc _) ⟨V.heap.size + y.blocks.size, 0, none⟩ 1 1 [.int .i64 g.o, .int .i64 g.m0, .int .i64 g.m1, .int .i64 g.m2, .int .i64 g.m3, .int .i64 g.m4, .int .i64 g.m5] rfl rfl ?c1 ?c2 ?c3 ?c4 ?c5 ?_)
        case c1 =>
          intro j u hu
          rw [Addr.add_lit, World.cell?_alloc_at _ _ _ _ (by simp), Nat.zero_add]
          simpa using hu
        case c2 => intro u hu; simp at hu; rcases hu with rfl | rfl | rfl | rfl | rfl | rfl | rfl <;> rfl
        case c3 => unfold maxLen; omega
        case c4 => omega
        case c5 => simp; omega
        intro v' w' hown' hgr _
        have hbel : Below W.heap.size W w' := (up HV.out (up (grow_below V y) (up_alloc _ _))).grown hgr (by have := HV.out.size; simp; omega) (fun q hq => (Ho.out.lt q hq).1)
        have Hown' := Lib.hid hown'
        clear hown' hgr
        obtain ⟨y3, rfl⟩ := below_grow hbel
        go_wp2
        refine ⟨⟨k + 1, y3, by omega, by go_num, rfl, ?_⟩, by simp [intOf]; omega⟩
        rw [Htk.out, possG_yes Hpy.out, HX.out, gcells_snoc, List.length_append, HnX.out]
        exact Hown'.out
end Go.Proofs.YtfhcofljlkihoaaGreatDoor

namespace Go.Proofs.YtfhcofljlkihoaaGreatDoor
open Go.RowKit
set_option maxHeartbeats 400000
set_option maxRecDepth 100000

theorem is2 (w : World) (a b : Int) (t : TypeId) (B : Nat) (hB : B = w.heap.size) : Is (w.alloc (.cells #[.int .i64 a, .int .i64 b] t)) (some ⟨B, 0, none⟩) 2 [a, b] := by
  subst hB
  exact ⟨rfl, by decide, fun k hk => ⟨w.heap.size, 0, rfl, by simp, by
    rcases (by simp at hk; omega : k = 0 ∨ k = 1) with rfl | rfl <;> simp [go_sem]⟩⟩
theorem is3 (w : World) (a b c : Int) (t : TypeId) (B : Nat) (hB : B = w.heap.size) : Is (w.alloc (.cells #[.int .i64 a, .int .i64 b, .int .i64 c] t)) (some ⟨B, 0, none⟩) 3 [a, b, c] := by
  subst hB
  exact ⟨rfl, by decide, fun k hk => ⟨w.heap.size, 0, rfl, by simp, by
    rcases (by simp at hk; omega : k = 0 ∨ k = 1 ∨ k = 2) with rfl | rfl | rfl <;> simp [go_sem]⟩⟩
theorem rs1 (w : World) (r : Rd) (t : TypeId) (B : Nat) (hB : B = w.heap.size) : Rs (w.alloc (.cells #[.int .i64 r.r0, .int .i64 r.r1, .int .i64 r.r2, .int .i64 r.r3, .int .i64 r.r4, .int .i64 r.r5] t)) (some ⟨B, 0, none⟩) 1 [r] := by
  subst hB
  exact ⟨rfl, by decide, fun k hk => by
    obtain rfl : k = 0 := by simp at hk; omega
    refine ⟨w.heap.size, 0, rfl, by simp, ?_⟩
    constructor <;> simp [go_sem]⟩

theorem checkReading_yes (a0 a1 a2 a3 a4 a5 : Int) (w : World) (h : okR a0 a1 a2 a3 a4 a5 = true) : Calls Tryz.prog 43 #[.agg #[.int .i64 a0, .int .i64 a1, .int .i64 a2, .int .i64 a3, .int .i64 a4, .int .i64 a5]] w fun e w' => e = .returned (.int .i64 0) ∧ Below w.heap.size w w' :=
  (checkReading_any _ _ _ _ _ _ w).mono fun e w' g => ⟨by rw [g.1, err_t _ h], g.2⟩
theorem checkReading_no (a0 a1 a2 a3 a4 a5 : Int) (w : World) (h : okR a0 a1 a2 a3 a4 a5 = false) : Calls Tryz.prog 43 #[.agg #[.int .i64 a0, .int .i64 a1, .int .i64 a2, .int .i64 a3, .int .i64 a4, .int .i64 a5]] w fun e w' => e = .returned (.int .i64 12) ∧ Below w.heap.size w w' :=
  (checkReading_any _ _ _ _ _ _ w).mono fun e w' g => ⟨by rw [g.1, err_f _ (by rw [h]; simp)], g.2⟩

def Rd.ok (r : Rd) : Bool := okR r.r0 r.r1 r.r2 r.r3 r.r4 r.r5
/-- The error of a book and a reading. -/
def brE (w0 w1 w2 w3 w4 F : Int) (gs : List Giv) (r : Rd) : Int := firstE [err (okB w0 w1 w2 w3 w4 F gs) 13, err r.ok 12]
theorem brE_0 {w0 w1 w2 w3 w4 F : Int} {gs : List Giv} {r : Rd} (h1 : okB w0 w1 w2 w3 w4 F gs = true) (h2 : r.ok = true) : brE w0 w1 w2 w3 w4 F gs r = 0 := by
  unfold brE; rw [err_t _ h1, err_t _ h2]; rfl
theorem brE_1 {w0 w1 w2 w3 w4 F : Int} {gs : List Giv} {r : Rd} (h1 : okB w0 w1 w2 w3 w4 F gs = false) : brE w0 w1 w2 w3 w4 F gs r = 13 := by
  unfold brE; rw [err_f _ (by rw [h1]; simp)]; rfl
theorem brE_2 {w0 w1 w2 w3 w4 F : Int} {gs : List Giv} {r : Rd} (h1 : okB w0 w1 w2 w3 w4 F gs = true) (h2 : r.ok = false) : brE w0 w1 w2 w3 w4 F gs r = 12 := by
  unfold brE; rw [err_t _ h1, err_f _ (by rw [h2]; simp)]; rfl
/-- The possible marks; none where there is an error. -/
def brG (w0 w1 w2 w3 w4 F : Int) (gs : List Giv) (r : Rd) : List Giv := if brE w0 w1 w2 w3 w4 F gs r = 0 then possG w0 w1 w2 w3 w4 F [r] gs else []
theorem okB_ok {w0 w1 w2 w3 w4 F : Int} {gs : List Giv} (h : okB w0 w1 w2 w3 w4 F gs = true) : ∀ g ∈ gs, g.ok := by
  simp only [okB, Bool.and_eq_true] at h
  have := ok_take h.2
  rw [List.take_length] at this; exact this

theorem owners_any (w0 w1 w2 w3 w4 F : Int) (A : Option Addr) (n c : Nat) (gs : List Giv) (r : Rd) (w : World) (hg : Gs w A n gs) (hnc : n ≤ c) :
    Calls Tryz.prog 20 #[.agg #[.int .i64 w0, .int .i64 w1, .int .i64 w2, .int .i64 w3, .int .i64 w4, .int .i64 F, .slice A n c], .agg #[.int .i64 r.r0, .int .i64 r.r1, .int .i64 r.r2, .int .i64 r.r3, .int .i64 r.r4, .int .i64 r.r5]] w fun e w' =>
      ∃ v, e = .returned (.tuple #[v, .int .i64 (brE w0 w1 w2 w3 w4 F gs r)]) ∧ w'.ownsRow w.heap.size 3 1 v (brG w0 w1 w2 w3 w4 F gs r).length (ints (own (brG w0 w1 w2 w3 w4 F gs r))) ∧ Below w.heap.size w w' := by
  have Hl : Hid (n = gs.length) := Lib.hid hg.len
  go_enter Tryz.func20, Tryz.ntmps20
  go_wp2_with fail
  generalize hW : (World.alloc _ _) = W
  have HW : Hid (Below w.heap.size w W) := Lib.hid (by subst hW; go_grown)
  have hs : w.heap.size + 1 < W.heap.size := by subst hW; simp
  have cm : ∀ j, W.cell? ⟨w.heap.size, j, none⟩ = [Value.int .i64 w0, .int .i64 w1, .int .i64 w2, .int .i64 w3, .int .i64 w4, .int .i64 F, .slice A n c][j]? := by subst hW; intro j; simp [go_sem]
  have cr : ∀ j, W.cell? ⟨w.heap.size + 1, j, none⟩ = [Value.int .i64 r.r0, .int .i64 r.r1, .int .i64 r.r2, .int .i64 r.r3, .int .i64 r.r4, .int .i64 r.r5][j]? := by subst hW; intro j; simp [go_sem]
  clear hW
  have Hg1 := Lib.hid (hg.keep HW.out)
  cases hb : okB w0 w1 w2 w3 w4 F gs
  · have Hb := Lib.hid hb
    clear hb
    cases hr : r.ok
    all_goals
      have Hr := Lib.hid hr
      clear hr
      refine wp_region_grow_tail 4 (by kernel_rfl) (by kernel_rfl) ?_
      simp only [List.take_succ_cons, List.take_zero, List.drop_succ_cons, List.drop_zero]
      repeat (go_big_quiet_step ((first | (go_at_call 10; exact quiet_grow rfl (check_no _ _ _ _ _ _ _ _ _ _ _ (Hg1.out.keep (grow_below _ _)) hnc Hb.out)) | (go_at_call 43; exact quiet_grow rfl (checkReading_no _ _ _ _ _ _ _ Hr.out)) | (go_at_call 43; exact quiet_grow rfl (checkReading_yes _ _ _ _ _ _ _ Hr.out)))))
      refine wpQuiet_nil ?_
      intro z
      go_wp2_with (go_at_call 42; refine (first_any _ _ _ _ _ (is2 _ _ _ _ _ (by simp))).mono ?_; rintro e x1 ⟨rfl, rfl⟩; rw [show firstE [13, _] = 13 from rfl])
      go_ret2
      refine ⟨_, by rw [brE_1 Hb.out]; rfl, ?_, up HW.out (up (grow_below W z) (up_alloc _ _))⟩
      unfold brG; rw [brE_1 Hb.out]; exact World.ownsRow_nil _ _ _ _
  have Hb := Lib.hid hb
  clear hb
  cases hr : r.ok
  · have Hr := Lib.hid hr
    clear hr
    refine wp_region_grow_tail 4 (by kernel_rfl) (by kernel_rfl) ?_
    simp only [List.take_succ_cons, List.take_zero, List.drop_succ_cons, List.drop_zero]
    repeat (go_big_quiet_step ((first | (go_at_call 10; exact quiet_grow rfl (check_yes _ _ _ _ _ _ _ _ _ _ _ (Hg1.out.keep (grow_below _ _)) hnc Hb.out)) | (go_at_call 43; exact quiet_grow rfl (checkReading_no _ _ _ _ _ _ _ Hr.out)))))
    refine wpQuiet_nil ?_
    intro z
    go_wp2_with (go_at_call 42; refine (first_any _ _ _ _ _ (is2 _ _ _ _ _ (by simp))).mono ?_; rintro e x1 ⟨rfl, rfl⟩; rw [show firstE [0, 12] = 12 from rfl])
    go_ret2
    refine ⟨_, by rw [brE_2 Hb.out Hr.out]; rfl, ?_, up HW.out (up (grow_below W z) (up_alloc _ _))⟩
    unfold brG; rw [brE_2 Hb.out Hr.out]; exact World.ownsRow_nil _ _ _ _
  have Hr := Lib.hid hr
  clear hr
  refine wp_region_grow_tail 4 (by kernel_rfl) (by kernel_rfl) ?_
  simp only [List.take_succ_cons, List.take_zero, List.drop_succ_cons, List.drop_zero]
  repeat (go_big_quiet_step ((first | (go_at_call 10; exact quiet_grow rfl (check_yes _ _ _ _ _ _ _ _ _ _ _ (Hg1.out.keep (grow_below _ _)) hnc Hb.out)) | (go_at_call 43; exact quiet_grow rfl (checkReading_yes _ _ _ _ _ _ _ Hr.out)))))
  refine wpQuiet_nil ?_
  intro z
  have e1 : w.heap.size < W.heap.size + z.blocks.size := by omega
  have e2 : w.heap.size + 1 < W.heap.size + z.blocks.size := by omega
  have e3 : w.heap.size < W.heap.size := by omega
  have hpl : (possG w0 w1 w2 w3 w4 F [r] gs).length ≤ 40 := Nat.le_trans (possG_len w0 w1 w2 w3 w4 F [r] gs) (okB_40 Hb.out)
  have h40 : n ≤ 40 := by have := Hl.out; have := okB_40 Hb.out; omega
  go_wp2_with (first
    | (go_at_call 42; refine (first_any _ _ _ _ _ (is2 _ _ _ _ _ (by simp))).mono ?_; rintro e x1 ⟨rfl, rfl⟩; rw [show firstE [0, 0] = 0 from rfl])
    | (go_at_call 45; refine (possibleMarks_any _ _ _ _ _ _ _ _ _ gs _ _ _ [r] _ (Hg1.out.keep (up (grow_below W z) (up (up_alloc _ _) (up_alloc _ _)))) (rs1 _ r _ _ (by simp)) (okB_ok Hb.out) (by omega)).mono ?_; rintro e x1 ⟨v, rfl, hown, hb1⟩; obtain ⟨A', c', rfl, _, _, hgs⟩ := Gs.of_own hown; have HG := Lib.hid (hgs (by omega)); clear hgs hown; have HB1 := Lib.hid (up HW.out (up (grow_below W z) (up (up_alloc _ _) (up (up_alloc _ _) hb1)))))
    | (go_at_call 44; refine (ownersOf_any _ _ _ _ _ HG.out (by omega)).mono ?_; rintro e x2 ⟨v, rfl, hown, hb2⟩; have Hown := Lib.hid hown; clear hown))
  go_ret2
  refine ⟨_, by rw [brE_0 Hb.out Hr.out]; rfl, ?_, up HB1.out hb2⟩
  unfold brG; rw [brE_0 Hb.out Hr.out]
  have := HB1.out.size
  exact own_mono Hown.out this
end Go.Proofs.YtfhcofljlkihoaaGreatDoor

namespace Go.Proofs.YtfhcofljlkihoaaGreatDoor
open Go Go.RowKit
set_option maxHeartbeats 400000
set_option maxRecDepth 100000

/-- The decimal numeral of a number that is not negative. -/
def numB (i : Int) : ByteArray := ⟨(Lib.decDigits i.toNat).toArray⟩
/-- A text, and behind it a blank and a number for each of these. -/
def lineK (s : ByteArray) : List Int → ByteArray
  | [] => s
  | n :: r => lineK (s ++ (⟨#[32]⟩ ++ numB n)) r
theorem lineK_snoc (s : ByteArray) (l : List Int) (n : Int) : lineK s (l ++ [n]) = lineK s l ++ (⟨#[32]⟩ ++ numB n) := by
  induction l generalizing s with
  | nil => rfl
  | cons x r ih => simp [lineK, ih]

theorem itoa_any (n : Int) (w : World) (h0 : 0 ≤ n) (h1 : n < 100) :
    Calls Tryz.prog 32 #[.int .i64 n] w fun e w' => e = .returned (.string (numB n)) ∧ w' = w := by
  obtain ⟨i, rfl⟩ := Int.eq_ofNat_of_zero_le h0
  exact (Tryz.strconv_Itoa_small i (by omega) w)

theorem conv1 (w : World) (c : Int) (b : Nat) (hc : w.cell? ⟨b, 0, none⟩ = some (.int .u8 c)) :
    (convert 111 9 (.slice (some ⟨b, 0, none⟩) 1 1)).run Tryz.prog w = .ok (.string ⟨#[UInt8.ofNat c.toNat]⟩) w := by
  rw [run_convert_bytes_string w 111 9 5 _ 1 1 Tryz.underlying111 (by kernel_rfl) Tryz.underlying9, run_bytesToString w _ 1 1 [c] (by simp [loadCells, loadCellsFrom, hc, go_sem])]
  rfl
@[go_sem] theorem conv1new (w : World) (c : Int) (t : TypeId) :
    (convert 111 9 (.slice (some ⟨w.heap.size, 0, none⟩) 1 1)).run Tryz.prog (w.alloc (.cells #[.int .u8 c] t)) = .ok (.string ⟨#[UInt8.ofNat c.toNat]⟩) (w.alloc (.cells #[.int .u8 c] t)) :=
  conv1 _ c w.heap.size (by simp [go_sem])
@[go_sem] theorem conv1new2 (w : World) (o : Obj) (c : Int) (t : TypeId) :
    (convert 111 9 (.slice (some ⟨w.heap.size + 1, 0, none⟩) 1 1)).run Tryz.prog ((w.alloc o).alloc (.cells #[.int .u8 c] t)) = .ok (.string ⟨#[UInt8.ofNat c.toNat]⟩) ((w.alloc o).alloc (.cells #[.int .u8 c] t)) :=
  conv1 _ c (w.heap.size + 1) (by have : (w.alloc o).heap.size = w.heap.size + 1 := by simp
                                  rw [← this]; simp [go_sem])

theorem digits_any (i : Nat) (w : World) (h1 : i < 100) :
    Calls Tryz.prog 63 #[.int .u64 i] w fun e w' => e = .returned (.string (numB i)) ∧ Below w.heap.size w w' := by
  by_cases h : i < 10
  · go_enter Tryz.func63, Tryz.ntmps63
    go_wp2
    refine wp_loop_rounds 1 ?_
    repeat any_goals (rw [rounds_succ]; go_wp2)
    go_ret
    refine ⟨?_, by go_grown⟩
    refine congrArg Ending.returned (congrArg Value.string ?_)
    unfold numB
    rw [show (i : Int).toNat = i from rfl, Lib.decDigits_one h]
    apply ByteArray.ext
    simp [ByteArray.data_append, UInt8.ofNat_add]
  · go_enter Tryz.func63, Tryz.ntmps63
    go_wp2
    refine wp_loop_rounds 2 ?_
    repeat any_goals (rw [rounds_succ]; go_wp2)
    go_ret
    refine ⟨?_, by go_grown⟩
    refine congrArg Ending.returned (congrArg Value.string ?_)
    unfold numB
    rw [show (i : Int).toNat = i from rfl, Lib.decDigits_two h h1]
    apply ByteArray.ext
    simp [ByteArray.data_append, UInt8.ofNat_add]

theorem text_any (n : Int) (w : World) (h0 : 0 ≤ n) (h1 : n < 100) :
    Calls Tryz.prog 37 #[.int .i64 n] w fun e w' => e = .returned (.string (numB n)) ∧ Below w.heap.size w w' := by
  obtain ⟨i, rfl⟩ := Int.eq_ofNat_of_zero_le h0
  go_enter Tryz.func37, Tryz.ntmps37
  go_wp2_with (go_at_call 63; refine (digits_any i _ (by omega)).mono ?_; rintro e w' ⟨rfl, hb⟩)
  go_ret
  exact ⟨rfl, hb⟩

theorem numB_size (n : Int) (h0 : 0 ≤ n) (h1 : n < 100) : (numB n).size ≤ 2 := by
  obtain ⟨i, rfl⟩ := Int.eq_ofNat_of_zero_le h0
  unfold numB
  by_cases h : i < 10
  · rw [show (i : Int).toNat = i from rfl, Lib.decDigits_one h]; simp [ByteArray.size]
  · rw [show (i : Int).toNat = i from rfl, Lib.decDigits_two h (by omega)]; simp [ByteArray.size]
def small99 (l : List Int) : Prop := ∀ x ∈ l, 0 ≤ x ∧ x < 100

theorem lineK_size (s : ByteArray) (l : List Int) (h : small99 l) : (lineK s l).size ≤ s.size + 3 * l.length := by
  induction l generalizing s with
  | nil => simp [lineK]
  | cons x r ih =>
    have h1 := ih (s ++ (⟨#[32]⟩ ++ numB x)) (fun y hy => h y (List.mem_cons_of_mem _ hy))
    have h2 := numB_size x (h x (List.mem_cons_self ..)).1 (h x (List.mem_cons_self ..)).2
    have h3 : (s ++ (⟨#[32]⟩ ++ numB x)).size = s.size + (1 + (numB x).size) := by simp [ByteArray.size_append]; rfl
    simp only [lineK, List.length_cons]
    omega

set_option maxHeartbeats 1000000 in
theorem lineOf_any (s : ByteArray) (A : Option Addr) (n c : Nat) (l : List Int) (w : World) (hi : Is w A n l) (hl : small99 l) (hs : s.size ≤ 1000000) (h100 : n ≤ 100) :
    Calls Tryz.prog 11 #[.string s, .slice A n c] w fun e w' => e = .returned (.string (lineK s l ++ ⟨#[10]⟩)) ∧ Below w.heap.size w w' := by
  have hn := hi.small
  have Hl : Hid (n = l.length) := Lib.hid hi.len
  have HS := Lib.hid hl
  have HI := Lib.hid hi
  clear hl hi
  go_enter Tryz.func11, Tryz.ntmps11
  go_wp2
  go_loopw [5, 11] (fun v i wr => ∃ (k : Nat), k ≤ n ∧ v = .string (lineK s (l.take k)) ∧ i = .int .i64 k ∧ wr = w) (fun _ i _ => n - (intOf i).toNat)
  case atStart => exact ⟨0, by omega, by simp [lineK], rfl, rfl⟩
  case round =>
    obtain ⟨k, hk, rfl, rfl, rfl⟩ := hrel
    by_cases hlt : k < n
    · have hkl : k < l.length := by have := Hl.out; omega
      obtain ⟨b, o, rfl, hb, hc⟩ := HI.out.get k hkl
      have hx := HS.out l[k] (List.getElem_mem _)
      have hsn : lineK s (l.take (k + 1)) = lineK s (l.take k) ++ (⟨#[32]⟩ ++ numB l[k]) := by
        rw [List.take_succ_eq_append_getElem hkl, lineK_snoc]
      have HSN := Lib.hid hsn
      clear hsn
      have z1 := numB_size _ hx.1 hx.2
      have z2 : (lineK s (l.take k)).size ≤ 1000300 := by
        have := lineK_size s (l.take k) (fun y hy => HS.out y (List.mem_of_mem_take hy))
        simp at this; omega
      have z3 : (⟨#[32]⟩ : ByteArray).size = 1 := rfl
      have z4 : (⟨#[32]⟩ ++ numB l[k] : ByteArray).size ≤ 3 := by rw [ByteArray.size_append]; omega
      go_wp2_with (go_at_call 32; refine (itoa_any _ _ hx.1 hx.2).mono ?_; rintro e w' ⟨rfl, rfl⟩)
      refine ⟨⟨k + 1, by omega, by rw [HSN.out], by go_num, trivial⟩, by simp [intOf]; omega⟩
    · obtain rfl : k = n := by omega
      have z2 : (lineK s (l.take k)).size ≤ 1000300 := by
        have := lineK_size s (l.take k) (fun y hy => HS.out y (List.mem_of_mem_take hy))
        simp at this; omega
      have z3 : (⟨#[10]⟩ : ByteArray).size = 1 := rfl
      go_wp2
      go_ret
      refine ⟨?_, Below.refl _ _⟩
      show Ending.returned (Value.string (lineK s (l.take k) ++ ⟨#[10]⟩)) = _
      rw [List.take_of_length_le (by have := Hl.out; omega)]

set_option maxHeartbeats 1000000 in
theorem refRow_any (s : ByteArray) (A : Option Addr) (n c : Nat) (l : List Int) (w : World) (hi : Is w A n l) (hl : small99 l) (hs : s.size ≤ 1000000) (h100 : n ≤ 100) :
    Calls Tryz.prog 13 #[.string s, .slice A n c] w fun e w' => e = .returned (.string (lineK s l ++ ⟨#[10]⟩)) ∧ Below w.heap.size w w' := by
  have hn := hi.small
  have Hl : Hid (n = l.length) := Lib.hid hi.len
  have HS := Lib.hid hl
  have HI := Lib.hid hi
  clear hl hi
  go_enter Tryz.func13, Tryz.ntmps13
  go_wp2
  go_loopw [5, 6] (fun v i wr => ∃ (k : Nat) (z : Gr), k ≤ n ∧ v = .string (lineK s (l.take k)) ∧ i = .int .i64 k ∧ wr = grow w z) (fun _ i _ => n - (intOf i).toNat)
  case atStart => exact ⟨0, ⟨#[], w.drawn⟩, by omega, by simp [lineK], rfl, by simp [grow]⟩
  case round =>
    obtain ⟨k, z, hk, rfl, rfl, rfl⟩ := hrel
    by_cases hlt : k < n
    · have hkl : k < l.length := by have := Hl.out; omega
      obtain ⟨b, o, rfl, hb, hc⟩ := HI.out.get k hkl
      have hx := HS.out l[k] (List.getElem_mem _)
      have hsn : lineK s (l.take (k + 1)) = lineK s (l.take k) ++ (⟨#[32]⟩ ++ numB l[k]) := by
        rw [List.take_succ_eq_append_getElem hkl, lineK_snoc]
      have HSN := Lib.hid hsn
      clear hsn
      have z1 := numB_size _ hx.1 hx.2
      have z2 : (lineK s (l.take k)).size ≤ 1000300 := by
        have := lineK_size s (l.take k) (fun y hy => HS.out y (List.mem_of_mem_take hy))
        simp at this; omega
      have z3 : (⟨#[32]⟩ : ByteArray).size = 1 := rfl
      have z4 : (⟨#[32]⟩ ++ numB l[k] : ByteArray).size ≤ 3 := by rw [ByteArray.size_append]; omega
      go_wp2_with (go_at_call 37; refine (text_any _ _ hx.1 hx.2).mono ?_; rintro e w' ⟨rfl, hb⟩; obtain ⟨y, rfl⟩ := below_grow ((grow_below w z).trans (hb.mono (by simp))))
      refine ⟨⟨k + 1, y, by omega, by rw [HSN.out], by go_num, rfl⟩, by simp [intOf]; omega⟩
    · obtain rfl : k = n := by omega
      have z2 : (lineK s (l.take k)).size ≤ 1000300 := by
        have := lineK_size s (l.take k) (fun y hy => HS.out y (List.mem_of_mem_take hy))
        simp at this; omega
      have z3 : (⟨#[10]⟩ : ByteArray).size = 1 := rfl
      go_wp2
      go_ret
      refine ⟨?_, grow_below w z⟩
      show Ending.returned (Value.string (lineK s (l.take k) ++ ⟨#[10]⟩)) = _
      rw [List.take_of_length_le (by have := Hl.out; omega)]
end Go.Proofs.YtfhcofljlkihoaaGreatDoor

namespace Go.Proofs.YtfhcofljlkihoaaGreatDoor
open Go.ChangeShapes Go.WideShapes Go.RowKit Go.Deep
set_option maxHeartbeats 400000
set_option maxRecDepth 100000

/-- A number that fits. -/
def i64 (n : Int) : Prop := -9223372036854775808 ≤ n ∧ n ≤ 9223372036854775807
theorem i64_wf {n : Int} (h : (Lit.int .i64 n).wf = true) : i64 n := by
  simp only [Lit.wf, Bool.and_eq_true, decide_eq_true_eq] at h
  exact ⟨h.1, h.2⟩
/-- Cells that are these numbers. -/
def Nums (cs : List Value) (l : List Int) : Prop := cs = ints l ∧ ∀ n ∈ l, i64 n
theorem nums_of {cs : List Value} (h : ∀ j, j < cs.length → ∃ n, cs[j]? = some (.int .i64 n) ∧ i64 n) : ∃ l, l.length = cs.length ∧ Nums cs l := by
  induction cs with
  | nil => exact ⟨[], rfl, rfl, by simp⟩
  | cons c cs ih =>
    obtain ⟨n, hn, hi⟩ := h 0 (by simp)
    obtain ⟨l, hl, he, hq⟩ := ih fun j hj => by simpa using h (j + 1) (by simpa using hj)
    obtain rfl : c = .int .i64 n := by simpa using hn
    exact ⟨n :: l, by simp [hl], by simp [ints, he], by simpa using ⟨hi, hq⟩⟩

section
variable {H : Type} {enc : TypeId × Value → H} {w : World} {base : Nat} {spare : Nat → Bool} {held : Bool} {fuel : Nat} {cs : List Value} {x : DataW H × List MemPlace}

theorem nums_array {P : Program} {t e : TypeId} {n : Nat} (ht : P.underlying t = some (.array n e)) (he : P.underlying e = some (.int .i64)) (hc : P.cellsOf e = 1) (hC : P.cellsOf t = n)
    (h : DataW.trod enc P w base spare held fuel t cs = some x) : ∃ l, l.length = n ∧ Nums cs l := by
  obtain ⟨xs, m, _, _, hl, hn, hel⟩ := DataW.trod_array ht h
  rw [hC] at hl
  obtain ⟨l, h1, h2⟩ := nums_of (cs := cs) fun j hj => by
    have h3 := hel j (by omega)
    have hx : xs[j]? = some (xs[j]'(by omega)) := List.getElem?_eq_getElem (by omega)
    rw [hc, Nat.mul_one, hx] at h3
    obtain ⟨k, e1, _, e3⟩ := DataW.trod_int he h3
    refine ⟨k, ?_, i64_wf e3⟩
    have := congrArg (fun l => l[0]?) e1
    simpa [List.getElem?_take, List.getElem?_drop] using this
  exact ⟨l, by omega, h2⟩

theorem giv_open (h : DataW.trod enc Tryz.prog w base spare held fuel 41 cs = some x) : ∃ g : Giv, cs = [.int .i64 g.o, .int .i64 g.m0, .int .i64 g.m1, .int .i64 g.m2, .int .i64 g.m3, .int .i64 g.m4, .int .i64 g.m5] := by
  obtain ⟨y0, y1, n, _, hl, h0, h1⟩ := trod_struct2 Tryz.underlying41 h
  rw [show Tryz.prog.cellsOf 41 = 7 by kernel_rfl] at hl
  dsimp only at h0 h1
  rw [show Tryz.prog.cellsOf 3 = 1 by kernel_rfl] at h0
  rw [show Tryz.prog.cellsOf 39 = 6 by kernel_rfl] at h1
  obtain ⟨k, e1, _, _⟩ := DataW.trod_int Tryz.underlying3 h0
  obtain ⟨l, hln, e2, _⟩ := nums_array Tryz.underlying39 Tryz.underlying3 (by kernel_rfl) (by kernel_rfl) h1
  match cs, hl with
  | [c0, c1, c2, c3, c4, c5, c6], _ =>
    match l, hln with
    | [a0, a1, a2, a3, a4, a5], _ =>
      simp [ints] at e1 e2
      obtain ⟨rfl, rfl, rfl, rfl, rfl, rfl⟩ := e2
      subst e1
      exact ⟨⟨k, a0, a1, a2, a3, a4, a5⟩, rfl⟩

theorem rd_open {t : TypeId} (ht : Tryz.prog.underlying t = some (.array 6 3)) (hC : Tryz.prog.cellsOf t = 6) (h : DataW.trod enc Tryz.prog w base spare held fuel t cs = some x) :
    ∃ r : Rd, cs = [.int .i64 r.r0, .int .i64 r.r1, .int .i64 r.r2, .int .i64 r.r3, .int .i64 r.r4, .int .i64 r.r5] := by
  obtain ⟨l, hln, e2, _⟩ := nums_array ht Tryz.underlying3 (by kernel_rfl) hC h
  match l, hln with
  | [a0, a1, a2, a3, a4, a5], _ => exact ⟨⟨a0, a1, a2, a3, a4, a5⟩, by simpa [ints] using e2⟩

/-- A slice whose cells are known is one of given marks. -/
theorem gs_open (h : DataW.trod enc Tryz.prog w base spare held fuel 24 cs = some x) (hz : ∀ y ∈ x.1.weights Tryz.prog 24, y ≤ reachBytes) : ∃ A n c gs, cs = [.slice A n c] ∧ Gs w A n gs ∧ n ≤ c ∧ n * 56 ≤ reachBytes := by
  rcases open_slice Tryz.underlying24 h with ⟨rfl, _⟩ | ⟨a, len, cap, m, k, D, Pl, rfl, _, hlc, hcm, hm, hx, hel⟩
  · exact ⟨none, 0, 0, [], rfl, ⟨rfl, by omega, fun k hk => by simp at hk⟩, Nat.le_refl _, by omega⟩
  · have hlm : len ≤ m := by rw [hm]; split <;> omega
    have hsz : len * 56 ≤ reachBytes := by
      have := hz ((len + (m - len)) * Tryz.prog.bytesOf 41) (by rw [hx]; simp [DataW.weights, Tryz.underlying24])
      rw [show Tryz.prog.bytesOf 41 = 56 by kernel_rfl] at this
      omega
    have hrb := reachBytes_lt
    have each : ∀ i, i < len → ∃ g : Giv, ∀ j, j < 7 → w.cell? (a.add (i * 7 + j)) = [Value.int .i64 g.o, .int .i64 g.m0, .int .i64 g.m1, .int .i64 g.m2, .int .i64 g.m3, .int .i64 g.m4, .int .i64 g.m5][j]? := by
      intro i hi
      obtain ⟨cs', hc, ht⟩ := hel i (by omega)
      rw [show Tryz.prog.cellsOf 41 = 7 by kernel_rfl] at hc
      obtain ⟨g, rfl⟩ := giv_open ht
      obtain ⟨_, _, hat⟩ := World.cells?_some hc
      refine ⟨g, fun j hj => ?_⟩
      have := hat j hj
      rwa [Deep.add_add] at this
    obtain ⟨f, hf⟩ := choose_lt each
    refine ⟨some a, len, cap, (List.range len).map f, rfl, ⟨by simp, by omega, fun k hk => ?_⟩, hlc, hsz⟩
    have hk' : k < len := by simpa using hk
    have hg := hf k hk'
    have hsp : a.spot = none ∧ a.block < w.heap.size := by
      have h0 := hf 0 (by omega) 0 (by omega)
      simp only [Nat.zero_mul, Nat.add_zero, List.getElem?_cons_zero] at h0
      rw [show a.add 0 = a from rfl] at h0
      unfold World.cell? at h0
      split at h0
      · rename_i hh
        refine ⟨?_, (Array.getElem?_eq_some_iff.1 hh).1⟩
        cases hs : a.spot with
        | none => rfl
        | some y => rw [hs] at h0; simp at h0
      · simp at h0
    obtain ⟨b, o, s⟩ := a
    obtain ⟨rfl, hb⟩ := hsp
    refine ⟨b, o, rfl, hb, ?_⟩
    have e : ∀ q, (Addr.mk b o none).add q = ⟨b, o + q, none⟩ := fun q => Addr.add_lit ..
    simp only [e] at hg
    rw [List.getElem_map, List.getElem_range]
    exact ⟨by have := hg 0 (by omega); simpa using this, by have := hg 1 (by omega); simpa [Nat.add_assoc] using this, by have := hg 2 (by omega); simpa [Nat.add_assoc] using this, by have := hg 3 (by omega); simpa [Nat.add_assoc] using this, by have := hg 4 (by omega); simpa [Nat.add_assoc] using this, by have := hg 5 (by omega); simpa [Nat.add_assoc] using this, by have := hg 6 (by omega); simpa [Nat.add_assoc] using this⟩

/-- A mark book that came in. -/
theorem open_marks {r : Reach} {b0 : Nat} {v : Value} {d : DataW H} {p : List MemPlace} (hv : Value.okWide Tryz.prog w r b0 26 v) (h : DataW.Trod enc Tryz.prog w base spare held 26 v d p) (hz : ∀ y ∈ d.weights Tryz.prog 26, y ≤ reachBytes) :
    ∃ w0 w1 w2 w3 w4 F A n c gs, v = .agg #[.int .i64 w0, .int .i64 w1, .int .i64 w2, .int .i64 w3, .int .i64 w4, .int .i64 F, .slice A n c] ∧ Gs w A n gs ∧ n ≤ c ∧ n * 56 ≤ reachBytes := by
  obtain ⟨cs, rfl, hsz⟩ := okWide_struct Tryz.underlying26 hv
  rw [show Tryz.prog.cellsOf 26 = 7 by kernel_rfl] at hsz
  obtain ⟨fuel, hf⟩ := h
  obtain ⟨y0, y1, y2, n, hd, hl, h0, h1, h2⟩ := trod_struct3 Tryz.underlying26 hf
  have hz2 : ∀ y ∈ y2.1.weights Tryz.prog 24, y ≤ reachBytes := fun y hy => hz y (by
    have : d = .agg [y0.1, y1.1, y2.1] := (Prod.ext_iff.1 hd).1
    rw [this]; simp [DataW.weights, DataW.weightsEach, Tryz.underlying26, hy])
  dsimp only at h0 h1 h2
  rw [show Tryz.prog.cellsOf 23 = 5 by kernel_rfl] at h0
  rw [show Tryz.prog.cellsOf 3 = 1 by kernel_rfl] at h1
  rw [show Tryz.prog.cellsOf 24 = 1 by kernel_rfl] at h2
  obtain ⟨l, hln, e0, _⟩ := nums_array Tryz.underlying23 Tryz.underlying3 (by kernel_rfl) (by kernel_rfl) h0
  obtain ⟨k, e1, _, _⟩ := DataW.trod_int Tryz.underlying3 h1
  obtain ⟨A, m, c, gs, e2, hg, hmc, hcm⟩ := gs_open h2 hz2
  obtain ⟨cl⟩ := cs
  match cl, hsz with
  | [c0, c1, c2, c3, c4, c5, c6], _ =>
    match l, hln with
    | [a0, a1, a2, a3, a4], _ =>
      simp [ints, Value.cells] at e0 e1 e2
      obtain ⟨rfl, rfl, rfl, rfl, rfl⟩ := e0
      subst e1; subst e2
      exact ⟨a0, a1, a2, a3, a4, k, A, m, c, gs, rfl, hg, hmc, hcm⟩

/-- A given mark that came in. -/
theorem open_given {r : Reach} {b0 : Nat} {v : Value} {d : DataW H} {p : List MemPlace} (hv : Value.okWide Tryz.prog w r b0 41 v) (h : DataW.Trod enc Tryz.prog w base spare held 41 v d p) :
    ∃ g : Giv, v = .agg #[.int .i64 g.o, .int .i64 g.m0, .int .i64 g.m1, .int .i64 g.m2, .int .i64 g.m3, .int .i64 g.m4, .int .i64 g.m5] := by
  obtain ⟨cs, rfl, hsz⟩ := okWide_struct Tryz.underlying41 hv
  obtain ⟨fuel, hf⟩ := h
  obtain ⟨g, e⟩ := giv_open hf
  refine ⟨g, ?_⟩
  obtain ⟨cl⟩ := cs
  simp [Value.cells] at e
  rw [e]

theorem okWide_arr {P : Program} {t e : TypeId} {m : Nat} {r : Reach} {b0 : Nat} {v : Value} (ht : P.underlying t = some (.array m e)) (h : Value.okWide P w r b0 t v) : ∃ cs, v = .agg cs ∧ cs.size = P.cellsOf t := by
  simp only [Value.okWide, ht] at h
  obtain ⟨cs, h1, h2, _⟩ := h
  exact ⟨cs, h1, h2⟩
/-- A reading, or a mark, that came in. -/
theorem open_rd {t : TypeId} {r : Reach} {b0 : Nat} {v : Value} {d : DataW H} {p : List MemPlace} (ht : Tryz.prog.underlying t = some (.array 6 3)) (hC : Tryz.prog.cellsOf t = 6) (hv : Value.okWide Tryz.prog w r b0 t v) (h : DataW.Trod enc Tryz.prog w base spare held t v d p) :
    ∃ r : Rd, v = .agg #[.int .i64 r.r0, .int .i64 r.r1, .int .i64 r.r2, .int .i64 r.r3, .int .i64 r.r4, .int .i64 r.r5] := by
  obtain ⟨cs, rfl, hsz⟩ := okWide_arr ht hv
  obtain ⟨fuel, hf⟩ := h
  obtain ⟨r, e⟩ := rd_open ht hC hf
  refine ⟨r, ?_⟩
  obtain ⟨cl⟩ := cs
  simp [Value.cells] at e
  rw [e]
end

section
variable {H : Type} {enc : TypeId × Value → H} {P : Program}
theorem trodAll_stays (hl : laidOutB P = true) {W W' : World} (hb : Below W.heap.size W W') {sp : Nat → Bool} : ∀ {ts : List TypeId} {vs : List Value} {ds : List (DataW H)} {p : List MemPlace}, (∀ t ∈ ts, P.readableRec t = true ∧ t < P.types.size) →
    DataW.TrodAll enc P W 0 (fun _ => true) true ts vs ds p → (∀ x ∈ p, x.block < W.heap.size) → (∀ x ∈ p, sp x.block = true) → DataW.TrodAll enc P W' 0 sp true ts vs ds p
  | [], _, _, _, _, h, _, _ => by
    obtain ⟨rfl, rfl, rfl⟩ := trodAll_nil h
    exact rfl
  | t :: ts, _, _, _, hr, h, hlt, hs => by
    obtain ⟨v, vs1, d, ds1, a, b, rfl, rfl, rfl, h1, h2⟩ := trodAll_cons h
    obtain ⟨q1, q2⟩ := hr t (List.mem_cons_self ..)
    exact ⟨a, b, WideElems.Trod_stays hl q1 q2 h1 (fun x hx => hb.same (hlt x (by simp [hx]))) (fun x hx => hs x (by simp [hx])),
      trodAll_stays hl hb (fun u hu => hr u (List.mem_cons_of_mem _ hu)) h2 (fun x hx => hlt x (by simp [hx])) (fun x hx => hs x (by simp [hx])), rfl⟩

/-- A statement's end: the call returned true, and no old memory has turned. -/
theorem law_post {f : Func} {s : ChangeSpec} {W W' : World} {args : Array Value} {ds : List (DataW H)} {before : List MemPlace} {tb : TypeId} (hl : laidOutB P = true) (hb4 : P.underlying tb = some .bool) (hf : f.resultTypes = #[tb]) (hv : s.vars = [])
    (hs : s.fn H (ds ++ []) = { results := [.lit (.bool true)], args := ds }) (hr : ∀ t ∈ f.params.toList, P.readableRec t = true ∧ t < P.types.size)
    (hW : DataW.Whole enc P f.params.toList s.vars false W args.toList ds [] before) (hb : Below W.heap.size W W') : s.post enc P f false true false false W args (.bool true) W' := by
  have hlt : ∀ p ∈ before, p.block < W.heap.size := fun p hp => hW.lt p hp
  have hW' := hW
  obtain ⟨p, q, hA, hV, rfl, hz, hn⟩ := hW'
  rw [hv] at hV
  obtain ⟨_, rfl⟩ := trodVars_none hV
  rw [List.append_nil] at hW hlt hz hn
  have hres : ∀ (b : Nat) (sp : Nat → Bool) (hd : Bool), DataW.TrodAll enc P W' b sp hd f.resultTypes.toList ((Value.bool true).resultList f.resultTypes.size) (s.fn H (ds ++ [])).results [] := by
    intro b sp hd
    rw [hs, hf]
    exact trodAll_mk1 (shut_bool hb4 _)
  have hargs : ∀ sp : Nat → Bool, (∀ x ∈ p, sp x.block = true) → DataW.TrodAll enc P W' 0 sp true f.params.toList args.toList (s.fn H (ds ++ [])).args p := by
    intro sp hsp
    rw [hs]
    exact trodAll_stays hl hb hr hA hlt hsp
  have hvars : ∀ sp : Nat → Bool, DataW.TrodVars enc P W' sp s.vars (s.fn H (ds ++ [])).vars [] := by
    intro sp
    rw [hs, hv]
    exact rfl
  refine ⟨ds, [], p, [], p, [], hW, hres _ _ _, hargs _ (fun x hx => by simpa using hlt x hx), hvars _, World.keptBut_mono (fun x hx => ⟨hx, Or.inr (by simpa using hx)⟩) (hb.frame (· ∈ p)), fun _ => ?_⟩
  refine ⟨ok_one hf rfl (okWide_bool_mk hb4 _), _, _, ([] ++ p) ++ [], ⟨[] ++ p, [], trodAll_append (hargs _ (fun _ _ => rfl)) (hres _ _ _), hvars _, rfl, ?_, fun h => by cases h⟩, fun x hx _ => by simpa using hx⟩
  intro b off hp
  have hin : MemPlace.cell b off ∈ p := by simpa using hp
  rw [hb.frozen (p := ⟨b, off, none⟩) (hlt _ hin)]
  exact hz b off hin
end

/-- A block holds these cells. -/
structure Bk (w : World) (b : Nat) (cs : List Value) : Prop where
  lt : b < w.heap.size
  get : ∀ j, w.cell? ⟨b, j, none⟩ = cs[j]?
theorem Bk.keep {w w' : World} {b : Nat} {cs : List Value} (h : Bk w b cs) (hb : Below w.heap.size w w') : Bk w' b cs :=
  ⟨Nat.lt_of_lt_of_le h.lt hb.size, fun j => (hb.cell (p := ⟨b, j, none⟩) h.lt).trans (h.get j)⟩
end Go.Proofs.YtfhcofljlkihoaaGreatDoor

