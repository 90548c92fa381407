/- Distance; the signs of a set; picking one. Own text. -/
import Derived.Test.YtpahbpgkmebieaaW16
namespace Go.Proofs.Ytpahbpgkmebieaa
open Go.RowKit
set_option maxHeartbeats 400000
set_option maxRecDepth 100000

theorem err_0 {b : Bool} {n : Int} (hn : n ≠ 0) (h : err b n = 0) : b = true := by
  cases b
  · exact absurd ((err_f n (by simp)).symm.trans h) hn
  · rfl
theorem firstE_cons (x : Int) (r : List Int) : firstE (x :: r) = if x = 0 then firstE r else x := by
  by_cases h : x = 0
  · rw [if_pos h, firstE_no _ (by simp [h])]
  · rw [if_neg h, firstE_yes _ (by simpa using h)]
theorem firstE3_0 {a b c : Int} (h : firstE [a, b, c] = 0) : a = 0 ∧ b = 0 ∧ c = 0 := by
  rw [firstE_cons, firstE_cons, firstE_cons] at h
  by_cases h1 : a = 0
  · by_cases h2 : b = 0
    · by_cases h3 : c = 0
      · exact ⟨h1, h2, h3⟩
      · simp [h1, h2, h3] at h
    · simp [h1, h2] at h
  · simp [h1] at h
theorem firstE2_0 {a b : Int} (h : firstE [a, b] = 0) : a = 0 ∧ b = 0 := by
  rw [firstE_cons, firstE_cons] at h
  by_cases h1 : a = 0
  · by_cases h2 : b = 0
    · exact ⟨h1, h2⟩
    · simp [h1, h2] at h
  · simp [h1] at h

/-- The error, and the distance where there is none. -/
def distE (w0 w1 w2 w3 w4 a0 a1 a2 a3 a4 a5 b0 b1 b2 b3 b4 b5 : Int) : Int := firstE [err (okW w0 w1 w2 w3 w4) 11, err (okM a0 a1 a2 a3 a4 a5) 10, err (okM b0 b1 b2 b3 b4 b5) 10]
def distV (w0 w1 w2 w3 w4 a0 a1 a2 a3 a4 a5 b0 b1 b2 b3 b4 b5 : Int) : Int := if distE w0 w1 w2 w3 w4 a0 a1 a2 a3 a4 a5 b0 b1 b2 b3 b4 b5 = 0 then wdist w0 w1 w2 w3 w4 a0 a1 a2 a3 a4 a5 b0 b1 b2 b3 b4 b5 else 0

theorem distance_any (w0 w1 w2 w3 w4 a0 a1 a2 a3 a4 a5 b0 b1 b2 b3 b4 b5 : Int) (w : World) :
    Calls Try.prog 25 #[.agg #[.int .i64 w0, .int .i64 w1, .int .i64 w2, .int .i64 w3, .int .i64 w4], .agg #[.int .i64 a0, .int .i64 a1, .int .i64 a2, .int .i64 a3, .int .i64 a4, .int .i64 a5], .agg #[.int .i64 b0, .int .i64 b1, .int .i64 b2, .int .i64 b3, .int .i64 b4, .int .i64 b5]] w fun e w' => e = .returned (.tuple #[.int .i64 (distV w0 w1 w2 w3 w4 a0 a1 a2 a3 a4 a5 b0 b1 b2 b3 b4 b5), .int .i64 (distE w0 w1 w2 w3 w4 a0 a1 a2 a3 a4 a5 b0 b1 b2 b3 b4 b5)]) ∧ Below w.heap.size w w' := by
  go_enter Try.func25, Try.ntmps25
  go_wp2_with fail
  generalize hW : (World.alloc _ _) = W
  have HW : Hid (Below w.heap.size w W) := Lib.hid (by subst hW; go_grown)
  have hs : w.heap.size + 2 < W.heap.size := by subst hW; simp
  have hs1 : w.heap.size + 1 < W.heap.size := by omega
  have hs0 : w.heap.size < W.heap.size := by omega
  have cw : ∀ j, W.cell? ⟨w.heap.size, j, none⟩ = [Value.int .i64 w0, Value.int .i64 w1, Value.int .i64 w2, Value.int .i64 w3, Value.int .i64 w4][j]? := by subst hW; intro j; simp [go_sem]
  have ca : ∀ j, W.cell? ⟨w.heap.size + 1, j, none⟩ = [Value.int .i64 a0, Value.int .i64 a1, Value.int .i64 a2, Value.int .i64 a3, Value.int .i64 a4, Value.int .i64 a5][j]? := by subst hW; intro j; simp [go_sem]
  have cb : ∀ j, W.cell? ⟨w.heap.size + 1 + 1, j, none⟩ = [Value.int .i64 b0, Value.int .i64 b1, Value.int .i64 b2, Value.int .i64 b3, Value.int .i64 b4, Value.int .i64 b5][j]? := by subst hW; intro j; simp [go_sem]
  clear hW
  refine wp_region_grow_tail 6 (by kernel_rfl) (by kernel_rfl) ?_
  simp only [List.take_succ_cons, List.take_zero, List.drop_succ_cons, List.drop_zero]
  repeat (go_big_quiet_step ((first | (go_at_call 16; exact quiet_grow rfl (checkWear_any _ _ _ _ _ _)) | (go_at_call 14; exact quiet_grow rfl (checkMark_any _ _ _ _ _ _ _)))))
  refine wpQuiet_nil ?_
  intro z
  have e1 : w.heap.size < W.heap.size + z.blocks.size := by omega
  have e2 : w.heap.size + 1 < W.heap.size + z.blocks.size := by omega
  have e3 : w.heap.size + 1 + 1 < W.heap.size + z.blocks.size := by omega
  have e4 : w.heap.size + 1 + 1 < W.heap.size := by omega
  by_cases hE : distE w0 w1 w2 w3 w4 a0 a1 a2 a3 a4 a5 b0 b1 b2 b3 b4 b5 = 0
  · have HE := Lib.hid hE
    have hE1 := hE
    unfold distE at hE1
    obtain ⟨o1, o2, o3⟩ := firstE3_0 hE1
    have m2 := (okM_iff _ _ _ _ _ _).1 (err_0 (by decide) o2)
    have m3 := (okM_iff _ _ _ _ _ _).1 (err_0 (by decide) o3)
    clear o1 o2 o3
    obtain ⟨⟨p0, q0⟩, ⟨p1, q1⟩, ⟨p2, q2⟩, ⟨p3, q3⟩, ⟨p4, q4⟩, ⟨p5, q5⟩⟩ := m2
    obtain ⟨⟨r0, s0⟩, ⟨r1, s1⟩, ⟨r2, s2⟩, ⟨r3, s3⟩, ⟨r4, s4⟩, ⟨r5, s5⟩⟩ := m3
    have HE1 := Lib.hid hE1
    clear hE hE1
    go_wp2_with (go_at_call 75; refine (first_any _ _ _ _ _ (is3 _ _ _ _ _ _ (by simp))).mono ?_; rintro e x1 ⟨rfl, rfl⟩; rw [HE1.out])
    refine wp_region_grow (by kernel_rfl) (by kernel_rfl) ?_
    repeat (go_big_quiet_step ((first | (go_at_call 77; exact quiet_grow rfl (wornRow_any _ _ _ _ _ _ _ _ _ _ _ _ (by assumption) (by assumption) (by assumption) (by assumption) (by assumption) (by assumption) (by assumption) (by assumption) (by assumption) (by assumption) (by assumption) (by assumption))) | (go_at_call 76; exact quiet_grow rfl (false_any _ _ _ _ _ _ _ _ _ _ _ _ _)))))
    refine wpQuiet_nil ?_
    intro z2
    go_wp2
    go_ret2
    refine ⟨ret_ii ?_ HE.out.symm, up HW.out (up (grow_below W z) (up (up_alloc _ _) (grow_below _ z2)))⟩
    unfold distV; rw [if_pos HE.out]; rfl
  · have HE := Lib.hid hE
    have hb : (distE w0 w1 w2 w3 w4 a0 a1 a2 a3 a4 a5 b0 b1 b2 b3 b4 b5 != 0) = true := by simpa using hE
    clear hE
    go_wp2_with (go_at_call 75; refine (first_any _ _ _ _ _ (is3 _ _ _ _ _ _ (by simp))).mono ?_; rintro e x1 ⟨rfl, rfl⟩; rw [show firstE [err (okW w0 w1 w2 w3 w4) 11, err (okM a0 a1 a2 a3 a4 a5) 10, err (okM b0 b1 b2 b3 b4 b5) 10] = distE w0 w1 w2 w3 w4 a0 a1 a2 a3 a4 a5 b0 b1 b2 b3 b4 b5 from rfl])
    go_ret2
    refine ⟨ret_ii ?_ rfl, up HW.out (up (grow_below W z) (up_alloc _ _))⟩
    unfold distV; rw [if_neg HE.out]

theorem tmod_neg_add {a n : Int} (hn : 0 < n) (h : a.tmod n < 0) : a.tmod n + n = a % n := by
  rw [Int.tmod_eq_emod] at *
  have := Int.emod_nonneg a (by omega : n ≠ 0)
  have := Int.emod_lt_of_pos a hn
  split at h
  · omega
  · rw [if_neg (by assumption)]; omega
theorem tmod_pos_eq {a n : Int} (hn : 0 < n) (h : ¬ a.tmod n < 0) : a.tmod n = a % n := by
  rw [Int.tmod_eq_emod] at *
  have := Int.emod_nonneg a (by omega : n ≠ 0)
  have := Int.emod_lt_of_pos a hn
  split at h
  · rw [if_pos (by assumption)]; omega
  · omega

theorem modulo_any (a n : Int) (w : World) (hn : 0 < n) (hn2 : n ≤ 1000) :
    Calls Try.prog 104 #[.int .i64 a, .int .i64 n] w fun e w' => e = .returned (.int .i64 (a % n)) ∧ w = w' := by
  have hb : (n == 0) = false := by simp; omega
  have h1 : n ≠ 0 := by omega
  have b1 := Int.tmod_lt_of_pos a hn
  have b2 : -n < a.tmod n := by
    rw [Int.tmod_eq_emod]
    have := Int.emod_nonneg a (by omega : n ≠ 0)
    split <;> omega
  by_cases h : a.tmod n < 0
  · have H := Lib.hid (tmod_neg_add hn h)
    go_enter Try.func104, Try.ntmps104
    go_wp2
    go_ret
    exact ⟨congrArg (fun v => Ending.returned (Value.int .i64 v)) H.out, rfl⟩
  · have H := Lib.hid (tmod_pos_eq hn h)
    go_enter Try.func104, Try.ntmps104
    go_wp2
    go_ret
    exact ⟨congrArg (fun v => Ending.returned (Value.int .i64 v)) H.out, rfl⟩

/-- The choice with an index. -/
def pickL (l : List Int) (k : Nat) : Int := l.getD (k % l.length) 0
theorem pickAt_any (A : Option Addr) (n c : Nat) (l : List Int) (k : Nat) (w : World) (hg : Is w A n l) (hk : k < 9223372036854775807) :
    Calls Try.prog 105 #[.slice A n c, .int .i64 k] w fun e w' => e = .returned (.int .i64 (pickL l k)) ∧ w = w' := by
  have hn := hg.small
  have Hl : Hid (n = l.length) := Lib.hid hg.len
  by_cases h0 : n = 0
  · have hb : ((n : Int) == 0) = true := by simp [h0]
    have H0 := Lib.hid h0
    clear h0
    go_enter Try.func105, Try.ntmps105
    go_wp2
    go_ret
    refine ⟨congrArg (fun v => Ending.returned (Value.int .i64 v)) ?_, rfl⟩
    have : l = [] := List.eq_nil_of_length_eq_zero (by rw [← Hl.out]; exact H0.out)
    rw [this]; rfl
  · have hb : ((n : Int) == 0) = false := by simp [h0]
    have hlt : k % n < n := Nat.mod_lt _ (by omega)
    have hkl : k % n < l.length := by rw [← Hl.out]; exact hlt
    obtain ⟨b, o, rfl, hbl, hc⟩ := hg.get (k % n) hkl
    have Hv : Hid (pickL l k = l[k % n]) := Lib.hid (by unfold pickL; rw [← Hl.out]; simp [hkl])
    generalize l[k % n] = y at *
    have hm : ((k : Int)).tmod (n : Int) = ((k % n : Nat) : Int) := by rw [Int.tmod_eq_emod_of_nonneg (by omega)]; rfl
    generalize hq : k % n = q at *
    have Hq := Lib.hid hq
    clear hq
    go_enter Try.func105, Try.ntmps105
    go_wp2
    go_ret
    exact ⟨by rw [Hv.out]; rfl, rfl⟩
end Go.Proofs.Ytpahbpgkmebieaa
