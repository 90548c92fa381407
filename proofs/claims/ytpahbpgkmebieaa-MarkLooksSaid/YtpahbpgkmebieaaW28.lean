/- Meet, its error, and what it may return. Own text. -/
import Derived.Test.YtpahbpgkmebieaaW27
import Derived.Test.YtpahbpgkmebieaaW22
import Derived.IntWalk
namespace Go.Proofs.Ytpahbpgkmebieaa
open Go Go.RowKit
set_option maxHeartbeats 400000
set_option maxRecDepth 100000

theorem sharp_yes (r0 r1 r2 r3 r4 r5 : Int) (w : World) (hs : ∀ k : Nat, k < 6 → st (g6 r0 r1 r2 r3 r4 r5 k) ∧ (band (g6 r0 r1 r2 r3 r4 r5 k) (g6 r0 r1 r2 r3 r4 r5 k - 1) == 0) = true) :
    Calls Try.prog 83 #[.agg #[.int .i64 r0, .int .i64 r1, .int .i64 r2, .int .i64 r3, .int .i64 r4, .int .i64 r5]] w fun e w' => e = .returned (.bool true) ∧ Below w.heap.size w w' := by
  have HS := Lib.hid hs
  clear hs
  go_enter Try.func83, Try.ntmps83
  go_wp2
  generalize hW : (World.alloc _ _) = W
  have HW : Hid (Below w.heap.size w W) := Lib.hid (by subst hW; go_grown)
  have KR : Bk W w.heap.size [Value.int .i64 r0, Value.int .i64 r1, Value.int .i64 r2, Value.int .i64 r3, Value.int .i64 r4, Value.int .i64 r5] := ⟨by subst hW; simp only [World.size_alloc]; omega, by subst hW; intro j; simp [go_sem]⟩
  clear hW
  have KRl := KR.lt
  go_loopw [3] (fun i wr => ∃ (k : Nat) (z : Gr), k ≤ 6 ∧ i = .int .i64 k ∧ wr = grow W z) (fun i _ => 6 - (intOf i).toNat)
  case atStart => exact ⟨0, ⟨#[], W.drawn⟩, by omega, rfl, by simp [grow]⟩
  case round =>
    obtain ⟨k, z, hk, rfl, rfl⟩ := hrel
    by_cases hlt : k < 6
    · obtain ⟨⟨x1, x2⟩, hb⟩ := HS.out k hlt
      have cr : W.cell? ⟨w.heap.size, k, none⟩ = some (.int .i64 (g6 r0 r1 r2 r3 r4 r5 k)) := (KR.get k).trans (at6n _ _ _ _ _ _ k hlt)
      generalize g6 r0 r1 r2 r3 r4 r5 k = x at *
      have hb1 : (bits BinOp.and IntKind.i64 x (x - 1) == 0) = true := hb
      have hb2 : (bits BinOp.and IntKind.i64 x (x - 1) != 0) = false := by simpa using hb1
      have hw1 : IntKind.i64.wrap (x - 1) = x - 1 := IntWalk.i64_in _ (by omega)
      clear hb
      go_wp2
      refine wp_region_grow (by kernel_rfl) (by kernel_rfl) ?_
      repeat (go_big_quiet_step ((fail)))
      refine wpQuiet_nil ?_
      intro z2
      obtain ⟨y, hy⟩ := grow_grow W z z2
      rw [hy]
      clear hy hw1
      go_wp2
      exact ⟨⟨k + 1, y, by omega, by go_num, rfl⟩, by simp [intOf]; omega⟩
    · obtain rfl : k = 6 := by omega
      go_wp2
      go_ret
      exact ⟨rfl, up HW.out (grow_below W z)⟩

/-- The error of Meet. -/
def meetE (w0 w1 w2 w3 w4 p a0 a1 a2 a3 a4 a5 b0 b1 b2 b3 b4 b5 : Int) : Int := if distE w0 w1 w2 w3 w4 a0 a1 a2 a3 a4 a5 b0 b1 b2 b3 b4 b5 = 0 then (if 0 ≤ p ∧ p ≤ 2 then (if 2 * p < wdist w0 w1 w2 w3 w4 a0 a1 a2 a3 a4 a5 b0 b1 b2 b3 b4 b5 then 14 else 0) else 1) else distE w0 w1 w2 w3 w4 a0 a1 a2 a3 a4 a5 b0 b1 b2 b3 b4 b5
/-- What Meet reads at a place. -/
def meetK (w0 w1 w2 w3 w4 p a0 a1 a2 a3 a4 a5 b0 b1 b2 b3 b4 b5 : Int) (k : Nat) : Int := btK (fun j => g6 (g5 w0 w1 w2 w3 w4 a0) (g5 w0 w1 w2 w3 w4 a1) (g5 w0 w1 w2 w3 w4 a2) (g5 w0 w1 w2 w3 w4 a3) (g5 w0 w1 w2 w3 w4 a4) (g5 w0 w1 w2 w3 w4 a5) j) (fun j => g6 (g5 w0 w1 w2 w3 w4 b0) (g5 w0 w1 w2 w3 w4 b1) (g5 w0 w1 w2 w3 w4 b2) (g5 w0 w1 w2 w3 w4 b3) (g5 w0 w1 w2 w3 w4 b4) (g5 w0 w1 w2 w3 w4 b5) j) p k
def meetV (w0 w1 w2 w3 w4 p a0 a1 a2 a3 a4 a5 b0 b1 b2 b3 b4 b5 : Int) (k : Nat) : Int := if meetE w0 w1 w2 w3 w4 p a0 a1 a2 a3 a4 a5 b0 b1 b2 b3 b4 b5 = 0 then meetK w0 w1 w2 w3 w4 p a0 a1 a2 a3 a4 a5 b0 b1 b2 b3 b4 b5 k else 0

theorem meetE_1 {w0 w1 w2 w3 w4 p a0 a1 a2 a3 a4 a5 b0 b1 b2 b3 b4 b5 : Int} (h : distE w0 w1 w2 w3 w4 a0 a1 a2 a3 a4 a5 b0 b1 b2 b3 b4 b5 ≠ 0) : meetE w0 w1 w2 w3 w4 p a0 a1 a2 a3 a4 a5 b0 b1 b2 b3 b4 b5 = distE w0 w1 w2 w3 w4 a0 a1 a2 a3 a4 a5 b0 b1 b2 b3 b4 b5 := by unfold meetE; rw [if_neg h]
theorem meetE_2 {w0 w1 w2 w3 w4 p a0 a1 a2 a3 a4 a5 b0 b1 b2 b3 b4 b5 : Int} (h : distE w0 w1 w2 w3 w4 a0 a1 a2 a3 a4 a5 b0 b1 b2 b3 b4 b5 = 0) (h2 : ¬ (0 ≤ p ∧ p ≤ 2)) : meetE w0 w1 w2 w3 w4 p a0 a1 a2 a3 a4 a5 b0 b1 b2 b3 b4 b5 = 1 := by unfold meetE; rw [if_pos h, if_neg h2]
theorem meetE_3 {w0 w1 w2 w3 w4 p a0 a1 a2 a3 a4 a5 b0 b1 b2 b3 b4 b5 : Int} (h : distE w0 w1 w2 w3 w4 a0 a1 a2 a3 a4 a5 b0 b1 b2 b3 b4 b5 = 0) (h2 : 0 ≤ p ∧ p ≤ 2) (h3 : 2 * p < wdist w0 w1 w2 w3 w4 a0 a1 a2 a3 a4 a5 b0 b1 b2 b3 b4 b5) : meetE w0 w1 w2 w3 w4 p a0 a1 a2 a3 a4 a5 b0 b1 b2 b3 b4 b5 = 14 := by unfold meetE; rw [if_pos h, if_pos h2, if_pos h3]
theorem meetE_4 {w0 w1 w2 w3 w4 p a0 a1 a2 a3 a4 a5 b0 b1 b2 b3 b4 b5 : Int} (h : distE w0 w1 w2 w3 w4 a0 a1 a2 a3 a4 a5 b0 b1 b2 b3 b4 b5 = 0) (h2 : 0 ≤ p ∧ p ≤ 2) (h3 : ¬ 2 * p < wdist w0 w1 w2 w3 w4 a0 a1 a2 a3 a4 a5 b0 b1 b2 b3 b4 b5) : meetE w0 w1 w2 w3 w4 p a0 a1 a2 a3 a4 a5 b0 b1 b2 b3 b4 b5 = 0 := by unfold meetE; rw [if_pos h, if_pos h2, if_neg h3]

theorem distE_ok {w0 w1 w2 w3 w4 a0 a1 a2 a3 a4 a5 b0 b1 b2 b3 b4 b5 : Int} (h : distE w0 w1 w2 w3 w4 a0 a1 a2 a3 a4 a5 b0 b1 b2 b3 b4 b5 = 0) : okW w0 w1 w2 w3 w4 = true ∧ okM a0 a1 a2 a3 a4 a5 = true ∧ okM b0 b1 b2 b3 b4 b5 = true := by
  unfold distE at h
  obtain ⟨o1, o2, o3⟩ := firstE3_0 h
  exact ⟨err_0 (by decide) o1, err_0 (by decide) o2, err_0 (by decide) o3⟩
theorem worn6_st {w0 w1 w2 w3 w4 a0 a1 a2 a3 a4 a5 : Int} (h : okW w0 w1 w2 w3 w4 = true) (h2 : okM a0 a1 a2 a3 a4 a5 = true) : ∀ k : Nat, k < 6 → st (g6 (g5 w0 w1 w2 w3 w4 a0) (g5 w0 w1 w2 w3 w4 a1) (g5 w0 w1 w2 w3 w4 a2) (g5 w0 w1 w2 w3 w4 a3) (g5 w0 w1 w2 w3 w4 a4) (g5 w0 w1 w2 w3 w4 a5) k) := by
  obtain ⟨⟨p0, q0⟩, ⟨p1, q1⟩, ⟨p2, q2⟩, ⟨p3, q3⟩, ⟨p4, q4⟩, ⟨p5, q5⟩⟩ := (okM_iff _ _ _ _ _ _).1 h2
  intro k hk
  rcases (by omega : k = 0 ∨ k = 1 ∨ k = 2 ∨ k = 3 ∨ k = 4 ∨ k = 5) with rfl | rfl | rfl | rfl | rfl | rfl
  · exact worn_st h p0 q0
  · exact worn_st h p1 q1
  · exact worn_st h p2 q2
  · exact worn_st h p3 q3
  · exact worn_st h p4 q4
  · exact worn_st h p5 q5

theorem between_f (a0 a1 a2 a3 a4 a5 b0 b1 b2 b3 b4 b5 p : Int) (f : Nat → Int) (w : World) (hf : btK (fun j => g6 a0 a1 a2 a3 a4 a5 j) (fun j => g6 b0 b1 b2 b3 b4 b5 j) p = f) (hp0 : 0 ≤ p) (hp2 : p ≤ 2) (hsa : ∀ k : Nat, k < 6 → st (g6 a0 a1 a2 a3 a4 a5 k)) (hsb : ∀ k : Nat, k < 6 → st (g6 b0 b1 b2 b3 b4 b5 k)) :
    Calls Try.prog 82 #[.agg #[.int .i64 a0, .int .i64 a1, .int .i64 a2, .int .i64 a3, .int .i64 a4, .int .i64 a5], .agg #[.int .i64 b0, .int .i64 b1, .int .i64 b2, .int .i64 b3, .int .i64 b4, .int .i64 b5], .int .i64 p] w fun e w' => e = .returned (.agg #[.int .i64 (f 0), .int .i64 (f 1), .int .i64 (f 2), .int .i64 (f 3), .int .i64 (f 4), .int .i64 (f 5)]) ∧ Below w.heap.size w w' := by
  subst hf
  exact between_any a0 a1 a2 a3 a4 a5 b0 b1 b2 b3 b4 b5 p w hp0 hp2 hsa hsb

set_option maxHeartbeats 800000 in
theorem meet_any (w0 w1 w2 w3 w4 p a0 a1 a2 a3 a4 a5 b0 b1 b2 b3 b4 b5 : Int) (w : World) :
    Calls Try.prog 29 #[.agg #[.int .i64 w0, .int .i64 w1, .int .i64 w2, .int .i64 w3, .int .i64 w4], .int .i64 p, .agg #[.int .i64 a0, .int .i64 a1, .int .i64 a2, .int .i64 a3, .int .i64 a4, .int .i64 a5], .agg #[.int .i64 b0, .int .i64 b1, .int .i64 b2, .int .i64 b3, .int .i64 b4, .int .i64 b5]] w fun e w' => e = .returned (.tuple #[.agg #[.int .i64 (meetV w0 w1 w2 w3 w4 p a0 a1 a2 a3 a4 a5 b0 b1 b2 b3 b4 b5 0), .int .i64 (meetV w0 w1 w2 w3 w4 p a0 a1 a2 a3 a4 a5 b0 b1 b2 b3 b4 b5 1), .int .i64 (meetV w0 w1 w2 w3 w4 p a0 a1 a2 a3 a4 a5 b0 b1 b2 b3 b4 b5 2), .int .i64 (meetV w0 w1 w2 w3 w4 p a0 a1 a2 a3 a4 a5 b0 b1 b2 b3 b4 b5 3), .int .i64 (meetV w0 w1 w2 w3 w4 p a0 a1 a2 a3 a4 a5 b0 b1 b2 b3 b4 b5 4), .int .i64 (meetV w0 w1 w2 w3 w4 p a0 a1 a2 a3 a4 a5 b0 b1 b2 b3 b4 b5 5)], .int .i64 (meetE w0 w1 w2 w3 w4 p a0 a1 a2 a3 a4 a5 b0 b1 b2 b3 b4 b5)]) ∧ Below w.heap.size w w' := by
  go_enter Try.func29, Try.ntmps29
  go_wp2_with fail
  generalize hW : (World.alloc _ _) = W
  have HW : Hid (Below w.heap.size w W) := Lib.hid (by subst hW; go_grown)
  have KW : Bk W w.heap.size [Value.int .i64 w0, Value.int .i64 w1, Value.int .i64 w2, Value.int .i64 w3, Value.int .i64 w4] := ⟨by subst hW; simp only [World.size_alloc]; omega, by subst hW; intro j; simp [go_sem]⟩
  have KA : Bk W (w.heap.size + 1) [Value.int .i64 a0, Value.int .i64 a1, Value.int .i64 a2, Value.int .i64 a3, Value.int .i64 a4, Value.int .i64 a5] := ⟨by subst hW; simp only [World.size_alloc]; omega, by subst hW; intro j; simp [go_sem]⟩
  have KB : Bk W (w.heap.size + 1 + 1) [Value.int .i64 b0, Value.int .i64 b1, Value.int .i64 b2, Value.int .i64 b3, Value.int .i64 b4, Value.int .i64 b5] := ⟨by subst hW; simp only [World.size_alloc]; omega, by subst hW; intro j; simp [go_sem]⟩
  have KX : Bk W (w.heap.size + 1 + 1 + 1) [.int .i64 0, .int .i64 0, .int .i64 0, .int .i64 0, .int .i64 0, .int .i64 0] := ⟨by subst hW; simp only [World.size_alloc]; omega, by subst hW; intro j; simp [go_sem]⟩
  have FX : Hid (∀ j, W.frozen? ⟨w.heap.size + 1 + 1 + 1, j, none⟩ = false) := Lib.hid (by subst hW; intro j; simp [go_sem])
  clear hW
  have KWl := KW.lt; have KWc := KW.get; have KAl := KA.lt; have KAc := KA.get; have KBl := KB.lt; have KBc := KB.get; have KXl := KX.lt; have KXc := KX.get
  refine wp_region_grow_tail 6 (by kernel_rfl) (by kernel_rfl) ?_
  simp only [List.take_succ_cons, List.take_zero, List.drop_succ_cons, List.drop_zero]
  repeat (go_big_quiet_step ((first | (go_at_call 16; exact quiet_grow rfl (checkWear_any _ _ _ _ _ _)) | (go_at_call 14; exact quiet_grow rfl (checkMark_any _ _ _ _ _ _ _)))))
  refine wpQuiet_nil ?_
  intro z
  go_wp2_with fail
  refine Calls.mono (first_any _ _ _ _ _ (is3 _ _ _ _ _ _ (by simp))) ?_
  rintro e x1 ⟨rfl, rfl⟩
  rw [show firstE [err (okW w0 w1 w2 w3 w4) 11, err (okM a0 a1 a2 a3 a4 a5) 10, err (okM b0 b1 b2 b3 b4 b5) 10] = distE w0 w1 w2 w3 w4 a0 a1 a2 a3 a4 a5 b0 b1 b2 b3 b4 b5 from rfl]
  generalize hV : World.alloc (grow W z) _ = V
  have hb : Below W.heap.size W V := by subst hV; exact up (grow_below W z) (up_alloc _ _)
  clear hV
  have frV : ∀ j, V.frozen? ⟨w.heap.size + 1 + 1 + 1, j, none⟩ = false := fun j => (hb.frozen (p := ⟨w.heap.size + 1 + 1 + 1, j, none⟩) KX.lt).trans (FX.out j)
  clear KWl KWc KAl KAc KBl KBc KXl KXc; replace KW := KW.keep hb; have KWl := KW.lt; have KWc := KW.get; replace KA := KA.keep hb; have KAl := KA.lt; have KAc := KA.get; replace KB := KB.keep hb; have KBl := KB.lt; have KBc := KB.get; replace KX := KX.keep hb; have KXl := KX.lt; have KXc := KX.get; have HV := Lib.hid hb; clear hb
  by_cases hE : distE w0 w1 w2 w3 w4 a0 a1 a2 a3 a4 a5 b0 b1 b2 b3 b4 b5 = 0
  rotate_left
  · have HE := Lib.hid hE
    have hb : (distE w0 w1 w2 w3 w4 a0 a1 a2 a3 a4 a5 b0 b1 b2 b3 b4 b5 != 0) = true := by simpa using hE
    have Ex : Hid (∀ j, j < 6 → (V.cell? ⟨w.heap.size + 1 + 1 + 1, j, none⟩).isSome = true) := Lib.hid (by
      intro j hj
      rw [KXc j]
      rcases (by omega : j = 0 ∨ j = 1 ∨ j = 2 ∨ j = 3 ∨ j = 4 ∨ j = 5) with rfl | rfl | rfl | rfl | rfl | rfl <;> rfl)
    clear hE
    go_wp2
    have P := put6 V (w.heap.size + 1 + 1 + 1) (.int .i64 0) (.int .i64 0) (.int .i64 0) (.int .i64 0) (.int .i64 0) (.int .i64 0) Ex.out
    have B := put6_below (up HW.out HV.out) (by omega : w.heap.size ≤ w.heap.size + 1 + 1 + 1) (.int .i64 0) (.int .i64 0) (.int .i64 0) (.int .i64 0) (.int .i64 0) (.int .i64 0)
    generalize World.setCell _ ⟨w.heap.size + 1 + 1 + 1, 5, none⟩ _ = U at P B ⊢
    have p0 := P 0 (by omega); have p1 := P 1 (by omega); have p2 := P 2 (by omega); have p3 := P 3 (by omega); have p4 := P 4 (by omega); have p5 := P 5 (by omega)
    clear P
    simp at p0 p1 p2 p3 p4 p5
    refine bodyPost_ret (v := .tuple #[.agg #[.int .i64 0, .int .i64 0, .int .i64 0, .int .i64 0, .int .i64 0, .int .i64 0], .int .i64 (distE w0 w1 w2 w3 w4 a0 a1 a2 a3 a4 a5 b0 b1 b2 b3 b4 b5)]) (by simp [results, Try.results29, go_sem, p0, p1, p2, p3, p4, p5]) rfl ⟨?_, B⟩
    have Hv : ∀ k, meetV w0 w1 w2 w3 w4 p a0 a1 a2 a3 a4 a5 b0 b1 b2 b3 b4 b5 k = 0 := fun k => by unfold meetV; rw [meetE_1 HE.out, if_neg HE.out]
    rw [Hv, Hv, Hv, Hv, Hv, Hv, meetE_1 HE.out]
  have HE := Lib.hid hE
  obtain ⟨ow, om, om2⟩ := distE_ok hE
  have HO : Hid (okW w0 w1 w2 w3 w4 = true ∧ okM a0 a1 a2 a3 a4 a5 = true ∧ okM b0 b1 b2 b3 b4 b5 = true) := Lib.hid ⟨ow, om, om2⟩
  obtain ⟨⟨p0, q0⟩, ⟨p1, q1⟩, ⟨p2, q2⟩, ⟨p3, q3⟩, ⟨p4, q4⟩, ⟨p5, q5⟩⟩ := (okM_iff _ _ _ _ _ _).1 om
  obtain ⟨⟨r0, s0⟩, ⟨r1, s1⟩, ⟨r2, s2⟩, ⟨r3, s3⟩, ⟨r4, s4⟩, ⟨r5, s5⟩⟩ := (okM_iff _ _ _ _ _ _).1 om2
  rw [hE]
  clear hE ow om om2
  by_cases hp : 0 ≤ p ∧ p ≤ 2
  rotate_left
  · have HP := Lib.hid hp
    have Ex : Hid (∀ j, j < 6 → (V.cell? ⟨w.heap.size + 1 + 1 + 1, j, none⟩).isSome = true) := Lib.hid (by
      intro j hj
      rw [KXc j]
      rcases (by omega : j = 0 ∨ j = 1 ∨ j = 2 ∨ j = 3 ∨ j = 4 ∨ j = 5) with rfl | rfl | rfl | rfl | rfl | rfl <;> rfl)
    clear hp
    go_wp2_with (go_at_call 70; refine (places_dec _ _).mono ?_; rintro e x2 (⟨rfl, hi, rfl⟩ | ⟨rfl, hi, rfl⟩))
    · exact absurd hi HP.out
    have P := put6 V (w.heap.size + 1 + 1 + 1) (.int .i64 0) (.int .i64 0) (.int .i64 0) (.int .i64 0) (.int .i64 0) (.int .i64 0) Ex.out
    have B := put6_below (up HW.out HV.out) (by omega : w.heap.size ≤ w.heap.size + 1 + 1 + 1) (.int .i64 0) (.int .i64 0) (.int .i64 0) (.int .i64 0) (.int .i64 0) (.int .i64 0)
    generalize World.setCell _ ⟨w.heap.size + 1 + 1 + 1, 5, none⟩ _ = U at P B ⊢
    have p0 := P 0 (by omega); have p1 := P 1 (by omega); have p2 := P 2 (by omega); have p3 := P 3 (by omega); have p4 := P 4 (by omega); have p5 := P 5 (by omega)
    clear P
    simp at p0 p1 p2 p3 p4 p5
    refine bodyPost_ret (v := .tuple #[.agg #[.int .i64 0, .int .i64 0, .int .i64 0, .int .i64 0, .int .i64 0, .int .i64 0], .int .i64 1]) (by simp [results, Try.results29, go_sem, p0, p1, p2, p3, p4, p5]) rfl ⟨?_, B⟩
    have Hv : ∀ k, meetV w0 w1 w2 w3 w4 p a0 a1 a2 a3 a4 a5 b0 b1 b2 b3 b4 b5 k = 0 := fun k => by unfold meetV; rw [meetE_2 HE.out HP.out, if_neg (by decide)]
    rw [Hv, Hv, Hv, Hv, Hv, Hv, meetE_2 HE.out HP.out]
  have HP := Lib.hid hp
  obtain ⟨hp0, hp2⟩ := hp
  have HA := Lib.hid (apartB_eq (p := p) HO.out.1 hp0 p0 q0 p1 q1 p2 q2 p3 q3 p4 q4 p5 q5 (b0 := b0) (b1 := b1) (b2 := b2) (b3 := b3) (b4 := b4) (b5 := b5))
  go_wp2_with (go_at_call 70; refine (places_dec _ _).mono ?_; rintro e x2 (⟨rfl, hi, rfl⟩ | ⟨rfl, hi, rfl⟩))
  rotate_left
  · exact absurd HP.out hi
  clear hi
  refine (apart_any w0 w1 w2 w3 w4 p a0 a1 a2 a3 a4 a5 b0 b1 b2 b3 b4 b5 V p0 q0 p1 q1 p2 q2 p3 q3 p4 q4 p5 q5 r0 s0 r1 s1 r2 s2 r3 s3 r4 s4 r5 s5 hp0 hp2).mono ?_
  rintro e x3 ⟨rfl, hb3⟩
  rw [HA.out]
  have frV3 : ∀ j, x3.frozen? ⟨w.heap.size + 1 + 1 + 1, j, none⟩ = false := fun j => (hb3.frozen (p := ⟨w.heap.size + 1 + 1 + 1, j, none⟩) KX.lt).trans (frV j)
  clear frV
  clear KWl KWc KAl KAc KBl KBc KXl KXc; replace KW := KW.keep hb3; have KWl := KW.lt; have KWc := KW.get; replace KA := KA.keep hb3; have KAl := KA.lt; have KAc := KA.get; replace KB := KB.keep hb3; have KBl := KB.lt; have KBc := KB.get; replace KX := KX.keep hb3; have KXl := KX.lt; have KXc := KX.get; have HB3 := Lib.hid hb3; clear hb3
  by_cases hd : 2 * p < wdist w0 w1 w2 w3 w4 a0 a1 a2 a3 a4 a5 b0 b1 b2 b3 b4 b5
  · have Ex : Hid (∀ j, j < 6 → (x3.cell? ⟨w.heap.size + 1 + 1 + 1, j, none⟩).isSome = true) := Lib.hid (by
      intro j hj
      rw [KXc j]
      rcases (by omega : j = 0 ∨ j = 1 ∨ j = 2 ∨ j = 3 ∨ j = 4 ∨ j = 5) with rfl | rfl | rfl | rfl | rfl | rfl <;> rfl)
    go_wp2
    have P := put6 x3 (w.heap.size + 1 + 1 + 1) (.int .i64 0) (.int .i64 0) (.int .i64 0) (.int .i64 0) (.int .i64 0) (.int .i64 0) Ex.out
    have B := put6_below (up HW.out (up HV.out HB3.out)) (by omega : w.heap.size ≤ w.heap.size + 1 + 1 + 1) (.int .i64 0) (.int .i64 0) (.int .i64 0) (.int .i64 0) (.int .i64 0) (.int .i64 0)
    generalize World.setCell _ ⟨w.heap.size + 1 + 1 + 1, 5, none⟩ _ = U at P B ⊢
    have p0 := P 0 (by omega); have p1 := P 1 (by omega); have p2 := P 2 (by omega); have p3 := P 3 (by omega); have p4 := P 4 (by omega); have p5 := P 5 (by omega)
    clear P
    simp at p0 p1 p2 p3 p4 p5
    refine bodyPost_ret (v := .tuple #[.agg #[.int .i64 0, .int .i64 0, .int .i64 0, .int .i64 0, .int .i64 0, .int .i64 0], .int .i64 14]) (by simp [results, Try.results29, go_sem, p0, p1, p2, p3, p4, p5]) rfl ⟨?_, B⟩
    have Hv : ∀ k, meetV w0 w1 w2 w3 w4 p a0 a1 a2 a3 a4 a5 b0 b1 b2 b3 b4 b5 k = 0 := fun k => by unfold meetV; rw [meetE_3 HE.out HP.out hd, if_neg (by decide)]
    rw [Hv, Hv, Hv, Hv, Hv, Hv, meetE_3 HE.out HP.out hd]
  · have HD := Lib.hid hd
    have hdd : decide (2 * p < wdist w0 w1 w2 w3 w4 a0 a1 a2 a3 a4 a5 b0 b1 b2 b3 b4 b5) = false := by simpa using hd
    have Hv : Hid (∀ k, meetV w0 w1 w2 w3 w4 p a0 a1 a2 a3 a4 a5 b0 b1 b2 b3 b4 b5 k = meetK w0 w1 w2 w3 w4 p a0 a1 a2 a3 a4 a5 b0 b1 b2 b3 b4 b5 k) := Lib.hid (fun k => by unfold meetV; rw [meetE_4 HE.out HP.out (by have := HD.out; omega), if_pos rfl])
    generalize hf : meetK w0 w1 w2 w3 w4 p a0 a1 a2 a3 a4 a5 b0 b1 b2 b3 b4 b5 = f at *
    have HF : Hid (btK (fun j => g6 (g5 w0 w1 w2 w3 w4 a0) (g5 w0 w1 w2 w3 w4 a1) (g5 w0 w1 w2 w3 w4 a2) (g5 w0 w1 w2 w3 w4 a3) (g5 w0 w1 w2 w3 w4 a4) (g5 w0 w1 w2 w3 w4 a5) j) (fun j => g6 (g5 w0 w1 w2 w3 w4 b0) (g5 w0 w1 w2 w3 w4 b1) (g5 w0 w1 w2 w3 w4 b2) (g5 w0 w1 w2 w3 w4 b3) (g5 w0 w1 w2 w3 w4 b4) (g5 w0 w1 w2 w3 w4 b5) j) p = f) := Lib.hid hf
    clear hd hf
    go_wp2
    refine wp_region_grow_tail 8 (by kernel_rfl) (by kernel_rfl) ?_
    simp only [List.take_succ_cons, List.take_zero, List.drop_succ_cons, List.drop_zero]
    repeat (go_big_quiet_step ((first | (go_at_call 77; exact quiet_grow rfl (wornRow_any _ _ _ _ _ _ _ _ _ _ _ _ (by assumption) (by assumption) (by assumption) (by assumption) (by assumption) (by assumption) (by assumption) (by assumption) (by assumption) (by assumption) (by assumption) (by assumption))) | (go_at_call 82; exact quiet_grow rfl (between_f _ _ _ _ _ _ _ _ _ _ _ _ p f _ HF.out hp0 hp2 (worn6_st HO.out.1 HO.out.2.1) (worn6_st HO.out.1 HO.out.2.2))))))
    refine wpQuiet_nil ?_
    intro z2
    have hbz : Below x3.heap.size x3 (grow x3 z2) := grow_below x3 z2
    have frz : ∀ j, (grow x3 z2).frozen? ⟨w.heap.size + 1 + 1 + 1, j, none⟩ = false := fun j => (hbz.frozen (p := ⟨w.heap.size + 1 + 1 + 1, j, none⟩) KX.lt).trans (frV3 j)
    have KZ := KX.keep hbz
    generalize grow x3 z2 = Y at *
    have KZl := KZ.lt
    have KZc := KZ.get
    have Ex : Hid (∀ j, j < 6 → (Y.cell? ⟨w.heap.size + 1 + 1 + 1, j, none⟩).isSome = true) := Lib.hid (by
      intro j hj
      rw [KZc j]
      rcases (by omega : j = 0 ∨ j = 1 ∨ j = 2 ∨ j = 3 ∨ j = 4 ∨ j = 5) with rfl | rfl | rfl | rfl | rfl | rfl <;> rfl)
    go_wp2
    have P := put6 Y (w.heap.size + 1 + 1 + 1) (.int .i64 (f 0)) (.int .i64 (f 1)) (.int .i64 (f 2)) (.int .i64 (f 3)) (.int .i64 (f 4)) (.int .i64 (f 5)) Ex.out
    have B := put6_below (up HW.out (up HV.out (up HB3.out hbz))) (by omega : w.heap.size ≤ w.heap.size + 1 + 1 + 1) (.int .i64 (f 0)) (.int .i64 (f 1)) (.int .i64 (f 2)) (.int .i64 (f 3)) (.int .i64 (f 4)) (.int .i64 (f 5))
    generalize World.setCell _ ⟨w.heap.size + 1 + 1 + 1, 5, none⟩ _ = U at P B ⊢
    have p0 := P 0 (by omega); have p1 := P 1 (by omega); have p2 := P 2 (by omega); have p3 := P 3 (by omega); have p4 := P 4 (by omega); have p5 := P 5 (by omega)
    clear P
    simp at p0 p1 p2 p3 p4 p5
    refine bodyPost_ret (v := .tuple #[.agg #[.int .i64 (f 0), .int .i64 (f 1), .int .i64 (f 2), .int .i64 (f 3), .int .i64 (f 4), .int .i64 (f 5)], .int .i64 0]) (by simp [results, Try.results29, go_sem, p0, p1, p2, p3, p4, p5]) rfl ⟨?_, B⟩
    rw [Hv.out, Hv.out, Hv.out, Hv.out, Hv.out, Hv.out, meetE_4 HE.out HP.out (by have := HD.out; omega)]

theorem meetError_any (w0 w1 w2 w3 w4 p a0 a1 a2 a3 a4 a5 b0 b1 b2 b3 b4 b5 : Int) (w : World) :
    Calls Try.prog 30 #[.agg #[.int .i64 w0, .int .i64 w1, .int .i64 w2, .int .i64 w3, .int .i64 w4], .int .i64 p, .agg #[.int .i64 a0, .int .i64 a1, .int .i64 a2, .int .i64 a3, .int .i64 a4, .int .i64 a5, .int .i64 b0, .int .i64 b1, .int .i64 b2, .int .i64 b3, .int .i64 b4, .int .i64 b5]] w fun e w' => e = .returned (.int .i64 (meetE w0 w1 w2 w3 w4 p a0 a1 a2 a3 a4 a5 b0 b1 b2 b3 b4 b5)) ∧ Below w.heap.size w w' := by
  have hw2 := wdist_bd w0 w1 w2 w3 w4 a0 a1 a2 a3 a4 a5 b0 b1 b2 b3 b4 b5
  obtain ⟨hw0, hw6⟩ := hw2
  go_enter Try.func30, Try.ntmps30
  go_wp2_with fail
  generalize hW : (World.alloc _ _) = W
  have HW : Hid (Below w.heap.size w W) := Lib.hid (by subst hW; go_grown)
  clear hW
  refine (refDistanceX_any w0 w1 w2 w3 w4 a0 a1 a2 a3 a4 a5 b0 b1 b2 b3 b4 b5 W).mono ?_
  rintro e x1 ⟨rfl, hb1⟩
  have HB := Lib.hid (up HW.out hb1)
  clear hb1
  by_cases hE : distE w0 w1 w2 w3 w4 a0 a1 a2 a3 a4 a5 b0 b1 b2 b3 b4 b5 = 0
  rotate_left
  · have HE := Lib.hid hE
    have hb : (distE w0 w1 w2 w3 w4 a0 a1 a2 a3 a4 a5 b0 b1 b2 b3 b4 b5 != 0) = true := by simpa using hE
    clear hE
    go_wp2
    go_ret
    exact ⟨congrArg (fun v => Ending.returned (Value.int .i64 v)) (meetE_1 HE.out).symm, HB.out⟩
  have HE := Lib.hid hE
  have Hv : Hid (distV w0 w1 w2 w3 w4 a0 a1 a2 a3 a4 a5 b0 b1 b2 b3 b4 b5 = wdist w0 w1 w2 w3 w4 a0 a1 a2 a3 a4 a5 b0 b1 b2 b3 b4 b5) := Lib.hid (by unfold distV; rw [if_pos hE])
  rw [hE, Hv.out]
  clear hE
  by_cases hp : 0 ≤ p ∧ p ≤ 2
  rotate_left
  · have HP := Lib.hid hp
    clear hp
    go_wp2_with (go_at_call 67; refine (in_dec _ _ _ _).mono ?_; rintro e x2 (⟨rfl, hi, rfl⟩ | ⟨rfl, hi, rfl⟩))
    all_goals first
      | exact absurd hi HP.out
      | (go_ret; exact ⟨congrArg (fun v => Ending.returned (Value.int .i64 v)) (meetE_2 HE.out HP.out).symm, HB.out⟩)
  have HP := Lib.hid hp
  obtain ⟨hp0, hp2⟩ := hp
  by_cases hd : 2 * p < wdist w0 w1 w2 w3 w4 a0 a1 a2 a3 a4 a5 b0 b1 b2 b3 b4 b5
  · go_wp2_with (go_at_call 67; refine (in_dec _ _ _ _).mono ?_; rintro e x2 (⟨rfl, hi, rfl⟩ | ⟨rfl, hi, rfl⟩))
    all_goals first
      | exact absurd HP.out hi
      | (go_ret; exact ⟨congrArg (fun v => Ending.returned (Value.int .i64 v)) (meetE_3 HE.out HP.out (by omega)).symm, HB.out⟩)
  · go_wp2_with (go_at_call 67; refine (in_dec _ _ _ _).mono ?_; rintro e x2 (⟨rfl, hi, rfl⟩ | ⟨rfl, hi, rfl⟩))
    all_goals first
      | exact absurd HP.out hi
      | (go_ret; exact ⟨congrArg (fun v => Ending.returned (Value.int .i64 v)) (meetE_4 HE.out HP.out (by omega)).symm, HB.out⟩)

theorem meets_yes (w0 w1 w2 w3 w4 p a0 a1 a2 a3 a4 a5 b0 b1 b2 b3 b4 b5 r0 r1 r2 r3 r4 r5 : Int) (w : World) (ha0 : 0 ≤ a0) (ka0 : a0 < 5) (ha1 : 0 ≤ a1) (ka1 : a1 < 5) (ha2 : 0 ≤ a2) (ka2 : a2 < 5) (ha3 : 0 ≤ a3) (ka3 : a3 < 5) (ha4 : 0 ≤ a4) (ka4 : a4 < 5) (ha5 : 0 ≤ a5) (ka5 : a5 < 5) (hb0 : 0 ≤ b0) (kb0 : b0 < 5) (hb1 : 0 ≤ b1) (kb1 : b1 < 5) (hb2 : 0 ≤ b2) (kb2 : b2 < 5) (hb3 : 0 ≤ b3) (kb3 : b3 < 5) (hb4 : 0 ≤ b4) (kb4 : b4 < 5) (hb5 : 0 ≤ b5) (kb5 : b5 < 5) (hr : okR r0 r1 r2 r3 r4 r5 = true) (hs : ∀ k : Nat, k < 6 → st (g6 r0 r1 r2 r3 r4 r5 k) ∧ (band (g6 r0 r1 r2 r3 r4 r5 k) (g6 r0 r1 r2 r3 r4 r5 k - 1) == 0) = true)
    (hca : wcost w0 w1 w2 w3 w4 a0 a1 a2 a3 a4 a5 r0 r1 r2 r3 r4 r5 ≤ p) (hcb : wcost w0 w1 w2 w3 w4 b0 b1 b2 b3 b4 b5 r0 r1 r2 r3 r4 r5 ≤ p) :
    Calls Try.prog 31 #[.agg #[.int .i64 w0, .int .i64 w1, .int .i64 w2, .int .i64 w3, .int .i64 w4], .int .i64 p, .agg #[.int .i64 a0, .int .i64 a1, .int .i64 a2, .int .i64 a3, .int .i64 a4, .int .i64 a5, .int .i64 b0, .int .i64 b1, .int .i64 b2, .int .i64 b3, .int .i64 b4, .int .i64 b5], .agg #[.int .i64 r0, .int .i64 r1, .int .i64 r2, .int .i64 r3, .int .i64 r4, .int .i64 r5]] w fun e w' => e = .returned (.bool true) ∧ Below w.heap.size w w' := by
  have HS := Lib.hid hs
  have HR := Lib.hid hr
  clear hs hr
  go_enter Try.func31, Try.ntmps31
  go_wp2_with fail
  generalize hW : (World.alloc _ _) = W
  have HW : Hid (Below w.heap.size w W) := Lib.hid (by subst hW; go_grown)
  have KW : Bk W w.heap.size [Value.int .i64 w0, Value.int .i64 w1, Value.int .i64 w2, Value.int .i64 w3, Value.int .i64 w4] := ⟨by subst hW; simp only [World.size_alloc]; omega, by subst hW; intro j; simp [go_sem]⟩
  have KP : Bk W (w.heap.size + 1) [.int .i64 a0, .int .i64 a1, .int .i64 a2, .int .i64 a3, .int .i64 a4, .int .i64 a5, .int .i64 b0, .int .i64 b1, .int .i64 b2, .int .i64 b3, .int .i64 b4, .int .i64 b5] := ⟨by subst hW; simp only [World.size_alloc]; omega, by subst hW; intro j; simp [go_sem]⟩
  have KR : Bk W (w.heap.size + 1 + 1) [Value.int .i64 r0, Value.int .i64 r1, Value.int .i64 r2, Value.int .i64 r3, Value.int .i64 r4, Value.int .i64 r5] := ⟨by subst hW; simp only [World.size_alloc]; omega, by subst hW; intro j; simp [go_sem]⟩
  clear hW
  refine (refCheckReading_yes r0 r1 r2 r3 r4 r5 W HR.out).mono ?_
  rintro e x1 ⟨rfl, hb1⟩
  have HB1 := Lib.hid hb1
  replace KW := KW.keep hb1; replace KP := KP.keep hb1; replace KR := KR.keep hb1; clear hb1
  have KWl := KW.lt; have KWc := KW.get; have KPl := KP.lt; have KPc := KP.get; have KRl := KR.lt; have KRc := KR.get
  go_wp2_with (first
    | (go_at_call 83; refine (sharp_yes r0 r1 r2 r3 r4 r5 _ HS.out).mono ?_; rintro e x2 ⟨rfl, hb2⟩; clear KWl KWc KPl KPc KRl KRc; replace KW := KW.keep hb2; have KWl := KW.lt; have KWc := KW.get; replace KP := KP.keep hb2; have KPl := KP.lt; have KPc := KP.get; replace KR := KR.keep hb2; have KRl := KR.lt; have KRc := KR.get; have HB2 := Lib.hid hb2; clear hb2)
    | fail)
  refine (refCost_any w0 w1 w2 w3 w4 a0 a1 a2 a3 a4 a5 r0 r1 r2 r3 r4 r5 _ ha0 ka0 ha1 ka1 ha2 ka2 ha3 ka3 ha4 ka4 ha5 ka5).mono ?_
  rintro e x3 ⟨rfl, hb3⟩
  clear KWl KWc KPl KPc KRl KRc; replace KW := KW.keep hb3; have KWl := KW.lt; have KWc := KW.get; replace KP := KP.keep hb3; have KPl := KP.lt; have KPc := KP.get; replace KR := KR.keep hb3; have KRl := KR.lt; have KRc := KR.get; have HB3 := Lib.hid hb3; clear hb3
  go_wp2_with fail
  refine (refCost_any w0 w1 w2 w3 w4 b0 b1 b2 b3 b4 b5 r0 r1 r2 r3 r4 r5 _ hb0 kb0 hb1 kb1 hb2 kb2 hb3 kb3 hb4 kb4 hb5 kb5).mono ?_
  rintro e x4 ⟨rfl, hb4⟩
  clear KWl KWc KPl KPc KRl KRc; replace KW := KW.keep hb4; have KWl := KW.lt; have KWc := KW.get; replace KP := KP.keep hb4; have KPl := KP.lt; have KPc := KP.get; replace KR := KR.keep hb4; have KRl := KR.lt; have KRc := KR.get; have HB4 := Lib.hid hb4; clear hb4
  go_wp2
  go_ret
  exact ⟨rfl, up HW.out (up HB1.out (up HB2.out (up HB3.out HB4.out)))⟩
end Go.Proofs.Ytpahbpgkmebieaa
