/- Counting places. Own text. -/
import Derived.Test.YtpahbpgkmebieaaW1
namespace Go.Proofs.Ytpahbpgkmebieaa
open Go.RowKit
set_option maxHeartbeats 400000
set_option maxRecDepth 100000

/-- 1 if two sets have nothing in common. -/
def mis (a b : Int) : Int := if (band a b == 0) = true then 1 else 0
theorem mis_yes {a b : Int} (h : (band a b == 0) = true) : mis a b = 1 := by unfold mis; rw [if_pos h]
theorem mis_no {a b : Int} (h : (band a b == 0) = false) : mis a b = 0 := by unfold mis; rw [if_neg (by simp [h])]
theorem mis_bd (a b : Int) : 0 ≤ mis a b ∧ mis a b ≤ 1 := by unfold mis; split <;> omega
def dist6 (a0 a1 a2 a3 a4 a5 b0 b1 b2 b3 b4 b5 : Int) : Int := mis a0 b0 + mis a1 b1 + mis a2 b2 + mis a3 b3 + mis a4 b4 + mis a5 b5
/-- A sum of the first k. -/
def sumK (f : Nat → Int) : Nat → Int
  | 0 => 0
  | k + 1 => sumK f k + f k
theorem sumK_bd (f : Nat → Int) (h : ∀ j, 0 ≤ f j ∧ f j ≤ 1) (k : Nat) : 0 ≤ sumK f k ∧ sumK f k ≤ k := by
  induction k with
  | zero => exact ⟨Int.le_refl _, Int.le_refl _⟩
  | succ k ih => have := h k; unfold sumK; omega
/-- .. of the places at which two rows miss each other. -/
def distK (a0 a1 a2 a3 a4 a5 b0 b1 b2 b3 b4 b5 : Int) (k : Nat) : Int := sumK (fun j => mis (g6 a0 a1 a2 a3 a4 a5 j) (g6 b0 b1 b2 b3 b4 b5 j)) k
theorem distK_6 (a0 a1 a2 a3 a4 a5 b0 b1 b2 b3 b4 b5 : Int) : distK a0 a1 a2 a3 a4 a5 b0 b1 b2 b3 b4 b5 6 = dist6 a0 a1 a2 a3 a4 a5 b0 b1 b2 b3 b4 b5 := by
  show 0 + mis a0 b0 + mis a1 b1 + mis a2 b2 + mis a3 b3 + mis a4 b4 + mis a5 b5 = _
  unfold dist6; omega
theorem distK_bd (a0 a1 a2 a3 a4 a5 b0 b1 b2 b3 b4 b5 : Int) (k : Nat) : 0 ≤ distK a0 a1 a2 a3 a4 a5 b0 b1 b2 b3 b4 b5 k ∧ distK a0 a1 a2 a3 a4 a5 b0 b1 b2 b3 b4 b5 k ≤ k :=
  sumK_bd _ (fun _ => mis_bd _ _) k
theorem dist6_bd (a0 a1 a2 a3 a4 a5 b0 b1 b2 b3 b4 b5 : Int) : 0 ≤ dist6 a0 a1 a2 a3 a4 a5 b0 b1 b2 b3 b4 b5 ∧ dist6 a0 a1 a2 a3 a4 a5 b0 b1 b2 b3 b4 b5 ≤ 6 := by
  have := distK_bd a0 a1 a2 a3 a4 a5 b0 b1 b2 b3 b4 b5 6
  rw [distK_6] at this; exact this

theorem count_any (a0 a1 a2 a3 a4 a5 b0 b1 b2 b3 b4 b5 : Int) (w : World) :
    Calls Try.prog 107 #[.agg #[.int .i64 a0, .int .i64 a1, .int .i64 a2, .int .i64 a3, .int .i64 a4, .int .i64 a5], .agg #[.int .i64 b0, .int .i64 b1, .int .i64 b2, .int .i64 b3, .int .i64 b4, .int .i64 b5], .func (.func 108) #[] #[]] w fun e w' => 
      e = .returned (.int .i64 (dist6 a0 a1 a2 a3 a4 a5 b0 b1 b2 b3 b4 b5)) ∧ Below w.heap.size w w' := by
  go_enter Try.func107, Try.ntmps107
  go_wp2
  generalize hW : (World.alloc _ _) = W
  have HW : Hid (Below w.heap.size w W ∧ w.heap.size + 1 < W.heap.size) := by subst hW; exact ⟨by go_grown, by simp⟩
  have hs : w.heap.size + 1 < W.heap.size := HW.out.2
  have Ca : Hid (∀ j, W.cell? ⟨w.heap.size, j, none⟩ = [Value.int .i64 a0, .int .i64 a1, .int .i64 a2, .int .i64 a3, .int .i64 a4, .int .i64 a5][j]?) := by subst hW; intro j; simp [go_sem]
  have Cb : Hid (∀ j, W.cell? ⟨w.heap.size + 1, j, none⟩ = [Value.int .i64 b0, .int .i64 b1, .int .i64 b2, .int .i64 b3, .int .i64 b4, .int .i64 b5][j]?) := by subst hW; intro j; simp [go_sem]
  clear hW
  go_loopw [7, 9] (fun n i wr => ∃ (k : Nat) (z : Gr), k ≤ 6 ∧ i = .int .i64 k ∧ n = .int .i64 (distK a0 a1 a2 a3 a4 a5 b0 b1 b2 b3 b4 b5 k) ∧ wr = grow W z) (fun _ i _ => 6 - (intOf i).toNat)
  case atStart => exact ⟨0, ⟨#[], W.drawn⟩, by omega, rfl, rfl, by simp [grow]⟩
  case round =>
    obtain ⟨k, z, hk, rfl, rfl, rfl⟩ := hrel
    have hsz : w.heap.size + 1 < (grow W z).heap.size := by simp; omega
    have hd := distK_bd a0 a1 a2 a3 a4 a5 b0 b1 b2 b3 b4 b5 k
    by_cases hlt : k < 6
    · have ca := (Ca.out k).trans (at6n _ _ _ _ _ _ k hlt)
      have cb := (Cb.out k).trans (at6n _ _ _ _ _ _ k hlt)
      go_wp2
      refine wp_region_grow (by kernel_rfl) (by kernel_rfl) ?_
      repeat (go_big_quiet_step (exact quiet_grow rfl ((misses_any _ _ _).mono (fun e w' h => ⟨h.1, h.2 ▸ Below.refl _ _⟩))))
      refine wpQuiet_nil ?_
      intro z'
      obtain ⟨x, hx⟩ := grow_grow W z z'
      rw [hx]
      clear hx
      go_wp2
      all_goals
        refine ⟨⟨k + 1, x, by omega, by go_num, ?_, rfl⟩, by simp [intOf]; omega⟩
        refine congrArg (Value.int IntKind.i64) ?_
        show _ = distK a0 a1 a2 a3 a4 a5 b0 b1 b2 b3 b4 b5 k + mis (g6 a0 a1 a2 a3 a4 a5 k) (g6 b0 b1 b2 b3 b4 b5 k)
        first
          | (rw [mis_yes (by assumption)]; done)
          | (rw [mis_no (by assumption)]; omega)
    · obtain rfl : k = 6 := by omega
      go_wp2
      go_ret
      exact ⟨by rw [← distK_6]; rfl, (HW.out.1).trans ((grow_below W z).mono (by omega))⟩
def same6 (a0 a1 a2 a3 a4 a5 b0 b1 b2 b3 b4 b5 : Int) : Bool := a0 == b0 && a1 == b1 && a2 == b2 && a3 == b3 && a4 == b4 && a5 == b5

theorem eql_int3 (d : Nat) (a b : Int) (w : World) : (Op.equalIn (d + 1) 3 (.int .i64 a) (.int .i64 b)).run Try.prog w = .ok (a == b) w := by
  have h : Try.prog.underlying 3 = some (.int .i64) := by kernel_rfl
  simp [Op.equalIn, run_underlying h]

theorem part3 (cs : Array Value) (k : Nat) (w : World) (h : k < cs.size) : (part 3 cs k).run Try.prog w = .ok (cs.getD k undef) w :=
  run_part_plain (P := Try.prog) (w := w) (e := 3) (by kernel_rfl) (by simp [h])
theorem eql_arr6 (t : TypeId) (h : Try.prog.underlying t = some (.array 6 3)) (a0 a1 a2 a3 a4 a5 b0 b1 b2 b3 b4 b5 : Int) (w : World) : (Op.equalIn 10000 t (.agg #[.int .i64 a0, .int .i64 a1, .int .i64 a2, .int .i64 a3, .int .i64 a4, .int .i64 a5]) (.agg #[.int .i64 b0, .int .i64 b1, .int .i64 b2, .int .i64 b3, .int .i64 b4, .int .i64 b5])).run Try.prog w = .ok (same6 a0 a1 a2 a3 a4 a5 b0 b1 b2 b3 b4 b5) w := by
  have hs : ∀ w, (sizeOf 3).run Try.prog w = .ok 1 w := fun w => by kernel_rfl
  have e : ∀ x y, (Op.equalIn 9999 3 (.int .i64 x) (.int .i64 y)).run Try.prog w = .ok (x == y) w := fun x y => eql_int3 9998 x y w
  rw [show (10000 : Nat) = 9999 + 1 from rfl]
  unfold Op.equalIn
  simp only [Sem.run_bind, run_underlying h, Result.andThen_ok, hs]
  simp [Std.Legacy.Range.forIn_eq_forIn_range', Std.Legacy.Range.size, List.range'_succ, part3, e]
  unfold same6
  by_cases c0 : a0 = b0 <;> by_cases c1 : a1 = b1 <;> by_cases c2 : a2 = b2 <;> by_cases c3 : a3 = b3 <;> by_cases c4 : a4 = b4 <;> by_cases c5 : a5 = b5 <;> simp [c0, c1, c2, c3, c4, c5]
@[go_sem] theorem eql28 (a0 a1 a2 a3 a4 a5 b0 b1 b2 b3 b4 b5 : Int) (w : World) : (Op.equalIn 10000 28 (.agg #[.int .i64 a0, .int .i64 a1, .int .i64 a2, .int .i64 a3, .int .i64 a4, .int .i64 a5]) (.agg #[.int .i64 b0, .int .i64 b1, .int .i64 b2, .int .i64 b3, .int .i64 b4, .int .i64 b5])).run Try.prog w = .ok (same6 a0 a1 a2 a3 a4 a5 b0 b1 b2 b3 b4 b5) w := eql_arr6 28 (by kernel_rfl) _ _ _ _ _ _ _ _ _ _ _ _ w
@[go_sem] theorem eql31 (a0 a1 a2 a3 a4 a5 b0 b1 b2 b3 b4 b5 : Int) (w : World) : (Op.equalIn 10000 31 (.agg #[.int .i64 a0, .int .i64 a1, .int .i64 a2, .int .i64 a3, .int .i64 a4, .int .i64 a5]) (.agg #[.int .i64 b0, .int .i64 b1, .int .i64 b2, .int .i64 b3, .int .i64 b4, .int .i64 b5])).run Try.prog w = .ok (same6 a0 a1 a2 a3 a4 a5 b0 b1 b2 b3 b4 b5) w := eql_arr6 31 (by kernel_rfl) _ _ _ _ _ _ _ _ _ _ _ _ w
theorem same6_iff (a0 a1 a2 a3 a4 a5 b0 b1 b2 b3 b4 b5 : Int) : same6 a0 a1 a2 a3 a4 a5 b0 b1 b2 b3 b4 b5 = true ↔ a0 = b0 ∧ a1 = b1 ∧ a2 = b2 ∧ a3 = b3 ∧ a4 = b4 ∧ a5 = b5 := by
  unfold same6; simp [and_assoc]
/-- The distance of two marks under wear. -/
def wdist (w0 w1 w2 w3 w4 a0 a1 a2 a3 a4 a5 b0 b1 b2 b3 b4 b5 : Int) : Int :=
  dist6 (g5 w0 w1 w2 w3 w4 a0) (g5 w0 w1 w2 w3 w4 a1) (g5 w0 w1 w2 w3 w4 a2) (g5 w0 w1 w2 w3 w4 a3) (g5 w0 w1 w2 w3 w4 a4) (g5 w0 w1 w2 w3 w4 a5) (g5 w0 w1 w2 w3 w4 b0) (g5 w0 w1 w2 w3 w4 b1) (g5 w0 w1 w2 w3 w4 b2) (g5 w0 w1 w2 w3 w4 b3) (g5 w0 w1 w2 w3 w4 b4) (g5 w0 w1 w2 w3 w4 b5)
theorem wdist_bd (w0 w1 w2 w3 w4 a0 a1 a2 a3 a4 a5 b0 b1 b2 b3 b4 b5 : Int) : 0 ≤ wdist w0 w1 w2 w3 w4 a0 a1 a2 a3 a4 a5 b0 b1 b2 b3 b4 b5 ∧ wdist w0 w1 w2 w3 w4 a0 a1 a2 a3 a4 a5 b0 b1 b2 b3 b4 b5 ≤ 6 := dist6_bd _ _ _ _ _ _ _ _ _ _ _ _
/-- The cost of a mark and a reading under wear. -/
def wcost (w0 w1 w2 w3 w4 a0 a1 a2 a3 a4 a5 r0 r1 r2 r3 r4 r5 : Int) : Int :=
  dist6 (g5 w0 w1 w2 w3 w4 a0) (g5 w0 w1 w2 w3 w4 a1) (g5 w0 w1 w2 w3 w4 a2) (g5 w0 w1 w2 w3 w4 a3) (g5 w0 w1 w2 w3 w4 a4) (g5 w0 w1 w2 w3 w4 a5) r0 r1 r2 r3 r4 r5
theorem wcost_bd (w0 w1 w2 w3 w4 a0 a1 a2 a3 a4 a5 r0 r1 r2 r3 r4 r5 : Int) : 0 ≤ wcost w0 w1 w2 w3 w4 a0 a1 a2 a3 a4 a5 r0 r1 r2 r3 r4 r5 ∧ wcost w0 w1 w2 w3 w4 a0 a1 a2 a3 a4 a5 r0 r1 r2 r3 r4 r5 ≤ 6 := dist6_bd _ _ _ _ _ _ _ _ _ _ _ _
end Go.Proofs.Ytpahbpgkmebieaa
