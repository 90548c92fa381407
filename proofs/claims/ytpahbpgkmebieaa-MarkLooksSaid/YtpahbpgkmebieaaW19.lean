/- The signs of a set; what may be read of a mark. Own text. -/
import Derived.Test.YtpahbpgkmebieaaW17
namespace Go.Proofs.Ytpahbpgkmebieaa
open Go.RowKit
set_option maxHeartbeats 400000
set_option maxRecDepth 100000

/-- The signs of a set below k, rising. -/
def sgK (a : Int) : Nat → List Int
  | 0 => []
  | k + 1 => if hasB a k = true then sgK a k ++ [(k : Int)] else sgK a k
theorem sgK_len (a : Int) (k : Nat) : (sgK a k).length ≤ k := by
  induction k with
  | zero => exact Nat.le_refl _
  | succ k ih =>
    unfold sgK
    split
    · simp; omega
    · omega
theorem sgK_in (a : Int) (k : Nat) : ∀ x ∈ sgK a k, 0 ≤ x ∧ x < k := by
  induction k with
  | zero => intro x hx; simp [sgK] at hx
  | succ k ih =>
    intro x hx
    unfold sgK at hx
    split at hx
    · rcases List.mem_append.1 hx with h | h
      · have := ih x h; omega
      · simp at h; omega
    · have := ih x hx; omega

theorem list_any (a : Int) (w : World) :
    Calls Try.prog 102 #[.int .i64 a] w fun e w' => ∃ v, e = .returned v ∧ w'.ownsRow w.heap.size 3 1 v (sgK a 5).length (ints (sgK a 5)) ∧ Below w.heap.size w w' := by
  obtain ⟨i0, hi, hz0, hz1, hz2⟩ := info_parts info3
  have HI := Lib.hid hi
  have HZ0 := Lib.hid hz0
  have HZ1 := Lib.hid hz1
  have HZ2 := Lib.hid hz2
  clear hi hz0 hz1 hz2
  go_enter Try.func102, Try.ntmps102
  go_wp2
  go_loopw [3, 5] (fun v i wr => ∃ (k : Nat) (z : Gr), k ≤ 5 ∧ i = .int .i64 k ∧ wr = grow w z ∧ (grow w z).ownsRow w.heap.size 3 1 v (sgK a k).length (ints (sgK a k))) (fun _ i _ => 5 - (intOf i).toNat)
  case atStart => exact ⟨0, ⟨#[], w.drawn⟩, by omega, rfl, by simp [grow], World.ownsRow_nil _ _ _ _⟩
  case round =>
    obtain ⟨k, z, hk, rfl, rfl, hown⟩ := hrel
    have Hown := Lib.hid hown; clear hown
    by_cases hlt : k < 5
    · have hln := sgK_len a k
      have Hy : Hid (hasB a k = true → sgK a (k + 1) = sgK a k ++ [(k : Int)]) := Lib.hid (fun h => by rw [sgK, if_pos h])
      have Hn : Hid (hasB a k = false → sgK a (k + 1) = sgK a k) := Lib.hid (fun h => by rw [sgK, if_neg (by rw [h]; simp)])
      have hkt : ((k : Int)).toNat = k := by simp
      generalize hX : sgK a k = X at *
      have HX := Lib.hid hX
      clear hX
      generalize hnX : X.length = nX at *
      have HnX := Lib.hid hnX
      clear hnX
      cases hh : hasB a k
      · have Hh := Lib.hid hh
        clear hh
        go_wp2_with (go_at_call 69; refine (has_any _ _ _ (by omega) (by omega)).mono ?_; rintro e x1 ⟨rfl, rfl⟩; rw [show (band a (2 ^ (k : Int).toNat) != 0) = false from Hh.out])
        refine ⟨⟨k + 1, z, by omega, by go_num, rfl, ?_⟩, by simp [intOf]; omega⟩
        rw [Hn.out Hh.out, HnX.out]; exact Hown.out
      · have Hh := Lib.hid hh
        clear hh
        go_wp2_with (first
          | (go_at_call 69; refine (has_any _ _ _ (by omega) (by omega)).mono ?_; rintro e x1 ⟨rfl, rfl⟩; rw [show (band a (2 ^ (k : Int).toNat) != 0) = true from Hh.out])
          | (at_builtin; refine wpList_append_own _ rfl _ _ 54 rfl w.heap.size 3 i0 (.int .i64 0) 1 8 Try.underlying54 HI.out HZ0.out HZ1.out HZ2.out rfl (by decide) _ _ _ rfl (Hown.out.alloc _) ⟨w.heap.size + z.blocks.size, 0, none⟩ 1 1 [.int .i64 k] rfl rfl ?c1 ?c2 ?c3 ?c4 ?c5 ?_))
        case c1 =>
          intro j u hu
          rw [Addr.add_lit, World.cell?_alloc_at _ _ _ _ (by simp), Nat.zero_add]
          simpa using hu
        case c2 => intro u hu; simp at hu; subst hu; rfl
        case c3 => unfold maxLen; omega
        case c4 => omega
        case c5 => simp; omega
        intro v' w' hown' hgr _
        have hbel : Below w.heap.size w w' := (up (grow_below w z) (up_alloc _ _)).grown hgr (by simp; omega) (fun q hq => (Hown.out.lt q hq).1)
        have Hown' := Lib.hid hown'
        clear hown' hgr
        obtain ⟨y3, rfl⟩ := below_grow hbel
        go_wp2
        refine ⟨⟨k + 1, y3, by omega, by go_num, rfl, ?_⟩, by simp [intOf]; omega⟩
        rw [Hy.out Hh.out, ints_snoc, List.length_append, HnX.out]
        exact Hown'.out
    · obtain rfl : k = 5 := by omega
      go_wp2
      go_ret
      exact ⟨_, rfl, Hown.out, grow_below w z⟩

/-- What is read of a set, by a number. -/
def pickS (a p : Int) : Int := 2 ^ ((sgK a 5).getD (p % ((sgK a 5).length : Int)).toNat 0).toNat
theorem sgK_ne {a : Int} {k n : Nat} (h : hasB a k = true) (hk : k < n) : 0 < (sgK a n).length := by
  induction n with
  | zero => omega
  | succ n ih =>
    unfold sgK
    by_cases e : k = n
    · subst e; rw [if_pos h]; simp
    · have := ih (by omega)
      split
      · simp
      · exact this
/-- A sign of a valid mark has worn signs. -/
theorem worn_ne {w0 w1 w2 w3 w4 : Int} (h : okW w0 w1 w2 w3 w4 = true) {s : Int} (h0 : 0 ≤ s) (h1 : s < 5) : 0 < (sgK (g5 w0 w1 w2 w3 w4 s) 5).length := by
  simp only [okW, wrB, Bool.and_eq_true, decide_eq_true_eq] at h
  obtain ⟨⟨⟨⟨⟨⟨a0, b0⟩, c0⟩, ⟨a1, b1⟩, c1⟩, ⟨a2, b2⟩, c2⟩, ⟨a3, b3⟩, c3⟩, ⟨a4, b4⟩, c4⟩ := h
  rcases (by omega : s = 0 ∨ s = 1 ∨ s = 2 ∨ s = 3 ∨ s = 4) with rfl | rfl | rfl | rfl | rfl
  · exact sgK_ne c0 (by decide)
  · exact sgK_ne c1 (by decide)
  · exact sgK_ne c2 (by decide)
  · exact sgK_ne c3 (by decide)
  · exact sgK_ne c4 (by decide)

/-- The error of Worn, and what is read at a place. -/
def wornE (w0 w1 w2 w3 w4 m0 m1 m2 m3 m4 m5 : Int) : Int := firstE [err (okW w0 w1 w2 w3 w4) 11, err (okM m0 m1 m2 m3 m4 m5) 10]
def wornAt (w0 w1 w2 w3 w4 m0 m1 m2 m3 m4 m5 : Int) (l : List Int) (k : Nat) : Int := pickS (g5 w0 w1 w2 w3 w4 (g6 m0 m1 m2 m3 m4 m5 k)) (pickL l k)
def wornV (w0 w1 w2 w3 w4 m0 m1 m2 m3 m4 m5 : Int) (l : List Int) (k : Nat) : Int := if wornE w0 w1 w2 w3 w4 m0 m1 m2 m3 m4 m5 = 0 then wornAt w0 w1 w2 w3 w4 m0 m1 m2 m3 m4 m5 l k else 0

/-- A box of six that is being filled. -/
structure RBox (wr : World) (N : Nat) (f : Nat → Int) (k : Nat) : Prop where
  lt : N < wr.heap.size
  cell : ∀ j, j < 6 → wr.cell? ⟨N, j, none⟩ = some (.int .i64 (if j < k then f j else 0))
  fro : ∀ j, wr.frozen? ⟨N, j, none⟩ = false
theorem RBox.keep {wr w' : World} {N : Nat} {f : Nat → Int} {k : Nat} (h : RBox wr N f k) (hb : Below wr.heap.size wr w') : RBox w' N f k :=
  ⟨by have := hb.size; have := h.lt; omega, fun j hj => (hb.cell (p := ⟨N, j, none⟩) h.lt).trans (h.cell j hj), fun j => (hb.frozen (p := ⟨N, j, none⟩) h.lt).trans (h.fro j)⟩
theorem RBox.put {wr : World} {N : Nat} {f : Nat → Int} {k : Nat} (h : RBox wr N f k) (hk : k < 6) : RBox (wr.setCell ⟨N, k, none⟩ (.int .i64 (f k))) N f (k + 1) := by
  refine ⟨by simpa [World.setCell] using h.lt, fun j hj => ?_, fun j => by rw [World.frozen?_setCell]; exact h.fro j⟩
  by_cases e : j = k
  · subst e; rw [World.cell?_setCell_same' _ _ _ (by rw [h.cell j hj]; rfl), if_pos (by omega)]
  · rw [World.cell?_setCell_other _ _ _ _ (by intro h; injection h with _ h2; exact e h2.symm), h.cell j hj]
    by_cases e2 : j < k
    · rw [if_pos e2, if_pos (by omega)]
    · rw [if_neg e2, if_neg (by omega)]

theorem Is.keep2 {w w' : World} {A : Option Addr} {n : Nat} {l : List Int} (h : Is w A n l) (hb : Below w.heap.size w w') : Is w' A n l := h.keep hb
theorem worn_any (w0 w1 w2 w3 w4 m0 m1 m2 m3 m4 m5 : Int) (A : Option Addr) (n c : Nat) (l : List Int) (w : World) (hg : Is w A n l) :
    Calls Try.prog 54 #[.agg #[.int .i64 w0, .int .i64 w1, .int .i64 w2, .int .i64 w3, .int .i64 w4], .agg #[.int .i64 m0, .int .i64 m1, .int .i64 m2, .int .i64 m3, .int .i64 m4, .int .i64 m5], .slice A n c] w fun e w' => e = .returned (.tuple #[.agg #[.int .i64 (wornV w0 w1 w2 w3 w4 m0 m1 m2 m3 m4 m5 l 0), .int .i64 (wornV w0 w1 w2 w3 w4 m0 m1 m2 m3 m4 m5 l 1), .int .i64 (wornV w0 w1 w2 w3 w4 m0 m1 m2 m3 m4 m5 l 2), .int .i64 (wornV w0 w1 w2 w3 w4 m0 m1 m2 m3 m4 m5 l 3), .int .i64 (wornV w0 w1 w2 w3 w4 m0 m1 m2 m3 m4 m5 l 4), .int .i64 (wornV w0 w1 w2 w3 w4 m0 m1 m2 m3 m4 m5 l 5)], .int .i64 (wornE w0 w1 w2 w3 w4 m0 m1 m2 m3 m4 m5)]) ∧ Below w.heap.size w w' := by
  go_enter Try.func54, Try.ntmps54
  go_wp2_with fail
  generalize hW : (World.alloc _ _) = W
  have HW : Hid (Below w.heap.size w W) := Lib.hid (by subst hW; go_grown)
  have hs : w.heap.size + 2 < W.heap.size := by subst hW; simp
  have hs1 : w.heap.size + 1 < W.heap.size := by omega
  have hs0 : w.heap.size < W.heap.size := by omega
  have cw : ∀ j, W.cell? ⟨w.heap.size, j, none⟩ = [Value.int .i64 w0, Value.int .i64 w1, Value.int .i64 w2, Value.int .i64 w3, Value.int .i64 w4][j]? := by subst hW; intro j; simp [go_sem]
  have ca : ∀ j, W.cell? ⟨w.heap.size + 1, j, none⟩ = [Value.int .i64 m0, Value.int .i64 m1, Value.int .i64 m2, Value.int .i64 m3, Value.int .i64 m4, Value.int .i64 m5][j]? := by subst hW; intro j; simp [go_sem]
  have Cr : Hid (∀ j, W.cell? ⟨w.heap.size + 1 + 1, j, none⟩ = [Value.int .i64 0, .int .i64 0, .int .i64 0, .int .i64 0, .int .i64 0, .int .i64 0][j]?) := Lib.hid (by subst hW; intro j; simp [go_sem])
  have fr : ∀ j, W.frozen? ⟨w.heap.size + 1 + 1, j, none⟩ = false := by subst hW; intro j; simp [go_sem]
  clear hW
  refine wp_region_grow_tail 4 (by kernel_rfl) (by kernel_rfl) ?_
  simp only [List.take_succ_cons, List.take_zero, List.drop_succ_cons, List.drop_zero]
  repeat (go_big_quiet_step ((first | (go_at_call 16; exact quiet_grow rfl (checkWear_any _ _ _ _ _ _)) | (go_at_call 14; exact quiet_grow rfl (checkMark_any _ _ _ _ _ _ _)))))
  refine wpQuiet_nil ?_
  intro z
  have e1 : w.heap.size < W.heap.size + z.blocks.size := by omega
  have e2 : w.heap.size + 1 < W.heap.size + z.blocks.size := by omega
  have e3 : w.heap.size + 1 + 1 < W.heap.size + z.blocks.size := by omega
  have e4 : w.heap.size + 1 + 1 < W.heap.size := by omega
  go_wp2_with fail
  refine Calls.mono (first_any _ _ _ _ _ (is2 _ _ _ _ _ (by simp))) ?_
  rintro e x1 ⟨rfl, rfl⟩
  rw [show firstE [err (okW w0 w1 w2 w3 w4) 11, err (okM m0 m1 m2 m3 m4 m5) 10] = wornE w0 w1 w2 w3 w4 m0 m1 m2 m3 m4 m5 from rfl]
  generalize hV : World.alloc (grow W z) _ = V
  have HV : Hid (Below W.heap.size W V) := Lib.hid (by subst hV; exact up (grow_below W z) (up_alloc _ _))
  clear hV
  have v4 : w.heap.size + 1 + 1 < V.heap.size := by have := HV.out.size; omega
  have v3 : w.heap.size + 1 < V.heap.size := by omega
  have v2 : w.heap.size < V.heap.size := by omega
  have cw2 : ∀ j, V.cell? ⟨w.heap.size, j, none⟩ = [Value.int .i64 w0, Value.int .i64 w1, Value.int .i64 w2, Value.int .i64 w3, Value.int .i64 w4][j]? := fun j => (HV.out.cell (p := ⟨w.heap.size, j, none⟩) hs0).trans (cw j)
  have ca2 : ∀ j, V.cell? ⟨w.heap.size + 1, j, none⟩ = [Value.int .i64 m0, Value.int .i64 m1, Value.int .i64 m2, Value.int .i64 m3, Value.int .i64 m4, Value.int .i64 m5][j]? := fun j => (HV.out.cell (p := ⟨w.heap.size + 1, j, none⟩) hs1).trans (ca j)
  have cr2 : ∀ j, V.cell? ⟨w.heap.size + 1 + 1, j, none⟩ = [Value.int .i64 0, .int .i64 0, .int .i64 0, .int .i64 0, .int .i64 0, .int .i64 0][j]? := fun j => (HV.out.cell (p := ⟨w.heap.size + 1 + 1, j, none⟩) e4).trans (Cr.out j)
  have fr2 : ∀ j, V.frozen? ⟨w.heap.size + 1 + 1, j, none⟩ = false := fun j => (HV.out.frozen (p := ⟨w.heap.size + 1 + 1, j, none⟩) e4).trans (fr j)
  have hgV := Lib.hid (hg.keep (up HW.out HV.out))
  clear cw ca fr e1 e2 e3
  by_cases hE : wornE w0 w1 w2 w3 w4 m0 m1 m2 m3 m4 m5 = 0
  rotate_left
  · have HE := Lib.hid hE
    have hb : (wornE w0 w1 w2 w3 w4 m0 m1 m2 m3 m4 m5 != 0) = true := by simpa using hE
    have Hv : Hid (∀ k, wornV w0 w1 w2 w3 w4 m0 m1 m2 m3 m4 m5 l k = 0) := Lib.hid (fun k => by unfold wornV; rw [if_neg hE])
    have Ex : Hid (∀ j, j < 6 → (V.cell? ⟨w.heap.size + 1 + 1, j, none⟩).isSome = true) := Lib.hid (by
      intro j hj
      rw [cr2 j]
      rcases (by omega : j = 0 ∨ j = 1 ∨ j = 2 ∨ j = 3 ∨ j = 4 ∨ j = 5) with rfl | rfl | rfl | rfl | rfl | rfl <;> rfl)
    clear hE
    go_wp2
    have P := put6 V (w.heap.size + 1 + 1) (.int .i64 0) (.int .i64 0) (.int .i64 0) (.int .i64 0) (.int .i64 0) (.int .i64 0) Ex.out
    have B := put6_below (up HW.out HV.out) (by omega : w.heap.size ≤ w.heap.size + 1 + 1) (.int .i64 0) (.int .i64 0) (.int .i64 0) (.int .i64 0) (.int .i64 0) (.int .i64 0)
    generalize World.setCell _ ⟨w.heap.size + 1 + 1, 5, none⟩ _ = U at P B ⊢
    have p0 := P 0 (by omega); have p1 := P 1 (by omega); have p2 := P 2 (by omega); have p3 := P 3 (by omega); have p4 := P 4 (by omega); have p5 := P 5 (by omega)
    clear P
    simp at p0 p1 p2 p3 p4 p5
    refine bodyPost_ret (v := .tuple #[.agg #[.int .i64 0, .int .i64 0, .int .i64 0, .int .i64 0, .int .i64 0, .int .i64 0], .int .i64 (wornE w0 w1 w2 w3 w4 m0 m1 m2 m3 m4 m5)]) (by simp [results, Try.results54, go_sem, p0, p1, p2, p3, p4, p5]) rfl ⟨by rw [Hv.out, Hv.out, Hv.out, Hv.out, Hv.out, Hv.out], B⟩
  have HE := Lib.hid hE
  have hE1 := hE
  unfold wornE at hE1
  obtain ⟨o1, o2⟩ := firstE2_0 hE1
  have ow := err_0 (by decide) o1
  have m2 := (okM_iff _ _ _ _ _ _).1 (err_0 (by decide) o2)
  clear o1 o2 hE1
  obtain ⟨⟨p0, q0⟩, ⟨p1, q1⟩, ⟨p2, q2⟩, ⟨p3, q3⟩, ⟨p4, q4⟩, ⟨p5, q5⟩⟩ := m2
  have Ow := Lib.hid ow
  clear ow
  rw [hE]
  clear hE
  go_wp2_with (go_at_call 77; refine (wornRow_any _ _ _ _ _ _ _ _ _ _ _ _ (by assumption) (by assumption) (by assumption) (by assumption) (by assumption) (by assumption) (by assumption) (by assumption) (by assumption) (by assumption) (by assumption) (by assumption)).mono ?_; rintro e x2 ⟨rfl, hb2⟩)
  have HB2 := Lib.hid ((show Below V.heap.size V _ from up_alloc _ _).trans (hb2.mono (by simp)))
  have Hbx : Hid (RBox x2 V.heap.size (wornAt w0 w1 w2 w3 w4 m0 m1 m2 m3 m4 m5 l) 0) := Lib.hid (RBox.keep ⟨by simp, fun j hj => by
    rw [World.cell?_alloc_at _ _ _ _ rfl, if_neg (by omega)]
    rcases (by omega : j = 0 ∨ j = 1 ∨ j = 2 ∨ j = 3 ∨ j = 4 ∨ j = 5) with rfl | rfl | rfl | rfl | rfl | rfl <;> rfl, fun j => World.frozen?_alloc_at _ _ _ _ rfl⟩ hb2)
  have HgV := hgV
  clear hb2
  go_loopw [26] (fun i wr => ∃ (k : Nat), k ≤ 6 ∧ i = .int .i64 k ∧ Below V.heap.size V wr ∧ RBox wr V.heap.size (wornAt w0 w1 w2 w3 w4 m0 m1 m2 m3 m4 m5 l) k) (fun i _ => 6 - (intOf i).toNat)
  case atStart => exact ⟨0, by omega, rfl, HB2.out, Hbx.out⟩
  case round =>
    obtain ⟨k, hk, rfl, hbw, hbx⟩ := hrel
    have Hbw := Lib.hid hbw
    have Hbx2 := Lib.hid hbx
    clear hbw hbx
    by_cases hlt : k < 6
    · have hget : (#[Value.int .i64 (g5 w0 w1 w2 w3 w4 m0), .int .i64 (g5 w0 w1 w2 w3 w4 m1), .int .i64 (g5 w0 w1 w2 w3 w4 m2), .int .i64 (g5 w0 w1 w2 w3 w4 m3), .int .i64 (g5 w0 w1 w2 w3 w4 m4), .int .i64 (g5 w0 w1 w2 w3 w4 m5)] : Array Value).getD k undef = .int .i64 (g5 w0 w1 w2 w3 w4 (g6 m0 m1 m2 m3 m4 m5 k)) := by
        rcases (by omega : k = 0 ∨ k = 1 ∨ k = 2 ∨ k = 3 ∨ k = 4 ∨ k = 5) with rfl | rfl | rfl | rfl | rfl | rfl <;> rfl
      have hidx : ∀ w', (Instr.index 98 (.agg #[.int .i64 (g5 w0 w1 w2 w3 w4 m0), .int .i64 (g5 w0 w1 w2 w3 w4 m1), .int .i64 (g5 w0 w1 w2 w3 w4 m2), .int .i64 (g5 w0 w1 w2 w3 w4 m3), .int .i64 (g5 w0 w1 w2 w3 w4 m4), .int .i64 (g5 w0 w1 w2 w3 w4 m5)]) (.int .i64 (k : Int))).run Try.prog w' = .ok (.int .i64 (g5 w0 w1 w2 w3 w4 (g6 m0 m1 m2 m3 m4 m5 k))) w' := fun w' => by
        rw [index98 w' _ _ (by omega) (by omega) (by simp; omega), show ((k : Int)).toNat = k by simp, hget]
      clear hget
      have bm : 0 ≤ g6 m0 m1 m2 m3 m4 m5 k ∧ g6 m0 m1 m2 m3 m4 m5 k < 5 := by
        rcases (by omega : k = 0 ∨ k = 1 ∨ k = 2 ∨ k = 3 ∨ k = 4 ∨ k = 5) with rfl | rfl | rfl | rfl | rfl | rfl <;> exact ⟨by assumption, by assumption⟩
      have hne := worn_ne Ow.out bm.1 bm.2
      have Hval : Hid (wornAt w0 w1 w2 w3 w4 m0 m1 m2 m3 m4 m5 l k = pickS (g5 w0 w1 w2 w3 w4 (g6 m0 m1 m2 m3 m4 m5 k)) (pickL l k)) := Lib.hid rfl
      generalize g5 w0 w1 w2 w3 w4 (g6 m0 m1 m2 m3 m4 m5 k) = a at *
      generalize hp : pickL l k = p at *
      have Hp := Lib.hid hp
      clear hp
      have hln := sgK_len a 5
      obtain ⟨q, hq⟩ := Int.eq_ofNat_of_zero_le (Int.emod_nonneg p (by omega : ((sgK a 5).length : Int) ≠ 0))
      have hql : q < (sgK a 5).length := by have := Int.emod_lt_of_pos p (by omega : (0 : Int) < ((sgK a 5).length : Int)); omega
      have hx := sgK_in a 5 _ (List.getElem_mem hql)
      have Hv2 : Hid (pickS a p = 2 ^ ((sgK a 5)[q]).toNat) := Lib.hid (by unfold pickS; rw [hq]; simp [hql])
      obtain ⟨hx0, hx5⟩ := hx
      have Hq := Lib.hid hq
      clear hq bm
      have HS : Hid (∀ (w1 : World) (A' : Option Addr) (c' : Nat), Is w1 A' (sgK a 5).length (sgK a 5) → ∃ b o, A' = some ⟨b, o, none⟩ ∧ b < w1.heap.size ∧ w1.cell? ⟨b, o + q, none⟩ = some (.int .i64 (sgK a 5)[q])) := Lib.hid (fun w1 A' c' h => h.get q hql)
      generalize (sgK a 5)[q] = x at *
      go_wp2_with (first
        | (go_at_call 102; refine (list_any _ _).mono ?_; rintro e x3 ⟨v, rfl, hown, hb3⟩; have HRB := Lib.hid (Hbx2.out.keep hb3); have HB3 := Lib.hid (Hbw.out.trans (hb3.mono (by have := Hbx2.out.lt; omega))); clear hb3; obtain ⟨A', c', rfl, _, his⟩ := Is.of_own hown; clear hown; obtain ⟨bb, oo, rfl, hbb, hcc⟩ := HS.out _ _ c' his; clear his; have f1 := HRB.out.cell k hlt; have f2 := HRB.out.fro k)
        | (go_at_call 105; refine (pickAt_any _ _ _ l k _ (HgV.out.keep2 HB3.out) (by omega)).mono ?_; rintro e x4 ⟨rfl, rfl⟩; rw [Hp.out])
        | (go_at_call 104; refine (modulo_any _ _ _ (by omega) (by omega)).mono ?_; rintro e x4 ⟨rfl, rfl⟩; rw [Hq.out])
        | (go_at_call 103; refine (only_any _ _ hx0 hx5).mono ?_; rintro e x4 ⟨rfl, rfl⟩))
      have Hfin : Hid (wornAt w0 w1 w2 w3 w4 m0 m1 m2 m3 m4 m5 l k = 2 ^ x.toNat) := Lib.hid (Hval.out.trans Hv2.out)
      refine ⟨⟨k + 1, by omega, by go_num, HB3.out.setCell (Nat.le_refl _) _, ?_⟩, by simp [intOf]; omega⟩
      rw [← Hfin.out]
      exact HRB.out.put hlt
    · obtain rfl : k = 6 := by omega
      have hlt6 := Hbx2.out.lt
      have d0 := Hbx2.out.cell 0 (by omega); have d1 := Hbx2.out.cell 1 (by omega); have d2 := Hbx2.out.cell 2 (by omega); have d3 := Hbx2.out.cell 3 (by omega); have d4 := Hbx2.out.cell 4 (by omega); have d5 := Hbx2.out.cell 5 (by omega)
      simp only [show (0 : Nat) < 6 by decide, show (1 : Nat) < 6 by decide, show (2 : Nat) < 6 by decide, show (3 : Nat) < 6 by decide, show (4 : Nat) < 6 by decide, show (5 : Nat) < 6 by decide, if_true] at d0 d1 d2 d3 d4 d5
      have Hv : Hid (∀ k, wornV w0 w1 w2 w3 w4 m0 m1 m2 m3 m4 m5 l k = wornAt w0 w1 w2 w3 w4 m0 m1 m2 m3 m4 m5 l k) := Lib.hid (fun k => by unfold wornV; rw [if_pos HE.out])
      have cr3 : ∀ j, wr.cell? ⟨w.heap.size + 1 + 1, j, none⟩ = [Value.int .i64 0, .int .i64 0, .int .i64 0, .int .i64 0, .int .i64 0, .int .i64 0][j]? := fun j => (Hbw.out.cell (p := ⟨w.heap.size + 1 + 1, j, none⟩) v4).trans (cr2 j)
      have fr3 : ∀ j, wr.frozen? ⟨w.heap.size + 1 + 1, j, none⟩ = false := fun j => (Hbw.out.frozen (p := ⟨w.heap.size + 1 + 1, j, none⟩) v4).trans (fr2 j)
      have Ex : Hid (∀ j, j < 6 → (wr.cell? ⟨w.heap.size + 1 + 1, j, none⟩).isSome = true) := Lib.hid (by
        intro j hj
        rw [cr3 j]
        rcases (by omega : j = 0 ∨ j = 1 ∨ j = 2 ∨ j = 3 ∨ j = 4 ∨ j = 5) with rfl | rfl | rfl | rfl | rfl | rfl <;> rfl)
      clear cw2 ca2 cr2 fr2
      generalize wornAt w0 w1 w2 w3 w4 m0 m1 m2 m3 m4 m5 l = f at *
      go_wp2
      have P := put6 wr (w.heap.size + 1 + 1) (.int .i64 (f 0)) (.int .i64 (f 1)) (.int .i64 (f 2)) (.int .i64 (f 3)) (.int .i64 (f 4)) (.int .i64 (f 5)) Ex.out
      have B := put6_below ((up HW.out HV.out).trans (Hbw.out.mono (by omega : w.heap.size ≤ V.heap.size))) (by omega : w.heap.size ≤ w.heap.size + 1 + 1) (.int .i64 (f 0)) (.int .i64 (f 1)) (.int .i64 (f 2)) (.int .i64 (f 3)) (.int .i64 (f 4)) (.int .i64 (f 5))
      generalize World.setCell _ ⟨w.heap.size + 1 + 1, 5, none⟩ _ = U at P B ⊢
      have p0 := P 0 (by omega); have p1 := P 1 (by omega); have p2 := P 2 (by omega); have p3 := P 3 (by omega); have p4 := P 4 (by omega); have p5 := P 5 (by omega)
      clear P
      simp at p0 p1 p2 p3 p4 p5
      refine bodyPost_ret (v := .tuple #[.agg #[.int .i64 (f 0), .int .i64 (f 1), .int .i64 (f 2), .int .i64 (f 3), .int .i64 (f 4), .int .i64 (f 5)], .int .i64 0]) (by simp [results, Try.results54, go_sem, p0, p1, p2, p3, p4, p5]) rfl ⟨by rw [Hv.out, Hv.out, Hv.out, Hv.out, Hv.out, Hv.out, HE.out], B⟩
end Go.Proofs.Ytpahbpgkmebieaa
