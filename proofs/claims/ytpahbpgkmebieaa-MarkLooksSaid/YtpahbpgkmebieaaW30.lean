/- Numbers modulo, wear that numbers describe, marks by number. Own text. -/
import Derived.Test.YtpahbpgkmebieaaP2
import Derived.Test.YtpahbpgkmebieaaR2
namespace Go.Proofs.Ytpahbpgkmebieaa
open Go Go.RowKit
set_option maxHeartbeats 400000
set_option maxRecDepth 100000

theorem tmod_bd (a : Int) {n : Int} (hn : 0 < n) : -n < a.tmod n ∧ a.tmod n < n := by
  refine ⟨?_, Int.tmod_lt_of_pos a hn⟩
  rw [Int.tmod_eq_emod]
  have := Int.emod_nonneg a (by omega : n ≠ 0)
  split <;> omega
theorem tmod_add (a : Int) {n : Int} (hn : 0 < n) : (a.tmod n + n) % n = a % n := by
  have h1 := Int.emod_nonneg a (by omega : n ≠ 0)
  have h2 := Int.emod_lt_of_pos a hn
  by_cases h : a.tmod n < 0
  · rw [tmod_neg_add hn h, Int.emod_eq_of_lt h1 h2]
  · rw [tmod_pos_eq hn h, Int.add_emod_right, Int.emod_eq_of_lt h1 h2]

theorem mod_any (a n : Int) (w : World) (hn : 0 < n) (hn2 : n ≤ 4611686018427387904) :
    Calls Try.prog 58 #[.int .i64 a, .int .i64 n] w fun e w' => e = .returned (.int .i64 (a % n)) ∧ w = w' := by
  have hb : (n == 0) = false := by simp; omega
  have h1 : n ≠ 0 := by omega
  obtain ⟨b2, b1⟩ := tmod_bd a hn
  have H := Lib.hid (tmod_add a hn)
  generalize hr : a.tmod n = r at *
  have Hr := Lib.hid hr
  go_enter Try.func58, Try.ntmps58
  go_wp2
  go_ret
  exact ⟨congrArg (fun v => Ending.returned (Value.int .i64 v)) H.out, rfl⟩

/-- The number with an index modulo the length. -/
def atL (l : List Int) (i : Int) : Int := l.getD (i % (l.length : Int)).toNat 0
theorem at_any (A : Option Addr) (n c : Nat) (l : List Int) (i : Int) (w : World) (hg : Is w A n l) (hn : n ≤ 4611686018427387904) :
    Calls Try.prog 59 #[.slice A n c, .int .i64 i] w fun e w' => e = .returned (.int .i64 (atL l i)) ∧ w = w' := by
  have Hl : Hid (n = l.length) := Lib.hid hg.len
  by_cases h0 : n = 0
  · have hb : ((n : Int) == 0) = true := by simp [h0]
    have H0 := Lib.hid h0
    clear h0
    go_enter Try.func59, Try.ntmps59
    go_wp2
    go_ret
    refine ⟨congrArg (fun v => Ending.returned (Value.int .i64 v)) ?_, rfl⟩
    have : l = [] := List.eq_nil_of_length_eq_zero (by rw [← Hl.out]; exact H0.out)
    rw [this]; rfl
  · have hb : ((n : Int) == 0) = false := by simp [h0]
    have g0 := Int.emod_nonneg i (by omega : (n : Int) ≠ 0)
    have g1 := Int.emod_lt_of_pos i (by omega : (0 : Int) < n)
    obtain ⟨q, hq⟩ := Int.eq_ofNat_of_zero_le g0
    have hqn : q < n := by omega
    have hql : q < l.length := by rw [← Hl.out]; exact hqn
    have Hv : Hid (atL l i = l[q]) := Lib.hid (by unfold atL; rw [← Hl.out, hq]; simp [hql])
    obtain ⟨b, o, rfl, hbl, hc⟩ := hg.get q hql
    generalize l[q] = y at *
    have Hq := Lib.hid hq
    clear hq g0 g1
    go_enter Try.func59, Try.ntmps59
    go_wp2_with (go_at_call 58; refine (mod_any _ _ _ (by omega) (by omega)).mono ?_; rintro e x1 ⟨rfl, rfl⟩; rw [Hq.out])
    go_ret
    exact ⟨congrArg (fun v => Ending.returned (Value.int .i64 v)) Hv.out.symm, rfl⟩

/-- A box of m that is being filled. -/
structure FBox (wr : World) (N m : Nat) (f : Nat → Int) (k : Nat) : Prop where
  lt : N < wr.heap.size
  cell : ∀ j, j < m → wr.cell? ⟨N, j, none⟩ = some (.int .i64 (if j < k then f j else 0))
  fro : ∀ j, wr.frozen? ⟨N, j, none⟩ = false
theorem FBox.keep {wr w' : World} {N m : Nat} {f : Nat → Int} {k : Nat} (h : FBox wr N m f k) (hb : Below wr.heap.size wr w') : FBox w' N m f k :=
  ⟨by have := hb.size; have := h.lt; omega, fun j hj => (hb.cell (p := ⟨N, j, none⟩) h.lt).trans (h.cell j hj), fun j => (hb.frozen (p := ⟨N, j, none⟩) h.lt).trans (h.fro j)⟩
theorem FBox.put {wr : World} {N m : Nat} {f g : Nat → Int} {k : Nat} (h : FBox wr N m f k) (hk : k < m) (v : Int) (hv : g k = v) (hg : ∀ j, j < k → g j = f j) : FBox (wr.setCell ⟨N, k, none⟩ (.int .i64 v)) N m g (k + 1) := by
  refine ⟨by simpa [World.setCell] using h.lt, fun j hj => ?_, fun j => by rw [World.frozen?_setCell]; exact h.fro j⟩
  by_cases e : j = k
  · subst e; rw [World.cell?_setCell_same' _ _ _ (by rw [h.cell j hj]; rfl), if_pos (by omega), hv]
  · rw [World.cell?_setCell_other _ _ _ _ (by intro h; injection h with _ h2; exact e h2.symm), h.cell j hj]
    by_cases e2 : j < k
    · rw [if_pos e2, if_pos (by omega), hg j e2]
    · rw [if_neg e2, if_neg (by omega)]
theorem FBox.again {wr : World} {N m : Nat} {f g : Nat → Int} {k : Nat} (h : FBox wr N m f (k + 1)) (hk : k < m) (v : Int) (hv : g k = v) (hg : ∀ j, j < k → g j = f j) : FBox (wr.setCell ⟨N, k, none⟩ (.int .i64 v)) N m g (k + 1) := by
  refine ⟨by simpa [World.setCell] using h.lt, fun j hj => ?_, fun j => by rw [World.frozen?_setCell]; exact h.fro j⟩
  by_cases e : j = k
  · subst e; rw [World.cell?_setCell_same' _ _ _ (by rw [h.cell j hj]; rfl), if_pos (by omega), hv]
  · rw [World.cell?_setCell_other _ _ _ _ (by intro h; injection h with _ h2; exact e h2.symm), h.cell j hj]
    by_cases e2 : j < k + 1
    · rw [if_pos e2, if_pos (by omega), hg j (by omega)]
    · rw [if_neg e2, if_neg (by omega)]

theorem numbered_any (k : Nat) (w : World) (hk : k < 15625) :
    Calls Try.prog 57 #[.int .i64 k] w fun e w' => e = .returned (.agg #[.int .i64 (markNo k).r0, .int .i64 (markNo k).r1, .int .i64 (markNo k).r2, .int .i64 (markNo k).r3, .int .i64 (markNo k).r4, .int .i64 (markNo k).r5]) ∧ Below w.heap.size w w' := by
  have h1 : (0 : Int) ≤ (k : Int) / 5 ∧ (k : Int) / 5 ≤ 15625 := by omega
  have h2 : (0 : Int) ≤ (k : Int) / 5 / 5 ∧ (k : Int) / 5 / 5 ≤ 15625 := by omega
  have h3 : (0 : Int) ≤ (k : Int) / 5 / 5 / 5 ∧ (k : Int) / 5 / 5 / 5 ≤ 15625 := by omega
  have h4 : (0 : Int) ≤ (k : Int) / 5 / 5 / 5 / 5 ∧ (k : Int) / 5 / 5 / 5 / 5 ≤ 15625 := by omega
  have h5 : (0 : Int) ≤ (k : Int) / 5 / 5 / 5 / 5 / 5 ∧ (k : Int) / 5 / 5 / 5 / 5 / 5 ≤ 15625 := by omega
  obtain ⟨h1, g1⟩ := h1; obtain ⟨h2, g2⟩ := h2; obtain ⟨h3, g3⟩ := h3; obtain ⟨h4, g4⟩ := h4; obtain ⟨h5, g5⟩ := h5
  go_enter Try.func57, Try.ntmps57
  go_wp2
  refine wp_loop_rounds 7 ?_
  repeat any_goals (rw [rounds_succ]; go_wp2)
  have e0 : (markNo k).r0 = (k : Int) / 5 / 5 / 5 / 5 / 5 % 5 := by simp only [markNo]; omega
  have e1 : (markNo k).r1 = (k : Int) / 5 / 5 / 5 / 5 % 5 := by simp only [markNo]; omega
  have e2 : (markNo k).r2 = (k : Int) / 5 / 5 / 5 % 5 := by simp only [markNo]; omega
  have e3 : (markNo k).r3 = (k : Int) / 5 / 5 % 5 := by simp only [markNo]; omega
  have e4 : (markNo k).r4 = (k : Int) / 5 % 5 := by simp only [markNo]; omega
  have e5 : (markNo k).r5 = (k : Int) % 5 := by simp only [markNo]; omega
  refine bodyPost_ret (v := .agg #[.int .i64 ((k : Int) / 5 / 5 / 5 / 5 / 5 % 5), .int .i64 ((k : Int) / 5 / 5 / 5 / 5 % 5), .int .i64 ((k : Int) / 5 / 5 / 5 % 5), .int .i64 ((k : Int) / 5 / 5 % 5), .int .i64 ((k : Int) / 5 % 5), .int .i64 ((k : Int) % 5)]) (by simp [results, Try.results57, go_sem]) rfl ⟨by rw [e0, e1, e2, e3, e4, e5], by go_grown⟩

/-- Wear that numbers describe. -/
def wrN (l : List Int) (s : Nat) : Int := if atL l s % 12 < 5 then bits BinOp.or IntKind.i64 (2 ^ s) (2 ^ (atL l s % 12).toNat) else 2 ^ s
theorem or_dec : ∀ a b : Fin 5, 0 ≤ bits BinOp.or IntKind.i64 (2 ^ a.val) (2 ^ b.val) ∧ bits BinOp.or IntKind.i64 (2 ^ a.val) (2 ^ b.val) ≤ 31 ∧ hasB (bits BinOp.or IntKind.i64 (2 ^ a.val) (2 ^ b.val)) a.val = true := by decide +kernel
theorem p2_dec : ∀ a : Fin 5, (0 : Int) ≤ 2 ^ a.val ∧ (2 : Int) ^ a.val ≤ 31 ∧ hasB (2 ^ a.val) a.val = true := by decide +kernel
theorem wrN_ok (l : List Int) (s : Nat) (h : s < 5) : wrB (wrN l s) s = true := by
  unfold wrN wrB
  have g0 := Int.emod_nonneg (atL l s) (by decide : (12 : Int) ≠ 0)
  split
  · obtain ⟨a, b, c⟩ := or_dec ⟨s, h⟩ ⟨(atL l s % 12).toNat, by omega⟩
    simp only [Bool.and_eq_true, decide_eq_true_eq]
    exact ⟨⟨a, b⟩, c⟩
  · obtain ⟨a, b, c⟩ := p2_dec ⟨s, h⟩
    simp only [Bool.and_eq_true, decide_eq_true_eq]
    exact ⟨⟨a, b⟩, c⟩
theorem wears_ok (l : List Int) : okW (wrN l 0) (wrN l 1) (wrN l 2) (wrN l 3) (wrN l 4) = true := by
  simp only [okW, Bool.and_eq_true]
  exact ⟨⟨⟨⟨wrN_ok l 0 (by omega), wrN_ok l 1 (by omega)⟩, wrN_ok l 2 (by omega)⟩, wrN_ok l 3 (by omega)⟩, wrN_ok l 4 (by omega)⟩

theorem put5 (w : World) (b : Nat) (v0 v1 v2 v3 v4 : Value) (h : ∀ j, j < 5 → (w.cell? ⟨b, j, none⟩).isSome = true) : ∀ j, j < 5 →
    (((((w.setCell ⟨b, 0, none⟩ v0).setCell ⟨b, 1, none⟩ v1).setCell ⟨b, 2, none⟩ v2).setCell ⟨b, 3, none⟩ v3).setCell ⟨b, 4, none⟩ v4).cell? ⟨b, j, none⟩ = [v0, v1, v2, v3, v4][j]? := by
  intro j hj
  have := World.cell?_setCells_in b [v0, v1, v2, v3, v4] 0 w (fun j hj => by rw [Nat.zero_add]; exact h j (by simpa using hj)) j (by simpa using hj)
  rw [Nat.zero_add] at this
  rw [List.getElem?_eq_getElem (by simpa using hj)]
  exact this
theorem put5_below {a w : World} {B b : Nat} (h : Below B a w) (hB : B ≤ b) (v0 v1 v2 v3 v4 : Value) :
    Below B a (((((w.setCell ⟨b, 0, none⟩ v0).setCell ⟨b, 1, none⟩ v1).setCell ⟨b, 2, none⟩ v2).setCell ⟨b, 3, none⟩ v3).setCell ⟨b, 4, none⟩ v4) :=
  ((((h.setCell hB _).setCell hB _).setCell hB _).setCell hB _).setCell hB _

theorem wears_any (A : Option Addr) (n c : Nat) (l : List Int) (w : World) (hg : Is w A n l) (hn : n ≤ 4611686018427387904) :
    Calls Try.prog 56 #[.slice A n c] w fun e w' => e = .returned (.agg #[.int .i64 (wrN l 0), .int .i64 (wrN l 1), .int .i64 (wrN l 2), .int .i64 (wrN l 3), .int .i64 (wrN l 4)]) ∧ Below w.heap.size w w' := by
  go_enter Try.func56, Try.ntmps56
  go_wp2
  generalize hW : World.alloc w _ = W
  have HW : Hid (Below w.heap.size w W) := Lib.hid (by subst hW; go_grown)
  have KX : Bk W w.heap.size [.int .i64 0, .int .i64 0, .int .i64 0, .int .i64 0, .int .i64 0] := ⟨by subst hW; simp, by subst hW; intro j; simp [go_sem]⟩
  have FX : Hid (∀ j, W.frozen? ⟨w.heap.size, j, none⟩ = false) := Lib.hid (by subst hW; intro j; simp [go_sem])
  have Hsz : Hid (W.heap.size = w.heap.size + 1) := Lib.hid (by subst hW; simp)
  clear hW
  have HI := Lib.hid (hg.keep HW.out)
  generalize hV : World.alloc W _ = V
  have Hbx : Hid (FBox V (w.heap.size + 1) 5 (wrN l) 0) := Lib.hid (by
    subst hV
    rw [← Hsz.out]
    exact ⟨by simp, fun j hj => by
      rw [World.cell?_alloc_at _ _ _ _ rfl, if_neg (by omega)]
      rcases (by omega : j = 0 ∨ j = 1 ∨ j = 2 ∨ j = 3 ∨ j = 4) with rfl | rfl | rfl | rfl | rfl <;> rfl, fun j => World.frozen?_alloc_at _ _ _ _ rfl⟩)
  have HV0 : Hid (Below W.heap.size W V) := Lib.hid (by subst hV; exact up_alloc _ _)
  clear hV
  have kx0 := KX.lt
  go_loopw [4] (fun i wr => ∃ (k : Nat), k ≤ 5 ∧ i = .int .i64 k ∧ Below W.heap.size W wr ∧ FBox wr (w.heap.size + 1) 5 (wrN l) k) (fun i _ => 5 - (intOf i).toNat)
  case atStart => exact ⟨0, by omega, rfl, HV0.out, Hbx.out⟩
  case round =>
    obtain ⟨k, hk, rfl, hbw, hbx⟩ := hrel
    have Hbw := Lib.hid hbw
    have Hbx2 := Lib.hid hbx
    clear hbw hbx
    by_cases hlt : k < 5
    · have f1 := Hbx2.out.cell k hlt
      have f2 := Hbx2.out.fro k
      have f3 := Hbx2.out.lt
      have hp := p2n k hlt
      rw [if_neg (by omega)] at f1
      have Hput : Hid (FBox (wr.setCell ⟨w.heap.size + 1, k, none⟩ (.int .i64 (2 ^ k))) (w.heap.size + 1) 5 (fun j => if j = k then 2 ^ k else wrN l j) (k + 1)) := Lib.hid (Hbx2.out.put hlt _ (if_pos rfl) (fun j hj => if_neg (by omega)))
      have Hbw2 : Hid (Below W.heap.size W (wr.setCell ⟨w.heap.size + 1, k, none⟩ (.int .i64 (2 ^ k)))) := Lib.hid (Hbw.out.setCell (Nat.le_of_eq Hsz.out) _)
      have m0 := Int.emod_nonneg (atL l k) (by decide : (12 : Int) ≠ 0)
      have m1 := Int.emod_lt_of_pos (atL l k) (by decide : (0 : Int) < 12)
      have Hval : Hid (wrN l k = if atL l k % 12 < 5 then bits BinOp.or IntKind.i64 (2 ^ k) (2 ^ (atL l k % 12).toNat) else 2 ^ k) := Lib.hid rfl
      generalize hq : atL l k % 12 = q at *
      have Hq := Lib.hid hq
      clear hq
      by_cases hq5 : q < 5
      · have hp2 := p2_wrap q m0 hq5
        go_wp2_with (first
          | (go_at_call 59; refine (at_any _ _ _ l k _ (HI.out.keep Hbw2.out) hn).mono ?_; rintro e x1 ⟨rfl, rfl⟩)
          | (go_at_call 58; refine (mod_any _ _ _ (by omega) (by omega)).mono ?_; rintro e x1 ⟨rfl, rfl⟩; rw [Hq.out]))
        have Hfp : Hid (wrN l k = bits BinOp.or IntKind.i64 (2 ^ k) (2 ^ q.toNat)) := Lib.hid (by rw [Hval.out, if_pos hq5])
        generalize World.setCell wr ⟨w.heap.size + 1, k, none⟩ (.int .i64 (2 ^ k)) = U at *
        clear f1 f2 f3
        have f1 := Hput.out.cell k hlt
        have f2 := Hput.out.fro k
        have f3 := Hput.out.lt
        rw [if_pos (by omega), if_pos rfl] at f1
        refine wp_region_grow_tail 8 (by kernel_rfl) (by kernel_rfl) ?_
        simp only [List.take_succ_cons, List.take_zero, List.drop_succ_cons, List.drop_zero]
        repeat (go_big_quiet_step ((fail)))
        refine wpQuiet_nil ?_
        intro z
        have Hbz := Lib.hid (Hput.out.keep (grow_below U z))
        have HBz : Hid (Below W.heap.size W (grow U z)) := Lib.hid (Hbw2.out.trans ((grow_below U z).mono Hbw2.out.size))
        go_wp2
        refine ⟨⟨k + 1, by omega, by go_num, HBz.out.setCell (Nat.le_of_eq Hsz.out) _, ?_⟩, by simp [intOf]; omega⟩
        exact Hbz.out.again hlt _ Hfp.out (fun j hj => by rw [if_neg (by omega)])
      · go_wp2_with (first
          | (go_at_call 59; refine (at_any _ _ _ l k _ (HI.out.keep Hbw2.out) hn).mono ?_; rintro e x1 ⟨rfl, rfl⟩)
          | (go_at_call 58; refine (mod_any _ _ _ (by omega) (by omega)).mono ?_; rintro e x1 ⟨rfl, rfl⟩; rw [Hq.out]))
        refine ⟨⟨k + 1, by omega, by go_num, Hbw2.out, ?_⟩, by simp [intOf]; omega⟩
        have e := Hput.out
        refine ⟨e.lt, fun j hj => ?_, e.fro⟩
        rw [e.cell j hj]
        by_cases hj2 : j < k + 1
        · rw [if_pos hj2, if_pos hj2]
          by_cases hjk : j = k
          · subst hjk; rw [if_pos rfl, Hval.out, if_neg (by omega)]
          · rw [if_neg hjk]
        · rw [if_neg hj2, if_neg hj2]
    · obtain rfl : k = 5 := by omega
      have hlt5 := Hbx2.out.lt
      have d0 := Hbx2.out.cell 0 (by omega); have d1 := Hbx2.out.cell 1 (by omega); have d2 := Hbx2.out.cell 2 (by omega); have d3 := Hbx2.out.cell 3 (by omega); have d4 := Hbx2.out.cell 4 (by omega)
      simp only [show (0 : Nat) < 5 by decide, show (1 : Nat) < 5 by decide, show (2 : Nat) < 5 by decide, show (3 : Nat) < 5 by decide, show (4 : Nat) < 5 by decide, if_true] at d0 d1 d2 d3 d4
      have fr3 : ∀ j, wr.frozen? ⟨w.heap.size, j, none⟩ = false := fun j => (Hbw.out.frozen (p := ⟨w.heap.size, j, none⟩) kx0).trans (FX.out j)
      replace KX := KX.keep Hbw.out
      have KXl := KX.lt; have KXc := KX.get
      have Ex : Hid (∀ j, j < 5 → (wr.cell? ⟨w.heap.size, j, none⟩).isSome = true) := Lib.hid (by
        intro j hj
        rw [KXc j]
        rcases (by omega : j = 0 ∨ j = 1 ∨ j = 2 ∨ j = 3 ∨ j = 4) with rfl | rfl | rfl | rfl | rfl <;> rfl)
      clear KX
      generalize hf : wrN l = f at *
      have Hf := Lib.hid hf
      clear hf
      go_wp2
      have P := put5 wr w.heap.size (.int .i64 (f 0)) (.int .i64 (f 1)) (.int .i64 (f 2)) (.int .i64 (f 3)) (.int .i64 (f 4)) Ex.out
      have B := put5_below (HW.out.trans (Hbw.out.mono (HW.out.size))) (Nat.le_refl w.heap.size) (.int .i64 (f 0)) (.int .i64 (f 1)) (.int .i64 (f 2)) (.int .i64 (f 3)) (.int .i64 (f 4))
      generalize World.setCell _ ⟨w.heap.size, 4, none⟩ _ = U at P B ⊢
      have p0 := P 0 (by omega); have p1 := P 1 (by omega); have p2 := P 2 (by omega); have p3 := P 3 (by omega); have p4 := P 4 (by omega)
      clear P
      simp at p0 p1 p2 p3 p4
      refine bodyPost_ret (v := .agg #[.int .i64 (f 0), .int .i64 (f 1), .int .i64 (f 2), .int .i64 (f 3), .int .i64 (f 4)]) (by simp [results, Try.results56, go_sem, p0, p1, p2, p3, p4]) rfl ⟨by rw [← Hf.out], B⟩
end Go.Proofs.Ytpahbpgkmebieaa
