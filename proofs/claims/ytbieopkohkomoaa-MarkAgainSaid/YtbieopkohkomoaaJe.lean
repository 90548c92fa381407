/- Contracts of functions of the program and of the reference, and plain facts: a part of a proof. Own text. -/
import Derived.Test.YtbieopkohkomoaaJd
import Derived.Scope
import Derived.Lib.AppendZeros
import Derived.Deep.RegionHeld3
set_option linter.unusedVariables false
set_option linter.unusedSimpArgs false
set_option linter.unusedSectionVars false
namespace Go.Proofs.Ytbieopkohkomoaa
open Go Go.RowKit
set_option maxHeartbeats 400000
set_option maxRecDepth 100000

theorem tmod_bd (a : Int) {n : Int} (hn : 0 < n) : -n < a.tmod n ∧ a.tmod n < n := by
  refine ⟨?_, Int.tmod_lt_of_pos a hn⟩
  rw [Int.tmod_eq_emod]
  have := Int.emod_nonneg a (by omega : n ≠ 0)
  split <;> omega
theorem tmod_add (a : Int) {n : Int} (hn : 0 < n) : (a.tmod n + n) % n = a % n := by
  have h1 := Int.emod_nonneg a (by omega : n ≠ 0)
  have h2 := Int.emod_lt_of_pos a hn
  by_cases h : a.tmod n < 0
  · rw [tmod_neg_add hn h, Int.emod_eq_of_lt h1 h2]
  · rw [tmod_pos_eq hn h, Int.add_emod_right, Int.emod_eq_of_lt h1 h2]

theorem mod_any (a n : Int) (w : World) (hn : 0 < n) (hn2 : n ≤ 4611686018427387904) :
    Calls Try.prog 58 #[.int .i64 a, .int .i64 n] w fun e w' => e = .returned (.int .i64 (a % n)) ∧ w = w' := by
  have hb : (n == 0) = false := by simp; omega
  have h1 : n ≠ 0 := by omega
  obtain ⟨b2, b1⟩ := tmod_bd a hn
  have H := Lib.hid (tmod_add a hn)
  generalize hr : a.tmod n = r at *
  have Hr := Lib.hid hr
  go_enter Try.func58, Try.ntmps58
  go_wp2
  go_ret
  exact ⟨congrArg (fun v => Ending.returned (Value.int .i64 v)) H.out, rfl⟩

/-- The number with an index modulo the length. -/
def atL (l : List Int) (i : Int) : Int := l.getD (i % (l.length : Int)).toNat 0
theorem at_any (A : Option Addr) (n c : Nat) (l : List Int) (i : Int) (w : World) (hg : Is w A n l) (hn : n ≤ 4611686018427387904) :
    Calls Try.prog 59 #[.slice A n c, .int .i64 i] w fun e w' => e = .returned (.int .i64 (atL l i)) ∧ w = w' := by
  have Hl : Hid (n = l.length) := Lib.hid hg.len
  by_cases h0 : n = 0
  · have hb : ((n : Int) == 0) = true := by simp [h0]
    have H0 := Lib.hid h0
    clear h0
    go_enter Try.func59, Try.ntmps59
    go_wp2
    go_ret
    refine ⟨congrArg (fun v => Ending.returned (Value.int .i64 v)) ?_, rfl⟩
    have : l = [] := List.eq_nil_of_length_eq_zero (by rw [← Hl.out]; exact H0.out)
    rw [this]; rfl
  · have hb : ((n : Int) == 0) = false := by simp [h0]
    have g0 := Int.emod_nonneg i (by omega : (n : Int) ≠ 0)
    have g1 := Int.emod_lt_of_pos i (by omega : (0 : Int) < n)
    obtain ⟨q, hq⟩ := Int.eq_ofNat_of_zero_le g0
    have hqn : q < n := by omega
    have hql : q < l.length := by rw [← Hl.out]; exact hqn
    have Hv : Hid (atL l i = l[q]) := Lib.hid (by unfold atL; rw [← Hl.out, hq]; simp [hql])
    obtain ⟨b, o, rfl, hbl, hc⟩ := hg.get q hql
    generalize l[q] = y at *
    have Hq := Lib.hid hq
    clear hq g0 g1
    go_enter Try.func59, Try.ntmps59
    go_wp2_with (go_at_call 58; refine (mod_any _ _ _ (by omega) (by omega)).mono ?_; rintro e x1 ⟨rfl, rfl⟩; rw [Hq.out])
    go_ret
    exact ⟨congrArg (fun v => Ending.returned (Value.int .i64 v)) Hv.out.symm, rfl⟩

/-- A box of m that is being filled. -/
structure FBox (wr : World) (N m : Nat) (f : Nat → Int) (k : Nat) : Prop where
  lt : N < wr.heap.size
  cell : ∀ j, j < m → wr.cell? ⟨N, j, none⟩ = some (.int .i64 (if j < k then f j else 0))
  fro : ∀ j, wr.frozen? ⟨N, j, none⟩ = false
theorem FBox.keep {wr w' : World} {N m : Nat} {f : Nat → Int} {k : Nat} (h : FBox wr N m f k) (hb : Below wr.heap.size wr w') : FBox w' N m f k :=
  ⟨by have := hb.size; have := h.lt; omega, fun j hj => (hb.cell (p := ⟨N, j, none⟩) h.lt).trans (h.cell j hj), fun j => (hb.frozen (p := ⟨N, j, none⟩) h.lt).trans (h.fro j)⟩
theorem FBox.put {wr : World} {N m : Nat} {f g : Nat → Int} {k : Nat} (h : FBox wr N m f k) (hk : k < m) (v : Int) (hv : g k = v) (hg : ∀ j, j < k → g j = f j) : FBox (wr.setCell ⟨N, k, none⟩ (.int .i64 v)) N m g (k + 1) := by
  refine ⟨by simpa [World.setCell] using h.lt, fun j hj => ?_, fun j => by rw [World.frozen?_setCell]; exact h.fro j⟩
  by_cases e : j = k
  · subst e; rw [World.cell?_setCell_same' _ _ _ (by rw [h.cell j hj]; rfl), if_pos (by omega), hv]
  · rw [World.cell?_setCell_other _ _ _ _ (by intro h; injection h with _ h2; exact e h2.symm), h.cell j hj]
    by_cases e2 : j < k
    · rw [if_pos e2, if_pos (by omega), hg j e2]
    · rw [if_neg e2, if_neg (by omega)]
theorem FBox.again {wr : World} {N m : Nat} {f g : Nat → Int} {k : Nat} (h : FBox wr N m f (k + 1)) (hk : k < m) (v : Int) (hv : g k = v) (hg : ∀ j, j < k → g j = f j) : FBox (wr.setCell ⟨N, k, none⟩ (.int .i64 v)) N m g (k + 1) := by
  refine ⟨by simpa [World.setCell] using h.lt, fun j hj => ?_, fun j => by rw [World.frozen?_setCell]; exact h.fro j⟩
  by_cases e : j = k
  · subst e; rw [World.cell?_setCell_same' _ _ _ (by rw [h.cell j hj]; rfl), if_pos (by omega), hv]
  · rw [World.cell?_setCell_other _ _ _ _ (by intro h; injection h with _ h2; exact e h2.symm), h.cell j hj]
    by_cases e2 : j < k + 1
    · rw [if_pos e2, if_pos (by omega), hg j (by omega)]
    · rw [if_neg e2, if_neg (by omega)]

theorem numbered_any (k : Nat) (w : World) (hk : k < 15625) :
    Calls Try.prog 57 #[.int .i64 k] w fun e w' => e = .returned (.agg #[.int .i64 (markNo k).r0, .int .i64 (markNo k).r1, .int .i64 (markNo k).r2, .int .i64 (markNo k).r3, .int .i64 (markNo k).r4, .int .i64 (markNo k).r5]) ∧ Below w.heap.size w w' := by
  have h1 : (0 : Int) ≤ (k : Int) / 5 ∧ (k : Int) / 5 ≤ 15625 := by omega
  have h2 : (0 : Int) ≤ (k : Int) / 5 / 5 ∧ (k : Int) / 5 / 5 ≤ 15625 := by omega
  have h3 : (0 : Int) ≤ (k : Int) / 5 / 5 / 5 ∧ (k : Int) / 5 / 5 / 5 ≤ 15625 := by omega
  have h4 : (0 : Int) ≤ (k : Int) / 5 / 5 / 5 / 5 ∧ (k : Int) / 5 / 5 / 5 / 5 ≤ 15625 := by omega
  have h5 : (0 : Int) ≤ (k : Int) / 5 / 5 / 5 / 5 / 5 ∧ (k : Int) / 5 / 5 / 5 / 5 / 5 ≤ 15625 := by omega
  obtain ⟨h1, g1⟩ := h1; obtain ⟨h2, g2⟩ := h2; obtain ⟨h3, g3⟩ := h3; obtain ⟨h4, g4⟩ := h4; obtain ⟨h5, g5⟩ := h5
  go_enter Try.func57, Try.ntmps57
  go_wp2
  refine wp_loop_rounds 7 ?_
  repeat any_goals (rw [rounds_succ]; go_wp2)
  have e0 : (markNo k).r0 = (k : Int) / 5 / 5 / 5 / 5 / 5 % 5 := by simp only [markNo]; omega
  have e1 : (markNo k).r1 = (k : Int) / 5 / 5 / 5 / 5 % 5 := by simp only [markNo]; omega
  have e2 : (markNo k).r2 = (k : Int) / 5 / 5 / 5 % 5 := by simp only [markNo]; omega
  have e3 : (markNo k).r3 = (k : Int) / 5 / 5 % 5 := by simp only [markNo]; omega
  have e4 : (markNo k).r4 = (k : Int) / 5 % 5 := by simp only [markNo]; omega
  have e5 : (markNo k).r5 = (k : Int) % 5 := by simp only [markNo]; omega
  refine bodyPost_ret (v := .agg #[.int .i64 ((k : Int) / 5 / 5 / 5 / 5 / 5 % 5), .int .i64 ((k : Int) / 5 / 5 / 5 / 5 % 5), .int .i64 ((k : Int) / 5 / 5 / 5 % 5), .int .i64 ((k : Int) / 5 / 5 % 5), .int .i64 ((k : Int) / 5 % 5), .int .i64 ((k : Int) % 5)]) (by simp [results, Try.results57, go_sem]) rfl ⟨by rw [e0, e1, e2, e3, e4, e5], by go_grown⟩

/-- Wear that numbers describe. -/
def wrN (l : List Int) (s : Nat) : Int := if atL l s % 12 < 5 then bits BinOp.or IntKind.i64 (2 ^ s) (2 ^ (atL l s % 12).toNat) else 2 ^ s
theorem or_dec : ∀ a b : Fin 5, 0 ≤ bits BinOp.or IntKind.i64 (2 ^ a.val) (2 ^ b.val) ∧ bits BinOp.or IntKind.i64 (2 ^ a.val) (2 ^ b.val) ≤ 31 ∧ hasB (bits BinOp.or IntKind.i64 (2 ^ a.val) (2 ^ b.val)) a.val = true := by decide +kernel
theorem p2_dec : ∀ a : Fin 5, (0 : Int) ≤ 2 ^ a.val ∧ (2 : Int) ^ a.val ≤ 31 ∧ hasB (2 ^ a.val) a.val = true := by decide +kernel
theorem wrN_ok (l : List Int) (s : Nat) (h : s < 5) : wrB (wrN l s) s = true := by
  unfold wrN wrB
  have g0 := Int.emod_nonneg (atL l s) (by decide : (12 : Int) ≠ 0)
  split
  · obtain ⟨a, b, c⟩ := or_dec ⟨s, h⟩ ⟨(atL l s % 12).toNat, by omega⟩
    simp only [Bool.and_eq_true, decide_eq_true_eq]
    exact ⟨⟨a, b⟩, c⟩
  · obtain ⟨a, b, c⟩ := p2_dec ⟨s, h⟩
    simp only [Bool.and_eq_true, decide_eq_true_eq]
    exact ⟨⟨a, b⟩, c⟩
theorem wears_ok (l : List Int) : okW (wrN l 0) (wrN l 1) (wrN l 2) (wrN l 3) (wrN l 4) = true := by
  simp only [okW, Bool.and_eq_true]
  exact ⟨⟨⟨⟨wrN_ok l 0 (by omega), wrN_ok l 1 (by omega)⟩, wrN_ok l 2 (by omega)⟩, wrN_ok l 3 (by omega)⟩, wrN_ok l 4 (by omega)⟩

theorem put5 (w : World) (b : Nat) (v0 v1 v2 v3 v4 : Value) (h : ∀ j, j < 5 → (w.cell? ⟨b, j, none⟩).isSome = true) : ∀ j, j < 5 →
    (((((w.setCell ⟨b, 0, none⟩ v0).setCell ⟨b, 1, none⟩ v1).setCell ⟨b, 2, none⟩ v2).setCell ⟨b, 3, none⟩ v3).setCell ⟨b, 4, none⟩ v4).cell? ⟨b, j, none⟩ = [v0, v1, v2, v3, v4][j]? := by
  intro j hj
  have := World.cell?_setCells_in b [v0, v1, v2, v3, v4] 0 w (fun j hj => by rw [Nat.zero_add]; exact h j (by simpa using hj)) j (by simpa using hj)
  rw [Nat.zero_add] at this
  rw [List.getElem?_eq_getElem (by simpa using hj)]
  exact this
theorem put5_below {a w : World} {B b : Nat} (h : Below B a w) (hB : B ≤ b) (v0 v1 v2 v3 v4 : Value) :
    Below B a (((((w.setCell ⟨b, 0, none⟩ v0).setCell ⟨b, 1, none⟩ v1).setCell ⟨b, 2, none⟩ v2).setCell ⟨b, 3, none⟩ v3).setCell ⟨b, 4, none⟩ v4) :=
  ((((h.setCell hB _).setCell hB _).setCell hB _).setCell hB _).setCell hB _

theorem wears_any (A : Option Addr) (n c : Nat) (l : List Int) (w : World) (hg : Is w A n l) (hn : n ≤ 4611686018427387904) :
    Calls Try.prog 56 #[.slice A n c] w fun e w' => e = .returned (.agg #[.int .i64 (wrN l 0), .int .i64 (wrN l 1), .int .i64 (wrN l 2), .int .i64 (wrN l 3), .int .i64 (wrN l 4)]) ∧ Below w.heap.size w w' := by
  go_enter Try.func56, Try.ntmps56
  go_wp2
  generalize hW : World.alloc w _ = W
  have HW : Hid (Below w.heap.size w W) := Lib.hid (by subst hW; go_grown)
  have KX : Bk W w.heap.size [.int .i64 0, .int .i64 0, .int .i64 0, .int .i64 0, .int .i64 0] := ⟨by subst hW; simp, by subst hW; intro j; simp [go_sem]⟩
  have FX : Hid (∀ j, W.frozen? ⟨w.heap.size, j, none⟩ = false) := Lib.hid (by subst hW; intro j; simp [go_sem])
  have Hsz : Hid (W.heap.size = w.heap.size + 1) := Lib.hid (by subst hW; simp)
  clear hW
  have HI := Lib.hid (hg.keep HW.out)
  generalize hV : World.alloc W _ = V
  have Hbx : Hid (FBox V (w.heap.size + 1) 5 (wrN l) 0) := Lib.hid (by
    subst hV
    rw [← Hsz.out]
    exact ⟨by simp, fun j hj => by
      rw [World.cell?_alloc_at _ _ _ _ rfl, if_neg (by omega)]
      rcases (by omega : j = 0 ∨ j = 1 ∨ j = 2 ∨ j = 3 ∨ j = 4) with rfl | rfl | rfl | rfl | rfl <;> rfl, fun j => World.frozen?_alloc_at _ _ _ _ rfl⟩)
  have HV0 : Hid (Below W.heap.size W V) := Lib.hid (by subst hV; exact up_alloc _ _)
  clear hV
  have kx0 := KX.lt
  go_loopw [4] (fun i wr => ∃ (k : Nat), k ≤ 5 ∧ i = .int .i64 k ∧ Below W.heap.size W wr ∧ FBox wr (w.heap.size + 1) 5 (wrN l) k) (fun i _ => 5 - (intOf i).toNat)
  case atStart => exact ⟨0, by omega, rfl, HV0.out, Hbx.out⟩
  case round =>
    obtain ⟨k, hk, rfl, hbw, hbx⟩ := hrel
    have Hbw := Lib.hid hbw
    have Hbx2 := Lib.hid hbx
    clear hbw hbx
    by_cases hlt : k < 5
    · have f1 := Hbx2.out.cell k hlt
      have f2 := Hbx2.out.fro k
      have f3 := Hbx2.out.lt
      have hp := p2n k hlt
      rw [if_neg (by omega)] at f1
      have Hput : Hid (FBox (wr.setCell ⟨w.heap.size + 1, k, none⟩ (.int .i64 (2 ^ k))) (w.heap.size + 1) 5 (fun j => if j = k then 2 ^ k else wrN l j) (k + 1)) := Lib.hid (Hbx2.out.put hlt _ (if_pos rfl) (fun j hj => if_neg (by omega)))
      have Hbw2 : Hid (Below W.heap.size W (wr.setCell ⟨w.heap.size + 1, k, none⟩ (.int .i64 (2 ^ k)))) := Lib.hid (Hbw.out.setCell (Nat.le_of_eq Hsz.out) _)
      have m0 := Int.emod_nonneg (atL l k) (by decide : (12 : Int) ≠ 0)
      have m1 := Int.emod_lt_of_pos (atL l k) (by decide : (0 : Int) < 12)
      have Hval : Hid (wrN l k = if atL l k % 12 < 5 then bits BinOp.or IntKind.i64 (2 ^ k) (2 ^ (atL l k % 12).toNat) else 2 ^ k) := Lib.hid rfl
      generalize hq : atL l k % 12 = q at *
      have Hq := Lib.hid hq
      clear hq
      by_cases hq5 : q < 5
      · have hp2 := p2_wrap q m0 hq5
        go_wp2_with (first
          | (go_at_call 59; refine (at_any _ _ _ l k _ (HI.out.keep Hbw2.out) hn).mono ?_; rintro e x1 ⟨rfl, rfl⟩)
          | (go_at_call 58; refine (mod_any _ _ _ (by omega) (by omega)).mono ?_; rintro e x1 ⟨rfl, rfl⟩; rw [Hq.out]))
        have Hfp : Hid (wrN l k = bits BinOp.or IntKind.i64 (2 ^ k) (2 ^ q.toNat)) := Lib.hid (by rw [Hval.out, if_pos hq5])
        generalize World.setCell wr ⟨w.heap.size + 1, k, none⟩ (.int .i64 (2 ^ k)) = U at *
        clear f1 f2 f3
        have f1 := Hput.out.cell k hlt
        have f2 := Hput.out.fro k
        have f3 := Hput.out.lt
        rw [if_pos (by omega), if_pos rfl] at f1
        refine wp_region_grow_tail 8 (by kernel_rfl) (by kernel_rfl) ?_
        simp only [List.take_succ_cons, List.take_zero, List.drop_succ_cons, List.drop_zero]
        repeat (go_big_quiet_step ((fail)))
        refine wpQuiet_nil ?_
        intro z
        have Hbz := Lib.hid (Hput.out.keep (grow_below U z))
        have HBz : Hid (Below W.heap.size W (grow U z)) := Lib.hid (Hbw2.out.trans ((grow_below U z).mono Hbw2.out.size))
        go_wp2
        refine ⟨⟨k + 1, by omega, by go_num, HBz.out.setCell (Nat.le_of_eq Hsz.out) _, ?_⟩, by simp [intOf]; omega⟩
        exact Hbz.out.again hlt _ Hfp.out (fun j hj => by rw [if_neg (by omega)])
      · go_wp2_with (first
          | (go_at_call 59; refine (at_any _ _ _ l k _ (HI.out.keep Hbw2.out) hn).mono ?_; rintro e x1 ⟨rfl, rfl⟩)
          | (go_at_call 58; refine (mod_any _ _ _ (by omega) (by omega)).mono ?_; rintro e x1 ⟨rfl, rfl⟩; rw [Hq.out]))
        refine ⟨⟨k + 1, by omega, by go_num, Hbw2.out, ?_⟩, by simp [intOf]; omega⟩
        have e := Hput.out
        refine ⟨e.lt, fun j hj => ?_, e.fro⟩
        rw [e.cell j hj]
        by_cases hj2 : j < k + 1
        · rw [if_pos hj2, if_pos hj2]
          by_cases hjk : j = k
          · subst hjk; rw [if_pos rfl, Hval.out, if_neg (by omega)]
          · rw [if_neg hjk]
        · rw [if_neg hj2, if_neg hj2]
    · obtain rfl : k = 5 := by omega
      have hlt5 := Hbx2.out.lt
      have d0 := Hbx2.out.cell 0 (by omega); have d1 := Hbx2.out.cell 1 (by omega); have d2 := Hbx2.out.cell 2 (by omega); have d3 := Hbx2.out.cell 3 (by omega); have d4 := Hbx2.out.cell 4 (by omega)
      simp only [show (0 : Nat) < 5 by decide, show (1 : Nat) < 5 by decide, show (2 : Nat) < 5 by decide, show (3 : Nat) < 5 by decide, show (4 : Nat) < 5 by decide, if_true] at d0 d1 d2 d3 d4
      have fr3 : ∀ j, wr.frozen? ⟨w.heap.size, j, none⟩ = false := fun j => (Hbw.out.frozen (p := ⟨w.heap.size, j, none⟩) kx0).trans (FX.out j)
      replace KX := KX.keep Hbw.out
      have KXl := KX.lt; have KXc := KX.get
      have Ex : Hid (∀ j, j < 5 → (wr.cell? ⟨w.heap.size, j, none⟩).isSome = true) := Lib.hid (by
        intro j hj
        rw [KXc j]
        rcases (by omega : j = 0 ∨ j = 1 ∨ j = 2 ∨ j = 3 ∨ j = 4) with rfl | rfl | rfl | rfl | rfl <;> rfl)
      clear KX
      generalize hf : wrN l = f at *
      have Hf := Lib.hid hf
      clear hf
      go_wp2
      have P := put5 wr w.heap.size (.int .i64 (f 0)) (.int .i64 (f 1)) (.int .i64 (f 2)) (.int .i64 (f 3)) (.int .i64 (f 4)) Ex.out
      have B := put5_below (HW.out.trans (Hbw.out.mono (HW.out.size))) (Nat.le_refl w.heap.size) (.int .i64 (f 0)) (.int .i64 (f 1)) (.int .i64 (f 2)) (.int .i64 (f 3)) (.int .i64 (f 4))
      generalize World.setCell _ ⟨w.heap.size, 4, none⟩ _ = U at P B ⊢
      have p0 := P 0 (by omega); have p1 := P 1 (by omega); have p2 := P 2 (by omega); have p3 := P 3 (by omega); have p4 := P 4 (by omega)
      clear P
      simp at p0 p1 p2 p3 p4
      refine bodyPost_ret (v := .agg #[.int .i64 (f 0), .int .i64 (f 1), .int .i64 (f 2), .int .i64 (f 3), .int .i64 (f 4)]) (by simp [results, Try.results56, go_sem, p0, p1, p2, p3, p4]) rfl ⟨by rw [← Hf.out], B⟩
end Go.Proofs.Ytbieopkohkomoaa

namespace Go.Proofs.Ytbieopkohkomoaa
open Go Go.RowKit Go.Shelf
attribute [local go_sem] Oper.semAt_some
set_option maxHeartbeats 400000
set_option maxRecDepth 100000

/-- Is a mark apart from all that were given? -/
def apAll (w0 w1 w2 w3 w4 F : Int) (gs : List Giv) (m : Rd) : Bool := gs.all fun g => apartB w0 w1 w2 w3 w4 F g.m0 g.m1 g.m2 g.m3 g.m4 g.m5 m.r0 m.r1 m.r2 m.r3 m.r4 m.r5
def zeroR : Rd := ⟨0, 0, 0, 0, 0, 0⟩
def nextR (w0 w1 w2 w3 w4 F : Int) (gs : List Giv) : Rd × Int :=
  if okB w0 w1 w2 w3 w4 F gs = true then (if gs.length = 40 then (zeroR, 16) else match (upto 15625).find? (apAll w0 w1 w2 w3 w4 F gs) with | some m => (m, 0) | none => (zeroR, 16)) else (zeroR, 13)
def encR (r : Rd) : Value := .agg #[.int .i64 r.r0, .int .i64 r.r1, .int .i64 r.r2, .int .i64 r.r3, .int .i64 r.r4, .int .i64 r.r5]

theorem put6_heap (w : World) (b k : Nat) (h : k ≠ b) (v0 v1 v2 v3 v4 v5 : Value) :
    ((((((w.setCell ⟨b, 0, none⟩ v0).setCell ⟨b, 1, none⟩ v1).setCell ⟨b, 2, none⟩ v2).setCell ⟨b, 3, none⟩ v3).setCell ⟨b, 4, none⟩ v4).setCell ⟨b, 5, none⟩ v5).heap[k]? = w.heap[k]? := by
  rw [Below.heap_setCell _ _ _ _ h, Below.heap_setCell _ _ _ _ h, Below.heap_setCell _ _ _ _ h, Below.heap_setCell _ _ _ _ h, Below.heap_setCell _ _ _ _ h, Below.heap_setCell _ _ _ _ h]
theorem cell_putObj (w : World) (b j l : Nat) (o : Obj) (h : b ≠ l) : (w.putObj l o).cell? ⟨b, j, none⟩ = w.cell? ⟨b, j, none⟩ :=
  World.cell?_of_block (a := ⟨b, j, none⟩) (World.putObj_heap_other h)
theorem wpIn_scope_wide {n : Nat} {P : Program} {Q : Exit → Act → World → Prop} {a : Act} {w : World} {c : Code} (h : c.wpIn Fence.wide n P (Exit.noGoto Q) a w) : (Code.scope c).wpIn Fence.wide n P Q a w :=
  wpIn_wide.2 (wp_scope_straight (wpIn_wide.1 h))
theorem noGoto_ret {Q : Exit → Act → World → Prop} {a : Act} {w : World} (h : Q .ret a w) : Exit.noGoto Q .ret a w := h
theorem find_hit {p : Rd → Bool} {pre : List Rd} {m : Rd} {k N : Nat} (hk : k < N) (he : upto (k + 1) = pre ++ [m]) (h0 : ∀ x ∈ pre, p x = false) (h1 : p m = true) : (upto N).find? p = some m := by
  have hsub : upto N = upto (k + 1) ++ ((List.range N).drop (k + 1)).map markNo := by
    unfold upto
    rw [← List.map_append]
    have : List.range (k + 1) = (List.range N).take (k + 1) := by rw [List.take_range, Nat.min_eq_left (by omega)]
    rw [this, List.take_append_drop]
  rw [hsub, he, List.append_assoc, List.find?_append]
  have : pre.find? p = none := by rw [List.find?_eq_none]; intro x hx; rw [h0 x hx]; simp
  rw [this]; simp [h1]
theorem find_no {p : Rd → Bool} {N : Nat} (h0 : ∀ x ∈ upto N, p x = false) : (upto N).find? p = none := by
  rw [List.find?_eq_none]; intro x hx; rw [h0 x hx]; simp

theorem bodyPostM_ret0 {F : Fence} {n : Nat} {P : Program} {fn : Func} {R : Ending → World → Prop} {a : Act} {w : World} {v : Value}
    (hr : (results fn a.tmps).run P w = .ok v w) (hd : a.defers = []) (hR : R (.returned v) w) : bodyPostM F n P fn R .ret a w := by
  show LeavesInM F n P fn a.tmps R a.defers .returning w; rw [hd]; exact ⟨v, hr, hR⟩
theorem bodyPostM_ret1 {F : Fence} {n D : Nat} {P : Program} {fn : Func} {R : Ending → World → Prop} {a : Act} {w : World} {v : Value}
    (hd : a.defers = [{ target := .collected D, args := #[] }]) (hk : w.heap[D]? = some (.deferred (some [])))
    (hr : (results fn a.tmps).run P (w.putObj D (.deferred none)) = .ok v (w.putObj D (.deferred none))) (hR : R (.returned v) (w.putObj D (.deferred none))) : bodyPostM F n P fn R .ret a w := by
  show LeavesInM F n P fn a.tmps R a.defers .returning w; rw [hd]; exact ⟨by simp, .inl ⟨_, _, rfl, run_takeDeferred hk, v, hr, hR⟩⟩

theorem next_any (w0 w1 w2 w3 w4 F : Int) (A : Option Addr) (n c : Nat) (gs : List Giv) (w : World) (hg : Gs w A n gs) (hnc : n ≤ c) :
    Calls Try.prog 39 #[.agg #[.int .i64 w0, .int .i64 w1, .int .i64 w2, .int .i64 w3, .int .i64 w4, .int .i64 F, .slice A n c]] w fun e w' =>
      e = .returned (.tuple #[encR (nextR w0 w1 w2 w3 w4 F gs).1, .int .i64 (nextR w0 w1 w2 w3 w4 F gs).2]) ∧ Below w.heap.size w w' := by
  have Hl : Hid (n = gs.length) := Lib.hid hg.len
  refine (callsIn_wide (n := 9)).1 (callsIn_of_wp_marks Try.func39 rfl trivial ?_ rfl)
  simp only [Try.ntmps39, List.size_toArray, List.length_cons, List.length_nil, Nat.reduceAdd, Nat.reduceSub, Array.replicate_succ, Array.replicate_zero, List.push_toArray, List.append_toArray, List.nil_append, List.cons_append]
  gi_wp2_with fail
  generalize hW : (World.alloc _ _) = W
  have HW : Hid (Below w.heap.size w W) := Lib.hid (by subst hW; go_grown)
  have hs : w.heap.size + 1 < W.heap.size := by subst hW; simp
  have cm : ∀ j, W.cell? ⟨w.heap.size, j, none⟩ = [Value.int .i64 w0, .int .i64 w1, .int .i64 w2, .int .i64 w3, .int .i64 w4, .int .i64 F, .slice A n c][j]? := by subst hW; intro j; simp [go_sem]
  have cr : ∀ j, W.cell? ⟨w.heap.size + 1, j, none⟩ = [Value.int .i64 0, .int .i64 0, .int .i64 0, .int .i64 0, .int .i64 0, .int .i64 0][j]? := by subst hW; intro j; simp [go_sem]
  have fr : ∀ j, W.frozen? ⟨w.heap.size + 1, j, none⟩ = false := by subst hW; intro j; simp [go_sem]
  clear hW
  refine wpIn_scope_wide ?_
  have hs0 : w.heap.size < W.heap.size := by omega
  have Hg1 := Lib.hid (hg.keep HW.out)
  have Ex : ∀ z, Hid (∀ j, j < 6 → ((grow W z).cell? ⟨w.heap.size + 1, j, none⟩).isSome = true) := fun z => Lib.hid (by
    intro j hj
    rw [grow_cell_lt _ _ _ _ hs, cr j]
    rcases (by omega : j = 0 ∨ j = 1 ∨ j = 2 ∨ j = 3 ∨ j = 4 ∨ j = 5) with rfl | rfl | rfl | rfl | rfl | rfl <;> rfl)
  cases hb : okB w0 w1 w2 w3 w4 F gs
  · have Hb := Lib.hid hb
    clear hb
    gi_wp2_with (refine ⟨trivial, (callsIn_wide.2 (check_no _ _ _ _ _ _ _ _ _ _ _ Hg1.out hnc Hb.out)).mono ?_⟩; rintro e x1 ⟨rfl, hb1⟩; obtain ⟨z, rfl⟩ := below_grow hb1; clear hb1)
    have P := put6 (grow W z) (w.heap.size + 1) (.int .i64 0) (.int .i64 0) (.int .i64 0) (.int .i64 0) (.int .i64 0) (.int .i64 0) (Ex z).out
    have B := put6_below (up HW.out (grow_below W z)) (by omega : w.heap.size ≤ w.heap.size + 1) (.int .i64 0) (.int .i64 0) (.int .i64 0) (.int .i64 0) (.int .i64 0) (.int .i64 0)
    generalize World.setCell _ ⟨w.heap.size + 1, 5, none⟩ _ = V at P B ⊢
    have p0 := P 0 (by omega); have p1 := P 1 (by omega); have p2 := P 2 (by omega); have p3 := P 3 (by omega); have p4 := P 4 (by omega); have p5 := P 5 (by omega)
    clear P
    simp at p0 p1 p2 p3 p4 p5
    refine noGoto_ret (bodyPostM_ret0 (v := .tuple #[.agg #[.int .i64 0, .int .i64 0, .int .i64 0, .int .i64 0, .int .i64 0, .int .i64 0], .int .i64 13]) (by simp [results, Try.results39, go_sem, p0, p1, p2, p3, p4, p5]) rfl ⟨?_, B⟩)
    unfold nextR; rw [Hb.out]; rfl
  have Hb := Lib.hid hb
  clear hb
  by_cases h40 : n = 40
  · have H40 := Lib.hid h40
    subst h40
    gi_wp2_with (refine ⟨trivial, (callsIn_wide.2 (check_yes _ _ _ _ _ _ _ _ _ _ _ Hg1.out hnc Hb.out)).mono ?_⟩; rintro e x1 ⟨rfl, hb1⟩; obtain ⟨z, rfl⟩ := below_grow hb1; clear hb1)
    have P := put6 (grow W z) (w.heap.size + 1) (.int .i64 0) (.int .i64 0) (.int .i64 0) (.int .i64 0) (.int .i64 0) (.int .i64 0) (Ex z).out
    have B := put6_below (up HW.out (grow_below W z)) (by omega : w.heap.size ≤ w.heap.size + 1) (.int .i64 0) (.int .i64 0) (.int .i64 0) (.int .i64 0) (.int .i64 0) (.int .i64 0)
    generalize World.setCell _ ⟨w.heap.size + 1, 5, none⟩ _ = V at P B ⊢
    have p0 := P 0 (by omega); have p1 := P 1 (by omega); have p2 := P 2 (by omega); have p3 := P 3 (by omega); have p4 := P 4 (by omega); have p5 := P 5 (by omega)
    clear P
    simp at p0 p1 p2 p3 p4 p5
    refine noGoto_ret (bodyPostM_ret0 (v := .tuple #[.agg #[.int .i64 0, .int .i64 0, .int .i64 0, .int .i64 0, .int .i64 0, .int .i64 0], .int .i64 16]) (by simp [results, Try.results39, go_sem, p0, p1, p2, p3, p4, p5]) rfl ⟨?_, B⟩)
    unfold nextR; rw [Hb.out, if_pos rfl, if_pos Hl.out.symm]; rfl
  have H40 := Lib.hid h40
  have h40b : ((n : Int) == 40) = false := by simp; omega
  gi_wp2_with (refine ⟨trivial, (callsIn_wide.2 (check_yes _ _ _ _ _ _ _ _ _ _ _ Hg1.out hnc Hb.out)).mono ?_⟩; rintro e x1 ⟨rfl, hb1⟩; obtain ⟨z, rfl⟩ := below_grow hb1; clear hb1)
  refine wpIn_label ?_
  gi_wp2
  have hz0 : w.heap.size < W.heap.size + z.blocks.size := by omega
  have hz1 : w.heap.size + 1 < W.heap.size + z.blocks.size := by omega
  generalize hU : World.alloc _ (.cells #[.int .i64 16] 32) = U
  have HU : Hid (Below W.heap.size W U) := Lib.hid (by subst hU; exact up (grow_below W z) (up (up_alloc _ _) (up_alloc _ _)))
  have hUs : U.heap.size = W.heap.size + z.blocks.size + 1 + 1 := by subst hU; simp
  have F5 : ∀ j, U.cell? ⟨W.heap.size + z.blocks.size, j, none⟩ = [Value.int .i64 0, .int .i64 0, .int .i64 0, .int .i64 0, .int .i64 0, .int .i64 0][j]? := by subst hU; intro j; simp [go_sem]
  have F6 : U.cell? ⟨W.heap.size + z.blocks.size + 1, 0, none⟩ = some (.int .i64 16) := by subst hU; simp [go_sem]
  have Z5 : ∀ j, U.frozen? ⟨W.heap.size + z.blocks.size, j, none⟩ = false := by subst hU; intro j; simp [go_sem]
  have Z6 : U.frozen? ⟨W.heap.size + z.blocks.size + 1, 0, none⟩ = false := by subst hU; simp [go_sem]
  clear hU
  have u5 : W.heap.size + z.blocks.size < U.heap.size := by omega
  have u6 : W.heap.size + z.blocks.size + 1 < U.heap.size := by omega
  have Hd := Lib.hid (okB_ok Hb.out)
  have H16 : Hid (0 ≤ F ∧ F ≤ 2) := Lib.hid (by have := Hb.out; simp only [okB, Bool.and_eq_true, decide_eq_true_eq] at this; exact this.1.1.2)
  refine rangeFunc_law (by omega) (gf := 87) (lb := #[]) rfl (enters_of Try.func87 (by kernel_rfl) rfl) (every_iter w) (up HW.out HU.out) (fun _ => rfl)
    (fun pre X => Below U.heap.size U X ∧ ∀ x ∈ pre, apAll w0 w1 w2 w3 w4 F gs x = false)
    (fun c pre X => c = .exit 0 ∧ ∃ pre0 m, pre = pre0 ++ [m] ∧ (∀ x ∈ pre0, apAll w0 w1 w2 w3 w4 F gs x = false) ∧ apAll w0 w1 w2 w3 w4 F gs m = true ∧ Below W.heap.size W X ∧ MBox X (W.heap.size + z.blocks.size) m ∧ X.cell? ⟨W.heap.size + z.blocks.size + 1, 0, none⟩ = some (.int .i64 0))
    (fun _ _ _ => trivial) ?_ ?_ ⟨Below.refl _ _, by simp⟩ ?_ ?_ ?_
  · rintro s X Y ⟨h1, h2⟩ hb
    exact ⟨h1.trans hb, h2⟩
  · rintro c s X o ⟨rfl, pre0, m, rfl, h0, h1, h2, h3, h4⟩
    have hb : Below U.heap.size X (X.putObj (U.heap.size + 1) o) := below_putObj X (by omega) o
    generalize X.putObj (U.heap.size + 1) o = Y at hb ⊢
    refine ⟨rfl, pre0, m, rfl, h0, h1, h2.trans (hb.mono (by have := HU.out.size; omega)), ?_, (hb.cell (p := ⟨W.heap.size + z.blocks.size + 1, 0, none⟩) u6).trans h4⟩
    obtain ⟨b0, b1, b2, b3, b4, b5, b6, b7⟩ := h3
    have k : ∀ j, Y.cell? ⟨W.heap.size + z.blocks.size, j, none⟩ = X.cell? ⟨W.heap.size + z.blocks.size, j, none⟩ := fun j => hb.cell (p := ⟨W.heap.size + z.blocks.size, j, none⟩) u5
    exact ⟨by have := hb.size; omega, (k 0).trans b1, (k 1).trans b2, (k 2).trans b3, (k 3).trans b4, (k 4).trans b5, (k 5).trans b6, fun j => (hb.frozen (p := ⟨W.heap.size + z.blocks.size, j, none⟩) u5).trans (b7 j)⟩
  · rintro l pre x X ⟨k, hk, hsp⟩ _ ⟨hbx, hno⟩ hsz
    obtain ⟨rfl, rfl⟩ : upto k = pre ∧ markNo k = x := by
      rw [upto_succ] at hsp
      exact ⟨(List.append_inj_left' hsp rfl).symm, by simpa using (List.append_inj_right' hsp rfl).symm⟩
    have hdg := markNo_dig k
    have Hsp := Lib.hid hsp
    have Hno := Lib.hid hno
    have Hbx := Lib.hid hbx
    clear hsp hno hbx
    have xs0 : U.heap.size ≤ X.heap.size := by omega
    have xs1 : w.heap.size < X.heap.size := by omega
    have xs2 : W.heap.size + z.blocks.size < X.heap.size := by omega
    have xs3 : W.heap.size + z.blocks.size + 1 < X.heap.size := by omega
    generalize upto k = pre at *
    generalize markNo k = x at *
    simp only [encM]
    gi_wp2
    refine ⟨Above.of_below (up_alloc _ _), ?_⟩
    intro V hV1 hV2
    have HXV : Hid (Below U.heap.size X V) := Lib.hid (((up_alloc _ _).mono xs0).trans hV1)
    have HUV : Hid (Below U.heap.size U V) := Lib.hid (Hbx.out.trans HXV.out)
    have HWV : Hid (Below W.heap.size W V) := Lib.hid (HU.out.trans (HUV.out.mono (by omega)))
    have vN : X.heap.size < V.heap.size := by have := hV2.size; simp at this; omega
    have hN : ∀ j, V.cell? ⟨X.heap.size, j, none⟩ = [Value.int .i64 x.r0, .int .i64 x.r1, .int .i64 x.r2, .int .i64 x.r3, .int .i64 x.r4, .int .i64 x.r5][j]? := by
      intro j
      rw [World.cell?_of_block (a := ⟨X.heap.size, j, none⟩) (hV2.block X.heap.size hsz (by simp))]
      simp [go_sem]
    have HN : Hid (MBox V X.heap.size x) := Lib.hid (by
      refine ⟨vN, hN 0, hN 1, hN 2, hN 3, hN 4, hN 5, fun j => ?_⟩
      rw [World.frozen?_of_block (a := ⟨X.heap.size, j, none⟩) (hV2.block X.heap.size hsz (by simp))]
      simp [go_sem])
    have H5 : Hid (MBox V (W.heap.size + z.blocks.size) zeroR) := Lib.hid (MBox.keep (w := U) ⟨u5, F5 0, F5 1, F5 2, F5 3, F5 4, F5 5, Z5⟩ HUV.out u5)
    clear hV1 hV2 hN
    have v0 : w.heap.size < V.heap.size := by omega
    have v5 : W.heap.size + z.blocks.size < V.heap.size := by omega
    have v6 : W.heap.size + z.blocks.size + 1 < V.heap.size := by omega
    have cmV : ∀ j, V.cell? ⟨w.heap.size, j, none⟩ = [Value.int .i64 w0, .int .i64 w1, .int .i64 w2, .int .i64 w3, .int .i64 w4, .int .i64 F, .slice A n c][j]? := fun j => (HWV.out.cell (p := ⟨w.heap.size, j, none⟩) hs0).trans (cm j)
    have c6V : V.cell? ⟨W.heap.size + z.blocks.size + 1, 0, none⟩ = some (.int .i64 16) := (HUV.out.cell (p := ⟨_, 0, none⟩) u6).trans F6
    have z6V : V.frozen? ⟨W.heap.size + z.blocks.size + 1, 0, none⟩ = false := (HUV.out.frozen (p := ⟨_, 0, none⟩) u6).trans Z6
    have HgV := Lib.hid (hg.keep (up HW.out HWV.out))
    have hn40 : n ≤ 40 := by have := okB_40 Hb.out; have := Hl.out; omega
    clear cm cr fr F5 F6 Z5 Z6
    obtain ⟨_, x0, x1, x2, x3, x4, x5, _⟩ := HN.out
    obtain ⟨_, y0, y1, y2, y3, y4, y5, yf⟩ := H5.out
    obtain ⟨⟨a0, b0⟩, ⟨a1, b1⟩, ⟨a2, b2⟩, ⟨a3, b3⟩, ⟨a4, b4⟩, ⟨a5, b5⟩⟩ := hdg
    gi_wp2
    gi_loopw [25] (fun i wr => ∃ (k : Nat) (y : Gr), k ≤ n ∧ i = .int .i64 k ∧ wr = grow V y ∧ apAll w0 w1 w2 w3 w4 F (gs.take k) x = true) (fun i _ => n - (intOf i).toNat)
    case atStart => exact ⟨0, ⟨#[], V.drawn⟩, by omega, rfl, by simp [grow], rfl⟩
    case round =>
      obtain ⟨k, y, hk, rfl, rfl, hall⟩ := hrel
      have Hall := Lib.hid hall
      clear hall
      by_cases hlt : k < n
      rotate_left
      · obtain rfl : k = n := by omega
        have Hf : Hid (apAll w0 w1 w2 w3 w4 F gs x = true) := Lib.hid (by have := Hall.out; rwa [List.take_of_length_le (by rw [← Hl.out]; exact Nat.le_refl _)] at this)
        gi_wp2
        have M := ((((((H5.out.keep (grow_below V y) v5).set0 x.r0).set1 x.r1).set2 x.r2).set3 x.r3).set4 x.r4).set5 x.r5
        have c6 : (grow V y).cell? ⟨W.heap.size + z.blocks.size + 1, 0, none⟩ = some (.int .i64 16) := ((grow_below V y).cell (p := ⟨W.heap.size + z.blocks.size + 1, 0, none⟩) v6).trans c6V
        have wz : W.heap.size ≤ W.heap.size + z.blocks.size := by omega
        have wz1 : W.heap.size ≤ W.heap.size + z.blocks.size + 1 := by omega
        refine ⟨?_, rfl, pre, x, rfl, Hno.out, Hf.out, ?_, M.other (by simp) _, World.cell?_setCell_same' _ _ _ ?_⟩
        · exact (((((((Above.of_below (grow_below V y)).trans (Above.setCell _ u5 _)).trans (Above.setCell _ u5 _)).trans (Above.setCell _ u5 _)).trans (Above.setCell _ u5 _)).trans (Above.setCell _ u5 _)).trans (Above.setCell _ u5 _)).trans (Above.setCell _ u6 _)
        · exact (((((((HWV.out.trans ((grow_below V y).mono (by omega))).setCell wz _).setCell wz _).setCell wz _).setCell wz _).setCell wz _).setCell wz _).setCell wz1 _
        · rw [World.cell?_setCell_other _ _ _ _ (by simp), World.cell?_setCell_other _ _ _ _ (by simp), World.cell?_setCell_other _ _ _ _ (by simp), World.cell?_setCell_other _ _ _ _ (by simp), World.cell?_setCell_other _ _ _ _ (by simp), World.cell?_setCell_other _ _ _ _ (by simp), c6]; rfl
      have hkl : k < gs.length := by rw [← Hl.out]; exact hlt
      have Htk : Hid (gs.take (k + 1) = gs.take k ++ [gs[k]]) := Lib.hid (List.take_succ_eq_append_getElem hkl)
      have Hmem : Hid (gs[k] ∈ gs) := Lib.hid (List.getElem_mem hkl)
      obtain ⟨b, o, rfl, hb, hc⟩ := HgV.out.get k hkl
      obtain ⟨c0, c1, c2, c3, c4, c5, c6⟩ := hc
      obtain ⟨⟨p0, q0⟩, ⟨p1, q1⟩, ⟨p2, q2⟩, ⟨p3, q3⟩, ⟨p4, q4⟩, ⟨p5, q5⟩⟩ := Hd.out _ (List.getElem_mem hkl)
      generalize gs[k] = g at *
      have w0' : w.heap.size < V.heap.size + y.blocks.size + 1 := by omega
      have e0' : w.heap.size < V.heap.size + y.blocks.size := by omega
      have e1' : X.heap.size < V.heap.size + y.blocks.size := by omega
      have w1' : X.heap.size < V.heap.size + y.blocks.size + 1 := by omega
      cases hap : apartB w0 w1 w2 w3 w4 F g.m0 g.m1 g.m2 g.m3 g.m4 g.m5 x.r0 x.r1 x.r2 x.r3 x.r4 x.r5
      · have Hap := Lib.hid hap
        clear hap
        gi_wp2_with (refine ⟨trivial, (CallsIn.inRound l (callsIn_wide.2 (apart_any _ _ _ _ _ _ _ _ _ _ _ _ _ _ _ _ _ _ _ p0 q0 p1 q1 p2 q2 p3 q3 p4 q4 p5 q5 a0 b0 a1 b1 a2 b2 a3 b3 a4 b4 a5 b5 H16.out.1 H16.out.2))).mono ?_⟩; rintro e x1 ⟨rfl, hb1⟩; obtain ⟨y2, rfl⟩ := below_grow hb1; clear hb1; rw [Hap.out])
        have hbel : Below V.heap.size V _ := up (grow_below V y) (up (up_alloc (grow V y) (.cells #[.int .i64 g.o, .int .i64 g.m0, .int .i64 g.m1, .int .i64 g.m2, .int .i64 g.m3, .int .i64 g.m4, .int .i64 g.m5] 30)) (grow_below _ y2))
        refine ⟨Above.of_below hbel, HUV.out.trans (hbel.mono (by have := HUV.out.size; omega)), fun m hm => ?_⟩
        rcases List.mem_append.1 hm with hm | hm
        · exact Hno.out m hm
        · simp at hm; subst hm
          unfold apAll; rw [List.all_eq_false]; exact ⟨g, Hmem.out, by rw [Hap.out]; simp⟩
      · have Hap := Lib.hid hap
        clear hap
        gi_wp2_with (refine ⟨trivial, (CallsIn.inRound l (callsIn_wide.2 (apart_any _ _ _ _ _ _ _ _ _ _ _ _ _ _ _ _ _ _ _ p0 q0 p1 q1 p2 q2 p3 q3 p4 q4 p5 q5 a0 b0 a1 b1 a2 b2 a3 b3 a4 b4 a5 b5 H16.out.1 H16.out.2))).mono ?_⟩; rintro e x1 ⟨rfl, hb1⟩; obtain ⟨y2, rfl⟩ := below_grow hb1; clear hb1; rw [Hap.out])
        have hbel : Below V.heap.size V _ := up (grow_below V y) (up (up_alloc (grow V y) (.cells #[.int .i64 g.o, .int .i64 g.m0, .int .i64 g.m1, .int .i64 g.m2, .int .i64 g.m3, .int .i64 g.m4, .int .i64 g.m5] 30)) (grow_below _ y2))
        obtain ⟨y3, hy3⟩ := below_grow hbel
        refine ⟨⟨k + 1, y3, by omega, by go_num, hy3, ?_⟩, by simp [intOf]; omega⟩
        rw [Htk.out]
        have := Hall.out
        unfold apAll at this ⊢
        rw [List.all_append, this]; simp [Hap.out]
  · rintro xs X rfl ⟨hbx, hno⟩ hdef
    have Hnone : Hid ((upto 15625).find? (apAll w0 w1 w2 w3 w4 F gs) = none) := Lib.hid (find_no hno)
    have Hdef := Lib.hid hdef
    have HWX : Hid (Below W.heap.size W X) := Lib.hid (HU.out.trans (hbx.mono (by omega)))
    have d5 : ∀ j, X.cell? ⟨W.heap.size + z.blocks.size, j, none⟩ = [Value.int .i64 0, .int .i64 0, .int .i64 0, .int .i64 0, .int .i64 0, .int .i64 0][j]? := fun j => (hbx.cell (p := ⟨W.heap.size + z.blocks.size, j, none⟩) u5).trans (F5 j)
    have d6 : X.cell? ⟨W.heap.size + z.blocks.size + 1, 0, none⟩ = some (.int .i64 16) := (hbx.cell (p := ⟨W.heap.size + z.blocks.size + 1, 0, none⟩) u6).trans F6
    clear hno hdef hbx
    have xU : U.heap.size < X.heap.size := (Array.getElem?_eq_some_iff.1 Hdef.out).1
    have x0 : w.heap.size + 1 < X.heap.size := by omega
    have x5 : W.heap.size + z.blocks.size < X.heap.size := by omega
    have x6 : W.heap.size + z.blocks.size + 1 < X.heap.size := by omega
    have crX : ∀ j, X.cell? ⟨w.heap.size + 1, j, none⟩ = [Value.int .i64 0, .int .i64 0, .int .i64 0, .int .i64 0, .int .i64 0, .int .i64 0][j]? := fun j => (HWX.out.cell (p := ⟨w.heap.size + 1, j, none⟩) hs).trans (cr j)
    have frX : ∀ j, X.frozen? ⟨w.heap.size + 1, j, none⟩ = false := fun j => (HWX.out.frozen (p := ⟨w.heap.size + 1, j, none⟩) hs).trans (fr j)
    clear cm cr fr F5 F6 Z5 Z6
    have Ex2 : Hid (∀ j, j < 6 → (X.cell? ⟨w.heap.size + 1, j, none⟩).isSome = true) := Lib.hid (by
      intro j hj
      rw [crX j]
      rcases (by omega : j = 0 ∨ j = 1 ∨ j = 2 ∨ j = 3 ∨ j = 4 ∨ j = 5) with rfl | rfl | rfl | rfl | rfl | rfl <;> rfl)
    gi_wp2
    refine wpIn_wide.2 ?_
    go_region
    gi_wp2
    have P := put6 X (w.heap.size + 1) (.int .i64 0) (.int .i64 0) (.int .i64 0) (.int .i64 0) (.int .i64 0) (.int .i64 0) Ex2.out
    have B := (put6_below (up HW.out HWX.out) (by omega : w.heap.size ≤ w.heap.size + 1) (.int .i64 0) (.int .i64 0) (.int .i64 0) (.int .i64 0) (.int .i64 0) (.int .i64 0)).drew
    have D := put6_heap X (w.heap.size + 1) U.heap.size (by omega) (.int .i64 0) (.int .i64 0) (.int .i64 0) (.int .i64 0) (.int .i64 0) (.int .i64 0)
    rw [Hdef.out] at D
    generalize hV : World.setCell _ ⟨w.heap.size + 1, 5, none⟩ _ = V0 at P B D ⊢
    clear hV
    change ∀ j, j < 6 → V0.drew.cell? _ = _ at P
    change V0.drew.heap[U.heap.size]? = _ at D
    generalize V0.drew = V at P B D ⊢
    have P' : ∀ j, j < 6 → (V.putObj U.heap.size (.deferred none)).cell? ⟨w.heap.size + 1, j, none⟩ = _ := fun j hj => (cell_putObj V (w.heap.size + 1) j U.heap.size (.deferred none) (by omega)).trans (P j hj)
    have B' := B.trans (below_putObj (B := w.heap.size) V (l := U.heap.size) (by omega) (.deferred none))
    have p0 := P' 0 (by omega); have p1 := P' 1 (by omega); have p2 := P' 2 (by omega); have p3 := P' 3 (by omega); have p4 := P' 4 (by omega); have p5 := P' 5 (by omega)
    clear P P'
    simp at p0 p1 p2 p3 p4 p5
    refine noGoto_ret (bodyPostM_ret1 (D := U.heap.size) (v := .tuple #[.agg #[.int .i64 0, .int .i64 0, .int .i64 0, .int .i64 0, .int .i64 0, .int .i64 0], .int .i64 16]) rfl D ?_ ⟨?_, B'⟩)
    · generalize V.putObj U.heap.size (.deferred none) = V' at *
      simp [results, Try.results39, go_sem, p0, p1, p2, p3, p4, p5]
    · unfold nextR; rw [if_pos Hb.out, if_neg (by rw [← Hl.out]; exact H40.out), Hnone.out]; rfl
  · rintro c pre X ⟨k, hk, rfl⟩ ⟨rfl, pre0, m, hpre, h0, h1, h2, h3, h4⟩ hdef
    have Hhit : Hid ((upto 15625).find? (apAll w0 w1 w2 w3 w4 F gs) = some m) := Lib.hid (find_hit hk hpre h0 h1)
    have Hdef := Lib.hid hdef
    have HWX := Lib.hid h2
    obtain ⟨_, y0, y1, y2, y3, y4, y5, _⟩ := h3
    clear hdef hpre h0 h1 h2
    have xU : U.heap.size < X.heap.size := (Array.getElem?_eq_some_iff.1 Hdef.out).1
    have x0 : w.heap.size + 1 < X.heap.size := by omega
    have x5 : W.heap.size + z.blocks.size < X.heap.size := by omega
    have x6 : W.heap.size + z.blocks.size + 1 < X.heap.size := by omega
    have crX : ∀ j, X.cell? ⟨w.heap.size + 1, j, none⟩ = [Value.int .i64 0, .int .i64 0, .int .i64 0, .int .i64 0, .int .i64 0, .int .i64 0][j]? := fun j => (HWX.out.cell (p := ⟨w.heap.size + 1, j, none⟩) hs).trans (cr j)
    have frX : ∀ j, X.frozen? ⟨w.heap.size + 1, j, none⟩ = false := fun j => (HWX.out.frozen (p := ⟨w.heap.size + 1, j, none⟩) hs).trans (fr j)
    clear cm cr fr F5 F6 Z5 Z6
    have Ex2 : Hid (∀ j, j < 6 → (X.cell? ⟨w.heap.size + 1, j, none⟩).isSome = true) := Lib.hid (by
      intro j hj
      rw [crX j]
      rcases (by omega : j = 0 ∨ j = 1 ∨ j = 2 ∨ j = 3 ∨ j = 4 ∨ j = 5) with rfl | rfl | rfl | rfl | rfl | rfl <;> rfl)
    gi_wp2
    refine wpIn_wide.2 ?_
    go_region
    gi_wp2
    have P := put6 X (w.heap.size + 1) (.int .i64 m.r0) (.int .i64 m.r1) (.int .i64 m.r2) (.int .i64 m.r3) (.int .i64 m.r4) (.int .i64 m.r5) Ex2.out
    have B := (put6_below (up HW.out HWX.out) (by omega : w.heap.size ≤ w.heap.size + 1) (.int .i64 m.r0) (.int .i64 m.r1) (.int .i64 m.r2) (.int .i64 m.r3) (.int .i64 m.r4) (.int .i64 m.r5)).drew
    have D := put6_heap X (w.heap.size + 1) U.heap.size (by omega) (.int .i64 m.r0) (.int .i64 m.r1) (.int .i64 m.r2) (.int .i64 m.r3) (.int .i64 m.r4) (.int .i64 m.r5)
    rw [Hdef.out] at D
    generalize hV : World.setCell _ ⟨w.heap.size + 1, 5, none⟩ _ = V0 at P B D ⊢
    clear hV
    change ∀ j, j < 6 → V0.drew.cell? _ = _ at P
    change V0.drew.heap[U.heap.size]? = _ at D
    generalize V0.drew = V at P B D ⊢
    have P' : ∀ j, j < 6 → (V.putObj U.heap.size (.deferred none)).cell? ⟨w.heap.size + 1, j, none⟩ = _ := fun j hj => (cell_putObj V (w.heap.size + 1) j U.heap.size (.deferred none) (by omega)).trans (P j hj)
    have B' := B.trans (below_putObj (B := w.heap.size) V (l := U.heap.size) (by omega) (.deferred none))
    have p0 := P' 0 (by omega); have p1 := P' 1 (by omega); have p2 := P' 2 (by omega); have p3 := P' 3 (by omega); have p4 := P' 4 (by omega); have p5 := P' 5 (by omega)
    clear P P'
    simp at p0 p1 p2 p3 p4 p5
    refine noGoto_ret (bodyPostM_ret1 (D := U.heap.size) (v := .tuple #[.agg #[.int .i64 m.r0, .int .i64 m.r1, .int .i64 m.r2, .int .i64 m.r3, .int .i64 m.r4, .int .i64 m.r5], .int .i64 0]) rfl D ?_ ⟨?_, B'⟩)
    · generalize V.putObj U.heap.size (.deferred none) = V' at *
      simp [results, Try.results39, go_sem, p0, p1, p2, p3, p4, p5]
    · unfold nextR; rw [if_pos Hb.out, if_neg (by rw [← Hl.out]; exact H40.out), Hhit.out]; rfl
end Go.Proofs.Ytbieopkohkomoaa

namespace Go.Proofs.Ytbieopkohkomoaa
open Go Go.RowKit
set_option maxHeartbeats 400000
set_option maxRecDepth 100000

theorem okB_F {w0 w1 w2 w3 w4 F : Int} {gs : List Giv} (h : okB w0 w1 w2 w3 w4 F gs = true) : okW w0 w1 w2 w3 w4 = true ∧ 0 ≤ F ∧ F ≤ 2 := by
  unfold okB at h
  simp only [Bool.and_eq_true, decide_eq_true_eq] at h
  exact ⟨h.1.1.1, h.1.1.2.1, h.1.1.2.2⟩
theorem near_ap {w0 w1 w2 w3 w4 F : Int} {gs : List Giv} (h : okB w0 w1 w2 w3 w4 F gs = true) (m : Rd) : refNearB w0 w1 w2 w3 w4 F m.r0 m.r1 m.r2 m.r3 m.r4 m.r5 gs = !apAll w0 w1 w2 w3 w4 F gs m := by
  obtain ⟨h1, h2, _⟩ := okB_F h
  have hok := okB_ok h
  have key : ∀ g ∈ gs, apartB w0 w1 w2 w3 w4 F g.m0 g.m1 g.m2 g.m3 g.m4 g.m5 m.r0 m.r1 m.r2 m.r3 m.r4 m.r5 = decide (2 * F < wdist w0 w1 w2 w3 w4 g.m0 g.m1 g.m2 g.m3 g.m4 g.m5 m.r0 m.r1 m.r2 m.r3 m.r4 m.r5) := fun g hg => by
    obtain ⟨⟨p0, q0⟩, ⟨p1, q1⟩, ⟨p2, q2⟩, ⟨p3, q3⟩, ⟨p4, q4⟩, ⟨p5, q5⟩⟩ := hok g hg
    exact apartB_eq h1 h2 p0 q0 p1 q1 p2 q2 p3 q3 p4 q4 p5 q5
  unfold refNearB apAll
  clear h hok
  induction gs with
  | nil => rfl
  | cons g l ih =>
    rw [List.any_cons, List.all_cons, ih (fun x hx => key x (List.mem_cons_of_mem _ hx)), key g (List.mem_cons_self ..)]
    by_cases hd : wdist w0 w1 w2 w3 w4 g.m0 g.m1 g.m2 g.m3 g.m4 g.m5 m.r0 m.r1 m.r2 m.r3 m.r4 m.r5 ≤ 2 * F
    · have : ¬ 2 * F < wdist w0 w1 w2 w3 w4 g.m0 g.m1 g.m2 g.m3 g.m4 g.m5 m.r0 m.r1 m.r2 m.r3 m.r4 m.r5 := by omega
      simp [hd, this]
    · have : 2 * F < wdist w0 w1 w2 w3 w4 g.m0 g.m1 g.m2 g.m3 g.m4 g.m5 m.r0 m.r1 m.r2 m.r3 m.r4 m.r5 := by omega
      simp [hd, this]

set_option maxHeartbeats 1600000 in
theorem refNext_any (w0 w1 w2 w3 w4 F : Int) (A : Option Addr) (n c : Nat) (gs : List Giv) (w : World) (hg : Gs w A n gs) :
    Calls Try.prog 40 #[.agg #[.int .i64 w0, .int .i64 w1, .int .i64 w2, .int .i64 w3, .int .i64 w4, .int .i64 F, .slice A n c]] w fun e w' =>
      e = .returned (.tuple #[encR (nextR w0 w1 w2 w3 w4 F gs).1, .int .i64 (nextR w0 w1 w2 w3 w4 F gs).2]) ∧ Below w.heap.size w w' := by
  have Hl : Hid (n = gs.length) := Lib.hid hg.len
  go_enter Try.func40, Try.ntmps40
  go_wp2_with fail
  generalize hW : (World.alloc _ _) = W
  have HW : Hid (Below w.heap.size w W) := Lib.hid (by subst hW; go_grown)
  have KM : Bk W w.heap.size [.int .i64 w0, .int .i64 w1, .int .i64 w2, .int .i64 w3, .int .i64 w4, .int .i64 F, .slice A n c] := ⟨by subst hW; simp only [World.size_alloc]; omega, by subst hW; intro j; simp [go_sem]⟩
  have KX : Bk W (w.heap.size + 1) [.int .i64 0, .int .i64 0, .int .i64 0, .int .i64 0, .int .i64 0, .int .i64 0] := ⟨by subst hW; simp only [World.size_alloc]; omega, by subst hW; intro j; simp [go_sem]⟩
  have FX : Hid (∀ j, W.frozen? ⟨w.heap.size + 1, j, none⟩ = false) := Lib.hid (by subst hW; intro j; simp [go_sem])
  clear hW
  have HG := Lib.hid (hg.keep HW.out)
  clear hg
  have exs : ∀ U : World, Bk U (w.heap.size + 1) [.int .i64 0, .int .i64 0, .int .i64 0, .int .i64 0, .int .i64 0, .int .i64 0] → Hid (∀ j, j < 6 → (U.cell? ⟨w.heap.size + 1, j, none⟩).isSome = true) := fun U K => Lib.hid (by
    intro j hj
    rw [K.get j]
    rcases (by omega : j = 0 ∨ j = 1 ∨ j = 2 ∨ j = 3 ∨ j = 4 ∨ j = 5) with rfl | rfl | rfl | rfl | rfl | rfl <;> rfl)
  have Exs := Lib.hid exs
  clear exs
  refine (refCheck_any w0 w1 w2 w3 w4 F A n c gs W HG.out).mono ?_
  rintro e V ⟨rfl, hb1⟩
  have frV : ∀ j, V.frozen? ⟨w.heap.size + 1, j, none⟩ = false := fun j => (hb1.frozen (p := ⟨w.heap.size + 1, j, none⟩) KX.lt).trans (FX.out j)
  replace HG := Lib.hid (HG.out.keep hb1); replace KM := KM.keep hb1; replace KX := KX.keep hb1
  have HB1 := Lib.hid hb1
  clear hb1
  have KMl := KM.lt; have KMc := KM.get; have KXl := KX.lt; have KXc := KX.get
  cases hok : okB w0 w1 w2 w3 w4 F gs
  · have HN : Hid (nextR w0 w1 w2 w3 w4 F gs = (zeroR, 13)) := Lib.hid (by unfold nextR; rw [hok]; rfl)
    rw [err_f 13 (by simp)]
    clear hok
    have Ex := Exs.out V KX
    go_wp2
    have P := put6 V (w.heap.size + 1) (.int .i64 0) (.int .i64 0) (.int .i64 0) (.int .i64 0) (.int .i64 0) (.int .i64 0) Ex.out
    have B := put6_below (up HW.out HB1.out) (by omega : w.heap.size ≤ w.heap.size + 1) (.int .i64 0) (.int .i64 0) (.int .i64 0) (.int .i64 0) (.int .i64 0) (.int .i64 0)
    generalize World.setCell _ ⟨w.heap.size + 1, 5, none⟩ _ = U at P B ⊢
    have p0 := P 0 (by omega); have p1 := P 1 (by omega); have p2 := P 2 (by omega); have p3 := P 3 (by omega); have p4 := P 4 (by omega); have p5 := P 5 (by omega)
    clear P
    simp at p0 p1 p2 p3 p4 p5
    refine bodyPost_ret (v := .tuple #[.agg #[.int .i64 0, .int .i64 0, .int .i64 0, .int .i64 0, .int .i64 0, .int .i64 0], .int .i64 13]) (by simp [results, Try.results40, go_sem, p0, p1, p2, p3, p4, p5]) rfl ⟨?_, B⟩
    rw [HN.out]; rfl
  have Ok := Lib.hid hok
  rw [err_t 13 (by simp)]
  by_cases h40 : n = 40
  · have HN : Hid (nextR w0 w1 w2 w3 w4 F gs = (zeroR, 16)) := Lib.hid (by unfold nextR; rw [hok, if_pos rfl, if_pos (by rw [← Hl.out]; exact h40)])
    subst h40
    clear hok
    have Ex := Exs.out V KX
    go_wp2
    have P := put6 V (w.heap.size + 1) (.int .i64 0) (.int .i64 0) (.int .i64 0) (.int .i64 0) (.int .i64 0) (.int .i64 0) Ex.out
    have B := put6_below (up HW.out HB1.out) (by omega : w.heap.size ≤ w.heap.size + 1) (.int .i64 0) (.int .i64 0) (.int .i64 0) (.int .i64 0) (.int .i64 0) (.int .i64 0)
    generalize World.setCell _ ⟨w.heap.size + 1, 5, none⟩ _ = U at P B ⊢
    have p0 := P 0 (by omega); have p1 := P 1 (by omega); have p2 := P 2 (by omega); have p3 := P 3 (by omega); have p4 := P 4 (by omega); have p5 := P 5 (by omega)
    clear P
    simp at p0 p1 p2 p3 p4 p5
    refine bodyPost_ret (v := .tuple #[.agg #[.int .i64 0, .int .i64 0, .int .i64 0, .int .i64 0, .int .i64 0, .int .i64 0], .int .i64 16]) (by simp [results, Try.results40, go_sem, p0, p1, p2, p3, p4, p5]) rfl ⟨?_, B⟩
    rw [HN.out]; rfl
  have HN : Hid (((upto 15625).find? (apAll w0 w1 w2 w3 w4 F gs) = none → nextR w0 w1 w2 w3 w4 F gs = (zeroR, 16)) ∧ ∀ m, (upto 15625).find? (apAll w0 w1 w2 w3 w4 F gs) = some m → nextR w0 w1 w2 w3 w4 F gs = (m, 0)) := Lib.hid (by
    unfold nextR
    rw [hok, if_pos rfl, if_neg (by rw [← Hl.out]; exact h40)]
    exact ⟨fun h => by rw [h], fun m h => by rw [h]⟩)
  clear hok
  have hb40 : ((n : Int) == 40) = false := by rw [beq_eq_false_iff_ne]; omega
  have FV := Lib.hid frV
  go_wp2
  clear frV
  clear KMl KMc KXl KXc
  go_loopw [4] (fun i wr => ∃ (k : Nat) (z : Gr), k ≤ 15625 ∧ i = .int .i64 k ∧ wr = grow V z ∧ ∀ x ∈ upto k, apAll w0 w1 w2 w3 w4 F gs x = false) (fun i _ => 15625 - (intOf i).toNat)
  case atStart => exact ⟨0, ⟨#[], V.drawn⟩, by omega, rfl, by simp [grow], by simp [upto]⟩
  case round =>
    obtain ⟨k, z, hk, rfl, rfl, hall⟩ := hrel
    have Hall := Lib.hid hall; clear hall
    have HbY := Lib.hid (grow_below V z)
    by_cases hlt : k < 15625
    rotate_left
    · obtain rfl : k = 15625 := by omega
      have KX2 := KX.keep HbY.out
      have fr2 : ∀ j, (grow V z).frozen? ⟨w.heap.size + 1, j, none⟩ = false := fun j => (HbY.out.frozen (p := ⟨w.heap.size + 1, j, none⟩) KX.lt).trans (FV.out j)
      have Ex := Exs.out (grow V z) KX2
      have KX2l := KX2.lt; have KX2c := KX2.get
      have HN2 : Hid (nextR w0 w1 w2 w3 w4 F gs = (zeroR, 16)) := Lib.hid (HN.out.1 (find_no Hall.out))
      go_wp2
      have P := put6 (grow V z) (w.heap.size + 1) (.int .i64 0) (.int .i64 0) (.int .i64 0) (.int .i64 0) (.int .i64 0) (.int .i64 0) Ex.out
      have B := put6_below (up HW.out (up HB1.out HbY.out)) (by omega : w.heap.size ≤ w.heap.size + 1) (.int .i64 0) (.int .i64 0) (.int .i64 0) (.int .i64 0) (.int .i64 0) (.int .i64 0)
      generalize World.setCell _ ⟨w.heap.size + 1, 5, none⟩ _ = U at P B ⊢
      have p0 := P 0 (by omega); have p1 := P 1 (by omega); have p2 := P 2 (by omega); have p3 := P 3 (by omega); have p4 := P 4 (by omega); have p5 := P 5 (by omega)
      clear P
      simp at p0 p1 p2 p3 p4 p5
      refine bodyPost_ret (v := .tuple #[.agg #[.int .i64 0, .int .i64 0, .int .i64 0, .int .i64 0, .int .i64 0, .int .i64 0], .int .i64 16]) (by simp [results, Try.results40, go_sem, p0, p1, p2, p3, p4, p5]) rfl ⟨?_, B⟩
      rw [HN2.out]; rfl
    go_wp2_with fail
    refine (numbered_any k _ hlt).mono ?_
    rintro e x1 ⟨rfl, hb2⟩
    have Hup := Lib.hid (upto_succ k)
    have Hdg := Lib.hid (markNo_dig k)
    generalize markNo k = m at *
    have hb3 := up HbY.out hb2
    have KM1 := KM.keep hb3
    have KM1l := KM1.lt; have KM1c := KM1.get
    go_wp2_with fail
    generalize hV : World.alloc x1 _ = V2
    have hb4 : Below x1.heap.size x1 V2 := by subst hV; exact up_alloc _ _
    have KB : Bk V2 x1.heap.size [.int .i64 m.r0, .int .i64 m.r1, .int .i64 m.r2, .int .i64 m.r3, .int .i64 m.r4, .int .i64 m.r5] := ⟨by subst hV; simp, by subst hV; intro j; simp [go_sem]⟩
    clear hV
    clear KM1l KM1c
    have HB4 := Lib.hid (up hb3 hb4)
    replace KM1 := KM1.keep hb4
    clear hb4 hb3 hb2
    have HGV := Lib.hid (HG.out.keep HB4.out)
    have KM1l := KM1.lt; have KM1c := KM1.get; have KBl := KB.lt; have KBc := KB.get
    obtain ⟨⟨p0, q0⟩, ⟨p1, q1⟩, ⟨p2, q2⟩, ⟨p3, q3⟩, ⟨p4, q4⟩, ⟨p5, q5⟩⟩ := Hdg.out
    obtain ⟨f0, f1⟩ := (okB_F Ok.out).2
    refine (refNear_any w0 w1 w2 w3 w4 F m.r0 m.r1 m.r2 m.r3 m.r4 m.r5 A n c gs V2 p0 q0 p1 q1 p2 q2 p3 q3 p4 q4 p5 q5 f0 f1 HGV.out (okB_ok Ok.out)).mono ?_
    rintro e x2 ⟨he, hb5⟩
    rw [near_ap Ok.out m] at he
    subst he
    have Hb5 := Lib.hid (up HB4.out hb5)
    have KB2 := KB.keep hb5
    clear hb5
    clear KM1l KM1c KBl KBc
    cases hap : apAll w0 w1 w2 w3 w4 F gs m
    · have Hap := Lib.hid hap
      clear hap
      go_wp2
      obtain ⟨y, rfl⟩ := below_grow Hb5.out
      refine ⟨⟨k + 1, y, by omega, by go_num, rfl, ?_⟩, by simp [intOf]; omega⟩
      rw [Hup.out]
      intro x hx
      rcases List.mem_append.1 hx with h | h
      · exact Hall.out x h
      · rw [List.mem_singleton.1 h]; exact Hap.out
    · have HN2 := Lib.hid (HN.out.2 m (find_hit hlt Hup.out Hall.out hap))
      clear hap
      have KX2 := KX.keep Hb5.out
      have fr2 : ∀ j, x2.frozen? ⟨w.heap.size + 1, j, none⟩ = false := fun j => (Hb5.out.frozen (p := ⟨w.heap.size + 1, j, none⟩) KX.lt).trans (FV.out j)
      have Ex := Exs.out x2 KX2
      have KX2l := KX2.lt; have KX2c := KX2.get; have KB2l := KB2.lt; have KB2c := KB2.get
      go_wp2
      have P := put6 x2 (w.heap.size + 1) (.int .i64 m.r0) (.int .i64 m.r1) (.int .i64 m.r2) (.int .i64 m.r3) (.int .i64 m.r4) (.int .i64 m.r5) Ex.out
      have B := put6_below (up HW.out (up HB1.out Hb5.out)) (by omega : w.heap.size ≤ w.heap.size + 1) (.int .i64 m.r0) (.int .i64 m.r1) (.int .i64 m.r2) (.int .i64 m.r3) (.int .i64 m.r4) (.int .i64 m.r5)
      generalize World.setCell _ ⟨w.heap.size + 1, 5, none⟩ _ = U at P B ⊢
      have p0 := P 0 (by omega); have p1 := P 1 (by omega); have p2 := P 2 (by omega); have p3 := P 3 (by omega); have p4 := P 4 (by omega); have p5 := P 5 (by omega)
      clear P
      simp at p0 p1 p2 p3 p4 p5
      refine bodyPost_ret (v := .tuple #[.agg #[.int .i64 m.r0, .int .i64 m.r1, .int .i64 m.r2, .int .i64 m.r3, .int .i64 m.r4, .int .i64 m.r5], .int .i64 0]) (by simp [results, Try.results40, go_sem, p0, p1, p2, p3, p4, p5]) rfl ⟨?_, B⟩
      rw [HN2.out]; rfl
end Go.Proofs.Ytbieopkohkomoaa

namespace Go.Proofs.Ytbieopkohkomoaa
open Go Go.RowKit
set_option maxHeartbeats 400000
set_option maxRecDepth 100000

def newE (w0 w1 w2 w3 w4 F : Int) (gs : List Giv) (x : Int) : Int := if findE w0 w1 w2 w3 w4 F gs x = 0 then 15 else if findE w0 w1 w2 w3 w4 F gs x = 3 then 0 else findE w0 w1 w2 w3 w4 F gs x

theorem checkNew_any (w0 w1 w2 w3 w4 F x : Int) (A : Option Addr) (n c : Nat) (gs : List Giv) (w : World) (hg : Gs w A n gs) (hnc : n ≤ c) :
    Calls Try.prog 89 #[.agg #[.int .i64 w0, .int .i64 w1, .int .i64 w2, .int .i64 w3, .int .i64 w4, .int .i64 F, .slice A n c], .int .i64 x] w fun e w' => e = .returned (.int .i64 (newE w0 w1 w2 w3 w4 F gs x)) ∧ Below w.heap.size w w' := by
  go_enter Try.func89, Try.ntmps89
  go_wp2_with fail
  generalize hW : (World.alloc _ _) = W
  have HW : Hid (Below w.heap.size w W) := Lib.hid (by subst hW; go_grown)
  have HG := Lib.hid (hg.keep HW.out)
  clear hW hg
  refine (find_any w0 w1 w2 w3 w4 F x A n c gs W HG.out hnc).mono ?_
  rintro e V ⟨rfl, hb1⟩
  have HB1 := Lib.hid hb1
  clear hb1
  have HE : Hid (newE w0 w1 w2 w3 w4 F gs x = if findE w0 w1 w2 w3 w4 F gs x = 0 then 15 else if findE w0 w1 w2 w3 w4 F gs x = 3 then 0 else findE w0 w1 w2 w3 w4 F gs x) := Lib.hid rfl
  generalize findE w0 w1 w2 w3 w4 F gs x = f at *
  by_cases h0 : f = 0
  · subst h0
    go_wp2
    go_ret
    exact ⟨congrArg (fun v => Ending.returned (Value.int .i64 v)) (by rw [HE.out]; rfl), up HW.out HB1.out⟩
  by_cases h3 : f = 3
  · subst h3
    go_wp2
    go_ret
    exact ⟨congrArg (fun v => Ending.returned (Value.int .i64 v)) (by rw [HE.out]; rfl), up HW.out HB1.out⟩
  · have b0 : (f == 0) = false := by simpa using h0
    have b3 : (f == 3) = false := by simpa using h3
    have H0 := Lib.hid h0
    have H3 := Lib.hid h3
    clear h0 h3
    go_wp2
    go_ret
    exact ⟨congrArg (fun v => Ending.returned (Value.int .i64 v)) (by rw [HE.out, if_neg H0.out, if_neg H3.out]), up HW.out HB1.out⟩
end Go.Proofs.Ytbieopkohkomoaa

namespace Go.Proofs.Ytbieopkohkomoaa
open Go Go.RowKit
set_option maxHeartbeats 400000
set_option maxRecDepth 100000

/-- A given mark ahead of the first one whose owner is not less. -/
def insG (g : Giv) : List Giv → List Giv
  | [] => [g]
  | x :: r => if x.o < g.o then x :: insG g r else g :: x :: r
def gtB (g : Giv) (l : List Giv) : Bool := l.any fun x => decide (g.o < x.o)
theorem gtB_snoc (g : Giv) (l : List Giv) (x : Giv) : gtB g (l ++ [x]) = (gtB g l || decide (g.o < x.o)) := by simp [gtB]
theorem ins_end {g : Giv} {l : List Giv} (hne : ∀ y ∈ l, y.o ≠ g.o) (h : gtB g l = false) : insG g l = l ++ [g] := by
  induction l with
  | nil => rfl
  | cons x r ih =>
    simp only [gtB, List.any_cons, Bool.or_eq_false_iff, decide_eq_false_iff_not] at h
    have hx := hne x (List.mem_cons_self ..)
    have hlt : x.o < g.o := by omega
    rw [insG, if_pos hlt, ih (fun y hy => hne y (List.mem_cons_of_mem _ hy)) h.2]; rfl
theorem ins_snoc_put {g : Giv} {l : List Giv} (x : Giv) (h : gtB g l = true) : insG g (l ++ [x]) = insG g l ++ [x] := by
  induction l with
  | nil => simp [gtB] at h
  | cons y r ih =>
    simp only [List.cons_append, insG]
    by_cases hy : y.o < g.o
    · rw [if_pos hy, if_pos hy]
      have : gtB g r = true := by
        simp only [gtB, List.any_cons, Bool.or_eq_true, decide_eq_true_eq] at h
        rcases h with h | h
        · omega
        · exact h
      rw [ih this]; rfl
    · rw [if_neg hy, if_neg hy]; rfl
theorem ins_snoc_new {g : Giv} {l : List Giv} (x : Giv) (hne : ∀ y ∈ l, y.o ≠ g.o) (h : gtB g l = false) (hx : g.o < x.o) : insG g (l ++ [x]) = l ++ [g] ++ [x] := by
  induction l with
  | nil => simp [insG]; omega
  | cons y r ih =>
    simp only [gtB, List.any_cons, Bool.or_eq_false_iff, decide_eq_false_iff_not] at h
    have hy := hne y (List.mem_cons_self ..)
    have hlt : y.o < g.o := by omega
    simp only [List.cons_append, insG]
    rw [if_pos hlt, ih (fun z hz => hne z (List.mem_cons_of_mem _ hz)) h.2]
    first | done | rfl | simp
/-- As the program lays it: in parts. -/
theorem ins_at {g : Giv} : ∀ (l : List Giv) (k : Nat), (∀ j (hj : j < l.length), j < k → l[j].o < g.o) → (∀ hk : k < l.length, ¬ l[k].o < g.o) → k ≤ l.length → insG g l = l.take k ++ [g] ++ l.drop k
  | [], k, _, _, hk => by have : k = 0 := by simpa using hk
                          subst this; rfl
  | x :: r, 0, _, h2, _ => by
    have := h2 (by simp)
    simp only [List.getElem_cons_zero] at this
    rw [insG, if_neg this]; rfl
  | x :: r, k + 1, h1, h2, hk => by
    have h0 := h1 0 (by simp) (by omega)
    simp only [List.getElem_cons_zero] at h0
    rw [insG, if_pos h0, ins_at r k (fun j hj hjk => by have := h1 (j + 1) (by simpa using hj) (by omega); simpa using this) (fun hk' => by have := h2 (by simpa using hk'); simpa using this) (by simpa using hk)]
    rfl
theorem ins_len (g : Giv) (l : List Giv) : (insG g l).length = l.length + 1 := by
  induction l with
  | nil => rfl
  | cons x r ih => unfold insG; split <;> simp [ih]
end Go.Proofs.Ytbieopkohkomoaa

namespace Go.Proofs.Ytbieopkohkomoaa
open Go Go.RowKit
set_option maxHeartbeats 400000
set_option maxRecDepth 100000

theorem growNil_any (n : Nat) (w : World) (hn : n ≤ 100000) :
    Calls Try.prog 109 #[.slice none 0 0, .int .i64 n] w fun e w' => ∃ v, e = .returned v ∧ w'.ownsRow w.heap.size 30 7 v 0 [] ∧ Below w.heap.size w w' := by
  obtain ⟨i0, hi, hz0, hz1, hz2⟩ := info_parts info30
  by_cases h0 : n = 0
  · subst h0
    go_enter Try.func109, Try.ntmps109
    go_wp2
    go_ret
    exact ⟨_, rfl, World.ownsRow_nil _ _ _ _, Below.refl _ _⟩
  · have hr := Lib.run_append_nil_zeros (P := Try.prog) w 24 3 24 30 i0 (.agg #[.int .i64 0, .int .i64 0, .int .i64 0, .int .i64 0, .int .i64 0, .int .i64 0, .int .i64 0]) .i64 .i64 Try.underlying24 Try.underlying3 hi hz0 n (by omega) (by rw [hz1]; decide) (by omega) (by rw [hz2]; omega)
    have hge := grownCap_ge w n 0 30
    have hcm : grownCap w n 0 30 ≤ maxLen := grownCap_le_maxLen w n 0 30 (by unfold maxLen; omega)
    have HR := Lib.hid hr
    clear hr hi hz0 hz1 hz2
    generalize grownCap w n 0 30 = cap at *
    have hsz : ∀ z : Array Value, z.size = 7 → (Builtin.zeroCells z n ++ Builtin.zeroCells z (cap - n)).size = cap * 7 := fun z hz => by
      rw [Array.size_append, size_zeroCells, size_zeroCells, hz]; omega
    have hown := World.ownsRow_made (w := w.drew) (base := w.heap.size) (e := 30) (size := 7) _ cap (Nat.le_refl _) hcm (hsz #[.int .i64 0, .int .i64 0, .int .i64 0, .int .i64 0, .int .i64 0, .int .i64 0, .int .i64 0] rfl)
    have HO := Lib.hid hown
    clear hown hsz
    have hp : (0 : Int) < n := by omega
    have hb : Below w.heap.size w (w.drew.alloc (.cells (Builtin.zeroCells #[.int .i64 0, .int .i64 0, .int .i64 0, .int .i64 0, .int .i64 0, .int .i64 0, .int .i64 0] n ++ Builtin.zeroCells #[.int .i64 0, .int .i64 0, .int .i64 0, .int .i64 0, .int .i64 0, .int .i64 0, .int .i64 0] (cap - n)) 30)) := by go_grown
    have HB := Lib.hid hb
    clear hb hcm
    go_enter Try.func109, Try.ntmps109
    go_wp2_with (at_builtin; refine Lib.wpList_append_run _ rfl _ _ _ _ rfl _ _ rfl rfl _ _ HR.out ?_)
    go_wp2
    go_ret
    exact ⟨_, rfl, HO.out, HB.out⟩

/-- The cells of a slice of given marks. -/
theorem Gs.cells {w : World} {b o n : Nat} {gs : List Giv} (h : Gs w (some ⟨b, o, none⟩) n gs) : ∀ j u, (gcells gs)[j]? = some u → w.cell? ((⟨b, o, none⟩ : Addr).add j) = some u := by
  intro j u hu
  have hj : j < gs.length * 7 := by
    rw [← gcells_len]; exact (List.getElem?_eq_some_iff.1 hu).1
  have hk : j / 7 < gs.length := by omega
  obtain ⟨b', o', e, _, hg⟩ := h.get (j / 7) hk
  simp only [Option.some.injEq, Addr.mk.injEq, and_true] at e
  obtain ⟨rfl, rfl⟩ := e
  obtain ⟨a0, a1, a2, a3, a4, a5, a6⟩ := gcells_at gs (j / 7) hk
  obtain ⟨c0, c1, c2, c3, c4, c5, c6⟩ := hg
  rw [Addr.add_lit]
  rcases (by omega : j = j / 7 * 7 ∨ j = j / 7 * 7 + 1 ∨ j = j / 7 * 7 + 2 ∨ j = j / 7 * 7 + 3 ∨ j = j / 7 * 7 + 4 ∨ j = j / 7 * 7 + 5 ∨ j = j / 7 * 7 + 6) with e | e | e | e | e | e | e
  · rw [e] at hu; rw [a0] at hu; rw [e, ← hu]; exact c0
  · rw [e] at hu; rw [a1] at hu; rw [e, ← hu]; exact c1
  · rw [e] at hu; rw [a2] at hu; rw [e, ← hu]; exact c2
  · rw [e] at hu; rw [a3] at hu; rw [e, ← hu]; exact c3
  · rw [e] at hu; rw [a4] at hu; rw [e, ← hu]; exact c4
  · rw [e] at hu; rw [a5] at hu; rw [e, ← hu]; exact c5
  · rw [e] at hu; rw [a6] at hu; rw [e, ← hu]; exact c6
theorem gcells_one : ∀ gs : List Giv, ∀ u ∈ gcells gs, u.oneCell' = true
  | [], u, h => by simp [gcells] at h
  | g :: r, u, h => by
    simp only [gcells, List.mem_append] at h
    rcases h with h | h
    · simp at h; rcases h with rfl | rfl | rfl | rfl | rfl | rfl | rfl <;> rfl
    · exact gcells_one r u h
theorem gcells_app (a b : List Giv) : gcells (a ++ b) = gcells a ++ gcells b := by
  induction a with
  | nil => rfl
  | cons x r ih => simp only [List.cons_append, gcells, ih, List.append_assoc]

/-- Slices of given marks, in a block. -/
def Parts (w : World) (B : Nat) (ps : List (List Giv)) : Prop := ∀ k (h : k < ps.length), ∃ A n c, w.cell? ⟨B, k, none⟩ = some (.slice A n c) ∧ Gs w A n ps[k]
theorem Parts.keep {w w' : World} {B : Nat} {ps : List (List Giv)} (h : Parts w B ps) (hB : B < w.heap.size) (hb : Below w.heap.size w w') : Parts w' B ps := fun k hk => by
  obtain ⟨A, n, c, h1, h2⟩ := h k hk
  exact ⟨A, n, c, (hb.cell (p := ⟨B, k, none⟩) hB).trans h1, h2.keep hb⟩
/-- Nothing appended. -/
theorem run_append_empty (ty : TypeId) (w : World) (base : Nat) (v : Value) (n : Nat) (xs : List Value) (A : Option Addr) (c : Nat) (hown : w.ownsRow base 30 7 v n xs) :
    (Builtin.append_ #[24, 24] ty #[v, .slice A 0 c]).run Try.prog w = .ok v w := by
  obtain ⟨i0, hi, hz0, hz1, hz2⟩ := info_parts info30
  rcases hown.2 with ⟨rfl, rfl⟩ | ⟨g, cap, cur, rfl, _, _, hnc, _⟩ <;> cases A <;>
    simp [Builtin.append_, run_underlying Try.underlying24, run_underlying Try.underlying30, sizeOf, typeInfo, hi, hz1, Builtin.lenOf, Builtin.firstCells, loadCells, loadCellsFrom, storeCells, *]
end Go.Proofs.Ytbieopkohkomoaa

namespace Go.Proofs.Ytbieopkohkomoaa
open Go Go.RowKit
set_option maxHeartbeats 400000
set_option maxRecDepth 100000

theorem flat_take {α : Type} (ps : List (List α)) (k : Nat) (h : k < ps.length) : (ps.take (k + 1)).flatten = (ps.take k).flatten ++ ps[k] := by
  rw [List.take_succ_eq_append_getElem h, List.flatten_append]; simp
theorem flat_le {α : Type} (ps : List (List α)) (k : Nat) : (ps.take k).flatten.length ≤ ps.flatten.length := by
  conv => rhs; rw [← List.take_append_drop k ps, List.flatten_append, List.length_append]
  omega

/-- How many there are in the first k. -/
def totK (ps : List (List Giv)) (k : Nat) : Nat := (ps.take k).flatten.length

theorem concat_any (B m c : Nat) (ps : List (List Giv)) (w : World) (hm : m = ps.length) (hB : B < w.heap.size) (hp : Parts w B ps) (hsm : ps.flatten.length ≤ 1000) (hm2 : m ≤ 1000) :
    Calls Try.prog 92 #[.slice (some ⟨B, 0, none⟩) m c] w fun e w' => ∃ v, e = .returned v ∧ w'.ownsRow w.heap.size 30 7 v ps.flatten.length (gcells ps.flatten) ∧ Below w.heap.size w w' := by
  obtain ⟨i0, hi, hz0, hz1, hz2⟩ := info_parts info30
  have HI := Lib.hid hi
  have HZ0 := Lib.hid hz0
  have HZ1 := Lib.hid hz1
  have HZ2 := Lib.hid hz2
  clear hi hz0 hz1 hz2
  have Hm := Lib.hid hm
  have Hp := Lib.hid hp
  clear hm hp
  go_enter Try.func92, Try.ntmps92
  go_wp2
  go_loop [3, 11] (fun s i => ∃ k : Nat, k ≤ m ∧ i = .int .i64 k ∧ s = .int .i64 (totK ps k : Nat)) (fun _ i => m - (intOf i).toNat)
  case atStart => exact ⟨0, by omega, rfl, by simp [totK]⟩
  case round =>
    obtain ⟨k, hk, rfl, rfl⟩ := hrel
    by_cases hlt : k < m
    · have hk' : k < ps.length := by rw [← Hm.out]; exact hlt
      obtain ⟨A, n', c', hcell, hgs⟩ := Hp.out k hk'
      have hlen := hgs.len
      have hft := flat_take ps k hk'
      have hle := flat_le ps (k + 1)
      have hsum : totK ps (k + 1) = totK ps k + n' := by unfold totK; rw [hft, List.length_append, hlen]
      have Hsum := Lib.hid hsum
      have hb1 : totK ps k + n' ≤ 1000 := by unfold totK at *; omega
      clear hsum hft hle hlen hgs
      generalize totK ps k = s at *
      go_wp2
      refine ⟨⟨k + 1, by omega, by go_num, ?_⟩, by simp [intOf]; omega⟩
      rw [Hsum.out]; go_num
    · obtain rfl : k = m := by omega
      have he : totK ps k ≤ 1000 := by unfold totK; rw [Hm.out, List.take_length]; exact hsm
      generalize totK ps k = T at *
      go_wp2_with (go_at_call 109; refine (growNil_any _ _ (by omega)).mono ?_; rintro e x1 ⟨v, rfl, hown, hb1⟩; have Hown := Lib.hid hown; have HB1 := Lib.hid hb1; clear hown hb1)
      obtain ⟨z1, rfl⟩ := below_grow HB1.out
      go_loopw [6, 27] (fun v i wr => ∃ (q : Nat) (z : Gr), q ≤ k ∧ i = .int .i64 q ∧ wr = grow w z ∧ (grow w z).ownsRow w.heap.size 30 7 v (ps.take q).flatten.length (gcells (ps.take q).flatten)) (fun _ i _ => k - (intOf i).toNat)
      case atStart => exact ⟨0, z1, by omega, rfl, rfl, by simpa [gcells] using Hown.out⟩
      case round =>
        obtain ⟨q, z, hq, rfl, rfl, hown⟩ := hrel
        have Ho := Lib.hid hown; clear hown
        have e1 : B < w.heap.size + z.blocks.size := by omega
        by_cases hqk : q < k
        · have hq' : q < ps.length := by rw [← Hm.out]; exact hqk
          have HPz := Lib.hid (Hp.out.keep hB (grow_below w z))
          obtain ⟨A, n', c', hcell, hgs⟩ := HPz.out q hq'
          rw [grow_cell_lt _ _ _ _ hB] at hcell
          have hft := flat_take ps q hq'
          have hle := flat_le ps (q + 1)
          have hlen := hgs.len
          have Hft := Lib.hid hft
          have hb1 : (ps.take q).flatten.length + n' ≤ 1000 := by rw [hft, List.length_append] at hle; omega
          have HG := Lib.hid hgs
          have Hlen := Lib.hid hlen
          clear hft hle hgs hlen
          generalize (ps.take q).flatten = X at *
          generalize hnX : X.length = nX at *
          have HnX := Lib.hid hnX
          clear hnX
          by_cases h0 : n' = 0
          · subst h0
            go_wp2_with (at_builtin; refine Lib.wpList_append_run _ rfl _ _ _ _ rfl _ _ rfl rfl _ _ (run_append_empty _ _ _ _ _ _ _ _ Ho.out) ?_)
            refine ⟨⟨q + 1, z, by omega, by go_num, rfl, ?_⟩, by simp [intOf]; omega⟩
            have hnil : ps[q] = [] := List.length_eq_zero_iff.1 Hlen.out.symm
            rw [Hft.out, hnil, List.append_nil, HnX.out]; exact Ho.out
          · obtain ⟨b, o, rfl, hb, _⟩ := HG.out.get 0 (by rw [← Hlen.out]; omega)
            go_wp2_with (at_builtin; refine wpList_append_own _ rfl _ _ 24 rfl w.heap.size 30 i0 (.agg #[.int .i64 0, .int .i64 0, .int .i64 0, .int .i64 0, .int .i64 0, .int .i64 0, .int .i64 0]) 7 56 Try.underlying24 HI.out HZ0.out HZ1.out HZ2.out rfl (by decide) _ _ _ rfl Ho.out ⟨b, o, none⟩ n' c' (gcells ps[q]) rfl ?c0 ?c1 ?c2 ?c3 ?c4 ?c5 ?_)
            case c0 => rw [gcells_len, Hlen.out]
            case c1 => exact HG.out.cells
            case c2 => exact gcells_one _
            case c3 => unfold maxLen; omega
            case c4 => omega
            case c5 => simp
            intro v' w' hown' hgr _
            have hbel : Below w.heap.size w w' := (grow_below w z).grown hgr (by simp) (fun q hq => (Ho.out.lt q hq).1)
            have Hown' := Lib.hid hown'
            clear hown' hgr
            obtain ⟨y2, rfl⟩ := below_grow hbel
            go_wp2
            refine ⟨⟨q + 1, y2, by omega, by go_num, rfl, ?_⟩, by simp [intOf]; omega⟩
            rw [Hft.out, gcells_app, List.length_append, HnX.out, ← Hlen.out]
            exact Hown'.out
        · obtain rfl : q = k := by omega
          go_wp2
          go_ret
          refine ⟨_, rfl, ?_, grow_below w z⟩
          have := Ho.out
          rw [Hm.out, List.take_length] at this
          exact this
end Go.Proofs.Ytbieopkohkomoaa

namespace Go.Proofs.Ytbieopkohkomoaa
open Go Go.RowKit
set_option maxHeartbeats 400000
set_option maxRecDepth 100000


/-! ### Seven cells written -/
theorem put7 (w : World) (b : Nat) (v0 v1 v2 v3 v4 v5 v6 : Value) (h : ∀ j, j < 7 → (w.cell? ⟨b, j, none⟩).isSome = true) : ∀ j, j < 7 →
    (((((((w.setCell ⟨b, 0, none⟩ v0).setCell ⟨b, 1, none⟩ v1).setCell ⟨b, 2, none⟩ v2).setCell ⟨b, 3, none⟩ v3).setCell ⟨b, 4, none⟩ v4).setCell ⟨b, 5, none⟩ v5).setCell ⟨b, 6, none⟩ v6).cell? ⟨b, j, none⟩ = [v0, v1, v2, v3, v4, v5, v6][j]? := by
  intro j hj
  have := World.cell?_setCells_in b [v0, v1, v2, v3, v4, v5, v6] 0 w (fun j hj => by rw [Nat.zero_add]; exact h j (by simpa using hj)) j (by simpa using hj)
  rw [Nat.zero_add] at this
  rw [List.getElem?_eq_getElem (by simpa using hj)]
  exact this
theorem put7_below {a w : World} {B b : Nat} (h : Below B a w) (hB : B ≤ b) (v0 v1 v2 v3 v4 v5 v6 : Value) :
    Below B a (((((((w.setCell ⟨b, 0, none⟩ v0).setCell ⟨b, 1, none⟩ v1).setCell ⟨b, 2, none⟩ v2).setCell ⟨b, 3, none⟩ v3).setCell ⟨b, 4, none⟩ v4).setCell ⟨b, 5, none⟩ v5).setCell ⟨b, 6, none⟩ v6) :=
  ((((((h.setCell hB _).setCell hB _).setCell hB _).setCell hB _).setCell hB _).setCell hB _).setCell hB _
theorem own_set {w : World} {base : Nat} {e : TypeId} {size n : Nat} {v : Value} {xs : List Value} (h : w.ownsRow base e size v n xs) (b j : Nat) (hb : b < base) (u : Value) : (w.setCell ⟨b, j, none⟩ u).ownsRow base e size v n xs := by
  refine ⟨h.1, ?_⟩
  rcases h.2 with h2 | ⟨g, cap, cur, hv, hg, hc, r⟩
  · exact .inl h2
  · exact .inr ⟨g, cap, cur, hv, hg, by rw [Below.heap_setCell _ _ _ _ (by show g ≠ b; omega)]; exact hc, r⟩
theorem own_put7 {w : World} {base : Nat} {e : TypeId} {size n : Nat} {v : Value} {xs : List Value} (h : w.ownsRow base e size v n xs) {b : Nat} (hb : b < base) (v0 v1 v2 v3 v4 v5 v6 : Value) :
    (((((((w.setCell ⟨b, 0, none⟩ v0).setCell ⟨b, 1, none⟩ v1).setCell ⟨b, 2, none⟩ v2).setCell ⟨b, 3, none⟩ v3).setCell ⟨b, 4, none⟩ v4).setCell ⟨b, 5, none⟩ v5).setCell ⟨b, 6, none⟩ v6).ownsRow base e size v n xs :=
  own_set (own_set (own_set (own_set (own_set (own_set (own_set h b 0 hb _) b 1 hb _) b 2 hb _) b 3 hb _) b 4 hb _) b 5 hb _) b 6 hb _
theorem bk_some {w : World} {b : Nat} {c0 c1 c2 c3 c4 c5 c6 : Value} (h : Bk w b [c0, c1, c2, c3, c4, c5, c6]) : ∀ j, j < 7 → (w.cell? ⟨b, j, none⟩).isSome = true := by
  intro j hj
  rw [h.get j]
  rcases (by omega : j = 0 ∨ j = 1 ∨ j = 2 ∨ j = 3 ∨ j = 4 ∨ j = 5 ∨ j = 6) with rfl | rfl | rfl | rfl | rfl | rfl | rfl <;> rfl
theorem bk_set6 {w : World} {b : Nat} {c0 c1 c2 c3 c4 c5 c6 : Value} (h : Bk w b [c0, c1, c2, c3, c4, c5, c6]) (u : Value) : Bk (w.setCell ⟨b, 6, none⟩ u) b [c0, c1, c2, c3, c4, c5, u] := by
  refine ⟨by simp; exact h.lt, fun j => ?_⟩
  by_cases hj : j = 6
  · subst hj
    obtain ⟨v, hv⟩ := Option.isSome_iff_exists.1 (bk_some h 6 (by omega))
    rw [World.cell?_setCell_same w ⟨b, 6, none⟩ u (by rw [hv])]; rfl
  · rw [World.cell?_setCell_other w ⟨b, 6, none⟩ ⟨b, j, none⟩ u (by intro e; injection e; omega), h.get j]
    match j with
    | 0 => rfl
    | 1 => rfl
    | 2 => rfl
    | 3 => rfl
    | 4 => rfl
    | 5 => rfl
    | 6 => exact absurd rfl hj
    | n + 7 => rfl
theorem bk_other {w : World} {b b' j' : Nat} {cs : List Value} (h : Bk w b cs) (hb : b ≠ b') (u : Value) : Bk (w.setCell ⟨b', j', none⟩ u) b cs :=
  ⟨by simp; exact h.lt, fun j => by rw [World.cell?_setCell_other w ⟨b', j', none⟩ ⟨b, j, none⟩ u (by intro e; injection e; omega), h.get j]⟩

/-- A slice of given marks, cut in front. -/
theorem Gs.drop {w : World} {A : Option Addr} {n c k : Nat} {gs : List Giv} (h : Gs w A n gs) (hk : k ≤ n) (hc : n ≤ c) : Gs w (if c = k then A else Option.map (fun x => x.add (k * 7)) A) (n - k) (gs.drop k) := by
  have hl := h.len
  have hs := h.small
  refine ⟨by simp; omega, by omega, fun j hj => ?_⟩
  simp only [List.length_drop] at hj
  obtain ⟨b, o, rfl, hb, hg⟩ := h.get (k + j) (by omega)
  rw [if_neg (by omega)]
  refine ⟨b, o + k * 7, by simp [Addr.add_lit], hb, ?_⟩
  rw [List.getElem_drop]
  have e : o + k * 7 + j * 7 = o + (k + j) * 7 := by omega
  rw [e]; exact hg
/-- The three parts. -/
theorem parts3 {V : World} {A A2 : Option Addr} {n c k : Nat} {gs : List Giv} (g : Giv) (h : Gs V A n gs) (hk : k ≤ n) (hd : Gs V A2 (n - k) (gs.drop k)) :
    Parts ((V.alloc (Obj.cells #[.int .i64 g.o, .int .i64 g.m0, .int .i64 g.m1, .int .i64 g.m2, .int .i64 g.m3, .int .i64 g.m4, .int .i64 g.m5] 30)).alloc
      (Obj.cells #[.slice A k c, .slice (some ⟨V.heap.size, 0, none⟩) 1 1, .slice A2 (n - k) (c - k)] 24)).drew (V.heap.size + 1) [gs.take k, [g], gs.drop k] := by
  have hb : Below V.heap.size V ((V.alloc (Obj.cells #[.int .i64 g.o, .int .i64 g.m0, .int .i64 g.m1, .int .i64 g.m2, .int .i64 g.m3, .int .i64 g.m4, .int .i64 g.m5] 30)).alloc
      (Obj.cells #[.slice A k c, .slice (some ⟨V.heap.size, 0, none⟩) 1 1, .slice A2 (n - k) (c - k)] 24)).drew := by go_grown
  intro j hj
  have hj3 : j < 3 := hj
  match j, hj3 with
  | 0, _ => exact ⟨A, k, c, by simp [go_sem], (h.take k hk).keep hb⟩
  | 1, _ =>
    refine ⟨some ⟨V.heap.size, 0, none⟩, 1, 1, by simp [go_sem], ⟨rfl, by decide, fun q hq => ?_⟩⟩
    obtain rfl : q = 0 := by simp at hq; omega
    exact ⟨V.heap.size, 0, rfl, by simp; omega, ⟨by simp [go_sem], by simp [go_sem], by simp [go_sem], by simp [go_sem], by simp [go_sem], by simp [go_sem], by simp [go_sem]⟩⟩
  | 2, _ => exact ⟨_, n - k, c - k, by simp [go_sem], hd.keep hb⟩
theorem concat3 {V : World} {A A2 : Option Addr} {n c k : Nat} {gs : List Giv} (g : Giv) (h : Gs V A n gs) (hk : k ≤ n) (hd : Gs V A2 (n - k) (gs.drop k)) (h40 : n ≤ 40) (he : insG g gs = gs.take k ++ [g] ++ gs.drop k) :
    Calls Try.prog 92 #[.slice (some ⟨V.heap.size + 1, 0, none⟩) 3 3] ((V.alloc (Obj.cells #[.int .i64 g.o, .int .i64 g.m0, .int .i64 g.m1, .int .i64 g.m2, .int .i64 g.m3, .int .i64 g.m4, .int .i64 g.m5] 30)).alloc
      (Obj.cells #[.slice A k c, .slice (some ⟨V.heap.size, 0, none⟩) 1 1, .slice A2 (n - k) (c - k)] 24)).drew fun e w' =>
      ∃ B k' c', e = .returned (.slice B k' c') ∧ k' ≤ c' ∧ w'.ownsRow V.heap.size 30 7 (.slice B k' c') k' (gcells (insG g gs)) ∧ Below V.heap.size V w' := by
  have hflat : ([gs.take k, [g], gs.drop k] : List (List Giv)).flatten = insG g gs := by rw [he]; simp
  have hfl : ([gs.take k, [g], gs.drop k] : List (List Giv)).flatten.length ≤ 1000 := by rw [hflat, ins_len]; have := h.len; omega
  refine (concat_any (V.heap.size + 1) 3 3 [gs.take k, [g], gs.drop k] _ rfl (by simp) (parts3 g h hk hd) hfl (by decide)).mono ?_
  rintro e x ⟨v, rfl, hown, hb⟩
  rw [hflat] at hown
  obtain ⟨B, c', rfl, hc', _, _⟩ := Gs.of_own hown
  exact ⟨B, _, c', rfl, hc', own_mono hown (by simp; omega), up (by go_grown) hb⟩
theorem gs_own {w : World} {base k c : Nat} {B : Option Addr} {l : List Giv} (h : w.ownsRow base 30 7 (.slice B k c) k (gcells l)) (hl : l.length ≤ 100000) : Gs w B k l := by
  obtain ⟨A, c', e, _, hk, hg⟩ := Gs.of_own h
  injection e with e1 e2 e3
  subst e1
  exact hg (by omega)
end Go.Proofs.Ytbieopkohkomoaa

namespace Go.Proofs.Ytbieopkohkomoaa
open Go Go.RowKit

section alloc
variable {P : Program} {md : Region.Mode}

theorem tmps_put_ne (a : Act) (x : Option Tmp) (v : Value) (d : Nat) (h : x ≠ some d) : (a.put x v).tmps[d]? = a.tmps[d]? := by
  cases x with
  | none => rfl
  | some t =>
    have : t ≠ d := fun e => h (by rw [e])
    simp [Act.put, Array.getElem?_setIfInBounds, this]

/-- What a frame ends with, it has from where each of its slots was last written. -/
theorem headAny_pin {ops : Array Oper} {C : World → Prop} {n : Nat} {L : Array Bool → Act → Prop} {A : Act} {d : Nat} (hL : ∀ done a, L done a → a = A) (f : Nat) :
    ∀ done a, headAny P md ops C n L f done a → (∀ i o, done.getD i true = false → i < n → ops[i]? = some o → o.dst ≠ some d) → A.tmps[d]? = a.tmps[d]? := by
  induction f with
  | zero => intro done a h _; rw [hL _ _ h]
  | succ f ih =>
    intro done a h hd
    obtain ⟨i, hi⟩ := List.exists_mem_of_ne_nil _ h.1
    obtain ⟨hin, hq⟩ := h.2 i hi
    obtain ⟨hun, o, ho, _⟩ := mem_ready.1 hi
    obtain ⟨v, _, hk⟩ := yieldsIn_of_qOp ho hq
    rw [ih _ _ hk (fun j oj hj hjn hoj => hd j oj (by
      by_cases e : i = j
      · subst e; exact hun
      · rwa [getD_set_ne true e] at hj) hjn hoj), tmps_put_ne _ _ _ _ (hd i o hun hin ho)]

theorem put_same {a A A' : Act} {x : Option Tmp} {v v' : Value} (h : ∀ d, x = some d → A.tmps[d]? = A'.tmps[d]?) (h1 : ∀ d, x = some d → A.tmps[d]? = (a.put x v).tmps[d]?) (h2 : ∀ d, x = some d → A'.tmps[d]? = (a.put x v').tmps[d]?) : a.put x v = a.put x v' := by
  cases x with
  | none => rfl
  | some d =>
    have e := ((h1 d rfl).symm.trans (h d rfl)).trans (h2 d rfl)
    simp only [Act.put] at e ⊢
    by_cases hd : d < a.tmps.size
    · simp [Array.getElem?_setIfInBounds, hd] at e
      rw [e]
    · rw [Array.setIfInBounds_eq_of_size_le (Nat.not_lt.1 hd), Array.setIfInBounds_eq_of_size_le (Nat.not_lt.1 hd)]

theorem qOp_same {ops ops' : Array Oper} {C : World → Prop} {i : Nat} {K : Act → Prop} {a : Act} (h : ops'[i]? = ops[i]?) (hy : ∀ t, yielded ops' t = yielded ops t) (hq : qOp P ops' C i K a) : qOp P ops C i K a := by
  unfold qOp at *
  rw [h, hy] at hq
  exact hq

theorem alloc_done {ops ops' : Array Oper} {C : World → Prop} {n g m : Nat} {L : Array Bool → Act → Prop} {Q : Exit → Act → World → Prop} (hsame : ∀ i, i ≠ m → ops'[i]? = ops[i]?) (hy : ∀ t, yielded ops' t = yielded ops t)
    (hr : ∀ done, Region.ready md ops' done = Region.ready md ops done) (hL : ∀ done a w, C w → L done a → wpAny P md ops Q g done a w) (f : Nat) :
    ∀ done a w, C w → done.getD m true = true → headAny P md ops' C n L f done a → wpAny P md ops Q (f + g) done a w := by
  induction f with
  | zero => intro done a w hw _ h; rw [Nat.zero_add]; exact hL _ _ _ hw h
  | succ f ih =>
    intro done a w hw hm h
    rw [show f + 1 + g = (f + g) + 1 by omega]
    refine ⟨fun h0 => absurd (by rw [hr]; exact h0) h.1, fun i hi => ?_⟩
    have hi' : i ∈ Region.ready md ops' done := by rw [hr]; exact hi
    have hne : i ≠ m := fun e => by
      subst e
      rw [(mem_ready.1 hi).1] at hm
      cases hm
    exact wpOp_of_qOp hw (fun a' w' hw' hk => ih _ a' w' hw' (by rw [getD_set_ne true hne]; exact hm) hk) (qOp_same (hsame i hne) hy (h.2 i hi').2)

/-- The class of the worlds that have grown out of b. -/
def grown (b : World) : World → Prop := fun w' => ∃ z, w' = grow b z
theorem grown_self (b : World) : grown b b := ⟨⟨#[], b.drawn⟩, by simp [grow]⟩

theorem alloc_first {ops : Array Oper} {ops' : Nat → Array Oper} {n g m t : Nat} {obj : Obj} {oa : Oper} {oN : Nat → Oper} {A : Nat → Act} {L : Nat → Array Bool → Act → Prop} {Q : Exit → Act → World → Prop} {w : World}
    (hsame : ∀ N i, i ≠ m → (ops' N)[i]? = ops[i]?) (hy : ∀ N x, yielded (ops' N) x = yielded ops x) (hr : ∀ N done, Region.ready md (ops' N) done = Region.ready md ops done)
    (hmn : m < n) (ha : ops[m]? = some oa) (hwa : ∀ y, Region.wanted oa y = true) (hda : oa.dst = some t) (hrun : ∀ a w, (execOp (Act.eval a) oa).run P w = .ok (.value (.pointer (some ⟨w.heap.size, 0, none⟩))) (w.alloc obj))
    (hN : ∀ N, (ops' N)[m]? = some (oN N)) (hwN : ∀ N y, Region.wanted (oN N) y = true) (hdN : ∀ N, (oN N).dst = some t) (hrunN : ∀ N a w, (execOp (Act.eval a) (oN N)).run P w = .ok (.value (.pointer (some ⟨N, 0, none⟩))) w)
    (hnd : ∀ i j oi oj, i < n → j < n → i ≠ j → ops[i]? = some oi → ops[j]? = some oj → ∀ d, oi.dst = some d → oj.dst ≠ some d)
    (hA : ∀ N d, d ≠ t → (A N).tmps[d]? = (A 0).tmps[d]?) (hLA : ∀ N done a, L N done a → a = A N) (hLm : ∀ N done a, L N done a → done.getD m true = true)
    (hL : ∀ N b, Below w.heap.size w b → b.heap[N]? = some obj → w.heap.size ≤ N → ∀ done a w', grown b w' → L N done a → wpAny P md ops Q g done a w') (f : Nat) :
    ∀ done a w1, grown w w1 → done.getD m true = false → (∀ N b, Below w.heap.size w b → headAny P md (ops' N) (grown b) n (L N) f done a) → wpAny P md ops Q (f + g) done a w1 := by
  induction f with
  | zero =>
    intro done a w1 _ hm h
    have := hLm 0 done a (h 0 w (Below.refl _ _))
    rw [hm] at this
    cases this
  | succ f ih =>
    intro done a w1 hw1 hm h
    rw [show f + 1 + g = (f + g) + 1 by omega]
    have h0 := h 0 w (Below.refl _ _)
    refine ⟨fun e => absurd (by rw [hr]; exact e) h0.1, fun i hi => ?_⟩
    obtain ⟨z1, hz1⟩ := hw1
    have hbw1 : Below w.heap.size w w1 := hz1 ▸ grow_below w z1
    by_cases him : i = m
    · subst him
      have hb : Below w.heap.size w (w1.alloc obj) := up hbw1 (up_alloc _ _)
      have hi' : i ∈ Region.ready md (ops' w1.heap.size) done := by rw [hr]; exact hi
      have hq := ((h w1.heap.size (w1.alloc obj) hb).2 i hi').2
      obtain ⟨v, hyv, hk⟩ := yieldsIn_of_qOp (hN w1.heap.size) hq
      have hv : v = .pointer (some ⟨w1.heap.size, 0, none⟩) := by
        rcases hyv with ⟨_, hv⟩ | ⟨hv, _⟩
        · have := hv (w1.alloc obj) (grown_self _)
          unfold Oper.quietAt at this
          rw [hrunN] at this
          exact this.2.symm
        · rw [hwN] at hv; cases hv
      subst hv
      unfold wpOp
      simp only [ha, hwa, if_true]
      refine .inl ?_
      unfold Oper.wp
      rw [hrun]
      show wpAny P md ops Q (f + g) _ (a.put oa.dst _) (w1.alloc obj)
      rw [hda]
      rw [hdN] at hk
      have hblk : (w1.alloc obj).heap[w1.heap.size]? = some obj := by
        show (w1.heap.push obj)[w1.heap.size]? = _
        simp
      exact alloc_done (hsame _) (hy _) (hr _) (hL w1.heap.size (w1.alloc obj) hb hblk hbw1.size) f _ _ _ (grown_self _) (by
        obtain ⟨hu, o, ho, _⟩ := mem_ready.1 hi
        have hlt : i < done.size := by
          rcases Nat.lt_or_ge i done.size with h' | h'
          · exact h'
          · rw [show done.getD i true = true by simp [Array.getD, Nat.not_lt.2 h']] at hm; cases hm
        simp [Array.getD, hlt]) hk
    · have hi' : ∀ N, i ∈ Region.ready md (ops' N) done := fun N => by rw [hr]; exact hi
      obtain ⟨hin, hq⟩ := h0.2 i (hi' 0)
      obtain ⟨hun, o, ho, _⟩ := mem_ready.1 hi
      have ho' : ∀ N, (ops' N)[i]? = some o := fun N => (hsame N i him).trans ho
      obtain ⟨v, hyv, hk⟩ := yieldsIn_of_qOp (ho' 0) hq
      have left : ∀ (d : Nat), o.dst = some d → ∀ N j oj, (done.setIfInBounds i true).getD j true = false → j < n → (ops' N)[j]? = some oj → oj.dst ≠ some d := by
        intro d hd N j oj hj hjn hoj
        have hij : i ≠ j := fun e => by
          subst e
          by_cases hlt : i < done.size
          · simp [Array.getD, hlt] at hj
          · simp [Array.getD, hlt] at hun
        by_cases hjm : j = m
        · subst hjm
          rw [hN] at hoj
          obtain rfl := Option.some.inj hoj
          rw [hdN]
          intro e
          exact hnd i j o oa hin hjn hij ho ha d hd (by rw [hda]; exact e)
        · rw [hsame N j hjm] at hoj
          exact hnd i j o oj hin hjn hij ho hoj d hd
      have hdt : ∀ d, o.dst = some d → d ≠ t := fun d hd e => by
        subst e
        exact hnd i m o oa hin hmn him ho ha d hd hda
      have all : ∀ N b, Below w.heap.size w b → headAny P md (ops' N) (grown b) n (L N) f (done.setIfInBounds i true) (a.put o.dst v) := by
        intro N b hb
        obtain ⟨v', _, hk'⟩ := yieldsIn_of_qOp (ho' N) ((h N b hb).2 i (hi' N)).2
        have e : a.put o.dst v = a.put o.dst v' := put_same (A := A 0) (A' := A N) (fun d hd => (hA N d (hdt d hd)).symm)
          (fun d hd => headAny_pin (hLA 0) f _ _ hk (left d hd 0)) (fun d hd => headAny_pin (hLA N) f _ _ hk' (left d hd N))
        rw [e]
        exact hk'
      have hyv' : YieldsIn P ops (grown w) o v a := by
        unfold YieldsIn at *
        rw [← hy 0]
        exact hyv
      exact wpOp_of_qOp (C := grown w) ⟨z1, hz1⟩ (fun a' w' hw' hk2 => ih _ a' w' hw' (by rw [getD_set_ne true him]; exact hm) hk2)
        (hyv'.qOp ho (K := fun a' => ∀ N b, Below w.heap.size w b → headAny P md (ops' N) (grown b) n (L N) f (done.setIfInBounds i true) a') all)

/-- Each slot of the first n operations is written once. -/
def dstsB (ops : Array Oper) (n : Nat) : Bool := (List.range n).all fun i => (List.range n).all fun j => i == j || ((ops[i]?).bind (·.dst)).isNone || !(((ops[i]?).bind (·.dst)) == ((ops[j]?).bind (·.dst)))
theorem dstsB_spec {ops : Array Oper} {n : Nat} (h : dstsB ops n = true) : ∀ i j oi oj, i < n → j < n → i ≠ j → ops[i]? = some oi → ops[j]? = some oj → ∀ d, oi.dst = some d → oj.dst ≠ some d := by
  intro i j oi oj hi hj hij hoi hoj d hd e
  have := List.all_eq_true.1 (List.all_eq_true.1 h i (List.mem_range.2 hi)) j (List.mem_range.2 hj)
  simp [hoi, hoj, hd, e, hij] at this

/-- THE RULE: the m-th of the first n operations makes a variable; the others of these are quiet; what follows comes in its one order. -/
theorem any_grow_alloc {Q : Exit → Act → World → Prop} {a : Act} {w : World} {l : List Oper} (n m t : Nat) (obj : Obj) (oa : Oper) (oN : Nat → Oper) (l' : Nat → List Oper) (A : Nat → Act)
    (hB : ∀ N, Region.lexTailB .any (l' N).toArray n = true) (hlen : ∀ N, (l' N).length = l.length) (hmn : m < n)
    (hsame : ∀ N i, i ≠ m → (l' N)[i]? = l[i]?) (hafter : ∀ N, (oN N).after = oa.after) (hdst : ∀ N, (oN N).dst = oa.dst)
    (ha : l[m]? = some oa) (hN : ∀ N, (l' N)[m]? = some (oN N)) (hga : oa.guard = none) (hgN : ∀ N, (oN N).guard = none) (hfa : oa.after = #[]) (hda : oa.dst = some t)
    (hrun : ∀ a w, (execOp (Act.eval a) oa).run P w = .ok (.value (.pointer (some ⟨w.heap.size, 0, none⟩))) (w.alloc obj)) (hrunN : ∀ N a w, (execOp (Act.eval a) (oN N)).run P w = .ok (.value (.pointer (some ⟨N, 0, none⟩))) w)
    (hnd : dstsB l.toArray n = true) (hA : ∀ N, A N = (A 0).put (some t) (.pointer (some ⟨N, 0, none⟩)))
    (h : ∀ b N, Below w.heap.size w b → wpQuiet P (l' N).toArray (fun w' => ∃ z, w' = grow b z) (fun a' => a' = A N) ((l' N).take n) a)
    (htail : ∀ W' N, Below w.heap.size w W' → w.heap.size ≤ N → W'.heap[N]? = some obj → wpList P l.toArray Q (l.drop n) (A N) W') : wpAny P .any l.toArray Q l.toArray.size (Array.replicate l.toArray.size false) a { w with drawn := w.drawn + 1 } := by
  have hdrop : ∀ N, (l' N).drop n = l.drop n := fun N => by
    apply List.ext_getElem?
    intro i
    rw [List.getElem?_drop, List.getElem?_drop, hsame N _ (by omega)]
  have hr : ∀ N done, Region.ready .any (l' N).toArray done = Region.ready .any l.toArray done := fun N done => by
    unfold Region.ready
    simp only [List.size_toArray, hlen N, List.getElem?_toArray]
    congr 1
    funext i
    by_cases e : i = m
    · subst e; rw [hN, ha]; simp [hafter]
    · rw [hsame N i e]
  have hy : ∀ N x, yielded (l' N).toArray x = yielded l.toArray x := fun N x => by
    funext j
    unfold yielded
    simp only [List.getElem?_toArray]
    by_cases e : j = m
    · subst e; rw [hN, ha]; simp [hdst]
    · rw [hsame N j e]
  have hwa : ∀ y, Region.wanted oa y = true := fun y => by simp [Region.wanted, hga]
  have hwN : ∀ N y, Region.wanted (oN N) y = true := fun N y => by simp [Region.wanted, hgN]
  have hBB : ∀ N, Region.noSelect (l' N).toArray = true ∧ n < l.length ∧ Region.sinkB .any (l' N).toArray n = true ∧ Region.chainB .any (l' N).toArray n = true ∧ Region.lexHead .any (l' N).toArray (l.length - n) n 0 (Array.replicate l.length false) = true := fun N => by
    have := hB N
    simp only [Region.lexTailB, Bool.and_eq_true, decide_eq_true_eq, List.size_toArray, hlen N] at this
    exact ⟨this.1.1.1.1, this.1.1.1.2, this.1.1.2, this.1.2, this.2⟩
  have hn := (hBB 0).2.1
  have head : ∀ N b, Below w.heap.size w b → headAny P .any (l' N).toArray (grown b) n (fun d a' => Region.seqB .any (l' N).toArray (l.length - n) n d = true ∧ a' = A N) n (Array.replicate l.length false) a := by
    intro N b hb
    obtain ⟨b1, _, b3, b4, b5⟩ := hBB N
    have htl : ((l' N).take n).length = n := by simp [hlen N]; omega
    have inv0 : HeadInv .any (l' N).toArray n (Array.replicate l.length false) :=
      { size := by simp [hlen N]
        closed := fun j oj _ hl => by rw [getD_replicate_false] at hl; cases hl
        tail := fun t _ ht => getD_in (by simpa [hlen N] using ht) (getD_replicate_false _ _) }
    have := headAny_lex (md := .any) (C := grown b) (g := l.length - n) (G := fun a' => a' = A N) b1 b3 b4 (by simpa [hlen N] using hn) ((l' N).take n) 0 (Array.replicate l.length false) a
      (fun j hj => by rw [htl] at hj; simp [hj]) (by simpa using htl) inv0 (by rw [htl]; exact b5) (h b N hb)
    rwa [htl] at this
  have S := alloc_first (P := P) (md := .any) (ops := l.toArray) (ops' := fun N => (l' N).toArray) (n := n) (g := l.length - n) (m := m) (t := t) (obj := obj) (oa := oa) (oN := oN) (A := A)
    (L := fun N d a' => Region.seqB .any (l' N).toArray (l.length - n) n d = true ∧ a' = A N) (Q := Q) (w := w)
    (fun N i hi => by simpa using hsame N i hi) hy hr hmn (by simpa using ha) hwa hda hrun (fun N => by simpa using hN N) hwN (fun N => (hdst N).trans hda) hrunN (dstsB_spec hnd)
    (fun N d hd => by rw [hA N]; exact tmps_put_ne _ _ _ _ (fun e => hd (Option.some.inj e).symm)) (fun N done a' hL => hL.2)
    (fun N done a' hL => by
      cases hd : done.getD m true
      · exfalso
        have hm : m ∈ Region.ready .any (l' N).toArray done := mem_ready.2 ⟨hd, oN N, by simpa using hN N, fun e he => by rw [hafter, hfa] at he; simp at he⟩
        have := seqB_ready hL.1 m hm
        omega
      · rfl)
    (fun N b hb hblk hwN done a' w' hw' hL => by
      obtain ⟨z, rfl⟩ := hw'
      obtain ⟨hs, rfl⟩ := hL
      have hblk' : (grow b z).heap[N]? = some obj := ((grow_below b z).block N (Array.getElem?_eq_some_iff.1 hblk).1).trans hblk
      have hs' : ∀ (k g : Nat) (d : Array Bool), Region.seqB .any (l' N).toArray g k d = Region.seqB .any l.toArray g k d := by
        intro k g
        induction g generalizing k with
        | zero => intro d; simp only [Region.seqB, hr]
        | succ g ih => intro d; simp only [Region.seqB, hr, ih]
      have := wpAny_of_seq (md := .any) (ops := l.toArray) (Q' := Q) (l.drop n) n done (A N) (grow b z) (fun j => by simp [List.getElem?_drop]) (by rw [List.length_drop, ← hs']; exact hs)
        (htail (grow b z) N (up hb (grow_below b z)) hwN hblk')
      rwa [List.length_drop] at this)
    n (Array.replicate l.length false) a { w with drawn := w.drawn + 1 } ⟨⟨#[], w.drawn + 1⟩, by simp [grow]⟩ (getD_in (by simp; omega) (getD_replicate_false _ _)) head
  rw [show n + (l.length - n) = l.length by omega] at S
  simpa using S
theorem wp_region_grow_alloc {id : Nat} {Q : Exit → Act → World → Prop} {a : Act} {w : World} {l : List Oper} (n m t : Nat) (obj : Obj) (oa : Oper) (oN : Nat → Oper) (l' : Nat → List Oper) (A : Nat → Act)
    (hmo : P.follows .mixedOrders = true) (hB : ∀ N, Region.lexTailB .any (l' N).toArray n = true) (hlen : ∀ N, (l' N).length = l.length) (hmn : m < n)
    (hsame : ∀ N i, i ≠ m → (l' N)[i]? = l[i]?) (hafter : ∀ N, (oN N).after = oa.after) (hdst : ∀ N, (oN N).dst = oa.dst)
    (ha : l[m]? = some oa) (hN : ∀ N, (l' N)[m]? = some (oN N)) (hga : oa.guard = none) (hgN : ∀ N, (oN N).guard = none) (hfa : oa.after = #[]) (hda : oa.dst = some t)
    (hrun : ∀ a w, (execOp (Act.eval a) oa).run P w = .ok (.value (.pointer (some ⟨w.heap.size, 0, none⟩))) (w.alloc obj)) (hrunN : ∀ N a w, (execOp (Act.eval a) (oN N)).run P w = .ok (.value (.pointer (some ⟨N, 0, none⟩))) w)
    (hnd : dstsB l.toArray n = true) (hA : ∀ N, A N = (A 0).put (some t) (.pointer (some ⟨N, 0, none⟩)))
    (h : ∀ b N, Below w.heap.size w b → wpQuiet P (l' N).toArray (fun w' => ∃ z, w' = grow b z) (fun a' => a' = A N) ((l' N).take n) a)
    (htail : ∀ W' N, Below w.heap.size w W' → w.heap.size ≤ N → W'.heap[N]? = some obj → wpList P l.toArray Q (l.drop n) (A N) W') : (Code.region id l.toArray true).wp P Q a w :=
  wp_region_any hmo (any_grow_alloc n m t obj oa oN l' A hB hlen hmn hsame hafter hdst ha hN hga hgN hfa hda hrun hrunN hnd hA h htail)

/-- The operation that makes a variable, its pointer put in its place. -/
def ptrOp (t T : Nat) (p : String) (N : Nat) : Oper := { dst := some t, op := .assign (.const (.pointer (some ⟨N, 0, none⟩))), type := T, pos := p, after := #[], guard := none }
theorem wp_region_alloc {id : Nat} {Q : Exit → Act → World → Prop} {a : Act} {w : World} {l : List Oper} (n m t : Nat) (obj : Obj) {ty : TypeId} {T : Nat} {p : String}
    (hmo : P.follows .mixedOrders = true) (ha : l[m]? = some { dst := some t, op := .alloc ty, type := T, pos := p, after := #[], guard := none }) (hB : ∀ N, Region.lexTailB .any (l.set m (ptrOp t T p N)).toArray n = true) (hmn : m < n)
    (hrun : ∀ a w, (execOp (Act.eval a) { dst := some t, op := .alloc ty, type := T, pos := p, after := #[], guard := none }).run P w = .ok (.value (.pointer (some ⟨w.heap.size, 0, none⟩))) (w.alloc obj))
    (hnd : dstsB l.toArray n = true)
    (h : ∃ A : Nat → Act, (∀ b N, Below w.heap.size w b → wpQuiet P (l.set m (ptrOp t T p N)).toArray (fun w' => ∃ z, w' = grow b z) (fun a' => a' = A N) ((l.set m (ptrOp t T p N)).take n) a) ∧
      (∀ N, A N = (A 0).put (some t) (.pointer (some ⟨N, 0, none⟩))) ∧
      (∀ W' N, Below w.heap.size w W' → w.heap.size ≤ N → W'.heap[N]? = some obj → wpList P l.toArray Q (l.drop n) (A N) W')) : (Code.region id l.toArray true).wp P Q a w := by
  obtain ⟨A, h1, h2, h3⟩ := h
  have hm : m < l.length := (List.getElem?_eq_some_iff.1 ha).1
  exact wp_region_grow_alloc n m t obj _ (ptrOp t T p) (fun N => l.set m (ptrOp t T p N)) A hmo hB (fun N => by simp) hmn (fun N i hi => by rw [List.getElem?_set_ne (Ne.symm hi)]) (fun _ => rfl) (fun _ => rfl) ha
    (fun N => by rw [List.getElem?_set_self hm]) rfl (fun _ => rfl) rfl rfl hrun (fun N a w => by simp [ptrOp, execOp, Act.eval]) hnd h2 h1 h3

/-- Six cells that were made, written. -/
theorem made6 {w : World} {N : Nat} {c0 c1 c2 c3 c4 c5 : Value} {ty : TypeId} (h : w.heap[N]? = some (.cells #[c0, c1, c2, c3, c4, c5] ty (0, 0))) :
    N < w.heap.size ∧ (∀ j, w.cell? ⟨N, j, none⟩ = [c0, c1, c2, c3, c4, c5][j]?) ∧ (∀ j, w.frozen? ⟨N, j, none⟩ = false) := by
  refine ⟨(Array.getElem?_eq_some_iff.1 h).1, fun j => ?_, fun j => ?_⟩
  · unfold World.cell?; rw [h]; simp
  · unfold World.frozen?; rw [h]; simp
end alloc
end Go.Proofs.Ytbieopkohkomoaa

