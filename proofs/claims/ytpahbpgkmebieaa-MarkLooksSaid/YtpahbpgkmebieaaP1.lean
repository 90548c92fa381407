/- Plain facts on sets of signs: a reading of two marks. Own text. -/
import Derived.Test.YtpahbpgkmebieaaW19
import Derived.Test.YtpahbpgkmebieaaW9
namespace Go.Proofs.Ytpahbpgkmebieaa
open Go Go.RowKit
set_option maxRecDepth 100000

/-- The lowest sign of a set, as a set. -/
def lowS (s : Int) : Int := 2 ^ ((sgK s 5).getD 0 0).toNat
/-- Of which set a place is read, where so many false places are left. -/
def selS (a b q : Int) : Int := if (band a b == 0) = true then (if 0 < q then a else b) else band a b
def nxtQ (a b q : Int) : Int := if (band a b == 0) = true then (if 0 < q then q - 1 else q) else q
def qK (fa fb : Nat → Int) (p : Int) : Nat → Int
  | 0 => p
  | k + 1 => nxtQ (fa k) (fb k) (qK fa fb p k)
def btK (fa fb : Nat → Int) (p : Int) (k : Nat) : Int := lowS (selS (fa k) (fb k) (qK fa fb p k))
/-- A set that is not empty. -/
def st (s : Int) : Prop := 1 ≤ s ∧ s ≤ 31

theorem low_dec : ∀ s : Fin 32, s.val ≠ 0 → 1 ≤ lowS s.val ∧ lowS s.val ≤ 31 ∧ (band (lowS s.val) (lowS s.val - 1) == 0) = true ∧ (band s.val (lowS s.val) == 0) = false ∧ 0 < (sgK s.val 5).length := by decide +kernel
theorem and_dec : ∀ a b : Fin 32, (band a.val b.val == 0) = false → 1 ≤ band a.val b.val ∧ band a.val b.val ≤ 31 ∧ (band a.val (lowS (band a.val b.val)) == 0) = false ∧ (band b.val (lowS (band a.val b.val)) == 0) = false := by decide +kernel
theorem st_fin {s : Int} (h : st s) : ∃ f : Fin 32, s = ((f.val : Nat) : Int) ∧ f.val ≠ 0 := by
  obtain ⟨h1, h2⟩ := h
  obtain ⟨n, rfl⟩ := Int.eq_ofNat_of_zero_le (by omega : 0 ≤ s)
  exact ⟨⟨n, by omega⟩, rfl, by show n ≠ 0; omega⟩
theorem low_st {s : Int} (h : st s) : st (lowS s) ∧ (band (lowS s) (lowS s - 1) == 0) = true ∧ mis s (lowS s) = 0 ∧ 0 < (sgK s 5).length := by
  obtain ⟨f, rfl, h0⟩ := st_fin h
  obtain ⟨a, b, c, d, e⟩ := low_dec f h0
  exact ⟨⟨a, b⟩, c, mis_no d, e⟩
theorem and_st {a b : Int} (ha : st a) (hb : st b) (h : (band a b == 0) = false) : st (band a b) ∧ mis a (lowS (band a b)) = 0 ∧ mis b (lowS (band a b)) = 0 := by
  obtain ⟨f, rfl, _⟩ := st_fin ha
  obtain ⟨g, rfl, _⟩ := st_fin hb
  obtain ⟨p, q, r, s⟩ := and_dec f g h
  exact ⟨⟨p, q⟩, mis_no r, mis_no s⟩
theorem sel_st {a b q : Int} (ha : st a) (hb : st b) : st (selS a b q) := by
  unfold selS
  split
  · split <;> assumption
  · rename_i h
    exact (and_st ha hb (by simpa using h)).1
theorem bt_st {fa fb : Nat → Int} {p : Int} {k : Nat} (ha : st (fa k)) (hb : st (fb k)) : st (btK fa fb p k) ∧ (band (btK fa fb p k) (btK fa fb p k - 1) == 0) = true :=
  ⟨(low_st (sel_st ha hb)).1, (low_st (sel_st ha hb)).2.1⟩
/-- What the places cost. -/
theorem bt_cost {fa fb : Nat → Int} {p : Int} (hp : 0 ≤ p) (n : Nat) (ha : ∀ k, k < n → st (fa k)) (hb : ∀ k, k < n → st (fb k)) :
    0 ≤ qK fa fb p n ∧ (qK fa fb p n = 0 ∨ qK fa fb p n = p - sumK (fun j => mis (fa j) (fb j)) n) ∧ qK fa fb p n ≤ p ∧
    sumK (fun j => mis (fb j) (btK fa fb p j)) n ≤ p - qK fa fb p n ∧ sumK (fun j => mis (fa j) (btK fa fb p j)) n + (p - qK fa fb p n) ≤ sumK (fun j => mis (fa j) (fb j)) n := by
  induction n with
  | zero => simp only [qK, sumK]; omega
  | succ n ih =>
    obtain ⟨i1, i2, i3, i4, i5⟩ := ih (fun k hk => ha k (by omega)) (fun k hk => hb k (by omega))
    have xa := ha n (by omega)
    have xb := hb n (by omega)
    have ma := mis_bd (fa n) (btK fa fb p n)
    have mb := mis_bd (fb n) (btK fa fb p n)
    simp only [sumK]
    cases h : (band (fa n) (fb n) == 0)
    · have e1 : qK fa fb p (n + 1) = qK fa fb p n := by simp only [qK, nxtQ, h]; simp
      have e2 : btK fa fb p n = lowS (band (fa n) (fb n)) := by simp only [btK, selS, h]; simp
      have := and_st xa xb h
      rw [e1, mis_no h, e2, this.2.1, this.2.2]
      omega
    · rw [mis_yes h]
      by_cases hq : 0 < qK fa fb p n
      · have e1 : qK fa fb p (n + 1) = qK fa fb p n - 1 := by simp only [qK, nxtQ, h, hq]; simp
        have e2 : btK fa fb p n = lowS (fa n) := by simp only [btK, selS, h, hq]; simp
        have := (low_st xa).2.2.1
        rw [← e2] at this
        rw [e1, this]
        omega
      · have e1 : qK fa fb p (n + 1) = qK fa fb p n := by simp only [qK, nxtQ, h, hq]; simp
        have e2 : btK fa fb p n = lowS (fb n) := by simp only [btK, selS, h, hq]; simp
        have := (low_st xb).2.2.1
        rw [← e2] at this
        rw [e1, this]
        omega
theorem bt_good {fa fb : Nat → Int} {p : Int} (hp : 0 ≤ p) (n : Nat) (ha : ∀ k, k < n → st (fa k)) (hb : ∀ k, k < n → st (fb k)) (hd : sumK (fun j => mis (fa j) (fb j)) n ≤ 2 * p) :
    sumK (fun j => mis (fa j) (btK fa fb p j)) n ≤ p ∧ sumK (fun j => mis (fb j) (btK fa fb p j)) n ≤ p := by
  have := bt_cost hp n ha hb
  omega
/-- The worn signs of a valid sign are a set that is not empty. -/
theorem worn_st {w0 w1 w2 w3 w4 : Int} (h : okW w0 w1 w2 w3 w4 = true) {s : Int} (h0 : 0 ≤ s) (h1 : s < 5) : st (g5 w0 w1 w2 w3 w4 s) := by
  simp only [okW, wrB, Bool.and_eq_true, decide_eq_true_eq] at h
  obtain ⟨⟨⟨⟨⟨⟨a0, b0⟩, c0⟩, ⟨a1, b1⟩, c1⟩, ⟨a2, b2⟩, c2⟩, ⟨a3, b3⟩, c3⟩, ⟨a4, b4⟩, c4⟩ := h
  have key : ∀ (x : Int) (i : Nat), 0 ≤ x → x ≤ 31 → hasB x i = true → st x := fun x i h0 h1 h2 => by
    refine ⟨?_, h1⟩
    rcases Int.lt_or_eq_of_le h0 with h | h
    · omega
    · exfalso
      subst h
      unfold hasB band at h2
      have : bits BinOp.and IntKind.i64 0 (2 ^ i) = 0 := by simp [bits]; rfl
      simp [this] at h2
  rcases (by omega : s = 0 ∨ s = 1 ∨ s = 2 ∨ s = 3 ∨ s = 4) with rfl | rfl | rfl | rfl | rfl
  · exact key _ 0 a0 b0 c0
  · exact key _ 1 a1 b1 c1
  · exact key _ 2 a2 b2 c2
  · exact key _ 3 a3 b3 c3
  · exact key _ 4 a4 b4 c4
end Go.Proofs.Ytpahbpgkmebieaa
