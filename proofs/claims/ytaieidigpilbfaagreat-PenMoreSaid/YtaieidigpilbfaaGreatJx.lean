/- Contracts of functions of the program and of the reference, and plain facts: a part of a proof. Own text. -/
import Derived.Test.YtaieidigpilbfaaGreatJo
set_option linter.unusedVariables false
set_option linter.unusedSimpArgs false
set_option linter.unusedSectionVars false
namespace Go.Proofs.YtaieidigpilbfaaGreat
open Go Go.ChangeShapes Go.WideShapes Go.RowKit Go.Deep
set_option maxHeartbeats 4000000
set_option maxRecDepth 100000
section
variable {H : Type} {enc : TypeId × Value → H} {w : World} {base : Nat} {spare : Nat → Bool} {held : Bool} {fuel : Nat} {cs : List Value} {x : DataW H × List MemPlace}
theorem cap_open {A : Option Addr} {n c : Nat} (h : DataW.trod enc Tryz.prog w base spare held fuel 22 [.slice A n c] = some x) : c ≤ 9223372036854775807 := by
  rcases open_slice Tryz.underlying22 h with ⟨e, _⟩ | ⟨a, len, cap, m, k, D, Pl, e, _, hlc, hcm, _⟩
  · cases e; omega
  · cases e; unfold maxLen at hcm; omega
/-- A slice of numbers that came in, and how far it reaches. -/
theorem open_isC {r : Reach} {b0 : Nat} {v : Value} {d : DataW H} {p : List MemPlace} (hv : Value.okWide Tryz.prog w r b0 22 v) (h : DataW.Trod enc Tryz.prog w base spare held 22 v d p) (hz : ∀ y ∈ d.weights Tryz.prog 22, y ≤ reachBytes) :
    ∃ A n c l, v = .slice A n c ∧ Is w A n l ∧ n ≤ c ∧ c ≤ 9223372036854775807 ∧ ∀ y ∈ l, i64 y := by
  obtain ⟨fuel, hf⟩ := h
  obtain ⟨A, n, c, l, e, h1, h2, _, h4⟩ := is_open hf hz
  have hc : c ≤ 9223372036854775807 := by rw [e] at hf; exact cap_open hf
  exact ⟨A, n, c, l, okWide_slice1 Tryz.underlying22 hv e, h1, h2, hc, h4⟩
/-- A placement and a reason that came in. -/
theorem open_told {r : Reach} {b0 : Nat} {v : Value} {d : DataW H} {p : List MemPlace} (hv : Value.okWide Tryz.prog w r b0 65 v) (h : DataW.Trod enc Tryz.prog w base spare held 65 v d p) (hz : ∀ y ∈ d.weights Tryz.prog 65, y ≤ reachBytes) :
    ∃ C u v' q kd D x y b, v = .agg #[.slice C u v', .int .i64 kd, .slice D x y] ∧ Is w C u q ∧ Is w D x b ∧ x ≤ y ∧ y ≤ 9223372036854775807 := by
  obtain ⟨cs, rfl, hsz⟩ := okWide_struct Tryz.underlying65 hv
  rw [show Tryz.prog.cellsOf 65 = 3 by kernel_rfl] at hsz
  obtain ⟨fuel, hf⟩ := h
  obtain ⟨y0, y1, n, hd, hl, h0, h1⟩ := trod_struct2 Tryz.underlying65 hf
  dsimp only at h0 h1
  rw [show Tryz.prog.cellsOf 22 = 1 by kernel_rfl] at h0
  rw [show Tryz.prog.cellsOf 53 = 2 by kernel_rfl] at h1
  obtain ⟨z0, z1, n2, hd2, hl2, k0, k1⟩ := trod_struct2 Tryz.underlying53 h1
  dsimp only at k0 k1
  rw [show Tryz.prog.cellsOf 3 = 1 by kernel_rfl] at k0
  rw [show Tryz.prog.cellsOf 22 = 1 by kernel_rfl] at k1
  have hd' : d = .agg [y0.1, y1.1] := (Prod.ext_iff.1 hd).1
  have hd2' : y1.1 = .agg [z0.1, z1.1] := (Prod.ext_iff.1 hd2).1
  have hz0 : ∀ y ∈ y0.1.weights Tryz.prog 22, y ≤ reachBytes := fun y hy => hz y (by
    rw [hd']; simp [DataW.weights, DataW.weightsEach, Tryz.underlying65, hy])
  have hz1 : ∀ y ∈ z1.1.weights Tryz.prog 22, y ≤ reachBytes := fun y hy => hz y (by
    rw [hd', hd2']; simp [DataW.weights, DataW.weightsEach, Tryz.underlying65, Tryz.underlying53, hy])
  obtain ⟨C, u, v', q, e0, hq, huv, _, _⟩ := is_open h0 hz0
  obtain ⟨kd, e1, _, b1⟩ := DataW.trod_int Tryz.underlying3 k0
  obtain ⟨D, x, y, b, e2, hb, hxy, _, _⟩ := is_open k1 hz1
  have hy : y ≤ 9223372036854775807 := by rw [e2] at k1; exact cap_open k1
  obtain ⟨cl⟩ := cs
  match cl, hsz with
  | [c0, c1, c2], _ =>
    simp [Value.cells] at e0 e1 e2
    subst e0; subst e1; subst e2
    exact ⟨C, u, v', q, kd, D, x, y, b, rfl, hq, hb, hxy, hy⟩
/-- A placement and three numbers that came in, and how far the placement reaches. -/
theorem open_stepC {r : Reach} {b0 : Nat} {v : Value} {d : DataW H} {p : List MemPlace} (hv : Value.okWide Tryz.prog w r b0 42 v) (h : DataW.Trod enc Tryz.prog w base spare held 42 v d p) (hz : ∀ y ∈ d.weights Tryz.prog 42, y ≤ reachBytes) :
    ∃ C u v' q x y z, v = .agg #[.slice C u v', .int .i64 x, .int .i64 y, .int .i64 z] ∧ Is w C u q ∧ u ≤ v' ∧ v' ≤ 9223372036854775807 := by
  obtain ⟨cs, rfl, hsz⟩ := okWide_struct Tryz.underlying42 hv
  rw [show Tryz.prog.cellsOf 42 = 4 by kernel_rfl] at hsz
  obtain ⟨fuel, hf⟩ := h
  obtain ⟨y0, y1, y2, y3, n, hd, hl, h0, h1, h2, h3⟩ := Go.Joins.trod_struct4 Tryz.underlying42 hf
  have hz0 : ∀ y ∈ y0.1.weights Tryz.prog 22, y ≤ reachBytes := fun y hy => hz y (by
    have : d = .agg [y0.1, y1.1, y2.1, y3.1] := (Prod.ext_iff.1 hd).1
    rw [this]; simp [DataW.weights, DataW.weightsEach, Tryz.underlying42, hy])
  dsimp only at h0 h1 h2 h3
  rw [show Tryz.prog.cellsOf 22 = 1 by kernel_rfl] at h0
  rw [show Tryz.prog.cellsOf 3 = 1 by kernel_rfl] at h1 h2 h3
  obtain ⟨C, u, v', q, e0, hq, huv, _, _⟩ := is_open h0 hz0
  obtain ⟨x, e1, _, b1⟩ := DataW.trod_int Tryz.underlying3 h1
  obtain ⟨y, e2, _, b2⟩ := DataW.trod_int Tryz.underlying3 h2
  obtain ⟨z, e3, _, b3⟩ := DataW.trod_int Tryz.underlying3 h3
  have hc : v' ≤ 9223372036854775807 := by rw [e0] at h0; exact cap_open h0
  obtain ⟨cl⟩ := cs
  match cl, hsz with
  | [c0, c1, c2, c3], _ =>
    simp [Value.cells] at e0 e1 e2 e3
    subst e0; subst e1; subst e2; subst e3
    exact ⟨C, u, v', q, x, y, z, rfl, hq, huv, hc⟩
end
end Go.Proofs.YtaieidigpilbfaaGreat

