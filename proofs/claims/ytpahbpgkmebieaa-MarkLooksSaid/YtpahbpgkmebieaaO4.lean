/- Two marks, and two readings with places, that came in. Own text. -/
import Derived.Test.YtpahbpgkmebieaaO3
namespace Go.Proofs.Ytpahbpgkmebieaa
open Go.ChangeShapes Go.WideShapes Go.RowKit Go.Deep
set_option maxHeartbeats 400000
set_option maxRecDepth 100000
section
variable {H : Type} {enc : TypeId × Value → H} {w : World} {base : Nat} {spare : Nat → Bool} {held : Bool}
theorem open_pair {r : Reach} {b0 : Nat} {v : Value} {d : DataW H} {p : List MemPlace} (hv : Value.okWide Try.prog w r b0 42 v) (h : DataW.Trod enc Try.prog w base spare held 42 v d p) :
    ∃ x y : Rd, v = .agg #[.int .i64 x.r0, .int .i64 x.r1, .int .i64 x.r2, .int .i64 x.r3, .int .i64 x.r4, .int .i64 x.r5, .int .i64 y.r0, .int .i64 y.r1, .int .i64 y.r2, .int .i64 y.r3, .int .i64 y.r4, .int .i64 y.r5] := by
  obtain ⟨cs, rfl, hsz⟩ := okWide_struct Try.underlying42 hv
  rw [show Try.prog.cellsOf 42 = 12 by kernel_rfl] at hsz
  obtain ⟨fuel, hf⟩ := h
  obtain ⟨y0, y1, n, _, hl, h0, h1⟩ := trod_struct2 Try.underlying42 hf
  dsimp only at h0 h1
  rw [show Try.prog.cellsOf 28 = 6 by kernel_rfl] at h0 h1
  obtain ⟨x, e0⟩ := rd_open Try.underlying28 (by kernel_rfl) h0
  obtain ⟨y, e1⟩ := rd_open Try.underlying28 (by kernel_rfl) h1
  refine ⟨x, y, ?_⟩
  obtain ⟨cl⟩ := cs
  match cl, hsz with
  | [c0, c1, c2, c3, c4, c5, c6, c7, c8, c9, c10, c11], _ =>
    simp [Value.cells] at e0 e1
    obtain ⟨rfl, rfl, rfl, rfl, rfl, rfl⟩ := e0
    obtain ⟨rfl, rfl, rfl, rfl, rfl, rfl⟩ := e1
    rfl

/-- Two readings and places that came in. -/
theorem open_sights {r : Reach} {b0 : Nat} {v : Value} {d : DataW H} {p : List MemPlace} (hv : Value.okWide Try.prog w r b0 68 v) (h : DataW.Trod enc Try.prog w base spare held 68 v d p) (hz : ∀ y ∈ d.weights Try.prog 68, y ≤ reachBytes) :
    ∃ (x y : Rd) (A : Option Addr) (n c : Nat) (l : List Int), v = .agg #[.int .i64 x.r0, .int .i64 x.r1, .int .i64 x.r2, .int .i64 x.r3, .int .i64 x.r4, .int .i64 x.r5, .int .i64 y.r0, .int .i64 y.r1, .int .i64 y.r2, .int .i64 y.r3, .int .i64 y.r4, .int .i64 y.r5, .slice A n c] ∧ Is w A n l ∧ n ≤ c ∧ n * 8 ≤ reachBytes ∧ ∀ z ∈ l, i64 z := by
  obtain ⟨cs, rfl, hsz⟩ := okWide_struct Try.underlying68 hv
  rw [show Try.prog.cellsOf 68 = 13 by kernel_rfl] at hsz
  obtain ⟨fuel, hf⟩ := h
  obtain ⟨y0, y1, y2, n, hd, hl, h0, h1, h2⟩ := trod_struct3 Try.underlying68 hf
  have hz2 : ∀ y ∈ y2.1.weights Try.prog 54, y ≤ reachBytes := fun y hy => hz y (by
    have : d = .agg [y0.1, y1.1, y2.1] := (Prod.ext_iff.1 hd).1
    rw [this]; simp [DataW.weights, DataW.weightsEach, Try.underlying68, hy])
  dsimp only at h0 h1 h2
  rw [show Try.prog.cellsOf 31 = 6 by kernel_rfl] at h0 h1
  rw [show Try.prog.cellsOf 54 = 1 by kernel_rfl] at h2
  obtain ⟨x, e0⟩ := rd_open Try.underlying31 (by kernel_rfl) h0
  obtain ⟨y, e1⟩ := rd_open Try.underlying31 (by kernel_rfl) h1
  obtain ⟨A, m, c, l, e2, hi, hmc, hsm, hb⟩ := is_open h2 hz2
  refine ⟨x, y, A, m, c, l, ?_, hi, hmc, hsm, hb⟩
  obtain ⟨cl⟩ := cs
  match cl, hsz with
  | [c0, c1, c2, c3, c4, c5, c6, c7, c8, c9, c10, c11, c12], _ =>
    simp [Value.cells] at e0 e1 e2
    obtain ⟨rfl, rfl, rfl, rfl, rfl, rfl⟩ := e0
    obtain ⟨rfl, rfl, rfl, rfl, rfl, rfl⟩ := e1
    subst e2
    rfl

theorem open_int3 {r : Reach} {b0 : Nat} {v : Value} {d : DataW H} {p : List MemPlace} (hv : Value.okWide Try.prog w r b0 3 v) (h : DataW.Trod enc Try.prog w base spare held 3 v d p) : ∃ n, v = .int .i64 n ∧ i64 n := by
  obtain ⟨fuel, hf⟩ := h
  obtain ⟨n, e1, _, e3⟩ := DataW.trod_int Try.underlying3 hf
  refine ⟨n, ?_, i64_wf e3⟩
  simp only [Value.okWide, Try.underlying3, Cell.okWide] at hv
  cases v <;> simp_all [Cell.ok, Value.cells]

/-- Two numbers that came in. -/
theorem open_two {r : Reach} {b0 : Nat} {v : Value} {d : DataW H} {p : List MemPlace} (hv : Value.okWide Try.prog w r b0 74 v) (h : DataW.Trod enc Try.prog w base spare held 74 v d p) : ∃ x y, v = .agg #[.int .i64 x, .int .i64 y] ∧ i64 x ∧ i64 y := by
  obtain ⟨cs, rfl, hsz⟩ := okWide_arr Try.underlying74 hv
  obtain ⟨fuel, hf⟩ := h
  obtain ⟨l, hln, e2, hb⟩ := nums_array Try.underlying74 Try.underlying3 (by kernel_rfl) (by kernel_rfl) hf
  obtain ⟨cl⟩ := cs
  match l, hln with
  | [a, b], _ =>
    simp [Value.cells, ints] at e2
    exact ⟨a, b, by rw [e2], hb a (by simp), hb b (by simp)⟩
end
end Go.Proofs.Ytpahbpgkmebieaa
