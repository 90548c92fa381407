/- Lists that came in, opened: readings; numbers. Own text. -/
import Derived.Test.YtpahbpgkmebieaaO2
namespace Go.Proofs.Ytpahbpgkmebieaa
open Go.ChangeShapes Go.WideShapes Go.RowKit Go.Deep
set_option maxHeartbeats 400000
set_option maxRecDepth 100000

section
variable {H : Type} {enc : TypeId × Value → H} {w : World} {base : Nat} {spare : Nat → Bool} {held : Bool} {fuel : Nat} {cs : List Value} {x : DataW H × List MemPlace}

/-- A place of which a cell is known. -/
theorem plain_of {a : Addr} {v : Value} (h0 : w.cell? a = some v) : a.spot = none ∧ a.block < w.heap.size := by
  unfold World.cell? at h0
  split at h0
  · rename_i hh
    refine ⟨?_, (Array.getElem?_eq_some_iff.1 hh).1⟩
    cases hs : a.spot with
    | none => rfl
    | some y => rw [hs] at h0; simp at h0
  · simp at h0

theorem rs_open (h : DataW.trod enc Try.prog w base spare held fuel 53 cs = some x) (hz : ∀ y ∈ x.1.weights Try.prog 53, y ≤ reachBytes) : ∃ A n c rs, cs = [.slice A n c] ∧ Rs w A n rs ∧ n ≤ c ∧ n * 48 ≤ reachBytes := by
  rcases open_slice Try.underlying53 h with ⟨rfl, _⟩ | ⟨a, len, cap, m, k, D, Pl, rfl, _, hlc, hcm, hm, hx, hel⟩
  · exact ⟨none, 0, 0, [], rfl, ⟨rfl, by omega, fun k hk => by simp at hk⟩, Nat.le_refl _, by omega⟩
  · have hlm : len ≤ m := by rw [hm]; split <;> omega
    have hsz : len * 48 ≤ reachBytes := by
      have := hz ((len + (m - len)) * Try.prog.bytesOf 31) (by rw [hx]; simp [DataW.weights, Try.underlying53])
      rw [show Try.prog.bytesOf 31 = 48 by kernel_rfl] at this
      omega
    have hrb := reachBytes_lt
    have each : ∀ i, i < len → ∃ g : Rd, ∀ j, j < 6 → w.cell? (a.add (i * 6 + j)) = [Value.int .i64 g.r0, .int .i64 g.r1, .int .i64 g.r2, .int .i64 g.r3, .int .i64 g.r4, .int .i64 g.r5][j]? := by
      intro i hi
      obtain ⟨cs', hc, ht⟩ := hel i (by omega)
      rw [show Try.prog.cellsOf 31 = 6 by kernel_rfl] at hc
      obtain ⟨g, rfl⟩ := rd_open Try.underlying31 (by kernel_rfl) ht
      obtain ⟨_, _, hat⟩ := World.cells?_some hc
      refine ⟨g, fun j hj => ?_⟩
      have := hat j hj
      rwa [Deep.add_add] at this
    have : Inhabited Rd := ⟨⟨0, 0, 0, 0, 0, 0⟩⟩
    obtain ⟨f, hf⟩ := choose_lt each
    refine ⟨some a, len, cap, (List.range len).map f, rfl, ⟨by simp, by omega, fun k hk => ?_⟩, hlc, hsz⟩
    have hk' : k < len := by simpa using hk
    have hg := hf k hk'
    obtain ⟨hsp, hb⟩ := plain_of (hf 0 (by omega) 0 (by omega))
    obtain ⟨b, o, s⟩ := a
    obtain rfl := hsp
    refine ⟨b, o, rfl, hb, ?_⟩
    have e : ∀ q, (Addr.mk b o none).add q = ⟨b, o + q, none⟩ := fun q => Addr.add_lit ..
    simp only [e] at hg
    rw [List.getElem_map, List.getElem_range]
    exact ⟨by have := hg 0 (by omega); simpa using this, by have := hg 1 (by omega); simpa [Nat.add_assoc] using this, by have := hg 2 (by omega); simpa [Nat.add_assoc] using this, by have := hg 3 (by omega); simpa [Nat.add_assoc] using this, by have := hg 4 (by omega); simpa [Nat.add_assoc] using this, by have := hg 5 (by omega); simpa [Nat.add_assoc] using this⟩

theorem is_open (h : DataW.trod enc Try.prog w base spare held fuel 54 cs = some x) (hz : ∀ y ∈ x.1.weights Try.prog 54, y ≤ reachBytes) : ∃ A n c l, cs = [.slice A n c] ∧ Is w A n l ∧ n ≤ c ∧ n * 8 ≤ reachBytes ∧ ∀ y ∈ l, i64 y := by
  rcases open_slice Try.underlying54 h with ⟨rfl, _⟩ | ⟨a, len, cap, m, k, D, Pl, rfl, _, hlc, hcm, hm, hx, hel⟩
  · exact ⟨none, 0, 0, [], rfl, ⟨rfl, by omega, fun k hk => by simp at hk⟩, Nat.le_refl _, by omega, by simp⟩
  · have hlm : len ≤ m := by rw [hm]; split <;> omega
    have hsz : len * 8 ≤ reachBytes := by
      have := hz ((len + (m - len)) * Try.prog.bytesOf 3) (by rw [hx]; simp [DataW.weights, Try.underlying54])
      rw [show Try.prog.bytesOf 3 = 8 by kernel_rfl] at this
      omega
    have hrb := reachBytes_lt
    have each : ∀ i, i < len → ∃ g : Int, w.cell? (a.add i) = some (.int .i64 g) ∧ i64 g := by
      intro i hi
      obtain ⟨cs', hc, ht⟩ := hel i (by omega)
      rw [show Try.prog.cellsOf 3 = 1 by kernel_rfl, Nat.mul_one] at hc
      obtain ⟨g, rfl, _, e3⟩ := DataW.trod_int Try.underlying3 ht
      obtain ⟨_, _, hat⟩ := World.cells?_some hc
      have := hat 0 (by omega)
      exact ⟨g, by simpa [Deep.add_add] using this, i64_wf e3⟩
    obtain ⟨f, hf⟩ := choose_lt each
    refine ⟨some a, len, cap, (List.range len).map f, rfl, ⟨by simp, by omega, fun k hk => ?_⟩, hlc, hsz, ?_⟩
    · have hk' : k < len := by simpa using hk
      have hg := (hf k hk').1
      obtain ⟨hsp, hb⟩ := plain_of (hf 0 (by omega)).1
      rw [show a.add 0 = a from rfl] at hb hsp
      obtain ⟨b, o, s⟩ := a
      obtain rfl := hsp
      refine ⟨b, o, rfl, hb, ?_⟩
      rw [List.getElem_map, List.getElem_range, ← hg]
      rw [Addr.add_lit]
    · intro y hy
      obtain ⟨i, hi, rfl⟩ := List.mem_map.1 hy
      exact (hf i (List.mem_range.1 hi)).2

theorem okWide_slice1 {P : Program} {t e : TypeId} {r : Reach} {b0 : Nat} {v : Value} (ht : P.underlying t = some (.slice e)) (h : Value.okWide P w r b0 t v) : ∀ {A : Option Addr} {n c : Nat}, v.cells.toList = [.slice A n c] → v = .slice A n c := by
  intro A n c e
  simp only [Value.okWide, ht, Cell.okWide] at h
  cases v <;> simp_all [Cell.ok, Value.cells]

theorem open_rds {r : Reach} {b0 : Nat} {v : Value} {d : DataW H} {p : List MemPlace} (hv : Value.okWide Try.prog w r b0 53 v) (h : DataW.Trod enc Try.prog w base spare held 53 v d p) (hz : ∀ y ∈ d.weights Try.prog 53, y ≤ reachBytes) :
    ∃ A n c rs, v = .slice A n c ∧ Rs w A n rs ∧ n ≤ c ∧ n * 48 ≤ reachBytes := by
  obtain ⟨fuel, hf⟩ := h
  obtain ⟨A, n, c, rs, e, h1, h2, h3⟩ := rs_open hf hz
  exact ⟨A, n, c, rs, okWide_slice1 Try.underlying53 hv e, h1, h2, h3⟩
theorem open_is {r : Reach} {b0 : Nat} {v : Value} {d : DataW H} {p : List MemPlace} (hv : Value.okWide Try.prog w r b0 54 v) (h : DataW.Trod enc Try.prog w base spare held 54 v d p) (hz : ∀ y ∈ d.weights Try.prog 54, y ≤ reachBytes) :
    ∃ A n c l, v = .slice A n c ∧ Is w A n l ∧ n ≤ c ∧ n * 8 ≤ reachBytes ∧ ∀ y ∈ l, i64 y := by
  obtain ⟨fuel, hf⟩ := h
  obtain ⟨A, n, c, l, e, h1, h2, h3, h4⟩ := is_open hf hz
  exact ⟨A, n, c, l, okWide_slice1 Try.underlying54 hv e, h1, h2, h3, h4⟩
end
end Go.Proofs.Ytpahbpgkmebieaa
