/- Contracts of functions of the program and of the reference, and plain facts: a part of a proof. Own text. -/
import Derived.Test.YtfhcofljlkihoaaGreatDoorJk
set_option linter.unusedVariables false
set_option linter.unusedSimpArgs false
set_option linter.unusedSectionVars false
namespace Go.Proofs.YtfhcofljlkihoaaGreatDoor
open Go.ChangeShapes Go.WideShapes Go.RowKit Go.Deep
set_option maxHeartbeats 400000
set_option maxRecDepth 100000

theorem trodAll_length {H : Type} {enc : TypeId × Value → H} {P : Program} {w : World} {base : Nat} {spare : Nat → Bool} {held : Bool} : ∀ {ts : List TypeId} {vs : List Value} {ds : List (DataW H)} {p : List MemPlace},
    DataW.TrodAll enc P w base spare held ts vs ds p → ds.length = ts.length
  | [], _, _, _, h => by
    obtain ⟨_, rfl, _⟩ := trodAll_nil h
    rfl
  | t :: ts, _, _, _, h => by
    obtain ⟨v, vs1, d, ds1, a, b, rfl, rfl, rfl, h1, h2⟩ := trodAll_cons h
    simp [trodAll_length h2]

theorem ownKnob_none : ownKnob Tryz.prog.godebug = none := by kernel_rfl
theorem laidOut : laidOutB Tryz.prog = true := by kernel_rfl

theorem law_lift {H : Type} {enc : TypeId × Value → H} {os : Os} {f : FuncId} {fn : Func} {s : ChangeSpec} {conds : List PathCond} (started : os.Started) (noInit : Tryz.checked.prog.inits.idxOf? f = none) (hfn : Tryz.checked.prog.funcs[f]? = some fn)
    (witness : ∃ (w : World) (tape : Tape) (i : Input), w.os = os ∧ (w.forCall tape i).Shaped Tryz.checked.prog ∧ i.vars = [] ∧ Input.okWide Tryz.checked.prog (w.forCall tape i) .any w.heap.size f i ∧
      s.pre6 enc Tryz.checked.prog fn conds false (w.forCall tape i).memory i.args ∧ Assume.holds {} Tryz.checked.prog (lone (Frame.enter Tryz.checked.prog f i.args .normal) [] (w.forCall tape i)))
    (hv : s.vars = []) (hf : fn.resultTypes = #[4]) (hs : ∀ ds : List (DataW H), ds.length = fn.params.toList.length → s.fn H (ds ++ []) = { results := [.lit (.bool true)], args := ds })
    (hr : ∀ t ∈ fn.params.toList, Tryz.prog.readableRec t = true ∧ t < Tryz.prog.types.size)
    (walk : ∀ (W : World) (base : Nat) (args : Array Value) (ds : List (DataW H)) (p : List MemPlace), (∀ (j : Nat) t v, fn.params[j]? = some t → args[j]? = some v → Value.okWide Tryz.prog W .any base t v) →
      DataW.TrodAll enc Tryz.prog W 0 (fun _ => true) true fn.params.toList args.toList ds p → (∀ (j : Nat) t d, fn.params[j]? = some t → ds[j]? = some d → ∀ y ∈ d.weights Tryz.prog t, y ≤ reachBytes) →
      Calls Tryz.prog f args W fun e w' => e = .returned (.bool true) ∧ Below W.heap.size W w') :
    ReturnsInHanded {} Tryz.checked os f .any (s.pre6 enc Tryz.checked.prog fn conds false) (s.post enc Tryz.checked.prog fn false true false false) := by
  refine returnsInHanded_of_change_sized (C := Tryz.checked) ownKnob_none started noInit hfn witness ?_
  intro W base args ds gs before hval0 hW _ hsz _
  have hval : ∀ (j : Nat) t v, fn.params[j]? = some t → args[j]? = some v → Value.okWide Tryz.prog W .any base t v := hval0
  have hW1 : DataW.Whole enc Tryz.prog fn.params.toList s.vars false W args.toList ds gs before := hW
  have hW2 := hW1
  obtain ⟨p, q, hA, hV, rfl, _, _⟩ := hW1
  rw [hv] at hV
  obtain ⟨rfl, rfl⟩ := trodVars_none hV
  have hz : ∀ (j : Nat) t d, fn.params[j]? = some t → ds[j]? = some d → ∀ y ∈ d.weights Tryz.prog t, y ≤ reachBytes := by
    intro j t d ht hd y hy
    have ht' : (fn.params.toList ++ s.plain.varTypes Tryz.checked.prog)[j]? = some t := by
      have h1 : fn.params.toList[j]? = some t := by simpa using ht
      rw [List.getElem?_append_left (List.getElem?_eq_some_iff.1 h1).1, h1]
    have := List.all_eq_true.1 hsz _ (DataW.weights_mem_each ht' (by rw [List.append_nil]; exact hd) y hy)
    simpa using this
  refine (walk W base args ds p hval hA hz).mono fun e W' ⟨he, hb⟩ => ?_
  subst he
  exact ⟨_, rfl, law_post laidOut Tryz.underlying4 hf hv (hs ds (trodAll_length hA)) hr hW2 hb⟩
end Go.Proofs.YtfhcofljlkihoaaGreatDoor

namespace Go.Proofs.YtfhcofljlkihoaaGreatDoor
open Go.ChangeShapes Go.WideShapes Go.RowKit Go.Deep
set_option maxHeartbeats 400000
set_option maxRecDepth 100000

section
variable {H : Type} {enc : TypeId × Value → H} {w : World} {base : Nat} {spare : Nat → Bool} {held : Bool} {fuel : Nat} {cs : List Value} {x : DataW H × List MemPlace}

/-- A place of which a cell is known. -/
theorem plain_of {a : Addr} {v : Value} (h0 : w.cell? a = some v) : a.spot = none ∧ a.block < w.heap.size := by
  unfold World.cell? at h0
  split at h0
  · rename_i hh
    refine ⟨?_, (Array.getElem?_eq_some_iff.1 hh).1⟩
    cases hs : a.spot with
    | none => rfl
    | some y => rw [hs] at h0; simp at h0
  · simp at h0

theorem rs_open (h : DataW.trod enc Tryz.prog w base spare held fuel 103 cs = some x) (hz : ∀ y ∈ x.1.weights Tryz.prog 103, y ≤ reachBytes) : ∃ A n c rs, cs = [.slice A n c] ∧ Rs w A n rs ∧ n ≤ c ∧ n * 48 ≤ reachBytes := by
  rcases open_slice Tryz.underlying103 h with ⟨rfl, _⟩ | ⟨a, len, cap, m, k, D, Pl, rfl, _, hlc, hcm, hm, hx, hel⟩
  · exact ⟨none, 0, 0, [], rfl, ⟨rfl, by omega, fun k hk => by simp at hk⟩, Nat.le_refl _, by omega⟩
  · have hlm : len ≤ m := by rw [hm]; split <;> omega
    have hsz : len * 48 ≤ reachBytes := by
      have := hz ((len + (m - len)) * Tryz.prog.bytesOf 51) (by rw [hx]; simp [DataW.weights, Tryz.underlying103])
      rw [show Tryz.prog.bytesOf 51 = 48 by kernel_rfl] at this
      omega
    have hrb := reachBytes_lt
    have each : ∀ i, i < len → ∃ g : Rd, ∀ j, j < 6 → w.cell? (a.add (i * 6 + j)) = [Value.int .i64 g.r0, .int .i64 g.r1, .int .i64 g.r2, .int .i64 g.r3, .int .i64 g.r4, .int .i64 g.r5][j]? := by
      intro i hi
      obtain ⟨cs', hc, ht⟩ := hel i (by omega)
      rw [show Tryz.prog.cellsOf 51 = 6 by kernel_rfl] at hc
      obtain ⟨g, rfl⟩ := rd_open Tryz.underlying51 (by kernel_rfl) ht
      obtain ⟨_, _, hat⟩ := World.cells?_some hc
      refine ⟨g, fun j hj => ?_⟩
      have := hat j hj
      rwa [Deep.add_add] at this
    have : Inhabited Rd := ⟨⟨0, 0, 0, 0, 0, 0⟩⟩
    obtain ⟨f, hf⟩ := choose_lt each
    refine ⟨some a, len, cap, (List.range len).map f, rfl, ⟨by simp, by omega, fun k hk => ?_⟩, hlc, hsz⟩
    have hk' : k < len := by simpa using hk
    have hg := hf k hk'
    obtain ⟨hsp, hb⟩ := plain_of (hf 0 (by omega) 0 (by omega))
    obtain ⟨b, o, s⟩ := a
    obtain rfl := hsp
    refine ⟨b, o, rfl, hb, ?_⟩
    have e : ∀ q, (Addr.mk b o none).add q = ⟨b, o + q, none⟩ := fun q => Addr.add_lit ..
    simp only [e] at hg
    rw [List.getElem_map, List.getElem_range]
    exact ⟨by have := hg 0 (by omega); simpa using this, by have := hg 1 (by omega); simpa [Nat.add_assoc] using this, by have := hg 2 (by omega); simpa [Nat.add_assoc] using this, by have := hg 3 (by omega); simpa [Nat.add_assoc] using this, by have := hg 4 (by omega); simpa [Nat.add_assoc] using this, by have := hg 5 (by omega); simpa [Nat.add_assoc] using this⟩

theorem is_open (h : DataW.trod enc Tryz.prog w base spare held fuel 37 cs = some x) (hz : ∀ y ∈ x.1.weights Tryz.prog 37, y ≤ reachBytes) : ∃ A n c l, cs = [.slice A n c] ∧ Is w A n l ∧ n ≤ c ∧ n * 8 ≤ reachBytes ∧ ∀ y ∈ l, i64 y := by
  rcases open_slice Tryz.underlying37 h with ⟨rfl, _⟩ | ⟨a, len, cap, m, k, D, Pl, rfl, _, hlc, hcm, hm, hx, hel⟩
  · exact ⟨none, 0, 0, [], rfl, ⟨rfl, by omega, fun k hk => by simp at hk⟩, Nat.le_refl _, by omega, by simp⟩
  · have hlm : len ≤ m := by rw [hm]; split <;> omega
    have hsz : len * 8 ≤ reachBytes := by
      have := hz ((len + (m - len)) * Tryz.prog.bytesOf 3) (by rw [hx]; simp [DataW.weights, Tryz.underlying37])
      rw [show Tryz.prog.bytesOf 3 = 8 by kernel_rfl] at this
      omega
    have hrb := reachBytes_lt
    have each : ∀ i, i < len → ∃ g : Int, w.cell? (a.add i) = some (.int .i64 g) ∧ i64 g := by
      intro i hi
      obtain ⟨cs', hc, ht⟩ := hel i (by omega)
      rw [show Tryz.prog.cellsOf 3 = 1 by kernel_rfl, Nat.mul_one] at hc
      obtain ⟨g, rfl, _, e3⟩ := DataW.trod_int Tryz.underlying3 ht
      obtain ⟨_, _, hat⟩ := World.cells?_some hc
      have := hat 0 (by omega)
      exact ⟨g, by simpa [Deep.add_add] using this, i64_wf e3⟩
    obtain ⟨f, hf⟩ := choose_lt each
    refine ⟨some a, len, cap, (List.range len).map f, rfl, ⟨by simp, by omega, fun k hk => ?_⟩, hlc, hsz, ?_⟩
    · have hk' : k < len := by simpa using hk
      have hg := (hf k hk').1
      obtain ⟨hsp, hb⟩ := plain_of (hf 0 (by omega)).1
      rw [show a.add 0 = a from rfl] at hb hsp
      obtain ⟨b, o, s⟩ := a
      obtain rfl := hsp
      refine ⟨b, o, rfl, hb, ?_⟩
      rw [List.getElem_map, List.getElem_range, ← hg]
      rw [Addr.add_lit]
    · intro y hy
      obtain ⟨i, hi, rfl⟩ := List.mem_map.1 hy
      exact (hf i (List.mem_range.1 hi)).2

theorem okWide_slice1 {P : Program} {t e : TypeId} {r : Reach} {b0 : Nat} {v : Value} (ht : P.underlying t = some (.slice e)) (h : Value.okWide P w r b0 t v) : ∀ {A : Option Addr} {n c : Nat}, v.cells.toList = [.slice A n c] → v = .slice A n c := by
  intro A n c e
  simp only [Value.okWide, ht, Cell.okWide] at h
  cases v <;> simp_all [Cell.ok, Value.cells]

theorem open_rds {r : Reach} {b0 : Nat} {v : Value} {d : DataW H} {p : List MemPlace} (hv : Value.okWide Tryz.prog w r b0 103 v) (h : DataW.Trod enc Tryz.prog w base spare held 103 v d p) (hz : ∀ y ∈ d.weights Tryz.prog 103, y ≤ reachBytes) :
    ∃ A n c rs, v = .slice A n c ∧ Rs w A n rs ∧ n ≤ c ∧ n * 48 ≤ reachBytes := by
  obtain ⟨fuel, hf⟩ := h
  obtain ⟨A, n, c, rs, e, h1, h2, h3⟩ := rs_open hf hz
  exact ⟨A, n, c, rs, okWide_slice1 Tryz.underlying103 hv e, h1, h2, h3⟩
theorem open_is {r : Reach} {b0 : Nat} {v : Value} {d : DataW H} {p : List MemPlace} (hv : Value.okWide Tryz.prog w r b0 37 v) (h : DataW.Trod enc Tryz.prog w base spare held 37 v d p) (hz : ∀ y ∈ d.weights Tryz.prog 37, y ≤ reachBytes) :
    ∃ A n c l, v = .slice A n c ∧ Is w A n l ∧ n ≤ c ∧ n * 8 ≤ reachBytes ∧ ∀ y ∈ l, i64 y := by
  obtain ⟨fuel, hf⟩ := h
  obtain ⟨A, n, c, l, e, h1, h2, h3, h4⟩ := is_open hf hz
  exact ⟨A, n, c, l, okWide_slice1 Tryz.underlying37 hv e, h1, h2, h3, h4⟩
end
end Go.Proofs.YtfhcofljlkihoaaGreatDoor

namespace Go.Proofs.YtfhcofljlkihoaaGreatDoor
open Go.ChangeShapes Go.WideShapes Go.RowKit Go.Deep
set_option maxHeartbeats 400000
set_option maxRecDepth 100000
section
variable {H : Type} {enc : TypeId × Value → H} {w : World} {base : Nat} {spare : Nat → Bool} {held : Bool}
theorem open_int3 {r : Reach} {b0 : Nat} {v : Value} {d : DataW H} {p : List MemPlace} (hv : Value.okWide Tryz.prog w r b0 3 v) (h : DataW.Trod enc Tryz.prog w base spare held 3 v d p) : ∃ n, v = .int .i64 n ∧ i64 n := by
  obtain ⟨fuel, hf⟩ := h
  obtain ⟨n, e1, _, e3⟩ := DataW.trod_int Tryz.underlying3 hf
  refine ⟨n, ?_, i64_wf e3⟩
  simp only [Value.okWide, Tryz.underlying3, Cell.okWide] at hv
  cases v <;> simp_all [Cell.ok, Value.cells]

end
end Go.Proofs.YtfhcofljlkihoaaGreatDoor

