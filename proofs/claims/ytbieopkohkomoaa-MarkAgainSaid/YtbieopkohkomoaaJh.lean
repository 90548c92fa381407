/- Contracts of functions of the program and of the reference, and plain facts: a part of a proof. Own text. -/
import Derived.Test.YtbieopkohkomoaaJg
set_option linter.unusedVariables false
set_option linter.unusedSimpArgs false
set_option linter.unusedSectionVars false
namespace Go.Proofs.Ytbieopkohkomoaa
open Go Go.RowKit
set_option maxHeartbeats 400000
set_option maxRecDepth 100000

set_option maxHeartbeats 2000000 in
theorem sane_any (w : World) : Calls Try.prog 22 #[] w fun e w' => e = .returned (.bool true) ∧ Below w.heap.size w w' := by
  go_enter Try.func22, Try.ntmps22
  go_wp2_with (go_at_call 74; refine (book_any _).mono ?_; rintro e x1 ⟨A, rfl, hG, hb1⟩; have HG1 := Lib.hid hG; have HB1 := Lib.hid hb1; clear hG hb1)
  generalize hW : (World.alloc _ _) = W
  have HW : Hid (Below w.heap.size w W) := Lib.hid (by subst hW; exact up HB1.out (up (up_alloc _ _) (up_alloc _ _)))
  have HGW : Hid (Gs W A 3 bookG) := Lib.hid (HG1.out.keep (by subst hW; exact up (up_alloc _ _) (up_alloc _ _)))
  have t0_W : x1.heap.size < W.heap.size := by subst hW; simp; omega
  have t1_W : x1.heap.size + 1 < W.heap.size := by subst hW; simp
  have cmW : ∀ j, W.cell? ⟨x1.heap.size, j, none⟩ = [Value.int .i64 1, .int .i64 3, .int .i64 4, .int .i64 24, .int .i64 24, .int .i64 0, .slice A 3 3][j]? := by subst hW; intro j; simp [go_sem]
  have crW : ∀ j, W.cell? ⟨x1.heap.size + 1, j, none⟩ = [Value.int .i64 31, .int .i64 1, .int .i64 1, .int .i64 1, .int .i64 1, .int .i64 31][j]? := by subst hW; intro j; simp [go_sem]
  clear hW
  go_wp2_with (first
    | (go_at_call 32; refine (owners_any 1 3 4 24 24 0 A 3 3 bookG ⟨31, 1, 1, 1, 1, 31⟩ W HGW.out (Nat.le_refl _)).mono ?_; rintro e x2 ⟨v2, rfl, ho2, hb2⟩; rw [f1]; rw [g2, f2] at ho2; obtain ⟨A2, c2, rfl, hc2, hi2⟩ := Is.of_own ho2; have HI2 := Lib.hid hi2; have HBx2 := Lib.hid hb2; clear ho2 hi2 hb2; have t0_x2 : x1.heap.size < x2.heap.size := (by have := HBx2.out.size; omega); have t1_x2 : x1.heap.size + 1 < x2.heap.size := (by have := HBx2.out.size; omega); have cmx2 : ∀ j, x2.cell? ⟨x1.heap.size, j, none⟩ = [Value.int .i64 1, .int .i64 3, .int .i64 4, .int .i64 24, .int .i64 24, .int .i64 0, .slice A 3 3][j]? := fun j => (HBx2.out.cell (p := ⟨x1.heap.size, j, none⟩) t0_W).trans (cmW j); have crx2 : ∀ j, x2.cell? ⟨x1.heap.size + 1, j, none⟩ = [Value.int .i64 31, .int .i64 1, .int .i64 1, .int .i64 1, .int .i64 1, .int .i64 31][j]? := fun j => (HBx2.out.cell (p := ⟨x1.heap.size + 1, j, none⟩) t1_W).trans (crW j); have HGx2 := Lib.hid (HGW.out.keep (HBx2.out)))
    | (go_at_call 48; refine (look_any 1 3 4 24 24 0 A 3 3 bookG ⟨31, 1, 1, 1, 1, 31⟩ _ HGx2.out (Nat.le_refl _)).mono ?_; rintro e x3 ⟨A3, k3, c3, rfl, hc3, hi3, hb3⟩; rw [f1]; rw [f3] at hi3; obtain rfl : k3 = 1 := hi3.len; have HI3 := Lib.hid hi3; have HBx3 := Lib.hid hb3; clear hi3 hb3; have t0_x3 : x1.heap.size < x3.heap.size := (by have := HBx3.out.size; omega); have t1_x3 : x1.heap.size + 1 < x3.heap.size := (by have := HBx3.out.size; omega); have cmx3 : ∀ j, x3.cell? ⟨x1.heap.size, j, none⟩ = [Value.int .i64 1, .int .i64 3, .int .i64 4, .int .i64 24, .int .i64 24, .int .i64 0, .slice A 3 3][j]? := fun j => (HBx3.out.cell (p := ⟨x1.heap.size, j, none⟩) t0_x2).trans (cmx2 j); have crx3 : ∀ j, x3.cell? ⟨x1.heap.size + 1, j, none⟩ = [Value.int .i64 31, .int .i64 1, .int .i64 1, .int .i64 1, .int .i64 1, .int .i64 31][j]? := fun j => (HBx3.out.cell (p := ⟨x1.heap.size + 1, j, none⟩) t1_x2).trans (crx2 j); have HGx3 := Lib.hid (HGx2.out.keep (HBx3.out)))
    | (go_at_call 50; refine (looked_any 1 3 4 24 24 0 A 3 3 bookG ⟨31, 1, 1, 1, 1, 31⟩ ⟨16, 1, 1, 1, 1, 1⟩ (some ⟨x3.heap.size, 0, none⟩) 1 1 [0] _ (HGx3.out.keep (up_alloc _ _)) (Nat.le_refl _) (is1 _ _ _ _ rfl)).mono ?_; rintro e x4 ⟨v4, rfl, ho4, hb4⟩; rw [f4]; rw [g5', f5] at ho4; obtain ⟨A4, c4, rfl, hc4, hi4⟩ := Is.of_own ho4; have HI4 := Lib.hid hi4; have HBx4 := Lib.hid (up (up_alloc _ _) hb4); clear ho4 hi4 hb4; have t0_x4 : x1.heap.size < x4.heap.size := (by have := HBx4.out.size; omega); have t1_x4 : x1.heap.size + 1 < x4.heap.size := (by have := HBx4.out.size; omega); have cmx4 : ∀ j, x4.cell? ⟨x1.heap.size, j, none⟩ = [Value.int .i64 1, .int .i64 3, .int .i64 4, .int .i64 24, .int .i64 24, .int .i64 0, .slice A 3 3][j]? := fun j => (HBx4.out.cell (p := ⟨x1.heap.size, j, none⟩) t0_x3).trans (cmx3 j); have crx4 : ∀ j, x4.cell? ⟨x1.heap.size + 1, j, none⟩ = [Value.int .i64 31, .int .i64 1, .int .i64 1, .int .i64 1, .int .i64 1, .int .i64 31][j]? := fun j => (HBx4.out.cell (p := ⟨x1.heap.size + 1, j, none⟩) t1_x3).trans (crx3 j); have HGx4 := Lib.hid (HGx3.out.keep (HBx4.out)))
    | (go_at_call 39; refine (next_any 1 3 4 24 24 0 A 3 3 bookG _ HGx4.out (Nat.le_refl _)).mono ?_; rintro e x5 ⟨rfl, hb5⟩; rw [f6]; dsimp only [encR]; have HBx5 := Lib.hid hb5; clear hb5; have t0_x5 : x1.heap.size < x5.heap.size := (by have := HBx5.out.size; omega); have t1_x5 : x1.heap.size + 1 < x5.heap.size := (by have := HBx5.out.size; omega); have cmx5 : ∀ j, x5.cell? ⟨x1.heap.size, j, none⟩ = [Value.int .i64 1, .int .i64 3, .int .i64 4, .int .i64 24, .int .i64 24, .int .i64 0, .slice A 3 3][j]? := fun j => (HBx5.out.cell (p := ⟨x1.heap.size, j, none⟩) t0_x4).trans (cmx4 j); have crx5 : ∀ j, x5.cell? ⟨x1.heap.size + 1, j, none⟩ = [Value.int .i64 31, .int .i64 1, .int .i64 1, .int .i64 1, .int .i64 1, .int .i64 31][j]? := fun j => (HBx5.out.cell (p := ⟨x1.heap.size + 1, j, none⟩) t1_x4).trans (crx4 j); have HGx5 := Lib.hid (HGx4.out.keep (HBx5.out))))
  clear cmW crW cmx2 crx2 cmx3 crx3 cmx4 crx4 crx5
  go_wp2_with (go_at_call 25; refine (distance_any 1 3 4 24 24 2 1 0 0 0 0 3 2 0 0 0 0 _).mono ?_; rintro e x6 ⟨rfl, hb6⟩; rw [d1, d2]; have HBx6 := Lib.hid (up (up_alloc _ _) hb6); have t0_x6 : x1.heap.size < x6.heap.size := (by have := HBx6.out.size; omega); have cmx6 : ∀ j, x6.cell? ⟨x1.heap.size, j, none⟩ = [Value.int .i64 1, .int .i64 3, .int .i64 4, .int .i64 24, .int .i64 24, .int .i64 0, .slice A 3 3][j]? := fun j => (HBx6.out.cell (p := ⟨x1.heap.size, j, none⟩) t0_x5).trans (cmx5 j); have m_x6 : x5.heap.size < x6.heap.size := (by have := hb6.size; simp only [World.size_alloc] at this; omega); have mmx6 : ∀ j, x6.cell? ⟨x5.heap.size, j, none⟩ = [Value.int .i64 0, .int .i64 0, .int .i64 0, .int .i64 0, .int .i64 0, .int .i64 2][j]? := (fun j => (hb6.cell (p := ⟨x5.heap.size, j, none⟩) (by simp)).trans (by simp [go_sem])); clear hb6)
  go_wp2_with (go_at_call 54; refine (worn_any 1 3 4 24 24 3 1 0 0 0 0 (some ⟨x6.heap.size, 0, none⟩) 2 2 [1, 0] _ (is2 _ _ _ _ _ rfl)).mono ?_; rintro e x7 ⟨rfl, hb7⟩; rw [n0, n1, n2, n3, n4, n5, f7]; have HBx7 := Lib.hid (up (up_alloc _ _) hb7); clear hb7; have m_x7 : x5.heap.size < x7.heap.size := (by have := HBx7.out.size; omega); have mmx7 : ∀ j, x7.cell? ⟨x5.heap.size, j, none⟩ = [Value.int .i64 0, .int .i64 0, .int .i64 0, .int .i64 0, .int .i64 0, .int .i64 2][j]? := fun j => (HBx7.out.cell (p := ⟨x5.heap.size, j, none⟩) m_x6).trans (mmx6 j))
  clear cmx5 cmx6
  go_wp2_with fail
  refine (same_yes A2 (some ⟨x7.heap.size + 1, 0, none⟩) 3 c2 3 [1, 2, 3] _ (HI2.out.keep (up HBx3.out (up HBx4.out (up HBx5.out (up HBx6.out (up HBx7.out (up (up_alloc _ _) (up_alloc _ _)))))))) (is3 _ _ _ _ _ (x7.heap.size + 1) (by simp))).mono ?_
  rintro e x8 ⟨rfl, hb8⟩
  have HBx8 := Lib.hid (up (up_alloc _ _) (up (up_alloc _ _) hb8))
  have m_x8 : x5.heap.size < x8.heap.size := (by have := HBx8.out.size; omega)
  have mmx8 : ∀ j, x8.cell? ⟨x5.heap.size, j, none⟩ = [Value.int .i64 0, .int .i64 0, .int .i64 0, .int .i64 0, .int .i64 0, .int .i64 2][j]? := fun j => (HBx8.out.cell (p := ⟨x5.heap.size, j, none⟩) m_x7).trans (mmx7 j)
  have r_x8 : x7.heap.size < x8.heap.size := (by have := hb8.size; simp only [World.size_alloc] at this; omega)
  have rrx8 : ∀ j, x8.cell? ⟨x7.heap.size, j, none⟩ = [Value.int .i64 16, .int .i64 1, .int .i64 1, .int .i64 1, .int .i64 1, .int .i64 1][j]? := (fun j => (hb8.cell (p := ⟨x7.heap.size, j, none⟩) (show x7.heap.size < _ by simp only [World.size_alloc]; omega)).trans ((Below.cell (up_alloc (x7.alloc _) _) (p := ⟨x7.heap.size, j, none⟩) (show x7.heap.size < _ by simp)).trans (by simp [go_sem])))
  clear hb8
  go_wp2_with fail
  refine (same_yes A3 (some ⟨x8.heap.size, 0, none⟩) 1 c3 1 [0] _ (HI3.out.keep (up HBx4.out (up HBx5.out (up HBx6.out (up HBx7.out (up HBx8.out (up_alloc _ _))))))) (is1 _ _ _ _ rfl)).mono ?_
  rintro e x9 ⟨rfl, hb9⟩
  have HBx9 := Lib.hid (up (up_alloc _ _) hb9)
  clear hb9
  have m_x9 : x5.heap.size < x9.heap.size := (by have := HBx9.out.size; omega)
  have mmx9 : ∀ j, x9.cell? ⟨x5.heap.size, j, none⟩ = [Value.int .i64 0, .int .i64 0, .int .i64 0, .int .i64 0, .int .i64 0, .int .i64 2][j]? := fun j => (HBx9.out.cell (p := ⟨x5.heap.size, j, none⟩) m_x8).trans (mmx8 j)
  have r_x9 : x7.heap.size < x9.heap.size := (by have := HBx9.out.size; omega)
  have rrx9 : ∀ j, x9.cell? ⟨x7.heap.size, j, none⟩ = [Value.int .i64 16, .int .i64 1, .int .i64 1, .int .i64 1, .int .i64 1, .int .i64 1][j]? := fun j => (HBx9.out.cell (p := ⟨x7.heap.size, j, none⟩) r_x8).trans (rrx8 j)
  go_wp2_with fail
  refine (same_yes A4 (some ⟨x9.heap.size, 0, none⟩) 1 c4 1 [3] _ (HI4.out.keep (up HBx5.out (up HBx6.out (up HBx7.out (up HBx8.out (up HBx9.out (up_alloc _ _))))))) (is1 _ _ _ _ rfl)).mono ?_
  rintro e x10 ⟨rfl, hb10⟩
  have HBx10 := Lib.hid (up (up_alloc _ _) hb10)
  clear hb10
  have m_x10 : x5.heap.size < x10.heap.size := (by have := HBx10.out.size; omega)
  have mmx10 : ∀ j, x10.cell? ⟨x5.heap.size, j, none⟩ = [Value.int .i64 0, .int .i64 0, .int .i64 0, .int .i64 0, .int .i64 0, .int .i64 2][j]? := fun j => (HBx10.out.cell (p := ⟨x5.heap.size, j, none⟩) m_x9).trans (mmx9 j)
  have r_x10 : x7.heap.size < x10.heap.size := (by have := HBx10.out.size; omega)
  have rrx10 : ∀ j, x10.cell? ⟨x7.heap.size, j, none⟩ = [Value.int .i64 16, .int .i64 1, .int .i64 1, .int .i64 1, .int .i64 1, .int .i64 1][j]? := fun j => (HBx10.out.cell (p := ⟨x7.heap.size, j, none⟩) r_x9).trans (rrx9 j)
  go_wp2_with fail
  go_ret
  exact ⟨rfl, up HW.out (up HBx2.out (up HBx3.out (up HBx4.out (up HBx5.out (up HBx6.out (up HBx7.out (up HBx8.out (up HBx9.out HBx10.out))))))))⟩
end Go.Proofs.Ytbieopkohkomoaa

namespace Go.Proofs.Ytbieopkohkomoaa
open Go.ChangeShapes Go.WideShapes Go.RowKit Go.Deep
set_option maxHeartbeats 400000
set_option maxRecDepth 100000

theorem trodAll_length {H : Type} {enc : TypeId × Value → H} {P : Program} {w : World} {base : Nat} {spare : Nat → Bool} {held : Bool} : ∀ {ts : List TypeId} {vs : List Value} {ds : List (DataW H)} {p : List MemPlace},
    DataW.TrodAll enc P w base spare held ts vs ds p → ds.length = ts.length
  | [], _, _, _, h => by
    obtain ⟨_, rfl, _⟩ := trodAll_nil h
    rfl
  | t :: ts, _, _, _, h => by
    obtain ⟨v, vs1, d, ds1, a, b, rfl, rfl, rfl, h1, h2⟩ := trodAll_cons h
    simp [trodAll_length h2]

theorem ownKnob_none : ownKnob Try.prog.godebug = none := by kernel_rfl
theorem laidOut : laidOutB Try.prog = true := by kernel_rfl

theorem law_lift {H : Type} {enc : TypeId × Value → H} {os : Os} {f : FuncId} {fn : Func} {s : ChangeSpec} {conds : List PathCond} (started : os.Started) (noInit : Try.checked.prog.inits.idxOf? f = none) (hfn : Try.checked.prog.funcs[f]? = some fn)
    (witness : ∃ (w : World) (tape : Tape) (i : Input), w.os = os ∧ (w.forCall tape i).Shaped Try.checked.prog ∧ i.vars = [] ∧ Input.okWide Try.checked.prog (w.forCall tape i) .any w.heap.size f i ∧
      s.pre6 enc Try.checked.prog fn conds false (w.forCall tape i).memory i.args ∧ Assume.holds {} Try.checked.prog (lone (Frame.enter Try.checked.prog f i.args .normal) [] (w.forCall tape i)))
    (hv : s.vars = []) (hf : fn.resultTypes = #[4]) (hs : ∀ ds : List (DataW H), ds.length = fn.params.toList.length → s.fn H (ds ++ []) = { results := [.lit (.bool true)], args := ds })
    (hr : ∀ t ∈ fn.params.toList, Try.prog.readableRec t = true ∧ t < Try.prog.types.size)
    (walk : ∀ (W : World) (base : Nat) (args : Array Value) (ds : List (DataW H)) (p : List MemPlace), (∀ (j : Nat) t v, fn.params[j]? = some t → args[j]? = some v → Value.okWide Try.prog W .any base t v) →
      DataW.TrodAll enc Try.prog W 0 (fun _ => true) true fn.params.toList args.toList ds p → (∀ (j : Nat) t d, fn.params[j]? = some t → ds[j]? = some d → ∀ y ∈ d.weights Try.prog t, y ≤ reachBytes) →
      Calls Try.prog f args W fun e w' => e = .returned (.bool true) ∧ Below W.heap.size W w') :
    ReturnsInHanded {} Try.checked os f .any (s.pre6 enc Try.checked.prog fn conds false) (s.post enc Try.checked.prog fn false true false false) := by
  refine returnsInHanded_of_change_sized (C := Try.checked) ownKnob_none started noInit hfn witness ?_
  intro W base args ds gs before hval0 hW _ hsz _
  have hval : ∀ (j : Nat) t v, fn.params[j]? = some t → args[j]? = some v → Value.okWide Try.prog W .any base t v := hval0
  have hW1 : DataW.Whole enc Try.prog fn.params.toList s.vars false W args.toList ds gs before := hW
  have hW2 := hW1
  obtain ⟨p, q, hA, hV, rfl, _, _⟩ := hW1
  rw [hv] at hV
  obtain ⟨rfl, rfl⟩ := trodVars_none hV
  have hz : ∀ (j : Nat) t d, fn.params[j]? = some t → ds[j]? = some d → ∀ y ∈ d.weights Try.prog t, y ≤ reachBytes := by
    intro j t d ht hd y hy
    have ht' : (fn.params.toList ++ s.plain.varTypes Try.checked.prog)[j]? = some t := by
      have h1 : fn.params.toList[j]? = some t := by simpa using ht
      rw [List.getElem?_append_left (List.getElem?_eq_some_iff.1 h1).1, h1]
    have := List.all_eq_true.1 hsz _ (DataW.weights_mem_each ht' (by rw [List.append_nil]; exact hd) y hy)
    simpa using this
  refine (walk W base args ds p hval hA hz).mono fun e W' ⟨he, hb⟩ => ?_
  subst he
  exact ⟨_, rfl, law_post laidOut Try.underlying4 hf hv (hs ds (trodAll_length hA)) hr hW2 hb⟩
end Go.Proofs.Ytbieopkohkomoaa

namespace Go.Proofs.Ytbieopkohkomoaa
open Go.ChangeShapes Go.WideShapes Go.RowKit Go.Deep
set_option maxHeartbeats 400000
set_option maxRecDepth 100000

section
variable {H : Type} {enc : TypeId × Value → H} {w : World} {base : Nat} {spare : Nat → Bool} {held : Bool} {fuel : Nat} {cs : List Value} {x : DataW H × List MemPlace}

/-- A place of which a cell is known. -/
theorem plain_of {a : Addr} {v : Value} (h0 : w.cell? a = some v) : a.spot = none ∧ a.block < w.heap.size := by
  unfold World.cell? at h0
  split at h0
  · rename_i hh
    refine ⟨?_, (Array.getElem?_eq_some_iff.1 hh).1⟩
    cases hs : a.spot with
    | none => rfl
    | some y => rw [hs] at h0; simp at h0
  · simp at h0

theorem rs_open (h : DataW.trod enc Try.prog w base spare held fuel 53 cs = some x) (hz : ∀ y ∈ x.1.weights Try.prog 53, y ≤ reachBytes) : ∃ A n c rs, cs = [.slice A n c] ∧ Rs w A n rs ∧ n ≤ c ∧ n * 48 ≤ reachBytes := by
  rcases open_slice Try.underlying53 h with ⟨rfl, _⟩ | ⟨a, len, cap, m, k, D, Pl, rfl, _, hlc, hcm, hm, hx, hel⟩
  · exact ⟨none, 0, 0, [], rfl, ⟨rfl, by omega, fun k hk => by simp at hk⟩, Nat.le_refl _, by omega⟩
  · have hlm : len ≤ m := by rw [hm]; split <;> omega
    have hsz : len * 48 ≤ reachBytes := by
      have := hz ((len + (m - len)) * Try.prog.bytesOf 31) (by rw [hx]; simp [DataW.weights, Try.underlying53])
      rw [show Try.prog.bytesOf 31 = 48 by kernel_rfl] at this
      omega
    have hrb := reachBytes_lt
    have each : ∀ i, i < len → ∃ g : Rd, ∀ j, j < 6 → w.cell? (a.add (i * 6 + j)) = [Value.int .i64 g.r0, .int .i64 g.r1, .int .i64 g.r2, .int .i64 g.r3, .int .i64 g.r4, .int .i64 g.r5][j]? := by
      intro i hi
      obtain ⟨cs', hc, ht⟩ := hel i (by omega)
      rw [show Try.prog.cellsOf 31 = 6 by kernel_rfl] at hc
      obtain ⟨g, rfl⟩ := rd_open Try.underlying31 (by kernel_rfl) ht
      obtain ⟨_, _, hat⟩ := World.cells?_some hc
      refine ⟨g, fun j hj => ?_⟩
      have := hat j hj
      rwa [Deep.add_add] at this
    have : Inhabited Rd := ⟨⟨0, 0, 0, 0, 0, 0⟩⟩
    obtain ⟨f, hf⟩ := choose_lt each
    refine ⟨some a, len, cap, (List.range len).map f, rfl, ⟨by simp, by omega, fun k hk => ?_⟩, hlc, hsz⟩
    have hk' : k < len := by simpa using hk
    have hg := hf k hk'
    obtain ⟨hsp, hb⟩ := plain_of (hf 0 (by omega) 0 (by omega))
    obtain ⟨b, o, s⟩ := a
    obtain rfl := hsp
    refine ⟨b, o, rfl, hb, ?_⟩
    have e : ∀ q, (Addr.mk b o none).add q = ⟨b, o + q, none⟩ := fun q => Addr.add_lit ..
    simp only [e] at hg
    rw [List.getElem_map, List.getElem_range]
    exact ⟨by have := hg 0 (by omega); simpa using this, by have := hg 1 (by omega); simpa [Nat.add_assoc] using this, by have := hg 2 (by omega); simpa [Nat.add_assoc] using this, by have := hg 3 (by omega); simpa [Nat.add_assoc] using this, by have := hg 4 (by omega); simpa [Nat.add_assoc] using this, by have := hg 5 (by omega); simpa [Nat.add_assoc] using this⟩

theorem is_open (h : DataW.trod enc Try.prog w base spare held fuel 54 cs = some x) (hz : ∀ y ∈ x.1.weights Try.prog 54, y ≤ reachBytes) : ∃ A n c l, cs = [.slice A n c] ∧ Is w A n l ∧ n ≤ c ∧ n * 8 ≤ reachBytes ∧ ∀ y ∈ l, i64 y := by
  rcases open_slice Try.underlying54 h with ⟨rfl, _⟩ | ⟨a, len, cap, m, k, D, Pl, rfl, _, hlc, hcm, hm, hx, hel⟩
  · exact ⟨none, 0, 0, [], rfl, ⟨rfl, by omega, fun k hk => by simp at hk⟩, Nat.le_refl _, by omega, by simp⟩
  · have hlm : len ≤ m := by rw [hm]; split <;> omega
    have hsz : len * 8 ≤ reachBytes := by
      have := hz ((len + (m - len)) * Try.prog.bytesOf 3) (by rw [hx]; simp [DataW.weights, Try.underlying54])
      rw [show Try.prog.bytesOf 3 = 8 by kernel_rfl] at this
      omega
    have hrb := reachBytes_lt
    have each : ∀ i, i < len → ∃ g : Int, w.cell? (a.add i) = some (.int .i64 g) ∧ i64 g := by
      intro i hi
      obtain ⟨cs', hc, ht⟩ := hel i (by omega)
      rw [show Try.prog.cellsOf 3 = 1 by kernel_rfl, Nat.mul_one] at hc
      obtain ⟨g, rfl, _, e3⟩ := DataW.trod_int Try.underlying3 ht
      obtain ⟨_, _, hat⟩ := World.cells?_some hc
      have := hat 0 (by omega)
      exact ⟨g, by simpa [Deep.add_add] using this, i64_wf e3⟩
    obtain ⟨f, hf⟩ := choose_lt each
    refine ⟨some a, len, cap, (List.range len).map f, rfl, ⟨by simp, by omega, fun k hk => ?_⟩, hlc, hsz, ?_⟩
    · have hk' : k < len := by simpa using hk
      have hg := (hf k hk').1
      obtain ⟨hsp, hb⟩ := plain_of (hf 0 (by omega)).1
      rw [show a.add 0 = a from rfl] at hb hsp
      obtain ⟨b, o, s⟩ := a
      obtain rfl := hsp
      refine ⟨b, o, rfl, hb, ?_⟩
      rw [List.getElem_map, List.getElem_range, ← hg]
      rw [Addr.add_lit]
    · intro y hy
      obtain ⟨i, hi, rfl⟩ := List.mem_map.1 hy
      exact (hf i (List.mem_range.1 hi)).2

theorem okWide_slice1 {P : Program} {t e : TypeId} {r : Reach} {b0 : Nat} {v : Value} (ht : P.underlying t = some (.slice e)) (h : Value.okWide P w r b0 t v) : ∀ {A : Option Addr} {n c : Nat}, v.cells.toList = [.slice A n c] → v = .slice A n c := by
  intro A n c e
  simp only [Value.okWide, ht, Cell.okWide] at h
  cases v <;> simp_all [Cell.ok, Value.cells]

theorem open_rds {r : Reach} {b0 : Nat} {v : Value} {d : DataW H} {p : List MemPlace} (hv : Value.okWide Try.prog w r b0 53 v) (h : DataW.Trod enc Try.prog w base spare held 53 v d p) (hz : ∀ y ∈ d.weights Try.prog 53, y ≤ reachBytes) :
    ∃ A n c rs, v = .slice A n c ∧ Rs w A n rs ∧ n ≤ c ∧ n * 48 ≤ reachBytes := by
  obtain ⟨fuel, hf⟩ := h
  obtain ⟨A, n, c, rs, e, h1, h2, h3⟩ := rs_open hf hz
  exact ⟨A, n, c, rs, okWide_slice1 Try.underlying53 hv e, h1, h2, h3⟩
theorem open_is {r : Reach} {b0 : Nat} {v : Value} {d : DataW H} {p : List MemPlace} (hv : Value.okWide Try.prog w r b0 54 v) (h : DataW.Trod enc Try.prog w base spare held 54 v d p) (hz : ∀ y ∈ d.weights Try.prog 54, y ≤ reachBytes) :
    ∃ A n c l, v = .slice A n c ∧ Is w A n l ∧ n ≤ c ∧ n * 8 ≤ reachBytes ∧ ∀ y ∈ l, i64 y := by
  obtain ⟨fuel, hf⟩ := h
  obtain ⟨A, n, c, l, e, h1, h2, h3, h4⟩ := is_open hf hz
  exact ⟨A, n, c, l, okWide_slice1 Try.underlying54 hv e, h1, h2, h3, h4⟩
end
end Go.Proofs.Ytbieopkohkomoaa

namespace Go.Proofs.Ytbieopkohkomoaa
open Go.ChangeShapes Go.WideShapes Go.RowKit Go.Deep
set_option maxHeartbeats 400000
set_option maxRecDepth 100000
section
variable {H : Type} {enc : TypeId × Value → H} {w : World} {base : Nat} {spare : Nat → Bool} {held : Bool}
theorem open_pair {r : Reach} {b0 : Nat} {v : Value} {d : DataW H} {p : List MemPlace} (hv : Value.okWide Try.prog w r b0 42 v) (h : DataW.Trod enc Try.prog w base spare held 42 v d p) :
    ∃ x y : Rd, v = .agg #[.int .i64 x.r0, .int .i64 x.r1, .int .i64 x.r2, .int .i64 x.r3, .int .i64 x.r4, .int .i64 x.r5, .int .i64 y.r0, .int .i64 y.r1, .int .i64 y.r2, .int .i64 y.r3, .int .i64 y.r4, .int .i64 y.r5] := by
  obtain ⟨cs, rfl, hsz⟩ := okWide_struct Try.underlying42 hv
  rw [show Try.prog.cellsOf 42 = 12 by kernel_rfl] at hsz
  obtain ⟨fuel, hf⟩ := h
  obtain ⟨y0, y1, n, _, hl, h0, h1⟩ := trod_struct2 Try.underlying42 hf
  dsimp only at h0 h1
  rw [show Try.prog.cellsOf 28 = 6 by kernel_rfl] at h0 h1
  obtain ⟨x, e0⟩ := rd_open Try.underlying28 (by kernel_rfl) h0
  obtain ⟨y, e1⟩ := rd_open Try.underlying28 (by kernel_rfl) h1
  refine ⟨x, y, ?_⟩
  obtain ⟨cl⟩ := cs
  match cl, hsz with
  | [c0, c1, c2, c3, c4, c5, c6, c7, c8, c9, c10, c11], _ =>
    simp [Value.cells] at e0 e1
    obtain ⟨rfl, rfl, rfl, rfl, rfl, rfl⟩ := e0
    obtain ⟨rfl, rfl, rfl, rfl, rfl, rfl⟩ := e1
    rfl

/-- Two readings and places that came in. -/
theorem open_sights {r : Reach} {b0 : Nat} {v : Value} {d : DataW H} {p : List MemPlace} (hv : Value.okWide Try.prog w r b0 68 v) (h : DataW.Trod enc Try.prog w base spare held 68 v d p) (hz : ∀ y ∈ d.weights Try.prog 68, y ≤ reachBytes) :
    ∃ (x y : Rd) (A : Option Addr) (n c : Nat) (l : List Int), v = .agg #[.int .i64 x.r0, .int .i64 x.r1, .int .i64 x.r2, .int .i64 x.r3, .int .i64 x.r4, .int .i64 x.r5, .int .i64 y.r0, .int .i64 y.r1, .int .i64 y.r2, .int .i64 y.r3, .int .i64 y.r4, .int .i64 y.r5, .slice A n c] ∧ Is w A n l ∧ n ≤ c ∧ n * 8 ≤ reachBytes ∧ ∀ z ∈ l, i64 z := by
  obtain ⟨cs, rfl, hsz⟩ := okWide_struct Try.underlying68 hv
  rw [show Try.prog.cellsOf 68 = 13 by kernel_rfl] at hsz
  obtain ⟨fuel, hf⟩ := h
  obtain ⟨y0, y1, y2, n, hd, hl, h0, h1, h2⟩ := trod_struct3 Try.underlying68 hf
  have hz2 : ∀ y ∈ y2.1.weights Try.prog 54, y ≤ reachBytes := fun y hy => hz y (by
    have : d = .agg [y0.1, y1.1, y2.1] := (Prod.ext_iff.1 hd).1
    rw [this]; simp [DataW.weights, DataW.weightsEach, Try.underlying68, hy])
  dsimp only at h0 h1 h2
  rw [show Try.prog.cellsOf 31 = 6 by kernel_rfl] at h0 h1
  rw [show Try.prog.cellsOf 54 = 1 by kernel_rfl] at h2
  obtain ⟨x, e0⟩ := rd_open Try.underlying31 (by kernel_rfl) h0
  obtain ⟨y, e1⟩ := rd_open Try.underlying31 (by kernel_rfl) h1
  obtain ⟨A, m, c, l, e2, hi, hmc, hsm, hb⟩ := is_open h2 hz2
  refine ⟨x, y, A, m, c, l, ?_, hi, hmc, hsm, hb⟩
  obtain ⟨cl⟩ := cs
  match cl, hsz with
  | [c0, c1, c2, c3, c4, c5, c6, c7, c8, c9, c10, c11, c12], _ =>
    simp [Value.cells] at e0 e1 e2
    obtain ⟨rfl, rfl, rfl, rfl, rfl, rfl⟩ := e0
    obtain ⟨rfl, rfl, rfl, rfl, rfl, rfl⟩ := e1
    subst e2
    rfl

theorem open_int3 {r : Reach} {b0 : Nat} {v : Value} {d : DataW H} {p : List MemPlace} (hv : Value.okWide Try.prog w r b0 3 v) (h : DataW.Trod enc Try.prog w base spare held 3 v d p) : ∃ n, v = .int .i64 n ∧ i64 n := by
  obtain ⟨fuel, hf⟩ := h
  obtain ⟨n, e1, _, e3⟩ := DataW.trod_int Try.underlying3 hf
  refine ⟨n, ?_, i64_wf e3⟩
  simp only [Value.okWide, Try.underlying3, Cell.okWide] at hv
  cases v <;> simp_all [Cell.ok, Value.cells]

/-- Two numbers that came in. -/
theorem open_two {r : Reach} {b0 : Nat} {v : Value} {d : DataW H} {p : List MemPlace} (hv : Value.okWide Try.prog w r b0 74 v) (h : DataW.Trod enc Try.prog w base spare held 74 v d p) : ∃ x y, v = .agg #[.int .i64 x, .int .i64 y] ∧ i64 x ∧ i64 y := by
  obtain ⟨cs, rfl, hsz⟩ := okWide_arr Try.underlying74 hv
  obtain ⟨fuel, hf⟩ := h
  obtain ⟨l, hln, e2, hb⟩ := nums_array Try.underlying74 Try.underlying3 (by kernel_rfl) (by kernel_rfl) hf
  obtain ⟨cl⟩ := cs
  match l, hln with
  | [a, b], _ =>
    simp [Value.cells, ints] at e2
    exact ⟨a, b, by rw [e2], hb a (by simp), hb b (by simp)⟩
end
end Go.Proofs.Ytbieopkohkomoaa

namespace Go.Proofs.Ytbieopkohkomoaa
open Go Go.RowKit
set_option maxHeartbeats 400000
set_option maxRecDepth 100000


theorem eql_self5 (t : TypeId) (h : Try.prog.underlying t = some (.array 5 3)) (a0 a1 a2 a3 a4 : Int) (w : World) : (Op.equalIn 10000 t (.agg #[.int .i64 a0, .int .i64 a1, .int .i64 a2, .int .i64 a3, .int .i64 a4]) (.agg #[.int .i64 a0, .int .i64 a1, .int .i64 a2, .int .i64 a3, .int .i64 a4])).run Try.prog w = .ok true w := by
  have hs : ∀ w, (sizeOf 3).run Try.prog w = .ok 1 w := fun w => by kernel_rfl
  have e : ∀ x y, (Op.equalIn 9999 3 (.int .i64 x) (.int .i64 y)).run Try.prog w = .ok (x == y) w := fun x y => eql_int3 9998 x y w
  rw [show (10000 : Nat) = 9999 + 1 from rfl]
  unfold Op.equalIn
  simp only [Sem.run_bind, run_underlying h, Result.andThen_ok, hs]
  simp [Std.Legacy.Range.forIn_eq_forIn_range', Std.Legacy.Range.size, List.range'_succ, part3, e]
@[go_sem] theorem eql23 (a0 a1 a2 a3 a4 : Int) (w : World) : (Op.equalIn 10000 23 (.agg #[.int .i64 a0, .int .i64 a1, .int .i64 a2, .int .i64 a3, .int .i64 a4]) (.agg #[.int .i64 a0, .int .i64 a1, .int .i64 a2, .int .i64 a3, .int .i64 a4])).run Try.prog w = .ok true w := eql_self5 23 (by kernel_rfl) _ _ _ _ _ w
theorem eql_self6 (d : Nat) (t : TypeId) (h : Try.prog.underlying t = some (.array 6 3)) (a0 a1 a2 a3 a4 a5 : Int) (w : World) : (Op.equalIn (d + 2) t (.agg #[.int .i64 a0, .int .i64 a1, .int .i64 a2, .int .i64 a3, .int .i64 a4, .int .i64 a5]) (.agg #[.int .i64 a0, .int .i64 a1, .int .i64 a2, .int .i64 a3, .int .i64 a4, .int .i64 a5])).run Try.prog w = .ok true w := by
  have hs : ∀ w, (sizeOf 3).run Try.prog w = .ok 1 w := fun w => by kernel_rfl
  have e : ∀ x y, (Op.equalIn (d + 1) 3 (.int .i64 x) (.int .i64 y)).run Try.prog w = .ok (x == y) w := fun x y => eql_int3 d x y w
  unfold Op.equalIn
  simp only [Sem.run_bind, run_underlying h, Result.andThen_ok, hs]
  simp [Std.Legacy.Range.forIn_eq_forIn_range', Std.Legacy.Range.size, List.range'_succ, part3, e]
@[go_sem] theorem eql28in (a0 a1 a2 a3 a4 a5 : Int) (w : World) : (Op.equalIn 9999 28 (.agg #[.int .i64 a0, .int .i64 a1, .int .i64 a2, .int .i64 a3, .int .i64 a4, .int .i64 a5]) (.agg #[.int .i64 a0, .int .i64 a1, .int .i64 a2, .int .i64 a3, .int .i64 a4, .int .i64 a5])).run Try.prog w = .ok true w := eql_self6 9997 28 (by kernel_rfl) _ _ _ _ _ _ w
@[go_sem] theorem eql30 (o a0 a1 a2 a3 a4 a5 : Int) (w : World) : (Op.equalIn 10000 30 (.agg #[.int .i64 o, .int .i64 a0, .int .i64 a1, .int .i64 a2, .int .i64 a3, .int .i64 a4, .int .i64 a5]) (.agg #[.int .i64 o, .int .i64 a0, .int .i64 a1, .int .i64 a2, .int .i64 a3, .int .i64 a4, .int .i64 a5])).run Try.prog w = .ok true w := by
  have e : (Op.equalIn 9999 3 (.int .i64 o) (.int .i64 o)).run Try.prog w = .ok (o == o) w := eql_int3 9998 o o w
  have e6 := eql_self6 9997 28 (by kernel_rfl) a0 a1 a2 a3 a4 a5 w
  rw [show (10000 : Nat) = 9999 + 1 from rfl]
  unfold Op.equalIn
  simp only [Sem.run_bind, run_underlying Try.underlying30, Result.andThen_ok]
  simp [go_sem, part3, e, e6]

theorem sameMarks_yes (w0 w1 w2 w3 w4 F : Int) (A B : Option Addr) (n c c' : Nat) (gs : List Giv) (w : World) (hg : Gs w A n gs) (hg' : Gs w B n gs) :
    Calls Try.prog 47 #[.agg #[.int .i64 w0, .int .i64 w1, .int .i64 w2, .int .i64 w3, .int .i64 w4, .int .i64 F, .slice A n c], .agg #[.int .i64 w0, .int .i64 w1, .int .i64 w2, .int .i64 w3, .int .i64 w4, .int .i64 F, .slice B n c']] w fun e w' => e = .returned (.bool true) ∧ Below w.heap.size w w' := by
  have hn := hg.small
  have Hl : Hid (n = gs.length) := Lib.hid hg.len
  go_enter Try.func47, Try.ntmps47
  go_wp2_with fail
  generalize hW : (World.alloc _ _) = W
  have HW : Hid (Below w.heap.size w W) := Lib.hid (by subst hW; go_grown)
  have KM : Bk W w.heap.size [.int .i64 w0, .int .i64 w1, .int .i64 w2, .int .i64 w3, .int .i64 w4, .int .i64 F, .slice A n c] := ⟨by subst hW; simp only [World.size_alloc]; omega, by subst hW; intro j; simp [go_sem]⟩
  have KS : Bk W (w.heap.size + 1) [.int .i64 w0, .int .i64 w1, .int .i64 w2, .int .i64 w3, .int .i64 w4, .int .i64 F, .slice B n c'] := ⟨by subst hW; simp only [World.size_alloc]; omega, by subst hW; intro j; simp [go_sem]⟩
  clear hW
  have HG := Lib.hid (hg.keep HW.out)
  have HG' := Lib.hid (hg'.keep HW.out)
  clear hg hg'
  have KMl := KM.lt; have KMc := KM.get; have KSl := KS.lt; have KSc := KS.get
  go_wp2
  clear KMl KMc KSl KSc
  go_loopw [5] (fun i wr => ∃ (k : Nat) (z : Gr), k ≤ n ∧ i = .int .i64 k ∧ wr = grow W z) (fun i _ => n - (intOf i).toNat)
  case atStart => exact ⟨0, ⟨#[], W.drawn⟩, by omega, rfl, by simp [grow]⟩
  case round =>
    obtain ⟨k, z, hk, rfl, rfl⟩ := hrel
    have HbY := Lib.hid (grow_below W z)
    have KM1 := KM.keep HbY.out
    have KS1 := KS.keep HbY.out
    have KM1l := KM1.lt; have KM1c := KM1.get; have KS1l := KS1.lt; have KS1c := KS1.get
    by_cases hlt : k < n
    rotate_left
    · obtain rfl : k = n := by omega
      go_wp2
      go_ret
      exact ⟨rfl, up HW.out HbY.out⟩
    have hlt' : k < gs.length := by rw [← Hl.out]; exact hlt
    obtain ⟨bg, og, rfl, hbg, hga⟩ := HG.out.get k hlt'
    obtain ⟨bh, oh, rfl, hbh, hgh⟩ := HG'.out.get k hlt'
    generalize gs[k] = g at *
    obtain ⟨a0', a1', a2', a3', a4', a5', a6'⟩ := hga
    obtain ⟨b0', b1', b2', b3', b4', b5', b6'⟩ := hgh
    have e0 := KM.lt
    have e0' := KS.lt
    have e1 : w.heap.size < W.heap.size + z.blocks.size := by omega
    have e2 : w.heap.size + 1 < W.heap.size + z.blocks.size := by omega
    have e5 : bg < W.heap.size + z.blocks.size := by omega
    have e6 : bh < W.heap.size + z.blocks.size := by omega
    go_wp2
    clear KM1l KM1c KS1l KS1c
    have KMc := KM.get
    have KSc := KS.get
    refine wp_region_grow (by kernel_rfl) (by kernel_rfl) ?_
    repeat (go_big_quiet_step ((fail)))
    refine wpQuiet_nil ?_
    intro z1
    obtain ⟨y1, hy1⟩ := grow_grow W z z1
    rw [hy1]
    clear hy1
    go_wp2
    exact ⟨⟨k + 1, y1, by omega, by go_num, rfl⟩, by simp [intOf]; omega⟩
end Go.Proofs.Ytbieopkohkomoaa

namespace Go.Proofs.Ytbieopkohkomoaa
open Go Go.RowKit
section late
variable {P : Program} {md : Region.Mode}

/-- What an 'extract' yields, it yields in any world. -/
theorem extract_yields {ops ops' : Array Oper} {Q : Exit → Act → World → Prop} {e : Nat} {oe : Oper} {t : Operand} {ix : Nat} (hQ : ¬ LetsOut Q) (he : ops'[e]? = some oe) (hop : oe.op = .extract t ix) (hg : oe.guard = none) {K : Act → World → Prop} {a : Act} {w : World}
    (h : wpOp P ops' Q e K a w) : ∃ v, Yields P ops oe v a ∧ K (a.put oe.dst v) w := by
  have hw : ∀ y, Region.wanted oe y = true := fun y => by simp [Region.wanted, hg]
  unfold wpOp at h
  simp only [he, hw, if_true] at h
  rcases h with h | ⟨_, h⟩
  · obtain ⟨d, op, ty, ps, af, gd⟩ := oe
    dsimp only at hop
    subst hop
    have hx : ∃ v, ∀ w, (execOp a.eval { dst := d, op := Op.extract t ix, type := ty, pos := ps, after := af, guard := gd }).run P w = .ok (.value v) w := by
      unfold Oper.wp at h
      simp only [execOp, Instr.extract] at h ⊢
      generalize a.eval t = x at h ⊢
      cases x
      case tuple vs =>
        dsimp only at h ⊢
        cases hv : vs[ix]?
        · rw [hv] at h; exact absurd h (by intro h; exact h)
        · exact ⟨_, fun w => rfl⟩
      all_goals exact absurd h (by intro h; exact h)
    obtain ⟨v, hv⟩ := hx
    refine ⟨v, .inl ⟨hw _, hv⟩, ?_⟩
    unfold Oper.wp at h
    rw [hv] at h
    exact h
  · exact absurd h hQ

/-- The e-th operation is apart from each that it does not follow and that does not follow it. -/
def freeOf (md : Region.Mode) (ops : Array Oper) (oe : Oper) (e : Nat) : Bool :=
  (List.range ops.size).all fun j => j == e || oe.after.any (fun x => Region.binds md x && x.on == j) || match ops[j]? with
      | some oj => oj.after.any (fun x => Region.binds md x && x.on == e) || oe.apart ops oj
      | none => true
theorem freeOf_spec {ops : Array Oper} {oe : Oper} {e : Nat} (h : freeOf md ops oe e = true) (j : Nat) (oj : Oper) (hj : ops[j]? = some oj) (hne : j ≠ e) (hun : ∀ x ∈ oe.after, Region.binds md x = true → x.on ≠ j) (hno : ∀ x ∈ oj.after, Region.binds md x = true → x.on ≠ e) : oe.apart ops oj = true := by
  simp only [freeOf, List.all_eq_true, List.mem_range] at h
  have h1 := h j (Array.getElem?_eq_some_iff.1 hj).1
  simp only [hj, Bool.or_eq_true, beq_iff_eq, hne, false_or] at h1
  rcases h1 with h1 | h1 | h1
  · obtain ⟨x, hx, hb⟩ := Array.any_eq_true'.1 h1
    simp only [Bool.and_eq_true, beq_iff_eq] at hb
    exact absurd hb.2 (hun x hx hb.1)
  · obtain ⟨x, hx, hb⟩ := Array.any_eq_true'.1 h1
    simp only [Bool.and_eq_true, beq_iff_eq] at hb
    exact absurd hb.2 (hno x hx hb.1)
  · exact h1
/-- The s-th operation, after the e-th too. -/
def late (os : Oper) (e : Nat) : Oper := { os with after := os.after.push ⟨e, .data⟩ }
/-- An 'extract' that may come after the s-th operation: it is enough to have it before. -/
theorem wpAny_late {ops : Array Oper} {Q : Exit → Act → World → Prop} {e s : Nat} {oe os : Oper} {t : Operand} {ix : Nat} (hQ : ¬ LetsOut Q) (hQp : ∀ c a w, ¬ Q (.panic c) a w) (he : ops[e]? = some oe) (hs : ops[s]? = some os) (hes : e ≠ s) (hop : oe.op = .extract t ix) (hg : oe.guard = none)
    (hsel : Region.noSelect ops = true) (hfree : freeOf md ops oe e = true) (hdeps : ∀ x ∈ oe.after, Region.binds md x = true → ∃ y ∈ os.after, Region.binds md y = true ∧ y.on = x.on) :
    ∀ f done a w, done.size = ops.size → wpAny P md (ops.setIfInBounds s (late os e)) Q f done a w → wpAny P md ops Q f done a w := by
  have hne : ∀ i, i ≠ s → (ops.setIfInBounds s (late os e))[i]? = ops[i]? := fun i hi => Array.getElem?_setIfInBounds_ne (Ne.symm hi)
  have hslt : s < ops.size := (Array.getElem?_eq_some_iff.1 hs).1
  have helt : e < ops.size := (Array.getElem?_eq_some_iff.1 he).1
  have hss : (ops.setIfInBounds s (late os e))[s]? = some (late os e) := by simp [hslt]
  have hbd : Region.binds md ⟨e, .data⟩ = true := rfl
  have hy : ∀ x, yielded (ops.setIfInBounds s (late os e)) x = yielded ops x := fun x => by
    funext j
    unfold yielded
    by_cases h : j = s
    · subst h; rw [hss, hs]; rfl
    · rw [hne j h]
  have sub : ∀ done i, i ∈ Region.ready md (ops.setIfInBounds s (late os e)) done → i ∈ Region.ready md ops done := fun done i hi => by
    rw [mem_ready] at *
    obtain ⟨h0, o, ho, hall⟩ := hi
    by_cases h : i = s
    · subst h
      rw [hss] at ho
      obtain rfl := Option.some.inj ho
      exact ⟨h0, os, hs, fun x hx hb => hall x (Array.mem_push.2 (.inl hx)) hb⟩
    · rw [hne i h] at ho
      exact ⟨h0, o, ho, hall⟩
  have gap : ∀ done i, done.size = ops.size → i ∈ Region.ready md ops done → i ∈ Region.ready md (ops.setIfInBounds s (late os e)) done ∨ e ∈ Region.ready md (ops.setIfInBounds s (late os e)) done := fun done i hsz hi => by
    by_cases h : i = s
    · subst h
      obtain ⟨h0, o, ho, hall⟩ := mem_ready.1 hi
      rw [hs] at ho
      obtain rfl := Option.some.inj ho
      cases hd : done.getD e false
      · refine .inr (mem_ready.2 ⟨?_, oe, by rw [hne e hes]; exact he, fun x hx hb => ?_⟩)
        · simpa [Array.getD, hsz, helt] using hd
        · obtain ⟨y, hy1, hy2, hy3⟩ := hdeps x hx hb
          rw [← hy3]; exact hall y hy1 hy2
      · refine .inl (mem_ready.2 ⟨h0, late os e, hss, fun x hx hb => ?_⟩)
        rcases Array.mem_push.1 hx with hx | rfl
        · exact hall x hx hb
        · exact hd
    · left
      obtain ⟨h0, o, ho, hall⟩ := mem_ready.1 hi
      exact mem_ready.2 ⟨h0, o, by rw [hne i h]; exact ho, hall⟩
  have same : ∀ i K a w, wpOp P (ops.setIfInBounds s (late os e)) Q i K a w → wpOp P ops Q i K a w := fun i K a w h => by
    unfold wpOp at *
    rw [hy] at h
    by_cases hi : i = s
    · subst hi; rw [hss] at h; rw [hs]; exact h
    · rw [hne i hi] at h; exact h
  have first : ∀ f done a w, done.size = ops.size → (∀ done' a w, done'.size = ops.size → wpAny P md (ops.setIfInBounds s (late os e)) Q f done' a w → wpAny P md ops Q f done' a w) →
      e ∈ Region.ready md (ops.setIfInBounds s (late os e)) done → wpAny P md (ops.setIfInBounds s (late os e)) Q (f + 1) done a w → wpAny P md ops Q (f + 1) done a w := fun f done a w hsz ih her H => by
    obtain ⟨v, hyv, hK⟩ := extract_yields (ops := ops) hQ (by rw [hne e hes]; exact he) hop hg (H.2 e her)
    refine wpAny_first he (Region.noSelect_spec hsel) (fun c a w h => absurd h (hQp c _ w)) f done a w (fun j oj hj hje hun hno => freeOf_spec hfree j oj hj hje (fun x hx hb hxj => ?_) hno) (sub _ _ her) hyv (ih _ _ _ (by simpa using hsz) hK)
    obtain ⟨_, o, ho, hall⟩ := mem_ready.1 (sub _ _ her)
    rw [he] at ho
    obtain rfl := Option.some.inj ho
    have h1 := hall x hx hb
    have h2 : j < ops.size := (Array.getElem?_eq_some_iff.1 hj).1
    rw [hxj] at h1
    simp [Array.getD, hsz, h2] at h1 hun
    rw [h1] at hun
    cases hun
  intro f
  induction f with
  | zero =>
    intro done a w hsz H
    refine ⟨List.eq_nil_iff_forall_not_mem.2 fun i hi => ?_, H.2⟩
    rcases gap done i hsz hi with h | h <;> (rw [H.1] at h; cases h)
  | succ f ih =>
    intro done a w hsz H
    by_cases her : e ∈ Region.ready md (ops.setIfInBounds s (late os e)) done
    · exact first f done a w hsz ih her H
    · refine ⟨fun h0 => H.1 (List.eq_nil_iff_forall_not_mem.2 fun i hi => by have := sub _ _ hi; rw [h0] at this; cases this), fun i hi => ?_⟩
      rcases gap done i hsz hi with h | h
      · exact wpOp_mono (fun a' w' h' => ih _ a' w' (by simpa using hsz) h') (same _ _ _ _ (H.2 i h))
      · exact absurd h her

/-- The end that a walk of the tail comes to. -/
def Landed (Q : Exit → Act → World → Prop) (x : Exit) (a : Act) (w : World) : Prop := x = .normal ∧ Q x a w
/-- THE RULE: as 'wp_region_alloc', where an 'extract' (the e-th) may come after the store (the s-th). -/
theorem wp_region_alloc_late {id : Nat} {Q : Exit → Act → World → Prop} {a : Act} {w : World} {l : List Oper} (n m t e s : Nat) (obj : Obj) {ty : TypeId} {T : Nat} {p : String} {oe os : Oper} {x : Operand} {ix : Nat}
    (hmo : P.follows .mixedOrders = true) (ha : l[m]? = some { dst := some t, op := .alloc ty, type := T, pos := p, after := #[], guard := none }) (hmn : m < n) (hms : m ≠ s)
    (he : l[e]? = some oe) (hs : l[s]? = some os) (hes : e ≠ s) (hop : oe.op = .extract x ix) (hg : oe.guard = none)
    (hsel : Region.noSelect l.toArray = true) (hfree : freeOf .any l.toArray oe e = true)
    (hdeps : oe.after.all (fun x => !Region.binds .any x || os.after.any fun y => Region.binds .any y && y.on == x.on) = true)
    (hB : ∀ N, Region.lexTailB .any ((l.set s (late os e)).set m (ptrOp t T p N)).toArray n = true)
    (hrun : ∀ a w, (execOp (Act.eval a) { dst := some t, op := .alloc ty, type := T, pos := p, after := #[], guard := none }).run P w = .ok (.value (.pointer (some ⟨w.heap.size, 0, none⟩))) (w.alloc obj))
    (hnd : dstsB (l.set s (late os e)).toArray n = true)
    (h : ∃ A : Nat → Act, (∀ b N, Below w.heap.size w b → wpQuiet P ((l.set s (late os e)).set m (ptrOp t T p N)).toArray (fun w' => ∃ z, w' = grow b z) (fun a' => a' = A N) (((l.set s (late os e)).set m (ptrOp t T p N)).take n) a) ∧
      (∀ N, A N = (A 0).put (some t) (.pointer (some ⟨N, 0, none⟩))) ∧
      (∀ W' N, Below w.heap.size w W' → w.heap.size ≤ N → W'.heap[N]? = some obj → wpList P (l.set s (late os e)).toArray (Landed Q) ((l.set s (late os e)).drop n) (A N) W')) : (Code.region id l.toArray true).wp P Q a w := by
  obtain ⟨A, h1, h2, h3⟩ := h
  have hm : m < l.length := (List.getElem?_eq_some_iff.1 ha).1
  have ha' : (l.set s (late os e))[m]? = some { dst := some t, op := .alloc ty, type := T, pos := p, after := #[], guard := none } := by rw [List.getElem?_set_ne (Ne.symm hms)]; exact ha
  have S := any_grow_alloc (P := P) (Q := Landed Q) (a := a) (w := w) n m t obj _ (ptrOp t T p) (fun N => (l.set s (late os e)).set m (ptrOp t T p N)) A hB (fun N => by simp) hmn (fun N i hi => by rw [List.getElem?_set_ne (Ne.symm hi)]) (fun _ => rfl) (fun _ => rfl) ha'
    (fun N => by rw [List.getElem?_set_self (by simpa using hm)]) rfl (fun _ => rfl) rfl rfl hrun (fun N a w => by simp [ptrOp, execOp, Act.eval]) hnd h2 h1 h3
  have key := wpAny_late (P := P) (md := .any) (ops := l.toArray) (Q := Landed Q) (fun ⟨_, _, h, _⟩ => by cases h) (fun _ _ _ h => by cases h.1) (by simpa using he) (by simpa using hs) hes hop hg hsel hfree (fun x hx hb => by
    have := Array.all_eq_true_iff_forall_mem.1 hdeps x hx
    simp only [hb, Bool.not_true, Bool.false_or] at this
    obtain ⟨y, hy, hb2⟩ := Array.any_eq_true'.1 this
    simp only [Bool.and_eq_true, beq_iff_eq] at hb2
    exact ⟨y, hy, hb2.1, hb2.2⟩) l.toArray.size (Array.replicate l.toArray.size false) a { w with drawn := w.drawn + 1 } (by simp) (by simpa using S)
  exact Code.wp_mono (fun _ _ _ h => h.2) (wp_region_any hmo key)
end late
end Go.Proofs.Ytbieopkohkomoaa

namespace Go.Proofs.Ytbieopkohkomoaa
open Go Go.RowKit
set_option maxHeartbeats 400000
set_option maxRecDepth 100000

theorem members_any (a : Int) (w : World) :
    Calls Try.prog 63 #[.int .i64 a] w fun e w' => ∃ v, e = .returned v ∧ w'.ownsRow w.heap.size 3 1 v (sgK a 5).length (ints (sgK a 5)) ∧ Below w.heap.size w w' := by
  obtain ⟨i0, hi, hz0, hz1, hz2⟩ := info_parts info3
  have HI := Lib.hid hi
  have HZ0 := Lib.hid hz0
  have HZ1 := Lib.hid hz1
  have HZ2 := Lib.hid hz2
  clear hi hz0 hz1 hz2
  go_enter Try.func63, Try.ntmps63
  go_wp2
  go_loopw [3, 4] (fun v i wr => ∃ (k : Nat) (z : Gr), k ≤ 5 ∧ i = .int .i64 k ∧ wr = grow w z ∧ (grow w z).ownsRow w.heap.size 3 1 v (sgK a k).length (ints (sgK a k))) (fun _ i _ => 5 - (intOf i).toNat)
  case atStart => exact ⟨0, ⟨#[], w.drawn⟩, by omega, rfl, by simp [grow], World.ownsRow_nil _ _ _ _⟩
  case round =>
    obtain ⟨k, z, hk, rfl, rfl, hown⟩ := hrel
    have Hown := Lib.hid hown; clear hown
    by_cases hlt : k < 5
    · have hln := sgK_len a k
      have hp := p2n k hlt
      have Hy : Hid (hasB a k = true → sgK a (k + 1) = sgK a k ++ [(k : Int)]) := Lib.hid (fun h => by rw [sgK, if_pos h])
      have Hn : Hid (hasB a k = false → sgK a (k + 1) = sgK a k) := Lib.hid (fun h => by rw [sgK, if_neg (by rw [h]; simp)])
      generalize hX : sgK a k = X at *
      have HX := Lib.hid hX
      clear hX
      generalize hnX : X.length = nX at *
      have HnX := Lib.hid hnX
      clear hnX
      cases hh : hasB a k
      · have hb1 : (bits BinOp.and IntKind.i64 a (2 ^ k) != 0) = false := hh
        have hb2 : (bits BinOp.and IntKind.i64 a (2 ^ k) == 0) = true := by simpa [bne] using hb1
        have Hh := Lib.hid hh
        clear hh
        go_wp2
        refine ⟨⟨k + 1, z, by omega, by go_num, rfl, ?_⟩, by simp [intOf]; omega⟩
        rw [Hn.out Hh.out, HnX.out]; exact Hown.out
      · have hb1 : (bits BinOp.and IntKind.i64 a (2 ^ k) != 0) = true := hh
        have hb2 : (bits BinOp.and IntKind.i64 a (2 ^ k) == 0) = false := by simpa [bne] using hb1
        have Hh := Lib.hid hh
        clear hh
        go_wp2_with (at_builtin; refine wpList_append_own _ rfl _ _ 54 rfl w.heap.size 3 i0 (.int .i64 0) 1 8 Try.underlying54 HI.out HZ0.out HZ1.out HZ2.out rfl (by decide) _ _ _ rfl (Hown.out.alloc _) ⟨w.heap.size + z.blocks.size, 0, none⟩ 1 1 [.int .i64 k] rfl rfl ?c1 ?c2 ?c3 ?c4 ?c5 ?_)
        case c1 =>
          intro j u hu
          rw [Addr.add_lit, World.cell?_alloc_at _ _ _ _ (by simp), Nat.zero_add]
          simpa using hu
        case c2 => intro u hu; simp at hu; subst hu; rfl
        case c3 => unfold maxLen; omega
        case c4 => omega
        case c5 => simp; omega
        intro v' w' hown' hgr _
        have hbel : Below w.heap.size w w' := (up (grow_below w z) (up_alloc _ _)).grown hgr (by simp; omega) (fun q hq => (Hown.out.lt q hq).1)
        have Hown' := Lib.hid hown'
        clear hown' hgr
        obtain ⟨y3, rfl⟩ := below_grow hbel
        go_wp2
        refine ⟨⟨k + 1, y3, by omega, by go_num, rfl, ?_⟩, by simp [intOf]; omega⟩
        rw [Hy.out Hh.out, ints_snoc, List.length_append, HnX.out]
        exact Hown'.out
    · obtain rfl : k = 5 := by omega
      go_wp2
      go_ret
      exact ⟨_, rfl, Hown.out, grow_below w z⟩

/-- Has a list a number? -/
def hasL (l : List Int) (x : Int) : Bool := l.any (· == x)
theorem hasL_yes {l : List Int} {k : Nat} {x : Int} (hk : k < l.length) (h : l[k] = x) : hasL l x = true := by
  unfold hasL; rw [List.any_eq_true]; exact ⟨l[k], List.getElem_mem hk, by simp [h]⟩
theorem has_any' (A : Option Addr) (n c : Nat) (l : List Int) (x : Int) (w : World) (hg : Is w A n l) :
    Calls Try.prog 62 #[.slice A n c, .int .i64 x] w fun e w' => e = .returned (.bool (hasL l x)) ∧ w = w' := by
  have hn := hg.small
  have Hl : Hid (n = l.length) := Lib.hid hg.len
  go_enter Try.func62, Try.ntmps62
  go_wp2
  go_loop [5] (fun i => ∃ k : Nat, k ≤ n ∧ i = .int .i64 k ∧ hasL (l.take k) x = false) (fun i => n - (intOf i).toNat)
  case atStart => exact ⟨0, by omega, rfl, rfl⟩
  case round =>
    obtain ⟨k, hk, rfl, hp⟩ := hrel
    have Hp := Lib.hid hp; clear hp
    by_cases hlt : k < n
    · have hkl : k < l.length := by rw [← Hl.out]; exact hlt
      have Htk : Hid (l.take (k + 1) = l.take k ++ [l[k]]) := Lib.hid (List.take_succ_eq_append_getElem hkl)
      have Hyes := Lib.hid (hasL_yes (x := x) hkl)
      obtain ⟨b, o, rfl, hb, hc⟩ := hg.get k hkl
      generalize l[k] = y at *
      by_cases h1 : y = x
      · have hbb : (y == x) = true := by simpa using h1
        have H1 := Lib.hid h1
        clear h1
        go_wp2
        go_ret
        exact ⟨congrArg (fun v => Ending.returned (Value.bool v)) (Hyes.out H1.out).symm, rfl⟩
      · have hbb : (y == x) = false := by simpa using h1
        have H1 := Lib.hid hbb
        clear h1
        go_wp2
        refine ⟨⟨k + 1, by omega, by go_num, ?_⟩, by simp [intOf]; omega⟩
        rw [Htk.out]; unfold hasL; rw [List.any_append, show (l.take k).any (· == x) = false from Hp.out]; simp [H1.out]
    · obtain rfl : k = n := by omega
      go_wp2
      go_ret
      refine ⟨congrArg (fun v => Ending.returned (Value.bool v)) ?_, rfl⟩
      have := Hp.out
      rw [List.take_of_length_le (by rw [← Hl.out]; exact Nat.le_refl _)] at this
      exact this.symm

theorem atL_pickL (l : List Int) (k : Nat) : atL l (k : Int) = pickL l k := by
  unfold atL pickL
  rw [← Int.natCast_emod, Int.toNat_natCast]
/-- A valid sign, and an index: what Members and the picks give. -/
theorem refWorn_any (w0 w1 w2 w3 w4 m0 m1 m2 m3 m4 m5 : Int) (A : Option Addr) (n c : Nat) (l : List Int) (w : World) (hg : Is w A n l) (hn : n ≤ 4611686018427387904) :
    Calls Try.prog 55 #[.agg #[.int .i64 w0, .int .i64 w1, .int .i64 w2, .int .i64 w3, .int .i64 w4], .agg #[.int .i64 m0, .int .i64 m1, .int .i64 m2, .int .i64 m3, .int .i64 m4, .int .i64 m5], .slice A n c] w fun e w' => e = .returned (.tuple #[.agg #[.int .i64 (wornV w0 w1 w2 w3 w4 m0 m1 m2 m3 m4 m5 l 0), .int .i64 (wornV w0 w1 w2 w3 w4 m0 m1 m2 m3 m4 m5 l 1), .int .i64 (wornV w0 w1 w2 w3 w4 m0 m1 m2 m3 m4 m5 l 2), .int .i64 (wornV w0 w1 w2 w3 w4 m0 m1 m2 m3 m4 m5 l 3), .int .i64 (wornV w0 w1 w2 w3 w4 m0 m1 m2 m3 m4 m5 l 4), .int .i64 (wornV w0 w1 w2 w3 w4 m0 m1 m2 m3 m4 m5 l 5)], .int .i64 (wornE w0 w1 w2 w3 w4 m0 m1 m2 m3 m4 m5)]) ∧ Below w.heap.size w w' := by
  go_enter Try.func55, Try.ntmps55
  go_wp2_with fail
  generalize hW : (World.alloc _ _) = W
  have HW : Hid (Below w.heap.size w W) := Lib.hid (by subst hW; go_grown)
  have KW : Bk W w.heap.size [Value.int .i64 w0, Value.int .i64 w1, Value.int .i64 w2, Value.int .i64 w3, Value.int .i64 w4] := ⟨by subst hW; simp only [World.size_alloc]; omega, by subst hW; intro j; simp [go_sem]⟩
  have KM : Bk W (w.heap.size + 1) [Value.int .i64 m0, Value.int .i64 m1, Value.int .i64 m2, Value.int .i64 m3, Value.int .i64 m4, Value.int .i64 m5] := ⟨by subst hW; simp only [World.size_alloc]; omega, by subst hW; intro j; simp [go_sem]⟩
  have KX : Bk W (w.heap.size + 1 + 1) [.int .i64 0, .int .i64 0, .int .i64 0, .int .i64 0, .int .i64 0, .int .i64 0] := ⟨by subst hW; simp only [World.size_alloc]; omega, by subst hW; intro j; simp [go_sem]⟩
  have FX : Hid (∀ j, W.frozen? ⟨w.heap.size + 1 + 1, j, none⟩ = false) := Lib.hid (by subst hW; intro j; simp [go_sem])
  clear hW
  have HG := Lib.hid (hg.keep HW.out)
  have Hv0 : Hid (wornE w0 w1 w2 w3 w4 m0 m1 m2 m3 m4 m5 ≠ 0 → ∀ k, wornV w0 w1 w2 w3 w4 m0 m1 m2 m3 m4 m5 l k = 0) := Lib.hid (fun h k => by unfold wornV; rw [if_neg h])
  cases hw : okW w0 w1 w2 w3 w4
  · have Hw := Lib.hid hw
    clear hw
    refine (refCheckWear_no w0 w1 w2 w3 w4 W Hw.out).mono ?_; rintro e V ⟨rfl, hb1⟩
    have frV : ∀ j, V.frozen? ⟨w.heap.size + 1 + 1, j, none⟩ = false := fun j => (hb1.frozen (p := ⟨w.heap.size + 1 + 1, j, none⟩) KX.lt).trans (FX.out j)
    replace KX := KX.keep hb1
    have KXl := KX.lt; have KXc := KX.get
    have HB1 := Lib.hid hb1
    clear hb1
    have Ex : Hid (∀ j, j < 6 → (V.cell? ⟨w.heap.size + 1 + 1, j, none⟩).isSome = true) := Lib.hid (by
      intro j hj
      rw [KXc j]
      rcases (by omega : j = 0 ∨ j = 1 ∨ j = 2 ∨ j = 3 ∨ j = 4 ∨ j = 5) with rfl | rfl | rfl | rfl | rfl | rfl <;> rfl)
    go_wp2
    have P := put6 V (w.heap.size + 1 + 1) (.int .i64 0) (.int .i64 0) (.int .i64 0) (.int .i64 0) (.int .i64 0) (.int .i64 0) Ex.out
    have B := put6_below (up HW.out HB1.out) (by omega : w.heap.size ≤ w.heap.size + 1 + 1) (.int .i64 0) (.int .i64 0) (.int .i64 0) (.int .i64 0) (.int .i64 0) (.int .i64 0)
    generalize World.setCell _ ⟨w.heap.size + 1 + 1, 5, none⟩ _ = U at P B ⊢
    have p0 := P 0 (by omega); have p1 := P 1 (by omega); have p2 := P 2 (by omega); have p3 := P 3 (by omega); have p4 := P 4 (by omega); have p5 := P 5 (by omega)
    clear P
    simp at p0 p1 p2 p3 p4 p5
    refine bodyPost_ret (v := .tuple #[.agg #[.int .i64 0, .int .i64 0, .int .i64 0, .int .i64 0, .int .i64 0, .int .i64 0], .int .i64 11]) (by simp [results, Try.results55, go_sem, p0, p1, p2, p3, p4, p5]) rfl ⟨?_, B⟩
    have E : wornE w0 w1 w2 w3 w4 m0 m1 m2 m3 m4 m5 = 11 := by unfold wornE; rw [firstE_cons, err_f (b := okW w0 w1 w2 w3 w4) 11 (by simp [Hw.out]), if_neg (by decide)]
    have Hv := Hv0.out (by rw [E]; decide)
    rw [Hv, Hv, Hv, Hv, Hv, Hv, E]
  have Hw := Lib.hid hw
  clear hw
  refine (refCheckWear_yes w0 w1 w2 w3 w4 W Hw.out).mono ?_; rintro e x1 ⟨rfl, hb1⟩
  have frV : ∀ j, x1.frozen? ⟨w.heap.size + 1 + 1, j, none⟩ = false := fun j => (hb1.frozen (p := ⟨w.heap.size + 1 + 1, j, none⟩) KX.lt).trans (FX.out j)
  replace HG := Lib.hid (HG.out.keep hb1)
  replace KW := KW.keep hb1; replace KM := KM.keep hb1; replace KX := KX.keep hb1
  have HB1 := Lib.hid hb1
  clear hb1
  have KWl := KW.lt; have KWc := KW.get; have KMl := KM.lt; have KMc := KM.get; have KXl := KX.lt; have KXc := KX.get
  cases hm : okM m0 m1 m2 m3 m4 m5
  · have Hm := Lib.hid hm
    clear hm
    go_wp2_with fail
    refine (refCheckMark_no m0 m1 m2 m3 m4 m5 x1 Hm.out).mono ?_; rintro e V ⟨rfl, hb2⟩
    have frV2 : ∀ j, V.frozen? ⟨w.heap.size + 1 + 1, j, none⟩ = false := fun j => (hb2.frozen (p := ⟨w.heap.size + 1 + 1, j, none⟩) KX.lt).trans (frV j)
    clear KWl KWc KMl KMc KXl KXc; replace KW := KW.keep hb2; have KWl := KW.lt; have KWc := KW.get; replace KM := KM.keep hb2; have KMl := KM.lt; have KMc := KM.get; replace KX := KX.keep hb2; have KXl := KX.lt; have KXc := KX.get; have HB2 := Lib.hid hb2; clear hb2
    have Ex : Hid (∀ j, j < 6 → (V.cell? ⟨w.heap.size + 1 + 1, j, none⟩).isSome = true) := Lib.hid (by
      intro j hj
      rw [KXc j]
      rcases (by omega : j = 0 ∨ j = 1 ∨ j = 2 ∨ j = 3 ∨ j = 4 ∨ j = 5) with rfl | rfl | rfl | rfl | rfl | rfl <;> rfl)
    go_wp2
    have P := put6 V (w.heap.size + 1 + 1) (.int .i64 0) (.int .i64 0) (.int .i64 0) (.int .i64 0) (.int .i64 0) (.int .i64 0) Ex.out
    have B := put6_below (up HW.out (up HB1.out HB2.out)) (by omega : w.heap.size ≤ w.heap.size + 1 + 1) (.int .i64 0) (.int .i64 0) (.int .i64 0) (.int .i64 0) (.int .i64 0) (.int .i64 0)
    generalize World.setCell _ ⟨w.heap.size + 1 + 1, 5, none⟩ _ = U at P B ⊢
    have p0 := P 0 (by omega); have p1 := P 1 (by omega); have p2 := P 2 (by omega); have p3 := P 3 (by omega); have p4 := P 4 (by omega); have p5 := P 5 (by omega)
    clear P
    simp at p0 p1 p2 p3 p4 p5
    refine bodyPost_ret (v := .tuple #[.agg #[.int .i64 0, .int .i64 0, .int .i64 0, .int .i64 0, .int .i64 0, .int .i64 0], .int .i64 10]) (by simp [results, Try.results55, go_sem, p0, p1, p2, p3, p4, p5]) rfl ⟨?_, B⟩
    have E : wornE w0 w1 w2 w3 w4 m0 m1 m2 m3 m4 m5 = 10 := by unfold wornE; rw [firstE_cons, err_t (b := okW w0 w1 w2 w3 w4) 11 Hw.out, if_pos rfl, firstE_cons, err_f (b := okM m0 m1 m2 m3 m4 m5) 10 (by simp [Hm.out]), if_neg (by decide)]
    have Hv := Hv0.out (by rw [E]; decide)
    rw [Hv, Hv, Hv, Hv, Hv, Hv, E]
  have Hm := Lib.hid hm
  obtain ⟨⟨p0, q0⟩, ⟨p1, q1⟩, ⟨p2, q2⟩, ⟨p3, q3⟩, ⟨p4, q4⟩, ⟨p5, q5⟩⟩ := (okM_iff _ _ _ _ _ _).1 hm
  clear hm
  have E : Hid (wornE w0 w1 w2 w3 w4 m0 m1 m2 m3 m4 m5 = 0) := Lib.hid (by unfold wornE; rw [err_t (b := okW w0 w1 w2 w3 w4) 11 Hw.out, err_t (b := okM m0 m1 m2 m3 m4 m5) 10 Hm.out]; rfl)
  have Hva : Hid (∀ k, wornV w0 w1 w2 w3 w4 m0 m1 m2 m3 m4 m5 l k = wornAt w0 w1 w2 w3 w4 m0 m1 m2 m3 m4 m5 l k) := Lib.hid (fun k => by unfold wornV; rw [if_pos E.out])
  go_wp2_with fail
  refine (refCheckMark_yes m0 m1 m2 m3 m4 m5 x1 Hm.out).mono ?_; rintro e V ⟨rfl, hb2⟩
  have frV2 : Hid (∀ j, V.frozen? ⟨w.heap.size + 1 + 1, j, none⟩ = false) := Lib.hid (fun j => (hb2.frozen (p := ⟨w.heap.size + 1 + 1, j, none⟩) KX.lt).trans (frV j))
  clear frV
  replace HG := Lib.hid (HG.out.keep hb2)
  clear KWl KWc KMl KMc KXl KXc; replace KW := KW.keep hb2; have KWl := KW.lt; have KWc := KW.get; replace KM := KM.keep hb2; have KMl := KM.lt; have KMc := KM.get; replace KX := KX.keep hb2; have KXl := KX.lt; have KXc := KX.get; have HB2 := Lib.hid hb2; clear hb2
  go_wp2
  generalize hV2 : World.alloc V _ = V2
  have Hbx : Hid (FBox V2 V.heap.size 6 (wornAt w0 w1 w2 w3 w4 m0 m1 m2 m3 m4 m5 l) 0) := Lib.hid (by
    subst hV2
    exact ⟨by simp, fun j hj => by
      rw [World.cell?_alloc_at _ _ _ _ rfl, if_neg (by omega)]
      rcases (by omega : j = 0 ∨ j = 1 ∨ j = 2 ∨ j = 3 ∨ j = 4 ∨ j = 5) with rfl | rfl | rfl | rfl | rfl | rfl <;> rfl, fun j => World.frozen?_alloc_at _ _ _ _ rfl⟩)
  have HV0 : Hid (Below V.heap.size V V2) := Lib.hid (by subst hV2; exact up_alloc _ _)
  clear hV2
  clear KWl KWc KMl KMc KXl KXc
  go_loopw [9] (fun i wr => ∃ (k : Nat), k ≤ 6 ∧ i = .int .i64 k ∧ Below V.heap.size V wr ∧ FBox wr V.heap.size 6 (wornAt w0 w1 w2 w3 w4 m0 m1 m2 m3 m4 m5 l) k) (fun i _ => 6 - (intOf i).toNat)
  case atStart => exact ⟨0, by omega, rfl, HV0.out, Hbx.out⟩
  case round =>
    obtain ⟨k, hk, rfl, hbw, hbx⟩ := hrel
    have Hbw := Lib.hid hbw
    have Hbx2 := Lib.hid hbx
    clear hbw hbx
    by_cases hlt : k < 6
    · have bm : 0 ≤ g6 m0 m1 m2 m3 m4 m5 k ∧ g6 m0 m1 m2 m3 m4 m5 k < 5 := by
        rcases (by omega : k = 0 ∨ k = 1 ∨ k = 2 ∨ k = 3 ∨ k = 4 ∨ k = 5) with rfl | rfl | rfl | rfl | rfl | rfl <;> exact ⟨by assumption, by assumption⟩
      obtain ⟨bm0, bm1⟩ := bm
      have hne := worn_ne Hw.out bm0 bm1
      have Hval : Hid (wornAt w0 w1 w2 w3 w4 m0 m1 m2 m3 m4 m5 l k = pickS (g5 w0 w1 w2 w3 w4 (g6 m0 m1 m2 m3 m4 m5 k)) (pickL l k)) := Lib.hid rfl
      have lw : w.heap.size < wr.heap.size := (KW.keep Hbw.out).lt
      have lm : w.heap.size + 1 < wr.heap.size := (KM.keep Hbw.out).lt
      have cm : wr.cell? ⟨w.heap.size + 1, k, none⟩ = some (.int .i64 (g6 m0 m1 m2 m3 m4 m5 k)) := ((KM.keep Hbw.out).get k).trans (at6n _ _ _ _ _ _ k hlt)
      have cw : wr.cell? ⟨w.heap.size, (g6 m0 m1 m2 m3 m4 m5 k).toNat, none⟩ = some (.int .i64 (g5 w0 w1 w2 w3 w4 (g6 m0 m1 m2 m3 m4 m5 k))) := ((KW.keep Hbw.out).get _).trans (at5 _ _ _ _ _ _ bm0 bm1)
      generalize g6 m0 m1 m2 m3 m4 m5 k = s at *
      generalize g5 w0 w1 w2 w3 w4 s = a at *
      have Hpk := Lib.hid (atL_pickL l k)
      generalize hp : pickL l k = p at *
      have Hp := Lib.hid hp
      clear hp
      have hln := sgK_len a 5
      obtain ⟨q, hq⟩ := Int.eq_ofNat_of_zero_le (Int.emod_nonneg p (by omega : ((sgK a 5).length : Int) ≠ 0))
      have hql : q < (sgK a 5).length := by have := Int.emod_lt_of_pos p (by omega : (0 : Int) < ((sgK a 5).length : Int)); omega
      have hx := sgK_in a 5 _ (List.getElem_mem hql)
      have Hv2 : Hid (pickS a p = 2 ^ ((sgK a 5)[q]).toNat) := Lib.hid (by unfold pickS; rw [hq]; simp [hql])
      obtain ⟨hx0, hx5⟩ := hx
      have Hq := Lib.hid hq
      clear hq
      have HS : Hid (∀ (w1 : World) (A' : Option Addr) (c' : Nat), Is w1 A' (sgK a 5).length (sgK a 5) → ∃ b o, A' = some ⟨b, o, none⟩ ∧ b < w1.heap.size ∧ w1.cell? ⟨b, o + q, none⟩ = some (.int .i64 (sgK a 5)[q])) := Lib.hid (fun w1 A' c' h => h.get q hql)
      have hp2 := p2_wrap ((sgK a 5)[q]) hx0 hx5
      generalize (sgK a 5)[q] = x at *
      go_wp2_with (first
        | (go_at_call 63; refine (members_any _ _).mono ?_; rintro e x3 ⟨v, rfl, hown, hb3⟩; have HRB := Lib.hid (Hbx2.out.keep hb3); have HB3 := Lib.hid (Hbw.out.trans (hb3.mono (by have := Hbx2.out.lt; omega))); clear hb3; obtain ⟨A', c', rfl, _, his⟩ := Is.of_own hown; clear hown; obtain ⟨bb, oo, rfl, hbb, hcc⟩ := HS.out _ _ c' his; clear his; have f1 := HRB.out.cell k hlt; have f2 := HRB.out.fro k)
        | (go_at_call 59; refine (at_any _ _ _ l k _ (HG.out.keep HB3.out) hn).mono ?_; rintro e x4 ⟨rfl, rfl⟩; rw [Hpk.out])
        | (go_at_call 58; refine (mod_any _ _ _ (by omega) (by omega)).mono ?_; rintro e x4 ⟨rfl, rfl⟩; rw [Hq.out]))
      have Hfin : Hid (wornAt w0 w1 w2 w3 w4 m0 m1 m2 m3 m4 m5 l k = 2 ^ x.toNat) := Lib.hid (Hval.out.trans Hv2.out)
      refine ⟨⟨k + 1, by omega, by go_num, HB3.out.setCell (Nat.le_refl _) _, ?_⟩, by simp [intOf]; omega⟩
      exact HRB.out.put hlt _ Hfin.out (fun _ _ => rfl)
    · obtain rfl : k = 6 := by omega
      have hlt6 := Hbx2.out.lt
      have d0 := Hbx2.out.cell 0 (by omega); have d1 := Hbx2.out.cell 1 (by omega); have d2 := Hbx2.out.cell 2 (by omega); have d3 := Hbx2.out.cell 3 (by omega); have d4 := Hbx2.out.cell 4 (by omega); have d5 := Hbx2.out.cell 5 (by omega)
      simp only [show (0 : Nat) < 6 by decide, show (1 : Nat) < 6 by decide, show (2 : Nat) < 6 by decide, show (3 : Nat) < 6 by decide, show (4 : Nat) < 6 by decide, show (5 : Nat) < 6 by decide, if_true] at d0 d1 d2 d3 d4 d5
      have fr3 : ∀ j, wr.frozen? ⟨w.heap.size + 1 + 1, j, none⟩ = false := fun j => (Hbw.out.frozen (p := ⟨w.heap.size + 1 + 1, j, none⟩) KX.lt).trans (frV2.out j)
      replace KX := KX.keep Hbw.out
      have KXl := KX.lt; have KXc := KX.get
      have Ex : Hid (∀ j, j < 6 → (wr.cell? ⟨w.heap.size + 1 + 1, j, none⟩).isSome = true) := Lib.hid (by
        intro j hj
        rw [KXc j]
        rcases (by omega : j = 0 ∨ j = 1 ∨ j = 2 ∨ j = 3 ∨ j = 4 ∨ j = 5) with rfl | rfl | rfl | rfl | rfl | rfl <;> rfl)
      clear KX
      have HBf := Lib.hid (up HW.out (up HB1.out (up HB2.out Hbw.out)))
      generalize wornAt w0 w1 w2 w3 w4 m0 m1 m2 m3 m4 m5 l = f at *
      go_wp2
      have P := put6 wr (w.heap.size + 1 + 1) (.int .i64 (f 0)) (.int .i64 (f 1)) (.int .i64 (f 2)) (.int .i64 (f 3)) (.int .i64 (f 4)) (.int .i64 (f 5)) Ex.out
      have B := put6_below (HBf.out) (by omega : w.heap.size ≤ w.heap.size + 1 + 1) (.int .i64 (f 0)) (.int .i64 (f 1)) (.int .i64 (f 2)) (.int .i64 (f 3)) (.int .i64 (f 4)) (.int .i64 (f 5))
      generalize World.setCell _ ⟨w.heap.size + 1 + 1, 5, none⟩ _ = U at P B ⊢
      have p0 := P 0 (by omega); have p1 := P 1 (by omega); have p2 := P 2 (by omega); have p3 := P 3 (by omega); have p4 := P 4 (by omega); have p5 := P 5 (by omega)
      clear P
      simp at p0 p1 p2 p3 p4 p5
      refine bodyPost_ret (v := .tuple #[.agg #[.int .i64 (f 0), .int .i64 (f 1), .int .i64 (f 2), .int .i64 (f 3), .int .i64 (f 4), .int .i64 (f 5)], .int .i64 0]) (by simp [results, Try.results55, go_sem, p0, p1, p2, p3, p4, p5]) rfl ⟨?_, B⟩
      rw [Hva.out, Hva.out, Hva.out, Hva.out, Hva.out, Hva.out, E.out]
end Go.Proofs.Ytbieopkohkomoaa

namespace Go.Proofs.Ytbieopkohkomoaa
open Go Go.RowKit
set_option maxHeartbeats 400000
set_option maxRecDepth 100000

theorem p2n6 (k : Nat) (h : k < 6) : wrap64 ((2 : Int) ^ k) = 2 ^ k := by
  rcases (by omega : k = 0 ∨ k = 1 ∨ k = 2 ∨ k = 3 ∨ k = 4 ∨ k = 5) with rfl | rfl | rfl | rfl | rfl | rfl <;> simp [wrap64]
/-- The places that the bits of a number choose. -/
def chK (a : Int) : Nat → List Int
  | 0 => []
  | k + 1 => if hasB a k = true then chK a k ++ [(k : Int)] else chK a k
theorem chK_len (a : Int) (k : Nat) : (chK a k).length ≤ k := by
  induction k with
  | zero => exact Nat.le_refl _
  | succ k ih =>
    unfold chK
    split
    · simp; omega
    · omega

theorem chosen_any (a : Int) (w : World) :
    Calls Try.prog 96 #[.int .i64 a] w fun e w' => ∃ v, e = .returned v ∧ w'.ownsRow w.heap.size 3 1 v (chK a 6).length (ints (chK a 6)) ∧ Below w.heap.size w w' := by
  obtain ⟨i0, hi, hz0, hz1, hz2⟩ := info_parts info3
  have HI := Lib.hid hi
  have HZ0 := Lib.hid hz0
  have HZ1 := Lib.hid hz1
  have HZ2 := Lib.hid hz2
  clear hi hz0 hz1 hz2
  go_enter Try.func96, Try.ntmps96
  go_wp2
  go_loopw [3, 4] (fun v i wr => ∃ (k : Nat) (z : Gr), k ≤ 6 ∧ i = .int .i64 k ∧ wr = grow w z ∧ (grow w z).ownsRow w.heap.size 3 1 v (chK a k).length (ints (chK a k))) (fun _ i _ => 6 - (intOf i).toNat)
  case atStart => exact ⟨0, ⟨#[], w.drawn⟩, by omega, rfl, by simp [grow], World.ownsRow_nil _ _ _ _⟩
  case round =>
    obtain ⟨k, z, hk, rfl, rfl, hown⟩ := hrel
    have Hown := Lib.hid hown; clear hown
    by_cases hlt : k < 6
    · have hln := chK_len a k
      have hp := p2n6 k hlt
      have Hy : Hid (hasB a k = true → chK a (k + 1) = chK a k ++ [(k : Int)]) := Lib.hid (fun h => by rw [chK, if_pos h])
      have Hn : Hid (hasB a k = false → chK a (k + 1) = chK a k) := Lib.hid (fun h => by rw [chK, if_neg (by rw [h]; simp)])
      generalize hX : chK a k = X at *
      have HX := Lib.hid hX
      clear hX
      generalize hnX : X.length = nX at *
      have HnX := Lib.hid hnX
      clear hnX
      cases hh : hasB a k
      · have hb1 : (bits BinOp.and IntKind.i64 a (2 ^ k) != 0) = false := hh
        have hb2 : (bits BinOp.and IntKind.i64 a (2 ^ k) == 0) = true := by simpa [bne] using hb1
        have Hh := Lib.hid hh
        clear hh
        go_wp2
        refine ⟨⟨k + 1, z, by omega, by go_num, rfl, ?_⟩, by simp [intOf]; omega⟩
        rw [Hn.out Hh.out, HnX.out]; exact Hown.out
      · have hb1 : (bits BinOp.and IntKind.i64 a (2 ^ k) != 0) = true := hh
        have hb2 : (bits BinOp.and IntKind.i64 a (2 ^ k) == 0) = false := by simpa [bne] using hb1
        have Hh := Lib.hid hh
        clear hh
        go_wp2_with (at_builtin; refine wpList_append_own _ rfl _ _ 54 rfl w.heap.size 3 i0 (.int .i64 0) 1 8 Try.underlying54 HI.out HZ0.out HZ1.out HZ2.out rfl (by decide) _ _ _ rfl (Hown.out.alloc _) ⟨w.heap.size + z.blocks.size, 0, none⟩ 1 1 [.int .i64 k] rfl rfl ?c1 ?c2 ?c3 ?c4 ?c5 ?_)
        case c1 =>
          intro j u hu
          rw [Addr.add_lit, World.cell?_alloc_at _ _ _ _ (by simp), Nat.zero_add]
          simpa using hu
        case c2 => intro u hu; simp at hu; subst hu; rfl
        case c3 => unfold maxLen; omega
        case c4 => omega
        case c5 => simp; omega
        intro v' w' hown' hgr _
        have hbel : Below w.heap.size w w' := (up (grow_below w z) (up_alloc _ _)).grown hgr (by simp; omega) (fun q hq => (Hown.out.lt q hq).1)
        have Hown' := Lib.hid hown'
        clear hown' hgr
        obtain ⟨y3, rfl⟩ := below_grow hbel
        go_wp2
        refine ⟨⟨k + 1, y3, by omega, by go_num, rfl, ?_⟩, by simp [intOf]; omega⟩
        rw [Hy.out Hh.out, ints_snoc, List.length_append, HnX.out]
        exact Hown'.out
    · obtain rfl : k = 6 := by omega
      go_wp2
      go_ret
      exact ⟨_, rfl, Hown.out, grow_below w z⟩

/-- Strictly rising places, by index. -/
def plAt (l : List Int) (k : Nat) : Bool := decide (0 ≤ l.getD k 0) && decide (l.getD k 0 ≤ 5) && (k == 0 || decide (l.getD (k - 1) 0 < l.getD k 0))
theorem riseB_snoc : ∀ (l : List Int) (p x : Int), riseB (l ++ [x]) p = (riseB l p && (decide ((p :: l).getLastD 0 < x) && decide (x < 6)))
  | [], p, x => by simp [riseB]
  | y :: r, p, x => by
    simp only [List.cons_append, riseB]
    rw [riseB_snoc r y x]
    simp only [List.getLastD_cons, Bool.and_assoc]
theorem rise_all (l : List Int) : ∀ k, k ≤ l.length → allK (plAt l) k = riseB (l.take k) (-1)
  | 0, _ => by simp [allK, riseB]
  | k + 1, hk => by
    have ih := rise_all l k (by omega)
    rw [allK, ih, List.take_succ_eq_append_getElem (by omega), riseB_snoc]
    cases hr : riseB (l.take k) (-1)
    · rfl
    · simp only [Bool.true_and]
      have hlast : ((-1 : Int) :: l.take k).getLastD 0 = if k = 0 then -1 else l.getD (k - 1) 0 := by
        by_cases h0 : k = 0
        · subst h0; simp
        · rw [if_neg h0, List.getLastD_eq_getLast?, List.getLast?_cons]
          rw [List.getLast?_take]
          simp [h0, List.getD]
          have : k - 1 < l.length := by omega
          simp [List.getElem?_eq_getElem this]
      rw [hlast]
      have hk' : k < l.length := by omega
      have e1 : l.getD k 0 = l[k] := by simp [List.getD, List.getElem?_eq_getElem hk']
      unfold plAt
      rw [e1]
      by_cases h0 : k = 0
      · subst h0
        simp
        rw [Bool.eq_iff_iff]; simp; omega
      · rw [if_neg h0]
        have h1 : k - 1 < l.length := by omega
        have hin : -1 ≤ (-1 : Int) := by omega
        have hm := riseB_in (l.take k) (-1) hin hr (l[k - 1]) (by
          rw [List.mem_take_iff_getElem]
          exact ⟨k - 1, by omega, rfl⟩)
        have e2 : l.getD (k - 1) 0 = l[k - 1] := by simp [List.getD, List.getElem?_eq_getElem h1]
        rw [e2]
        have hk0 : (k == 0) = false := by simp [h0]
        rw [hk0, Bool.false_or, Bool.eq_iff_iff]; simp; omega
end Go.Proofs.Ytbieopkohkomoaa

namespace Go.Proofs.Ytbieopkohkomoaa
open Go Go.RowKit
set_option maxRecDepth 100000

/-- A list is ahead of another one. -/
def aheadL : List Int → List Int → Bool
  | [], [] => false
  | [], _ :: _ => true
  | _ :: _, [] => false
  | x :: r, y :: s => if x = y then aheadL r s else decide (x < y)
/-- Fewer places, or as many and ahead. -/
def betL (a b : List Int) : Bool := decide (a.length < b.length) || (a.length == b.length && aheadL a b)
/-- The best of the first k choices. -/
def lkK (P : List Int → Bool) : Nat → Option (List Int)
  | 0 => none
  | k + 1 => if P (chK k 6) = true then (match lkK P k with | none => some (chK k 6) | some b => if betL (chK k 6) b = true then some (chK k 6) else some b) else lkK P k

def cl : List (List Int) := [[], [0], [1], [0, 1], [2], [0, 2], [1, 2], [0, 1, 2], [3], [0, 3], [1, 3], [0, 1, 3], [2, 3], [0, 2, 3], [1, 2, 3], [0, 1, 2, 3], [4], [0, 4], [1, 4], [0, 1, 4], [2, 4], [0, 2, 4], [1, 2, 4], [0, 1, 2, 4], [3, 4], [0, 3, 4], [1, 3, 4], [0, 1, 3, 4], [2, 3, 4], [0, 2, 3, 4], [1, 2, 3, 4], [0, 1, 2, 3, 4], [5], [0, 5], [1, 5], [0, 1, 5], [2, 5], [0, 2, 5], [1, 2, 5], [0, 1, 2, 5], [3, 5], [0, 3, 5], [1, 3, 5], [0, 1, 3, 5], [2, 3, 5], [0, 2, 3, 5], [1, 2, 3, 5], [0, 1, 2, 3, 5], [4, 5], [0, 4, 5], [1, 4, 5], [0, 1, 4, 5], [2, 4, 5], [0, 2, 4, 5], [1, 2, 4, 5], [0, 1, 2, 4, 5], [3, 4, 5], [0, 3, 4, 5], [1, 3, 4, 5], [0, 1, 3, 4, 5], [2, 3, 4, 5], [0, 2, 3, 4, 5], [1, 2, 3, 4, 5], [0, 1, 2, 3, 4, 5]]
def al : List (List Int) := [[], [0], [1], [2], [3], [4], [5], [0, 1], [0, 2], [0, 3], [0, 4], [0, 5], [1, 2], [1, 3], [1, 4], [1, 5], [2, 3], [2, 4], [2, 5], [3, 4], [3, 5], [4, 5], [0, 1, 2], [0, 1, 3], [0, 1, 4], [0, 1, 5], [0, 2, 3], [0, 2, 4], [0, 2, 5], [0, 3, 4], [0, 3, 5], [0, 4, 5], [1, 2, 3], [1, 2, 4], [1, 2, 5], [1, 3, 4], [1, 3, 5], [1, 4, 5], [2, 3, 4], [2, 3, 5], [2, 4, 5], [3, 4, 5], [0, 1, 2, 3], [0, 1, 2, 4], [0, 1, 2, 5], [0, 1, 3, 4], [0, 1, 3, 5], [0, 1, 4, 5], [0, 2, 3, 4], [0, 2, 3, 5], [0, 2, 4, 5], [0, 3, 4, 5], [1, 2, 3, 4], [1, 2, 3, 5], [1, 2, 4, 5], [1, 3, 4, 5], [2, 3, 4, 5], [0, 1, 2, 3, 4], [0, 1, 2, 3, 5], [0, 1, 2, 4, 5], [0, 1, 3, 4, 5], [0, 2, 3, 4, 5], [1, 2, 3, 4, 5], [0, 1, 2, 3, 4, 5]]
def rkL : List Nat := [0, 1, 2, 7, 3, 8, 12, 22, 4, 9, 13, 23, 16, 26, 32, 42, 5, 10, 14, 24, 17, 27, 33, 43, 19, 29, 35, 45, 38, 48, 52, 57, 6, 11, 15, 25, 18, 28, 34, 44, 20, 30, 36, 46, 39, 49, 53, 58, 21, 31, 37, 47, 40, 50, 54, 59, 41, 51, 55, 60, 56, 61, 62, 63]
def ikL : List Nat := [0, 1, 2, 4, 8, 16, 32, 3, 5, 9, 17, 33, 6, 10, 18, 34, 12, 20, 36, 24, 40, 48, 7, 11, 19, 35, 13, 21, 37, 25, 41, 49, 14, 22, 38, 26, 42, 50, 28, 44, 52, 56, 15, 23, 39, 27, 43, 51, 29, 45, 53, 57, 30, 46, 54, 58, 60, 31, 47, 55, 59, 61, 62, 63]
def rk (k : Nat) : Nat := rkL.getD k 0
def ik (k : Nat) : Nat := ikL.getD k 0
theorem al_eq : allL 7 = al := by kernel_rfl
theorem cl_all : (List.range 64).all (fun k => chK k 6 == cl.getD k []) = true := by kernel_rfl
theorem bet_all : (List.range 64).all (fun i => (List.range 64).all fun j => betL (cl.getD i []) (cl.getD j []) == decide (rk i < rk j)) = true := by kernel_rfl
theorem rk_all : (List.range 64).all (fun k => decide (rk k < 64) && (al[rk k]? == some (cl.getD k [])) && (ik (rk k) == k)) = true := by kernel_rfl
theorem ik_all : (List.range 64).all (fun k => decide (ik k < 64) && (rk (ik k) == k)) = true := by kernel_rfl
theorem al_len : al.length = 64 := by kernel_rfl

theorem ch_cl {k : Nat} (h : k < 64) : chK k 6 = cl.getD k [] := by
  have := List.all_eq_true.1 cl_all k (List.mem_range.2 h)
  simpa using this
theorem bet_rk {i j : Nat} (hi : i < 64) (hj : j < 64) : betL (chK i 6) (chK j 6) = decide (rk i < rk j) := by
  have := List.all_eq_true.1 (List.all_eq_true.1 bet_all i (List.mem_range.2 hi)) j (List.mem_range.2 hj)
  rw [ch_cl hi, ch_cl hj]
  exact of_decide_eq_true (by simpa using this)
theorem al_rk {k : Nat} (h : k < 64) : rk k < 64 ∧ al[rk k]? = some (chK k 6) ∧ ik (rk k) = k := by
  have := List.all_eq_true.1 rk_all k (List.mem_range.2 h)
  simp only [Bool.and_eq_true, decide_eq_true_eq, beq_iff_eq] at this
  rw [ch_cl h]
  exact ⟨this.1.1, this.1.2, this.2⟩
theorem rk_ik {k : Nat} (h : k < 64) : ik k < 64 ∧ rk (ik k) = k := by
  have := List.all_eq_true.1 ik_all k (List.mem_range.2 h)
  simp only [Bool.and_eq_true, decide_eq_true_eq, beq_iff_eq] at this
  exact this
theorem al_at {r : Nat} (h : r < 64) : al[r]? = some (chK (ik r) 6) := by
  obtain ⟨h1, h2⟩ := rk_ik h
  have := (al_rk h1).2.1
  rwa [h2] at this

theorem lk_spec (P : List Int → Bool) : ∀ j, j ≤ 64 → (lkK P j = none ∧ ∀ k, k < j → P (chK k 6) = false) ∨ (∃ i, i < j ∧ P (chK i 6) = true ∧ lkK P j = some (chK i 6) ∧ ∀ k, k < j → P (chK k 6) = true → rk i ≤ rk k)
  | 0, _ => Or.inl ⟨rfl, fun k hk => by omega⟩
  | j + 1, hj => by
    cases hp : P (chK j 6)
    · have e : lkK P (j + 1) = lkK P j := by rw [lkK, if_neg (by simp [hp])]
      rcases lk_spec P j (by omega) with ⟨h1, h2⟩ | ⟨i, hi, h1, h2, h3⟩
      · refine Or.inl ⟨by rw [e]; exact h1, fun k hk => ?_⟩
        by_cases hkj : k = j
        · subst hkj; exact hp
        · exact h2 k (by omega)
      · refine Or.inr ⟨i, by omega, h1, by rw [e]; exact h2, fun k hk hpk => ?_⟩
        by_cases hkj : k = j
        · subst hkj; rw [hp] at hpk; cases hpk
        · exact h3 k (by omega) hpk
    · rcases lk_spec P j (by omega) with ⟨h1, h2⟩ | ⟨i, hi, h1, h2, h3⟩
      · refine Or.inr ⟨j, by omega, hp, by rw [lkK, if_pos hp, h1], fun k hk hpk => ?_⟩
        by_cases hkj : k = j
        · subst hkj; exact Nat.le_refl _
        · rw [h2 k (by omega)] at hpk; cases hpk
      · by_cases hb : rk j < rk i
        · refine Or.inr ⟨j, by omega, hp, ?_, fun k hk hpk => ?_⟩
          · rw [lkK, if_pos hp, h2]
            show (if betL (chK j 6) (chK i 6) = true then _ else _) = _
            rw [bet_rk (by omega) (by omega), if_pos (by simpa using hb)]
          · by_cases hkj : k = j
            · subst hkj; exact Nat.le_refl _
            · have := h3 k (by omega) hpk; omega
        · refine Or.inr ⟨i, by omega, h1, ?_, fun k hk hpk => ?_⟩
          · rw [lkK, if_pos hp, h2]
            show (if betL (chK j 6) (chK i 6) = true then _ else _) = _
            rw [bet_rk (by omega) (by omega), if_neg (by simpa using hb)]
          · by_cases hkj : k = j
            · subst hkj; omega
            · exact h3 k (by omega) hpk

/-- Both searches come to one list. -/
theorem look_same (P : List Int → Bool) : (allL 7).find? P = lkK P 64 := by
  rw [al_eq]
  rcases lk_spec P 64 (Nat.le_refl _) with ⟨h1, h2⟩ | ⟨i, hi, h1, h2, h3⟩
  · rw [h1, List.find?_eq_none]
    intro x hx
    obtain ⟨r, hr, rfl⟩ := List.mem_iff_getElem.1 hx
    rw [al_len] at hr
    have := al_at hr
    rw [List.getElem?_eq_getElem (by rw [al_len]; exact hr)] at this
    rw [Option.some.inj this, h2 _ (rk_ik hr).1]
    simp
  · obtain ⟨r1, r2, r3⟩ := al_rk hi
    rw [h2, List.find?_eq_some_iff_append]
    refine ⟨h1, al.take (rk i), al.drop (rk i + 1), ?_, ?_⟩
    · have hl : rk i < al.length := by rw [al_len]; exact r1
      rw [List.getElem?_eq_getElem hl] at r2
      rw [← Option.some.inj r2, List.getElem_cons_drop, List.take_append_drop]
    · intro x hx
      obtain ⟨r, hr, rfl⟩ := List.mem_iff_getElem.1 hx
      have hr2 : r < rk i := by simp at hr; omega
      rw [List.getElem_take]
      have := al_at (r := r) (by omega)
      rw [List.getElem?_eq_getElem (by rw [al_len]; omega)] at this
      rw [Option.some.inj this]
      cases hp : P (chK (ik r) 6)
      · rfl
      · have hk := rk_ik (k := r) (by omega)
        have := h3 (ik r) hk.1 hp
        rw [hk.2] at this
        omega
end Go.Proofs.Ytbieopkohkomoaa

namespace Go.Proofs.Ytbieopkohkomoaa
open Go.RowKit
set_option maxHeartbeats 400000
set_option maxRecDepth 100000

def posE (w0 w1 w2 w3 w4 F : Int) (gs : List Giv) (a0 a1 a2 a3 a4 a5 r0 r1 r2 r3 r4 r5 : Int) : Int := firstE [err (okB w0 w1 w2 w3 w4 F gs) 13, err (okM a0 a1 a2 a3 a4 a5) 10, err (okR r0 r1 r2 r3 r4 r5) 12]
def posV (w0 w1 w2 w3 w4 F : Int) (gs : List Giv) (a0 a1 a2 a3 a4 a5 r0 r1 r2 r3 r4 r5 : Int) : Bool := if posE w0 w1 w2 w3 w4 F gs a0 a1 a2 a3 a4 a5 r0 r1 r2 r3 r4 r5 = 0 then decide (wcost w0 w1 w2 w3 w4 a0 a1 a2 a3 a4 a5 r0 r1 r2 r3 r4 r5 ≤ F) else false
theorem ret_bi {a c : Bool} {b d : Int} (h1 : a = c) (h2 : b = d) : Ending.returned (.tuple #[.bool a, .int .i64 b]) = Ending.returned (.tuple #[.bool c, .int .i64 d]) := by rw [h1, h2]

theorem possibleX_any (w0 w1 w2 w3 w4 F : Int) (A : Option Addr) (n c : Nat) (gs : List Giv) (a0 a1 a2 a3 a4 a5 r0 r1 r2 r3 r4 r5 : Int) (w : World) (hg : Gs w A n gs) (hnc : n ≤ c) :
    Calls Try.prog 27 #[.agg #[.int .i64 w0, .int .i64 w1, .int .i64 w2, .int .i64 w3, .int .i64 w4, .int .i64 F, .slice A n c], .agg #[.int .i64 a0, .int .i64 a1, .int .i64 a2, .int .i64 a3, .int .i64 a4, .int .i64 a5], .agg #[.int .i64 r0, .int .i64 r1, .int .i64 r2, .int .i64 r3, .int .i64 r4, .int .i64 r5]] w fun e w' => e = .returned (.tuple #[.bool (posV w0 w1 w2 w3 w4 F gs a0 a1 a2 a3 a4 a5 r0 r1 r2 r3 r4 r5), .int .i64 (posE w0 w1 w2 w3 w4 F gs a0 a1 a2 a3 a4 a5 r0 r1 r2 r3 r4 r5)]) ∧ Below w.heap.size w w' := by
  go_enter Try.func27, Try.ntmps27
  go_wp2_with fail
  generalize hW : (World.alloc _ _) = W
  have HW : Hid (Below w.heap.size w W) := Lib.hid (by subst hW; go_grown)
  have KM : Bk W w.heap.size [.int .i64 w0, .int .i64 w1, .int .i64 w2, .int .i64 w3, .int .i64 w4, .int .i64 F, .slice A n c] := ⟨by subst hW; simp only [World.size_alloc]; omega, by subst hW; intro j; simp [go_sem]⟩
  have KA : Bk W (w.heap.size + 1) [Value.int .i64 a0, Value.int .i64 a1, Value.int .i64 a2, Value.int .i64 a3, Value.int .i64 a4, Value.int .i64 a5] := ⟨by subst hW; simp only [World.size_alloc]; omega, by subst hW; intro j; simp [go_sem]⟩
  have KR : Bk W (w.heap.size + 1 + 1) [Value.int .i64 r0, Value.int .i64 r1, Value.int .i64 r2, Value.int .i64 r3, Value.int .i64 r4, Value.int .i64 r5] := ⟨by subst hW; simp only [World.size_alloc]; omega, by subst hW; intro j; simp [go_sem]⟩
  clear hW
  have KMl := KM.lt; have KMc := KM.get; have KAl := KA.lt; have KAc := KA.get; have KRl := KR.lt; have KRc := KR.get
  have HG := Lib.hid (hg.keep HW.out)
  refine wp_region_grow_tail 6 (by kernel_rfl) (by kernel_rfl) ?_
  simp only [List.take_succ_cons, List.take_zero, List.drop_succ_cons, List.drop_zero]
  repeat (go_big_quiet_step ((first | (go_at_call 20; exact quiet_grow rfl (check_any _ _ _ _ _ _ _ _ _ gs _ (HG.out.keep (grow_below _ _)) hnc)) | (go_at_call 14; exact quiet_grow rfl (checkMark_any _ _ _ _ _ _ _)) | (go_at_call 18; exact quiet_grow rfl (checkReading_any _ _ _ _ _ _ _)))))
  refine wpQuiet_nil ?_
  intro z
  by_cases hE : posE w0 w1 w2 w3 w4 F gs a0 a1 a2 a3 a4 a5 r0 r1 r2 r3 r4 r5 = 0
  · have HE := Lib.hid hE
    have hE1 := hE
    unfold posE at hE1
    obtain ⟨o1, o2, o3⟩ := firstE3_0 hE1
    have m2 := (okM_iff _ _ _ _ _ _).1 (err_0 (by decide) o2)
    clear o1 o2 o3
    obtain ⟨⟨p0, q0⟩, ⟨p1, q1⟩, ⟨p2, q2⟩, ⟨p3, q3⟩, ⟨p4, q4⟩, ⟨p5, q5⟩⟩ := m2
    have HE1 := Lib.hid hE1
    clear hE hE1
    have e1 : w.heap.size < W.heap.size + z.blocks.size := by omega
    have e2 : w.heap.size + 1 < W.heap.size + z.blocks.size := by omega
    have e3 : w.heap.size + 1 + 1 < W.heap.size + z.blocks.size := by omega
    go_wp2_with (first
      | (go_at_call 75; refine (first_any _ _ _ _ _ (is3 _ _ _ _ _ _ (by simp))).mono ?_; rintro e x1 ⟨rfl, rfl⟩; rw [HE1.out])
      | (go_at_call 80; refine (possible_any _ _ _ _ _ _ _ _ _ _ _ _ _ _ _ _ _ _ _ _ p0 q0 p1 q1 p2 q2 p3 q3 p4 q4 p5 q5).mono ?_; rintro e x2 ⟨rfl, hb2⟩))
    go_ret2
    refine ⟨ret_bi ?_ HE.out.symm, up HW.out (up (grow_below W z) (up (up_alloc _ _) hb2))⟩
    unfold posV; rw [if_pos HE.out]
  · have HE := Lib.hid hE
    have hb : (posE w0 w1 w2 w3 w4 F gs a0 a1 a2 a3 a4 a5 r0 r1 r2 r3 r4 r5 != 0) = true := by simpa using hE
    clear hE
    go_wp2_with (go_at_call 75; refine (first_any _ _ _ _ _ (is3 _ _ _ _ _ _ (by simp))).mono ?_; rintro e x1 ⟨rfl, rfl⟩; rw [show firstE [err (okB w0 w1 w2 w3 w4 F gs) 13, err (okM a0 a1 a2 a3 a4 a5) 10, err (okR r0 r1 r2 r3 r4 r5) 12] = posE w0 w1 w2 w3 w4 F gs a0 a1 a2 a3 a4 a5 r0 r1 r2 r3 r4 r5 from rfl])
    go_ret2
    refine ⟨ret_bi ?_ rfl, up HW.out (up (grow_below W z) (up_alloc _ _))⟩
    unfold posV; rw [if_neg HE.out]

theorem refPossibleX_any (w0 w1 w2 w3 w4 F : Int) (A : Option Addr) (n c : Nat) (gs : List Giv) (a0 a1 a2 a3 a4 a5 r0 r1 r2 r3 r4 r5 : Int) (w : World) (hg : Gs w A n gs) :
    Calls Try.prog 28 #[.agg #[.int .i64 w0, .int .i64 w1, .int .i64 w2, .int .i64 w3, .int .i64 w4, .int .i64 F, .slice A n c], .agg #[.int .i64 a0, .int .i64 a1, .int .i64 a2, .int .i64 a3, .int .i64 a4, .int .i64 a5], .agg #[.int .i64 r0, .int .i64 r1, .int .i64 r2, .int .i64 r3, .int .i64 r4, .int .i64 r5]] w fun e w' => e = .returned (.tuple #[.bool (posV w0 w1 w2 w3 w4 F gs a0 a1 a2 a3 a4 a5 r0 r1 r2 r3 r4 r5), .int .i64 (posE w0 w1 w2 w3 w4 F gs a0 a1 a2 a3 a4 a5 r0 r1 r2 r3 r4 r5)]) ∧ Below w.heap.size w w' := by
  go_enter Try.func28, Try.ntmps28
  go_wp2_with fail
  generalize hW : (World.alloc _ _) = W
  have HW : Hid (Below w.heap.size w W) := Lib.hid (by subst hW; go_grown)
  have KM : Bk W w.heap.size [.int .i64 w0, .int .i64 w1, .int .i64 w2, .int .i64 w3, .int .i64 w4, .int .i64 F, .slice A n c] := ⟨by subst hW; simp only [World.size_alloc]; omega, by subst hW; intro j; simp [go_sem]⟩
  have KA : Bk W (w.heap.size + 1) [Value.int .i64 a0, Value.int .i64 a1, Value.int .i64 a2, Value.int .i64 a3, Value.int .i64 a4, Value.int .i64 a5] := ⟨by subst hW; simp only [World.size_alloc]; omega, by subst hW; intro j; simp [go_sem]⟩
  have KR : Bk W (w.heap.size + 1 + 1) [Value.int .i64 r0, Value.int .i64 r1, Value.int .i64 r2, Value.int .i64 r3, Value.int .i64 r4, Value.int .i64 r5] := ⟨by subst hW; simp only [World.size_alloc]; omega, by subst hW; intro j; simp [go_sem]⟩
  clear hW
  have KMl := KM.lt; have KMc := KM.get; have KAl := KA.lt; have KAc := KA.get; have KRl := KR.lt; have KRc := KR.get
  have HG := Lib.hid (hg.keep HW.out)
  cases hw : okB w0 w1 w2 w3 w4 F gs
  · have Hw := Lib.hid hw
    clear hw
    refine (refCheck_no _ _ _ _ _ _ _ _ _ gs _ HG.out Hw.out).mono ?_; rintro e x1 ⟨rfl, hb1⟩; clear KMl KMc KAl KAc KRl KRc; replace KM := KM.keep hb1; have KMl := KM.lt; have KMc := KM.get; replace KA := KA.keep hb1; have KAl := KA.lt; have KAc := KA.get; replace KR := KR.keep hb1; have KRl := KR.lt; have KRc := KR.get; have HB1 := Lib.hid hb1; clear hb1
    go_wp2
    go_ret2
    have E : posE w0 w1 w2 w3 w4 F gs a0 a1 a2 a3 a4 a5 r0 r1 r2 r3 r4 r5 = 13 := firstE3_1 Hw.out (by decide)
    exact ⟨ret_bi (by unfold posV; rw [E]; rfl) E.symm, up HW.out HB1.out⟩
  have Hw := Lib.hid hw
  clear hw
  refine (refCheck_yes _ _ _ _ _ _ _ _ _ gs _ HG.out Hw.out).mono ?_; rintro e x1 ⟨rfl, hb1⟩; clear KMl KMc KAl KAc KRl KRc; replace KM := KM.keep hb1; have KMl := KM.lt; have KMc := KM.get; replace KA := KA.keep hb1; have KAl := KA.lt; have KAc := KA.get; replace KR := KR.keep hb1; have KRl := KR.lt; have KRc := KR.get; have HB1 := Lib.hid hb1; clear hb1
  cases hm : okM a0 a1 a2 a3 a4 a5
  · have Hm := Lib.hid hm
    clear hm
    go_wp2_with (go_at_call 15; refine (refCheckMark_no a0 a1 a2 a3 a4 a5 x1 Hm.out).mono ?_; rintro e x2 ⟨rfl, hb2⟩; clear KMl KMc KAl KAc KRl KRc; replace KM := KM.keep hb2; have KMl := KM.lt; have KMc := KM.get; replace KA := KA.keep hb2; have KAl := KA.lt; have KAc := KA.get; replace KR := KR.keep hb2; have KRl := KR.lt; have KRc := KR.get; have HB2 := Lib.hid hb2; clear hb2)
    go_ret2
    have E : posE w0 w1 w2 w3 w4 F gs a0 a1 a2 a3 a4 a5 r0 r1 r2 r3 r4 r5 = 10 := firstE3_2 Hw.out Hm.out (by decide)
    exact ⟨ret_bi (by unfold posV; rw [E]; rfl) E.symm, up HW.out (up HB1.out HB2.out)⟩
  have Hm := Lib.hid hm
  obtain ⟨⟨p0, q0⟩, ⟨p1, q1⟩, ⟨p2, q2⟩, ⟨p3, q3⟩, ⟨p4, q4⟩, ⟨p5, q5⟩⟩ := (okM_iff _ _ _ _ _ _).1 hm
  clear hm
  cases hr : okR r0 r1 r2 r3 r4 r5
  · have Hr := Lib.hid hr
    clear hr
    go_wp2_with (first
      | (go_at_call 15; refine (refCheckMark_yes a0 a1 a2 a3 a4 a5 x1 Hm.out).mono ?_; rintro e x2 ⟨rfl, hb2⟩; clear KMl KMc KAl KAc KRl KRc; replace KM := KM.keep hb2; have KMl := KM.lt; have KMc := KM.get; replace KA := KA.keep hb2; have KAl := KA.lt; have KAc := KA.get; replace KR := KR.keep hb2; have KRl := KR.lt; have KRc := KR.get; have HB2 := Lib.hid hb2; clear hb2)
      | (go_at_call 19; refine (refCheckReading_no r0 r1 r2 r3 r4 r5 _ Hr.out).mono ?_; rintro e x3 ⟨rfl, hb3⟩; clear KMl KMc KAl KAc KRl KRc; replace KM := KM.keep hb3; have KMl := KM.lt; have KMc := KM.get; replace KA := KA.keep hb3; have KAl := KA.lt; have KAc := KA.get; replace KR := KR.keep hb3; have KRl := KR.lt; have KRc := KR.get; have HB3 := Lib.hid hb3; clear hb3))
    go_ret2
    have E : posE w0 w1 w2 w3 w4 F gs a0 a1 a2 a3 a4 a5 r0 r1 r2 r3 r4 r5 = 12 := firstE3_3 Hw.out Hm.out Hr.out (by decide)
    exact ⟨ret_bi (by unfold posV; rw [E]; rfl) E.symm, up HW.out (up HB1.out (up HB2.out HB3.out))⟩
  have Hr := Lib.hid hr
  clear hr
  go_wp2_with (first
    | (go_at_call 15; refine (refCheckMark_yes a0 a1 a2 a3 a4 a5 x1 Hm.out).mono ?_; rintro e x2 ⟨rfl, hb2⟩; clear KMl KMc KAl KAc KRl KRc; replace KM := KM.keep hb2; have KMl := KM.lt; have KMc := KM.get; replace KA := KA.keep hb2; have KAl := KA.lt; have KAc := KA.get; replace KR := KR.keep hb2; have KRl := KR.lt; have KRc := KR.get; have HB2 := Lib.hid hb2; clear hb2)
    | (go_at_call 19; refine (refCheckReading_yes r0 r1 r2 r3 r4 r5 _ Hr.out).mono ?_; rintro e x3 ⟨rfl, hb3⟩; clear KMl KMc KAl KAc KRl KRc; replace KM := KM.keep hb3; have KMl := KM.lt; have KMc := KM.get; replace KA := KA.keep hb3; have KAl := KA.lt; have KAc := KA.get; replace KR := KR.keep hb3; have KRl := KR.lt; have KRc := KR.get; have HB3 := Lib.hid hb3; clear hb3))
  refine wp_region_grow (by kernel_rfl) (by kernel_rfl) ?_
  repeat (go_big_quiet_step ((go_at_call 79; exact quiet_grow rfl (refCost_any _ _ _ _ _ _ _ _ _ _ _ _ _ _ _ _ _ _ p0 q0 p1 q1 p2 q2 p3 q3 p4 q4 p5 q5))))
  refine wpQuiet_nil ?_
  intro z
  go_wp2
  go_ret2
  have E : posE w0 w1 w2 w3 w4 F gs a0 a1 a2 a3 a4 a5 r0 r1 r2 r3 r4 r5 = 0 := firstE3_4 Hw.out Hm.out Hr.out
  exact ⟨ret_bi (by unfold posV; rw [E]; rfl) E.symm, up HW.out (up HB1.out (up HB2.out (up HB3.out (grow_below _ z))))⟩
end Go.Proofs.Ytbieopkohkomoaa

namespace Go.Proofs.Ytbieopkohkomoaa
open Go.RowKit
set_option maxHeartbeats 400000
set_option maxRecDepth 100000

theorem poss1 (w0 w1 w2 w3 w4 F : Int) (g : Giv) (r : Rd) : possAll w0 w1 w2 w3 w4 F [r] g = decide (wcost w0 w1 w2 w3 w4 g.m0 g.m1 g.m2 g.m3 g.m4 g.m5 r.r0 r.r1 r.r2 r.r3 r.r4 r.r5 ≤ F) := by simp [possAll, possR]

theorem refOwnersL_any (w0 w1 w2 w3 w4 F : Int) (A : Option Addr) (n c : Nat) (gs : List Giv) (r : Rd) (w : World) (hg : Gs w A n gs) (hok : ∀ g ∈ gs, g.ok) (h40 : n ≤ 40) :
    Calls Try.prog 86 #[.agg #[.int .i64 w0, .int .i64 w1, .int .i64 w2, .int .i64 w3, .int .i64 w4, .int .i64 F, .slice A n c], .agg #[.int .i64 r.r0, .int .i64 r.r1, .int .i64 r.r2, .int .i64 r.r3, .int .i64 r.r4, .int .i64 r.r5]] w fun e w' =>
      ∃ v, e = .returned v ∧ w'.ownsRow w.heap.size 3 1 v (possG w0 w1 w2 w3 w4 F [r] gs).length (ints (own (possG w0 w1 w2 w3 w4 F [r] gs))) ∧ Below w.heap.size w w' := by
  have Hl : Hid (n = gs.length) := Lib.hid hg.len
  have HK := Lib.hid hok
  clear hok
  obtain ⟨i0, hi, hz0, hz1, hz2⟩ := info_parts info3
  have HI := Lib.hid hi
  have HZ0 := Lib.hid hz0
  have HZ1 := Lib.hid hz1
  have HZ2 := Lib.hid hz2
  clear hi hz0 hz1 hz2
  go_enter Try.func86, Try.ntmps86
  go_wp2
  generalize hW : (World.alloc _ _) = W
  have HW : Hid (Below w.heap.size w W) := Lib.hid (by subst hW; go_grown)
  have KM : Bk W w.heap.size [.int .i64 w0, .int .i64 w1, .int .i64 w2, .int .i64 w3, .int .i64 w4, .int .i64 F, .slice A n c] := ⟨by subst hW; simp only [World.size_alloc]; omega, by subst hW; intro j; simp [go_sem]⟩
  have KR : Bk W (w.heap.size + 1) [.int .i64 r.r0, .int .i64 r.r1, .int .i64 r.r2, .int .i64 r.r3, .int .i64 r.r4, .int .i64 r.r5] := ⟨by subst hW; simp only [World.size_alloc]; omega, by subst hW; intro j; simp [go_sem]⟩
  clear hW
  have KMl := KM.lt; have KMc := KM.get; have KRl := KR.lt; have KRc := KR.get
  have Hg1 := Lib.hid (hg.keep HW.out)
  go_loopw [5, 6] (fun v i wr => ∃ (k : Nat) (z : Gr), k ≤ n ∧ i = .int .i64 k ∧ wr = grow W z ∧ (grow W z).ownsRow W.heap.size 3 1 v (possG w0 w1 w2 w3 w4 F [r] (gs.take k)).length (ints (own (possG w0 w1 w2 w3 w4 F [r] (gs.take k))))) (fun _ i _ => n - (intOf i).toNat)
  case atStart => exact ⟨0, ⟨#[], W.drawn⟩, by omega, rfl, by simp [grow], World.ownsRow_nil _ _ _ _⟩
  case round =>
    obtain ⟨k, z, hk, rfl, rfl, hown⟩ := hrel
    have Hown := Lib.hid hown; clear hown
    have hklen : (possG w0 w1 w2 w3 w4 F [r] (gs.take k)).length ≤ 40 := Nat.le_trans (possG_len w0 w1 w2 w3 w4 F [r] (gs.take k)) (by simp; omega)
    have e1 : w.heap.size < W.heap.size + z.blocks.size := by omega
    have e2 : w.heap.size + 1 < W.heap.size + z.blocks.size := by omega
    by_cases hlt : k < n
    rotate_left
    · obtain rfl : k = n := by omega
      have Hf : Hid (possG w0 w1 w2 w3 w4 F [r] (gs.take k) = possG w0 w1 w2 w3 w4 F [r] gs) := Lib.hid (by rw [List.take_of_length_le (by rw [← Hl.out]; exact Nat.le_refl _)])
      go_wp2
      go_ret
      refine ⟨_, rfl, ?_, up HW.out (grow_below W z)⟩
      rw [← Hf.out]
      exact own_mono Hown.out HW.out.size
    have hkl : k < gs.length := by rw [← Hl.out]; exact hlt
    have Htk : Hid (gs.take (k + 1) = gs.take k ++ [gs[k]]) := Lib.hid (List.take_succ_eq_append_getElem hkl)
    obtain ⟨b, o, rfl, hb, hc⟩ := Hg1.out.get k hkl
    obtain ⟨c0, c1, c2, c3, c4, c5, c6⟩ := hc
    obtain ⟨⟨p0, q0⟩, ⟨p1, q1⟩, ⟨p2, q2⟩, ⟨p3, q3⟩, ⟨p4, q4⟩, ⟨p5, q5⟩⟩ := HK.out _ (List.getElem_mem hkl)
    generalize gs[k] = g at *
    have Hp := Lib.hid (poss1 w0 w1 w2 w3 w4 F g r)
    generalize hX : possG w0 w1 w2 w3 w4 F [r] (gs.take k) = X at *
    have HX := Lib.hid hX
    clear hX
    generalize hnX : X.length = nX at *
    have HnX := Lib.hid hnX
    clear hnX
    have e5 : b < W.heap.size + z.blocks.size := by omega
    go_wp2
    by_cases hp : wcost w0 w1 w2 w3 w4 g.m0 g.m1 g.m2 g.m3 g.m4 g.m5 r.r0 r.r1 r.r2 r.r3 r.r4 r.r5 ≤ F
    · have Hy : Hid (possAll w0 w1 w2 w3 w4 F [r] g = true) := Lib.hid (by rw [Hp.out]; simpa using hp)
      refine wp_region_grow (by kernel_rfl) (by kernel_rfl) ?_
      repeat (go_big_quiet_step ((go_at_call 79; exact quiet_grow rfl (refCost_any _ _ _ _ _ _ _ _ _ _ _ _ _ _ _ _ _ _ p0 q0 p1 q1 p2 q2 p3 q3 p4 q4 p5 q5))))
      refine wpQuiet_nil ?_
      intro z1
      obtain ⟨y, hy⟩ := grow_grow W z z1
      have Ho : Hid ((grow W y).ownsRow W.heap.size 3 1 _ nX (ints (own X))) := Lib.hid (by rw [← hy]; exact own_below Hown.out (grow_below _ z1))
      rw [hy]
      clear hy
      have f1 : w.heap.size < W.heap.size + y.blocks.size := by omega
      have f5 : b < W.heap.size + y.blocks.size := by omega
      go_wp2_with (at_builtin; refine wpList_append_own _ rfl _ _ 54 rfl W.heap.size 3 i0 (.int .i64 0) 1 8 Try.underlying54 HI.out HZ0.out HZ1.out HZ2.out rfl (by decide) _ _ _ rfl (Ho.out.alloc _) ⟨W.heap.size + y.blocks.size, 0, none⟩ 1 1 [.int .i64 g.o] rfl rfl ?c1 ?c2 ?c3 ?c4 ?c5 ?_)
      case c1 =>
        intro j u hu
        rw [Addr.add_lit, World.cell?_alloc_at _ _ _ _ (by simp), Nat.zero_add]
        simpa using hu
      case c2 => intro u hu; simp at hu; subst hu; rfl
      case c3 => unfold maxLen; omega
      case c4 => omega
      case c5 => simp; omega
      intro v' w' hown' hgr _
      have hbel : Below W.heap.size W w' := (up (grow_below W y) (up_alloc _ _)).grown hgr (by simp; omega) (fun q hq => (Ho.out.lt q hq).1)
      have Hown' := Lib.hid hown'
      clear hown' hgr
      obtain ⟨y2, rfl⟩ := below_grow hbel
      go_wp2
      refine ⟨⟨k + 1, y2, by omega, by go_num, rfl, ?_⟩, by simp [intOf]; omega⟩
      rw [Htk.out, possG_yes Hy.out, HX.out, own_snoc, ints_snoc, List.length_append, HnX.out]
      exact Hown'.out
    · have Hy : Hid (possAll w0 w1 w2 w3 w4 F [r] g = false) := Lib.hid (by rw [Hp.out]; simpa using hp)
      refine wp_region_grow (by kernel_rfl) (by kernel_rfl) ?_
      repeat (go_big_quiet_step ((go_at_call 79; exact quiet_grow rfl (refCost_any _ _ _ _ _ _ _ _ _ _ _ _ _ _ _ _ _ _ p0 q0 p1 q1 p2 q2 p3 q3 p4 q4 p5 q5))))
      refine wpQuiet_nil ?_
      intro z1
      obtain ⟨y, hy⟩ := grow_grow W z z1
      have Ho : Hid ((grow W y).ownsRow W.heap.size 3 1 _ nX (ints (own X))) := Lib.hid (by rw [← hy]; exact own_below Hown.out (grow_below _ z1))
      rw [hy]
      clear hy
      go_wp2
      refine ⟨⟨k + 1, y, by omega, by go_num, rfl, ?_⟩, by simp [intOf]; omega⟩
      rw [Htk.out, possG_no Hy.out, HX.out, HnX.out]
      exact Ho.out

theorem refOwners_any (w0 w1 w2 w3 w4 F : Int) (A : Option Addr) (n c : Nat) (gs : List Giv) (r : Rd) (w : World) (hg : Gs w A n gs) :
    Calls Try.prog 33 #[.agg #[.int .i64 w0, .int .i64 w1, .int .i64 w2, .int .i64 w3, .int .i64 w4, .int .i64 F, .slice A n c], .agg #[.int .i64 r.r0, .int .i64 r.r1, .int .i64 r.r2, .int .i64 r.r3, .int .i64 r.r4, .int .i64 r.r5]] w fun e w' =>
      ∃ v, e = .returned (.tuple #[v, .int .i64 (brE w0 w1 w2 w3 w4 F gs r)]) ∧ w'.ownsRow w.heap.size 3 1 v (brG w0 w1 w2 w3 w4 F gs r).length (ints (own (brG w0 w1 w2 w3 w4 F gs r))) ∧ Below w.heap.size w w' := by
  have Hl : Hid (n = gs.length) := Lib.hid hg.len
  go_enter Try.func33, Try.ntmps33
  go_wp2_with fail
  generalize hW : (World.alloc _ _) = W
  have HW : Hid (Below w.heap.size w W) := Lib.hid (by subst hW; go_grown)
  have KM : Bk W w.heap.size [.int .i64 w0, .int .i64 w1, .int .i64 w2, .int .i64 w3, .int .i64 w4, .int .i64 F, .slice A n c] := ⟨by subst hW; simp only [World.size_alloc]; omega, by subst hW; intro j; simp [go_sem]⟩
  have KR : Bk W (w.heap.size + 1) [.int .i64 r.r0, .int .i64 r.r1, .int .i64 r.r2, .int .i64 r.r3, .int .i64 r.r4, .int .i64 r.r5] := ⟨by subst hW; simp only [World.size_alloc]; omega, by subst hW; intro j; simp [go_sem]⟩
  clear hW
  have KMl := KM.lt; have KMc := KM.get; have KRl := KR.lt; have KRc := KR.get
  have HG := Lib.hid (hg.keep HW.out)
  cases hb : okB w0 w1 w2 w3 w4 F gs
  · have Hb := Lib.hid hb
    clear hb
    refine (refCheck_no _ _ _ _ _ _ _ _ _ gs _ HG.out Hb.out).mono ?_; rintro e x1 ⟨rfl, hb1⟩; clear KMl KMc KRl KRc; replace KM := KM.keep hb1; have KMl := KM.lt; have KMc := KM.get; replace KR := KR.keep hb1; have KRl := KR.lt; have KRc := KR.get; have HB1 := Lib.hid hb1; clear hb1
    go_wp2
    go_ret2
    refine ⟨_, by rw [brE_1 Hb.out]; rfl, ?_, up HW.out HB1.out⟩
    unfold brG; rw [brE_1 Hb.out]; exact World.ownsRow_nil _ _ _ _
  have Hb := Lib.hid hb
  clear hb
  refine (refCheck_yes _ _ _ _ _ _ _ _ _ gs _ HG.out Hb.out).mono ?_; rintro e x1 ⟨rfl, hb1⟩; replace HG := Lib.hid (HG.out.keep hb1); clear KMl KMc KRl KRc; replace KM := KM.keep hb1; have KMl := KM.lt; have KMc := KM.get; replace KR := KR.keep hb1; have KRl := KR.lt; have KRc := KR.get; have HB1 := Lib.hid hb1; clear hb1
  have h40 : n ≤ 40 := by have := Hl.out; have := okB_40 Hb.out; omega
  cases hr : r.ok
  · have Hr := Lib.hid hr
    clear hr
    go_wp2_with (go_at_call 19; refine (refCheckReading_no _ _ _ _ _ _ _ Hr.out).mono ?_; rintro e x2 ⟨rfl, hb2⟩; clear KMl KMc KRl KRc; replace KM := KM.keep hb2; have KMl := KM.lt; have KMc := KM.get; replace KR := KR.keep hb2; have KRl := KR.lt; have KRc := KR.get; have HB2 := Lib.hid hb2; clear hb2)
    go_ret2
    refine ⟨_, by rw [brE_2 Hb.out Hr.out]; rfl, ?_, up HW.out (up HB1.out HB2.out)⟩
    unfold brG; rw [brE_2 Hb.out Hr.out]; exact World.ownsRow_nil _ _ _ _
  have Hr := Lib.hid hr
  clear hr
  go_wp2_with (first
    | (go_at_call 19; refine (refCheckReading_yes _ _ _ _ _ _ _ Hr.out).mono ?_; rintro e x2 ⟨rfl, hb2⟩; replace HG := Lib.hid (HG.out.keep hb2); clear KMl KMc KRl KRc; replace KM := KM.keep hb2; have KMl := KM.lt; have KMc := KM.get; replace KR := KR.keep hb2; have KRl := KR.lt; have KRc := KR.get; have HB2 := Lib.hid hb2; clear hb2)
    | (go_at_call 86; refine (refOwnersL_any _ _ _ _ _ _ _ _ _ gs r _ HG.out (okB_ok Hb.out) h40).mono ?_; rintro e x3 ⟨v, rfl, hown, hb3⟩; have Hown := Lib.hid hown; clear hown; have HB3 := Lib.hid hb3; clear hb3))
  go_ret2
  refine ⟨_, by rw [brE_0 Hb.out Hr.out]; rfl, ?_, up HW.out (up HB1.out (up HB2.out HB3.out))⟩
  unfold brG; rw [brE_0 Hb.out Hr.out]
  exact own_mono Hown.out (by have := HW.out.size; have := HB1.out.size; have := HB2.out.size; omega)
end Go.Proofs.Ytbieopkohkomoaa

