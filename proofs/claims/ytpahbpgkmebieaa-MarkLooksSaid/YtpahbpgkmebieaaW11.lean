/- Where a number is in a list; the first error; two lists the same. Own text. -/
import Derived.Test.YtpahbpgkmebieaaW10
namespace Go.Proofs.Ytpahbpgkmebieaa
open Go.RowKit
set_option maxHeartbeats 400000
set_option maxRecDepth 100000

/-- The index of a number from k on, -1 if there is none. -/
def pos (l : List Int) (x : Int) (k : Nat) : Int :=
  match l with
  | [] => -1
  | y :: r => if (y == x) = true then k else pos r x (k + 1)
theorem pos_yes {y x : Int} (r : List Int) (k : Nat) (h : y = x) : pos (y :: r) x k = k := by unfold pos; rw [if_pos (by simp [h])]
theorem pos_no {y x : Int} (r : List Int) (k : Nat) (h : y ≠ x) : pos (y :: r) x k = pos r x (k + 1) := by rw [pos, if_neg (by simp [h])]

theorem index_any (A : Option Addr) (n c : Nat) (l : List Int) (x : Int) (w : World) (hg : Is w A n l) :
    Calls Try.prog 106 #[.slice A n c, .int .i64 x] w fun e w' => e = .returned (.int .i64 (pos l x 0)) ∧ w = w' := by
  have hn := hg.small
  have Hl : Hid (n = l.length) := Lib.hid hg.len
  go_enter Try.func106, Try.ntmps106
  go_wp2
  go_loop [8] (fun i => ∃ (k : Nat), k ≤ n ∧ i = .int .i64 k ∧ pos (l.drop k) x k = pos l x 0) (fun i => n - (intOf i).toNat)
  case atStart => exact ⟨0, by omega, rfl, rfl⟩
  case round =>
    obtain ⟨k, hk, rfl, hp⟩ := hrel
    have Hp := Lib.hid hp; clear hp
    by_cases hlt : k < n
    · have hkl : k < l.length := by rw [← Hl.out]; exact hlt
      have Hd : Hid (l.drop k = l[k] :: l.drop (k + 1)) := Lib.hid (List.drop_eq_getElem_cons hkl)
      obtain ⟨b, o, rfl, hb, hc⟩ := hg.get k hkl
      generalize l[k] = y at *
      by_cases hy : x = y
      · have hy1 : (x == y) = true := by simpa using hy
        have Hy := Lib.hid hy
        clear hy
        go_wp2
        go_ret
        refine ⟨congrArg (fun v => Ending.returned (Value.int .i64 v)) ?_, rfl⟩
        rw [← Hp.out, Hd.out, pos_yes _ _ Hy.out.symm]
      · have hy1 : (x == y) = false := by simpa using hy
        have Hy := Lib.hid hy
        clear hy
        go_wp2
        refine ⟨⟨k + 1, by omega, by go_num, ?_⟩, by simp [intOf]; omega⟩
        rw [← Hp.out, Hd.out, pos_no _ _ (fun h => Hy.out h.symm)]
    · obtain rfl : k = n := by omega
      go_wp2
      go_ret
      refine ⟨congrArg (fun v => Ending.returned (Value.int .i64 v)) ?_, rfl⟩
      rw [← Hp.out, Hl.out, List.drop_length]; rfl

/-- The first that is not 0. -/
def firstE : List Int → Int
  | [] => 0
  | y :: r => if (y != 0) = true then y else firstE r
theorem firstE_yes {y : Int} (r : List Int) (h : (y != 0) = true) : firstE (y :: r) = y := by unfold firstE; rw [if_pos h]
theorem firstE_no {y : Int} (r : List Int) (h : (y != 0) = false) : firstE (y :: r) = firstE r := by rw [firstE, if_neg (by simp [h])]

theorem first_any (A : Option Addr) (n c : Nat) (l : List Int) (w : World) (hg : Is w A n l) :
    Calls Try.prog 75 #[.slice A n c] w fun e w' => e = .returned (.int .i64 (firstE l)) ∧ w = w' := by
  have hn := hg.small
  have Hl : Hid (n = l.length) := Lib.hid hg.len
  go_enter Try.func75, Try.ntmps75
  go_wp2
  go_loop [7] (fun i => ∃ (k : Nat), k ≤ n ∧ i = .int .i64 k ∧ firstE (l.drop k) = firstE l) (fun i => n - (intOf i).toNat)
  case atStart => exact ⟨0, by omega, rfl, rfl⟩
  case round =>
    obtain ⟨k, hk, rfl, hp⟩ := hrel
    have Hp := Lib.hid hp; clear hp
    by_cases hlt : k < n
    · have hkl : k < l.length := by rw [← Hl.out]; exact hlt
      have Hd : Hid (l.drop k = l[k] :: l.drop (k + 1)) := Lib.hid (List.drop_eq_getElem_cons hkl)
      obtain ⟨b, o, rfl, hb, hc⟩ := hg.get k hkl
      generalize l[k] = y at *
      cases hy : (y != 0)
      · have Hy := Lib.hid hy
        go_wp2
        refine ⟨⟨k + 1, by omega, by go_num, ?_⟩, by simp [intOf]; omega⟩
        rw [← Hp.out, Hd.out, firstE_no _ Hy.out]
      · have Hy := Lib.hid hy
        go_wp2
        go_ret
        refine ⟨congrArg (fun v => Ending.returned (Value.int .i64 v)) ?_, rfl⟩
        rw [← Hp.out, Hd.out, firstE_yes _ Hy.out]
    · obtain rfl : k = n := by omega
      go_wp2
      go_ret
      refine ⟨congrArg (fun v => Ending.returned (Value.int .i64 v)) ?_, rfl⟩
      rw [← Hp.out, Hl.out, List.drop_length]; rfl

/-- The same lists. -/
def sameL (a b : List Int) : Bool := a == b
theorem same_yes (A A' : Option Addr) (n c c' : Nat) (l : List Int) (w : World) (hg : Is w A n l) (hg' : Is w A' n l) :
    Calls Try.prog 38 #[.slice A n c, .slice A' n c'] w fun e w' => e = .returned (.bool true) ∧ Below w.heap.size w w' := by
  have hn := hg.small
  have Hl : Hid (n = l.length) := Lib.hid hg.len
  go_enter Try.func38, Try.ntmps38
  go_wp2
  go_loopw [5] (fun i wr => ∃ (k : Nat) (z : Gr), k ≤ n ∧ i = .int .i64 k ∧ wr = grow w z) (fun i _ => n - (intOf i).toNat)
  case atStart => exact ⟨0, ⟨#[], w.drawn⟩, by omega, rfl, by simp [grow]⟩
  case round =>
    obtain ⟨k, z, hk, rfl, rfl⟩ := hrel
    by_cases hlt : k < n
    · have hkl : k < l.length := by rw [← Hl.out]; exact hlt
      obtain ⟨b, o, rfl, hb, hc⟩ := hg.get k hkl
      obtain ⟨b', o', rfl, hb', hc'⟩ := hg'.get k hkl
      generalize l[k] = y at *
      have e1 : b < (grow w z).heap.size := by simp; omega
      have e2 : b' < (grow w z).heap.size := by simp; omega
      go_wp2
      refine wp_region_grow (by kernel_rfl) (by kernel_rfl) ?_
      repeat (go_big_quiet_step ((fail)))
      refine wpQuiet_nil ?_
      intro z'
      obtain ⟨x, hx⟩ := grow_grow w z z'
      rw [hx]
      clear hx
      go_wp2
      exact ⟨⟨k + 1, x, by omega, by go_num, rfl⟩, by simp [intOf]; omega⟩
    · obtain rfl : k = n := by omega
      go_wp2
      go_ret
      exact ⟨rfl, grow_below w z⟩
end Go.Proofs.Ytpahbpgkmebieaa
