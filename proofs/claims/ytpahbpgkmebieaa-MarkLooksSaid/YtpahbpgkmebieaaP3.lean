/- The fewest places, in two orders of search: plain facts on lists. Own text. -/
import Derived.Test.YtpahbpgkmebieaaW32
import Derived.Test.YtpahbpgkmebieaaR6
namespace Go.Proofs.Ytpahbpgkmebieaa
open Go Go.RowKit
set_option maxRecDepth 100000

/-- A list is ahead of another one. -/
def aheadL : List Int → List Int → Bool
  | [], [] => false
  | [], _ :: _ => true
  | _ :: _, [] => false
  | x :: r, y :: s => if x = y then aheadL r s else decide (x < y)
/-- Fewer places, or as many and ahead. -/
def betL (a b : List Int) : Bool := decide (a.length < b.length) || (a.length == b.length && aheadL a b)
/-- The best of the first k choices. -/
def lkK (P : List Int → Bool) : Nat → Option (List Int)
  | 0 => none
  | k + 1 => if P (chK k 6) = true then (match lkK P k with | none => some (chK k 6) | some b => if betL (chK k 6) b = true then some (chK k 6) else some b) else lkK P k

def cl : List (List Int) := [[], [0], [1], [0, 1], [2], [0, 2], [1, 2], [0, 1, 2], [3], [0, 3], [1, 3], [0, 1, 3], [2, 3], [0, 2, 3], [1, 2, 3], [0, 1, 2, 3], [4], [0, 4], [1, 4], [0, 1, 4], [2, 4], [0, 2, 4], [1, 2, 4], [0, 1, 2, 4], [3, 4], [0, 3, 4], [1, 3, 4], [0, 1, 3, 4], [2, 3, 4], [0, 2, 3, 4], [1, 2, 3, 4], [0, 1, 2, 3, 4], [5], [0, 5], [1, 5], [0, 1, 5], [2, 5], [0, 2, 5], [1, 2, 5], [0, 1, 2, 5], [3, 5], [0, 3, 5], [1, 3, 5], [0, 1, 3, 5], [2, 3, 5], [0, 2, 3, 5], [1, 2, 3, 5], [0, 1, 2, 3, 5], [4, 5], [0, 4, 5], [1, 4, 5], [0, 1, 4, 5], [2, 4, 5], [0, 2, 4, 5], [1, 2, 4, 5], [0, 1, 2, 4, 5], [3, 4, 5], [0, 3, 4, 5], [1, 3, 4, 5], [0, 1, 3, 4, 5], [2, 3, 4, 5], [0, 2, 3, 4, 5], [1, 2, 3, 4, 5], [0, 1, 2, 3, 4, 5]]
def al : List (List Int) := [[], [0], [1], [2], [3], [4], [5], [0, 1], [0, 2], [0, 3], [0, 4], [0, 5], [1, 2], [1, 3], [1, 4], [1, 5], [2, 3], [2, 4], [2, 5], [3, 4], [3, 5], [4, 5], [0, 1, 2], [0, 1, 3], [0, 1, 4], [0, 1, 5], [0, 2, 3], [0, 2, 4], [0, 2, 5], [0, 3, 4], [0, 3, 5], [0, 4, 5], [1, 2, 3], [1, 2, 4], [1, 2, 5], [1, 3, 4], [1, 3, 5], [1, 4, 5], [2, 3, 4], [2, 3, 5], [2, 4, 5], [3, 4, 5], [0, 1, 2, 3], [0, 1, 2, 4], [0, 1, 2, 5], [0, 1, 3, 4], [0, 1, 3, 5], [0, 1, 4, 5], [0, 2, 3, 4], [0, 2, 3, 5], [0, 2, 4, 5], [0, 3, 4, 5], [1, 2, 3, 4], [1, 2, 3, 5], [1, 2, 4, 5], [1, 3, 4, 5], [2, 3, 4, 5], [0, 1, 2, 3, 4], [0, 1, 2, 3, 5], [0, 1, 2, 4, 5], [0, 1, 3, 4, 5], [0, 2, 3, 4, 5], [1, 2, 3, 4, 5], [0, 1, 2, 3, 4, 5]]
def rkL : List Nat := [0, 1, 2, 7, 3, 8, 12, 22, 4, 9, 13, 23, 16, 26, 32, 42, 5, 10, 14, 24, 17, 27, 33, 43, 19, 29, 35, 45, 38, 48, 52, 57, 6, 11, 15, 25, 18, 28, 34, 44, 20, 30, 36, 46, 39, 49, 53, 58, 21, 31, 37, 47, 40, 50, 54, 59, 41, 51, 55, 60, 56, 61, 62, 63]
def ikL : List Nat := [0, 1, 2, 4, 8, 16, 32, 3, 5, 9, 17, 33, 6, 10, 18, 34, 12, 20, 36, 24, 40, 48, 7, 11, 19, 35, 13, 21, 37, 25, 41, 49, 14, 22, 38, 26, 42, 50, 28, 44, 52, 56, 15, 23, 39, 27, 43, 51, 29, 45, 53, 57, 30, 46, 54, 58, 60, 31, 47, 55, 59, 61, 62, 63]
def rk (k : Nat) : Nat := rkL.getD k 0
def ik (k : Nat) : Nat := ikL.getD k 0
theorem al_eq : allL 7 = al := by kernel_rfl
theorem cl_all : (List.range 64).all (fun k => chK k 6 == cl.getD k []) = true := by kernel_rfl
theorem bet_all : (List.range 64).all (fun i => (List.range 64).all fun j => betL (cl.getD i []) (cl.getD j []) == decide (rk i < rk j)) = true := by kernel_rfl
theorem rk_all : (List.range 64).all (fun k => decide (rk k < 64) && (al[rk k]? == some (cl.getD k [])) && (ik (rk k) == k)) = true := by kernel_rfl
theorem ik_all : (List.range 64).all (fun k => decide (ik k < 64) && (rk (ik k) == k)) = true := by kernel_rfl
theorem al_len : al.length = 64 := by kernel_rfl

theorem ch_cl {k : Nat} (h : k < 64) : chK k 6 = cl.getD k [] := by
  have := List.all_eq_true.1 cl_all k (List.mem_range.2 h)
  simpa using this
theorem bet_rk {i j : Nat} (hi : i < 64) (hj : j < 64) : betL (chK i 6) (chK j 6) = decide (rk i < rk j) := by
  have := List.all_eq_true.1 (List.all_eq_true.1 bet_all i (List.mem_range.2 hi)) j (List.mem_range.2 hj)
  rw [ch_cl hi, ch_cl hj]
  exact of_decide_eq_true (by simpa using this)
theorem al_rk {k : Nat} (h : k < 64) : rk k < 64 ∧ al[rk k]? = some (chK k 6) ∧ ik (rk k) = k := by
  have := List.all_eq_true.1 rk_all k (List.mem_range.2 h)
  simp only [Bool.and_eq_true, decide_eq_true_eq, beq_iff_eq] at this
  rw [ch_cl h]
  exact ⟨this.1.1, this.1.2, this.2⟩
theorem rk_ik {k : Nat} (h : k < 64) : ik k < 64 ∧ rk (ik k) = k := by
  have := List.all_eq_true.1 ik_all k (List.mem_range.2 h)
  simp only [Bool.and_eq_true, decide_eq_true_eq, beq_iff_eq] at this
  exact this
theorem al_at {r : Nat} (h : r < 64) : al[r]? = some (chK (ik r) 6) := by
  obtain ⟨h1, h2⟩ := rk_ik h
  have := (al_rk h1).2.1
  rwa [h2] at this

theorem lk_spec (P : List Int → Bool) : ∀ j, j ≤ 64 → (lkK P j = none ∧ ∀ k, k < j → P (chK k 6) = false) ∨ (∃ i, i < j ∧ P (chK i 6) = true ∧ lkK P j = some (chK i 6) ∧ ∀ k, k < j → P (chK k 6) = true → rk i ≤ rk k)
  | 0, _ => Or.inl ⟨rfl, fun k hk => by omega⟩
  | j + 1, hj => by
    cases hp : P (chK j 6)
    · have e : lkK P (j + 1) = lkK P j := by rw [lkK, if_neg (by simp [hp])]
      rcases lk_spec P j (by omega) with ⟨h1, h2⟩ | ⟨i, hi, h1, h2, h3⟩
      · refine Or.inl ⟨by rw [e]; exact h1, fun k hk => ?_⟩
        by_cases hkj : k = j
        · subst hkj; exact hp
        · exact h2 k (by omega)
      · refine Or.inr ⟨i, by omega, h1, by rw [e]; exact h2, fun k hk hpk => ?_⟩
        by_cases hkj : k = j
        · subst hkj; rw [hp] at hpk; cases hpk
        · exact h3 k (by omega) hpk
    · rcases lk_spec P j (by omega) with ⟨h1, h2⟩ | ⟨i, hi, h1, h2, h3⟩
      · refine Or.inr ⟨j, by omega, hp, by rw [lkK, if_pos hp, h1], fun k hk hpk => ?_⟩
        by_cases hkj : k = j
        · subst hkj; exact Nat.le_refl _
        · rw [h2 k (by omega)] at hpk; cases hpk
      · by_cases hb : rk j < rk i
        · refine Or.inr ⟨j, by omega, hp, ?_, fun k hk hpk => ?_⟩
          · rw [lkK, if_pos hp, h2]
            show (if betL (chK j 6) (chK i 6) = true then _ else _) = _
            rw [bet_rk (by omega) (by omega), if_pos (by simpa using hb)]
          · by_cases hkj : k = j
            · subst hkj; exact Nat.le_refl _
            · have := h3 k (by omega) hpk; omega
        · refine Or.inr ⟨i, by omega, h1, ?_, fun k hk hpk => ?_⟩
          · rw [lkK, if_pos hp, h2]
            show (if betL (chK j 6) (chK i 6) = true then _ else _) = _
            rw [bet_rk (by omega) (by omega), if_neg (by simpa using hb)]
          · by_cases hkj : k = j
            · subst hkj; omega
            · exact h3 k (by omega) hpk

/-- Both searches come to one list. -/
theorem look_same (P : List Int → Bool) : (allL 7).find? P = lkK P 64 := by
  rw [al_eq]
  rcases lk_spec P 64 (Nat.le_refl _) with ⟨h1, h2⟩ | ⟨i, hi, h1, h2, h3⟩
  · rw [h1, List.find?_eq_none]
    intro x hx
    obtain ⟨r, hr, rfl⟩ := List.mem_iff_getElem.1 hx
    rw [al_len] at hr
    have := al_at hr
    rw [List.getElem?_eq_getElem (by rw [al_len]; exact hr)] at this
    rw [Option.some.inj this, h2 _ (rk_ik hr).1]
    simp
  · obtain ⟨r1, r2, r3⟩ := al_rk hi
    rw [h2, List.find?_eq_some_iff_append]
    refine ⟨h1, al.take (rk i), al.drop (rk i + 1), ?_, ?_⟩
    · have hl : rk i < al.length := by rw [al_len]; exact r1
      rw [List.getElem?_eq_getElem hl] at r2
      rw [← Option.some.inj r2, List.getElem_cons_drop, List.take_append_drop]
    · intro x hx
      obtain ⟨r, hr, rfl⟩ := List.mem_iff_getElem.1 hx
      have hr2 : r < rk i := by simp at hr; omega
      rw [List.getElem_take]
      have := al_at (r := r) (by omega)
      rw [List.getElem?_eq_getElem (by rw [al_len]; omega)] at this
      rw [Option.some.inj this]
      cases hp : P (chK (ik r) 6)
      · rfl
      · have hk := rk_ik (k := r) (by omega)
        have := h3 (ik r) hk.1 hp
        rw [hk.2] at this
        omega
end Go.Proofs.Ytpahbpgkmebieaa
