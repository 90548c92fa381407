/- Contracts of functions of the program and of the reference, a calculus of states, and plain facts: a part of a proof. Own text. -/
import Derived.Test.YtjimjdhdnkhfnaaJae
import Derived.Test.YtjimjdhdnkhfnaaJal
import Derived.Test.YtjimjdhdnkhfnaaJam
set_option linter.unusedVariables false
set_option linter.unusedSimpArgs false
set_option linter.unusedSectionVars false
set_option linter.unnecessarySimpa false
namespace Go.Proofs.Ytjimjdhdnkhfnaa
open Go Go.RowKit
set_option maxRecDepth 100000
def numP (l : List Int) : List (List PV) := l.map fun n => [PV.int .i64 n]
def accP (T H N : List (List Int)) : PV := .agg [.list 24 (T.map rowP), .list 9 (H.map rowP), .list 7 (N.map rowP)]
section
variable {im : Nat → Prop} {w : World}
theorem rep_ints : ∀ {x : List Int} {us : List Value}, RepL im w (rowP x) us ↔ us = ints x
  | [], us => by simp [rowP, RepL, ints]
  | a :: x, us => by
    have ih : ∀ us, RepL im w (rowP x) us ↔ us = ints x := fun us => rep_ints
    simp only [rowP, List.map_cons, RepL, RepP, ints] at ih ⊢
    constructor
    · rintro ⟨u, us', rfl, rfl, h⟩
      rw [(ih _).1 h]
    · rintro rfl
      exact ⟨_, _, rfl, rfl, (ih _).2 rfl⟩
theorem rep_rows {k : Nat} {T : List (List Int)} {u : Value} (him : ∀ b, im b → Plain w b) (h : RepP im w (.list k (T.map rowP)) u) (hw : ∀ x ∈ T, x.length = k) : ∃ A c, u = .slice A T.length c ∧ Rw w A T.length k T := by
  simp only [RepP] at h
  obtain ⟨A, n, c, rfl, hn, hc, hm, h⟩ := h
  simp only [List.length_map] at hn
  subst hn
  refine ⟨A, c, rfl, rfl, by simp only [maxLen] at hm; omega, hw, fun i hi => ?_⟩
  rcases h with h | ⟨b, o, rfl, hb, hE⟩
  · have : T = [] := by simpa using h
    subst this
    simp at hi
  · obtain ⟨us, _, _, hr, hl⟩ := hE.get (get_rows hi)
    rw [rep_ints] at hl
    subst hl
    exact ⟨b, o, rfl, (him b hb).1, hr⟩
theorem rep_nums {l : List Int} {u : Value} (him : ∀ b, im b → Plain w b) (h : RepP im w (.list 1 (numP l)) u) : ∃ A c, u = .slice A l.length c ∧ Is w A l.length l := by
  simp only [RepP, numP] at h
  obtain ⟨A, n, c, rfl, hn, hc, hm, h⟩ := h
  simp only [List.length_map] at hn
  subst hn
  refine ⟨A, c, rfl, rfl, by simp only [maxLen] at hm; omega, fun i hi => ?_⟩
  rcases h with h | ⟨b, o, rfl, hb, hE⟩
  · have : l = [] := by simpa using h
    subst this
    simp at hi
  · obtain ⟨us, _, _, hr, hl⟩ := hE.get (i := i) (e := [PV.int .i64 l[i]]) (by simp [hi])
    simp only [RepL, RepP] at hl
    obtain ⟨x, xs, rfl, rfl, rfl⟩ := hl
    refine ⟨b, o, rfl, (him b hb).1, ?_⟩
    have := hr 0 _ rfl
    simpa using this
theorem rep_acc {T H N : List (List Int)} {u : Value} (him : ∀ b, im b → Plain w b) (h : RepP im w (accP T H N) u) (h1 : ∀ x ∈ T, x.length = 24) (h2 : ∀ x ∈ H, x.length = 9) (h3 : ∀ x ∈ N, x.length = 7) :
    ∃ A c S s B e, u = .agg #[.slice A T.length c, .slice S H.length s, .slice B N.length e] ∧ Rw w A T.length 24 T ∧ Rw w S H.length 9 H ∧ Rw w B N.length 7 N := by
  simp only [accP] at h
  have h' : ∃ us : List Value, u = .agg us.toArray ∧ RepL im w [.list 24 (T.map rowP), .list 9 (H.map rowP), .list 7 (N.map rowP)] us := by simpa only [RepP] using h
  obtain ⟨us, rfl, h'⟩ := h'
  have h'' : ∃ a b c, us = [a, b, c] ∧ RepP im w (.list 24 (T.map rowP)) a ∧ RepP im w (.list 9 (H.map rowP)) b ∧ RepP im w (.list 7 (N.map rowP)) c := by
    obtain ⟨a, r, rfl, ha, b, r, rfl, hb, c, r, rfl, hc, rfl⟩ : ∃ a r, us = a :: r ∧ RepP im w (.list 24 (T.map rowP)) a ∧ ∃ b r', r = b :: r' ∧ RepP im w (.list 9 (H.map rowP)) b ∧ ∃ c r'', r' = c :: r'' ∧ RepP im w (.list 7 (N.map rowP)) c ∧ r'' = [] := by simpa only [RepL] using h'
    exact ⟨a, b, c, rfl, ha, hb, hc⟩
  obtain ⟨a, b, c, rfl, ha, hb, hc⟩ := h''
  obtain ⟨A, c1, rfl, hA⟩ := rep_rows him ha h1
  obtain ⟨S, c2, rfl, hS⟩ := rep_rows him hb h2
  obtain ⟨B, c3, rfl, hB⟩ := rep_rows him hc h3
  exact ⟨A, c1, S, c2, B, c3, rfl, hA, hS, hB⟩
theorem rep_agg {x : List Int} {u : Value} (h : RepP im w (.agg (rowP x)) u) : u = .agg ⟨ints x⟩ := by
  simp only [RepP] at h
  obtain ⟨us, rfl, h⟩ := h
  rw [rep_ints.1 h]
theorem agg_rep (x : List Int) : RepP im w (.agg (rowP x)) (.agg ⟨ints x⟩) := by
  simp only [RepP]
  exact ⟨ints x, rfl, rep_ints.2 rfl⟩
theorem L1 {a : PV} {us : List Value} (h : RepL im w [a] us) : ∃ x, us = [x] ∧ RepP im w a x := by
  obtain ⟨x, r, rfl, h1, rfl⟩ : ∃ x r, us = x :: r ∧ RepP im w a x ∧ r = [] := by simpa only [RepL] using h
  exact ⟨x, rfl, h1⟩
theorem L2 {a b : PV} {us : List Value} (h : RepL im w [a, b] us) : ∃ x y, us = [x, y] ∧ RepP im w a x ∧ RepP im w b y := by
  obtain ⟨x, r, rfl, h1, y, r', rfl, h2, rfl⟩ : ∃ x r, us = x :: r ∧ RepP im w a x ∧ ∃ y r', r = y :: r' ∧ RepP im w b y ∧ r' = [] := by simpa only [RepL] using h
  exact ⟨x, y, rfl, h1, h2⟩
theorem L3 {a b c : PV} {us : List Value} (h : RepL im w [a, b, c] us) : ∃ x y z, us = [x, y, z] ∧ RepP im w a x ∧ RepP im w b y ∧ RepP im w c z := by
  obtain ⟨x, r, rfl, h1, y, r', rfl, h2, z, r'', rfl, h3, rfl⟩ : ∃ x r, us = x :: r ∧ RepP im w a x ∧ ∃ y r', r = y :: r' ∧ RepP im w b y ∧ ∃ z r'', r' = z :: r'' ∧ RepP im w c z ∧ r'' = [] := by simpa only [RepL] using h
  exact ⟨x, y, z, rfl, h1, h2, h3⟩
theorem rep_int {n : Int} {u : Value} (h : RepP im w (.int .i64 n) u) : u = .int .i64 n := by simpa only [RepP] using h
theorem int_rep {n : Int} : RepP im w (.int .i64 n) (.int .i64 n) := by simp only [RepP]
theorem bool_rep {b : Bool} : RepP im w (.bool b) (.bool b) := by simp only [RepP]
end
section
variable {T H N : List (List Int)} (h1 : ∀ x ∈ T, x.length = 24) (h2 : ∀ x ∈ H, x.length = 9) (h3 : ∀ x ∈ N, x.length = 7)
include h1 h2 h3
theorem pcheck_does : Does Try.prog 19 [accP T H N] (.int .i64 (err (accOk T H N) 63)) := ⟨fun us w => Try.call19 us w, fun w im us him hr => by
  obtain ⟨x, rfl, hx⟩ := L1 hr
  obtain ⟨A, c, S, s, B, e, rfl, hA, hS, hB⟩ := rep_acc him hx h1 h2 h3
  exact (check_any A _ c T S _ s H B _ e N w hA hS hB).mono (by rintro e w' ⟨rfl, hb⟩; exact ⟨_, rfl, int_rep, hb⟩)⟩
end
set_option maxHeartbeats 2000000
def sumK (g : Int → Int) (f : Int) (k : Nat) : Int := sumL g (dayK f k)
theorem sumK_succ (g : Int → Int) (f : Int) (k : Nat) : sumK g f (k + 1) = sumK g f k + g (f + (k : Int)) := by unfold sumK; rw [dayK_succ, sumL_snoc]
theorem sumK_in {g : Int → Int} (h : ∀ d, 0 ≤ g d ∧ g d ≤ 1000000) (f : Int) : ∀ k : Nat, 0 ≤ sumK g f k ∧ sumK g f k ≤ 1000000 * (k : Int)
  | 0 => by simp [sumK, dayK, sumL]
  | k + 1 => by
    have := sumK_in h f k
    have := h (f + (k : Int))
    rw [sumK_succ]
    omega
theorem lotS_in (E : List Int) (day : Int) (p : Int × Int) (i : Nat) (h : -1 ≤ p.2 ∧ p.2 ≤ max day (-1)) : -1 ≤ (lotS E day p i).2 ∧ (lotS E day p i).2 ≤ max day (-1) := by
  unfold lotS
  split
  · rename_i hc
    dsimp only
    omega
  · exact h
theorem lotN_day (T N : List (List Int)) (h : List Int) (day : Int) : -1 ≤ (lotN T N h day).getD 3 0 ∧ (lotN T N h day).getD 3 0 ≤ max day (-1) := by
  show -1 ≤ (lotK (lotE T N h day) day 4).2 ∧ (lotK (lotE T N h day) day 4).2 ≤ max day (-1)
  generalize lotE T N h day = E
  have : ∀ k, -1 ≤ (lotK E day k).2 ∧ (lotK E day k).2 ≤ max day (-1) := fun k => by
    induction k with
    | zero => simp [lotK]; omega
    | succ k ih => rw [lotK_succ]; exact lotS_in E day _ _ ih
  exact this 4
theorem rates_in {T : List (List Int)} (h1 : ∀ x ∈ T, x.length = 24) (hok : ∀ x ∈ T, tarOk x = true) (d : Int) {j : Nat} (hj : j < 10) : (0 ≤ (tarAt T d).getD (1 + j) 0 ∧ (tarAt T d).getD (1 + j) 0 ≤ 10000) ∧ 0 ≤ (tarAt T d).getD (11 + j) 0 ∧ (tarAt T d).getD (11 + j) 0 ≤ 10000 := by
  unfold tarAt
  cases hf : ifT T d with
  | none =>
    simp only [Option.getD_none]
    have : ∀ q, zero24.getD q 0 = 0 := fun q => by
      by_cases hq : q < 24
      · have : ∀ q : Fin 24, zero24.getD q 0 = 0 := by decide
        exact this ⟨q, hq⟩
      · rw [List.getD_eq_getElem?_getD, List.getElem?_eq_none (by simp [zero24]; omega)]; rfl
    rw [this, this]; omega
  | some x =>
    have hx := hok x (ifT_mem hf)
    have hl := h1 x (ifT_mem hf)
    simp only [Option.getD_some]
    unfold tarOk at hx
    simp only [Bool.and_eq_true] at hx
    obtain ⟨_, hh, hd, _⟩ := hx
    unfold rateOk at hh hd
    simp only [Bool.and_eq_true, List.all_eq_true] at hh hd
    have e1 := inB_iff.1 (hh.1 (x.getD (1 + j) 0) (by
      unfold headT
      have : 1 + j < x.length := by omega
      rw [show x.getD (1 + j) 0 = x[1 + j] by simp [List.getD, this]]
      refine List.mem_of_getElem? (i := j) ?_
      rw [List.getElem?_take_of_lt hj, List.getElem?_drop, List.getElem?_eq_getElem this]))
    have e2 := inB_iff.1 (hd.1 (x.getD (11 + j) 0) (by
      unfold dailT
      have : 11 + j < x.length := by omega
      rw [show x.getD (11 + j) 0 = x[11 + j] by simp [List.getD, this]]
      refine List.mem_of_getElem? (i := j) ?_
      rw [List.getElem?_take_of_lt hj, List.getElem?_drop, List.getElem?_eq_getElem this]))
    exact ⟨e1, e2⟩
def finD (T : List (List Int)) (srt stop d : Int) : Int := if decide (stop < 0) || decide (d < stop) then (tarAt T d).getD (11 + srt.toNat) 0 else 0
def chgN (T N : List (List Int)) (h : List Int) (d : Int) : List Int :=
  if d < h.getD 6 0 then [0, 0, 0]
  else [(tarAt T (h.getD 6 0)).getD (1 + (h.getD 2 0).toNat) 0, sumL (feedD T (h.getD 3 0)) (dayL (h.getD 6 0) (lasN (lotN T N h d) d)), sumL (finD T (h.getD 2 0) ((lotN T N h d).getD 1 0)) (dayL (h.getD 6 0) (lasN (lotN T N h d) d))]
theorem heldOk_bounds {h : List Int} (hk : heldOk h = true) : (1 ≤ h.getD 2 0 ∧ h.getD 2 0 ≤ 9) ∧ (0 ≤ h.getD 3 0 ∧ h.getD 3 0 ≤ 100) ∧ (0 ≤ h.getD 4 0 ∧ h.getD 4 0 ≤ 100000) ∧ (0 ≤ h.getD 5 0 ∧ h.getD 5 0 ≤ 99) ∧ (0 ≤ h.getD 6 0 ∧ h.getD 6 0 ≤ 100000) := by
  unfold heldOk at hk
  simp only [Bool.and_eq_true, inB_iff] at hk
  obtain ⟨_, ⟨_, b⟩, ⟨c, d, e⟩, f, _⟩ := hk
  exact ⟨b, c, d, e, f⟩
def dueP (T : List (List Int)) (h : List Int) (payer s : Int) : List Int :=
  let w := s * (tarAt T (h.getD 6 0)).getD 22 0 / 60
  let v := if 0 < h.getD 5 0 then s * (tarAt T (h.getD 6 0)).getD 23 0 / 60 else 0
  [payer, w, v, s - w - v]
def sum3 (c : List Int) : Int := c.getD 0 0 + c.getD 1 0 + c.getD 2 0
def dueN (T N : List (List Int)) (h : List Int) (d : Int) : List Int :=
  if (lotN T N h d).getD 2 0 = 2 then dueP T h 2 (h.getD 4 0)
  else if (lotN T N h d).getD 2 0 = 3 ∨ (lotN T N h d).getD 0 0 = 0 then [-1, 0, 0, 0]
  else dueP T h (2 + (lotN T N h d).getD 0 0) (sum3 (chgN T N h d))
theorem chgN_in {T N : List (List Int)} (h1 : ∀ x ∈ T, x.length = 24) (hok : ∀ x ∈ T, tarOk x = true) {h : List Int} (hhk : heldOk h = true) {d : Int} (hd : 0 ≤ d ∧ d ≤ 100000) :
    (0 ≤ (chgN T N h d).getD 0 0 ∧ (chgN T N h d).getD 0 0 ≤ 10000) ∧ (0 ≤ (chgN T N h d).getD 1 0 ∧ (chgN T N h d).getD 1 0 ≤ 200000000000) ∧ (0 ≤ (chgN T N h d).getD 2 0 ∧ (chgN T N h d).getD 2 0 ≤ 200000000000) := by
  obtain ⟨b2, b3, b4, b5, b6⟩ := heldOk_bounds hhk
  unfold chgN
  split
  · simp
  · simp only [List.getD_cons_zero, List.getD_cons_succ]
    have hday := lotN_day T N h d
    have hlas : lasN (lotN T N h d) d ≤ 100000 := by
      unfold lasN
      split
      · omega
      · split <;> omega
    have h2 := (rates_in h1 hok (h.getD 6 0) (j := (h.getD 2 0).toNat) (by omega)).1
    have hfd := fun q => feedD_in hok b3 q
    have hfn : ∀ q, 0 ≤ finD T (h.getD 2 0) ((lotN T N h d).getD 1 0) q ∧ finD T (h.getD 2 0) ((lotN T N h d).getD 1 0) q ≤ 1000000 := fun q => by
      have := (rates_in h1 hok q (j := (h.getD 2 0).toNat) (by omega)).2
      unfold finD; split <;> omega
    have s1 := sumK_in hfd (h.getD 6 0) (lasN (lotN T N h d) d - h.getD 6 0 + 1).toNat
    have s2 := sumK_in hfn (h.getD 6 0) (lasN (lotN T N h d) d - h.getD 6 0 + 1).toNat
    unfold sumK at s1 s2
    unfold dayL
    refine ⟨h2, ?_, ?_⟩ <;> omega
theorem tar_share {T : List (List Int)} (hok : ∀ x ∈ T, tarOk x = true) (d : Int) : (0 ≤ (tarAt T d).getD 22 0 ∧ (tarAt T d).getD 22 0 ≤ 60) ∧ (0 ≤ (tarAt T d).getD 23 0 ∧ (tarAt T d).getD 23 0 ≤ 60) ∧ (tarAt T d).getD 22 0 + (tarAt T d).getD 23 0 ≤ 60 := by
  unfold tarAt
  cases hf : ifT T d with
  | none => simp [zero24]
  | some x =>
    have hx := hok x (ifT_mem hf)
    unfold tarOk at hx
    simp only [Bool.and_eq_true, inB_iff, decide_eq_true_eq] at hx
    simp only [Option.getD_some]
    omega
theorem lsOk_all {ok : List Int → Bool} {m : Nat} {L : List (List Int)} (h : lsOk ok m L = true) : ∀ x ∈ L, ok x = true := fun x hx => by
  obtain ⟨k, hk, rfl⟩ := List.mem_iff_getElem.1 hx
  unfold lsOk lsK at h
  simp only [Bool.and_eq_true, List.all_eq_true] at h
  have := h.2 k (List.mem_range.2 hk)
  rw [lsAt_eq hk] at this
  simp only [Bool.and_eq_true] at this
  exact this.1
theorem lsOk_len {ok : List Int → Bool} {m : Nat} {L : List (List Int)} (h : lsOk ok m L = true) : L.length ≤ m := by
  unfold lsOk at h
  simp only [Bool.and_eq_true, decide_eq_true_eq] at h
  exact h.1
theorem accOk_T {T H N : List (List Int)} (h : accOk T H N = true) : ∀ x ∈ T, tarOk x = true := by
  unfold accOk at h; simp only [Bool.and_eq_true] at h; exact lsOk_all h.1
theorem accOk_H {T H N : List (List Int)} (h : accOk T H N = true) : ∀ x ∈ H, heldOk x = true := by
  unfold accOk at h; simp only [Bool.and_eq_true] at h; exact lsOk_all h.2.1
theorem accOk_N {T H N : List (List Int)} (h : accOk T H N = true) : ∀ x ∈ N, noteOk x = true := by
  unfold accOk at h; simp only [Bool.and_eq_true] at h; exact lsOk_all h.2.2
theorem accOk_len {T H N : List (List Int)} (h : accOk T H N = true) : T.length ≤ 8 ∧ H.length ≤ 60 ∧ N.length ≤ 60 := by
  unfold accOk at h; simp only [Bool.and_eq_true] at h; exact ⟨lsOk_len h.1, lsOk_len h.2.1, lsOk_len h.2.2⟩
theorem askE_ok {T H N : List (List Int)} {d : Int} (h : askE T H N d = 0) : accOk T H N = true ∧ 0 ≤ d ∧ d ≤ 100000 := by
  unfold askE err at h
  split at h
  · split at h
    · rename_i a b; exact ⟨a, inB_iff.1 b⟩
    · omega
  · omega
theorem staN_ok {T H N : List (List Int)} {id d : Int} (h : (staN T H N id d).2 = 0) : accOk T H N = true ∧ (0 ≤ d ∧ d ≤ 100000) ∧ (staN T H N id d).1 ∈ H ∧ heldOk (staN T H N id d).1 = true ∧ staP id d (staN T H N id d).1 = true := by
  unfold staN at h ⊢
  by_cases hk : askE T H N d = 0
  · obtain ⟨a, b⟩ := askE_ok hk
    rw [if_pos hk] at h ⊢
    cases hf : H.find? (staP id d) with
    | none => rw [hf] at h; simp at h
    | some x => exact ⟨a, b, List.mem_of_find?_eq_some hf, accOk_H a _ (List.mem_of_find?_eq_some hf), List.find?_some hf⟩
  · rw [if_neg hk] at h
    exact absurd h hk
theorem note_own {n : List Int} (h : noteOk n = true) : 0 ≤ n.getD 3 0 ∧ n.getD 3 0 ≤ 99 := by
  unfold noteOk sayB at h
  simp only [Bool.and_eq_true] at h
  obtain ⟨_, _, h, _⟩ := h
  split at h
  · have := inB_iff.1 h; omega
  · simp only [Bool.and_eq_true, beq_iff_eq] at h; omega
theorem owrN_in {N : List (List Int)} (h : ∀ x ∈ N, noteOk x = true) : 0 ≤ owrN N ∧ owrN N ≤ 99 := by
  have h1 : ∀ (L : List (List Int)) (a : Int × Int), (∀ x ∈ L, noteOk x = true) → 0 ≤ a.2 ∧ a.2 ≤ 99 → 0 ≤ (L.foldl owrS a).2 ∧ (L.foldl owrS a).2 ≤ 99 := by
    intro L
    induction L with
    | nil => intro a _ h; exact h
    | cons x L ih =>
      intro a hL ha
      refine ih _ (fun y hy => hL y (List.mem_cons_of_mem _ hy)) ?_
      unfold owrS
      split
      · exact note_own (hL x (List.mem_cons_self ..))
      · exact ha
  have h2 : ∀ (L : List (List Int)) (t o : Int), (∀ x ∈ L, noteOk x = true) → 0 ≤ o ∧ o ≤ 99 → 0 ≤ L.foldr (owrT t) o ∧ L.foldr (owrT t) o ≤ 99 := by
    intro L
    induction L with
    | nil => intro t o _ h; exact h
    | cons x L ih =>
      intro t o hL ho
      rw [List.foldr_cons]
      unfold owrT
      split
      · exact note_own (hL x (List.mem_cons_self ..))
      · exact ih t o (fun y hy => hL y (List.mem_cons_of_mem _ hy)) ho
  unfold owrN
  have := h1 N (-1, 0) h (by decide)
  split
  · exact this
  · exact h2 N _ _ h this
theorem lotN_own {T N : List (List Int)} (h : ∀ x ∈ N, noteOk x = true) (s : List Int) (d : Int) : 0 ≤ (lotN T N s d).getD 0 0 ∧ (lotN T N s d).getD 0 0 ≤ 99 := by
  show 0 ≤ owrN (sayL N s d) ∧ owrN (sayL N s d) ≤ 99
  exact owrN_in fun x hx => h x (by unfold sayL at hx; exact (List.mem_filter.1 hx).1)
def stR (z : List Int) (g : List Int → List Int) (p : List Int × Int) : List Int × Int := if p.2 = 0 then (g p.1, 0) else (z, p.2)
theorem lasN_in (T N : List (List Int)) (h : List Int) {d : Int} (hd : 0 ≤ d ∧ d ≤ 100000) : -2 ≤ lasN (lotN T N h d) d ∧ lasN (lotN T N h d) d ≤ 100000 := by
  have hLday := lotN_day T N h d
  unfold lasN
  split
  · omega
  · split <;> omega
def srcsN (p : List Int → Bool) (H : List (List Int)) : List Int := (H.filter p).map fun h => h.getD 0 0
def cntH (d : Int) (h : List Int) : Bool := cntB (h.getD 7 0) (h.getD 8 0) d
theorem numP_snoc (l : List Int) (x : Int) : numP (l ++ [x]) = numP l ++ [[PV.int .i64 x]] := by simp [numP]
theorem numP_len (l : List Int) : (numP l).length = l.length := by simp [numP]
end Go.Proofs.Ytjimjdhdnkhfnaa


namespace Go.Proofs.Ytjimjdhdnkhfnaa
open Go Go.RowKit
set_option maxRecDepth 100000
set_option maxHeartbeats 2000000
theorem get_nums {L : List Int} {k : Nat} (h : k < L.length) : (numP L)[k]? = some [PV.int .i64 L[k]] := by simp [numP, h]
def lotR (T H N : List (List Int)) (q d : Int) : List Int × Int := stR [0, 0, 0, 0] (fun h => lotN T N h d) (staN T H N q d)
def dueR (T H N : List (List Int)) (q d : Int) : List Int × Int := stR [0, 0, 0, 0] (fun h => dueN T N h d) (staN T H N q d)
def partsOk (l : List Int) : Prop := (0 ≤ l.getD 1 0 ∧ l.getD 1 0 ≤ 500000000000) ∧ (0 ≤ l.getD 2 0 ∧ l.getD 2 0 ≤ 500000000000) ∧ (0 ≤ l.getD 3 0 ∧ l.getD 3 0 ≤ 500000000000)
theorem dueP_in {T : List (List Int)} (hok : ∀ x ∈ T, tarOk x = true) (h : List Int) (payer s : Int) (hs : 0 ≤ s ∧ s ≤ 500000000000) : partsOk (dueP T h payer s) := by
  obtain ⟨⟨a1, a2⟩, ⟨b1, b2⟩, c⟩ := tar_share hok (h.getD 6 0)
  unfold partsOk dueP
  simp only [List.getD_cons_succ, List.getD_cons_zero]
  generalize (tarAt T (h.getD 6 0)).getD 22 0 = x at *
  generalize (tarAt T (h.getD 6 0)).getD 23 0 = y at *
  have m1 : 0 ≤ s * x := Int.mul_nonneg hs.1 a1
  have m2 : 0 ≤ s * y := Int.mul_nonneg hs.1 b1
  have m3 : s * (x + y) ≤ s * 60 := Int.mul_le_mul_of_nonneg_left c hs.1
  rw [Int.mul_add] at m3
  generalize s * x = u at *
  generalize s * y = v at *
  split <;> omega
theorem dueN_in {T N : List (List Int)} (h1 : ∀ x ∈ T, x.length = 24) (hok : ∀ x ∈ T, tarOk x = true) {h : List Int} (hhk : heldOk h = true) {d : Int} (hd : 0 ≤ d ∧ d ≤ 100000) : partsOk (dueN T N h d) := by
  obtain ⟨b2, b3, b4, b5, b6⟩ := heldOk_bounds hhk
  obtain ⟨c0, c1, c2⟩ := chgN_in (N := N) h1 hok hhk hd
  unfold dueN
  split
  · exact dueP_in hok _ _ _ (by omega)
  · split
    · unfold partsOk; simp
    · exact dueP_in hok _ _ _ (by unfold sum3; omega)
def stsN (T H N : List (List Int)) (d : Int) : List Int := if askE T H N d = 0 then srcsN (cntH d) H else []
def thrE (T H N : List (List Int)) (ok : Bool) (d : Int) : Int := if accOk T H N = true then (if ok = true then askE T H N d else 1) else 63
def oweD (T H N : List (List Int)) (o d q : Int) : Int := if (dueR T H N q d).1.getD 0 0 == 2 + o then (dueR T H N q d).1.getD 3 0 + (dueR T H N q d).1.getD 1 0 + (dueR T H N q d).1.getD 2 0 else 0
def oweN (T H N : List (List Int)) (o d : Int) : Int := if thrE T H N (inB o 1 99) d = 0 then sumL (oweD T H N o d) (stsN T H N d) else 0
end Go.Proofs.Ytjimjdhdnkhfnaa

namespace Go.Proofs.Ytjimjdhdnkhfnaa
open Go Go.RowKit
set_option maxRecDepth 100000
set_option maxHeartbeats 4000000
theorem mod_twice {n m : Int} (hm : 0 < m) : (n.tmod m + m).tmod m = n % m := by
  have h1 : n.tmod m = n - m * (n.tdiv m) := by have := Int.tmod_add_mul_tdiv n m; omega
  have h2 : -m < n.tmod m := Int.lt_tmod_of_pos n hm
  rw [Int.tmod_eq_emod_of_nonneg (by omega), h1]
  rw [show n - m * n.tdiv m + m = n + m * (1 - n.tdiv m) by rw [Int.mul_sub]; omega, Int.add_mul_emod_self_left]
theorem rMod_does (n : Int) {m : Int} (hm : 0 < m) (hm2 : m ≤ 1000000000) : Does Try.prog 7 [.int .i64 n, .int .i64 m] (.int .i64 (n % m)) := by
  obtain ⟨V, hV⟩ : ∃ V, n % m = V := ⟨_, rfl⟩
  have h2 : -m < n.tmod m := Int.lt_tmod_of_pos n hm
  have h3 : n.tmod m < m := Int.tmod_lt_of_pos n hm
  have h4 := mod_twice (n := n) hm
  rw [hV] at h4 ⊢
  have hb1 : -9223372036854775808 ≤ n.tmod m + m := by omega
  have hb2 : n.tmod m + m ≤ 9223372036854775807 := by omega
  refine does_of (own := inPl) Try.func7 rfl Try.ntmps7 (congrArg Array.toList Try.results7) (fun us w => Try.call7 us w) hTT mixed (Nat.le_of_ble_eq_true rfl) ?_
  intro w0 im0 D0 S Cl hS hC ar har
  have har' := har
  obtain ⟨ai, ab, nz, inr, fi, pk, ix, ln, sb, eqi, sl, fits, mn, mx, nt, be, up, fu, mg, mh, ms⟩ := ar
  have F := facts_of har
  clear har
  have hz : nz m = true := F.nz m (by omega)
  have e1 : ai .rem n m = n.tmod m := F.rem n m
  have e2 : ai .add (ai .rem n m) m = n.tmod m + m := by rw [e1]; exact F.add _ _ hb1 hb2
  have e3 : ai .rem (ai .add (ai .rem n m) m) m = V := by rw [e2, F.rem]; exact h4
  cbv
  repeat (rw [hz]; cbv)
  rw [e3]; exact PLe.refl _
def wrp (x : Int) : Int := IntKind.i64.wrap x
def tarM (n : List Int) (f : Int) : List Int := [f, 0, wrp (n.getD 3 0 + 1) % 40, wrp (n.getD 3 0 + 2) % 40, wrp (n.getD 3 0 + 3) % 40, 0, 0, 0, 0, 0, 0, 0, wrp (n.getD 4 0 * 1) % 9, wrp (n.getD 4 0 * 2) % 9, wrp (n.getD 4 0 * 3) % 9, 0, 0, 0, 0, 0, 0, n.getD 0 0 % 12, n.getD 1 0 % 31, n.getD 2 0 % 30]
def tarsM : Int → List (List Int) → List (List Int)
  | _, [] => []
  | f, n :: R => tarM n f :: tarsM (f + 1 + n.getD 5 0 % 60) R
def heldM (i : Int) (n : List Int) : List Int := [10 + i, 1 + n.getD 0 0 % 5, 1 + n.getD 0 0 % 3, n.getD 1 0 % 40, n.getD 2 0 % 900, n.getD 3 0 % 6, n.getD 4 0 % 40, n.getD 5 0 % 60, if n.getD 6 0 % 6 = 0 then n.getD 5 0 % 60 + 1 + n.getD 6 0 % 300 else 0]
def noteM (i : Int) (n : List Int) : List Int := [20 + i, 10 + n.getD 0 0 % 4, 1 + n.getD 1 0 % 3, if 1 + n.getD 1 0 % 3 = 2 then 0 else 1 + n.getD 4 0 % 5, n.getD 2 0 % 450, n.getD 3 0 % 500, if n.getD 5 0 % 5 = 0 then n.getD 3 0 % 500 + 1 + n.getD 5 0 % 200 else 0]
def numbM (g : Int → List Int → List Int) : Int → List (List Int) → List (List Int)
  | _, [] => []
  | i, n :: R => g i n :: numbM g (i + 1) R
theorem tarsM_len : ∀ (R : List (List Int)) (f : Int), (tarsM f R).length = R.length
  | [], _ => rfl
  | n :: R, f => by unfold tarsM; rw [List.length_cons, List.length_cons, tarsM_len R]
theorem numbM_len (g : Int → List Int → List Int) : ∀ (R : List (List Int)) (i : Int), (numbM g i R).length = R.length
  | [], _ => rfl
  | n :: R, i => by unfold numbM; rw [List.length_cons, List.length_cons, numbM_len g R]
theorem numb_step {g : Int → List Int → List Int} {es tgt : List (List PV)} {L : List (List Int)} {k : Nat} {row : List Int} (hlt : k < L.length) (h : es ++ (numbM g (k : Int) (L.drop k)).map rowP = tgt) (hrow : g (k : Int) L[k] = row) :
    (es ++ [rowP row]) ++ (numbM g ((k + 1 : Nat) : Int) (L.drop (k + 1))).map rowP = tgt := by
  rw [List.drop_eq_getElem_cons hlt] at h
  simp only [numbM, List.map_cons] at h
  rw [hrow] at h
  rw [← h, List.append_assoc]; rfl
theorem numb_end {g : Int → List Int → List Int} {es tgt : List (List PV)} {L : List (List Int)} {k : Nat} (hlt : ¬ k < L.length) (h : es ++ (numbM g (k : Int) (L.drop k)).map rowP = tgt) : es = tgt := by
  rw [List.drop_eq_nil_of_le (by omega)] at h
  simpa [numbM] using h
theorem tars_end {es tgt : List (List PV)} {L : List (List Int)} {k : Nat} {f : Int} (hlt : ¬ k < L.length) (h : es ++ (tarsM f (L.drop k)).map rowP = tgt) : es = tgt := by
  rw [List.drop_eq_nil_of_le (by omega)] at h
  simpa [tarsM] using h
theorem share {P G : Prop} (h : P → G) (p : P) : G := h p
theorem mod_in (n : Int) {m : Int} (hm : 0 < m) : 0 ≤ n % m ∧ n % m < m := ⟨Int.emod_nonneg n (by omega), Int.emod_lt_of_pos n hm⟩
theorem rMade_does {A B C : List (List Int)} (h1 : ∀ x ∈ A, x.length = 6) (h2 : ∀ x ∈ B, x.length = 7) (h3 : ∀ x ∈ C, x.length = 6) :
    Does Try.prog 6 [.agg [.list 6 (A.map rowP), .list 7 (B.map rowP), .list 6 (C.map rowP)]] (accP (tarsM 0 (A.take 3)) (numbM heldM 0 (B.take 4)) (numbM noteM 0 (C.take 8))) := by
  obtain ⟨V, hV⟩ : ∃ W, accP (tarsM 0 (A.take 3)) (numbM heldM 0 (B.take 4)) (numbM noteM 0 (C.take 8)) = W := ⟨_, rfl⟩
  rw [hV]
  unfold accP at hV
  refine does_of (own := inPl) Try.func6 rfl Try.ntmps6 (congrArg Array.toList Try.results6) (fun us w => Try.call6 us w) hTT mixed (Nat.le_of_ble_eq_true rfl) ?_
  intro w0 im0 D0 S Cl hS hC ar har
  have har' := har
  obtain ⟨ai, ab, nz, inr, fi, pk, ix, ln, sb, eqi, sl, fits, mn, mx, nt, be, up, fu, mg, mh, ms⟩ := ar
  have F := facts_of har
  clear har
  obtain ⟨eA, hA⟩ : ∃ es, A.map rowP = es := ⟨_, rfl⟩
  obtain ⟨eB, hB⟩ : ∃ es, B.map rowP = es := ⟨_, rfl⟩
  obtain ⟨eC, hC'⟩ : ∃ es, C.map rowP = es := ⟨_, rfl⟩
  rw [hA, hB, hC']
  have hlA : ln eA = A.length := by rw [F.ln, ← hA]; simp
  have hM : ∀ (n m : Int), 0 < m → m ≤ 1000 → Does Try.prog 7 [.int .i64 n, .int .i64 m] (.int .i64 (n % m)) := fun n m a b => rMod_does n a (by omega)
  cbv
  refine hS _ _ _ (sem_mkRowB 3 1000 70 24 0 32 [CV.p .nil, CV.p .nil, CV.p .nil] (by rfl) rfl (by rfl) ?_)
  refine (sem_loopR (fun x : Nat × Int × Int × List (List PV) => [sP 1 1, sP 2 2, sP 3 3, sI 4 x.2.2.1, sI 5 x.2.1, bX 1 25 [cL 6 eA, cL 7 eB, cL 6 eC], bX 2 32 [CV.p .nil, CV.p .nil, CV.p .nil], bX 3 32 [CV.row 1000, CV.p .nil, CV.p .nil], rW 1000 70 24 x.2.2.2]) (fun x => x.1 ≤ 3 ∧ x.1 ≤ A.length ∧ x.2.1 = (x.1 : Int) ∧ (0 ≤ x.2.2.1 ∧ x.2.2.1 ≤ 100 * x.1) ∧ x.2.2.2 ++ (tarsM x.2.2.1 ((A.take 3).drop x.1)).map rowP = (tarsM 0 (A.take 3)).map rowP) (fun x => 3 - x.1) (0, 0, 0, []) (fun t => t) ⟨by cbv, by cbv; try (repeat (first | exact rfl | exact trivial | refine ⟨?_, ?_⟩))⟩ ?_ ?_)
  · exact ⟨by simp, by simp, rfl, by simp, rfl⟩
  rintro ⟨k, i, f, es⟩ ⟨hk3, hk, hi, hf, hes⟩
  dsimp only at hk3 hk hi hf hes
  have hadd : ai .add i 1 = ((k + 1 : Nat) : Int) := by rw [F.add i 1 (by omega) (by omega), hi]; simp
  by_cases hgo : k < A.length ∧ k < 3
  · obtain ⟨hlt, h3k⟩ := hgo
    have hb : ab .lss i (ln eA) = true := by rw [hlA, F.lss, hi]; simpa using hlt
    have hb3 : ab .lss i 3 = true := by rw [F.lss, hi]; exact decide_eq_true (by omega)
    have hg : ix eA i = some (rowP A[k]) := by rw [F.ix _ i k hi, ← hA]; exact get_rows hlt
    have hdrop : (A.take 3).drop k = A[k] :: (A.take 3).drop (k + 1) := by
      have hk' : k < (A.take 3).length := by rw [List.length_take]; omega
      rw [List.drop_eq_getElem_cons hk', List.getElem_take]
    have hn6 := h1 _ (List.getElem_mem hlt)
    obtain ⟨n0, n1, n2, n3, n4, n5, hx⟩ : ∃ n0 n1 n2 n3 n4 n5, A[k] = [n0, n1, n2, n3, n4, n5] := by
      match A[k], hn6 with
      | [a, b, c, d, e, f], _ => exact ⟨a, b, c, d, e, f, rfl⟩
    rw [hx] at hg hdrop
    rw [hdrop] at hes
    simp only [tarsM, tarM, List.getD_cons_succ, List.getD_cons_zero] at hes
    obtain ⟨v0, hv0⟩ : ∃ v, n0 % 12 = v := ⟨_, rfl⟩
    obtain ⟨v1, hv1⟩ : ∃ v, n1 % 31 = v := ⟨_, rfl⟩
    obtain ⟨v2, hv2⟩ : ∃ v, n2 % 30 = v := ⟨_, rfl⟩
    obtain ⟨v5, hv5⟩ : ∃ v, n5 % 60 = v := ⟨_, rfl⟩
    have hv5b : 0 ≤ v5 ∧ v5 < 60 := by omega
    have m0 := hM n0 12 (by decide) (by decide)
    have m1 := hM n1 31 (by decide) (by decide)
    have m2 := hM n2 30 (by decide) (by decide)
    have m5 := hM n5 60 (by decide) (by decide)
    rw [hv0] at m0 hes
    rw [hv1] at m1 hes
    rw [hv2] at m2 hes
    rw [hv5] at m5 hes
    have ef : ai .add f 1 = f + 1 := F.add f 1 (by omega) (by omega)
    have ef2 : ai .add (ai .add f 1) v5 = f + 1 + v5 := by rw [ef]; exact F.add _ _ (by omega) (by omega)
    have hfb : 0 ≤ ai .add (ai .add f 1) v5 ∧ ai .add (ai .add f 1) v5 ≤ 100 * ((k + 1 : Nat) : Int) := by rw [ef2]; omega
    have hwa : ∀ x : Int, ai .add n3 x = wrp (n3 + x) := fun x => F.addw n3 x
    have hwm : ∀ x : Int, ai .mul n4 x = wrp (n4 * x) := fun x => F.mulw n4 x
    refine sem_of (X := ⟨_, TT, ⟨0, 194, inPl⟩⟩) har' hTT mixed ?_
    intro S1 Cl1 hS1 hC1
    cbv
    rw [hb]; cbv
    rw [hb3]; cbv
    repeat (rw [hg]; cbv)
    refine ⟨_, hC1 _ _ _ m0, ?_⟩; cbv
    refine ⟨_, hC1 _ _ _ m1, ?_⟩; cbv
    refine ⟨_, hC1 _ _ _ m2, ?_⟩; cbv
    obtain ⟨w1, hw1⟩ : ∃ w, wrp (n3 + 1) % 40 = w := ⟨_, rfl⟩
    obtain ⟨w2, hw2⟩ : ∃ w, wrp (n3 + 2) % 40 = w := ⟨_, rfl⟩
    obtain ⟨w3, hw3⟩ : ∃ w, wrp (n3 + 3) % 40 = w := ⟨_, rfl⟩
    obtain ⟨u1, hu1⟩ : ∃ w, wrp (n4 * 1) % 9 = w := ⟨_, rfl⟩
    obtain ⟨u2, hu2⟩ : ∃ w, wrp (n4 * 2) % 9 = w := ⟨_, rfl⟩
    obtain ⟨u3, hu3⟩ : ∃ w, wrp (n4 * 3) % 9 = w := ⟨_, rfl⟩
    rw [hw1, hw2, hw3, hu1, hu2, hu3] at hes
    refine hS1 _ _ _ (sem_loopR (fun y : Nat × Int × Int × Int × Int × Int × Int × Int => [sP 1 1, sP 2 2, sP 3 3, sI 4 f, sI 5 i, sP 6 6, sP 7 7, sI 8 y.2.1, bX 1 25 [cL 6 eA, cL 7 eB, cL 6 eC], bX 2 32 [CV.p .nil, CV.p .nil, CV.p .nil], bX 3 32 [CV.row 1000, CV.p .nil, CV.p .nil], bX 6 66 [cI n0, cI n1, cI n2, cI n3, cI n4, cI n5], bX 7 70 [cI f, cI 0, cI y.2.2.1, cI y.2.2.2.1, cI y.2.2.2.2.1, cI 0, cI 0, cI 0, cI 0, cI 0, cI 0, cI 0, cI y.2.2.2.2.2.1, cI y.2.2.2.2.2.2.1, cI y.2.2.2.2.2.2.2, cI 0, cI 0, cI 0, cI 0, cI 0, cI 0, cI v0, cI v1, cI v2], rW 1000 70 24 es]) (fun y => y.1 ≤ 3 ∧ y.2.1 = (y.1 : Int) + 1 ∧ y.2.2.1 = (if 1 ≤ y.1 then w1 else 0) ∧ y.2.2.2.1 = (if 2 ≤ y.1 then w2 else 0) ∧ y.2.2.2.2.1 = (if 3 ≤ y.1 then w3 else 0) ∧ y.2.2.2.2.2.1 = (if 1 ≤ y.1 then u1 else 0) ∧ y.2.2.2.2.2.2.1 = (if 2 ≤ y.1 then u2 else 0) ∧ y.2.2.2.2.2.2.2 = (if 3 ≤ y.1 then u3 else 0)) (fun y => 3 - y.1) (0, 1, 0, 0, 0, 0, 0, 0) (fun t => t) ⟨by cbv, by cbv; try (repeat (first | exact rfl | exact trivial | refine ⟨?_, ?_⟩))⟩ ?_ ?_)
    · exact ⟨by simp, rfl, rfl, rfl, rfl, rfl, rfl, rfl⟩
    rintro ⟨m, s, a1, a2, a3, b1, b2, b3⟩ ⟨hm, hs, ha1, ha2, ha3, hb1, hb2, hb3'⟩
    dsimp only at hm hs ha1 ha2 ha3 hb1 hb2 hb3'
    have hsadd : ai .add s 1 = ((m + 1 : Nat) : Int) + 1 := by rw [F.add s 1 (by omega) (by omega), hs]; simp
    by_cases hlt3 : m < 3
    · have hc3 : ab .leq s 3 = true := by rw [F.leq, hs]; exact decide_eq_true (by omega)
      have z : ∀ (j : Nat) (x y : Int), s ≠ (j : Int) → fu s j x y = y := fun j x y h => by rw [F.fu, if_neg h]
      obtain ⟨q1, hq1⟩ : ∃ w, wrp (n3 + s) % 40 = w := ⟨_, rfl⟩
      obtain ⟨q2, hq2⟩ : ∃ w, wrp (n4 * s) % 9 = w := ⟨_, rfl⟩
      have mq1 := hM (ai .add n3 s) 40 (by decide) (by decide)
      have mq2 := hM (ai .mul n4 s) 9 (by decide) (by decide)
      rw [hwa, hq1, ← hwa] at mq1
      rw [hwm, hq2, ← hwm] at mq2
      have A1 : fu s 1 q1 a1 = if 1 ≤ m + 1 then w1 else 0 := by
        rw [F.fu]; split
        · rename_i e; rw [if_pos (by omega), ← hq1, ← hw1, e]; rfl
        · rename_i e; rw [ha1]; simp only [show (1 ≤ m) ↔ (1 ≤ m + 1) by omega]
      have A2 : fu s 2 q1 a2 = if 2 ≤ m + 1 then w2 else 0 := by
        rw [F.fu]; split
        · rename_i e; rw [if_pos (by omega), ← hq1, ← hw2, e]; rfl
        · rename_i e; rw [ha2]; simp only [show (2 ≤ m) ↔ (2 ≤ m + 1) by omega]
      have A3 : fu s 3 q1 a3 = if 3 ≤ m + 1 then w3 else 0 := by
        rw [F.fu]; split
        · rename_i e; rw [if_pos (by omega), ← hq1, ← hw3, e]; rfl
        · rename_i e; rw [ha3]; simp only [show (3 ≤ m) ↔ (3 ≤ m + 1) by omega]
      have B1 : fu s 1 q2 b1 = if 1 ≤ m + 1 then u1 else 0 := by
        rw [F.fu]; split
        · rename_i e; rw [if_pos (by omega), ← hq2, ← hu1, e]; rfl
        · rename_i e; rw [hb1]; simp only [show (1 ≤ m) ↔ (1 ≤ m + 1) by omega]
      have B2 : fu s 2 q2 b2 = if 2 ≤ m + 1 then u2 else 0 := by
        rw [F.fu]; split
        · rename_i e; rw [if_pos (by omega), ← hq2, ← hu2, e]; rfl
        · rename_i e; rw [hb2]; simp only [show (2 ≤ m) ↔ (2 ≤ m + 1) by omega]
      have B3 : fu s 3 q2 b3 = if 3 ≤ m + 1 then u3 else 0 := by
        rw [F.fu]; split
        · rename_i e; rw [if_pos (by omega), ← hq2, ← hu3, e]; rfl
        · rename_i e; rw [hb3']; simp only [show (3 ≤ m) ↔ (3 ≤ m + 1) by omega]
      have z0 := fun x => z 0 x 0 (by omega)
      have z4 := fun x => z 4 x 0 (by omega)
      have z5 := fun x => z 5 x 0 (by omega)
      have z6 := fun x => z 6 x 0 (by omega)
      have z7 := fun x => z 7 x 0 (by omega)
      have z8 := fun x => z 8 x 0 (by omega)
      have z9 := fun x => z 9 x 0 (by omega)
      have hin : inr 10 s = true := F.inr 10 s (by omega) (by omega)
      refine sem_of (X := ⟨_, TT, ⟨0, 194, inPl⟩⟩) har' hTT mixed ?_
      intro S2 Cl2 hS2 hC2
      cbv
      rw [hc3]; cbv
      refine ⟨_, hC2 _ _ _ mq1, ?_⟩; cbv
      rw [hin]; cbv
      rw [z0 q1, z4 q1, z5 q1, z6 q1, z7 q1, z8 q1, z9 q1]; cbv
      refine ⟨_, hC2 _ _ _ mq2, ?_⟩; cbv
      rw [hin]; cbv
      rw [z0 q2, z4 q2, z5 q2, z6 q2, z7 q2, z8 q2, z9 q2]; cbv
      exact ⟨(m + 1, ai .add s 1, fu s 1 q1 a1, fu s 2 q1 a2, fu s 3 q1 a3, fu s 1 q2 b1, fu s 2 q2 b2, fu s 3 q2 b3), (fun t => t), ⟨hlt3, hsadd, A1, A2, A3, B1, B2, B3⟩, by dsimp only; omega, ⟨by cbv, by cbv; try (repeat (first | exact rfl | exact trivial | refine ⟨?_, ?_⟩))⟩⟩
    · have hc3 : ab .leq s 3 = false := by rw [F.leq, hs]; rw [decide_eq_false_iff_not]; omega
      have hm3 : m = 3 := by omega
      rw [hm3] at ha1 ha2 ha3 hb1 hb2 hb3'
      simp only [if_pos (show 1 ≤ 3 by decide), if_pos (show 2 ≤ 3 by decide), if_pos (show 3 ≤ 3 by decide)] at ha1 ha2 ha3 hb1 hb2 hb3'
      rw [← ha1, ← ha2, ← ha3, ← hb1, ← hb2, ← hb3'] at hes
      have hesl : es.length ≤ 3 := by
        have := congrArg List.length hes
        rw [List.length_append, List.length_map, List.length_map, tarsM_len, List.length_take] at this
        omega
      have hfit : ∀ x, fits 192 es [x] = true := fun x => F.fits _ _ _ (by simp only [List.length_singleton]; omega)
      have hes2 : (es ++ [rowP [f, 0, a1, a2, a3, 0, 0, 0, 0, 0, 0, 0, b1, b2, b3, 0, 0, 0, 0, 0, 0, v0, v1, v2]]) ++ (tarsM (ai .add (ai .add f 1) v5) ((A.take 3).drop (k + 1))).map rowP = (tarsM 0 (A.take 3)).map rowP := by
        rw [← hes, ef2, List.map_cons, List.append_assoc]; rfl
      refine sem_of (X := ⟨_, TT, ⟨0, 194, inPl⟩⟩) har' hTT mixed ?_
      intro S2 Cl2 hS2 hC2
      cbv
      rw [hc3]; cbv
      rw [hfit]; cbv
      refine ⟨_, hC1 _ _ _ m5, ?_⟩; cbv
      exact ⟨(k + 1, ai .add i 1, ai .add (ai .add f 1) v5, es ++ [rowP [f, 0, a1, a2, a3, 0, 0, 0, 0, 0, 0, 0, b1, b2, b3, 0, 0, 0, 0, 0, 0, v0, v1, v2]]), (fun t => bif Nat.beq t 1000 then 66 else t), ⟨h3k, hlt, hadd, hfb, hes2⟩, by dsimp only; omega, ⟨by cbv, by cbv; try (repeat (first | exact rfl | exact trivial | refine ⟨?_, ?_⟩))⟩⟩
  have hend : ab .lss i (ln eA) = false ∨ (ab .lss i (ln eA) = true ∧ ab .lss i 3 = false) := by
    clear hM
    rw [hlA, F.lss, F.lss, hi]
    by_cases c : k < A.length
    · refine .inr ⟨by simpa using c, ?_⟩; rw [decide_eq_false_iff_not]; clear hes; omega
    · exact .inl (by simpa using c)
  have hnl : ¬ k < (A.take 3).length := by clear hes hM; rw [List.length_take]; omega
  have hesE : es = (tarsM 0 (A.take 3)).map rowP := tars_end (L := A.take 3) hnl hes
  obtain ⟨e1, he1⟩ : ∃ e, (tarsM 0 (A.take 3)).map rowP = e := ⟨_, rfl⟩
  rw [he1] at hesE hV
  have hlB : ln eB = B.length := by rw [F.ln, ← hB]; simp
  have hlC : ln eC = C.length := by rw [F.ln, ← hC']; simp
  clear hes hadd hf
  subst hesE
  refine sem_of (X := ⟨_, TT, ⟨0, 194, inPl⟩⟩) har' hTT mixed ?_
  intro S1 Cl1 hS1 hC1
  cbv
  apply share
  case h =>
    intro key
    rcases hend with c1 | ⟨c1, c2⟩
    all_goals (rw [c1]; cbv)
    rotate_left
    rw [c2]; cbv
    all_goals
      refine hS _ _ _ (sem_mkRowB 3 1001 35 9 1 32 [CV.row 1000, CV.p .nil, CV.p .nil] (by rfl) rfl (by rfl) ?_)
      refine (sem_loopR (fun x : Nat × Int × List (List PV) => [sP 1 1, sP 2 2, sP 3 3, sI 9 x.2.1, bX 1 25 [cL 6 eA, cL 7 eB, cL 6 eC], bX 2 32 [CV.p .nil, CV.p .nil, CV.p .nil], bX 3 32 [CV.row 1000, CV.row 1001, CV.p .nil], rW 1000 70 24 es, rW 1001 35 9 x.2.2]) (fun x => x.1 ≤ 4 ∧ x.1 ≤ B.length ∧ x.2.1 = (x.1 : Int) ∧ x.2.2 ++ (numbM heldM (x.1 : Int) ((B.take 4).drop x.1)).map rowP = (numbM heldM 0 (B.take 4)).map rowP) (fun x => 4 - x.1) (0, 0, []) (fun t => t) ⟨by cbv, by cbv; try (repeat (first | exact rfl | exact trivial | refine ⟨?_, ?_⟩))⟩ ?_ ?_)
      · exact ⟨by simp, by simp, rfl, rfl⟩
      exact key
  rintro ⟨k2, i2, es2⟩ ⟨hk4, hk2, hi2, hes2⟩
  dsimp only at hk4 hk2 hi2 hes2
  clear hend
  have hadd : ai .add i2 1 = ((k2 + 1 : Nat) : Int) := by rw [F.add i2 1 (by omega) (by omega), hi2]; simp
  by_cases hgo : k2 < B.length ∧ k2 < 4
  · obtain ⟨hlt, h4k⟩ := hgo
    have hb : ab .lss i2 (ln eB) = true := by rw [hlB, F.lss, hi2]; simpa using hlt
    have hb4 : ab .lss i2 4 = true := by rw [F.lss, hi2]; exact decide_eq_true (by omega)
    have hg : ix eB i2 = some (rowP B[k2]) := by rw [F.ix _ i2 k2 hi2, ← hB]; exact get_rows hlt
    have hltT : k2 < (B.take 4).length := by rw [List.length_take]; omega
    have hn7 := h2 _ (List.getElem_mem hlt)
    obtain ⟨n0, n1, n2, n3, n4, n5, n6, hx⟩ : ∃ n0 n1 n2 n3 n4 n5 n6, B[k2] = [n0, n1, n2, n3, n4, n5, n6] := by
      match B[k2], hn7 with
      | [a, b, c, d, e, f, g], _ => exact ⟨a, b, c, d, e, f, g, rfl⟩
    have hstep := fun row => numb_step (g := heldM) (row := row) hltT hes2
    rw [List.getElem_take, hx, ← hi2] at hstep
    simp only [heldM, List.getD_cons_succ, List.getD_cons_zero] at hstep
    rw [hx] at hg
    have m0 := hM n0 5 (by decide) (by decide)
    have m1 := hM n0 3 (by decide) (by decide)
    have m2 := hM n1 40 (by decide) (by decide)
    have m3 := hM n2 900 (by decide) (by decide)
    have m4 := hM n3 6 (by decide) (by decide)
    have m5 := hM n4 40 (by decide) (by decide)
    have m6 := hM n5 60 (by decide) (by decide)
    have m7 := hM n6 6 (by decide) (by decide)
    have m8 := hM n6 300 (by decide) (by decide)
    have q0 := mod_in n0 (m := 5) (by decide)
    have q1 := mod_in n0 (m := 3) (by decide)
    have q6 := mod_in n5 (m := 60) (by decide)
    have q8 := mod_in n6 (m := 300) (by decide)
    generalize n0 % 5 = v0 at *
    generalize n0 % 3 = v1 at *
    generalize n1 % 40 = v2 at *
    generalize n2 % 900 = v3 at *
    generalize n3 % 6 = v4 at *
    generalize n4 % 40 = v5 at *
    generalize n5 % 60 = v6 at *
    generalize n6 % 6 = v7 at *
    generalize n6 % 300 = v8 at *
    have e0 : ai .add 10 i2 = 10 + i2 := F.add _ _ (by omega) (by omega)
    have e1 : ai .add 1 v0 = 1 + v0 := F.add _ _ (by omega) (by omega)
    have e2 : ai .add 1 v1 = 1 + v1 := F.add _ _ (by omega) (by omega)
    have e3 : ai .add (ai .add v6 1) v8 = v6 + 1 + v8 := by rw [F.add v6 1 (by omega) (by omega)]; exact F.add _ _ (by omega) (by omega)
    rw [← e0, ← e1, ← e2, ← e3] at hstep
    have hesl : es2.length ≤ 4 := by
      have := congrArg List.length hes2
      rw [List.length_append, List.length_map, List.length_map, numbM_len, numbM_len, List.length_take] at this
      omega
    have hfit : ∀ x, fits 72 es2 [x] = true := fun x => F.fits _ _ _ (by simp only [List.length_singleton]; omega)
    have hq : ab .eql v7 0 = decide (v7 = 0) := by rw [F.eql]; by_cases h : v7 = 0 <;> simp [h]
    have hs1 := fun (h : ab .eql v7 0 = true) => hstep _ (by rw [if_pos (of_decide_eq_true (hq.symm.trans h))])
    have hs2 := fun (h : ab .eql v7 0 = false) => hstep _ (by rw [if_neg (of_decide_eq_false (hq.symm.trans h))])
    clear hstep hq e0 e1 e2 e3 q0 q1 q6 q8
    refine sem_of (X := ⟨_, TT, ⟨0, 194, inPl⟩⟩) har' hTT mixed ?_
    intro S2 Cl2 hS2 hC2
    cbv
    rw [hb]; cbv
    rw [hb4]; cbv
    repeat (rw [hg]; cbv)
    refine ⟨_, hC2 _ _ _ m0, ?_⟩; cbv
    refine ⟨_, hC2 _ _ _ m1, ?_⟩; cbv
    refine ⟨_, hC2 _ _ _ m2, ?_⟩; cbv
    refine ⟨_, hC2 _ _ _ m3, ?_⟩; cbv
    refine ⟨_, hC2 _ _ _ m4, ?_⟩; cbv
    refine ⟨_, hC2 _ _ _ m5, ?_⟩; cbv
    refine ⟨_, hC2 _ _ _ m6, ?_⟩; cbv
    refine ⟨_, hC2 _ _ _ m7, ?_⟩; cbv
    cases c7 : ab .eql v7 0
    · have hs2 := hs2 c7
      cbv
      rw [hfit]; cbv
      exact ⟨(k2 + 1, ai .add i2 1, es2 ++ [rowP [ai .add 10 i2, ai .add 1 v0, ai .add 1 v1, v2, v3, v4, v5, v6, 0]]), (fun t => bif Nat.beq t 1001 then 132 else t), ⟨h4k, hlt, hadd, hs2⟩, by dsimp only; omega, ⟨by cbv, by cbv; try (repeat (first | exact rfl | exact trivial | refine ⟨?_, ?_⟩))⟩⟩
    · have hs1 := hs1 c7
      cbv
      refine ⟨_, hC2 _ _ _ m8, ?_⟩; cbv
      rw [hfit]; cbv
      exact ⟨(k2 + 1, ai .add i2 1, es2 ++ [rowP [ai .add 10 i2, ai .add 1 v0, ai .add 1 v1, v2, v3, v4, v5, v6, ai .add (ai .add v6 1) v8]]), (fun t => bif Nat.beq t 1001 then 132 else t), ⟨h4k, hlt, hadd, hs1⟩, by dsimp only; omega, ⟨by cbv, by cbv; try (repeat (first | exact rfl | exact trivial | refine ⟨?_, ?_⟩))⟩⟩
  have hend : ab .lss i2 (ln eB) = false ∨ (ab .lss i2 (ln eB) = true ∧ ab .lss i2 4 = false) := by
    clear hM
    rw [hlB, F.lss, F.lss, hi2]
    by_cases c : k2 < B.length
    · refine .inr ⟨by simpa using c, ?_⟩; rw [decide_eq_false_iff_not]; clear hes2; omega
    · exact .inl (by simpa using c)
  have hnl : ¬ k2 < (B.take 4).length := by clear hes2 hM; rw [List.length_take]; omega
  have hesE : es2 = (numbM heldM 0 (B.take 4)).map rowP := numb_end (L := B.take 4) hnl hes2
  obtain ⟨e2, he2⟩ : ∃ e, (numbM heldM 0 (B.take 4)).map rowP = e := ⟨_, rfl⟩
  rw [he2] at hesE hV
  clear hes2 hadd
  subst hesE
  refine sem_of (X := ⟨_, TT, ⟨0, 194, inPl⟩⟩) har' hTT mixed ?_
  intro S2 Cl2 hS2 hC2
  cbv
  apply share
  case h =>
    intro key
    rcases hend with c1 | ⟨c1, c2⟩
    all_goals (rw [c1]; cbv)
    rotate_left
    rw [c2]; cbv
    all_goals
      refine hS _ _ _ (sem_mkRowB 3 1002 49 7 2 32 [CV.row 1000, CV.row 1001, CV.p .nil] (by rfl) rfl (by rfl) ?_)
      refine (sem_loopR (fun x : Nat × Int × List (List PV) => [sP 1 1, sP 2 2, sP 3 3, sI 12 x.2.1, bX 1 25 [cL 6 eA, cL 7 eB, cL 6 eC], bX 2 32 [CV.p .nil, CV.p .nil, CV.p .nil], bX 3 32 [CV.row 1000, CV.row 1001, CV.row 1002], rW 1000 70 24 es, rW 1001 35 9 es2, rW 1002 49 7 x.2.2]) (fun x => x.1 ≤ 8 ∧ x.1 ≤ C.length ∧ x.2.1 = (x.1 : Int) ∧ x.2.2 ++ (numbM noteM (x.1 : Int) ((C.take 8).drop x.1)).map rowP = (numbM noteM 0 (C.take 8)).map rowP) (fun x => 8 - x.1) (0, 0, []) (fun t => t) ⟨by cbv, by cbv; try (repeat (first | exact rfl | exact trivial | refine ⟨?_, ?_⟩))⟩ ?_ ?_)
      · exact ⟨by simp, by simp, rfl, rfl⟩
      exact key
  rintro ⟨k3, i3, es3⟩ ⟨hk8, hk3, hi3, hes3⟩
  dsimp only at hk8 hk3 hi3 hes3
  clear hend
  have hadd : ai .add i3 1 = ((k3 + 1 : Nat) : Int) := by rw [F.add i3 1 (by omega) (by omega), hi3]; simp
  by_cases hgo : k3 < C.length ∧ k3 < 8
  · obtain ⟨hlt, h8k⟩ := hgo
    have hb : ab .lss i3 (ln eC) = true := by rw [hlC, F.lss, hi3]; simpa using hlt
    have hb8 : ab .lss i3 8 = true := by rw [F.lss, hi3]; exact decide_eq_true (by omega)
    have hg : ix eC i3 = some (rowP C[k3]) := by rw [F.ix _ i3 k3 hi3, ← hC']; exact get_rows hlt
    have hltT : k3 < (C.take 8).length := by rw [List.length_take]; omega
    have hn6 := h3 _ (List.getElem_mem hlt)
    obtain ⟨n0, n1, n2, n3, n4, n5, hx⟩ : ∃ n0 n1 n2 n3 n4 n5, C[k3] = [n0, n1, n2, n3, n4, n5] := by
      match C[k3], hn6 with
      | [a, b, c, d, e, f], _ => exact ⟨a, b, c, d, e, f, rfl⟩
    have hstep := fun row => numb_step (g := noteM) (row := row) hltT hes3
    rw [List.getElem_take, hx, ← hi3] at hstep
    simp only [noteM, List.getD_cons_succ, List.getD_cons_zero] at hstep
    rw [hx] at hg
    have m0 := hM n0 4 (by decide) (by decide)
    have m1 := hM n1 3 (by decide) (by decide)
    have m2 := hM n2 450 (by decide) (by decide)
    have m3 := hM n3 500 (by decide) (by decide)
    have m4 := hM n4 5 (by decide) (by decide)
    have m5 := hM n5 5 (by decide) (by decide)
    have m6 := hM n5 200 (by decide) (by decide)
    have q0 := mod_in n0 (m := 4) (by decide)
    have q1 := mod_in n1 (m := 3) (by decide)
    have q3 := mod_in n3 (m := 500) (by decide)
    have q4 := mod_in n4 (m := 5) (by decide)
    have q6 := mod_in n5 (m := 200) (by decide)
    generalize n0 % 4 = v0 at *
    generalize n1 % 3 = v1 at *
    generalize n2 % 450 = v2 at *
    generalize n3 % 500 = v3 at *
    generalize n4 % 5 = v4 at *
    generalize n5 % 5 = v5 at *
    generalize n5 % 200 = v6 at *
    have e0 : ai .add 20 i3 = 20 + i3 := F.add _ _ (by omega) (by omega)
    have e1 : ai .add 10 v0 = 10 + v0 := F.add _ _ (by omega) (by omega)
    have e2' : ai .add 1 v1 = 1 + v1 := F.add _ _ (by omega) (by omega)
    have e3 : ai .add (ai .add v3 1) v6 = v3 + 1 + v6 := by rw [F.add v3 1 (by omega) (by omega)]; exact F.add _ _ (by omega) (by omega)
    have e4 : ai .add 1 v4 = 1 + v4 := F.add _ _ (by omega) (by omega)
    rw [← e0, ← e1, ← e2', ← e3, ← e4] at hstep
    have hesl : es3.length ≤ 8 := by
      have := congrArg List.length hes3
      rw [List.length_append, List.length_map, List.length_map, numbM_len, numbM_len, List.length_take] at this
      omega
    have hfit : ∀ x, fits 56 es3 [x] = true := fun x => F.fits _ _ _ (by simp only [List.length_singleton]; omega)
    have hq : ab .eql v5 0 = decide (v5 = 0) := by rw [F.eql]; by_cases h : v5 = 0 <;> simp [h]
    have hp : ab .neq (ai .add 1 v1) 2 = !decide (ai .add 1 v1 = 2) := by rw [F.neq]; by_cases h : ai .add 1 v1 = 2 <;> simp [h]
    obtain ⟨b7, hb7⟩ : ∃ b, decide (ai .add 1 v1 = 2) = b := ⟨_, rfl⟩
    obtain ⟨b5, hb5⟩ : ∃ b, decide (v5 = 0) = b := ⟨_, rfl⟩
    rw [hb7] at hp
    rw [hb5] at hq
    have hst := hstep _ rfl
    rw [show (if ai .add 1 v1 = 2 then (0 : Int) else ai .add 1 v4) = (bif b7 then 0 else ai .add 1 v4) by rw [← hb7]; by_cases h : ai .add 1 v1 = 2 <;> simp [h], show (if v5 = 0 then ai .add (ai .add v3 1) v6 else (0 : Int)) = (bif b5 then ai .add (ai .add v3 1) v6 else 0) by rw [← hb5]; by_cases h : v5 = 0 <;> simp [h]] at hst
    clear hstep e0 e1 e2' e3 e4 q0 q1 q3 q4 q6 hb7 hb5
    refine sem_of (X := ⟨_, TT, ⟨0, 194, inPl⟩⟩) har' hTT mixed ?_
    intro S3 Cl3 hS3 hC3
    cbv
    rw [hb]; cbv
    rw [hb8]; cbv
    repeat (rw [hg]; cbv)
    refine ⟨_, hC3 _ _ _ m0, ?_⟩; cbv
    refine ⟨_, hC3 _ _ _ m1, ?_⟩; cbv
    refine ⟨_, hC3 _ _ _ m2, ?_⟩; cbv
    refine ⟨_, hC3 _ _ _ m3, ?_⟩; cbv
    rw [hp]
    cases b7
    · cbv
      refine ⟨_, hC3 _ _ _ m4, ?_⟩; cbv
      refine ⟨_, hC3 _ _ _ m5, ?_⟩; cbv
      rw [hq]
      cases b5
      · cbv
        rw [hfit]; cbv
        exact ⟨(k3 + 1, ai .add i3 1, es3 ++ [rowP [ai .add 20 i3, ai .add 10 v0, ai .add 1 v1, ai .add 1 v4, v2, v3, 0]]), (fun t => bif Nat.beq t 1002 then 191 else t), ⟨h8k, hlt, hadd, hst⟩, by dsimp only; omega, ⟨by cbv, by cbv; try (repeat (first | exact rfl | exact trivial | refine ⟨?_, ?_⟩))⟩⟩
      · cbv
        refine ⟨_, hC3 _ _ _ m6, ?_⟩; cbv
        rw [hfit]; cbv
        exact ⟨(k3 + 1, ai .add i3 1, es3 ++ [rowP [ai .add 20 i3, ai .add 10 v0, ai .add 1 v1, ai .add 1 v4, v2, v3, ai .add (ai .add v3 1) v6]]), (fun t => bif Nat.beq t 1002 then 191 else t), ⟨h8k, hlt, hadd, hst⟩, by dsimp only; omega, ⟨by cbv, by cbv; try (repeat (first | exact rfl | exact trivial | refine ⟨?_, ?_⟩))⟩⟩
    · cbv
      refine ⟨_, hC3 _ _ _ m5, ?_⟩; cbv
      rw [hq]
      cases b5
      · cbv
        rw [hfit]; cbv
        exact ⟨(k3 + 1, ai .add i3 1, es3 ++ [rowP [ai .add 20 i3, ai .add 10 v0, ai .add 1 v1, 0, v2, v3, 0]]), (fun t => bif Nat.beq t 1002 then 191 else t), ⟨h8k, hlt, hadd, hst⟩, by dsimp only; omega, ⟨by cbv, by cbv; try (repeat (first | exact rfl | exact trivial | refine ⟨?_, ?_⟩))⟩⟩
      · cbv
        refine ⟨_, hC3 _ _ _ m6, ?_⟩; cbv
        rw [hfit]; cbv
        exact ⟨(k3 + 1, ai .add i3 1, es3 ++ [rowP [ai .add 20 i3, ai .add 10 v0, ai .add 1 v1, 0, v2, v3, ai .add (ai .add v3 1) v6]]), (fun t => bif Nat.beq t 1002 then 191 else t), ⟨h8k, hlt, hadd, hst⟩, by dsimp only; omega, ⟨by cbv, by cbv; try (repeat (first | exact rfl | exact trivial | refine ⟨?_, ?_⟩))⟩⟩
  have hend : ab .lss i3 (ln eC) = false ∨ (ab .lss i3 (ln eC) = true ∧ ab .lss i3 8 = false) := by
    clear hM
    rw [hlC, F.lss, F.lss, hi3]
    by_cases c : k3 < C.length
    · refine .inr ⟨by simpa using c, ?_⟩; rw [decide_eq_false_iff_not]; clear hes3; omega
    · exact .inl (by simpa using c)
  have hnl : ¬ k3 < (C.take 8).length := by clear hes3 hM; rw [List.length_take]; omega
  have hesE : es3 = (numbM noteM 0 (C.take 8)).map rowP := numb_end (L := C.take 8) hnl hes3
  rw [← hesE] at hV
  clear hes3 hadd
  refine sem_of (X := ⟨_, TT, ⟨0, 194, inPl⟩⟩) har' hTT mixed ?_
  intro S3 Cl3 hS3 hC3
  cbv
  rcases hend with c1 | ⟨c1, c2⟩
  all_goals (rw [c1]; cbv)
  rotate_left
  rw [c2]; cbv
  all_goals
    subst hV
    exact PLe.refl _
def toldP (h : List Int) (T N : List (List Int)) (kn : Int) (lt : List Int) : PV := .agg (rowP h ++ ([.list 24 (T.map rowP), .list 7 (N.map rowP), .int .i64 kn] ++ rowP lt))
section
variable {im : Nat → Prop} {w : World}
theorem repL_split : ∀ {ps qs : List PV} {us : List Value}, RepL im w (ps ++ qs) us → ∃ vs ws, us = vs ++ ws ∧ RepL im w ps vs ∧ RepL im w qs ws
  | [], qs, us, h => ⟨[], us, rfl, rfl, h⟩
  | p :: ps, qs, us, h => by
    obtain ⟨x, xs, rfl, h1, h2⟩ : ∃ x xs, us = x :: xs ∧ RepP im w p x ∧ RepL im w (ps ++ qs) xs := by simpa only [List.cons_append, RepL] using h
    obtain ⟨vs, ws, rfl, h3, h4⟩ := repL_split h2
    exact ⟨x :: vs, ws, rfl, ⟨x, vs, rfl, h1, h3⟩, h4⟩
theorem rep_told {h : List Int} {T N : List (List Int)} {kn : Int} {lt : List Int} {u : Value} (him : ∀ b, im b → Plain w b) (hr : RepP im w (toldP h T N kn lt) u) (h1 : ∀ x ∈ T, x.length = 24) (h3 : ∀ x ∈ N, x.length = 7) :
    ∃ A c B d, u = .agg ⟨tld h A T.length c B N.length d kn lt⟩ ∧ Rw w A T.length 24 T ∧ Rw w B N.length 7 N := by
  obtain ⟨us, rfl, hq⟩ : ∃ us : List Value, u = .agg us.toArray ∧ RepL im w (rowP h ++ ([.list 24 (T.map rowP), .list 7 (N.map rowP), .int .i64 kn] ++ rowP lt)) us := by simpa only [toldP, RepP] using hr
  obtain ⟨vs, ws, rfl, g1, g2⟩ := repL_split hq
  obtain ⟨ws1, ws2, rfl, g3, g4⟩ := repL_split g2
  obtain ⟨x, y, z, rfl, hx, hy, hz⟩ := L3 g3
  obtain ⟨A, c, rfl, hA⟩ := rep_rows him hx h1
  obtain ⟨B, d, rfl, hB⟩ := rep_rows him hy h3
  rw [rep_ints.1 g1, rep_ints.1 g4, rep_int hz]
  exact ⟨A, c, B, d, rfl, hA, hB⟩
end
theorem orE_does (l : List Int) : Does Try.prog 18 [.list 1 (numP l)] (.int .i64 (orE l)) := ⟨fun us w => Try.call18 us w, fun w im us him hr => by
  obtain ⟨x, rfl, hx⟩ := L1 hr
  obtain ⟨A, c, rfl, hA⟩ := rep_nums him hx
  exact (OrE_any A _ c l w hA).mono (by rintro e w' ⟨rfl, rfl⟩; exact ⟨_, rfl, int_rep, Below.refl _ _⟩)⟩
theorem checkDay_does (n : Int) : Does Try.prog 31 [.int .i64 n] (.int .i64 (err (inB n 0 100000) 6)) := ⟨fun us w => Try.call31 us w, fun w im us him hr => by
  obtain ⟨x, rfl, hx⟩ := L1 hr
  rw [rep_int hx]
  exact (checkDay_any n w).mono (by rintro e w' ⟨rfl, rfl⟩; exact ⟨_, rfl, int_rep, Below.refl _ _⟩)⟩
theorem checkOwner_does (n : Int) : Does Try.prog 30 [.int .i64 n] (.int .i64 (err (inB n 1 99) 1)) := ⟨fun us w => Try.call30 us w, fun w im us him hr => by
  obtain ⟨x, rfl, hx⟩ := L1 hr
  rw [rep_int hx]
  exact (checkOwner_any n w).mono (by rintro e w' ⟨rfl, rfl⟩; exact ⟨_, rfl, int_rep, Below.refl _ _⟩)⟩
theorem partyOf_does (n : Int) (h0 : 0 ≤ n) (h1 : n ≤ 1000000) : Does Try.prog 34 [.int .i64 n] (.int .i64 (2 + n)) := ⟨fun us w => Try.call34 us w, fun w im us him hr => by
  obtain ⟨x, rfl, hx⟩ := L1 hr
  rw [rep_int hx]
  exact (partyOf_any n w h0 h1).mono (by rintro e w' ⟨rfl, rfl⟩; exact ⟨_, rfl, int_rep, Below.refl _ _⟩)⟩
theorem counts_does (k u d : Int) : Does Try.prog 35 [.int .i64 k, .int .i64 u, .int .i64 d] (.bool (cntB k u d)) := ⟨fun us w => Try.call35 us w, fun w im us him hr => by
  obtain ⟨x, y, z, rfl, hx, hy, hz⟩ := L3 hr
  rw [rep_int hx, rep_int hy, rep_int hz]
  exact (counts_any k u d w).mono (by rintro e w' ⟨rfl, rfl⟩; exact ⟨_, rfl, bool_rep, Below.refl _ _⟩)⟩
theorem checkNote_does (h : List Int) (hl : h.length = 7) : Does Try.prog 20 [.agg (rowP h)] (.int .i64 (err (noteOk h) 62)) := ⟨fun us w => Try.call20 us w, fun w im us him hr => by
  obtain ⟨x, rfl, hx⟩ := L1 hr
  rw [rep_agg hx]
  exact (checkNote_any h hl w).mono (by rintro e w' ⟨rfl, hb⟩; exact ⟨_, rfl, int_rep, hb⟩)⟩
theorem checkDays_does (D : List Int) : Does Try.prog 27 [.list 1 (numP D)] (.int .i64 (err (daysOk D) 66)) := ⟨fun us w => Try.call27 us w, fun w im us him hr => by
  obtain ⟨x, rfl, hx⟩ := L1 hr
  obtain ⟨A, c, rfl, hA⟩ := rep_nums him hx
  exact (checkDays_any A _ c D w hA).mono (by rintro e w' ⟨rfl, hb⟩; exact ⟨_, rfl, int_rep, hb⟩)⟩
theorem saysOf_does (n h : List Int) (d : Int) (hn : n.length = 7) (hh : h.length = 9) : Does Try.prog 65 [.agg (rowP n), .agg (rowP h), .int .i64 d] (.bool (sayN n h d)) := ⟨fun us w => Try.call65 us w, fun w im us him hr => by
  obtain ⟨x, y, z, rfl, hx, hy, hz⟩ := L3 hr
  rw [rep_agg hx, rep_agg hy, rep_int hz]
  exact (saysOf_any n h d hn hh w).mono (by rintro e w' ⟨rfl, hb⟩; exact ⟨_, rfl, bool_rep, hb⟩)⟩
section
variable {h : List Int} {T N : List (List Int)} {kn : Int} {lt : List Int} (hh : h.length = 9) (hl : lt.length = 4) (h1 : ∀ x ∈ T, x.length = 24) (h3 : ∀ x ∈ N, x.length = 7)
include hh h1 h3
theorem first_does (hl : lt.length = 4) (ks : List Int) : Does Try.prog 67 [toldP h T N kn lt, .list 1 (numP ks)] (.int .i64 (firN ks N)) := ⟨fun us w => Try.call67 us w, fun w im us him hr => by
  obtain ⟨x, y, rfl, hx, hy⟩ := L2 hr
  obtain ⟨A, c, B, d, rfl, hA, hB⟩ := rep_told him hx h1 h3
  obtain ⟨K, s, rfl, hK⟩ := rep_nums him hy
  exact (first_any h A _ c B _ d N kn lt K _ s ks w hh hl hB hK).mono (by rintro e w' ⟨rfl, hb⟩; exact ⟨_, rfl, int_rep, hb⟩)⟩
theorem owner_does : Does Try.prog 66 [toldP h T N kn lt] (.int .i64 (ownN N)) := ⟨fun us w => Try.call66 us w, fun w im us him hr => by
  obtain ⟨x, rfl, hx⟩ := L1 hr
  obtain ⟨A, c, B, d, rfl, hA, hB⟩ := rep_told him hx h1 h3
  exact (owner_any h A _ c B _ d N kn lt w hh hB).mono (by rintro e w' ⟨rfl, hb⟩; exact ⟨_, rfl, int_rep, hb⟩)⟩
theorem tariff_does (day : Int) : Does Try.prog 39 [toldP h T N kn lt, .int .i64 day] (.agg (rowP (tarAt T day))) := ⟨fun us w => Try.call39 us w, fun w im us him hr => by
  obtain ⟨x, y, rfl, hx, hy⟩ := L2 hr
  obtain ⟨A, c, B, d, rfl, hA, hB⟩ := rep_told him hx h1 h3
  rw [rep_int hy]
  exact (tariff_any h A _ c T B _ d kn lt day w hh hA).mono (by rintro e w' ⟨rfl, hb⟩; exact ⟨_, rfl, agg_rep _, hb⟩)⟩
theorem feed_does (hl : lt.length = 4) (hok : ∀ x ∈ T, tarOk x = true) (he : 0 ≤ h.getD 3 0 ∧ h.getD 3 0 ≤ 100) (day : Int) : Does Try.prog 38 [toldP h T N kn lt, .int .i64 day] (.int .i64 (feedD T (h.getD 3 0) day)) := ⟨fun us w => Try.call38 us w, fun w im us him hr => by
  obtain ⟨x, y, rfl, hx, hy⟩ := L2 hr
  obtain ⟨A, c, B, d, rfl, hA, hB⟩ := rep_told him hx h1 h3
  rw [rep_int hy]
  exact (feed_any h A _ c T B _ d kn lt day w hh hl hA hok he).mono (by rintro e w' ⟨rfl, hb⟩; exact ⟨_, rfl, int_rep, hb⟩)⟩
theorem sum_does (hl : lt.length = 4) (hd : -1 ≤ lt.getD 3 0 ∧ lt.getD 3 0 ≤ 1000000) (h6 : 0 ≤ h.getD 6 0 ∧ h.getD 6 0 ≤ 100000) (hL : lasN lt kn ≤ 1000000) (g : FuncId) (fa lb : List PV) (f : Int → Int)
    (hf : ∀ x, h.getD 6 0 ≤ x → x ≤ lasN lt kn → Does Try.prog g (fa ++ [.int .i64 x] ++ lb) (.int .i64 (f x))) (heg : ∀ us w, (callFunc g us).run Try.prog w = .ok (.enter g us) w) (hr : ∀ x, 0 ≤ f x ∧ f x ≤ 1000000) :
    Does Try.prog 37 [toldP h T N kn lt, .fn (.func g) fa lb] (.int .i64 (sumL f (dayL (h.getD 6 0) (lasN lt kn)))) := ⟨fun us w => Try.call37 us w, fun w im us him hr' => by
  obtain ⟨x, y, rfl, hx, hy⟩ := L2 hr'
  obtain ⟨A, c, B, d, rfl, hA, hB⟩ := rep_told him hx h1 h3
  obtain ⟨av, cs, rfl, ha, hc⟩ : ∃ av cs : List Value, y = .func (.func g) av.toArray cs.toArray ∧ RepL im w fa av ∧ RepL im w lb cs := by simpa only [RepP] using hy
  refine (sum_any g av.toArray cs.toArray f h A _ c B _ d kn lt w hh hl hd h6 hL heg (fun X x hX x1 x2 => ?_) hr).mono (by rintro e w' ⟨rfl, hb⟩; exact ⟨_, rfl, int_rep, hb⟩)
  have hk : Keeps im w im X := fun b hb => ⟨hb, hX.block b (him b hb).1⟩
  have := (hf x x1 x2).2 X im (av ++ [.int .i64 x] ++ cs) (fun b hb => (him b hb).keep hX.size (hk b hb).2) (((RepL.keep hk _ _ ha).append (show RepL im X [.int .i64 x] [.int .i64 x] from ⟨_, [], rfl, int_rep, rfl⟩)).append (RepL.keep hk _ _ hc))
  have e9 : (av ++ [Value.int .i64 x] ++ cs).toArray = av.toArray ++ #[Value.int .i64 x] ++ cs.toArray := by simp
  rw [e9] at this
  refine this.mono ?_
  rintro e w' ⟨u, rfl, hu, hb⟩
  exact ⟨by rw [rep_int hu], hb⟩⟩
end
section
variable {T H N : List (List Int)} (h1 : ∀ x ∈ T, x.length = 24) (h2 : ∀ x ∈ H, x.length = 9) (h3 : ∀ x ∈ N, x.length = 7)
include h1 h2 h3
end
end Go.Proofs.Ytjimjdhdnkhfnaa
namespace Go.Proofs.Ytjimjdhdnkhfnaa
open Go Go.RowKit Go.Shelf
attribute [local go_sem] Oper.semAt_some
set_option maxHeartbeats 1000000
set_option maxRecDepth 100000
def dayP (f l : Int) : List (List PV) := (dayL f l).map fun d => [PV.int .i64 d]
theorem rep_ptr1 {im : Nat → Prop} {w : World} {n : Int} {u : Value} (h : RepP im w (.ptr [.int .i64 n]) u) : ∃ b o, u = .pointer (some ⟨b, o, none⟩) ∧ im b ∧ w.cell? ⟨b, o, none⟩ = some (.int .i64 n) := by
  obtain ⟨b, o, us, rfl, hb, hr, hl⟩ : ∃ b o, ∃ us : List Value, u = .pointer (some ⟨b, o, none⟩) ∧ im b ∧ w.rangeAt b o us ∧ RepL im w [.int .i64 n] us := by simpa only [RepP] using h
  obtain ⟨x, rfl, hx⟩ := L1 hl
  rw [rep_int hx] at hr
  exact ⟨b, o, rfl, hb, by simpa using hr 0 _ rfl⟩
theorem days_yields (f l : Int) (hf : -1000000000 ≤ f) (hl : l ≤ 1000000000) : Yields Try.prog 84 [.ptr [.int .i64 f], .ptr [.int .i64 l]] (dayP f l) := by
  refine ⟨fun us w => Try.call84 us w, fun w im lb him hcap n y J Jx hn hg hK hY h0 => ?_⟩
  obtain ⟨u1, u2, rfl, g1, g2⟩ := L2 hcap
  obtain ⟨b1, o1, rfl, hb1, hc1⟩ := rep_ptr1 g1
  obtain ⟨b2, o2, rfl, hb2, hc2⟩ := rep_ptr1 g2
  have HC : ∀ k A, J k A → A.cell? ⟨b1, o1, none⟩ = some (.int .i64 f) ∧ A.cell? ⟨b2, o2, none⟩ = some (.int .i64 l) := fun k A h =>
    ⟨(World.cell?_of_block (a := ⟨b1, o1, none⟩) (hK k A h b1 hb1).2).trans hc1, (World.cell?_of_block (a := ⟨b2, o2, none⟩) (hK k A h b2 hb2).2).trans hc2⟩
  have hlen : (dayP f l).length = (l - f + 1).toNat := by simp [dayP, dayL, dayK]
  have hget : ∀ k, k < (l - f + 1).toNat → (dayP f l)[k]? = some [PV.int .i64 (f + (k : Int))] := fun k hk => by
    simp [dayP, dayL, dayK, hk]
  refine callsIn_of_wp Try.func84 rfl trivial ?_ rfl
  simp only [Try.ntmps84, List.size_toArray, List.length_cons, List.length_nil, Nat.reduceAdd, Nat.reduceSub, Array.replicate_succ, Array.replicate_zero, List.push_toArray, List.append_toArray, List.nil_append, List.cons_append, List.append_nil]
  have HJ := Lib.hid hg
  have HY := Lib.hid hY
  have HH := Lib.hid HC
  have HG := Lib.hid hget
  have HL := Lib.hid hlen
  obtain ⟨kf, kl⟩ := HC 0 w h0
  obtain ⟨M, hM⟩ : ∃ M, (l - f + 1).toNat = M := ⟨_, rfl⟩
  rw [hM] at HG HL
  clear hg hY HC hget hlen hK hcap g1 g2 hc1 hc2
  gi_wp2
  clear kf kl
  gi_loopw [4] (fun s wr => ∃ (k : Nat), k ≤ M ∧ s = .int .i64 (f + (k : Int)) ∧ J k wr) (fun s _ => (f + (M : Int) - intOf s).toNat)
  case atStart => exact ⟨0, by omega, by simp, h0⟩
  case round =>
    obtain ⟨k, hk, rfl, hjp⟩ := hrel
    obtain ⟨_, kl⟩ := HH.out _ _ hjp
    by_cases hlt : k < M
    · have hle : f + (k : Int) ≤ l := by omega
      obtain ⟨fn, tmps, assign, body, hy, hR⟩ := HY.out k wr #[.int .i64 (f + (k : Int))] _ (HG.out k hlt) hjp ⟨_, [], rfl, int_rep, rfl⟩
      gi_wp2
      refine ⟨fun h => (by cases h), hR.mono ?_⟩
      rintro e W' (⟨rfl, hJ'⟩ | ⟨rfl, hJx'⟩)
      · have HJ' := Lib.hid hJ'
        clear hJ' hR hy kl
        gi_wp2
        exact ⟨⟨k + 1, by omega, by go_num, HJ'.out⟩, by simp [intOf]; omega⟩
      · have HJx := Lib.hid hJx'
        clear hJx' hR hy kl
        gi_wp2
        exact bodyPost_ret (results_none rfl _ _ _) rfl ⟨⟨_, rfl⟩, .inr ⟨k + 1, by rw [HL.out]; omega, HJx.out⟩⟩
    · obtain rfl : k = M := by omega
      have hle : ¬ f + (k : Int) ≤ l := by omega
      gi_wp2
      refine bodyPost_end (results_none rfl _ _ _) rfl ⟨⟨_, rfl⟩, .inl ?_⟩
      rw [HL.out]; exact hjp
theorem daysFrom_does (f l : Int) : Does Try.prog 78 [.int .i64 f, .int .i64 l] (.fn (.func 84) [] [.ptr [.int .i64 f], .ptr [.int .i64 l]]) := by
  refine does_of (own := inPl) Try.func78 rfl Try.ntmps78 (congrArg Array.toList Try.results78) (fun us w => Try.call78 us w) hTT mixed (Nat.le_of_ble_eq_true rfl) ?_
  intro w0 im0 D0 S Cl hS hC ar har
  have har' := har
  obtain ⟨ai, ab, nz, inr, fi, pk, ix, ln, sb, eqi, sl, fits, mn, mx, nt, be, up, fu, mg, mh, ms⟩ := ar
  have F := facts_of har
  clear har
  cbv
  exact PLe.refl _
end Go.Proofs.Ytjimjdhdnkhfnaa
namespace Go.Proofs.Ytjimjdhdnkhfnaa
open Go Go.RowKit
set_option maxRecDepth 100000
set_option maxHeartbeats 2000000
theorem fi_head {p0 p1 p2 p3 p4 p5 p6 p7 p8 p9 p10 p11 p12 p13 p14 p15 p16 p17 p18 p19 p20 p21 p22 p23 c : Int} (h0 : 0 ≤ c) (h9 : c ≤ 9) :
    ([p1, p2, p3, p4, p5, p6, p7, p8, p9, p10] : List Int).getD c.toNat 0 = [p0, p1, p2, p3, p4, p5, p6, p7, p8, p9, p10, p11, p12, p13, p14, p15, p16, p17, p18, p19, p20, p21, p22, p23].getD (1 + c.toNat) 0 ∧
    ([p11, p12, p13, p14, p15, p16, p17, p18, p19, p20] : List Int).getD c.toNat 0 = [p0, p1, p2, p3, p4, p5, p6, p7, p8, p9, p10, p11, p12, p13, p14, p15, p16, p17, p18, p19, p20, p21, p22, p23].getD (11 + c.toNat) 0 := by
  obtain ⟨q, hq⟩ : ∃ q : Nat, c = q := ⟨c.toNat, by omega⟩
  subst hq
  have hq9 : q ≤ 9 := by omega
  simp only [Int.toNat_natCast]
  match q, hq9 with
  | 0, _ | 1, _ | 2, _ | 3, _ | 4, _ | 5, _ | 6, _ | 7, _ | 8, _ | 9, _ => exact ⟨rfl, rfl⟩
theorem fine1_does {T N : List (List Int)} (h1 : ∀ x ∈ T, x.length = 24) (h3 : ∀ x ∈ N, x.length = 7) {h lt : List Int} {kn : Int} (hh : h.length = 9) (hl : lt.length = 4) (stop srt d : Int) (hst : -1 ≤ stop) (hs : 0 ≤ srt ∧ srt ≤ 9) :
    Does Try.prog 40 [.int .i64 d, .ptr [.int .i64 stop], .ptr (rowP h ++ ([.list 24 (T.map rowP), .list 7 (N.map rowP), .int .i64 kn] ++ rowP lt)), .ptr [.int .i64 srt]] (.int .i64 (finD T srt stop d)) := by
  generalize hR : PV.int .i64 (finD T srt stop d) = R
  refine does_of (own := inPl) Try.func40 rfl Try.ntmps40 (congrArg Array.toList Try.results40) (fun us w => Try.call40 us w) hTT mixed (Nat.le_of_ble_eq_true rfl) ?_
  intro w0 im0 D0 S Cl hS hC ar har
  have har' := har
  obtain ⟨ai, ab, nz, inr, fi, pk, ix, ln, sb, eqi, sl, fits, mn, mx, nt, be, up, fu, mg, mh, ms⟩ := ar
  have F := facts_of har
  clear har
  have hT := tariff_does (kn := kn) (lt := lt) hh h1 h3 d
  obtain ⟨l0, l1, l2, l3, rfl⟩ := list4 hl
  obtain ⟨a, b, c, e, f, g, i, j, k, rfl⟩ := list9 hh
  obtain ⟨p0, p1, p2, p3, p4, p5, p6, p7, p8, p9, p10, p11, p12, p13, p14, p15, p16, p17, p18, p19, p20, p21, p22, p23, hp⟩ := list24 (tarAt_len h1 d)
  have hfi : fi [p11, p12, p13, p14, p15, p16, p17, p18, p19, p20] srt = (tarAt T d).getD (11 + srt.toNat) 0 := by
    rw [F.fi, hp]; exact (fi_head hs.1 hs.2).2
  have hfin : R = PV.int .i64 (if ab .neq stop (-1) && ab .geq d stop then 0 else (tarAt T d).getD (11 + srt.toNat) 0) := by
    rw [← hR, F.neq, F.geq]; unfold finD
    congr 1
    by_cases h8 : stop = -1
    · subst h8; simp
    · by_cases h9 : d < stop
      · simp [h8, h9]; omega
      · simp [h8, h9]; omega
  rw [hp] at hT
  obtain ⟨eT, hT1⟩ : ∃ es, T.map rowP = es := ⟨_, rfl⟩
  obtain ⟨eN, hN1⟩ : ∃ es, N.map rowP = es := ⟨_, rfl⟩
  simp only [toldP, hT1, hN1] at hT ⊢
  have hinr : inr 10 srt = true := F.inr 10 srt (by omega) (by omega)
  cbv
  have tail : ∀ z : Int, PLe (.int .i64 z) (.int .i64 z) := fun z => PLe.refl _
  cases c0 : ab .neq stop (-1)
  · cbv
    refine ⟨_, hC _ _ _ hT, ?_⟩; cbv
    rw [hinr]; cbv
    refine PLe.of_eq ?_
    rw [hfin, c0, hfi]; rfl
  · cbv
    cases c1 : ab .geq d stop
    · cbv
      refine ⟨_, hC _ _ _ hT, ?_⟩; cbv
      rw [hinr]; cbv
      refine PLe.of_eq ?_
      rw [hfin, c0, c1, hfi]; rfl
    · cbv
      refine PLe.of_eq ?_
      rw [hfin, c0, c1]; rfl
def chgQ (T : List (List Int)) (h : List Int) (kn : Int) (lt : List Int) : List Int :=
  [if h.getD 6 0 ≤ kn then (tarAt T (h.getD 6 0)).getD (1 + (h.getD 2 0).toNat) 0 else 0, sumL (feedD T (h.getD 3 0)) (dayL (h.getD 6 0) (lasN lt kn)), sumL (finD T (h.getD 2 0) (lt.getD 1 0)) (dayL (h.getD 6 0) (lasN lt kn))]
theorem charge_does {T N : List (List Int)} (h1 : ∀ x ∈ T, x.length = 24) (h3 : ∀ x ∈ N, x.length = 7) (hok : ∀ x ∈ T, tarOk x = true) {h lt : List Int} {kn : Int} (hh : h.length = 9) (hhk : heldOk h = true) (hl : lt.length = 4) (hst : -1 ≤ lt.getD 1 0)
    (hd : -1 ≤ lt.getD 3 0 ∧ lt.getD 3 0 ≤ 1000000) (hL : lasN lt kn ≤ 1000000) :
    Does Try.prog 17 [toldP h T N kn lt] (.agg (rowP (chgQ T h kn lt))) := by
  generalize hR : PV.agg (rowP (chgQ T h kn lt)) = R
  refine does_of (own := inPl) Try.func17 rfl Try.ntmps17 (congrArg Array.toList Try.results17) (fun us w => Try.call17 us w) hTT mixed (Nat.le_of_ble_eq_true rfl) ?_
  intro w0 im0 D0 S Cl hS hC ar har
  have har' := har
  obtain ⟨ai, ab, nz, inr, fi, pk, ix, ln, sb, eqi, sl, fits, mn, mx, nt, be, up, fu, mg, mh, ms⟩ := ar
  have F := facts_of har
  clear har
  obtain ⟨b2, b3, b4, b5, b6⟩ := heldOk_bounds hhk
  have hT := fun d => tariff_does (kn := kn) (lt := lt) hh h1 h3 d
  have hs1 := sum_does (kn := kn) (lt := lt) hh h1 h3 hl hd (by omega) hL 38 [toldP h T N kn lt] [] (feedD T (h.getD 3 0)) (fun x _ _ => feed_does hh h1 h3 hl hok b3 x) (Try.call38) (feedD_in hok b3)
  have hs2 := sum_does (kn := kn) (lt := lt) hh h1 h3 hl hd (by omega) hL 40 [] [PV.ptr [PV.int .i64 (lt.getD 1 0)], PV.ptr (rowP h ++ ([PV.list 24 (T.map rowP), PV.list 7 (N.map rowP), PV.int .i64 kn] ++ rowP lt)), PV.ptr [PV.int .i64 (h.getD 2 0)]] (finD T (h.getD 2 0) (lt.getD 1 0)) (fun x _ _ => fine1_does (kn := kn) h1 h3 hh hl (lt.getD 1 0) (h.getD 2 0) x hst (by omega)) (Try.call40) (fun q => by
    have := (rates_in h1 hok q (j := (h.getD 2 0).toNat) (by omega)).2
    unfold finD; split <;> omega)
  have hR2 : R = PV.agg (rowP (chgQ T h kn lt)) := hR.symm
  unfold chgQ at hR2
  generalize sumL (feedD T (h.getD 3 0)) (dayL (h.getD 6 0) (lasN lt kn)) = s1 at *
  generalize sumL (finD T (h.getD 2 0) (lt.getD 1 0)) (dayL (h.getD 6 0) (lasN lt kn)) = s2 at *
  clear hR
  obtain ⟨l0, l1, l2, l3, rfl⟩ := list4 hl
  obtain ⟨a, b, c, e, f, g, i, j, k, rfl⟩ := list9 hh
  obtain ⟨p0, p1, p2, p3, p4, p5, p6, p7, p8, p9, p10, p11, p12, p13, p14, p15, p16, p17, p18, p19, p20, p21, p22, p23, hp⟩ := list24 (tarAt_len h1 i)
  simp only [List.getD_cons_succ, List.getD_cons_zero] at b2 hR2 hs1 hs2
  have hfi : fi [p1, p2, p3, p4, p5, p6, p7, p8, p9, p10] c = (tarAt T i).getD (1 + c.toNat) 0 := by
    rw [F.fi, hp]; exact (fi_head (by omega) (by omega)).1
  have hTi := hT i
  rw [hp] at hTi
  have hinr : inr 10 c = true := F.inr 10 c (by omega) (by omega)
  generalize (tarAt T i).getD (1 + c.toNat) 0 = hd0 at *
  clear hp hT
  obtain ⟨eT, hT1⟩ : ∃ es, T.map rowP = es := ⟨_, rfl⟩
  obtain ⟨eN, hN1⟩ : ∃ es, N.map rowP = es := ⟨_, rfl⟩
  simp only [toldP, hT1, hN1] at hTi hs1 hs2 ⊢
  cbv
  refine ⟨_, hC _ _ _ hs1, ?_⟩; cbv
  cases c0 : ab .leq i kn
  · cbv
    refine ⟨_, hC _ _ _ hs2, ?_⟩; cbv
    refine PLe.of_eq ?_
    rw [hR2, if_neg (by rw [F.leq] at c0; simpa using c0)]; rfl
  · cbv
    refine ⟨_, hC _ _ _ hTi, ?_⟩; cbv
    rw [hinr]; cbv
    rw [hfi]; cbv
    refine ⟨_, hC _ _ _ hs2, ?_⟩; cbv
    refine PLe.of_eq ?_
    rw [hR2, if_pos (by rw [F.leq] at c0; simpa using c0)]; rfl
def payQ (T : List (List Int)) (h : List Int) (kn : Int) (lt : List Int) : Int × Int :=
  if lt.getD 2 0 = 2 then (2, h.getD 4 0) else if lt.getD 2 0 = 3 ∨ lt.getD 0 0 = 0 then (-1, 0) else (2 + lt.getD 0 0, sum3 (chgQ T h kn lt))
def chIn (l : List Int) : Prop := (0 ≤ l.getD 0 0 ∧ l.getD 0 0 ≤ 1000000) ∧ (0 ≤ l.getD 1 0 ∧ l.getD 1 0 ≤ 200000000000) ∧ (0 ≤ l.getD 2 0 ∧ l.getD 2 0 ≤ 200000000000)
theorem payment_does {T N : List (List Int)} (h1 : ∀ x ∈ T, x.length = 24) (h3 : ∀ x ∈ N, x.length = 7) (hok : ∀ x ∈ T, tarOk x = true) {h lt : List Int} {kn : Int} (hh : h.length = 9) (hhk : heldOk h = true) (hl : lt.length = 4) (hst : -1 ≤ lt.getD 1 0)
    (hd : -1 ≤ lt.getD 3 0 ∧ lt.getD 3 0 ≤ 1000000) (hL : lasN lt kn ≤ 1000000) (ho : 0 ≤ lt.getD 0 0 ∧ lt.getD 0 0 ≤ 99) (hc : chIn (chgQ T h kn lt)) :
    Does Try.prog 33 [toldP h T N kn lt] (.tup [.int .i64 (payQ T h kn lt).1, .int .i64 (payQ T h kn lt).2]) := by
  generalize hR : PV.tup [.int .i64 (payQ T h kn lt).1, .int .i64 (payQ T h kn lt).2] = R
  refine does_of (own := inPl) Try.func33 rfl Try.ntmps33 (congrArg Array.toList Try.results33) (fun us w => Try.call33 us w) hTT mixed (Nat.le_of_ble_eq_true rfl) ?_
  intro w0 im0 D0 S Cl hS hC ar har
  have har' := har
  obtain ⟨ai, ab, nz, inr, fi, pk, ix, ln, sb, eqi, sl, fits, mn, mx, nt, be, up, fu, mg, mh, ms⟩ := ar
  have F := facts_of har
  clear har
  have hch := charge_does h1 h3 hok hh hhk hl hst hd hL
  have hpt := partyOf_does (lt.getD 0 0) (by omega) (by omega)
  obtain ⟨hc0, hc1, hc2⟩ := hc
  obtain ⟨x, y, z, hxyz⟩ : ∃ x y z, chgQ T h kn lt = [x, y, z] := ⟨_, _, _, rfl⟩
  have hR2 : R = PV.tup [.int .i64 (payQ T h kn lt).1, .int .i64 (payQ T h kn lt).2] := hR.symm
  unfold payQ at hR2
  rw [hxyz] at hch hc0 hc1 hc2 hR2
  clear hR
  obtain ⟨l0, l1, l2, l3, rfl⟩ := list4 hl
  obtain ⟨a, b, c, e, f, g, i, j, k, rfl⟩ := list9 hh
  simp only [List.getD_cons_succ, List.getD_cons_zero, sum3] at hR2 hc0 hc1 hc2 hpt
  have e1 : ai .add (ai .add x y) z = x + y + z := by rw [F.add x y (by omega) (by omega), F.add _ z (by omega) (by omega)]
  obtain ⟨pp, hpp⟩ : ∃ pp, 2 + l0 = pp := ⟨_, rfl⟩
  rw [hpp] at hpt hR2
  obtain ⟨eT, hT1⟩ : ∃ es, T.map rowP = es := ⟨_, rfl⟩
  obtain ⟨eN, hN1⟩ : ∃ es, N.map rowP = es := ⟨_, rfl⟩
  simp only [toldP, hT1, hN1] at hch ⊢
  clear hxyz
  cbv
  cases c0 : ab .eql l2 2
  · cbv
    have g0 : ¬ l2 = 2 := by rw [F.eql] at c0; simpa using c0
    rw [if_neg g0] at hR2
    cases c1 : ab .eql l2 3
    · cbv
      cases c2 : ab .eql l0 0
      · cbv
        refine ⟨_, hC _ _ _ hch, ?_⟩; cbv
        refine ⟨_, hC _ _ _ hpt, ?_⟩; cbv
        refine PLe.of_eq ?_
        rw [hR2, if_neg (by rw [F.eql] at c1 c2; simp at c1 c2; omega), e1]
      · cbv
        refine PLe.of_eq ?_
        rw [hR2, if_pos (by rw [F.eql] at c2; simp at c2; omega)]
    · cbv
      refine PLe.of_eq ?_
      rw [hR2, if_pos (by rw [F.eql] at c1; simp at c1; omega)]
  · cbv
    refine PLe.of_eq ?_
    rw [hR2, if_pos (by rw [F.eql] at c0; simpa using c0)]
def dueQ (T : List (List Int)) (h : List Int) (kn : Int) (lt : List Int) : List Int := dueP T h (payQ T h kn lt).1 (payQ T h kn lt).2
theorem pdue_does {T N : List (List Int)} (h1 : ∀ x ∈ T, x.length = 24) (h3 : ∀ x ∈ N, x.length = 7) (hok : ∀ x ∈ T, tarOk x = true) {h lt : List Int} {kn : Int} (hh : h.length = 9) (hhk : heldOk h = true) (hl : lt.length = 4) (hst : -1 ≤ lt.getD 1 0)
    (hd : -1 ≤ lt.getD 3 0 ∧ lt.getD 3 0 ≤ 1000000) (hL : lasN lt kn ≤ 1000000) (ho : 0 ≤ lt.getD 0 0 ∧ lt.getD 0 0 ≤ 99) (hc : chIn (chgQ T h kn lt)) :
    Does Try.prog 26 [toldP h T N kn lt] (.agg (rowP (dueQ T h kn lt))) := by
  generalize hR : PV.agg (rowP (dueQ T h kn lt)) = R
  refine does_of (own := inPl) Try.func26 rfl Try.ntmps26 (congrArg Array.toList Try.results26) (fun us w => Try.call26 us w) hTT mixed (Nat.le_of_ble_eq_true rfl) ?_
  intro w0 im0 D0 S Cl hS hC ar har
  have har' := har
  obtain ⟨ai, ab, nz, inr, fi, pk, ix, ln, sb, eqi, sl, fits, mn, mx, nt, be, up, fu, mg, mh, ms⟩ := ar
  have F := facts_of har
  clear har
  have hpy := payment_does h1 h3 hok hh hhk hl hst hd hL ho hc
  have hT := tariff_does (kn := kn) (lt := lt) hh h1 h3 (h.getD 6 0)
  obtain ⟨b2, b3, b4, b5, b6⟩ := heldOk_bounds hhk
  have hpin : 0 ≤ (payQ T h kn lt).2 ∧ (payQ T h kn lt).2 ≤ 500000000000 := by
    unfold payQ
    obtain ⟨hc0, hc1, hc2⟩ := hc
    unfold sum3
    split
    · dsimp only; omega
    · split
      · dsimp only; omega
      · dsimp only; omega
  have hsh := tar_share hok (h.getD 6 0)
  have hR2 : R = PV.agg (rowP (dueQ T h kn lt)) := hR.symm
  unfold dueQ at hR2
  obtain ⟨⟨q, s⟩, hqs⟩ : ∃ q, payQ T h kn lt = q := ⟨_, rfl⟩
  rw [hqs] at hpy hpin hR2
  dsimp only at hpy hpin hR2
  unfold dueP at hR2
  clear hR hqs
  obtain ⟨l0, l1, l2, l3, rfl⟩ := list4 hl
  obtain ⟨a, b, c, e, f, g, i, j, k, rfl⟩ := list9 hh
  simp only [List.getD_cons_succ, List.getD_cons_zero] at hR2 hT hsh b5
  obtain ⟨p0, p1, p2, p3, p4, p5, p6, p7, p8, p9, p10, p11, p12, p13, p14, p15, p16, p17, p18, p19, p20, p21, p22, p23, hp⟩ := list24 (tarAt_len h1 i)
  rw [hp] at hT hsh hR2
  simp only [List.getD_cons_succ, List.getD_cons_zero] at hR2 hsh
  obtain ⟨g1, g2, g3⟩ := hsh
  have m1 : 0 ≤ s * p22 ∧ s * p22 ≤ 500000000000 * 60 := ⟨Int.mul_nonneg (by omega) (by omega), Int.mul_le_mul (by omega) (by omega) (by omega) (by omega)⟩
  have m2 : 0 ≤ s * p23 ∧ s * p23 ≤ 500000000000 * 60 := ⟨Int.mul_nonneg (by omega) (by omega), Int.mul_le_mul (by omega) (by omega) (by omega) (by omega)⟩
  have e1 : ai .quo (ai .mul s p22) 60 = s * p22 / 60 := by
    rw [F.mul s p22 (by omega) (by omega), F.quo _ 60 (by rw [Int.tdiv_eq_ediv_of_nonneg m1.1]; omega) (by rw [Int.tdiv_eq_ediv_of_nonneg m1.1]; omega), Int.tdiv_eq_ediv_of_nonneg m1.1]
  have e2 : ai .quo (ai .mul s p23) 60 = s * p23 / 60 := by
    rw [F.mul s p23 (by omega) (by omega), F.quo _ 60 (by rw [Int.tdiv_eq_ediv_of_nonneg m2.1]; omega) (by rw [Int.tdiv_eq_ediv_of_nonneg m2.1]; omega), Int.tdiv_eq_ediv_of_nonneg m2.1]
  obtain ⟨u, hu⟩ : ∃ u, s * p22 / 60 = u := ⟨_, rfl⟩
  obtain ⟨v, hv⟩ : ∃ v, s * p23 / 60 = v := ⟨_, rfl⟩
  rw [hu] at e1 hR2
  rw [hv] at e2 hR2
  have hu2 : 0 ≤ u ∧ u ≤ 500000000000 := by omega
  have hv2 : 0 ≤ v ∧ v ≤ 500000000000 := by omega
  have e3 : ai .sub (ai .sub s u) v = s - u - v := by rw [F.sub s u (by omega) (by omega), F.sub _ v (by omega) (by omega)]
  have e4 : ai .sub (ai .sub s u) 0 = s - u - 0 := by rw [F.sub s u (by omega) (by omega), F.sub _ 0 (by omega) (by omega)]
  clear hu hv hp
  obtain ⟨eT, hT1⟩ : ∃ es, T.map rowP = es := ⟨_, rfl⟩
  obtain ⟨eN, hN1⟩ : ∃ es, N.map rowP = es := ⟨_, rfl⟩
  simp only [toldP, hT1, hN1] at hT hpy ⊢
  cbv
  refine ⟨_, hC _ _ _ hpy, ?_⟩; cbv
  refine ⟨_, hC _ _ _ hT, ?_⟩; cbv
  cases c0 : ab .neq g 0
  · cbv
    refine PLe.of_eq ?_
    rw [hR2, if_neg (by rw [F.neq] at c0; simp at c0; omega), e1, e4]; rfl
  · cbv
    refine PLe.of_eq ?_
    rw [hR2, if_pos (by rw [F.neq] at c0; simp at c0; omega), e1, e2, e3]; rfl
def isS (s : Int) (x : List Int) : Bool := x.getD 0 0 == s
def acc0 : PV := .agg [.nil, .nil, .nil]
def atF (s : Int) (p : Int × Int) (x : List Int) : Int × Int := (p.1 + 1, if (decide (x.getD 0 0 < s)) = true then p.1 + 1 else p.2)
def atK (s : Int) (N : List (List Int)) : Int × Int := N.foldl (atF s) (0, 0)
theorem atK_take {s : Int} {N : List (List Int)} {k : Nat} (hk : k < N.length) : atK s (N.take (k + 1)) = atF s (atK s (N.take k)) N[k] := by
  unfold atK; rw [take_last hk, List.foldl_append]; rfl
theorem atK_one (s : Int) : ∀ (N : List (List Int)) (k : Nat), k ≤ N.length → (atK s (N.take k)).1 = k
  | N, 0, _ => by simp [atK]
  | N, k + 1, h => by rw [atK_take (by omega)]; unfold atF; dsimp only; rw [atK_one s N k (by omega)]; omega
def insN (N : List (List Int)) (n : List Int) : List (List Int) := N.take (atK (n.getD 0 0) N).2.toNat ++ [n] ++ N.drop (atK (n.getD 0 0) N).2.toNat
def ntdE (T H N : List (List Int)) (n : List Int) : Int :=
  if accOk T H N = true then (if noteOk n = true then (if N.any (isS (n.getD 0 0)) = true then 62 else if N.length = 60 then 2 else 0) else 62) else 63
end Go.Proofs.Ytjimjdhdnkhfnaa

namespace Go.Proofs.Ytjimjdhdnkhfnaa
open Go Go.RowKit
set_option maxRecDepth 100000
set_option maxHeartbeats 2000000
theorem eqPs_rowP : ∀ {x y : List Int}, x.length = y.length → eqPs (rowP x) (rowP y) = (x == y)
  | [], [], _ => rfl
  | a :: x, b :: y, h => by
    have ih := eqPs_rowP (x := x) (y := y) (by simpa using h)
    show eqPs (PV.int .i64 a :: rowP x) (PV.int .i64 b :: rowP y) = _
    simp only [eqPs]
    rw [ih]
    show ((a == b) && (x == y)) = (a :: x == b :: y)
    simp
def samK (a b : List (List Int)) (k : Nat) : Bool := a.length == b.length && a.take k == b.take k
theorem rSame_does (a b : List (List Int)) (ha : ∀ x ∈ a, x.length = 5) (hb : ∀ x ∈ b, x.length = 5) (hsm : a.length ≤ 1000000000) :
    Does Try.prog 15 [.list 5 (a.map rowP), .list 5 (b.map rowP)] (.bool (a == b)) := by
  obtain ⟨V, hV⟩ : ∃ V, PV.bool (a == b) = V := ⟨_, rfl⟩
  rw [hV]
  refine does_of (own := inPl) Try.func15 rfl Try.ntmps15 (congrArg Array.toList Try.results15) (fun us w => Try.call15 us w) hTT mixed (Nat.le_of_ble_eq_true rfl) ?_
  intro w0 im0 D0 S Cl hS hC ar har
  have har' := har
  obtain ⟨ai, ab, nz, inr, fi, pk, ix, ln, sb, eqi, sl, fits, mn, mx, nt, be, up, fu, mg, mh, ms⟩ := ar
  have F := facts_of har
  clear har
  obtain ⟨eA, hA⟩ : ∃ es, a.map rowP = es := ⟨_, rfl⟩
  obtain ⟨eB, hB⟩ : ∃ es, b.map rowP = es := ⟨_, rfl⟩
  have hlA : ln eA = a.length := by rw [F.ln, ← hA]; simp
  have hlB : ln eB = b.length := by rw [F.ln, ← hB]; simp
  have h0 : ab .eql (ln eA) (ln eB) = samK a b 0 := by rw [F.eql, hlA, hlB]; unfold samK; rw [Bool.eq_iff_iff]; simp only [beq_iff_eq, Bool.and_eq_true, List.take_zero, and_true]; omega
  rw [hA, hB]
  cbv
  rw [h0]
  refine hS _ _ _ (sem_loop (fun x : Nat × Int × Bool => [sL 0 5 eA, sL 1 5 eB, sB 5 x.2.2, sI 6 x.2.1]) (fun x => x.1 ≤ a.length ∧ x.2.1 = (x.1 : Int) ∧ x.2.2 = samK a b x.1) (fun x => a.length - x.1) (fun t => t) (0, 0, samK a b 0) (fun t => t) ⟨by rfl, by cbv; try (repeat (first | exact rfl | exact trivial | refine ⟨?_, ?_⟩))⟩ ?_ ?_)
  · exact ⟨by simp, rfl, rfl⟩
  rintro ⟨k, i, s⟩ ⟨hk, hi, hs⟩
  dsimp only at hk hi hs
  have hadd : ai .add i 1 = ((k + 1 : Nat) : Int) := by rw [F.add i 1 (by omega) (by omega), hi]; simp
  by_cases hlt : k < a.length
  · have hb1 : ab .lss i (ln eA) = true := by rw [hlA, F.lss, hi]; simpa using hlt
    cases s
    · skip
      refine sem_of (X := ⟨_, TT, ⟨0, 31, inPl⟩⟩) har' hTT mixed ?_
      intro S1 Cl1 hS1 hC1
      cbv
      rw [hb1]; cbv
      subst hV
      refine PLe.of_eq ?_
      have : samK a b k = false := hs.symm
      unfold samK at this
      congr 1
      refine (Bool.eq_false_iff.2 fun he => ?_).symm
      have he := eq_of_beq he
      rw [he] at this
      simp at this
    · have hlen : a.length = b.length := by
        have : samK a b k = true := hs.symm
        unfold samK at this
        simp only [Bool.and_eq_true, beq_iff_eq] at this
        exact this.1
      have hltb : k < b.length := by omega
      have hgA : ix eA i = some (rowP a[k]) := by rw [F.ix _ i k hi, ← hA]; exact get_rows hlt
      have hgB : ix eB i = some (rowP b[k]) := by rw [F.ix _ i k hi, ← hB]; exact get_rows hltb
      have hnext : eqi (rowP a[k]) (rowP b[k]) = samK a b (k + 1) := by
        have h1 : samK a b k = true := hs.symm
        unfold samK at h1 ⊢
        simp only [Bool.and_eq_true, beq_iff_eq] at h1
        rw [F.eqi, eqPs_rowP (by rw [ha _ (List.getElem_mem hlt), hb _ (List.getElem_mem hltb)]), take_last hlt, take_last hltb, h1.2, Bool.eq_iff_iff]
        simp only [beq_iff_eq, Bool.and_eq_true, h1.1, true_and, List.append_cancel_left_eq, List.cons.injEq, and_true]
      obtain ⟨x0, x1, x2, x3, x4, hx⟩ := list5 (ha _ (List.getElem_mem hlt))
      obtain ⟨y0, y1, y2, y3, y4, hy⟩ := list5 (hb _ (List.getElem_mem hltb))
      rw [hx] at hgA hnext
      rw [hy] at hgB hnext
      obtain ⟨s', hs'⟩ : ∃ s', samK a b (k + 1) = s' := ⟨_, rfl⟩
      rw [hs'] at hnext
      have hnext : eqi [.int .i64 x0, .int .i64 x1, .int .i64 x2, .int .i64 x3, .int .i64 x4] [.int .i64 y0, .int .i64 y1, .int .i64 y2, .int .i64 y3, .int .i64 y4] = s' := hnext
      refine sem_of (X := ⟨_, TT, ⟨0, 31, inPl⟩⟩) har' hTT mixed ?_
      intro S1 Cl1 hS1 hC1
      cbv
      rw [hb1]; cbv
      rw [hgA]; cbv
      rw [hgB]; cbv
      rw [hnext]
      exact ⟨(k + 1, ai .add i 1, s'), ⟨hlt, hadd, hs'.symm⟩, by dsimp only; omega, ⟨by rfl, by cbv; try (repeat (first | exact rfl | exact trivial | refine ⟨?_, ?_⟩))⟩⟩
  · have hb1 : ab .lss i (ln eA) = false := by rw [hlA, F.lss, hi]; simpa using hlt
    refine sem_of (X := ⟨_, TT, ⟨0, 31, inPl⟩⟩) har' hTT mixed ?_
    intro S1 Cl1 hS1 hC1
    cbv
    rw [hb1]; cbv
    subst hV
    refine PLe.of_eq ?_
    rw [hs]
    unfold samK
    have : k = a.length := by omega
    subst this
    congr 1
    rw [List.take_length, Bool.eq_iff_iff]
    simp only [Bool.and_eq_true, beq_iff_eq]
    constructor
    · rintro ⟨h1, h2⟩; rw [h1, List.take_length] at h2; exact h2
    · rintro rfl; simp
end Go.Proofs.Ytjimjdhdnkhfnaa

namespace Go.Proofs.Ytjimjdhdnkhfnaa
open Go Go.RowKit
def resOne (ar : Ar) (T : TypeId → Lay) : ResultVar → AskR TV
  | .tmp t => opd (.tmp t) fun v => .done v
  | .cell p ty => opd (.tmp p) fun pv => behind ar pv (T ty) fun v => .done v
def notIn (r : Nat) (cs : List CV) : Bool := cs.all fun c => match c with
  | .row q => !Nat.beq q r
  | _ => true
def ownsL (σ : St) : List CV → List RowT → Prop
  | [], out => out = []
  | c :: cs, out => match c with
    | .row r => match lk σ (kR r) with
      | .row e k es => match out with
        | o :: out' => (e, k, es) = o ∧ FlatL es ∧ notIn r cs = true ∧ ownsL σ cs out'
        | [] => False
      | _ => False
    | _ => False
def retOs (X : Ctx) (rs : List ResultVar) (b : Bool) (out : List RowT) (σ : St) : Prop := match rs with
  | [r] => match (resOne X.ar X.T r).run (lk σ) [] with
    | some (v, _) => match v with
      | .agg cs => b = true ∧ ownsL σ cs out
      | .c c => b = false ∧ ownsL σ [c] out
    | none => False
  | _ => False
def retO (X : Ctx) (rs : List ResultVar) (b : Bool) (out : List RowT) : Exit → St → Prop
  | .ret, σ | .normal, σ => retOs X rs b out σ
  | _, _ => False
section
variable {P : Program} {w0 : World} {im0 : Nat → Prop} {D : Env}
theorem ownsL_get {bm : Nat → Nat} {rm : Nat → Value} {im : Nat → Prop} {w : World} {σ : St} : ∀ (cs : List CV) (out : List RowT) (us : List Value), ownsL σ cs out → RepVs bm rm im w cs us →
    us.length = out.length ∧ (∀ (j : Nat) (o : RowT) (x : Value), out[j]? = some o → us[j]? = some x → ∃ r, cs[j]? = some (.row r) ∧ x = rm r ∧ lk σ (kR r) = .row o.1 o.2.1 o.2.2 ∧ FlatL o.2.2) ∧
      ∀ (i j r : Nat), cs[i]? = some (.row r) → cs[j]? = some (.row r) → i = j
  | [], out, us, h, hv => by
    simp only [ownsL] at h
    simp only [RepVs] at hv
    subst h; subst hv
    exact ⟨rfl, fun j o x hj => by simp at hj, fun i j r hi => by simp at hi⟩
  | c :: cs, out, us, h, hv => by
    simp only [RepVs] at hv
    obtain ⟨x, xs, rfl, h1, h2⟩ := hv
    simp only [ownsL] at h
    split at h <;> try exact h.elim
    rename_i r
    split at h <;> try exact h.elim
    rename_i e k es hc
    split at h <;> try exact h.elim
    rename_i o out'
    obtain ⟨rfl, hf, hn, hr⟩ := h
    obtain ⟨k1, k2, k3⟩ := ownsL_get cs out' xs hr h2
    obtain ⟨hx, _⟩ : x = rm r ∧ _ := h1
    have hne : ∀ j : Nat, cs[j]? ≠ some (.row r) := fun j hj => by
      unfold notIn at hn
      have := List.all_eq_true.1 hn _ (List.mem_of_getElem? hj)
      simp at this
    refine ⟨by simp [k1], fun j o y hj hy => ?_, fun i j q hi hj => ?_⟩
    · cases j with
      | zero =>
        simp only [List.getElem?_cons_zero, Option.some.injEq] at hj hy
        subst hj; subst hy
        exact ⟨r, rfl, hx, hc, hf⟩
      | succ j => simpa using k2 j o y (by simpa using hj) (by simpa using hy)
    · cases i with
      | zero =>
        cases j with
        | zero => rfl
        | succ j =>
          simp only [List.getElem?_cons_zero, List.getElem?_cons_succ, Option.some.injEq, CV.row.injEq] at hi hj
          subst hi
          exact (hne j hj).elim
      | succ i =>
        cases j with
        | zero =>
          simp only [List.getElem?_cons_zero, List.getElem?_cons_succ, Option.some.injEq, CV.row.injEq] at hi hj
          subst hj
          exact (hne i hi).elim
        | succ j => rw [k3 i j q (by simpa using hi) (by simpa using hj)]
theorem rows_new {N : NN} {bm : Nat → Nat} {rm : Nat → Value} {a : Act} {w : World} {σ : St} {im : Nat → Prop} (h : RelAt w0 im0 N D bm rm (lk σ) a w) {cs : List CV} {out : List RowT} {us : List Value} (hr : ownsL σ cs out) (hv : RepVs bm rm im w cs us) : RepN w0.heap.size w out us := by
  obtain ⟨h1, h2, h3⟩ := ownsL_get cs out us hr hv
  refine ⟨h1, fun j o x ho hx => ?_, fun i j x y g hx hy hgx hgy => ?_⟩
  · obtain ⟨r, _, rfl, k2, k3⟩ := h2 j o x ho hx
    obtain ⟨xs, hown, hl, hk⟩ := h.rows r _ _ _ k2
    exact ⟨xs, hown, k3 _ _ _ _ _ hl, hk⟩
  · obtain ⟨o, ho⟩ : ∃ o, out[i]? = some o := ⟨_, List.getElem?_eq_getElem (by rw [← h1]; exact (List.getElem?_eq_some_iff.1 hx).1)⟩
    obtain ⟨o', ho'⟩ : ∃ o, out[j]? = some o := ⟨_, List.getElem?_eq_getElem (by rw [← h1]; exact (List.getElem?_eq_some_iff.1 hy).1)⟩
    obtain ⟨r, k1, rfl, k2, _⟩ := h2 i o x ho hx
    obtain ⟨r', k1', rfl, k2', _⟩ := h2 j o' y ho' hy
    have := h.rr r r' g ⟨_, _, _, k2⟩ ⟨_, _, _, k2'⟩ hgx hgy
    subst this
    exact h3 i j r k1 k1'
theorem resOne_ok {ar : Ar} (har : ar = Ar.std) {T : TypeId → Lay} (hT : ∀ t, LayOK P t (T t)) {N : NN} {bm : Nat → Nat} {rm : Nat → Value} {L : Lk} {a : Act} {w : World} (h : RelAt w0 im0 N D bm rm L a w) {r : ResultVar} {R : List Nat} {y : TV × List Nat}
    (hr : (resOne ar T r).run L R = some y) : ∃ u, (resV a.tmps r).run P w = .ok u w ∧ RepT bm rm (imOf w0.heap.size im0 bm rm L w) w y.1 u := by
  cases r with
  | tmp t =>
    simp only [resOne] at hr
    replace hr := opd_inv h hr; obtain ⟨v, R1, hv, hr⟩ := hr
    simp only [AskR.run, Option.some.injEq] at hr
    subst hr
    exact ⟨_, rfl, hv.rep⟩
  | cell p ty =>
    simp only [resOne] at hr
    replace hr := opd_inv h hr; obtain ⟨v, R1, hv, hr⟩ := hr
    replace hr := behind_ok har (hT ty) h hv hr; obtain ⟨v2, x, R2, hrun, hv2, hr⟩ := hr
    simp only [AskR.run, Option.some.injEq] at hr
    subst hr
    exact ⟨x, loadAt_asAddr hrun, hv2.rep⟩
theorem calls_ofO {T : TypeId → Lay} (hT : ∀ t, LayOK P t (T t)) {f : FuncId} {fn : Func} {body : Code} {bo : Bool} {out : List RowT} {M : Nat} {own : List FuncId} {rs : List ResultVar} (hD : ∀ b, ¬ D.mks b) (hf : P.funcs[f]? = some fn) (hb : fn.body = some body) (hrs : fn.results.toList = rs)
    {us : List Value} {w : World} {bm : Nat → Nat} {rm : Nat → Value} {σ : St} (hrel : RelAt w0 im0 ⟨0, M, own⟩ D bm rm (lk σ) { tmps := us.toArray ++ Array.replicate (fn.ntmps - us.toArray.size) undef, defers := [] } w)
    (hsem : SemC P w0 im0 ⟨0, M, own⟩ D none 9 body (retO ⟨Ar.std, T, ⟨0, M, own⟩⟩ rs bo out) σ) :
    Calls P f us.toArray w fun e Y => ∃ u vs, e = .returned u ∧ (bif bo then u = .agg vs.toArray else vs = [u]) ∧ RepN w0.heap.size Y out vs ∧ Below w0.heap.size w0 Y := by
  refine (callsIn_wide (n := 9)).1 (callsIn_of_wp_marks hf hb trivial (wpIn_mono (hsem _ w ⟨bm, rm, hrel⟩) ?_) rfl)
  rintro e a' w' ⟨σ', hq, bm, rm, hrel'⟩
  have key : retOs ⟨Ar.std, T, ⟨0, M, own⟩⟩ rs bo out σ' → LeavesInM (FW none) 9 P fn a'.tmps (fun e Y => ∃ u vs, e = .returned u ∧ (bif bo then u = .agg vs.toArray else vs = [u]) ∧ RepN w0.heap.size Y out vs ∧ Below w0.heap.size w0 Y) a'.defers .returning w' := by
    intro hq
    obtain ⟨Ds, hd1, hd2, hd3⟩ := hrel'.defs.marks
    rw [hd1]
    refine leaves_marksV Ds w' hd2 (fun b hb => (hd3 b hb).2) fun Y hY => ?_
    have hrelY : RelAt w0 im0 ⟨0, M, own⟩ D bm rm (lk σ') { tmps := a'.tmps, defers := [] } Y := by
      refine hrel'.move hY.os hY.tape hY.output (Nat.le_of_eq hY.size.symm) (fun b _ => ?_) hrel'.size (fun _ _ _ => rfl) (fun hk => ⟨⟨[], rfl, by simp, by simp⟩, hrel'.defs.kept.trans hk, hrel'.defs.pins, fun b hb => absurd hb (hD b), Nat.le_trans hrel'.defs.top (Nat.le_of_eq hY.size.symm)⟩)
      by_cases hm : b ∈ Ds
      · exact .inr ⟨(hd3 b hm).1.1, by rw [(hd3 b hm).2]; rfl⟩
      · exact .inl (hY.block b hm)
    unfold retOs at hq
    split at hq <;> try exact hq.elim
    rename_i r hq9
    simp only at hq
    cases hv : (resOne Ar.std T r).run (lk σ') [] with
    | none => rw [hv] at hq; exact hq.elim
    | some y =>
      rw [hv] at hq
      obtain ⟨u, hrun, hrep⟩ := resOne_ok rfl hT hrelY hv
      have hrun : (resV a'.tmps r).run P Y = .ok u Y := hrun
      have hres : (results fn a'.tmps).run P Y = .ok u Y := by
        rw [results_eq, Sem.run_bind, Array.mapM_eq_mapM_toList, hrs, Sem.run_map]
        simp only [List.mapM_cons, List.mapM_nil, Sem.run_bind, Sem.run_pure, Result.andThen_ok, hrun]
        rfl
      obtain ⟨v, R⟩ := y
      cases v with
      | agg cs =>
        obtain ⟨rfl, hro⟩ : bo = true ∧ ownsL σ' cs out := hq
        obtain ⟨vs, rfl, hvs⟩ := hrep
        exact ⟨_, hres, _, vs, rfl, rfl, rows_new hrelY hro hvs, hrelY.base⟩
      | c c =>
        obtain ⟨rfl, hro⟩ : bo = false ∧ ownsL σ' [c] out := hq
        exact ⟨_, hres, u, [u], rfl, rfl, rows_new hrelY hro ⟨u, [], rfl, hrep, rfl⟩, hrelY.base⟩
  cases e with
  | normal => exact key hq
  | ret => exact key hq
  | _ => exact hq.elim
theorem doesO_of {f : FuncId} {fn : Func} {body : Code} {args : List PV} {bo : Bool} {out : List RowT} {T : TypeId → Lay} {M : Nat} {own : List FuncId} {rs : List ResultVar} (hf : P.funcs[f]? = some fn) (hb : fn.body = some body) (hN : fn.ntmps = M) (hrs : fn.results.toList = rs)
    (hen : ∀ us w, (callFunc f us).run P w = .ok (.enter f us) w) (hT : ∀ t, LayOK P t (T t)) (hm : P.follows .mixedOrders = true) (hle : args.length ≤ M)
    (h : ∀ (w0 : World) (im0 : Nat → Prop) (D : Env) (S : Code → (Exit → St → Prop) → St → Prop) (Cl : FuncId → List PV → PV → Prop), (∀ c Q σ, SemC P w0 im0 ⟨0, M, own⟩ D none 9 c Q σ → S c Q σ) → (∀ f a v, Can P f a v → Cl f a v) → ∀ ar, ar = Ar.std → acode ⟨ar, T, ⟨0, M, own⟩⟩ Cl S body (retO ⟨ar, T, ⟨0, M, own⟩⟩ rs bo out) (st0 0 args)) : DoesO P f args bo out := by
  refine ⟨hen, fun w im us him hrep => ?_⟩
  have hlen := hrep.len
  have hrel : RelAt w im ⟨0, M, own⟩ ⟨fun _ => False, w, #[], fun _ => False, 0⟩ (fun _ => 0) (fun _ => .nilFunc) (lk (st0 0 args)) { tmps := us.toArray ++ Array.replicate (fn.ntmps - us.toArray.size) undef, defers := [] } w := by
    have hnb : ∀ k, ¬ isBox (lk (st0 0 args)) k := fun k hb => by
      rcases hb with ⟨ty, cs, hc⟩ | ⟨o, hc⟩ <;>
      · obtain ⟨_, _, _, h2, h3⟩ := st0_get args 0 _ _ hc (by simp)
        exact (kT_ne_kB _ _) h2.symm
    have hnr : ∀ k, ¬ isRow (lk (st0 0 args)) k := fun k ⟨e, q, es, hc⟩ => by
      obtain ⟨_, _, _, h2, h3⟩ := st0_get args 0 _ _ hc (by simp)
      exact (kT_ne_kR _ _) h2.symm
    refine ⟨Below.refl _ _, by simp [hN, hlen]; omega, ⟨⟨[], rfl, by simp, by simp⟩, (fun _ h => h.elim), fun d hd => absurd hd (Nat.not_lt_zero d), fun _ h => h.elim, Nat.zero_le _⟩, fun d v hv => ?_, fun k ty cs hc => absurd (.inl ⟨ty, cs, hc⟩) (hnb k), fun k o hc => absurd (.inr ⟨o, hc⟩) (hnb k), fun t e k es hc => absurd ⟨e, k, es, hc⟩ (hnr t), fun k k' hk => absurd hk (hnb k), fun k t hk => absurd hk (hnb k), fun t t' g ht => absurd ht (hnr t), fun i k hk => ?_, fun i t ht => ?_⟩
    · obtain ⟨k, p, h1, h2, h3⟩ := st0_get args 0 _ _ hv (by simp)
      have hd : d = k := by have := kT_inj h2; omega
      subst hd
      cases h3
      obtain ⟨u, hu, hp⟩ := hrep.get h1
      have hlt := (List.getElem?_eq_some_iff.1 hu).1
      have e : (us.toArray ++ Array.replicate (fn.ntmps - us.toArray.size) undef).getD d undef = u := by
        simp only [Array.getD_eq_getD_getElem?, Array.getElem?_append, List.size_toArray, hlt, if_true, List.getElem?_toArray, hu, Option.getD_some]
      show RepT _ _ _ _ _ ((us.toArray ++ Array.replicate (fn.ntmps - us.toArray.size) undef).getD d undef)
      rw [e]
      exact TV.ofPV_rep (RepP.keep (fun b hb => ⟨⟨him b hb, .inl hb, fun k hk => absurd hk (hnb k), fun t ht => absurd ht (hnr t)⟩, rfl⟩) _ _ hp)
    · cases hc : lk (st0 0 args) i with
      | none => rw [hc] at hk; simp [Cont.boxes] at hk
      | _ =>
        obtain ⟨q, p, _, _, h3⟩ := st0_get args 0 _ _ hc (by simp)
        rw [hc, h3] at hk
        simp [Cont.boxes, TV.ofPV_boxes] at hk
    · cases hc : lk (st0 0 args) i with
      | none => rw [hc] at ht; simp [Cont.rows] at ht
      | _ =>
        obtain ⟨q, p, _, _, h3⟩ := st0_get args 0 _ _ hc (by simp)
        rw [hc, h3] at ht
        simp [Cont.rows, TV.ofPV_rows] at ht
  have hsem := acode_ok (X := ⟨Ar.std, T, ⟨0, M, own⟩⟩) (P := P) (w0 := w) (im0 := im) (D := ⟨fun _ => False, w, #[], fun _ => False, 0⟩) (ro := none) (n := 9) rfl hT hm body _ _ (h w im _ _ _ (fun _ _ _ h => h) (fun _ _ _ h => h) Ar.std rfl)
  exact calls_ofO hT (fun _ h => h) hf hb hrs hrel hsem
end
set_option maxRecDepth 100000
set_option maxHeartbeats 2000000
def cmpI (x y : Int) : Int := if x < y then -1 else if x > y then 1 else 0
theorem isNaN_does (x : Int) : Does Try.prog 54 [.int .i64 x] (.bool false) := by
  refine does_of (own := inPl) Try.func54 rfl Try.ntmps54 (congrArg Array.toList Try.results54) (fun us w => Try.call54 us w) hTT mixed (Nat.le_of_ble_eq_true rfl) ?_
  intro w0 im0 D0 S Cl hS hC ar har
  have har' := har
  obtain ⟨ai, ab, nz, inr, fi, pk, ix, ln, sb, eqi, sl, fits, mn, mx, nt, be, up, fu, mg, mh, ms⟩ := ar
  have F := facts_of har
  clear har
  have h : ab .neq x x = false := by rw [F.neq]; simp
  cbv
  rw [h]
  exact PLe.refl _
theorem compare_does (x y : Int) : Does Try.prog 23 [.int .i64 x, .int .i64 y] (.int .i64 (cmpI x y)) := by
  obtain ⟨V, hV⟩ : ∃ V, PV.int .i64 (cmpI x y) = V := ⟨_, rfl⟩
  rw [hV]
  unfold cmpI at hV
  have hx := isNaN_does x
  have hy := isNaN_does y
  refine does_of (own := inPl) Try.func23 rfl Try.ntmps23 (congrArg Array.toList Try.results23) (fun us w => Try.call23 us w) hTT mixed (Nat.le_of_ble_eq_true rfl) ?_
  intro w0 im0 D0 S Cl hS hC ar har
  have har' := har
  obtain ⟨ai, ab, nz, inr, fi, pk, ix, ln, sb, eqi, sl, fits, mn, mx, nt, be, up, fu, mg, mh, ms⟩ := ar
  have F := facts_of har
  clear har
  cbv
  refine ⟨_, hC _ _ _ hx, ?_⟩; cbv
  refine ⟨_, hC _ _ _ hy, ?_⟩; cbv
  cases c0 : ab .lss x y
  · rw [F.lss] at c0
    rw [if_neg (of_decide_eq_false c0)] at hV
    cbv
    cases c1 : ab .gtr x y
    · rw [F.gtr] at c1
      rw [if_neg (of_decide_eq_false c1)] at hV
      cbv
      rw [← hV]; exact PLe.refl _
    · rw [F.gtr] at c1
      rw [if_pos (of_decide_eq_true c1)] at hV
      cbv
      rw [← hV]; exact PLe.refl _
  · rw [F.lss] at c0
    rw [if_pos (of_decide_eq_true c0)] at hV
    cbv
    rw [← hV]; exact PLe.refl _
theorem noted1_does {a b : List Int} (ha : a.length = 7) (hb : b.length = 7) : Does Try.prog 22 [.agg (rowP a), .agg (rowP b)] (.int .i64 (cmpI (a.getD 0 0) (b.getD 0 0))) := by
  obtain ⟨a0, a1, a2, a3, a4, a5, a6, rfl⟩ := list7P ha
  obtain ⟨b0, b1, b2, b3, b4, b5, b6, rfl⟩ := list7P hb
  simp only [List.getD_cons_zero]
  have h := compare_does a0 b0
  generalize cmpI a0 b0 = c at *
  refine does_of (own := inPl) Try.func22 rfl Try.ntmps22 (congrArg Array.toList Try.results22) (fun us w => Try.call22 us w) hTT mixed (Nat.le_of_ble_eq_true rfl) ?_
  intro w0 im0 D0 S Cl hS hC ar har
  have har' := har
  obtain ⟨ai, ab, nz, inr, fi, pk, ix, ln, sb, eqi, sl, fits, mn, mx, nt, be, up, fu, mg, mh, ms⟩ := ar
  have F := facts_of har
  clear har
  cbv
  refine ⟨_, hC _ _ _ h, ?_⟩; cbv
  exact PLe.refl _
def exT : List (List Int) := [[0, 0, 12, 0, 0, 0, 0, 0, 0, 0, 0, 0, 4, 0, 0, 0, 0, 0, 0, 0, 0, 5, 20, 10]]
def exH : List (List Int) := [[1, 7, 1, 20, 500, 9, 10, 10, 0]]
def exN : List (List Int) := [[2, 1, 1, 3, 13, 14, 0], [3, 1, 2, 0, 15, 15, 0]]
theorem example_does : Does Try.prog 12 [] (accP exT exH exN) := by
  refine does_of (own := inPl) Try.func12 rfl Try.ntmps12 (congrArg Array.toList Try.results12) (fun us w => Try.call12 us w) hTT mixed (Nat.le_of_ble_eq_true rfl) ?_
  intro w0 im0 D0 S Cl hS hC ar har
  have har' := har
  obtain ⟨ai, ab, nz, inr, fi, pk, ix, ln, sb, eqi, sl, fits, mn, mx, nt, be, up, fu, mg, mh, ms⟩ := ar
  have F := facts_of har
  clear har
  cbv
  exact PLe.refl _
def pstE (T H N : List (List Int)) (D : List Int) : Int := if accOk T H N = true then (if daysOk D = true then 0 else 66) else 63
theorem daysOk_in {D : List Int} (h : daysOk D = true) : D.length ≤ 12 ∧ ∀ d ∈ D, 0 ≤ d ∧ d ≤ 100000 := by
  unfold daysOk dyK at h
  simp only [Bool.and_eq_true, decide_eq_true_eq, List.all_eq_true] at h
  refine ⟨h.1, fun d hd => ?_⟩
  obtain ⟨k, hk, rfl⟩ := List.mem_iff_getElem.1 hd
  have := h.2 k (List.mem_range.2 hk)
  rw [dyAt_eq hk, Bool.and_eq_true] at this
  exact inB_iff.1 this.1
theorem pstE_days {T H N : List (List Int)} {D : List Int} (h : pstE T H N D = 0) : accOk T H N = true ∧ daysOk D = true := by
  unfold pstE at h
  split at h
  · split at h
    · exact ⟨‹_›, ‹_›⟩
    · omega
  · omega
end Go.Proofs.Ytjimjdhdnkhfnaa
