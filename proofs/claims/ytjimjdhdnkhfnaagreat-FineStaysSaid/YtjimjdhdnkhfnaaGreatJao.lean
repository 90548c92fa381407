/- Contracts of functions of the program and of the reference, a calculus of states, and plain facts: a part of a proof. Own text. -/
import Derived.Test.YtjimjdhdnkhfnaaGreatJae
import Derived.Test.YtjimjdhdnkhfnaaGreatJam
import Derived.Test.YtjimjdhdnkhfnaaGreatJan
set_option linter.unusedVariables false
set_option linter.unusedSimpArgs false
set_option linter.unusedSectionVars false
set_option linter.unnecessarySimpa false
namespace Go.Proofs.YtjimjdhdnkhfnaaGreat
open Go Go.RowKit
set_option maxRecDepth 100000
def numP (l : List Int) : List (List PV) := l.map fun n => [PV.int .i64 n]
def accP (T H N : List (List Int)) : PV := .agg [.list 24 (T.map rowP), .list 9 (H.map rowP), .list 7 (N.map rowP)]
section
variable {im : Nat → Prop} {w : World}
theorem rep_ints : ∀ {x : List Int} {us : List Value}, RepL im w (rowP x) us ↔ us = ints x
  | [], us => by simp [rowP, RepL, ints]
  | a :: x, us => by
    have ih : ∀ us, RepL im w (rowP x) us ↔ us = ints x := fun us => rep_ints
    simp only [rowP, List.map_cons, RepL, RepP, ints] at ih ⊢
    constructor
    · rintro ⟨u, us', rfl, rfl, h⟩
      rw [(ih _).1 h]
    · rintro rfl
      exact ⟨_, _, rfl, rfl, (ih _).2 rfl⟩
theorem rep_rows {k : Nat} {T : List (List Int)} {u : Value} (him : ∀ b, im b → Plain w b) (h : RepP im w (.list k (T.map rowP)) u) (hw : ∀ x ∈ T, x.length = k) : ∃ A c, u = .slice A T.length c ∧ Rw w A T.length k T := by
  simp only [RepP] at h
  obtain ⟨A, n, c, rfl, hn, hc, hm, h⟩ := h
  simp only [List.length_map] at hn
  subst hn
  refine ⟨A, c, rfl, rfl, by simp only [maxLen] at hm; omega, hw, fun i hi => ?_⟩
  rcases h with h | ⟨b, o, rfl, hb, hE⟩
  · have : T = [] := by simpa using h
    subst this
    simp at hi
  · obtain ⟨us, _, _, hr, hl⟩ := hE.get (get_rows hi)
    rw [rep_ints] at hl
    subst hl
    exact ⟨b, o, rfl, (him b hb).1, hr⟩
theorem rep_nums {l : List Int} {u : Value} (him : ∀ b, im b → Plain w b) (h : RepP im w (.list 1 (numP l)) u) : ∃ A c, u = .slice A l.length c ∧ Is w A l.length l := by
  simp only [RepP, numP] at h
  obtain ⟨A, n, c, rfl, hn, hc, hm, h⟩ := h
  simp only [List.length_map] at hn
  subst hn
  refine ⟨A, c, rfl, rfl, by simp only [maxLen] at hm; omega, fun i hi => ?_⟩
  rcases h with h | ⟨b, o, rfl, hb, hE⟩
  · have : l = [] := by simpa using h
    subst this
    simp at hi
  · obtain ⟨us, _, _, hr, hl⟩ := hE.get (i := i) (e := [PV.int .i64 l[i]]) (by simp [hi])
    simp only [RepL, RepP] at hl
    obtain ⟨x, xs, rfl, rfl, rfl⟩ := hl
    refine ⟨b, o, rfl, (him b hb).1, ?_⟩
    have := hr 0 _ rfl
    simpa using this
theorem rep_acc {T H N : List (List Int)} {u : Value} (him : ∀ b, im b → Plain w b) (h : RepP im w (accP T H N) u) (h1 : ∀ x ∈ T, x.length = 24) (h2 : ∀ x ∈ H, x.length = 9) (h3 : ∀ x ∈ N, x.length = 7) :
    ∃ A c S s B e, u = .agg #[.slice A T.length c, .slice S H.length s, .slice B N.length e] ∧ Rw w A T.length 24 T ∧ Rw w S H.length 9 H ∧ Rw w B N.length 7 N := by
  simp only [accP] at h
  have h' : ∃ us : List Value, u = .agg us.toArray ∧ RepL im w [.list 24 (T.map rowP), .list 9 (H.map rowP), .list 7 (N.map rowP)] us := by simpa only [RepP] using h
  obtain ⟨us, rfl, h'⟩ := h'
  have h'' : ∃ a b c, us = [a, b, c] ∧ RepP im w (.list 24 (T.map rowP)) a ∧ RepP im w (.list 9 (H.map rowP)) b ∧ RepP im w (.list 7 (N.map rowP)) c := by
    obtain ⟨a, r, rfl, ha, b, r, rfl, hb, c, r, rfl, hc, rfl⟩ : ∃ a r, us = a :: r ∧ RepP im w (.list 24 (T.map rowP)) a ∧ ∃ b r', r = b :: r' ∧ RepP im w (.list 9 (H.map rowP)) b ∧ ∃ c r'', r' = c :: r'' ∧ RepP im w (.list 7 (N.map rowP)) c ∧ r'' = [] := by simpa only [RepL] using h'
    exact ⟨a, b, c, rfl, ha, hb, hc⟩
  obtain ⟨a, b, c, rfl, ha, hb, hc⟩ := h''
  obtain ⟨A, c1, rfl, hA⟩ := rep_rows him ha h1
  obtain ⟨S, c2, rfl, hS⟩ := rep_rows him hb h2
  obtain ⟨B, c3, rfl, hB⟩ := rep_rows him hc h3
  exact ⟨A, c1, S, c2, B, c3, rfl, hA, hS, hB⟩
theorem rep_agg {x : List Int} {u : Value} (h : RepP im w (.agg (rowP x)) u) : u = .agg ⟨ints x⟩ := by
  simp only [RepP] at h
  obtain ⟨us, rfl, h⟩ := h
  rw [rep_ints.1 h]
theorem agg_rep (x : List Int) : RepP im w (.agg (rowP x)) (.agg ⟨ints x⟩) := by
  simp only [RepP]
  exact ⟨ints x, rfl, rep_ints.2 rfl⟩
theorem L1 {a : PV} {us : List Value} (h : RepL im w [a] us) : ∃ x, us = [x] ∧ RepP im w a x := by
  obtain ⟨x, r, rfl, h1, rfl⟩ : ∃ x r, us = x :: r ∧ RepP im w a x ∧ r = [] := by simpa only [RepL] using h
  exact ⟨x, rfl, h1⟩
theorem L2 {a b : PV} {us : List Value} (h : RepL im w [a, b] us) : ∃ x y, us = [x, y] ∧ RepP im w a x ∧ RepP im w b y := by
  obtain ⟨x, r, rfl, h1, y, r', rfl, h2, rfl⟩ : ∃ x r, us = x :: r ∧ RepP im w a x ∧ ∃ y r', r = y :: r' ∧ RepP im w b y ∧ r' = [] := by simpa only [RepL] using h
  exact ⟨x, y, rfl, h1, h2⟩
theorem L3 {a b c : PV} {us : List Value} (h : RepL im w [a, b, c] us) : ∃ x y z, us = [x, y, z] ∧ RepP im w a x ∧ RepP im w b y ∧ RepP im w c z := by
  obtain ⟨x, r, rfl, h1, y, r', rfl, h2, z, r'', rfl, h3, rfl⟩ : ∃ x r, us = x :: r ∧ RepP im w a x ∧ ∃ y r', r = y :: r' ∧ RepP im w b y ∧ ∃ z r'', r' = z :: r'' ∧ RepP im w c z ∧ r'' = [] := by simpa only [RepL] using h
  exact ⟨x, y, z, rfl, h1, h2, h3⟩
theorem rep_int {n : Int} {u : Value} (h : RepP im w (.int .i64 n) u) : u = .int .i64 n := by simpa only [RepP] using h
theorem tup_rep {a b : PV} {x y : Value} (h : RepP im w a x) (k : RepP im w b y) : RepP im w (.tup [a, b]) (.tuple #[x, y]) := by
  simp only [RepP, RepL]
  exact ⟨[x, y], rfl, x, _, rfl, h, y, _, rfl, k, rfl⟩
theorem int_rep {n : Int} : RepP im w (.int .i64 n) (.int .i64 n) := by simp only [RepP]
theorem bool_rep {b : Bool} : RepP im w (.bool b) (.bool b) := by simp only [RepP]
end
section
variable {T H N : List (List Int)} (h1 : ∀ x ∈ T, x.length = 24) (h2 : ∀ x ∈ H, x.length = 9) (h3 : ∀ x ∈ N, x.length = 7)
include h1 h2 h3
theorem check_does : Does Tryz.prog 16 [accP T H N] (.int .i64 (err (accOk T H N) 63)) := ⟨fun us w => Tryz.call16 us w, fun w im us him hr => by
  obtain ⟨x, rfl, hx⟩ := L1 hr
  obtain ⟨A, c, S, s, B, e, rfl, hA, hS, hB⟩ := rep_acc him hx h1 h2 h3
  exact (rcheck_any A _ c T S _ s H B _ e N w hA hS hB).mono (by rintro e w' ⟨rfl, hb⟩; exact ⟨_, rfl, int_rep, hb⟩)⟩
theorem pcheck_does : Does Tryz.prog 15 [accP T H N] (.int .i64 (err (accOk T H N) 63)) := ⟨fun us w => Tryz.call15 us w, fun w im us him hr => by
  obtain ⟨x, rfl, hx⟩ := L1 hr
  obtain ⟨A, c, S, s, B, e, rfl, hA, hS, hB⟩ := rep_acc him hx h1 h2 h3
  exact (check_any A _ c T S _ s H B _ e N w hA hS hB).mono (by rintro e w' ⟨rfl, hb⟩; exact ⟨_, rfl, int_rep, hb⟩)⟩
theorem asked_does (d : Int) : Does Tryz.prog 89 [accP T H N, .int .i64 d] (.int .i64 (askE T H N d)) := ⟨fun us w => Tryz.call89 us w, fun w im us him hr => by
  obtain ⟨x, y, rfl, hx, hy⟩ := L2 hr
  obtain ⟨A, c, S, s, B, e, rfl, hA, hS, hB⟩ := rep_acc him hx h1 h2 h3
  rw [rep_int hy]
  exact (rasked_any A _ c T S _ s H B _ e N d w hA hS hB).mono (by rintro e w' ⟨rfl, hb⟩; exact ⟨_, rfl, int_rep, hb⟩)⟩
theorem stayOf_does (id d : Int) : Does Tryz.prog 92 [accP T H N, .int .i64 id, .int .i64 d] (.tup [.agg (rowP (staN T H N id d).1), .int .i64 (staN T H N id d).2]) := ⟨fun us w => Tryz.call92 us w, fun w im us him hr => by
  obtain ⟨x, y, z, rfl, hx, hy, hz⟩ := L3 hr
  obtain ⟨A, c, S, s, B, e, rfl, hA, hS, hB⟩ := rep_acc him hx h1 h2 h3
  rw [rep_int hy, rep_int hz]
  exact (rstayOf_any A _ c T S _ s H B _ e N id d w hA hS hB).mono (by rintro e w' ⟨rfl, hb⟩; exact ⟨_, rfl, tup_rep (agg_rep _) int_rep, hb⟩)⟩
theorem inForce_does (d : Int) : Does Tryz.prog 85 [accP T H N, .int .i64 d] (.tup [.agg (rowP ((ifT T d).getD zero24)), .bool (ifT T d).isSome]) := ⟨fun us w => Tryz.call85 us w, fun w im us him hr => by
  obtain ⟨x, y, rfl, hx, hy⟩ := L2 hr
  obtain ⟨A, c, S, s, B, e, rfl, hA, hS, hB⟩ := rep_acc him hx h1 h2 h3
  rw [rep_int hy]
  exact (rinForce_any A _ c T S _ s B _ e d w hA).mono (by rintro e w' ⟨rfl, hb⟩; exact ⟨_, rfl, tup_rep (agg_rep _) bool_rep, hb⟩)⟩
theorem fed_does (hok : ∀ x ∈ T, tarOk x = true) {h : List Int} (hh : h.length = 9) (he : 0 ≤ h.getD 3 0 ∧ h.getD 3 0 ≤ 100) (d : Int) : Does Tryz.prog 135 [accP T H N, .agg (rowP h), .int .i64 d] (.int .i64 (feedD T (h.getD 3 0) d)) := ⟨fun us w => Tryz.call135 us w, fun w im us him hr => by
  obtain ⟨x, y, z, rfl, hx, hy, hz⟩ := L3 hr
  obtain ⟨A, c, S, s, B, e, rfl, hA, hS, hB⟩ := rep_acc him hx h1 h2 h3
  rw [rep_agg hy, rep_int hz]
  exact (rfed_any A _ c T S _ s B _ e h d w hh hA hok he).mono (by rintro e w' ⟨rfl, hb⟩; exact ⟨_, rfl, int_rep, hb⟩)⟩
theorem lot_does (h60 : N.length ≤ 1000) (hok : ∀ x ∈ T, tarOk x = true) {h : List Int} (hh : h.length = 9) (he : 0 ≤ h.getD 3 0 ∧ h.getD 3 0 ≤ 100) (hs : 0 ≤ h.getD 6 0 ∧ h.getD 6 0 ≤ 1000000) (d : Int) :
    Does Tryz.prog 94 [accP T H N, .agg (rowP h), .int .i64 d] (.agg (rowP (lotN T N h d))) := ⟨fun us w => Tryz.call94 us w, fun w im us him hr => by
  obtain ⟨x, y, z, rfl, hx, hy, hz⟩ := L3 hr
  obtain ⟨A, c, S, s, B, e, rfl, hA, hS, hB⟩ := rep_acc him hx h1 h2 h3
  rw [rep_agg hy, rep_int hz]
  exact (rlot_any A _ c T S _ s B _ e N h d w hh hA hB h60 hok he hs).mono (by rintro e w' ⟨rfl, hb⟩; exact ⟨_, rfl, agg_rep _, hb⟩)⟩
end
theorem last_does {lt : List Int} (kn : Int) (hl : lt.length = 4) (hd : -1 ≤ lt.getD 3 0 ∧ lt.getD 3 0 ≤ 1000000) : Does Tryz.prog 97 [.agg (rowP lt), .int .i64 kn] (.int .i64 (lasN lt kn)) := ⟨fun us w => Tryz.call97 us w, fun w im us him hr => by
  obtain ⟨x, y, rfl, hx, hy⟩ := L2 hr
  rw [rep_agg hx, rep_int hy]
  exact (rlast_any lt kn w hl hd).mono (by rintro e w' ⟨rfl, hb⟩; exact ⟨_, rfl, int_rep, hb⟩)⟩
theorem areDays_does (D : List Int) : Does Tryz.prog 105 [.list 1 (numP D)] (.bool (daysOk D)) := ⟨fun us w => Tryz.call105 us w, fun w im us him hr => by
  obtain ⟨x, rfl, hx⟩ := L1 hr
  obtain ⟨A, c, rfl, hA⟩ := rep_nums him hx
  exact (rareDays_any A _ c D w hA).mono (by rintro e w' ⟨rfl, hb⟩; exact ⟨_, rfl, bool_rep, hb⟩)⟩
theorem has_does (l : List Int) (n : Int) : Does Tryz.prog 55 [.list 1 (numP l), .int .i64 n] (.bool (l.contains n)) := ⟨fun us w => Tryz.call55 us w, fun w im us him hr => by
  obtain ⟨x, y, rfl, hx, hy⟩ := L2 hr
  obtain ⟨A, c, rfl, hA⟩ := rep_nums him hx
  rw [rep_int hy]
  exact (rHas_any A _ c l n w hA).mono (by rintro e w' ⟨rfl, rfl⟩; exact ⟨_, rfl, bool_rep, Below.refl _ _⟩)⟩
theorem sameInts_does (l m : List Int) : Does Tryz.prog 29 [.list 1 (numP l), .list 1 (numP m)] (.bool (l == m)) := ⟨fun us w => Tryz.call29 us w, fun w im us him hr => by
  obtain ⟨x, y, rfl, hx, hy⟩ := L2 hr
  obtain ⟨A, c, rfl, hA⟩ := rep_nums him hx
  obtain ⟨B, d, rfl, hB⟩ := rep_nums him hy
  exact (rSameInts_any A _ c l B _ d m w hA hB).mono (by rintro e w' ⟨rfl, hb⟩; exact ⟨_, rfl, bool_rep, hb⟩)⟩
theorem mod_does (n m : Int) (hm : 0 < m) (hm2 : m ≤ 1000000) : Does Tryz.prog 57 [.int .i64 n, .int .i64 m] (.int .i64 (modI n m)) := ⟨fun us w => Tryz.call57 us w, fun w im us him hr => by
  obtain ⟨x, y, rfl, hx, hy⟩ := L2 hr
  rw [rep_int hx, rep_int hy]
  exact (rMod_any n m w hm hm2).mono (by rintro e w' ⟨rfl, rfl⟩; exact ⟨_, rfl, int_rep, Below.refl _ _⟩)⟩
theorem rcounts_does (k u d : Int) : Does Tryz.prog 90 [.int .i64 k, .int .i64 u, .int .i64 d] (.bool (cntB k u d)) := ⟨fun us w => Tryz.call90 us w, fun w im us him hr => by
  obtain ⟨x, y, z, rfl, hx, hy, hz⟩ := L3 hr
  rw [rep_int hx, rep_int hy, rep_int hz]
  exact (rcounts_any k u d w).mono (by rintro e w' ⟨rfl, rfl⟩; exact ⟨_, rfl, bool_rep, Below.refl _ _⟩)⟩
theorem rIn_does (n l h : Int) : Does Tryz.prog 77 [.int .i64 n, .int .i64 l, .int .i64 h] (.bool (inB n l h)) := ⟨fun us w => Tryz.call77 us w, fun w im us him hr => by
  obtain ⟨x, y, z, rfl, hx, hy, hz⟩ := L3 hr
  rw [rep_int hx, rep_int hy, rep_int hz]
  exact (rIn_any n l h w).mono (by rintro e w' ⟨rfl, rfl⟩; exact ⟨_, rfl, bool_rep, Below.refl _ _⟩)⟩
set_option maxHeartbeats 2000000
def sumK (g : Int → Int) (f : Int) (k : Nat) : Int := sumL g (dayK f k)
theorem sumK_succ (g : Int → Int) (f : Int) (k : Nat) : sumK g f (k + 1) = sumK g f k + g (f + (k : Int)) := by unfold sumK; rw [dayK_succ, sumL_snoc]
theorem sumK_in {g : Int → Int} (h : ∀ d, 0 ≤ g d ∧ g d ≤ 1000000) (f : Int) : ∀ k : Nat, 0 ≤ sumK g f k ∧ sumK g f k ≤ 1000000 * (k : Int)
  | 0 => by simp [sumK, dayK, sumL]
  | k + 1 => by
    have := sumK_in h f k
    have := h (f + (k : Int))
    rw [sumK_succ]
    omega
theorem lotS_in (E : List Int) (day : Int) (p : Int × Int) (i : Nat) (h : -1 ≤ p.2 ∧ p.2 ≤ max day (-1)) : -1 ≤ (lotS E day p i).2 ∧ (lotS E day p i).2 ≤ max day (-1) := by
  unfold lotS
  split
  · rename_i hc
    dsimp only
    omega
  · exact h
theorem lotN_day (T N : List (List Int)) (h : List Int) (day : Int) : -1 ≤ (lotN T N h day).getD 3 0 ∧ (lotN T N h day).getD 3 0 ≤ max day (-1) := by
  show -1 ≤ (lotK (lotE T N h day) day 4).2 ∧ (lotK (lotE T N h day) day 4).2 ≤ max day (-1)
  generalize lotE T N h day = E
  have : ∀ k, -1 ≤ (lotK E day k).2 ∧ (lotK E day k).2 ≤ max day (-1) := fun k => by
    induction k with
    | zero => simp [lotK]; omega
    | succ k ih => rw [lotK_succ]; exact lotS_in E day _ _ ih
  exact this 4
theorem rates_in {T : List (List Int)} (h1 : ∀ x ∈ T, x.length = 24) (hok : ∀ x ∈ T, tarOk x = true) (d : Int) {j : Nat} (hj : j < 10) : (0 ≤ (tarAt T d).getD (1 + j) 0 ∧ (tarAt T d).getD (1 + j) 0 ≤ 10000) ∧ 0 ≤ (tarAt T d).getD (11 + j) 0 ∧ (tarAt T d).getD (11 + j) 0 ≤ 10000 := by
  unfold tarAt
  cases hf : ifT T d with
  | none =>
    simp only [Option.getD_none]
    have : ∀ q, zero24.getD q 0 = 0 := fun q => by
      by_cases hq : q < 24
      · have : ∀ q : Fin 24, zero24.getD q 0 = 0 := by decide
        exact this ⟨q, hq⟩
      · rw [List.getD_eq_getElem?_getD, List.getElem?_eq_none (by simp [zero24]; omega)]; rfl
    rw [this, this]; omega
  | some x =>
    have hx := hok x (ifT_mem hf)
    have hl := h1 x (ifT_mem hf)
    simp only [Option.getD_some]
    unfold tarOk at hx
    simp only [Bool.and_eq_true] at hx
    obtain ⟨_, hh, hd, _⟩ := hx
    unfold rateOk at hh hd
    simp only [Bool.and_eq_true, List.all_eq_true] at hh hd
    have e1 := inB_iff.1 (hh.1 (x.getD (1 + j) 0) (by
      unfold headT
      have : 1 + j < x.length := by omega
      rw [show x.getD (1 + j) 0 = x[1 + j] by simp [List.getD, this]]
      refine List.mem_of_getElem? (i := j) ?_
      rw [List.getElem?_take_of_lt hj, List.getElem?_drop, List.getElem?_eq_getElem this]))
    have e2 := inB_iff.1 (hd.1 (x.getD (11 + j) 0) (by
      unfold dailT
      have : 11 + j < x.length := by omega
      rw [show x.getD (11 + j) 0 = x[11 + j] by simp [List.getD, this]]
      refine List.mem_of_getElem? (i := j) ?_
      rw [List.getElem?_take_of_lt hj, List.getElem?_drop, List.getElem?_eq_getElem this]))
    exact ⟨e1, e2⟩
def finD (T : List (List Int)) (srt stop d : Int) : Int := if decide (stop < 0) || decide (d < stop) then (tarAt T d).getD (11 + srt.toNat) 0 else 0
def chgN (T N : List (List Int)) (h : List Int) (d : Int) : List Int :=
  if d < h.getD 6 0 then [0, 0, 0]
  else [(tarAt T (h.getD 6 0)).getD (1 + (h.getD 2 0).toNat) 0, sumL (feedD T (h.getD 3 0)) (dayL (h.getD 6 0) (lasN (lotN T N h d) d)), sumL (finD T (h.getD 2 0) ((lotN T N h d).getD 1 0)) (dayL (h.getD 6 0) (lasN (lotN T N h d) d))]
theorem heldOk_bounds {h : List Int} (hk : heldOk h = true) : (1 ≤ h.getD 2 0 ∧ h.getD 2 0 ≤ 9) ∧ (0 ≤ h.getD 3 0 ∧ h.getD 3 0 ≤ 100) ∧ (0 ≤ h.getD 4 0 ∧ h.getD 4 0 ≤ 100000) ∧ (0 ≤ h.getD 5 0 ∧ h.getD 5 0 ≤ 99) ∧ (0 ≤ h.getD 6 0 ∧ h.getD 6 0 ≤ 100000) := by
  unfold heldOk at hk
  simp only [Bool.and_eq_true, inB_iff] at hk
  obtain ⟨_, ⟨_, b⟩, ⟨c, d, e⟩, f, _⟩ := hk
  exact ⟨b, c, d, e, f⟩
theorem charged_does {T H N : List (List Int)} (h1 : ∀ x ∈ T, x.length = 24) (h2 : ∀ x ∈ H, x.length = 9) (h3 : ∀ x ∈ N, x.length = 7) (h60 : N.length ≤ 1000) (hok : ∀ x ∈ T, tarOk x = true) {h : List Int} (hh : h.length = 9) (hhk : heldOk h = true) (d : Int) (hd : 0 ≤ d ∧ d ≤ 100000) :
    Does Tryz.prog 99 [accP T H N, .agg (rowP h), .int .i64 d] (.agg (rowP (chgN T N h d))) := by
  generalize hR : PV.agg (rowP (chgN T N h d)) = R
  refine does_of (own := inPl) Tryz.func99 rfl Tryz.ntmps99 (congrArg Array.toList Tryz.results99) (fun us w => Tryz.call99 us w) hTT mixed (Nat.le_of_ble_eq_true rfl) ?_
  intro w0 im0 D0 S Cl hS hC ar har
  have har' := har
  obtain ⟨ai, ab, nz, inr, fi, pk, ix, ln, sb, eqi, sl, fits, mn, mx, nt, be, up, fu, mg, mh, ms⟩ := ar
  have F := facts_of har
  clear har
  obtain ⟨b2, b3, b4, b5, b6⟩ := heldOk_bounds hhk
  have hL := lot_does h1 h2 h3 h60 hok hh b3 (by omega) d
  have hF := fun q => fed_does h1 h2 h3 hok hh b3 q
  have hI : ∀ q, Does Tryz.prog 85 [accP T H N, .int .i64 q] (.tup [.agg (rowP (tarAt T q)), .bool (ifT T q).isSome]) := fun q => inForce_does h1 h2 h3 q
  have hLday := lotN_day T N h d
  obtain ⟨l0, l1, l2, l3, hl⟩ : ∃ l0 l1 l2 l3, lotN T N h d = [l0, l1, l2, l3] := ⟨_, _, _, _, rfl⟩
  have hLas : Does Tryz.prog 97 [.agg (rowP [l0, l1, l2, l3]), .int .i64 d] (.int .i64 (lasN (lotN T N h d) d)) := by
    rw [hl]; exact last_does d rfl (by rw [hl] at hLday; simp only [List.getD_cons_succ, List.getD_cons_zero] at hLday ⊢; omega)
  have hlas : lasN (lotN T N h d) d ≤ 100000 := by
    unfold lasN; rw [hl] at hLday ⊢
    simp only [List.getD_cons_succ, List.getD_cons_zero] at hLday ⊢
    split
    · omega
    · split <;> omega
  rw [hl] at hL
  have hfin : R = PV.agg (rowP (if d < h.getD 6 0 then [0, 0, 0] else [(tarAt T (h.getD 6 0)).getD (1 + (h.getD 2 0).toNat) 0, sumL (feedD T (h.getD 3 0)) (dayL (h.getD 6 0) (lasN (lotN T N h d) d)), sumL (finD T (h.getD 2 0) l1) (dayL (h.getD 6 0) (lasN (lotN T N h d) d))])) := by
    rw [← hR]; unfold chgN; rw [hl]; rfl
  generalize lasN (lotN T N h d) d = la at *
  have hfd := fun q => feedD_in hok b3 q
  have hfn : ∀ q, 0 ≤ finD T (h.getD 2 0) l1 q ∧ finD T (h.getD 2 0) l1 q ≤ 1000000 := fun q => by
    have := (rates_in h1 hok q (j := (h.getD 2 0).toNat) (by omega)).2
    unfold finD; split <;> omega
  obtain ⟨a, b, c, e, f, g, i, j, k, rfl⟩ := list9 hh
  simp only [List.getD_cons_succ, List.getD_cons_zero] at b2 b3 b6 hF hfin hfd hfn
  obtain ⟨eT, hT⟩ : ∃ es, T.map rowP = es := ⟨_, rfl⟩
  obtain ⟨eH, hH⟩ : ∃ es, H.map rowP = es := ⟨_, rfl⟩
  obtain ⟨eN, hN⟩ : ∃ es, N.map rowP = es := ⟨_, rfl⟩
  simp only [accP, hT, hH, hN] at hL hF hI ⊢
  have hinr : inr 10 c = true := F.inr 10 c (by omega) (by omega)
  cbv
  cases c0 : ab .gtr i d
  rotate_left
  · cbv
    rw [hfin, if_pos (by rw [F.gtr] at c0; simpa using c0)]
    exact PLe.of_eq rfl
  cbv
  have hid' : ¬ d < i := by rw [F.gtr] at c0; simpa using c0
  refine ⟨_, hC _ _ _ hL, ?_⟩; cbv
  obtain ⟨p0, p1, p2, p3, p4, p5, p6, p7, p8, p9, p10, p11, p12, p13, p14, p15, p16, p17, p18, p19, p20, p21, p22, p23, hp⟩ := list24 (tarAt_len h1 i)
  refine ⟨_, hC _ _ _ (hI i), ?_⟩
  rw [hp]; cbv
  rw [hinr]; cbv
  have hfi : fi [p1, p2, p3, p4, p5, p6, p7, p8, p9, p10] c = (tarAt T i).getD (1 + c.toNat) 0 := by
    rw [F.fi, hp]
    obtain ⟨q, hq⟩ : ∃ q : Nat, c = q := ⟨c.toNat, by omega⟩
    subst hq
    have hq9 : q ≤ 9 := by omega
    simp only [Int.toNat_natCast]
    match q, hq9 with
    | 0, _ | 1, _ | 2, _ | 3, _ | 4, _ | 5, _ | 6, _ | 7, _ | 8, _ | 9, _ => rfl
  rw [hfi]
  generalize (tarAt T i).getD (1 + c.toNat) 0 = hd0 at *
  clear hfi hp
  obtain ⟨m, hm⟩ : ∃ m, m = (la - i + 1).toNat := ⟨_, rfl⟩
  refine hS _ _ _ (sem_loop (fun x : Nat × Int × Int × Int => [sI 2 d, sP 3 3, sP 4 4, sP 6 6, sP 7 7, sP 8 8, sI 11 x.2.1, bX 3 26 [cL 24 eT, cL 9 eH, cL 7 eN], bX 4 32 [cI a, cI b, cI c, cI e, cI f, cI g, cI i, cI j, cI k], bX 6 62 [cI 0, cI 0, cI 0], bX 7 62 [cI hd0, cI x.2.2.1, cI x.2.2.2], bX 8 56 [cI l0, cI l1, cI l2, cI l3]]) (fun x => x.1 ≤ m ∧ x.2.1 = i + (x.1 : Int) ∧ x.2.2.1 = sumK (feedD T e) i x.1 ∧ x.2.2.2 = sumK (finD T c l1) i x.1) (fun x => m - x.1) (fun t => t) (0, i, 0, 0) (fun t => t) ⟨by rfl, by cbv; try (repeat (first | exact rfl | exact trivial | refine ⟨?_, ?_⟩))⟩ ?_ ?_)
  · exact ⟨by simp, by simp, rfl, rfl⟩
  rintro ⟨q, y, s, t⟩ ⟨hq, hy, hs, ht⟩
  dsimp only at hq hy hs ht
  have hsk := sumK_in hfd i q
  have htk := sumK_in hfn i q
  have hq6 : (q : Int) ≤ 200000 := by omega
  have hadd : ai .add y 1 = i + ((q + 1 : Nat) : Int) := by rw [F.add y 1 (by omega) (by omega), hy]; omega
  have hfy := hfd y
  have hny := hfn y
  have hs1 : ai .add s (feedD T e y) = sumK (feedD T e) i (q + 1) := by rw [F.add _ _ (by omega) (by omega), sumK_succ, hs, hy]
  obtain ⟨r0, r1, r2, r3, r4, r5, r6, r7, r8, r9, r10, r11, r12, r13, r14, r15, r16, r17, r18, r19, r20, r21, r22, r23, hp⟩ := list24 (tarAt_len h1 y)
  have hfi : fi [r11, r12, r13, r14, r15, r16, r17, r18, r19, r20] c = (tarAt T y).getD (11 + c.toNat) 0 := by
    rw [F.fi, hp]
    obtain ⟨q, hq⟩ : ∃ q : Nat, c = q := ⟨c.toNat, by omega⟩
    subst hq
    have hq9 : q ≤ 9 := by omega
    simp only [Int.toNat_natCast]
    match q, hq9 with
    | 0, _ | 1, _ | 2, _ | 3, _ | 4, _ | 5, _ | 6, _ | 7, _ | 8, _ | 9, _ => rfl
  have hIy := hI y
  rw [hp] at hIy
  have hyes : (decide (l1 < 0) || decide (y < l1)) = true → ai .add t ((tarAt T y).getD (11 + c.toNat) 0) = sumK (finD T c l1) i (q + 1) := fun hc => by
    have : finD T c l1 y = (tarAt T y).getD (11 + c.toNat) 0 := by unfold finD; rw [if_pos hc]
    rw [this] at hny
    rw [F.add _ _ (by omega) (by omega), sumK_succ, ← hy, this, ht]
  have hno : (decide (l1 < 0) || decide (y < l1)) = false → t = sumK (finD T c l1) i (q + 1) := fun hc => by
    have : finD T c l1 y = 0 := by unfold finD; rw [if_neg (by simp [hc])]
    rw [sumK_succ, ← hy, this, ht, Int.add_zero]
  obtain ⟨fe, hfe⟩ : ∃ z, feedD T e y = z := ⟨_, rfl⟩
  have hFy := hF y
  obtain ⟨rv, hrv⟩ : ∃ z, (tarAt T y).getD (11 + c.toNat) 0 = z := ⟨_, rfl⟩
  rw [hfe] at hs1 hFy
  rw [hrv] at hyes hfi
  have hlt : y ≤ la → q < m := by omega
  have hge : ¬ y ≤ la → q = m := by omega
  have hb1 : ab .lss l1 0 = decide (l1 < 0) := F.lss _ _
  have hb2 : ab .lss y l1 = decide (y < l1) := F.lss _ _
  have hb3 : ab .leq y la = decide (y ≤ la) := F.leq _ _
  refine sem_of (X := ⟨_, TT, ⟨0, 78, inPl⟩⟩) har' hTT mixed ?_
  intro S1 Cl1 hS1 hC1
  cbv
  refine ⟨_, hC1 _ _ _ hLas, ?_⟩; cbv
  cases c0 : ab .leq y la
  · cbv
    have hqm := hge (by rw [hb3] at c0; simpa using c0)
    rw [hfin, if_neg hid']
    refine PLe.of_eq ?_
    subst hqm
    rw [hs, ht, hm]; rfl
  · cbv
    have hlt := hlt (by rw [hb3] at c0; simpa using c0)
    refine ⟨_, hC1 _ _ _ hIy, ?_⟩; cbv
    refine ⟨_, hC1 _ _ _ hFy, ?_⟩; cbv
    cases c1 : ab .lss l1 0
    · cbv
      cases c2 : ab .lss y l1
      · cbv
        exact ⟨(q + 1, ai .add y 1, ai .add s fe, t), ⟨hlt, hadd, hs1, hno (by rw [← hb1, ← hb2, c1, c2]; rfl)⟩, by dsimp only; omega, ⟨by rfl, by cbv; try (repeat (first | exact rfl | exact trivial | refine ⟨?_, ?_⟩))⟩⟩
      · cbv
        rw [hinr]; cbv
        rw [hfi]
        exact ⟨(q + 1, ai .add y 1, ai .add s fe, ai .add t rv), ⟨hlt, hadd, hs1, hyes (by rw [← hb1, ← hb2, c1, c2]; rfl)⟩, by dsimp only; omega, ⟨by rfl, by cbv; try (repeat (first | exact rfl | exact trivial | refine ⟨?_, ?_⟩))⟩⟩
    · cbv
      rw [hinr]; cbv
      rw [hfi]
      exact ⟨(q + 1, ai .add y 1, ai .add s fe, ai .add t rv), ⟨hlt, hadd, hs1, hyes (by rw [← hb1, c1]; rfl)⟩, by dsimp only; omega, ⟨by rfl, by cbv; try (repeat (first | exact rfl | exact trivial | refine ⟨?_, ?_⟩))⟩⟩
def dueP (T : List (List Int)) (h : List Int) (payer s : Int) : List Int :=
  let w := s * (tarAt T (h.getD 6 0)).getD 22 0 / 60
  let v := if 0 < h.getD 5 0 then s * (tarAt T (h.getD 6 0)).getD 23 0 / 60 else 0
  [payer, w, v, s - w - v]
def sum3 (c : List Int) : Int := c.getD 0 0 + c.getD 1 0 + c.getD 2 0
def dueN (T N : List (List Int)) (h : List Int) (d : Int) : List Int :=
  if (lotN T N h d).getD 2 0 = 2 then dueP T h 2 (h.getD 4 0)
  else if (lotN T N h d).getD 2 0 = 3 ∨ (lotN T N h d).getD 0 0 = 0 then [-1, 0, 0, 0]
  else dueP T h (2 + (lotN T N h d).getD 0 0) (sum3 (chgN T N h d))
theorem chgN_in {T N : List (List Int)} (h1 : ∀ x ∈ T, x.length = 24) (hok : ∀ x ∈ T, tarOk x = true) {h : List Int} (hhk : heldOk h = true) {d : Int} (hd : 0 ≤ d ∧ d ≤ 100000) :
    (0 ≤ (chgN T N h d).getD 0 0 ∧ (chgN T N h d).getD 0 0 ≤ 10000) ∧ (0 ≤ (chgN T N h d).getD 1 0 ∧ (chgN T N h d).getD 1 0 ≤ 200000000000) ∧ (0 ≤ (chgN T N h d).getD 2 0 ∧ (chgN T N h d).getD 2 0 ≤ 200000000000) := by
  obtain ⟨b2, b3, b4, b5, b6⟩ := heldOk_bounds hhk
  unfold chgN
  split
  · simp
  · simp only [List.getD_cons_zero, List.getD_cons_succ]
    have hday := lotN_day T N h d
    have hlas : lasN (lotN T N h d) d ≤ 100000 := by
      unfold lasN
      split
      · omega
      · split <;> omega
    have h2 := (rates_in h1 hok (h.getD 6 0) (j := (h.getD 2 0).toNat) (by omega)).1
    have hfd := fun q => feedD_in hok b3 q
    have hfn : ∀ q, 0 ≤ finD T (h.getD 2 0) ((lotN T N h d).getD 1 0) q ∧ finD T (h.getD 2 0) ((lotN T N h d).getD 1 0) q ≤ 1000000 := fun q => by
      have := (rates_in h1 hok q (j := (h.getD 2 0).toNat) (by omega)).2
      unfold finD; split <;> omega
    have s1 := sumK_in hfd (h.getD 6 0) (lasN (lotN T N h d) d - h.getD 6 0 + 1).toNat
    have s2 := sumK_in hfn (h.getD 6 0) (lasN (lotN T N h d) d - h.getD 6 0 + 1).toNat
    unfold sumK at s1 s2
    unfold dayL
    refine ⟨h2, ?_, ?_⟩ <;> omega
theorem tar_share {T : List (List Int)} (hok : ∀ x ∈ T, tarOk x = true) (d : Int) : (0 ≤ (tarAt T d).getD 22 0 ∧ (tarAt T d).getD 22 0 ≤ 60) ∧ (0 ≤ (tarAt T d).getD 23 0 ∧ (tarAt T d).getD 23 0 ≤ 60) ∧ (tarAt T d).getD 22 0 + (tarAt T d).getD 23 0 ≤ 60 := by
  unfold tarAt
  cases hf : ifT T d with
  | none => simp [zero24]
  | some x =>
    have hx := hok x (ifT_mem hf)
    unfold tarOk at hx
    simp only [Bool.and_eq_true, inB_iff, decide_eq_true_eq] at hx
    simp only [Option.getD_some]
    omega
theorem due_does {T H N : List (List Int)} (h1 : ∀ x ∈ T, x.length = 24) (h2 : ∀ x ∈ H, x.length = 9) (h3 : ∀ x ∈ N, x.length = 7) (h60 : N.length ≤ 1000) (hok : ∀ x ∈ T, tarOk x = true) {h : List Int} (hh : h.length = 9) (hhk : heldOk h = true) (d : Int) (hd : 0 ≤ d ∧ d ≤ 100000)
    (how : 0 ≤ (lotN T N h d).getD 0 0 ∧ (lotN T N h d).getD 0 0 ≤ 1000) :
    Does Tryz.prog 101 [accP T H N, .agg (rowP h), .int .i64 d] (.agg (rowP (dueN T N h d))) := by
  generalize hR : PV.agg (rowP (dueN T N h d)) = R
  refine does_of (own := inPl) Tryz.func101 rfl Tryz.ntmps101 (congrArg Array.toList Tryz.results101) (fun us w => Tryz.call101 us w) hTT mixed (Nat.le_of_ble_eq_true rfl) ?_
  intro w0 im0 D0 S Cl hS hC ar har
  have har' := har
  obtain ⟨ai, ab, nz, inr, fi, pk, ix, ln, sb, eqi, sl, fits, mn, mx, nt, be, up, fu, mg, mh, ms⟩ := ar
  have F := facts_of har
  clear har
  obtain ⟨b2, b3, b4, b5, b6⟩ := heldOk_bounds hhk
  have hL := lot_does h1 h2 h3 h60 hok hh b3 (by omega) d
  have hC' := charged_does h1 h2 h3 h60 hok hh hhk d hd
  have hI : ∀ q, Does Tryz.prog 85 [accP T H N, .int .i64 q] (.tup [.agg (rowP (tarAt T q)), .bool (ifT T q).isSome]) := fun q => inForce_does h1 h2 h3 q
  obtain ⟨c0, c1, c2⟩ := chgN_in (N := N) h1 hok hhk hd
  unfold dueN at hR
  obtain ⟨l0, l1, l2, l3, hl⟩ : ∃ l0 l1 l2 l3, lotN T N h d = [l0, l1, l2, l3] := ⟨_, _, _, _, rfl⟩
  obtain ⟨g0, g1, g2, hg⟩ : ∃ g0 g1 g2, chgN T N h d = [g0, g1, g2] := by unfold chgN; split <;> exact ⟨_, _, _, rfl⟩
  rw [hg] at hC' c0 c1 c2 hR
  rw [hl] at hL hR how
  have hsh := tar_share hok (h.getD 6 0)
  obtain ⟨p0, p1, p2, p3, p4, p5, p6, p7, p8, p9, p10, p11, p12, p13, p14, p15, p16, p17, p18, p19, p20, p21, p22, p23, hp⟩ := list24 (tarAt_len h1 (h.getD 6 0))
  have hI := hI (h.getD 6 0)
  unfold dueP at hR
  rw [hp] at hI hsh hR
  obtain ⟨a, b, c, e, f, g, i, j, k, rfl⟩ := list9 hh
  simp only [List.getD_cons_succ, List.getD_cons_zero, sum3] at b2 b3 b4 b5 b6 c0 c1 c2 hR hI hsh how
  obtain ⟨eT, hT⟩ : ∃ es, T.map rowP = es := ⟨_, rfl⟩
  obtain ⟨eH, hH⟩ : ∃ es, H.map rowP = es := ⟨_, rfl⟩
  obtain ⟨eN, hN⟩ : ∃ es, N.map rowP = es := ⟨_, rfl⟩
  simp only [accP, hT, hH, hN] at hL hC' hI ⊢
  have quoB : ∀ s p : Int, 0 ≤ s → s ≤ 500000000000 → 0 ≤ p → p ≤ 60 → ai .quo (ai .mul s p) 60 = s * p / 60 ∧ 0 ≤ s * p / 60 ∧ s * p / 60 ≤ 500000000000 := fun s p h1 h2 h3 h4 => by
    have m1 : 0 ≤ s * p := Int.mul_nonneg h1 h3
    have m2 : s * p ≤ 500000000000 * 60 := Int.mul_le_mul h2 h4 h3 (by decide)
    have e1 : ai .mul s p = s * p := F.mul _ _ (by omega) (by omega)
    have e2 : (s * p).tdiv 60 = s * p / 60 := Int.tdiv_eq_ediv_of_nonneg m1
    rw [e1, F.quo _ _ (by rw [e2]; omega) (by rw [e2]; omega), e2]
    omega
  have s1 : ai .add (ai .add g0 g1) g2 = g0 + g1 + g2 := by rw [F.add g0 g1 (by omega) (by omega), F.add _ _ (by omega) (by omega)]
  have o1 : ai .add 2 l0 = 2 + l0 := F.add _ _ (by omega) (by omega)
  obtain ⟨q1, q2, q3⟩ := quoB (g0 + g1 + g2) p22 (by omega) (by omega) hsh.1.1 hsh.1.2
  obtain ⟨q4, q5, q6⟩ := quoB (g0 + g1 + g2) p23 (by omega) (by omega) hsh.2.1.1 hsh.2.1.2
  obtain ⟨r1, r2, r3⟩ := quoB f p22 (by omega) (by omega) hsh.1.1 hsh.1.2
  obtain ⟨r4, r5, r6⟩ := quoB f p23 (by omega) (by omega) hsh.2.1.1 hsh.2.1.2
  have d1 : ai .sub (ai .sub (g0 + g1 + g2) ((g0 + g1 + g2) * p22 / 60)) ((g0 + g1 + g2) * p23 / 60) = (g0 + g1 + g2) - (g0 + g1 + g2) * p22 / 60 - (g0 + g1 + g2) * p23 / 60 := by
    rw [F.sub (g0 + g1 + g2) _ (by omega) (by omega), F.sub _ _ (by omega) (by omega)]
  have d2 : ai .sub (ai .sub (g0 + g1 + g2) ((g0 + g1 + g2) * p22 / 60)) 0 = (g0 + g1 + g2) - (g0 + g1 + g2) * p22 / 60 - 0 := by
    rw [F.sub (g0 + g1 + g2) _ (by omega) (by omega), F.sub _ _ (by omega) (by omega)]
  have d3 : ai .sub (ai .sub f (f * p22 / 60)) (f * p23 / 60) = f - f * p22 / 60 - f * p23 / 60 := by
    rw [F.sub f _ (by omega) (by omega), F.sub _ _ (by omega) (by omega)]
  have d4 : ai .sub (ai .sub f (f * p22 / 60)) 0 = f - f * p22 / 60 - 0 := by
    rw [F.sub f _ (by omega) (by omega), F.sub _ _ (by omega) (by omega)]
  cbv
  refine ⟨_, hC _ _ _ hL, ?_⟩; cbv
  refine ⟨_, hC _ _ _ hC', ?_⟩; cbv
  cases k1 : ab .eql l2 2
  · have k1' : ¬ l2 = 2 := by rw [F.eql] at k1; simpa using k1
    rw [if_neg k1'] at hR
    cbv
    cases k2 : ab .eql l2 3
    · have k2' : ¬ l2 = 3 := by rw [F.eql] at k2; simpa using k2
      cbv
      cases k3 : ab .eql l0 0
      · have k3' : ¬ l0 = 0 := by rw [F.eql] at k3; simpa using k3
        rw [if_neg (by omega)] at hR
        cbv
        refine ⟨_, hC _ _ _ hI, ?_⟩; cbv
        cases k4 : ab .gtr g 0
        · rw [F.gtr] at k4
          rw [if_neg (by simpa using k4)] at hR
          cbv
          rw [s1, o1, q1, d2]
          exact PLe.of_eq hR
        · rw [F.gtr] at k4
          rw [if_pos (by simpa using k4)] at hR
          cbv
          rw [s1, o1, q1, q4, d1]
          exact PLe.of_eq hR
      · rw [F.eql] at k3
        rw [if_pos (by simp at k3; omega)] at hR
        cbv
        exact PLe.of_eq hR
    · rw [F.eql] at k2
      rw [if_pos (by simp at k2; omega)] at hR
      cbv
      exact PLe.of_eq hR
  · rw [F.eql] at k1
    rw [if_pos (by simpa using k1)] at hR
    cbv
    refine ⟨_, hC _ _ _ hI, ?_⟩; cbv
    cases k4 : ab .gtr g 0
    · rw [F.gtr] at k4
      rw [if_neg (by simpa using k4)] at hR
      cbv
      rw [r1, d4]
      exact PLe.of_eq hR
    · rw [F.gtr] at k4
      rw [if_pos (by simpa using k4)] at hR
      cbv
      rw [r1, r4, d3]
      exact PLe.of_eq hR
theorem lsOk_all {ok : List Int → Bool} {m : Nat} {L : List (List Int)} (h : lsOk ok m L = true) : ∀ x ∈ L, ok x = true := fun x hx => by
  obtain ⟨k, hk, rfl⟩ := List.mem_iff_getElem.1 hx
  unfold lsOk lsK at h
  simp only [Bool.and_eq_true, List.all_eq_true] at h
  have := h.2 k (List.mem_range.2 hk)
  rw [lsAt_eq hk] at this
  simp only [Bool.and_eq_true] at this
  exact this.1
theorem lsOk_len {ok : List Int → Bool} {m : Nat} {L : List (List Int)} (h : lsOk ok m L = true) : L.length ≤ m := by
  unfold lsOk at h
  simp only [Bool.and_eq_true, decide_eq_true_eq] at h
  exact h.1
theorem accOk_T {T H N : List (List Int)} (h : accOk T H N = true) : ∀ x ∈ T, tarOk x = true := by
  unfold accOk at h; simp only [Bool.and_eq_true] at h; exact lsOk_all h.1
theorem accOk_H {T H N : List (List Int)} (h : accOk T H N = true) : ∀ x ∈ H, heldOk x = true := by
  unfold accOk at h; simp only [Bool.and_eq_true] at h; exact lsOk_all h.2.1
theorem accOk_N {T H N : List (List Int)} (h : accOk T H N = true) : ∀ x ∈ N, noteOk x = true := by
  unfold accOk at h; simp only [Bool.and_eq_true] at h; exact lsOk_all h.2.2
theorem accOk_len {T H N : List (List Int)} (h : accOk T H N = true) : T.length ≤ 8 ∧ H.length ≤ 60 ∧ N.length ≤ 60 := by
  unfold accOk at h; simp only [Bool.and_eq_true] at h; exact ⟨lsOk_len h.1, lsOk_len h.2.1, lsOk_len h.2.2⟩
theorem askE_ok {T H N : List (List Int)} {d : Int} (h : askE T H N d = 0) : accOk T H N = true ∧ 0 ≤ d ∧ d ≤ 100000 := by
  unfold askE err at h
  split at h
  · split at h
    · rename_i a b; exact ⟨a, inB_iff.1 b⟩
    · omega
  · omega
theorem staN_len {T H N : List (List Int)} (h2 : ∀ x ∈ H, x.length = 9) (id d : Int) : (staN T H N id d).1.length = 9 := by
  unfold staN
  split
  · split
    · rename_i h hf; exact h2 _ (List.mem_of_find?_eq_some hf)
    · rfl
  · rfl
theorem staN_ok {T H N : List (List Int)} {id d : Int} (h : (staN T H N id d).2 = 0) : accOk T H N = true ∧ (0 ≤ d ∧ d ≤ 100000) ∧ (staN T H N id d).1 ∈ H ∧ heldOk (staN T H N id d).1 = true ∧ staP id d (staN T H N id d).1 = true := by
  unfold staN at h ⊢
  by_cases hk : askE T H N d = 0
  · obtain ⟨a, b⟩ := askE_ok hk
    rw [if_pos hk] at h ⊢
    cases hf : H.find? (staP id d) with
    | none => rw [hf] at h; simp at h
    | some x => exact ⟨a, b, List.mem_of_find?_eq_some hf, accOk_H a _ (List.mem_of_find?_eq_some hf), List.find?_some hf⟩
  · rw [if_neg hk] at h
    exact absurd h hk
theorem note_own {n : List Int} (h : noteOk n = true) : 0 ≤ n.getD 3 0 ∧ n.getD 3 0 ≤ 99 := by
  unfold noteOk sayB at h
  simp only [Bool.and_eq_true] at h
  obtain ⟨_, _, h, _⟩ := h
  split at h
  · have := inB_iff.1 h; omega
  · simp only [Bool.and_eq_true, beq_iff_eq] at h; omega
theorem owrN_in {N : List (List Int)} (h : ∀ x ∈ N, noteOk x = true) : 0 ≤ owrN N ∧ owrN N ≤ 99 := by
  have h1 : ∀ (L : List (List Int)) (a : Int × Int), (∀ x ∈ L, noteOk x = true) → 0 ≤ a.2 ∧ a.2 ≤ 99 → 0 ≤ (L.foldl owrS a).2 ∧ (L.foldl owrS a).2 ≤ 99 := by
    intro L
    induction L with
    | nil => intro a _ h; exact h
    | cons x L ih =>
      intro a hL ha
      refine ih _ (fun y hy => hL y (List.mem_cons_of_mem _ hy)) ?_
      unfold owrS
      split
      · exact note_own (hL x (List.mem_cons_self ..))
      · exact ha
  have h2 : ∀ (L : List (List Int)) (t o : Int), (∀ x ∈ L, noteOk x = true) → 0 ≤ o ∧ o ≤ 99 → 0 ≤ L.foldr (owrT t) o ∧ L.foldr (owrT t) o ≤ 99 := by
    intro L
    induction L with
    | nil => intro t o _ h; exact h
    | cons x L ih =>
      intro t o hL ho
      rw [List.foldr_cons]
      unfold owrT
      split
      · exact note_own (hL x (List.mem_cons_self ..))
      · exact ih t o (fun y hy => hL y (List.mem_cons_of_mem _ hy)) ho
  unfold owrN
  have := h1 N (-1, 0) h (by decide)
  split
  · exact this
  · exact h2 N _ _ h this
theorem lotN_own {T N : List (List Int)} (h : ∀ x ∈ N, noteOk x = true) (s : List Int) (d : Int) : 0 ≤ (lotN T N s d).getD 0 0 ∧ (lotN T N s d).getD 0 0 ≤ 99 := by
  show 0 ≤ owrN (sayL N s d) ∧ owrN (sayL N s d) ≤ 99
  exact owrN_in fun x hx => h x (by unfold sayL at hx; exact (List.mem_filter.1 hx).1)
def stR (z : List Int) (g : List Int → List Int) (p : List Int × Int) : List Int × Int := if p.2 = 0 then (g p.1, 0) else (z, p.2)
def feN (T N : List (List Int)) (d : Int) (h : List Int) : List Int := [max (lasN (lotN T N h d) d - h.getD 6 0 + 1) 0]
theorem rLot_does {T H N : List (List Int)} (h1 : ∀ x ∈ T, x.length = 24) (h2 : ∀ x ∈ H, x.length = 9) (h3 : ∀ x ∈ N, x.length = 7) (id d : Int) :
    Does Tryz.prog 31 [accP T H N, .int .i64 id, .int .i64 d] (.tup [.agg (rowP (stR [0, 0, 0, 0] (fun h => lotN T N h d) (staN T H N id d)).1), .int .i64 (stR [0, 0, 0, 0] (fun h => lotN T N h d) (staN T H N id d)).2]) := by
  obtain ⟨R, hR⟩ : ∃ R, stR [0, 0, 0, 0] (fun h => lotN T N h d) (staN T H N id d) = R := ⟨_, rfl⟩
  rw [hR]
  refine does_of (own := inPl) Tryz.func31 rfl Tryz.ntmps31 (congrArg Array.toList Tryz.results31) (fun us w => Tryz.call31 us w) hTT mixed (Nat.le_of_ble_eq_true rfl) ?_
  intro w0 im0 D0 S Cl hS hC ar har
  have har' := har
  obtain ⟨ai, ab, nz, inr, fi, pk, ix, ln, sb, eqi, sl, fits, mn, mx, nt, be, up, fu, mg, mh, ms⟩ := ar
  have F := facts_of har
  clear har
  have hS := stayOf_does h1 h2 h3 id d
  have hl := staN_len (T := T) (N := N) h2 id d
  have hok := @staN_ok T H N id d
  obtain ⟨⟨s, e⟩, hp⟩ : ∃ p, staN T H N id d = p := ⟨_, rfl⟩
  rw [hp] at hS hl hok hR
  unfold stR at hR
  dsimp only at hS hl hok hR
  have hK : e = 0 → Does Tryz.prog 94 [accP T H N, .agg (rowP s), .int .i64 d] (.agg (rowP (lotN T N s d))) := fun he => by
    obtain ⟨ha, hd, hm, hh, _⟩ := hok he
    obtain ⟨b2, b3, b4, b5, b6⟩ := heldOk_bounds hh
    exact lot_does h1 h2 h3 (by have := accOk_len ha; omega) (accOk_T ha) hl b3 (by omega) d
  obtain ⟨l0, l1, l2, l3, hlo⟩ : ∃ l0 l1 l2 l3, lotN T N s d = [l0, l1, l2, l3] := ⟨_, _, _, _, rfl⟩
  rw [hlo] at hK hR
  clear hok
  obtain ⟨a, b, c, f, g, i, j, k, l, rfl⟩ := list9 hl
  obtain ⟨eT, hT⟩ : ∃ es, T.map rowP = es := ⟨_, rfl⟩
  obtain ⟨eH, hH⟩ : ∃ es, H.map rowP = es := ⟨_, rfl⟩
  obtain ⟨eN, hN⟩ : ∃ es, N.map rowP = es := ⟨_, rfl⟩
  simp only [accP, hT, hH, hN] at hS hK ⊢
  cbv
  refine ⟨_, hC _ _ _ hS, ?_⟩; cbv
  cases c0 : ab .neq e 0
  · have he : e = 0 := by rw [F.neq] at c0; simpa using c0
    rw [if_pos he] at hR
    cbv
    refine ⟨_, hC _ _ _ (hK he), ?_⟩; cbv
    subst hR
    exact PLe.of_eq rfl
  · have he : ¬ e = 0 := by rw [F.neq] at c0; simpa using c0
    rw [if_neg he] at hR
    cbv
    subst hR
    exact PLe.of_eq rfl
theorem rCharged_does {T H N : List (List Int)} (h1 : ∀ x ∈ T, x.length = 24) (h2 : ∀ x ∈ H, x.length = 9) (h3 : ∀ x ∈ N, x.length = 7) (id d : Int) :
    Does Tryz.prog 35 [accP T H N, .int .i64 id, .int .i64 d] (.tup [.agg (rowP (stR [0, 0, 0] (fun h => chgN T N h d) (staN T H N id d)).1), .int .i64 (stR [0, 0, 0] (fun h => chgN T N h d) (staN T H N id d)).2]) := by
  obtain ⟨R, hR⟩ : ∃ R, stR [0, 0, 0] (fun h => chgN T N h d) (staN T H N id d) = R := ⟨_, rfl⟩
  rw [hR]
  refine does_of (own := inPl) Tryz.func35 rfl Tryz.ntmps35 (congrArg Array.toList Tryz.results35) (fun us w => Tryz.call35 us w) hTT mixed (Nat.le_of_ble_eq_true rfl) ?_
  intro w0 im0 D0 S Cl hS hC ar har
  have har' := har
  obtain ⟨ai, ab, nz, inr, fi, pk, ix, ln, sb, eqi, sl, fits, mn, mx, nt, be, up, fu, mg, mh, ms⟩ := ar
  have F := facts_of har
  clear har
  have hS := stayOf_does h1 h2 h3 id d
  have hl := staN_len (T := T) (N := N) h2 id d
  have hok := @staN_ok T H N id d
  obtain ⟨⟨s, e⟩, hp⟩ : ∃ p, staN T H N id d = p := ⟨_, rfl⟩
  rw [hp] at hS hl hok hR
  unfold stR at hR
  dsimp only at hS hl hok hR
  have hK : e = 0 → Does Tryz.prog 99 [accP T H N, .agg (rowP s), .int .i64 d] (.agg (rowP (chgN T N s d))) := fun he => by
    obtain ⟨ha, hd, hm, hh, _⟩ := hok he
    obtain ⟨b2, b3, b4, b5, b6⟩ := heldOk_bounds hh
    exact charged_does h1 h2 h3 (by have := accOk_len ha; omega) (accOk_T ha) hl hh d hd
  obtain ⟨l0, l1, l2, hlo⟩ : ∃ l0 l1 l2, chgN T N s d = [l0, l1, l2] := by unfold chgN; split <;> exact ⟨_, _, _, rfl⟩
  rw [hlo] at hK hR
  clear hok
  obtain ⟨a, b, c, f, g, i, j, k, l, rfl⟩ := list9 hl
  obtain ⟨eT, hT⟩ : ∃ es, T.map rowP = es := ⟨_, rfl⟩
  obtain ⟨eH, hH⟩ : ∃ es, H.map rowP = es := ⟨_, rfl⟩
  obtain ⟨eN, hN⟩ : ∃ es, N.map rowP = es := ⟨_, rfl⟩
  simp only [accP, hT, hH, hN] at hS hK ⊢
  cbv
  refine ⟨_, hC _ _ _ hS, ?_⟩; cbv
  cases c0 : ab .neq e 0
  · have he : e = 0 := by rw [F.neq] at c0; simpa using c0
    rw [if_pos he] at hR
    cbv
    refine ⟨_, hC _ _ _ (hK he), ?_⟩; cbv
    subst hR
    exact PLe.of_eq rfl
  · have he : ¬ e = 0 := by rw [F.neq] at c0; simpa using c0
    rw [if_neg he] at hR
    cbv
    subst hR
    exact PLe.of_eq rfl
theorem rDues_does {T H N : List (List Int)} (h1 : ∀ x ∈ T, x.length = 24) (h2 : ∀ x ∈ H, x.length = 9) (h3 : ∀ x ∈ N, x.length = 7) (id d : Int) :
    Does Tryz.prog 37 [accP T H N, .int .i64 id, .int .i64 d] (.tup [.agg (rowP (stR [0, 0, 0, 0] (fun h => dueN T N h d) (staN T H N id d)).1), .int .i64 (stR [0, 0, 0, 0] (fun h => dueN T N h d) (staN T H N id d)).2]) := by
  obtain ⟨R, hR⟩ : ∃ R, stR [0, 0, 0, 0] (fun h => dueN T N h d) (staN T H N id d) = R := ⟨_, rfl⟩
  rw [hR]
  refine does_of (own := inPl) Tryz.func37 rfl Tryz.ntmps37 (congrArg Array.toList Tryz.results37) (fun us w => Tryz.call37 us w) hTT mixed (Nat.le_of_ble_eq_true rfl) ?_
  intro w0 im0 D0 S Cl hS hC ar har
  have har' := har
  obtain ⟨ai, ab, nz, inr, fi, pk, ix, ln, sb, eqi, sl, fits, mn, mx, nt, be, up, fu, mg, mh, ms⟩ := ar
  have F := facts_of har
  clear har
  have hS := stayOf_does h1 h2 h3 id d
  have hl := staN_len (T := T) (N := N) h2 id d
  have hok := @staN_ok T H N id d
  obtain ⟨⟨s, e⟩, hp⟩ : ∃ p, staN T H N id d = p := ⟨_, rfl⟩
  rw [hp] at hS hl hok hR
  unfold stR at hR
  dsimp only at hS hl hok hR
  have hK : e = 0 → Does Tryz.prog 101 [accP T H N, .agg (rowP s), .int .i64 d] (.agg (rowP (dueN T N s d))) := fun he => by
    obtain ⟨ha, hd, hm, hh, _⟩ := hok he
    obtain ⟨b2, b3, b4, b5, b6⟩ := heldOk_bounds hh
    exact due_does h1 h2 h3 (by have := accOk_len ha; omega) (accOk_T ha) hl hh d hd (by have := lotN_own (T := T) (accOk_N ha) s d; omega)
  obtain ⟨l0, l1, l2, l3, hlo⟩ : ∃ l0 l1 l2 l3, dueN T N s d = [l0, l1, l2, l3] := by unfold dueN dueP; split; exact ⟨_, _, _, _, rfl⟩; split <;> exact ⟨_, _, _, _, rfl⟩
  rw [hlo] at hK hR
  clear hok
  obtain ⟨a, b, c, f, g, i, j, k, l, rfl⟩ := list9 hl
  obtain ⟨eT, hT⟩ : ∃ es, T.map rowP = es := ⟨_, rfl⟩
  obtain ⟨eH, hH⟩ : ∃ es, H.map rowP = es := ⟨_, rfl⟩
  obtain ⟨eN, hN⟩ : ∃ es, N.map rowP = es := ⟨_, rfl⟩
  simp only [accP, hT, hH, hN] at hS hK ⊢
  cbv
  refine ⟨_, hC _ _ _ hS, ?_⟩; cbv
  cases c0 : ab .neq e 0
  · have he : e = 0 := by rw [F.neq] at c0; simpa using c0
    rw [if_pos he] at hR
    cbv
    refine ⟨_, hC _ _ _ (hK he), ?_⟩; cbv
    subst hR
    exact PLe.of_eq rfl
  · have he : ¬ e = 0 := by rw [F.neq] at c0; simpa using c0
    rw [if_neg he] at hR
    cbv
    subst hR
    exact PLe.of_eq rfl
theorem lasN_in (T N : List (List Int)) (h : List Int) {d : Int} (hd : 0 ≤ d ∧ d ≤ 100000) : -2 ≤ lasN (lotN T N h d) d ∧ lasN (lotN T N h d) d ≤ 100000 := by
  have hLday := lotN_day T N h d
  unfold lasN
  split
  · omega
  · split <;> omega
theorem rFed_does {T H N : List (List Int)} (h1 : ∀ x ∈ T, x.length = 24) (h2 : ∀ x ∈ H, x.length = 9) (h3 : ∀ x ∈ N, x.length = 7) (id d : Int) :
    Does Tryz.prog 33 [accP T H N, .int .i64 id, .int .i64 d] (.tup [.int .i64 ((stR [0] (feN T N d) (staN T H N id d)).1.getD 0 0), .int .i64 (stR [0] (feN T N d) (staN T H N id d)).2]) := by
  obtain ⟨R, hR⟩ : ∃ R, stR [0] (feN T N d) (staN T H N id d) = R := ⟨_, rfl⟩
  rw [hR]
  obtain ⟨V, hV⟩ : ∃ V, PV.tup [.int .i64 (R.1.getD 0 0), .int .i64 R.2] = V := ⟨_, rfl⟩
  rw [hV]
  refine does_of (own := inPl) Tryz.func33 rfl Tryz.ntmps33 (congrArg Array.toList Tryz.results33) (fun us w => Tryz.call33 us w) hTT mixed (Nat.le_of_ble_eq_true rfl) ?_
  intro w0 im0 D0 S Cl hS hC ar har
  have har' := har
  obtain ⟨ai, ab, nz, inr, fi, pk, ix, ln, sb, eqi, sl, fits, mn, mx, nt, be, up, fu, mg, mh, ms⟩ := ar
  have F := facts_of har
  clear har
  have hS := stayOf_does h1 h2 h3 id d
  have hl := staN_len (T := T) (N := N) h2 id d
  have hok := @staN_ok T H N id d
  obtain ⟨⟨s, e⟩, hp⟩ : ∃ p, staN T H N id d = p := ⟨_, rfl⟩
  rw [hp] at hS hl hok hR
  unfold stR at hR
  dsimp only at hS hl hok hR
  obtain ⟨l0, l1, l2, l3, hlo⟩ : ∃ l0 l1 l2 l3, lotN T N s d = [l0, l1, l2, l3] := ⟨_, _, _, _, rfl⟩
  have hin := fun he => lasN_in T N s (hok he).2.1
  have hK : e = 0 → Does Tryz.prog 94 [accP T H N, .agg (rowP s), .int .i64 d] (.agg (rowP [l0, l1, l2, l3])) := fun he => by
    obtain ⟨ha, hd, hm, hh, _⟩ := hok he
    obtain ⟨b2, b3, b4, b5, b6⟩ := heldOk_bounds hh
    have := lot_does (H := H) h1 h2 h3 (by have := accOk_len ha; omega) (accOk_T ha) hl b3 (by omega) d
    rwa [hlo] at this
  have hLas : e = 0 → Does Tryz.prog 97 [.agg (rowP [l0, l1, l2, l3]), .int .i64 d] (.int .i64 (lasN (lotN T N s d) d)) := fun he => by
    have hLday := lotN_day T N s d
    have hd := (hok he).2.1
    rw [hlo] at hLday ⊢; exact last_does d rfl (by simp only [List.getD_cons_succ, List.getD_cons_zero] at hLday ⊢; omega)
  have hb6 : e = 0 → 0 ≤ s.getD 6 0 ∧ s.getD 6 0 ≤ 100000 := fun he => (heldOk_bounds (hok he).2.2.2.1).2.2.2.2
  have hfe : (feN T N d s).getD 0 0 = max (lasN (lotN T N s d) d - s.getD 6 0 + 1) 0 := rfl
  clear hok
  obtain ⟨a, b, c, f, g, i, j, k, l, rfl⟩ := list9 hl
  obtain ⟨eT, hT⟩ : ∃ es, T.map rowP = es := ⟨_, rfl⟩
  obtain ⟨eH, hH⟩ : ∃ es, H.map rowP = es := ⟨_, rfl⟩
  obtain ⟨eN, hN⟩ : ∃ es, N.map rowP = es := ⟨_, rfl⟩
  generalize hla : lasN (lotN T N [a, b, c, f, g, i, j, k, l] d) d = la at *
  generalize hfn : feN T N d [a, b, c, f, g, i, j, k, l] = fn at *
  simp only [List.getD_cons_succ, List.getD_cons_zero] at hb6 hfe
  simp only [accP, hT, hH, hN] at hS hK ⊢
  have e1 : e = 0 → ai .add (ai .sub la j) 1 = la - j + 1 := fun he => by
    have := hin he
    have := hb6 he
    rw [F.sub _ _ (by omega) (by omega), F.add _ _ (by omega) (by omega)]
  cbv
  refine ⟨_, hC _ _ _ hS, ?_⟩; cbv
  cases c0 : ab .neq e 0
  · have he : e = 0 := by rw [F.neq] at c0; simpa using c0
    rw [if_pos he] at hR
    cbv
    refine ⟨_, hC _ _ _ (hK he), ?_⟩; cbv
    refine ⟨_, hC _ _ _ (hLas he), ?_⟩; cbv
    rw [e1 he, F.mx]
    subst hV hR
    refine PLe.of_eq ?_
    rw [hfe]
  · have he : ¬ e = 0 := by rw [F.neq] at c0; simpa using c0
    rw [if_neg he] at hR
    cbv
    subst hV hR
    exact PLe.of_eq rfl
def srcsN (p : List Int → Bool) (H : List (List Int)) : List Int := (H.filter p).map fun h => h.getD 0 0
def cntH (d : Int) (h : List Int) : Bool := cntB (h.getD 7 0) (h.getD 8 0) d
theorem srcs_take {p : List Int → Bool} {H : List (List Int)} {k : Nat} (hk : k < H.length) : srcsN p (H.take (k + 1)) = if p H[k] then srcsN p (H.take k) ++ [H[k].getD 0 0] else srcsN p (H.take k) := by
  unfold srcsN
  rw [take_last hk, List.filter_append, List.map_append]
  cases h : p H[k] <;> simp [List.filter, h]
theorem srcs_len (p : List Int → Bool) (H : List (List Int)) : (srcsN p H).length ≤ H.length := by
  unfold srcsN; rw [List.length_map]; exact List.length_filter_le ..
theorem numP_snoc (l : List Int) (x : Int) : numP (l ++ [x]) = numP l ++ [[PV.int .i64 x]] := by simp [numP]
theorem numP_len (l : List Int) : (numP l).length = l.length := by simp [numP]
def liE (e : Int) (l : List Int) : PV := .tup [if e = 0 then .list 1 (numP l) else .nil, .int .i64 e]
theorem rStays_does {T H N : List (List Int)} (h1 : ∀ x ∈ T, x.length = 24) (h2 : ∀ x ∈ H, x.length = 9) (h3 : ∀ x ∈ N, x.length = 7) (d : Int) :
    Does Tryz.prog 26 [accP T H N, .int .i64 d] (.tup [.list 1 (numP (if askE T H N d = 0 then srcsN (cntH d) H else [])), .int .i64 (askE T H N d)]) := by
  obtain ⟨e, he⟩ : ∃ R, askE T H N d = R := ⟨_, rfl⟩
  have hA := asked_does h1 h2 h3 d
  have hsm : e = 0 → H.length ≤ 60 := fun h => (accOk_len (askE_ok (he.trans h)).1).2.1
  rw [he] at hA ⊢
  obtain ⟨V, hV⟩ : ∃ V, PV.tup [.list 1 (numP (if e = 0 then srcsN (cntH d) H else [])), .int .i64 e] = V := ⟨_, rfl⟩
  rw [hV]
  refine does_of (own := inPl) Tryz.func26 rfl Tryz.ntmps26 (congrArg Array.toList Tryz.results26) (fun us w => Tryz.call26 us w) hTT mixed (Nat.le_of_ble_eq_true rfl) ?_
  intro w0 im0 D0 S Cl hS hC ar har
  have har' := har
  obtain ⟨ai, ab, nz, inr, fi, pk, ix, ln, sb, eqi, sl, fits, mn, mx, nt, be, up, fu, mg, mh, ms⟩ := ar
  have F := facts_of har
  clear har
  obtain ⟨eT, hT⟩ : ∃ es, T.map rowP = es := ⟨_, rfl⟩
  obtain ⟨eH, hH⟩ : ∃ es, H.map rowP = es := ⟨_, rfl⟩
  obtain ⟨eN, hN⟩ : ∃ es, N.map rowP = es := ⟨_, rfl⟩
  simp only [accP, hT, hH, hN] at hA ⊢
  have hcnt : ∀ x y : Int, Does Tryz.prog 90 [.int .i64 x, .int .i64 y, .int .i64 d] (.bool (cntB x y d)) := fun x y => rcounts_does x y d
  cbv
  refine ⟨_, hC _ _ _ hA, ?_⟩; cbv
  cases c0 : ab .neq e 0
  rotate_left
  · have h0 : ¬ e = 0 := by rw [F.neq] at c0; simpa using c0
    rw [if_neg h0] at hV
    cbv
    subst hV
    exact PLe.tup2 (PLe.nil 1) (PLe.refl _)
  have h0 : e = 0 := by rw [F.neq] at c0; simpa using c0
  rw [if_pos h0] at hV
  have hsm := hsm h0
  cbv
  refine hS _ _ _ (sem_mkRow 7 1000 3 1 (by rfl) (by rfl) (sem_loopR (fun x : Nat × Int × List (List PV) => [sI 1 d, sP 2 2, sR 7 1000, sI 8 x.2.1, bX 2 26 [cL 24 eT, cL 9 eH, cL 7 eN], rW 1000 3 1 x.2.2]) (fun x => x.1 ≤ H.length ∧ x.2.1 = (x.1 : Int) ∧ x.2.2 = numP (srcsN (cntH d) (H.take x.1))) (fun x => H.length - x.1) (0, 0, []) (fun t => t) ⟨by rfl, by cbv; try (repeat (first | exact rfl | exact trivial | refine ⟨?_, ?_⟩))⟩ ?_ ?_))
  · exact ⟨by simp, rfl, rfl⟩
  rintro ⟨k, i, es⟩ ⟨hk, hi, hes⟩
  dsimp only at hk hi hes
  have hadd : ai .add i 1 = ((k + 1 : Nat) : Int) := by rw [F.add i 1 (by omega) (by omega), hi]; simp
  have hlen : ln eH = H.length := by rw [F.ln, ← hH]; simp
  have hfit : ∀ x, fits 8 es [x] = true := fun x => F.fits _ _ _ (by
    have := srcs_len (cntH d) (H.take k)
    rw [hes, numP_len]; simp only [List.length_take, List.length_singleton] at this ⊢; omega)
  refine sem_of (X := ⟨_, TT, ⟨0, 46, inPl⟩⟩) har' hTT mixed ?_
  intro S1 Cl1 hS1 hC1
  cbv
  by_cases hlt : k < H.length
  · have hb : ab .lss i (ln eH) = true := by rw [hlen, F.lss, hi]; simpa using hlt
    have hg : ix eH i = some (rowP H[k]) := by rw [F.ix _ i k hi, ← hH]; exact get_rows hlt
    have hnext := srcs_take (p := cntH d) hlt
    obtain ⟨x0, x1, x2, x3, x4, x5, x6, x7, x8, hx⟩ := list9 (h2 _ (List.getElem_mem hlt))
    rw [hx] at hg hnext
    simp only [cntH, List.getD_cons_succ, List.getD_cons_zero] at hnext
    have hc := hcnt x7 x8
    obtain ⟨cb, h4⟩ : ∃ z, cntB x7 x8 d = z := ⟨_, rfl⟩
    rw [h4] at hc hnext
    have hno : cb = false → es = numP (srcsN (cntH d) (H.take (k + 1))) := fun h => by rw [hnext, h, hes]; rfl
    have hyes : cb = true → es ++ [[PV.int .i64 x0]] = numP (srcsN (cntH d) (H.take (k + 1))) := fun h => by rw [hnext, h, hes, ← numP_snoc]; rfl
    rw [hb]; cbv
    rw [hg]; cbv
    rw [hg]; cbv
    refine ⟨_, hC1 _ _ _ hc, ?_⟩; cbv
    cases cb
    · cbv
      exact ⟨(k + 1, ai .add i 1, es), (id), ⟨hlt, hadd, hno rfl⟩, by dsimp only; omega, ⟨by rfl, by cbv; try (repeat (first | exact rfl | exact trivial | refine ⟨?_, ?_⟩))⟩⟩
    · cbv
      rw [hg]; cbv
      rw [hfit]; cbv
      exact ⟨(k + 1, ai .add i 1, es ++ [[PV.int .i64 x0]]), (fun t => bif Nat.beq t 1000 then 44 else t), ⟨hlt, hadd, hyes rfl⟩, by dsimp only; omega, ⟨by rfl, by cbv; try (repeat (first | exact rfl | exact trivial | refine ⟨?_, ?_⟩))⟩⟩
  · have hb : ab .lss i (ln eH) = false := by rw [hlen, F.lss, hi]; simpa using hlt
    rw [hb]; cbv
    subst hV
    refine PLe.of_eq ?_
    rw [hes, List.take_of_length_le (by omega), h0]
theorem sayL_take {N : List (List Int)} {h : List Int} {d : Int} {k : Nat} (hk : k < N.length) : sayL (N.take (k + 1)) h d = if sayN N[k] h d then sayL (N.take k) h d ++ [N[k]] else sayL (N.take k) h d := by
  unfold sayL
  rw [take_last hk, List.filter_append]
  cases hs : sayN N[k] h d <;> simp [List.filter, hs]
theorem sayL_len (N : List (List Int)) (h : List Int) (d : Int) : (sayL N h d).length ≤ N.length := by
  unfold sayL; exact List.length_filter_le ..
theorem says_does {T H N : List (List Int)} (h3 : ∀ x ∈ N, x.length = 7) (h60 : N.length ≤ 1000) {h : List Int} (hh : h.length = 9) (d : Int) :
    Does Tryz.prog 93 [accP T H N, .agg (rowP h), .int .i64 d] (.list 7 ((sayL N h d).map rowP)) := by
  obtain ⟨V, hV⟩ : ∃ V, PV.list 7 ((sayL N h d).map rowP) = V := ⟨_, rfl⟩
  rw [hV]
  refine does_of (own := inPl) Tryz.func93 rfl Tryz.ntmps93 (congrArg Array.toList Tryz.results93) (fun us w => Tryz.call93 us w) hTT mixed (Nat.le_of_ble_eq_true rfl) ?_
  intro w0 im0 D0 S Cl hS hC ar har
  have har' := har
  obtain ⟨ai, ab, nz, inr, fi, pk, ix, ln, sb, eqi, sl, fits, mn, mx, nt, be, up, fu, mg, mh, ms⟩ := ar
  have F := facts_of har
  clear har
  obtain ⟨a, b, c, f, g, i', j, k', l, rfl⟩ := list9 hh
  obtain ⟨eT, hT⟩ : ∃ es, T.map rowP = es := ⟨_, rfl⟩
  obtain ⟨eH, hH⟩ : ∃ es, H.map rowP = es := ⟨_, rfl⟩
  obtain ⟨eN, hN⟩ : ∃ es, N.map rowP = es := ⟨_, rfl⟩
  simp only [accP, hT, hH, hN]
  have hcnt : ∀ x y : Int, Does Tryz.prog 90 [.int .i64 x, .int .i64 y, .int .i64 d] (.bool (cntB x y d)) := fun x y => rcounts_does x y d
  have hin : ∀ x y : Int, Does Tryz.prog 77 [.int .i64 x, .int .i64 y, .int .i64 d] (.bool (inB x y d)) := fun x y => rIn_does x y d
  obtain ⟨SL, hSL⟩ : ∃ SL : List (List Int) → List (List Int), (fun M => sayL M [a, b, c, f, g, i', j, k', l] d) = SL := ⟨_, rfl⟩
  have hSLx : ∀ M, sayL M [a, b, c, f, g, i', j, k', l] d = SL M := fun M => by rw [← hSL]
  have hSl : ∀ M, (SL M).length ≤ M.length := fun M => by rw [← hSL]; exact sayL_len ..
  have hSn : ∀ k (hk : k < N.length), SL (N.take (k + 1)) = if sayN N[k] [a, b, c, f, g, i', j, k', l] d then SL (N.take k) ++ [N[k]] else SL (N.take k) := fun k hk => by rw [← hSL]; exact sayL_take hk
  have hS0 : SL [] = [] := by rw [← hSL]; rfl
  rw [hSLx] at hV
  clear hSL hSLx
  cbv
  refine hS _ _ _ (sem_mkRow 7 1000 34 7 (by rfl) (by rfl) (sem_loopR (fun x : Nat × Int × List (List PV) => [sI 2 d, sP 3 3, sP 4 4, sR 7 1000, sI 8 x.2.1, bX 3 26 [cL 24 eT, cL 9 eH, cL 7 eN], bX 4 32 [cI a, cI b, cI c, cI f, cI g, cI i', cI j, cI k', cI l], rW 1000 34 7 x.2.2]) (fun x => x.1 ≤ N.length ∧ x.2.1 = (x.1 : Int) ∧ x.2.2 = (SL (N.take x.1)).map rowP) (fun x => N.length - x.1) (0, 0, []) (fun t => t) ⟨by rfl, by cbv; try (repeat (first | exact rfl | exact trivial | refine ⟨?_, ?_⟩))⟩ ?_ ?_))
  · exact ⟨by simp, rfl, by dsimp only; rw [List.take_zero, hS0]; rfl⟩
  rintro ⟨k, i, es⟩ ⟨hk, hi, hes⟩
  dsimp only at hk hi hes
  have hadd : ai .add i 1 = ((k + 1 : Nat) : Int) := by rw [F.add i 1 (by omega) (by omega), hi]; simp
  have hlen : ln eN = N.length := by rw [F.ln, ← hN]; simp
  have hfit : ∀ x, fits 56 es [x] = true := fun x => F.fits _ _ _ (by
    have := hSl (N.take k)
    rw [hes, List.length_map]; simp only [List.length_take, List.length_singleton] at this ⊢; omega)
  refine sem_of (X := ⟨_, TT, ⟨0, 48, inPl⟩⟩) har' hTT mixed ?_
  intro S1 Cl1 hS1 hC1
  cbv
  by_cases hlt : k < N.length
  · have hb : ab .lss i (ln eN) = true := by rw [hlen, F.lss, hi]; simpa using hlt
    have hg : ix eN i = some (rowP N[k]) := by rw [F.ix _ i k hi, ← hN]; exact get_rows hlt
    have hnext := hSn k hlt
    obtain ⟨y0, y1, y2, y3, y4, y5, y6, hx⟩ := list7P (h3 _ (List.getElem_mem hlt))
    rw [hx] at hg hnext
    have hc := hcnt y5 y6
    have hd := hin y4 j
    obtain ⟨cb, h4⟩ : ∃ z, cntB y5 y6 d = z := ⟨_, rfl⟩
    obtain ⟨ib, h5⟩ : ∃ z, inB y4 j d = z := ⟨_, rfl⟩
    have hv : sayN [y0, y1, y2, y3, y4, y5, y6] [a, b, c, f, g, i', j, k', l] d = (cb && (ab .eql y1 a && ib)) := by rw [F.eql, ← h4, ← h5]; rfl
    rw [h4] at hc
    rw [h5] at hd
    rw [hv] at hnext
    have hno : (cb && (ab .eql y1 a && ib)) = false → es = (SL (N.take (k + 1))).map rowP := fun h => by rw [hnext, h, hes]; rfl
    have hyes : (cb && (ab .eql y1 a && ib)) = true → es ++ [[PV.int .i64 y0, .int .i64 y1, .int .i64 y2, .int .i64 y3, .int .i64 y4, .int .i64 y5, .int .i64 y6]] = (SL (N.take (k + 1))).map rowP := fun h => by rw [hnext, h, hes]; simp [rowP]
    rw [hb]; cbv
    rw [hg]; cbv
    refine ⟨_, hC1 _ _ _ hc, ?_⟩; cbv
    cases cb
    · cbv
      exact ⟨(k + 1, ai .add i 1, es), (id), ⟨hlt, hadd, hno rfl⟩, by dsimp only; omega, ⟨by rfl, by cbv; try (repeat (first | exact rfl | exact trivial | refine ⟨?_, ?_⟩))⟩⟩
    · cbv
      cases c1 : ab .eql y1 a
      · cbv
        exact ⟨(k + 1, ai .add i 1, es), (id), ⟨hlt, hadd, hno (by rw [c1]; rfl)⟩, by dsimp only; omega, ⟨by rfl, by cbv; try (repeat (first | exact rfl | exact trivial | refine ⟨?_, ?_⟩))⟩⟩
      · cbv
        refine ⟨_, hC1 _ _ _ hd, ?_⟩; cbv
        cases ib
        · cbv
          exact ⟨(k + 1, ai .add i 1, es), (id), ⟨hlt, hadd, hno (by rw [c1]; rfl)⟩, by dsimp only; omega, ⟨by rfl, by cbv; try (repeat (first | exact rfl | exact trivial | refine ⟨?_, ?_⟩))⟩⟩
        · cbv
          rw [hfit]; cbv
          exact ⟨(k + 1, ai .add i 1, es ++ [[PV.int .i64 y0, .int .i64 y1, .int .i64 y2, .int .i64 y3, .int .i64 y4, .int .i64 y5, .int .i64 y6]]), (fun t => bif Nat.beq t 1000 then 46 else t), ⟨hlt, hadd, hyes (by rw [c1]; rfl)⟩, by dsimp only; omega, ⟨by rfl, by cbv; try (repeat (first | exact rfl | exact trivial | refine ⟨?_, ?_⟩))⟩⟩
  · have hb : ab .lss i (ln eN) = false := by rw [hlen, F.lss, hi]; simpa using hlt
    rw [hb]; cbv
    subst hV
    refine PLe.of_eq ?_
    rw [hes, List.take_of_length_le (by omega)]
def notN (T H N : List (List Int)) (id d : Int) : List Int × Int := stR [] (fun h => (sayL N h d).map fun n => n.getD 0 0) (staN T H N id d)
theorem rNotes_does {T H N : List (List Int)} (h1 : ∀ x ∈ T, x.length = 24) (h2 : ∀ x ∈ H, x.length = 9) (h3 : ∀ x ∈ N, x.length = 7) (id d : Int) :
    Does Tryz.prog 28 [accP T H N, .int .i64 id, .int .i64 d] (.tup [.list 1 (numP (notN T H N id d).1), .int .i64 (notN T H N id d).2]) := by
  obtain ⟨R, hR⟩ : ∃ R, notN T H N id d = R := ⟨_, rfl⟩
  rw [hR]
  obtain ⟨V, hV⟩ : ∃ V, PV.tup [.list 1 (numP R.1), .int .i64 R.2] = V := ⟨_, rfl⟩
  rw [hV]
  refine does_of (own := inPl) Tryz.func28 rfl Tryz.ntmps28 (congrArg Array.toList Tryz.results28) (fun us w => Tryz.call28 us w) hTT mixed (Nat.le_of_ble_eq_true rfl) ?_
  intro w0 im0 D0 S Cl hS hC ar har
  have har' := har
  obtain ⟨ai, ab, nz, inr, fi, pk, ix, ln, sb, eqi, sl, fits, mn, mx, nt, be, up, fu, mg, mh, ms⟩ := ar
  have F := facts_of har
  clear har
  have hA := stayOf_does h1 h2 h3 id d
  have hl := staN_len (T := T) (N := N) h2 id d
  have hok := @staN_ok T H N id d
  unfold notN at hR
  obtain ⟨⟨s, e⟩, hp⟩ : ∃ p, staN T H N id d = p := ⟨_, rfl⟩
  rw [hp] at hA hl hok hR
  unfold stR at hR
  dsimp only at hA hl hok hR
  have hn60 : e = 0 → N.length ≤ 60 := fun he => (accOk_len (hok he).1).2.2
  have hK : e = 0 → Does Tryz.prog 93 [accP T H N, .agg (rowP s), .int .i64 d] (.list 7 ((sayL N s d).map rowP)) := fun he =>
    says_does h3 (by have := hn60 he; omega) hl d
  have hLl := sayL_len N s d
  have hL3 : ∀ x ∈ sayL N s d, x.length = 7 := fun x hx => h3 x (by unfold sayL at hx; exact (List.mem_filter.1 hx).1)
  obtain ⟨L, hL⟩ : ∃ L, sayL N s d = L := ⟨_, rfl⟩
  rw [hL] at hK hR hLl hL3
  clear hok hL
  obtain ⟨a, b, c, f, g, i', j, k', l, rfl⟩ := list9 hl
  obtain ⟨eT, hT⟩ : ∃ es, T.map rowP = es := ⟨_, rfl⟩
  obtain ⟨eH, hH⟩ : ∃ es, H.map rowP = es := ⟨_, rfl⟩
  obtain ⟨eN, hN⟩ : ∃ es, N.map rowP = es := ⟨_, rfl⟩
  obtain ⟨eL, hEL⟩ : ∃ es, L.map rowP = es := ⟨_, rfl⟩
  simp only [accP, hT, hH, hN, hEL] at hA hK ⊢
  cbv
  refine ⟨_, hC _ _ _ hA, ?_⟩; cbv
  cases c0 : ab .neq e 0
  rotate_left
  · have he : ¬ e = 0 := by rw [F.neq] at c0; simpa using c0
    rw [if_neg he] at hR
    cbv
    subst hV hR
    exact PLe.tup2 (PLe.nil 1) (PLe.refl _)
  have he : e = 0 := by rw [F.neq] at c0; simpa using c0
  rw [if_pos he] at hR
  have hn60 := hn60 he
  cbv
  refine ⟨_, hC _ _ _ (hK he), ?_⟩; cbv
  refine hS _ _ _ (sem_mkRow 11 1000 3 1 (by rfl) (by rfl) (sem_loopR (fun x : Nat × Int × List (List PV) => [sL 10 7 eL, sR 11 1000, sI 12 x.2.1, rW 1000 3 1 x.2.2]) (fun x => x.1 ≤ L.length ∧ x.2.1 = (x.1 : Int) ∧ x.2.2 = numP ((L.take x.1).map fun n => n.getD 0 0)) (fun x => L.length - x.1) (0, 0, []) (fun t => t) ⟨by rfl, by cbv; try (repeat (first | exact rfl | exact trivial | refine ⟨?_, ?_⟩))⟩ ?_ ?_))
  · exact ⟨by simp, rfl, rfl⟩
  rintro ⟨k, i, es⟩ ⟨hk, hi, hes⟩
  dsimp only at hk hi hes
  have hadd : ai .add i 1 = ((k + 1 : Nat) : Int) := by rw [F.add i 1 (by omega) (by omega), hi]; simp
  have hlen : ln eL = L.length := by rw [F.ln, ← hEL]; simp
  have hfit : ∀ x, fits 8 es [x] = true := fun x => F.fits _ _ _ (by
    rw [hes, numP_len]; simp only [List.length_map, List.length_take, List.length_singleton]; omega)
  refine sem_of (X := ⟨_, TT, ⟨0, 42, inPl⟩⟩) har' hTT mixed ?_
  intro S1 Cl1 hS1 hC1
  cbv
  by_cases hlt : k < L.length
  · have hb : ab .lss i (ln eL) = true := by rw [hlen, F.lss, hi]; simpa using hlt
    have hg : ix eL i = some (rowP L[k]) := by rw [F.ix _ i k hi, ← hEL]; exact get_rows hlt
    have hnext : es ++ [[PV.int .i64 (L[k].getD 0 0)]] = numP ((L.take (k + 1)).map fun n => n.getD 0 0) := by rw [take_last hlt, List.map_append, hes]; exact (numP_snoc _ _).symm
    obtain ⟨y0, y1, y2, y3, y4, y5, y6, hx⟩ := list7P (hL3 _ (List.getElem_mem hlt))
    rw [hx] at hg hnext
    simp only [List.getD_cons_zero] at hnext
    rw [hb]; cbv
    rw [hg]; cbv
    rw [hfit]; cbv
    exact ⟨(k + 1, ai .add i 1, es ++ [[PV.int .i64 y0]]), (fun t => bif Nat.beq t 1000 then 40 else t), ⟨hlt, hadd, hnext⟩, by dsimp only; omega, ⟨by rfl, by cbv; try (repeat (first | exact rfl | exact trivial | refine ⟨?_, ?_⟩))⟩⟩
  · have hb : ab .lss i (ln eL) = false := by rw [hlen, F.lss, hi]; simpa using hlt
    rw [hb]; cbv
    subst hV hR
    refine PLe.of_eq ?_
    rw [hes, List.take_of_length_le (by omega)]
def insH (T N : List (List Int)) (d : Int) (h : List Int) : Bool := cntH d h && (decide (h.getD 6 0 ≤ d) && (lotN T N h d).getD 2 0 == 0)
theorem rInside_does {T H N : List (List Int)} (h1 : ∀ x ∈ T, x.length = 24) (h2 : ∀ x ∈ H, x.length = 9) (h3 : ∀ x ∈ N, x.length = 7) (d : Int) :
    Does Tryz.prog 48 [accP T H N, .int .i64 d] (.tup [.list 1 (numP (if askE T H N d = 0 then srcsN (insH T N d) H else [])), .int .i64 (askE T H N d)]) := by
  obtain ⟨e, he⟩ : ∃ R, askE T H N d = R := ⟨_, rfl⟩
  have hA := asked_does h1 h2 h3 d
  have hok : e = 0 → accOk T H N = true := fun h => (askE_ok (he.trans h)).1
  rw [he] at hA ⊢
  obtain ⟨p, hp⟩ : ∃ p, insH T N d = p := ⟨_, rfl⟩
  have hpx : ∀ h, p h = (cntH d h && (decide (h.getD 6 0 ≤ d) && (lotN T N h d).getD 2 0 == 0)) := fun h => by rw [← hp]; rfl
  rw [hp]
  obtain ⟨V, hV⟩ : ∃ V, PV.tup [.list 1 (numP (if e = 0 then srcsN p H else [])), .int .i64 e] = V := ⟨_, rfl⟩
  rw [hV]
  refine does_of (own := inPl) Tryz.func48 rfl Tryz.ntmps48 (congrArg Array.toList Tryz.results48) (fun us w => Tryz.call48 us w) hTT mixed (Nat.le_of_ble_eq_true rfl) ?_
  intro w0 im0 D0 S Cl hS hC ar har
  have har' := har
  obtain ⟨ai, ab, nz, inr, fi, pk, ix, ln, sb, eqi, sl, fits, mn, mx, nt, be, up, fu, mg, mh, ms⟩ := ar
  have F := facts_of har
  clear har
  have hlot : e = 0 → ∀ h ∈ H, Does Tryz.prog 94 [accP T H N, .agg (rowP h), .int .i64 d] (.agg (rowP (lotN T N h d))) := fun h0 h hm => by
    have ha := hok h0
    obtain ⟨b2, b3, b4, b5, b6⟩ := heldOk_bounds (accOk_H ha h hm)
    exact lot_does h1 h2 h3 (by have := accOk_len ha; omega) (accOk_T ha) (h2 _ hm) b3 (by omega) d
  obtain ⟨eT, hT⟩ : ∃ es, T.map rowP = es := ⟨_, rfl⟩
  obtain ⟨eH, hH⟩ : ∃ es, H.map rowP = es := ⟨_, rfl⟩
  obtain ⟨eN, hN⟩ : ∃ es, N.map rowP = es := ⟨_, rfl⟩
  simp only [accP, hT, hH, hN] at hA hlot ⊢
  have hcnt : ∀ x y : Int, Does Tryz.prog 90 [.int .i64 x, .int .i64 y, .int .i64 d] (.bool (cntB x y d)) := fun x y => rcounts_does x y d
  cbv
  refine ⟨_, hC _ _ _ hA, ?_⟩; cbv
  cases c0 : ab .neq e 0
  rotate_left
  · have h0 : ¬ e = 0 := by rw [F.neq] at c0; simpa using c0
    rw [if_neg h0] at hV
    cbv
    subst hV
    exact PLe.tup2 (PLe.nil 1) (PLe.refl _)
  have h0 : e = 0 := by rw [F.neq] at c0; simpa using c0
  rw [if_pos h0] at hV
  have hsm := (accOk_len (hok h0)).2.1
  have hlot := hlot h0
  cbv
  refine hS _ _ _ (sem_mkRow 7 1000 3 1 (by rfl) (by rfl) (sem_loopR (fun x : Nat × Int × List (List PV) => [sI 1 d, sP 2 2, sR 7 1000, sI 8 x.2.1, bX 2 26 [cL 24 eT, cL 9 eH, cL 7 eN], rW 1000 3 1 x.2.2]) (fun x => x.1 ≤ H.length ∧ x.2.1 = (x.1 : Int) ∧ x.2.2 = numP (srcsN p (H.take x.1))) (fun x => H.length - x.1) (0, 0, []) (fun t => t) ⟨by rfl, by cbv; try (repeat (first | exact rfl | exact trivial | refine ⟨?_, ?_⟩))⟩ ?_ ?_))
  · exact ⟨by simp, rfl, rfl⟩
  rintro ⟨k, i, es⟩ ⟨hk, hi, hes⟩
  dsimp only at hk hi hes
  have hadd : ai .add i 1 = ((k + 1 : Nat) : Int) := by rw [F.add i 1 (by omega) (by omega), hi]; simp
  have hlen : ln eH = H.length := by rw [F.ln, ← hH]; simp
  have hfit : ∀ x, fits 8 es [x] = true := fun x => F.fits _ _ _ (by
    have := srcs_len p (H.take k)
    rw [hes, numP_len]; simp only [List.length_take, List.length_singleton] at this ⊢; omega)
  refine sem_of (X := ⟨_, TT, ⟨0, 54, inPl⟩⟩) har' hTT mixed ?_
  intro S1 Cl1 hS1 hC1
  cbv
  by_cases hlt : k < H.length
  · have hb : ab .lss i (ln eH) = true := by rw [hlen, F.lss, hi]; simpa using hlt
    have hg : ix eH i = some (rowP H[k]) := by rw [F.ix _ i k hi, ← hH]; exact get_rows hlt
    have hnext := srcs_take (p := p) hlt
    have hlo := hlot _ (List.getElem_mem hlt)
    obtain ⟨x0, x1, x2, x3, x4, x5, x6, x7, x8, hx⟩ := list9 (h2 _ (List.getElem_mem hlt))
    rw [hx] at hg hnext hlo
    rw [hpx] at hnext
    obtain ⟨l0, l1, l2, l3, hl4⟩ : ∃ l0 l1 l2 l3, lotN T N [x0, x1, x2, x3, x4, x5, x6, x7, x8] d = [l0, l1, l2, l3] := ⟨_, _, _, _, rfl⟩
    rw [hl4] at hlo hnext
    simp only [cntH, List.getD_cons_succ, List.getD_cons_zero] at hnext
    have hc := hcnt x7 x8
    obtain ⟨cb, h4⟩ : ∃ z, cntB x7 x8 d = z := ⟨_, rfl⟩
    rw [h4] at hc hnext
    rw [← F.leq, ← F.eql] at hnext
    have hno : (cb && (ab .leq x6 d && ab .eql l2 0)) = false → es = numP (srcsN p (H.take (k + 1))) := fun h => by rw [hnext, h, hes]; rfl
    have hyes : (cb && (ab .leq x6 d && ab .eql l2 0)) = true → es ++ [[PV.int .i64 x0]] = numP (srcsN p (H.take (k + 1))) := fun h => by rw [hnext, h, hes, ← numP_snoc]; rfl
    rw [hb]; cbv
    rw [hg]; cbv
    refine ⟨_, hC1 _ _ _ hc, ?_⟩; cbv
    cases cb
    · cbv
      exact ⟨(k + 1, ai .add i 1, es), (fun t => t), ⟨hlt, hadd, hno rfl⟩, by dsimp only; omega, ⟨by rfl, by cbv; try (repeat (first | exact rfl | exact trivial | refine ⟨?_, ?_⟩))⟩⟩
    cbv
    cases c1 : ab .leq x6 d
    · cbv
      exact ⟨(k + 1, ai .add i 1, es), (fun t => t), ⟨hlt, hadd, hno (by rw [c1]; rfl)⟩, by dsimp only; omega, ⟨by rfl, by cbv; try (repeat (first | exact rfl | exact trivial | refine ⟨?_, ?_⟩))⟩⟩
    cbv
    refine ⟨_, hC1 _ _ _ hlo, ?_⟩; cbv
    cases c2 : ab .eql l2 0
    · cbv
      exact ⟨(k + 1, ai .add i 1, es), (fun t => t), ⟨hlt, hadd, hno (by rw [c1, c2]; rfl)⟩, by dsimp only; omega, ⟨by rfl, by cbv; try (repeat (first | exact rfl | exact trivial | refine ⟨?_, ?_⟩))⟩⟩
    cbv
    rw [hfit]; cbv
    exact ⟨(k + 1, ai .add i 1, es ++ [[PV.int .i64 x0]]), (fun t => bif Nat.beq t 1000 then 52 else t), ⟨hlt, hadd, hyes (by rw [c1, c2]; rfl)⟩, by dsimp only; omega, ⟨by rfl, by cbv; try (repeat (first | exact rfl | exact trivial | refine ⟨?_, ?_⟩))⟩⟩
  · have hb : ab .lss i (ln eH) = false := by rw [hlen, F.lss, hi]; simpa using hlt
    rw [hb]; cbv
    subst hV
    refine PLe.of_eq ?_
    rw [hes, List.take_of_length_le (by omega), h0]
theorem get_nums {L : List Int} {k : Nat} (h : k < L.length) : (numP L)[k]? = some [PV.int .i64 L[k]] := by simp [numP, h]
def lotR (T H N : List (List Int)) (q d : Int) : List Int × Int := stR [0, 0, 0, 0] (fun h => lotN T N h d) (staN T H N q d)
def dueR (T H N : List (List Int)) (q d : Int) : List Int × Int := stR [0, 0, 0, 0] (fun h => dueN T N h d) (staN T H N q d)
theorem lotR_four (T H N : List (List Int)) (q d : Int) : ∃ a b c e, (lotR T H N q d).1 = [a, b, c, e] := by
  unfold lotR stR; split <;> exact ⟨_, _, _, _, rfl⟩
theorem dueR_four (T H N : List (List Int)) (q d : Int) : ∃ a b c e, (dueR T H N q d).1 = [a, b, c, e] := by
  unfold dueR stR; split
  · show ∃ a b c e, dueN T N (staN T H N q d).1 d = [a, b, c, e]
    unfold dueN dueP; split
    · exact ⟨_, _, _, _, rfl⟩
    · split <;> exact ⟨_, _, _, _, rfl⟩
  · exact ⟨_, _, _, _, rfl⟩
def partsOk (l : List Int) : Prop := (0 ≤ l.getD 1 0 ∧ l.getD 1 0 ≤ 500000000000) ∧ (0 ≤ l.getD 2 0 ∧ l.getD 2 0 ≤ 500000000000) ∧ (0 ≤ l.getD 3 0 ∧ l.getD 3 0 ≤ 500000000000)
theorem dueP_in {T : List (List Int)} (hok : ∀ x ∈ T, tarOk x = true) (h : List Int) (payer s : Int) (hs : 0 ≤ s ∧ s ≤ 500000000000) : partsOk (dueP T h payer s) := by
  obtain ⟨⟨a1, a2⟩, ⟨b1, b2⟩, c⟩ := tar_share hok (h.getD 6 0)
  unfold partsOk dueP
  simp only [List.getD_cons_succ, List.getD_cons_zero]
  generalize (tarAt T (h.getD 6 0)).getD 22 0 = x at *
  generalize (tarAt T (h.getD 6 0)).getD 23 0 = y at *
  have m1 : 0 ≤ s * x := Int.mul_nonneg hs.1 a1
  have m2 : 0 ≤ s * y := Int.mul_nonneg hs.1 b1
  have m3 : s * (x + y) ≤ s * 60 := Int.mul_le_mul_of_nonneg_left c hs.1
  rw [Int.mul_add] at m3
  generalize s * x = u at *
  generalize s * y = v at *
  split <;> omega
theorem dueN_in {T N : List (List Int)} (h1 : ∀ x ∈ T, x.length = 24) (hok : ∀ x ∈ T, tarOk x = true) {h : List Int} (hhk : heldOk h = true) {d : Int} (hd : 0 ≤ d ∧ d ≤ 100000) : partsOk (dueN T N h d) := by
  obtain ⟨b2, b3, b4, b5, b6⟩ := heldOk_bounds hhk
  obtain ⟨c0, c1, c2⟩ := chgN_in (N := N) h1 hok hhk hd
  unfold dueN
  split
  · exact dueP_in hok _ _ _ (by omega)
  · split
    · unfold partsOk; simp
    · exact dueP_in hok _ _ _ (by unfold sum3; omega)
theorem dueR_in {T H N : List (List Int)} (h1 : ∀ x ∈ T, x.length = 24) (q d : Int) : partsOk (dueR T H N q d).1 := by
  unfold dueR stR
  split
  · rename_i he
    obtain ⟨a, b, c, e, _⟩ := staN_ok he
    exact dueN_in h1 (accOk_T a) e b
  · unfold partsOk; simp
def endF (T H N : List (List Int)) (way d : Int) (L : List Int) : List Int := L.filter fun q => (lotR T H N q d).1.getD 2 0 == way
theorem endF_take {T H N : List (List Int)} {way d : Int} {L : List Int} {k : Nat} (hk : k < L.length) : endF T H N way d (L.take (k + 1)) = if (lotR T H N L[k] d).1.getD 2 0 == way then endF T H N way d (L.take k) ++ [L[k]] else endF T H N way d (L.take k) := by
  unfold endF
  rw [take_last hk, List.filter_append]
  cases hs : (lotR T H N L[k] d).1.getD 2 0 == way <;> simp only [List.filter, hs] <;> simp
theorem endF_len (T H N : List (List Int)) (way d : Int) (L : List Int) : (endF T H N way d L).length ≤ L.length := by unfold endF; exact List.length_filter_le ..
def stsN (T H N : List (List Int)) (d : Int) : List Int := if askE T H N d = 0 then srcsN (cntH d) H else []
def thrE (T H N : List (List Int)) (ok : Bool) (d : Int) : Int := if accOk T H N = true then (if ok = true then askE T H N d else 1) else 63
def endN (T H N : List (List Int)) (way d : Int) : List Int := if thrE T H N (inB way 0 4) d = 0 then endF T H N way d (stsN T H N d) else []
theorem rEnded_does {T H N : List (List Int)} (h1 : ∀ x ∈ T, x.length = 24) (h2 : ∀ x ∈ H, x.length = 9) (h3 : ∀ x ∈ N, x.length = 7) (way d : Int) :
    Does Tryz.prog 50 [accP T H N, .int .i64 way, .int .i64 d] (.tup [.list 1 (numP (endN T H N way d)), .int .i64 (thrE T H N (inB way 0 4) d)]) := by
  have hck := check_does h1 h2 h3
  have hst := rStays_does h1 h2 h3 d
  have hin := rIn_does way 0 4
  have hLo := fun q => rLot_does h1 h2 h3 q d
  have hsl : (stsN T H N d).length ≤ H.length := by unfold stsN; split; exact srcs_len ..; simp
  have hH60 : accOk T H N = true → H.length ≤ 60 := fun h => (accOk_len h).2.1
  change Does Tryz.prog 26 _ (.tup [.list 1 (numP (stsN T H N d)), _]) at hst
  change ∀ q, Does Tryz.prog 31 _ (.tup [.agg (rowP (lotR T H N q d).1), .int .i64 (lotR T H N q d).2]) at hLo
  unfold endN thrE
  obtain ⟨FE, hFE⟩ : ∃ FE, endF T H N way d = FE := ⟨_, rfl⟩
  have hFx : ∀ {L : List Int} {k : Nat} (hk : k < L.length), FE (L.take (k + 1)) = if (lotR T H N L[k] d).1.getD 2 0 == way then FE (L.take k) ++ [L[k]] else FE (L.take k) := fun hk => by rw [← hFE]; exact endF_take hk
  have hFl : ∀ L : List Int, (FE L).length ≤ L.length := fun L => by rw [← hFE]; exact endF_len ..
  have hF0 : FE [] = [] := by rw [← hFE]; rfl
  rw [hFE]
  clear hFE
  obtain ⟨L, hL⟩ : ∃ L, stsN T H N d = L := ⟨_, rfl⟩
  obtain ⟨e, he⟩ : ∃ e, askE T H N d = e := ⟨_, rfl⟩
  obtain ⟨ok, hok⟩ : ∃ e, accOk T H N = e := ⟨_, rfl⟩
  obtain ⟨ib, hib⟩ : ∃ e, inB way 0 4 = e := ⟨_, rfl⟩
  rw [hL, he] at hst
  rw [hL] at hsl ⊢
  rw [he, hok, hib]
  rw [hok] at hck hH60
  rw [hib] at hin
  clear hL he hok hib
  obtain ⟨V, hV⟩ : ∃ V, PV.tup [.list 1 (numP (if (if ok = true then (if ib = true then e else 1) else 63) = 0 then FE L else [])), .int .i64 (if ok = true then (if ib = true then e else 1) else 63)] = V := ⟨_, rfl⟩
  rw [hV]
  refine does_of (own := inPl) Tryz.func50 rfl Tryz.ntmps50 (congrArg Array.toList Tryz.results50) (fun us w => Tryz.call50 us w) hTT mixed (Nat.le_of_ble_eq_true rfl) ?_
  intro w0 im0 D0 S Cl hS hC ar har
  have har' := har
  obtain ⟨ai, ab, nz, inr, fi, pk, ix, ln, sb, eqi, sl, fits, mn, mx, nt, be, up, fu, mg, mh, ms⟩ := ar
  have F := facts_of har
  clear har
  obtain ⟨eT, hT⟩ : ∃ es, T.map rowP = es := ⟨_, rfl⟩
  obtain ⟨eH, hH⟩ : ∃ es, H.map rowP = es := ⟨_, rfl⟩
  obtain ⟨eN, hN⟩ : ∃ es, N.map rowP = es := ⟨_, rfl⟩
  obtain ⟨eL, hEL⟩ : ∃ es, numP L = es := ⟨_, rfl⟩
  simp only [accP, hT, hH, hN, hEL] at hck hst hLo ⊢
  cases ok
  · cbv
    refine ⟨_, hC _ _ _ hck, ?_⟩; cbv
    have c0 : ab .neq 63 0 = true := by rw [F.neq]; rfl
    rw [c0]; cbv
    subst hV
    exact PLe.tup2 (PLe.nil 1) (PLe.refl _)
  have hH60 := hH60 rfl
  have c0 : ab .neq 0 0 = false := by rw [F.neq]; rfl
  cases ib
  · cbv
    refine ⟨_, hC _ _ _ hck, ?_⟩; cbv
    rw [c0]; cbv
    refine ⟨_, hC _ _ _ hin, ?_⟩; cbv
    rw [F.nt]; cbv
    subst hV
    exact PLe.tup2 (PLe.nil 1) (PLe.refl _)
  cbv
  refine ⟨_, hC _ _ _ hck, ?_⟩; cbv
  rw [c0]; cbv
  refine ⟨_, hC _ _ _ hin, ?_⟩; cbv
  rw [F.nt]; cbv
  refine ⟨_, hC _ _ _ hst, ?_⟩; cbv
  simp only [if_true] at hV
  cases c1 : ab .neq e 0
  rotate_left
  · have h0 : ¬ e = 0 := by rw [F.neq] at c1; simpa using c1
    rw [if_neg h0] at hV
    cbv
    subst hV
    exact PLe.tup2 (PLe.nil 1) (PLe.refl _)
  have h0 : e = 0 := by rw [F.neq] at c1; simpa using c1
  rw [if_pos h0] at hV
  cbv
  refine hS _ _ _ (sem_mkRow 10 1000 3 1 (by rfl) (by rfl) (sem_loopR (fun x : Nat × Int × List (List PV) => [sI 1 way, sI 2 d, sP 3 3, sL 8 1 eL, sR 10 1000, sI 11 x.2.1, bX 3 26 [cL 24 eT, cL 9 eH, cL 7 eN], rW 1000 3 1 x.2.2]) (fun x => x.1 ≤ L.length ∧ x.2.1 = (x.1 : Int) ∧ x.2.2 = numP (FE (L.take x.1))) (fun x => L.length - x.1) (0, 0, []) (fun t => t) ⟨by rfl, by cbv; try (repeat (first | exact rfl | exact trivial | refine ⟨?_, ?_⟩))⟩ ?_ ?_))
  · exact ⟨by simp, rfl, by dsimp only; rw [List.take_zero, hF0]; rfl⟩
  rintro ⟨k, i, es⟩ ⟨hk, hi, hes⟩
  dsimp only at hk hi hes
  have hadd : ai .add i 1 = ((k + 1 : Nat) : Int) := by rw [F.add i 1 (by omega) (by omega), hi]; simp
  have hlen : ln eL = L.length := by rw [F.ln, ← hEL, numP_len]
  have hfit : ∀ x, fits 8 es [x] = true := fun x => F.fits _ _ _ (by
    have := hFl (L.take k)
    rw [hes, numP_len]; simp only [List.length_take, List.length_singleton] at this ⊢; omega)
  refine sem_of (X := ⟨_, TT, ⟨0, 57, inPl⟩⟩) har' hTT mixed ?_
  intro S1 Cl1 hS1 hC1
  cbv
  by_cases hlt : k < L.length
  · have hb : ab .lss i (ln eL) = true := by rw [hlen, F.lss, hi]; simpa using hlt
    have hg : ix eL i = some [PV.int .i64 L[k]] := by rw [F.ix _ i k hi, ← hEL]; exact get_nums hlt
    have hnext := hFx hlt
    have hlo := hLo L[k]
    obtain ⟨l0, l1, l2, l3, hl4⟩ := lotR_four T H N L[k] d
    obtain ⟨le, hle⟩ : ∃ le, (lotR T H N L[k] d).2 = le := ⟨_, rfl⟩
    obtain ⟨q, hq⟩ : ∃ q, L[k] = q := ⟨_, rfl⟩
    rw [hq] at hg hnext hlo hl4 hle
    rw [hl4, hle] at hlo
    rw [hl4] at hnext
    simp only [List.getD_cons_succ, List.getD_cons_zero] at hnext
    rw [← F.eql] at hnext
    have hno : ab .eql l2 way = false → es = numP (FE (L.take (k + 1))) := fun h => by rw [hnext, h, hes]; rfl
    have hyes : ab .eql l2 way = true → es ++ [[PV.int .i64 q]] = numP (FE (L.take (k + 1))) := fun h => by rw [hnext, h, hes, ← numP_snoc]; rfl
    rw [hb]; cbv
    rw [hg]; cbv
    refine ⟨_, hC1 _ _ _ hlo, ?_⟩; cbv
    cases c2 : ab .eql l2 way
    · cbv
      exact ⟨(k + 1, ai .add i 1, es), (fun t => t), ⟨hlt, hadd, hno c2⟩, by dsimp only; omega, ⟨by rfl, by cbv; try (repeat (first | exact rfl | exact trivial | refine ⟨?_, ?_⟩))⟩⟩
    cbv
    rw [hg]; cbv
    rw [hfit]; cbv
    exact ⟨(k + 1, ai .add i 1, es ++ [[PV.int .i64 q]]), (fun t => bif Nat.beq t 1000 then 55 else t), ⟨hlt, hadd, hyes c2⟩, by dsimp only; omega, ⟨by rfl, by cbv; try (repeat (first | exact rfl | exact trivial | refine ⟨?_, ?_⟩))⟩⟩
  · have hb : ab .lss i (ln eL) = false := by rw [hlen, F.lss, hi]; simpa using hlt
    rw [hb]; cbv
    subst hV
    refine PLe.of_eq ?_
    rw [hes, List.take_of_length_le (by omega), h0]
def oweD (T H N : List (List Int)) (o d q : Int) : Int := if (dueR T H N q d).1.getD 0 0 == 2 + o then (dueR T H N q d).1.getD 3 0 + (dueR T H N q d).1.getD 1 0 + (dueR T H N q d).1.getD 2 0 else 0
theorem oweD_in {T H N : List (List Int)} (h1 : ∀ x ∈ T, x.length = 24) (o d q : Int) : 0 ≤ oweD T H N o d q ∧ oweD T H N o d q ≤ 1500000000000 := by
  obtain ⟨a, b, c⟩ := dueR_in (H := H) (N := N) h1 q d
  unfold oweD; split <;> omega
theorem sumL_in {g : Int → Int} (h : ∀ q, 0 ≤ g q ∧ g q ≤ 1500000000000) : ∀ L : List Int, 0 ≤ sumL g L ∧ sumL g L ≤ 1500000000000 * (L.length : Int) := fun L => by
  have : ∀ n, ∀ L : List Int, L.length = n → 0 ≤ sumL g L ∧ sumL g L ≤ 1500000000000 * (n : Int) := fun n => by
    induction n with
    | zero => intro L hL; rw [List.length_eq_zero_iff.1 hL]; simp [sumL]
    | succ n ih =>
      intro L hL
      obtain ⟨M, x, rfl⟩ : ∃ M x, L = M ++ [x] := ⟨L.dropLast, L.getLast (by intro h; simp [h] at hL), (List.dropLast_concat_getLast _).symm⟩
      rw [sumL_snoc]
      have := ih M (by simpa using hL)
      have := h x
      omega
  exact this _ L rfl
def oweN (T H N : List (List Int)) (o d : Int) : Int := if thrE T H N (inB o 1 99) d = 0 then sumL (oweD T H N o d) (stsN T H N d) else 0
theorem rOwed_does {T H N : List (List Int)} (h1 : ∀ x ∈ T, x.length = 24) (h2 : ∀ x ∈ H, x.length = 9) (h3 : ∀ x ∈ N, x.length = 7) (o d : Int) :
    Does Tryz.prog 46 [accP T H N, .int .i64 o, .int .i64 d] (.tup [.int .i64 (oweN T H N o d), .int .i64 (thrE T H N (inB o 1 99) d)]) := by
  have hck := check_does h1 h2 h3
  have hst := rStays_does h1 h2 h3 d
  have hin := rIn_does o 1 99
  have hLo := fun q => rDues_does h1 h2 h3 q d
  have hsl : (stsN T H N d).length ≤ H.length := by unfold stsN; split; exact srcs_len ..; simp
  have hH60 : accOk T H N = true → H.length ≤ 60 := fun h => (accOk_len h).2.1
  change Does Tryz.prog 26 _ (.tup [.list 1 (numP (stsN T H N d)), _]) at hst
  change ∀ q, Does Tryz.prog 37 _ (.tup [.agg (rowP (dueR T H N q d).1), .int .i64 (dueR T H N q d).2]) at hLo
  unfold oweN thrE
  have hDin := fun q => dueR_in (H := H) (N := N) h1 q d
  have hgin := oweD_in (H := H) (N := N) h1 o d
  have hgx : ∀ q, oweD T H N o d q = if (dueR T H N q d).1.getD 0 0 == 2 + o then (dueR T H N q d).1.getD 3 0 + (dueR T H N q d).1.getD 1 0 + (dueR T H N q d).1.getD 2 0 else 0 := fun q => rfl
  obtain ⟨g, hg⟩ : ∃ g, oweD T H N o d = g := ⟨_, rfl⟩
  rw [hg] at hgin hgx ⊢
  clear hg
  have hoB : inB o 1 99 = true → 1 ≤ o ∧ o ≤ 99 := fun h => inB_iff.1 h
  obtain ⟨L, hL⟩ : ∃ L, stsN T H N d = L := ⟨_, rfl⟩
  obtain ⟨e, he⟩ : ∃ e, askE T H N d = e := ⟨_, rfl⟩
  obtain ⟨ok, hok⟩ : ∃ e, accOk T H N = e := ⟨_, rfl⟩
  obtain ⟨ib, hib⟩ : ∃ e, inB o 1 99 = e := ⟨_, rfl⟩
  rw [hL, he] at hst
  rw [hL] at hsl ⊢
  rw [he, hok, hib]
  rw [hok] at hck hH60
  rw [hib] at hin hoB
  clear hL he hok hib
  obtain ⟨V, hV⟩ : ∃ V, PV.tup [.int .i64 (if (if ok = true then (if ib = true then e else 1) else 63) = 0 then sumL g L else 0), .int .i64 (if ok = true then (if ib = true then e else 1) else 63)] = V := ⟨_, rfl⟩
  rw [hV]
  refine does_of (own := inPl) Tryz.func46 rfl Tryz.ntmps46 (congrArg Array.toList Tryz.results46) (fun us w => Tryz.call46 us w) hTT mixed (Nat.le_of_ble_eq_true rfl) ?_
  intro w0 im0 D0 S Cl hS hC ar har
  have har' := har
  obtain ⟨ai, ab, nz, inr, fi, pk, ix, ln, sb, eqi, sl, fits, mn, mx, nt, be, up, fu, mg, mh, ms⟩ := ar
  have F := facts_of har
  clear har
  obtain ⟨eT, hT⟩ : ∃ es, T.map rowP = es := ⟨_, rfl⟩
  obtain ⟨eH, hH⟩ : ∃ es, H.map rowP = es := ⟨_, rfl⟩
  obtain ⟨eN, hN⟩ : ∃ es, N.map rowP = es := ⟨_, rfl⟩
  obtain ⟨eL, hEL⟩ : ∃ es, numP L = es := ⟨_, rfl⟩
  simp only [accP, hT, hH, hN, hEL] at hck hst hLo ⊢
  cases ok
  · cbv
    refine ⟨_, hC _ _ _ hck, ?_⟩; cbv
    have c0 : ab .neq 63 0 = true := by rw [F.neq]; rfl
    rw [c0]; cbv
    subst hV
    exact PLe.of_eq rfl
  have hH60 := hH60 rfl
  have c0 : ab .neq 0 0 = false := by rw [F.neq]; rfl
  cases ib
  · cbv
    refine ⟨_, hC _ _ _ hck, ?_⟩; cbv
    rw [c0]; cbv
    refine ⟨_, hC _ _ _ hin, ?_⟩; cbv
    rw [F.nt]; cbv
    subst hV
    exact PLe.of_eq rfl
  cbv
  refine ⟨_, hC _ _ _ hck, ?_⟩; cbv
  rw [c0]; cbv
  refine ⟨_, hC _ _ _ hin, ?_⟩; cbv
  rw [F.nt]; cbv
  refine ⟨_, hC _ _ _ hst, ?_⟩; cbv
  simp only [if_true] at hV
  cases c1 : ab .neq e 0
  rotate_left
  · have h0 : ¬ e = 0 := by rw [F.neq] at c1; simpa using c1
    rw [if_neg h0] at hV
    cbv
    subst hV
    exact PLe.of_eq rfl
  have h0 : e = 0 := by rw [F.neq] at c1; simpa using c1
  rw [if_pos h0] at hV
  cbv
  have hoB := hoB rfl
  have hol : ai .add 2 o = 2 + o := F.add _ _ (by omega) (by omega)
  refine hS _ _ _ (sem_loop (fun x : Nat × Int × Int => [sI 1 o, sI 2 d, sP 3 3, sL 8 1 eL, sI 10 x.2.2, sI 11 x.2.1, bX 3 26 [cL 24 eT, cL 9 eH, cL 7 eN]]) (fun x => x.1 ≤ L.length ∧ x.2.1 = (x.1 : Int) ∧ x.2.2 = sumL g (L.take x.1)) (fun x => L.length - x.1) (fun t => t) (0, 0, 0) (fun t => t) ⟨by rfl, by cbv; try (repeat (first | exact rfl | exact trivial | refine ⟨?_, ?_⟩))⟩ ?_ ?_)
  · exact ⟨by simp, rfl, rfl⟩
  rintro ⟨k, i, s⟩ ⟨hk, hi, hs⟩
  dsimp only at hk hi hs
  have hadd : ai .add i 1 = ((k + 1 : Nat) : Int) := by rw [F.add i 1 (by omega) (by omega), hi]; simp
  have hlen : ln eL = L.length := by rw [F.ln, ← hEL, numP_len]
  have hsin : 0 ≤ s ∧ s ≤ 1500000000000 * 60 := by
    have := sumL_in hgin (L.take k)
    rw [List.length_take] at this
    omega
  refine sem_of (X := ⟨_, TT, ⟨0, 61, inPl⟩⟩) har' hTT mixed ?_
  intro S1 Cl1 hS1 hC1
  cbv
  by_cases hlt : k < L.length
  · have hb : ab .lss i (ln eL) = true := by rw [hlen, F.lss, hi]; simpa using hlt
    have hg : ix eL i = some [PV.int .i64 L[k]] := by rw [F.ix _ i k hi, ← hEL]; exact get_nums hlt
    have hnext : sumL g (L.take (k + 1)) = s + g L[k] := by rw [take_last hlt, sumL_snoc, hs]
    have hlo := hLo L[k]
    have hgk := hgx L[k]
    obtain ⟨l0, l1, l2, l3, hl4⟩ := dueR_four T H N L[k] d
    obtain ⟨le, hle⟩ : ∃ le, (dueR T H N L[k] d).2 = le := ⟨_, rfl⟩
    have hD := hDin L[k]
    obtain ⟨q, hq⟩ : ∃ q, L[k] = q := ⟨_, rfl⟩
    rw [hq] at hg hnext hlo hl4 hle hgk hD
    rw [hl4, hle] at hlo
    rw [hl4] at hgk hD
    unfold partsOk at hD
    simp only [List.getD_cons_succ, List.getD_cons_zero] at hgk hD
    have hno : ab .eql l0 (2 + o) = false → s = sumL g (L.take (k + 1)) := fun h => by rw [F.eql] at h; rw [hnext, hgk, h]; simp
    have hyes : ab .eql l0 (2 + o) = true → ai .add (ai .add (ai .add s l3) l1) l2 = sumL g (L.take (k + 1)) := fun h => by
      rw [F.eql] at h
      rw [hnext, hgk, h, F.add s _ (by omega) (by omega), F.add (s + l3) _ (by omega) (by omega), F.add _ _ (by omega) (by omega)]; simp only [if_true]; omega
    rw [hb]; cbv
    rw [hg]; cbv
    refine ⟨_, hC1 _ _ _ hlo, ?_⟩; cbv
    rw [hol]
    cases c2 : ab .eql l0 (2 + o)
    · cbv
      exact ⟨(k + 1, ai .add i 1, s), ⟨hlt, hadd, hno c2⟩, by dsimp only; omega, ⟨by rfl, by cbv; try (repeat (first | exact rfl | exact trivial | refine ⟨?_, ?_⟩))⟩⟩
    cbv
    exact ⟨(k + 1, ai .add i 1, ai .add (ai .add (ai .add s l3) l1) l2), ⟨hlt, hadd, hyes c2⟩, by dsimp only; omega, ⟨by rfl, by cbv; try (repeat (first | exact rfl | exact trivial | refine ⟨?_, ?_⟩))⟩⟩
  · have hb : ab .lss i (ln eL) = false := by rw [hlen, F.lss, hi]; simpa using hlt
    rw [hb]; cbv
    subst hV
    refine PLe.of_eq ?_
    rw [hs, List.take_of_length_le (by omega), h0]
def exT : List (List Int) := [[0, 0, 12, 0, 0, 0, 0, 0, 0, 0, 0, 0, 4, 0, 0, 0, 0, 0, 0, 0, 0, 5, 20, 10]]
def exH : List (List Int) := [[1, 7, 1, 20, 500, 9, 10, 10, 0]]
def exN : List (List Int) := [[2, 1, 1, 3, 13, 14, 0], [3, 1, 2, 0, 15, 15, 0]]
theorem example_does : Does Tryz.prog 59 [] (accP exT exH exN) := by
  refine does_of (own := inPl) Tryz.func59 rfl Tryz.ntmps59 (congrArg Array.toList Tryz.results59) (fun us w => Tryz.call59 us w) hTT mixed (Nat.le_of_ble_eq_true rfl) ?_
  intro w0 im0 D0 S Cl hS hC ar har
  have har' := har
  obtain ⟨ai, ab, nz, inr, fi, pk, ix, ln, sb, eqi, sl, fits, mn, mx, nt, be, up, fu, mg, mh, ms⟩ := ar
  have F := facts_of har
  clear har
  cbv
  exact PLe.refl _
def dysK (l : List Int) : Nat → Int × List Int
  | 0 => (0, [])
  | k + 1 => ((dysK l k).1 + 1 + modI (l.getD k 0) 200, (dysK l k).2 ++ [(dysK l k).1 + 1 + modI (l.getD k 0) 200])
def dysN (l : List Int) : List Int := (dysK l (min l.length 6)).2
theorem modI_200 (n : Int) : 0 ≤ modI n 200 ∧ modI n 200 < 200 := by
  unfold modI
  exact ⟨Int.emod_nonneg _ (by omega), Int.emod_lt_of_pos _ (by omega)⟩
theorem dysK_in (l : List Int) : ∀ k, 0 ≤ (dysK l k).1 ∧ (dysK l k).1 ≤ 200 * (k : Int) ∧ (dysK l k).2.length = k
  | 0 => by simp [dysK]
  | k + 1 => by
    obtain ⟨a, b, c⟩ := dysK_in l k
    have := modI_200 (l.getD k 0)
    simp only [dysK, List.length_append, List.length_singleton, c, and_true]
    omega
theorem days_does (l : List Int) : Does Tryz.prog 54 [.list 1 (numP l)] (.list 1 (numP (dysN l))) := by
  obtain ⟨V, hV⟩ : ∃ V, PV.list 1 (numP (dysN l)) = V := ⟨_, rfl⟩
  rw [hV]
  refine does_of (own := inPl) Tryz.func54 rfl Tryz.ntmps54 (congrArg Array.toList Tryz.results54) (fun us w => Tryz.call54 us w) hTT mixed (Nat.le_of_ble_eq_true rfl) ?_
  intro w0 im0 D0 S Cl hS hC ar har
  have har' := har
  obtain ⟨ai, ab, nz, inr, fi, pk, ix, ln, sb, eqi, sl, fits, mn, mx, nt, be, up, fu, mg, mh, ms⟩ := ar
  have F := facts_of har
  clear har
  obtain ⟨eL, hL⟩ : ∃ es, numP l = es := ⟨_, rfl⟩
  rw [hL]
  have hlen : ln eL = l.length := by rw [F.ln, ← hL]; simp [numP]
  have hmod := fun n => mod_does n 200 (by omega) (by omega)
  have hin := fun n => modI_200 n
  have hK := dysK_in l
  have hs := fun k => show dysK l (k + 1) = ((dysK l k).1 + 1 + modI (l.getD k 0) 200, (dysK l k).2 ++ [(dysK l k).1 + 1 + modI (l.getD k 0) 200]) from rfl
  have hd0 : dysK l 0 = (0, []) := rfl
  unfold dysN at hV
  generalize dysK l = dk at *
  cbv
  refine hS _ _ _ (sem_mkRow 3 1000 3 1 (by rfl) (by rfl) (sem_loopR (fun x : Nat × Int × Int × List (List PV) => [sL 0 1 eL, sR 3 1000, sI 4 x.2.2.1, sI 5 x.2.1, rW 1000 3 1 x.2.2.2]) (fun x => x.1 ≤ l.length ∧ x.1 ≤ 6 ∧ x.2.1 = (x.1 : Int) ∧ x.2.2.1 = (dk x.1).1 ∧ x.2.2.2 = numP (dk x.1).2) (fun x => 6 - x.1) (0, 0, 0, []) (fun t => t) ⟨by rfl, by cbv; try (repeat (first | exact rfl | exact trivial | refine ⟨?_, ?_⟩))⟩ ?_ ?_))
  · exact ⟨by simp, by simp, rfl, by rw [hd0], by rw [hd0]; rfl⟩
  rintro ⟨k, i, d, es⟩ ⟨hk, hk6, hi, hd, hes⟩
  dsimp only at hk hk6 hi hd hes
  have hi : i = (k : Int) := hi
  have hadd : ai .add i 1 = ((k + 1 : Nat) : Int) := by rw [F.add i 1 (by omega) (by omega), hi]; simp
  obtain ⟨k1, k2⟩ : 0 ≤ (dk k).1 ∧ (dk k).1 ≤ 200 * (k : Int) := ⟨(hK k).1, (hK k).2.1⟩
  have hs := hs k
  have hend : k = min l.length 6 → PV.list 1 es = V := fun h => by rw [← hV, ← h, hes]
  have hT6 : k < 6 → ab .lss i 6 = true := fun h => by rw [F.lss, hi]; exact decide_eq_true (by omega)
  have hF6 : ¬ k < 6 → ab .lss i 6 = false := fun h => by rw [F.lss, hi]; exact decide_eq_false (by omega)
  have hfit : ∀ x, fits 8 es [x] = true := fun x => F.fits _ _ _ (by rw [hes, numP_len, (hK k).2.2]; simp only [List.length_singleton]; omega)
  have h1 : ai .add d 1 = d + 1 := F.add d 1 (by omega) (by omega)
  have h2 : ∀ md : Int, 0 ≤ md ∧ md < 200 → ai .add (ai .add d 1) md = d + 1 + md := fun md h => by rw [h1, F.add _ _ (by omega) (by omega)]
  have he1 : k < l.length → ¬ k < 6 → k = min l.length 6 := fun h g => by omega
  have he2 : ¬ k < l.length → k = min l.length 6 := fun h => by omega
  refine sem_of (X := ⟨_, TT, ⟨0, 29, inPl⟩⟩) har' hTT mixed ?_
  intro S1 Cl1 hS1 hC1
  cbv
  by_cases hlt : k < l.length
  · have hb : ab .lss i (ln eL) = true := by rw [hlen, F.lss, hi]; simpa using hlt
    rw [hb]; cbv
    by_cases hlt6 : k < 6
    · have hg : ix eL i = some [.int .i64 l[k]] := by rw [F.ix _ i k hi, ← hL]; exact get_nums hlt
      rw [show l.getD k 0 = l[k] by simp [List.getD, hlt]] at hs
      have hm := hmod l[k]
      have h2 := h2 _ (hin l[k])
      generalize modI l[k] 200 = md at *
      generalize l[k] = lk9 at *
      have h2' : ai .add (ai .add d 1) md = (dk (k + 1)).1 := by rw [h2, hs, hd]
      have h3 : es ++ [[PV.int .i64 (ai .add (ai .add d 1) md)]] = numP (dk (k + 1)).2 := by rw [h2', hs, hes]; exact (numP_snoc _ _).symm
      rw [hT6 hlt6]; cbv
      repeat (rw [hg]; cbv)
      refine ⟨_, hC1 _ _ _ hm, ?_⟩; cbv
      rw [hfit]; cbv
      exact ⟨(k + 1, ai .add i 1, ai .add (ai .add d 1) md, es ++ [[PV.int .i64 (ai .add (ai .add d 1) md)]]), (fun t => bif Nat.beq t 1000 then 27 else t), ⟨hlt, hlt6, hadd, h2', h3⟩, by dsimp only; omega, ⟨by rfl, by cbv; try (repeat (first | exact rfl | exact trivial | refine ⟨?_, ?_⟩))⟩⟩
    · rw [hF6 hlt6]; cbv
      exact PLe.of_eq (hend (he1 hlt hlt6))
  · have hb : ab .lss i (ln eL) = false := by rw [hlen, F.lss, hi]; simpa using hlt
    rw [hb]; cbv
    exact PLe.of_eq (hend (he2 hlt))
theorem eqPs_rowP : ∀ {x y : List Int}, x.length = y.length → eqPs (rowP x) (rowP y) = (x == y)
  | [], [], _ => rfl
  | a :: x, b :: y, h => by
    have ih := eqPs_rowP (x := x) (y := y) (by simpa using h)
    show eqPs (PV.int .i64 a :: rowP x) (PV.int .i64 b :: rowP y) = _
    simp only [eqPs]
    rw [ih]
    show ((a == b) && (x == y)) = (a :: x == b :: y)
    simp
def samK (a b : List (List Int)) (k : Nat) : Bool := a.length == b.length && a.take k == b.take k
theorem rSame_does (a b : List (List Int)) (ha : ∀ x ∈ a, x.length = 5) (hb : ∀ x ∈ b, x.length = 5) (hsm : a.length ≤ 1000000000) :
    Does Tryz.prog 42 [.list 5 (a.map rowP), .list 5 (b.map rowP)] (.bool (a == b)) := by
  obtain ⟨V, hV⟩ : ∃ V, PV.bool (a == b) = V := ⟨_, rfl⟩
  rw [hV]
  refine does_of (own := inPl) Tryz.func42 rfl Tryz.ntmps42 (congrArg Array.toList Tryz.results42) (fun us w => Tryz.call42 us w) hTT mixed (Nat.le_of_ble_eq_true rfl) ?_
  intro w0 im0 D0 S Cl hS hC ar har
  have har' := har
  obtain ⟨ai, ab, nz, inr, fi, pk, ix, ln, sb, eqi, sl, fits, mn, mx, nt, be, up, fu, mg, mh, ms⟩ := ar
  have F := facts_of har
  clear har
  obtain ⟨eA, hA⟩ : ∃ es, a.map rowP = es := ⟨_, rfl⟩
  obtain ⟨eB, hB⟩ : ∃ es, b.map rowP = es := ⟨_, rfl⟩
  have hlA : ln eA = a.length := by rw [F.ln, ← hA]; simp
  have hlB : ln eB = b.length := by rw [F.ln, ← hB]; simp
  have h0 : ab .eql (ln eA) (ln eB) = samK a b 0 := by rw [F.eql, hlA, hlB]; unfold samK; rw [Bool.eq_iff_iff]; simp only [beq_iff_eq, Bool.and_eq_true, List.take_zero, and_true]; omega
  rw [hA, hB]
  cbv
  rw [h0]
  refine hS _ _ _ (sem_loop (fun x : Nat × Int × Bool => [sL 0 5 eA, sL 1 5 eB, sB 5 x.2.2, sI 6 x.2.1]) (fun x => x.1 ≤ a.length ∧ x.2.1 = (x.1 : Int) ∧ x.2.2 = samK a b x.1) (fun x => a.length - x.1) (fun t => t) (0, 0, samK a b 0) (fun t => t) ⟨by rfl, by cbv; try (repeat (first | exact rfl | exact trivial | refine ⟨?_, ?_⟩))⟩ ?_ ?_)
  · exact ⟨by simp, rfl, rfl⟩
  rintro ⟨k, i, s⟩ ⟨hk, hi, hs⟩
  dsimp only at hk hi hs
  have hadd : ai .add i 1 = ((k + 1 : Nat) : Int) := by rw [F.add i 1 (by omega) (by omega), hi]; simp
  by_cases hlt : k < a.length
  · have hb1 : ab .lss i (ln eA) = true := by rw [hlA, F.lss, hi]; simpa using hlt
    cases s
    · skip
      refine sem_of (X := ⟨_, TT, ⟨0, 31, inPl⟩⟩) har' hTT mixed ?_
      intro S1 Cl1 hS1 hC1
      cbv
      rw [hb1]; cbv
      subst hV
      refine PLe.of_eq ?_
      have : samK a b k = false := hs.symm
      unfold samK at this
      congr 1
      refine (Bool.eq_false_iff.2 fun he => ?_).symm
      have he := eq_of_beq he
      rw [he] at this
      simp at this
    · have hlen : a.length = b.length := by
        have : samK a b k = true := hs.symm
        unfold samK at this
        simp only [Bool.and_eq_true, beq_iff_eq] at this
        exact this.1
      have hltb : k < b.length := by omega
      have hgA : ix eA i = some (rowP a[k]) := by rw [F.ix _ i k hi, ← hA]; exact get_rows hlt
      have hgB : ix eB i = some (rowP b[k]) := by rw [F.ix _ i k hi, ← hB]; exact get_rows hltb
      have hnext : eqi (rowP a[k]) (rowP b[k]) = samK a b (k + 1) := by
        have h1 : samK a b k = true := hs.symm
        unfold samK at h1 ⊢
        simp only [Bool.and_eq_true, beq_iff_eq] at h1
        rw [F.eqi, eqPs_rowP (by rw [ha _ (List.getElem_mem hlt), hb _ (List.getElem_mem hltb)]), take_last hlt, take_last hltb, h1.2, Bool.eq_iff_iff]
        simp only [beq_iff_eq, Bool.and_eq_true, h1.1, true_and, List.append_cancel_left_eq, List.cons.injEq, and_true]
      obtain ⟨x0, x1, x2, x3, x4, hx⟩ := list5 (ha _ (List.getElem_mem hlt))
      obtain ⟨y0, y1, y2, y3, y4, hy⟩ := list5 (hb _ (List.getElem_mem hltb))
      rw [hx] at hgA hnext
      rw [hy] at hgB hnext
      obtain ⟨s', hs'⟩ : ∃ s', samK a b (k + 1) = s' := ⟨_, rfl⟩
      rw [hs'] at hnext
      have hnext : eqi [.int .i64 x0, .int .i64 x1, .int .i64 x2, .int .i64 x3, .int .i64 x4] [.int .i64 y0, .int .i64 y1, .int .i64 y2, .int .i64 y3, .int .i64 y4] = s' := hnext
      refine sem_of (X := ⟨_, TT, ⟨0, 31, inPl⟩⟩) har' hTT mixed ?_
      intro S1 Cl1 hS1 hC1
      cbv
      rw [hb1]; cbv
      rw [hgA]; cbv
      rw [hgB]; cbv
      rw [hnext]
      exact ⟨(k + 1, ai .add i 1, s'), ⟨hlt, hadd, hs'.symm⟩, by dsimp only; omega, ⟨by rfl, by cbv; try (repeat (first | exact rfl | exact trivial | refine ⟨?_, ?_⟩))⟩⟩
  · have hb1 : ab .lss i (ln eA) = false := by rw [hlA, F.lss, hi]; simpa using hlt
    refine sem_of (X := ⟨_, TT, ⟨0, 31, inPl⟩⟩) har' hTT mixed ?_
    intro S1 Cl1 hS1 hC1
    cbv
    rw [hb1]; cbv
    subst hV
    refine PLe.of_eq ?_
    rw [hs]
    unfold samK
    have : k = a.length := by omega
    subst this
    congr 1
    rw [List.take_length, Bool.eq_iff_iff]
    simp only [Bool.and_eq_true, beq_iff_eq]
    constructor
    · rintro ⟨h1, h2⟩; rw [h1, List.take_length] at h2; exact h2
    · rintro rfl; simp
def pstE (T H N : List (List Int)) (D : List Int) : Int := if accOk T H N = true then (if daysOk D = true then 0 else 66) else 63
theorem daysOk_in {D : List Int} (h : daysOk D = true) : D.length ≤ 12 ∧ ∀ d ∈ D, 0 ≤ d ∧ d ≤ 100000 := by
  unfold daysOk dyK at h
  simp only [Bool.and_eq_true, decide_eq_true_eq, List.all_eq_true] at h
  refine ⟨h.1, fun d hd => ?_⟩
  obtain ⟨k, hk, rfl⟩ := List.mem_iff_getElem.1 hd
  have := h.2 k (List.mem_range.2 hk)
  rw [dyAt_eq hk, Bool.and_eq_true] at this
  exact inB_iff.1 this.1
theorem pstE_days {T H N : List (List Int)} {D : List Int} (h : pstE T H N D = 0) : accOk T H N = true ∧ daysOk D = true := by
  unfold pstE at h
  split at h
  · split at h
    · exact ⟨‹_›, ‹_›⟩
    · omega
  · omega
def isS (s : Int) (x : List Int) : Bool := x.getD 0 0 == s
def acc0 : PV := .agg [.nil, .nil, .nil]
def atF (s : Int) (p : Int × Int) (x : List Int) : Int × Int := (p.1 + 1, if (decide (x.getD 0 0 < s)) = true then p.1 + 1 else p.2)
def atK (s : Int) (N : List (List Int)) : Int × Int := N.foldl (atF s) (0, 0)
theorem atK_take {s : Int} {N : List (List Int)} {k : Nat} (hk : k < N.length) : atK s (N.take (k + 1)) = atF s (atK s (N.take k)) N[k] := by
  unfold atK; rw [take_last hk, List.foldl_append]; rfl
theorem atK_one (s : Int) : ∀ (N : List (List Int)) (k : Nat), k ≤ N.length → (atK s (N.take k)).1 = k
  | N, 0, _ => by simp [atK]
  | N, k + 1, h => by rw [atK_take (by omega)]; unfold atF; dsimp only; rw [atK_one s N k (by omega)]; omega
theorem atK_in (s : Int) : ∀ (N : List (List Int)) (k : Nat), k ≤ N.length → 0 ≤ (atK s (N.take k)).2 ∧ (atK s (N.take k)).2 ≤ k
  | N, 0, _ => by simp [atK]
  | N, k + 1, h => by
    have h1 := atK_one s N k (by omega)
    have h2 := atK_in s N k (by omega)
    rw [atK_take (by omega)]; unfold atF; dsimp only
    split <;> omega
def insN (N : List (List Int)) (n : List Int) : List (List Int) := N.take (atK (n.getD 0 0) N).2.toNat ++ [n] ++ N.drop (atK (n.getD 0 0) N).2.toNat
def ntdE (T H N : List (List Int)) (n : List Int) : Int :=
  if accOk T H N = true then (if noteOk n = true then (if N.any (isS (n.getD 0 0)) = true then 62 else if N.length = 60 then 2 else 0) else 62) else 63
theorem any_take {s : Int} {L : List (List Int)} {k : Nat} (hk : k < L.length) : (L.take (k + 1)).any (isS s) = ((L.take k).any (isS s) || isS s L[k]) := by
  rw [take_last hk, List.any_append]; simp
end Go.Proofs.YtjimjdhdnkhfnaaGreat
