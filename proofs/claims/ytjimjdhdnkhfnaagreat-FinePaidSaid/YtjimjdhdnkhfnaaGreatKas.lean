/- Contracts of functions of the program and of the reference, a calculus of states, and plain facts: a part of a proof. Own text. -/
import Derived.Test.YtjimjdhdnkhfnaaGreatKae
import Derived.Test.YtjimjdhdnkhfnaaGreatKao
import Derived.Test.YtjimjdhdnkhfnaaGreatKap
import Derived.Test.YtjimjdhdnkhfnaaGreatKar
set_option linter.unusedVariables false
set_option linter.unusedSimpArgs false
set_option linter.unusedSectionVars false
set_option linter.unnecessarySimpa false
namespace Go.Proofs.YtjimjdhdnkhfnaaGreat
open Go Go.RowKit
set_option maxRecDepth 100000
set_option maxHeartbeats 4000000
theorem dysK_ris (l : List Int) : ∀ k : Nat, (dysK l k).2.Pairwise (fun a b => a < b) ∧ (∀ x ∈ (dysK l k).2, 1 ≤ x ∧ x ≤ (dysK l k).1) ∧ (k ≠ 0 → (dysK l k).2.getLast? = some (dysK l k).1)
  | 0 => ⟨List.Pairwise.nil, fun x hx => by simp [dysK] at hx, fun h => absurd rfl h⟩
  | k + 1 => by
    obtain ⟨a, b, _⟩ := dysK_ris l k
    have hm := modI_200 (l.getD k 0)
    have h0 := (dysK_in l k).1
    simp only [dysK]
    refine ⟨List.pairwise_append.2 ⟨a, List.pairwise_singleton _ _, fun x hx y hy => ?_⟩, fun x hx => ?_, fun _ => by simp⟩
    · have := b x hx
      rw [List.mem_singleton] at hy
      omega
    · rcases List.mem_append.1 hx with h | h
      · have := b x h; omega
      · rw [List.mem_singleton] at h; omega
theorem dysN_ok (l : List Int) : daysOk (dysN l) = true ∧ (dysN l).Pairwise (fun a b => a < b) ∧ (∀ x ∈ dysN l, 1 ≤ x ∧ x ≤ 1200) ∧ (dysN l).length ≤ 6 := by
  obtain ⟨a, b, _⟩ := dysK_ris l (min l.length 6)
  obtain ⟨c, d, e⟩ := dysK_in l (min l.length 6)
  have hb : ∀ x ∈ dysN l, 1 ≤ x ∧ x ≤ 1200 := fun x hx => by have := b x hx; omega
  have hl : (dysN l).length ≤ 6 := by show (dysK l (min l.length 6)).2.length ≤ 6; rw [e]; omega
  refine ⟨?_, a, hb, hl⟩
  have a : (dysN l).Pairwise (fun a b => a < b) := a
  unfold daysOk dyK
  rw [Bool.and_eq_true, decide_eq_true_eq, List.all_eq_true]
  refine ⟨by omega, fun k hk => ?_⟩
  have hk := List.mem_range.1 hk
  rw [dyAt_eq hk, Bool.and_eq_true, Bool.or_eq_true, inB_iff]
  have := hb _ (List.getElem_mem hk)
  refine ⟨by omega, ?_⟩
  cases k with
  | zero => exact .inl rfl
  | succ k =>
    refine .inr (decide_eq_true ?_)
    rw [List.pairwise_iff_getElem] at a
    have := a k (k + 1) (by omega) hk (by omega)
    rwa [show (dysN l).getD (k + 1 - 1) 0 = (dysN l)[k]'(by omega) by simp [List.getD, show k < (dysN l).length by omega]]
def amtF (s p t : Int) (x : List Int) : Int := if x.getD 1 0 = s ∧ x.getD 2 0 = p ∧ x.getD 3 0 = t then x.getD 4 0 else 0
def gotS (s p t : Int) : List (List Int) → Int
  | [] => 0
  | x :: L => amtF s p t x + gotS s p t L
theorem gotS_app (s p t : Int) : ∀ A B : List (List Int), gotS s p t (A ++ B) = gotS s p t A + gotS s p t B
  | [], B => by simp [gotS]
  | x :: A, B => by rw [List.cons_append, gotS, gotS, gotS_app s p t A B]; omega
theorem gotS_zero {s p t : Int} : ∀ {L : List (List Int)}, (∀ x ∈ L, amtF s p t x = 0) → gotS s p t L = 0
  | [], _ => rfl
  | x :: L, h => by rw [gotS, h x (by simp), gotS_zero (fun y hy => h y (by simp [hy]))]; rfl
theorem gotS_flat0 {α : Type} {s p t : Int} {f : α → List (List Int)} : ∀ {L : List α}, (∀ b ∈ L, gotS s p t (f b) = 0) → gotS s p t (L.flatMap f) = 0
  | [], _ => rfl
  | x :: L, h => by
    rw [List.flatMap_cons, gotS_app, h x (by simp), gotS_flat0 (fun y hy => h y (by simp [hy]))]; rfl
theorem gotS_flat1 {α : Type} {s p t : Int} {f : α → List (List Int)} {a : α} : ∀ {L : List α}, a ∈ L → L.Nodup → (∀ b ∈ L, b ≠ a → gotS s p t (f b) = 0) → gotS s p t (L.flatMap f) = gotS s p t (f a)
  | [], h, _, _ => absurd h (by simp)
  | x :: L, h, hn, h0 => by
    rw [List.flatMap_cons, gotS_app]
    rw [List.nodup_cons] at hn
    by_cases hx : x = a
    · subst hx
      rw [gotS_flat0 (L := L) (fun b hb => h0 b (by simp [hb]) (fun e => hn.1 (e ▸ hb)))]; omega
    · have ha : a ∈ L := by
        rcases List.mem_cons.1 h with e | e
        · exact absurd e.symm hx
        · exact e
      rw [h0 x (by simp) hx, gotS_flat1 ha hn.2 (fun b hb => h0 b (by simp [hb]))]; omega
theorem gotS_pst1 (T N : List (List Int)) (h : List Int) (was day r q s p t : Int) : gotS s p t (pst1 T N h was day r q) = if h.getD 0 0 = s ∧ q = p ∧ rcv h r = t ∧ skp h r q = false then paiN T N h day q r - paiN T N h was q r else 0 := by
  unfold pst1
  cases hs : skp h r q with
  | true => simp [gotS]
  | false =>
    simp only [Bool.false_eq_true, if_false, and_true]
    by_cases h0 : paiN T N h day q r - paiN T N h was q r = 0
    · rw [if_pos h0, h0]; simp [gotS]
    · rw [if_neg h0]
      simp only [gotS, amtF, List.getD_cons_zero, List.getD_cons_succ, Int.add_zero]
theorem paiN_not {T N : List (List Int)} {h : List Int} {k q r : Int} (hne : q ≠ payD T N h k) : paiN T N h k q r = 0 := by
  by_cases h0 : paiN T N h k q r = 0
  · exact h0
  · exact absurd (paiN_pay h0) hne
theorem rcv_inj {h : List Int} (h5 : 0 ≤ h.getD 5 0) {r r' : Int} (hr : okR h r) (hr' : okR h r') (he : rcv h r = rcv h r') : r = r' := by
  unfold rcv at he
  unfold okR at hr hr'
  (repeat' split at he) <;> omega
theorem skp_okR {h : List Int} {r q : Int} (h0 : 0 ≤ r ∧ r ≤ 2) (hs : skp h r q = false) : okR h r ∧ 0 ≤ q ∧ q ≠ rcv h r := by
  unfold skp at hs
  simp only [Bool.or_eq_false_iff, decide_eq_false_iff_not, Bool.and_eq_false_iff, beq_eq_false_iff_ne] at hs
  refine ⟨?_, by omega, hs.1.2⟩
  unfold okR; omega
theorem gotS_pstN {T N : List (List Int)} {h : List Int} (h5 : 0 ≤ h.getD 5 0) (was day : Int) {p r : Int} (hr : okR h r) (hp : 0 ≤ p) (hpr : p ≠ rcv h r) : gotS (h.getD 0 0) p (rcv h r) (pstN T N h was day) = paiN T N h day p r - paiN T N h was p r := by
  unfold pstN pstK
  have hr02 : 0 ≤ r ∧ r ≤ 2 := by unfold okR at hr; omega
  have hskp : skp h r p = false := by
    unfold skp
    simp only [Bool.or_eq_false_iff, decide_eq_false_iff_not, Bool.and_eq_false_iff, beq_eq_false_iff_ne]
    unfold okR at hr
    exact ⟨⟨by omega, hpr⟩, by omega⟩
  rw [gotS_flat1 (a := r.toNat) (List.mem_range.2 (by omega)) List.nodup_range (fun b hb hne => ?_)]
  · rw [show ((r.toNat : Nat) : Int) = r by omega]
    by_cases hm : p ∈ pyrs (payD T N h was) (payD T N h day)
    · rw [gotS_flat1 hm ((pyrs_srt _ _).imp (fun h => by omega)) (fun q hq hqp => ?_)]
      · rw [gotS_pst1, if_pos ⟨rfl, rfl, rfl, hskp⟩]
      · rw [gotS_pst1, if_neg]
        rintro ⟨_, e, _⟩; exact hqp e
    · rw [gotS_flat0 (fun q hq => ?_)]
      · have m := pyrs_mem (payD T N h was) (payD T N h day)
        rw [paiN_not (k := day) (fun e => hm (by rw [e]; exact m.2)), paiN_not (k := was) (fun e => hm (by rw [e]; exact m.1))]; rfl
      · rw [gotS_pst1, if_neg]
        rintro ⟨_, e, _⟩; rw [e] at hq; exact hm hq
  · have hb := List.mem_range.1 hb
    refine gotS_flat0 fun q hq => ?_
    rw [gotS_pst1, if_neg]
    rintro ⟨_, _, he, hs⟩
    have := rcv_inj h5 (skp_okR (by omega) hs).1 hr he
    omega
theorem pstN_stay {T N : List (List Int)} {h : List Int} {was day : Int} : ∀ x ∈ pstN T N h was day, x.getD 1 0 = h.getD 0 0 := fun x hx => by
  unfold pstN pstK at hx
  obtain ⟨r, _, hx⟩ := List.mem_flatMap.1 hx
  obtain ⟨q, _, hx⟩ := List.mem_flatMap.1 hx
  unfold pst1 at hx
  split at hx
  · simp at hx
  · split at hx
    · simp at hx
    · rw [List.mem_singleton] at hx; subst hx; rfl
theorem gotS_posK {T H N : List (List Int)} (hok : accOk T H N = true) {D : List Int} {h : List Int} (hh : h ∈ H) (h5 : 0 ≤ h.getD 5 0) {p r : Int} (hr : okR h r) (hp : 0 ≤ p) (hpr : p ≠ rcv h r) : ∀ k : Nat, gotS (h.getD 0 0) p (rcv h r) (posK T H N D k) = paiN T N h (wasN D k) p r
  | 0 => by
    show gotS _ _ _ [] = _
    unfold paiN wasN
    rw [if_pos rfl, if_pos (by decide)]; rfl
  | k + 1 => by
    rw [posK_succ, gotS_app, gotS_posK hok hh h5 hr hp hpr k]
    rw [gotS_flat1 hh ?_ (fun b hb hne => ?_), gotS_pstN h5 _ _ hr hp hpr]
    · rw [show wasN D (k + 1) = D.getD k 0 from rfl]; omega
    · unfold accOk at hok
      simp only [Bool.and_eq_true] at hok
      exact (lsOk_pair hok.2.1).imp (fun h e => by subst e; omega)
    · refine gotS_zero fun x hx => ?_
      unfold amtF
      rw [if_neg]
      rintro ⟨e, _⟩
      rw [pstN_stay x hx] at e
      exact hne (held_eq hok hb hh e)
theorem owr_le {N : List (List Int)} (h : ∀ n ∈ N, 0 ≤ n.getD 3 0 ∧ n.getD 3 0 ≤ 5) : 0 ≤ owrN N ∧ owrN N ≤ 5 := by
  have g1 : ∀ (L : List (List Int)) (a : Int × Int), (∀ n ∈ L, 0 ≤ n.getD 3 0 ∧ n.getD 3 0 ≤ 5) → 0 ≤ a.2 ∧ a.2 ≤ 5 → 0 ≤ (L.foldl owrS a).2 ∧ (L.foldl owrS a).2 ≤ 5 := by
    intro L
    induction L with
    | nil => intro a _ h; exact h
    | cons x L ih =>
      intro a hL ha
      refine ih _ (fun y hy => hL y (by simp [hy])) ?_
      unfold owrS
      split
      · exact hL x (by simp)
      · exact ha
  have g2 : ∀ (L : List (List Int)) (k a : Int), (∀ n ∈ L, 0 ≤ n.getD 3 0 ∧ n.getD 3 0 ≤ 5) → 0 ≤ a ∧ a ≤ 5 → 0 ≤ L.foldr (owrT k) a ∧ L.foldr (owrT k) a ≤ 5 := by
    intro L
    induction L with
    | nil => intro k a _ h; exact h
    | cons x L ih =>
      intro k a hL ha
      rw [List.foldr_cons]
      have := ih k a (fun y hy => hL y (by simp [hy])) ha
      unfold owrT at this ⊢
      split
      · exact hL x (by simp)
      · exact this
  have h1 := g1 N (-1, 0) h (by decide)
  unfold owrN
  split
  · exact h1
  · exact g2 N _ _ h h1
theorem note_five {i : Int} {n : List Int} : 0 ≤ (noteM i n).getD 3 0 ∧ (noteM i n).getD 3 0 ≤ 5 := by
  show 0 ≤ (if 1 + n.getD 1 0 % 3 = 2 then 0 else 1 + n.getD 4 0 % 5) ∧ (if 1 + n.getD 1 0 % 3 = 2 then 0 else 1 + n.getD 4 0 % 5) ≤ 5
  split <;> omega
theorem payD_in {T N : List (List Int)} (hn : ∀ n ∈ N, 0 ≤ n.getD 3 0 ∧ n.getD 3 0 ≤ 5) (h : List Int) (k : Int) : payD T N h k = -1 ∨ (2 ≤ payD T N h k ∧ payD T N h k ≤ 7) := by
  have ho : 0 ≤ (lotN T N h k).getD 0 0 ∧ (lotN T N h k).getD 0 0 ≤ 5 := owr_le (fun n hm => hn n (List.mem_filter.1 hm).1)
  unfold payD
  split
  · unfold dueN
    split
    · exact .inr (by show (2 : Int) ≤ 2 ∧ (2 : Int) ≤ 7; decide)
    · split
      · exact .inl rfl
      · rename_i h1
        refine .inr ?_
        show 2 ≤ 2 + (lotN T N h k).getD 0 0 ∧ 2 + (lotN T N h k).getD 0 0 ≤ 7
        omega
  · exact .inl rfl
theorem pstN_form {T N : List (List Int)} {h : List Int} {was day : Int} {x : List Int} (hx : x ∈ pstN T N h was day) : ∃ r q : Int, okR h r ∧ 0 ≤ q ∧ q ≠ rcv h r ∧ (q = payD T N h was ∨ q = payD T N h day) ∧
    x = [day, h.getD 0 0, q, rcv h r, paiN T N h day q r - paiN T N h was q r] ∧ paiN T N h day q r - paiN T N h was q r ≠ 0 := by
  unfold pstN pstK at hx
  obtain ⟨r, hr, hx⟩ := List.mem_flatMap.1 hx
  obtain ⟨q, hq, hx⟩ := List.mem_flatMap.1 hx
  have hr := List.mem_range.1 hr
  have hq' : q = payD T N h was ∨ q = payD T N h day := by
    unfold pyrs at hq
    split at hq
    · rw [List.mem_singleton] at hq; omega
    · simp only [List.mem_cons, List.not_mem_nil, or_false] at hq; omega
  unfold pst1 at hx
  split at hx
  · simp at hx
  · rename_i hs
    split at hx
    · simp at hx
    · rename_i h0
      rw [List.mem_singleton] at hx
      obtain ⟨a, b, c⟩ := skp_okR (by omega) (Bool.eq_false_iff.2 hs)
      exact ⟨r, q, a, b, c, hq', hx, h0⟩
structure PstOk (H : List (List Int)) (D : List Int) (x : List Int) : Prop where
  len : x.length = 5
  amt : x.getD 4 0 ≠ 0 ∧ -500000000000 ≤ x.getD 4 0 ∧ x.getD 4 0 ≤ 500000000000
  ne : x.getD 2 0 ≠ x.getD 3 0
  day : x.getD 0 0 ∈ D
  frm : 2 ≤ x.getD 2 0 ∧ x.getD 2 0 ≤ 7
  to : 0 ≤ x.getD 3 0 ∧ x.getD 3 0 ≤ 7
  rcv : ∀ h ∈ H, h.getD 0 0 = x.getD 1 0 → x.getD 3 0 = 0 ∨ x.getD 3 0 = 1 ∨ (x.getD 3 0 = 2 + h.getD 5 0 ∧ h.getD 5 0 ≠ 0)
theorem held_drv {T H N : List (List Int)} (m : MadeOk T H N) {h : List Int} (hh : h ∈ H) : 0 ≤ h.getD 5 0 ∧ h.getD 5 0 ≤ 5 := by
  obtain ⟨j, n, _, _, rfl⟩ := m.hm h hh
  show 0 ≤ n.getD 3 0 % 6 ∧ n.getD 3 0 % 6 ≤ 5
  omega
theorem posK_ok {T H N : List (List Int)} (m : MadeOk T H N) {D : List Int} (hD : ∀ d ∈ D, 0 ≤ d ∧ d ≤ 100000) : ∀ x ∈ posN T H N D, PstOk H D x := fun x hx => by
  unfold posN posK at hx
  obtain ⟨k, hk, hx⟩ := List.mem_flatMap.1 hx
  obtain ⟨h, hh, hx⟩ := List.mem_flatMap.1 hx
  have hk := List.mem_range.1 hk
  obtain ⟨r, q, a, b, c, d, rfl, f⟩ := pstN_form hx
  have hg : D.getD k 0 = D[k] := by simp [List.getD, hk]
  have hn : ∀ n ∈ N, 0 ≤ n.getD 3 0 ∧ n.getD 3 0 ≤ 5 := fun n hm => by
    obtain ⟨j, n', _, _, rfl⟩ := m.nm n hm
    exact note_five
  have h5 := held_drv m hh
  have hq : 2 ≤ q ∧ q ≤ 7 := by
    rcases d with e | e
    · have := payD_in (T := T) hn h (wasN D k); omega
    · have := payD_in (T := T) hn h (D.getD k 0); omega
  have hw : wasN D k ≤ 100000 := by
    unfold wasN
    split
    · decide
    · rw [show D.getD (k - 1) 0 = D[k - 1]'(by omega) by simp [List.getD, show k - 1 < D.length by omega]]
      exact (hD _ (List.getElem_mem _)).2
  have hd : D.getD k 0 ≤ 100000 := by rw [hg]; exact (hD _ (List.getElem_mem _)).2
  have p1 := paiN_in (N := N) m.t (accOk_T m.ok) (accOk_H m.ok h hh) (D.getD k 0) q r hd
  have p2 := paiN_in (N := N) m.t (accOk_T m.ok) (accOk_H m.ok h hh) (wasN D k) q r hw
  have ha : okR h r := a
  refine ⟨rfl, ⟨f, ?_, ?_⟩, c, ?_, hq, ?_, fun h' hh' he => ?_⟩
  · show -500000000000 ≤ paiN T N h (D.getD k 0) q r - paiN T N h (wasN D k) q r
    omega
  · show paiN T N h (D.getD k 0) q r - paiN T N h (wasN D k) q r ≤ 500000000000
    omega
  · show D.getD k 0 ∈ D
    rw [hg]; exact List.getElem_mem _
  · show 0 ≤ rcv h r ∧ rcv h r ≤ 7
    unfold rcv; split
    · decide
    · split
      · decide
      · omega
  · obtain rfl := held_eq m.ok hh' hh he
    show rcv h' r = 0 ∨ rcv h' r = 1 ∨ (rcv h' r = 2 + h'.getD 5 0 ∧ h'.getD 5 0 ≠ 0)
    unfold rcv
    unfold okR at a
    rcases a with e | e | ⟨e, e5⟩
    · rw [if_pos e]; exact .inl rfl
    · rw [if_neg (by omega), if_pos e]; exact .inr (.inl rfl)
    · rw [if_neg (by omega), if_neg (by omega)]; exact .inr (.inr ⟨rfl, e5⟩)
def difP (x y : List Int) : Prop := ¬ (x.getD 0 0 = y.getD 0 0 ∧ x.getD 1 0 = y.getD 1 0 ∧ x.getD 2 0 = y.getD 2 0 ∧ x.getD 3 0 = y.getD 3 0)
theorem pstN_day {T N : List (List Int)} {h : List Int} {was day : Int} : ∀ x ∈ pstN T N h was day, x.getD 0 0 = day := fun x hx => by
  obtain ⟨r, q, _, _, _, _, rfl, _⟩ := pstN_form hx
  rfl
theorem posN_dif {T H N : List (List Int)} (m : MadeOk T H N) {D : List Int} (hD : D.Pairwise (fun a b => a < b)) : (posN T H N D).Pairwise difP := by
  unfold posN posK
  rw [List.pairwise_flatMap]
  refine ⟨fun k hk => ?_, ?_⟩
  · rw [List.pairwise_flatMap]
    refine ⟨fun h hh => ?_, ?_⟩
    · unfold pstN pstK
      rw [List.pairwise_flatMap]
      refine ⟨fun r hr => ?_, ?_⟩
      · rw [List.pairwise_flatMap]
        refine ⟨fun q hq => ?_, (pyrs_srt _ _).imp (fun {a b} hab x hx y hy => ?_)⟩
        · unfold pst1; split
          · exact List.Pairwise.nil
          · split
            · exact List.Pairwise.nil
            · exact List.pairwise_singleton _ _
        · unfold pst1 at hx hy
          rintro ⟨_, _, e, _⟩
          have ex : x.getD 2 0 = a := by
            split at hx
            · simp at hx
            · split at hx
              · simp at hx
              · rw [List.mem_singleton] at hx; subst hx; rfl
          have ey : y.getD 2 0 = b := by
            split at hy
            · simp at hy
            · split at hy
              · simp at hy
              · rw [List.mem_singleton] at hy; subst hy; rfl
          omega
      · have h5 := (held_drv m hh).1
        rw [List.pairwise_iff_getElem]
        intro i j hi hj hij x hx y hy
        rintro ⟨_, _, _, e⟩
        simp only [List.length_range] at hi hj
        rw [List.getElem_range] at hx hy
        have key : ∀ (r : Nat) (z : List Int), r < 3 → z ∈ (pyrs (payD T N h (wasN D k)) (payD T N h (D.getD k 0))).flatMap (pst1 T N h (wasN D k) (D.getD k 0) (r : Int)) → okR h (r : Int) ∧ z.getD 3 0 = rcv h (r : Int) := fun r z hr hz => by
          obtain ⟨q, _, hz⟩ := List.mem_flatMap.1 hz
          unfold pst1 at hz
          split at hz
          · simp at hz
          · rename_i hs
            split at hz
            · simp at hz
            · rw [List.mem_singleton] at hz; subst hz
              exact ⟨(skp_okR (by omega) (Bool.eq_false_iff.2 hs)).1, rfl⟩
        obtain ⟨a1, a2⟩ := key i x hi hx
        obtain ⟨b1, b2⟩ := key j y hj hy
        have := rcv_inj h5 a1 b1 (by rw [← a2, ← b2]; exact e)
        omega
    · have hok := m.ok
      unfold accOk at hok
      simp only [Bool.and_eq_true] at hok
      refine (lsOk_pair hok.2.1).imp (fun {a b} hab x hx y hy => ?_)
      rintro ⟨_, e, _⟩
      rw [pstN_stay x hx, pstN_stay y hy] at e
      omega
  · rw [List.pairwise_iff_getElem]
    intro i j hi hj hij x hx y hy
    rintro ⟨e, _⟩
    simp only [List.length_range] at hi hj
    rw [List.getElem_range] at hx hy
    obtain ⟨a, _, hx⟩ := List.mem_flatMap.1 hx
    obtain ⟨b, _, hy⟩ := List.mem_flatMap.1 hy
    rw [pstN_day x hx, pstN_day y hy] at e
    rw [show D.getD i 0 = D[i] by simp [List.getD, hi], show D.getD j 0 = D[j] by simp [List.getD, hj]] at e
    rw [List.pairwise_iff_getElem] at hD
    have := hD i j hi hj hij
    omega
def balC (p : Int) (x : List Int) : Int := (if x.getD 3 0 = p then x.getD 4 0 else 0) - (if x.getD 2 0 = p then x.getD 4 0 else 0)
def balS (p : Int) : List (List Int) → Int
  | [] => 0
  | x :: L => balC p x + balS p L
theorem balK_eq (p : Int) : ∀ (L : List (List Int)) (a : Int), L.foldl (balF p) a = a + balS p L
  | [], a => by simp [balS]
  | x :: L, a => by
    rw [List.foldl_cons, balK_eq p L, balS]
    unfold balF balC
    simp only [beq_iff_eq]
    split <;> split <;> omega
def sumC (x : List Int) : Nat → Int
  | 0 => 0
  | m + 1 => sumC x m + balC (m : Int) x
def sumB (L : List (List Int)) : Nat → Int
  | 0 => 0
  | m + 1 => sumB L m + balK (m : Int) L
theorem sumC_eq (x : List Int) (h2 : 0 ≤ x.getD 2 0) (h3 : 0 ≤ x.getD 3 0) : ∀ m : Nat, sumC x m = (if x.getD 3 0 < (m : Int) then x.getD 4 0 else 0) - (if x.getD 2 0 < (m : Int) then x.getD 4 0 else 0)
  | 0 => by rw [if_neg (by omega), if_neg (by omega)]; rfl
  | m + 1 => by
    rw [sumC, sumC_eq x h2 h3 m]
    unfold balC
    (repeat' split) <;> omega
theorem sumB_cons (x : List Int) (L : List (List Int)) : ∀ m : Nat, sumB (x :: L) m = sumC x m + sumB L m
  | 0 => rfl
  | m + 1 => by
    rw [sumB, sumB_cons x L m, sumC, sumB]
    have e1 : balK (m : Int) (x :: L) = balC (m : Int) x + balS (m : Int) L := by unfold balK; rw [balK_eq]; simp [balS]
    have e2 : balK (m : Int) L = balS (m : Int) L := by unfold balK; rw [balK_eq]; simp
    rw [e1, e2]; omega
theorem sumB_zero : ∀ L : List (List Int), (∀ x ∈ L, (0 ≤ x.getD 2 0 ∧ x.getD 2 0 ≤ 7) ∧ 0 ≤ x.getD 3 0 ∧ x.getD 3 0 ≤ 7) → sumB L 11 = 0
  | [], _ => by decide
  | x :: L, h => by
    have hx := h x (by simp)
    rw [sumB_cons, sumB_zero L (fun y hy => h y (by simp [hy])), sumC_eq x hx.1.1 hx.2.1, if_pos (by omega), if_pos (by omega)]; omega
theorem balS_in (p : Int) : ∀ L : List (List Int), (∀ x ∈ L, -500000000000 ≤ x.getD 4 0 ∧ x.getD 4 0 ≤ 500000000000) → -1000000000000 * (L.length : Int) ≤ balS p L ∧ balS p L ≤ 1000000000000 * (L.length : Int)
  | [], _ => by simp [balS]
  | x :: L, h => by
    have := balS_in p L (fun y hy => h y (by simp [hy]))
    have hx := h x (by simp)
    rw [balS, List.length_cons]
    unfold balC
    (repeat' split) <;> omega
theorem balK_in (p : Int) {L : List (List Int)} (h : ∀ x ∈ L, -500000000000 ≤ x.getD 4 0 ∧ x.getD 4 0 ≤ 500000000000) (hl : L.length ≤ 1000) : -1000000000000000 ≤ balK p L ∧ balK p L ≤ 1000000000000000 := by
  have := balS_in p L h
  unfold balK
  rw [balK_eq]; omega
theorem sumB_in {L : List (List Int)} (h : ∀ x ∈ L, -500000000000 ≤ x.getD 4 0 ∧ x.getD 4 0 ≤ 500000000000) (hl : L.length ≤ 1000) : ∀ m : Nat, -1000000000000000 * (m : Int) ≤ sumB L m ∧ sumB L m ≤ 1000000000000000 * (m : Int)
  | 0 => by simp [sumB]
  | m + 1 => by
    have := sumB_in h hl m
    have := balK_in (m : Int) h hl
    rw [sumB]; omega
theorem gotS_in (s p t : Int) : ∀ L : List (List Int), (∀ x ∈ L, -500000000000 ≤ x.getD 4 0 ∧ x.getD 4 0 ≤ 500000000000) → -500000000000 * (L.length : Int) ≤ gotS s p t L ∧ gotS s p t L ≤ 500000000000 * (L.length : Int)
  | [], _ => by simp [gotS]
  | x :: L, h => by
    have := gotS_in s p t L (fun y hy => h y (by simp [hy]))
    have hx := h x (by simp)
    rw [gotS, List.length_cons]
    unfold amtF
    split <;> omega
def lstD (T N : List (List Int)) (h : List Int) (d : Int) : List Int := if cntH d h = true then dueN T N h d else [-1, 0, 0, 0]
theorem pai_lst {T N : List (List Int)} {h : List Int} {d p r : Int} (hd : 0 ≤ d) (hp : 0 ≤ p) : paiN T N h d p r = if (lstD T N h d).getD 0 0 = p then prt (lstD T N h d) r else 0 := by
  unfold paiN lstD
  rw [if_neg (by omega)]
  cases hc : cntH d h with
  | true => simp
  | false =>
    simp only [if_true, Bool.false_eq_true, if_false]
    rw [if_neg (by show ¬ (-1 : Int) = p; omega)]
theorem due_drv {T N : List (List Int)} {h : List Int} {d : Int} (h5 : h.getD 5 0 = 0) : (lstD T N h d).getD 2 0 = 0 := by
  unfold lstD
  split
  · unfold dueN
    split
    · show (if 0 < h.getD 5 0 then _ else (0 : Int)) = 0
      rw [if_neg (by omega)]
    · split
      · rfl
      · show (if 0 < h.getD 5 0 then _ else (0 : Int)) = 0
        rw [if_neg (by omega)]
  · rfl
theorem settle_eq {T H N : List (List Int)} (m : MadeOk T H N) {D : List Int} (hD : ∀ d ∈ D, 0 ≤ d ∧ d ≤ 100000) (hne : D ≠ []) {h : List Int} (hh : h ∈ H) {p : Int} (hp : 2 ≤ p) :
    gotS (h.getD 0 0) p 0 (posN T H N D) = (if (lstD T N h (wasN D D.length)).getD 0 0 = p then (lstD T N h (wasN D D.length)).getD 3 0 else 0) ∧
    gotS (h.getD 0 0) p 1 (posN T H N D) = (if (lstD T N h (wasN D D.length)).getD 0 0 = p then (lstD T N h (wasN D D.length)).getD 1 0 else 0) ∧
    gotS (h.getD 0 0) p (2 + h.getD 5 0) (posN T H N D) = (if p = 2 + h.getD 5 0 then 0 else if (lstD T N h (wasN D D.length)).getD 0 0 = p then (lstD T N h (wasN D D.length)).getD 2 0 else 0) := by
  have h5 := held_drv m hh
  have hlen : D.length ≠ 0 := fun e => hne (List.eq_nil_of_length_eq_zero e)
  have hw : 0 ≤ wasN D D.length := by
    unfold wasN
    rw [if_neg hlen, show D.getD (D.length - 1) 0 = D[D.length - 1]'(by omega) by simp [List.getD, show D.length - 1 < D.length by omega]]
    exact (hD _ (List.getElem_mem _)).1
  have hok := posK_ok m hD
  refine ⟨?_, ?_, ?_⟩
  · have := gotS_posK m.ok (D := D) hh h5.1 (p := p) (r := 0) (.inl rfl) (by omega) (by show p ≠ 0; omega) D.length
    rw [pai_lst hw (by omega)] at this
    exact this
  · have := gotS_posK m.ok (D := D) hh h5.1 (p := p) (r := 1) (.inr (.inl rfl)) (by omega) (by show p ≠ 1; omega) D.length
    rw [pai_lst hw (by omega)] at this
    exact this
  · by_cases hpe : p = 2 + h.getD 5 0
    · rw [if_pos hpe]
      refine gotS_zero fun x hx => ?_
      unfold amtF
      rw [if_neg]
      rintro ⟨_, a, b⟩
      exact (hok x hx).ne (by rw [a, b]; exact hpe)
    · rw [if_neg hpe]
      by_cases h50 : h.getD 5 0 = 0
      · rw [due_drv h50, gotS_zero]
        · split <;> rfl
        · intro x hx
          unfold amtF
          rw [if_neg]
          rintro ⟨a, _, b⟩
          have := (hok x hx).rcv h hh a.symm
          omega
      · have := gotS_posK m.ok (D := D) hh h5.1 (p := p) (r := 2) (.inr (.inr ⟨rfl, h50⟩)) (by omega) hpe D.length
        rw [pai_lst hw (by omega)] at this
        exact this
theorem gotS_take {s p t : Int} {L : List (List Int)} {k : Nat} (hk : k < L.length) : gotS s p t (L.take (k + 1)) = gotS s p t (L.take k) + amtF s p t L[k] := by
  rw [take_last hk, gotS_app]; simp [gotS]
theorem gotS_most (s p t : Int) {L : List (List Int)} (h : ∀ x ∈ L, -500000000000 ≤ x.getD 4 0 ∧ x.getD 4 0 ≤ 500000000000) (hl : L.length ≤ 144) : -100000000000000 ≤ gotS s p t L ∧ gotS s p t L ≤ 100000000000000 := by
  have := gotS_in s p t L h
  omega
theorem posN_len {T H N : List (List Int)} (m : MadeOk T H N) {D : List Int} (hl : D.length ≤ 6) : (posN T H N D).length ≤ 144 := by
  have h := posK_len T H N D D.length
  have h4 := m.hl
  unfold posN
  have : 6 * H.length * D.length ≤ 6 * 4 * 6 := Nat.mul_le_mul (Nat.mul_le_mul (Nat.le_refl _) h4) hl
  omega
theorem eqi3 {a b c d e f : Int} (h1 : a = d) (h2 : b = e) (h3 : c = f) : eqPs [.int .i64 a, .int .i64 b, .int .i64 c] [.int .i64 d, .int .i64 e, .int .i64 f] = true := by
  subst h1; subst h2; subst h3
  exact (eqPs_rowP (x := [a, b, c]) (y := [a, b, c]) rfl).trans (by simp)
theorem settled_does {T H N : List (List Int)} (m : MadeOk T H N) {D : List Int} (hD : ∀ d ∈ D, 0 ≤ d ∧ d ≤ 1200) (hne : D ≠ []) (hl6 : D.length ≤ 6) {h : List Int} (hh : h ∈ H) :
    Does Tryz.prog 56 [accP T H N, .agg (rowP h), .agg [.list 1 (numP D), .nil], .list 5 ((posN T H N D).map rowP)] (.bool true) := by
  have hD' : ∀ d ∈ D, 0 ≤ d ∧ d ≤ 100000 := fun d hd => by have := hD d hd; omega
  have hok := posK_ok m hD'
  have hQl := posN_len m hl6
  have hset := fun p hp => settle_eq m hD' hne hh (p := p) hp
  have h5 := held_drv m hh
  have hlen : 1 ≤ D.length := by
    cases D with
    | nil => exact absurd rfl hne
    | cons a D => simp
  obtain ⟨w, hw⟩ : ∃ w, wasN D D.length = w := ⟨_, rfl⟩
  have hwD : D[D.length - 1]'(by omega) = w := by
    rw [← hw]; unfold wasN
    rw [if_neg (by omega)]
    simp [List.getD, show D.length - 1 < D.length by omega]
  have hwb := hD _ (List.getElem_mem (show D.length - 1 < D.length by omega))
  rw [hwD] at hwb
  rw [hw] at hset
  have ha : askE T H N w = 0 := made_ask m.ok hwb.1 (by omega)
  have hDu := pDues_does m.t m.h m.n (h.getD 0 0) w
  have u1 : cntH w h = true → staN T H N (h.getD 0 0) w = (h, 0) := sta_is ha hh
  have u2 : cntH w h = false → staN T H N (h.getD 0 0) w = (zero9, 65) := sta_not ha hh
  have hrcv := fun x hx => (hok x hx).rcv h hh
  obtain ⟨Q, hQ⟩ : ∃ Q, posN T H N D = Q := ⟨_, rfl⟩
  rw [hQ] at hQl hok hrcv ⊢
  simp only [hQ] at hset
  obtain ⟨d0, d1, d2, d3, hd4⟩ : ∃ a b c e, dueN T N h w = [a, b, c, e] := by
    unfold dueN dueP; split
    · exact ⟨_, _, _, _, rfl⟩
    · split <;> exact ⟨_, _, _, _, rfl⟩
  unfold lstD at hset
  rw [hd4] at hset
  obtain ⟨cn, hcn⟩ : ∃ c, cntH w h = c := ⟨_, rfl⟩
  rw [hcn] at u1 u2 hset
  have hD1 : cn = true → Does Tryz.prog 36 [accP T H N, .int .i64 (h.getD 0 0), .int .i64 w] (.tup [.agg (rowP [d0, d1, d2, d3]), .int .i64 0]) := fun q => by
    have := hDu
    rw [u1 q] at this
    simp only [stR, if_pos, hd4] at this
    exact this
  have hD2 : cn = false → Does Tryz.prog 36 [accP T H N, .int .i64 (h.getD 0 0), .int .i64 w] (.tup [.agg (rowP [0, 0, 0, 0]), .int .i64 65]) := fun q => by
    have := hDu
    rw [u2 q] at this
    simpa only [stR, show ¬ (65 : Int) = 0 by decide, if_false] using this
  obtain ⟨f0, f1, f2, f3, hf4⟩ : ∃ a b c e : Int, (if cn = true then [d0, d1, d2, d3] else [-1, 0, 0, 0]) = [a, b, c, e] := by cases cn <;> exact ⟨_, _, _, _, rfl⟩
  rw [hf4] at hset
  simp only [List.getD_cons_zero, List.getD_cons_succ] at hset
  clear hDu u1 u2 hd4 hcn ha hw
  obtain ⟨x0, x1, x2, x3, x4, x5, x6, x7, x8, rfl⟩ := list9 (m.h h hh)
  simp only [List.getD_cons_zero, List.getD_cons_succ] at hset h5 hrcv hD1 hD2
  obtain ⟨eT, hT⟩ : ∃ es, T.map rowP = es := ⟨_, rfl⟩
  obtain ⟨eH, hH⟩ : ∃ es, H.map rowP = es := ⟨_, rfl⟩
  obtain ⟨eN, hN⟩ : ∃ es, N.map rowP = es := ⟨_, rfl⟩
  obtain ⟨eD, hDe⟩ : ∃ es, numP D = es := ⟨_, rfl⟩
  obtain ⟨eQ, hQe⟩ : ∃ es, Q.map rowP = es := ⟨_, rfl⟩
  simp only [accP, hT, hH, hN, hDe, hQe] at hD1 hD2 ⊢
  refine does_of (own := inPl) Tryz.func56 rfl Tryz.ntmps56 (congrArg Array.toList Tryz.results56) (fun us w => Tryz.call56 us w) hTT mixed (Nat.le_of_ble_eq_true rfl) ?_
  intro w0 im0 D0 S Cl hS hC ar har
  have har' := har
  obtain ⟨ai, ab, nz, inr, fi, pk, ix, ln, sb, eqi, sl, fits, mn, mx, nt, be, up, fu, mg, mh, ms⟩ := ar
  have F := facts_of har
  clear har
  have hlnD : ln eD = D.length := by rw [F.ln, ← hDe, numP_len]
  have hlnQ : ln eQ = Q.length := by rw [F.ln, ← hQe]; simp
  have hsub : ai .sub (ln eD) 1 = ((D.length - 1 : Nat) : Int) := by rw [hlnD, F.sub _ _ (by omega) (by omega)]; omega
  have hgl : ix eD (ai .sub (ln eD) 1) = some [.int .i64 w] := by
    rw [F.ix _ _ _ hsub, ← hDe, get_nums (show D.length - 1 < D.length by omega), hwD]
  have t2 : nt true = false := F.nt _
  have z0 : ab .neq 0 0 = false := by rw [F.neq]; rfl
  have z1 : ab .eql 0 65 = false := by rw [F.eql]; rfl
  have z2 : ab .eql 65 65 = true := by rw [F.eql]; rfl
  clear hD hD' hne hwD hlen hsub hlnD
  cbv
  rw [hgl]; cbv
  apply share
  case h =>
    intro key
    have hcases : cn = true ∨ cn = false := by cases cn <;> simp
    rcases hcases with hc | hc
    · have q := hD1 hc
      rw [hc] at hf4
      simp only [if_true, List.cons.injEq, and_true] at hf4
      obtain ⟨g0, g1, g2, g3⟩ := hf4
      rw [g0, g1, g2, g3] at q
      refine ⟨_, hC _ _ _ q, ?_⟩; cbv
      rw [z1]; cbv
      rw [z0]; cbv
      refine hS _ _ _ (sem_loopR (fun x : Nat × Int => [sL 3 5 eQ, sP 5 5, sP 10 10, sI 12 x.2, bX 5 32 [cI x0, cI x1, cI x2, cI x3, cI x4, cI x5, cI x6, cI x7, cI x8], bX 10 66 [cI f0, cI f1, cI f2, cI f3]]) (fun x => x.1 ≤ 6 ∧ x.2 = (x.1 : Int) + 2) (fun x => 6 - x.1) (0, 2) (fun t => t) ⟨by cbv, by cbv; try (repeat (first | exact rfl | exact trivial | refine ⟨?_, ?_⟩))⟩ ?_ ?_)
      · exact ⟨by simp, rfl⟩
      exact key
    · have q := hD2 hc
      rw [hc] at hf4
      simp only [Bool.false_eq_true, if_false, List.cons.injEq, and_true] at hf4
      obtain ⟨g0, g1, g2, g3⟩ := hf4
      refine ⟨_, hC _ _ _ q, ?_⟩; cbv
      rw [z2]; cbv
      refine hS _ _ _ (sem_loopR (fun x : Nat × Int => [sL 3 5 eQ, sP 5 5, sP 10 10, sI 12 x.2, bX 5 32 [cI x0, cI x1, cI x2, cI x3, cI x4, cI x5, cI x6, cI x7, cI x8], bX 10 66 [cI f0, cI f1, cI f2, cI f3]]) (fun x => x.1 ≤ 6 ∧ x.2 = (x.1 : Int) + 2) (fun x => 6 - x.1) (0, 2) (fun t => t) ⟨by cbv, by cbv; simp only [← g0, ← g1, ← g2, ← g3, and_self]⟩ ?_ ?_)
      · exact ⟨by simp, rfl⟩
      exact key
  clear hD1 hD2 hf4
  rintro ⟨j, p⟩ ⟨hj, hp⟩
  dsimp only at hj hp
  have hpadd : ai .add p 1 = ((j + 1 : Nat) : Int) + 2 := by rw [F.add p 1 (by omega) (by omega), hp]; omega
  by_cases hj6 : j < 6
  rotate_left
  · have hb : ab .leq p 7 = false := by rw [F.leq, decide_eq_false_iff_not]; omega
    refine sem_of (X := ⟨_, TT, ⟨0, 112, inPl⟩⟩) har' hTT mixed ?_
    intro S1 Cl1 hS1 hC1
    cbv
    rw [hb]; cbv
    exact PLe.refl _
  have hb : ab .leq p 7 = true := by rw [F.leq]; exact decide_eq_true (by omega)
  obtain ⟨s0, s1, s2⟩ := hset p (by omega)
  have a5 : ai .add 2 x5 = 2 + x5 := F.add _ _ (by omega) (by omega)
  refine sem_of (X := ⟨_, TT, ⟨0, 112, inPl⟩⟩) har' hTT mixed ?_
  intro S1 Cl1 hS1 hC1
  cbv
  rw [hb]; cbv
  refine hS1 _ _ _ (sem_loopR (fun y : Nat × Int × Int × Int × Int => [sL 3 5 eQ, sP 5 5, sP 10 10, sI 12 p, sP 13 13, sI 14 y.2.1, bX 5 32 [cI x0, cI x1, cI x2, cI x3, cI x4, cI x5, cI x6, cI x7, cI x8], bX 10 66 [cI f0, cI f1, cI f2, cI f3], bX 13 152 [cI y.2.2.1, cI y.2.2.2.1, cI y.2.2.2.2]]) (fun y => y.1 ≤ Q.length ∧ y.2.1 = (y.1 : Int) ∧ y.2.2.1 = gotS x0 p 0 (Q.take y.1) ∧ y.2.2.2.1 = gotS x0 p 1 (Q.take y.1) ∧ y.2.2.2.2 = gotS x0 p (2 + x5) (Q.take y.1)) (fun y => Q.length - y.1) (0, 0, 0, 0, 0) (fun t => t) ⟨by cbv, by cbv; try (repeat (first | exact rfl | exact trivial | refine ⟨?_, ?_⟩))⟩ ?_ ?_)
  · exact ⟨by simp, rfl, rfl, rfl, rfl⟩
  rintro ⟨k, i, g0, g1, g2⟩ ⟨hk, hi, h0, h1, h2⟩
  dsimp only at hk hi h0 h1 h2
  have hadd : ai .add i 1 = ((k + 1 : Nat) : Int) := by rw [F.add i 1 (by omega) (by omega), hi]; simp
  by_cases hlt : k < Q.length
  · have hb1 : ab .lss i (ln eQ) = true := by rw [hlnQ, F.lss, hi]; simpa using hlt
    have hg : ix eQ i = some (rowP Q[k]) := by rw [F.ix _ i k hi, ← hQe]; exact get_rows hlt
    have hx := hok _ (List.getElem_mem hlt)
    have hr := hrcv _ (List.getElem_mem hlt)
    have n0 := gotS_take (s := x0) (p := p) (t := 0) hlt
    have n1 := gotS_take (s := x0) (p := p) (t := 1) hlt
    have n2 := gotS_take (s := x0) (p := p) (t := 2 + x5) hlt
    have b0 := gotS_most x0 p 0 (L := Q.take k) (fun x hx => (hok x (List.mem_of_mem_take hx)).amt.2) (by rw [List.length_take]; exact Nat.le_trans (Nat.min_le_right _ _) hQl)
    have b1 := gotS_most x0 p 1 (L := Q.take k) (fun x hx => (hok x (List.mem_of_mem_take hx)).amt.2) (by rw [List.length_take]; exact Nat.le_trans (Nat.min_le_right _ _) hQl)
    have b2 := gotS_most x0 p (2 + x5) (L := Q.take k) (fun x hx => (hok x (List.mem_of_mem_take hx)).amt.2) (by rw [List.length_take]; exact Nat.le_trans (Nat.min_le_right _ _) hQl)
    rw [← h0] at n0 b0
    rw [← h1] at n1 b1
    rw [← h2] at n2 b2
    obtain ⟨y0, y1, y2, y3, y4, hy⟩ := list5 hx.len
    have hya := hx.amt.2
    rw [hy] at hg hr n0 n1 n2 hya
    simp only [amtF, List.getD_cons_zero, List.getD_cons_succ] at hr n0 n1 n2 hya
    have a0 : ai .add g0 y4 = g0 + y4 := F.add _ _ (by omega) (by omega)
    have a1 : ai .add g1 y4 = g1 + y4 := F.add _ _ (by omega) (by omega)
    have a2 : ai .add g2 y4 = g2 + y4 := F.add _ _ (by omega) (by omega)
    have e1 : ab .neq y1 x0 = !decide (y1 = x0) := by rw [F.neq]; by_cases h : y1 = x0 <;> simp [h]
    have e2 : ab .neq y2 p = !decide (y2 = p) := by rw [F.neq]; by_cases h : y2 = p <;> simp [h]
    have no : ¬ (y1 = x0 ∧ y2 = p) → g0 = gotS x0 p 0 (Q.take (k + 1)) ∧ g1 = gotS x0 p 1 (Q.take (k + 1)) ∧ g2 = gotS x0 p (2 + x5) (Q.take (k + 1)) := fun q => by
      rw [n0, n1, n2, if_neg (fun r => q ⟨r.1, r.2.1⟩), if_neg (fun r => q ⟨r.1, r.2.1⟩), if_neg (fun r => q ⟨r.1, r.2.1⟩)]
      exact ⟨by omega, by omega, by omega⟩
    clear b0 b1 b2 hya hx h0 h1 h2
    by_cases c1 : y1 = x0
    rotate_left
    · obtain ⟨r0, r1, r2⟩ := no (fun q => c1 q.1)
      rw [decide_eq_false c1] at e1
      clear n0 n1 n2 no a0 a1 a2 e2 hr hy
      refine sem_of (X := ⟨_, TT, ⟨0, 112, inPl⟩⟩) har' hTT mixed ?_
      intro S2 Cl2 hS2 hC2
      cbv
      rw [hb1]; cbv
      repeat (rw [hg]; cbv)
      rw [e1]; cbv
      exact ⟨(k + 1, ai .add i 1, g0, g1, g2), (fun t => t), ⟨hlt, hadd, r0, r1, r2⟩, by dsimp only; omega, ⟨by cbv, by cbv; try (repeat (first | exact rfl | exact trivial | refine ⟨?_, ?_⟩))⟩⟩
    rw [decide_eq_true c1] at e1
    by_cases c2 : y2 = p
    rotate_left
    · obtain ⟨r0, r1, r2⟩ := no (fun q => c2 q.2)
      rw [decide_eq_false c2] at e2
      clear n0 n1 n2 no a0 a1 a2 hr hy
      refine sem_of (X := ⟨_, TT, ⟨0, 112, inPl⟩⟩) har' hTT mixed ?_
      intro S2 Cl2 hS2 hC2
      cbv
      rw [hb1]; cbv
      repeat (rw [hg]; cbv)
      rw [e1]; cbv
      rw [e2]; cbv
      exact ⟨(k + 1, ai .add i 1, g0, g1, g2), (fun t => t), ⟨hlt, hadd, r0, r1, r2⟩, by dsimp only; omega, ⟨by cbv, by cbv; try (repeat (first | exact rfl | exact trivial | refine ⟨?_, ?_⟩))⟩⟩
    rw [decide_eq_true c2] at e2
    have eq : ∀ a b : Int, a = b → ab .eql a b = true := fun a b h => by rw [F.eql, h]; simp
    have ne : ∀ a b : Int, a ≠ b → ab .eql a b = false := fun a b h => by rw [F.eql]; simpa using h
    rcases hr c1.symm with c3 | c3 | ⟨c3, c5⟩
    · have z3 := eq y3 0 c3
      have r0 : ai .add g0 y4 = gotS x0 p 0 (Q.take (k + 1)) := by rw [n0, if_pos ⟨c1, c2, c3⟩]; exact a0
      have r1 : g1 = gotS x0 p 1 (Q.take (k + 1)) := by rw [n1, if_neg (by omega)]; omega
      have r2 : g2 = gotS x0 p (2 + x5) (Q.take (k + 1)) := by rw [n2, if_neg (by omega)]; omega
      clear n0 n1 n2 no a0 a1 a2 hr hy eq ne
      refine sem_of (X := ⟨_, TT, ⟨0, 112, inPl⟩⟩) har' hTT mixed ?_
      intro S2 Cl2 hS2 hC2
      cbv
      rw [hb1]; cbv
      repeat (rw [hg]; cbv)
      rw [e1]; cbv
      rw [e2]; cbv
      rw [z3]; cbv
      exact ⟨(k + 1, ai .add i 1, ai .add g0 y4, g1, g2), (fun t => t), ⟨hlt, hadd, r0, r1, r2⟩, by dsimp only; omega, ⟨by cbv, by cbv; try (repeat (first | exact rfl | exact trivial | refine ⟨?_, ?_⟩))⟩⟩
    · have z3 := ne y3 0 (by omega)
      have z4 := eq y3 1 c3
      have r0 : g0 = gotS x0 p 0 (Q.take (k + 1)) := by rw [n0, if_neg (by omega)]; omega
      have r1 : ai .add g1 y4 = gotS x0 p 1 (Q.take (k + 1)) := by rw [n1, if_pos ⟨c1, c2, c3⟩]; exact a1
      have r2 : g2 = gotS x0 p (2 + x5) (Q.take (k + 1)) := by rw [n2, if_neg (by omega)]; omega
      clear n0 n1 n2 no a0 a1 a2 hr hy eq ne
      refine sem_of (X := ⟨_, TT, ⟨0, 112, inPl⟩⟩) har' hTT mixed ?_
      intro S2 Cl2 hS2 hC2
      cbv
      rw [hb1]; cbv
      repeat (rw [hg]; cbv)
      rw [e1]; cbv
      rw [e2]; cbv
      rw [z3]; cbv
      rw [z4]; cbv
      exact ⟨(k + 1, ai .add i 1, g0, ai .add g1 y4, g2), (fun t => t), ⟨hlt, hadd, r0, r1, r2⟩, by dsimp only; omega, ⟨by cbv, by cbv; try (repeat (first | exact rfl | exact trivial | refine ⟨?_, ?_⟩))⟩⟩
    · have z3 := ne y3 0 (by omega)
      have z4 := ne y3 1 (by omega)
      have z5 := eq y3 (ai .add 2 x5) (by rw [a5]; exact c3)
      have r0 : g0 = gotS x0 p 0 (Q.take (k + 1)) := by rw [n0, if_neg (by omega)]; omega
      have r1 : g1 = gotS x0 p 1 (Q.take (k + 1)) := by rw [n1, if_neg (by omega)]; omega
      have r2 : ai .add g2 y4 = gotS x0 p (2 + x5) (Q.take (k + 1)) := by rw [n2, if_pos ⟨c1, c2, c3⟩]; exact a2
      clear n0 n1 n2 no a0 a1 a2 hr hy eq ne
      refine sem_of (X := ⟨_, TT, ⟨0, 112, inPl⟩⟩) har' hTT mixed ?_
      intro S2 Cl2 hS2 hC2
      cbv
      rw [hb1]; cbv
      repeat (rw [hg]; cbv)
      rw [e1]; cbv
      rw [e2]; cbv
      rw [z3]; cbv
      rw [z4]; cbv
      rw [z5]; cbv
      exact ⟨(k + 1, ai .add i 1, g0, g1, ai .add g2 y4), (fun t => t), ⟨hlt, hadd, r0, r1, r2⟩, by dsimp only; omega, ⟨by cbv, by cbv; try (repeat (first | exact rfl | exact trivial | refine ⟨?_, ?_⟩))⟩⟩
  have hb1 : ab .lss i (ln eQ) = false := by rw [hlnQ, F.lss, hi]; simpa using hlt
  rw [List.take_of_length_le (by omega)] at h0 h1 h2
  rw [← h0] at s0
  rw [← h1] at s1
  rw [← h2] at s2
  have ed : ab .eql f0 p = decide (f0 = p) := by rw [F.eql]; by_cases h : f0 = p <;> simp [h]
  have ep : ab .eql p (ai .add 2 x5) = decide (p = 2 + x5) := by rw [F.eql, a5]; by_cases h : p = 2 + x5 <;> simp [h]
  have r00 : ab .eql f0 p = false → ab .eql p (ai .add 2 x5) = false → eqi [.int .i64 g0, .int .i64 g1, .int .i64 g2] [.int .i64 0, .int .i64 0, .int .i64 0] = true := fun a b => by
    have a := of_decide_eq_false (ed.symm.trans a); have b := of_decide_eq_false (ep.symm.trans b)
    rw [if_neg a] at s0 s1; rw [if_neg b, if_neg a] at s2
    rw [F.eqi]; exact eqi3 s0 s1 s2
  have r01 : ab .eql f0 p = false → ab .eql p (ai .add 2 x5) = true → eqi [.int .i64 g0, .int .i64 g1, .int .i64 g2] [.int .i64 0, .int .i64 0, .int .i64 0] = true := fun a b => by
    have a := of_decide_eq_false (ed.symm.trans a); have b := of_decide_eq_true (ep.symm.trans b)
    rw [if_neg a] at s0 s1; rw [if_pos b] at s2
    rw [F.eqi]; exact eqi3 s0 s1 s2
  have r10 : ab .eql f0 p = true → ab .eql p (ai .add 2 x5) = false → eqi [.int .i64 g0, .int .i64 g1, .int .i64 g2] [.int .i64 f3, .int .i64 f1, .int .i64 f2] = true := fun a b => by
    have a := of_decide_eq_true (ed.symm.trans a); have b := of_decide_eq_false (ep.symm.trans b)
    rw [if_pos a] at s0 s1; rw [if_neg b, if_pos a] at s2
    rw [F.eqi]; exact eqi3 s0 s1 s2
  have r11 : ab .eql f0 p = true → ab .eql p (ai .add 2 x5) = true → eqi [.int .i64 g0, .int .i64 g1, .int .i64 g2] [.int .i64 f3, .int .i64 f1, .int .i64 0] = true := fun a b => by
    have a := of_decide_eq_true (ed.symm.trans a); have b := of_decide_eq_true (ep.symm.trans b)
    rw [if_pos a] at s0 s1; rw [if_pos b] at s2
    rw [F.eqi]; exact eqi3 s0 s1 s2
  clear s0 s1 s2 h0 h1 h2 ed ep hadd hrcv hset
  refine sem_of (X := ⟨_, TT, ⟨0, 112, inPl⟩⟩) har' hTT mixed ?_
  intro S2 Cl2 hS2 hC2
  cbv
  rw [hb1]; cbv
  cases c1 : ab .eql f0 p
  · have r0 := r00 c1
    have r1 := r01 c1
    cbv
    cases c2 : ab .eql p (ai .add 2 x5)
    · have r := r0 c2
      cbv
      rw [r, t2]; cbv
      exact ⟨(j + 1, ai .add p 1), (fun t => t), ⟨hj6, hpadd⟩, by dsimp only; omega, ⟨by cbv, by cbv; try (repeat (first | exact rfl | exact trivial | refine ⟨?_, ?_⟩))⟩⟩
    · have r := r1 c2
      cbv
      rw [r, t2]; cbv
      exact ⟨(j + 1, ai .add p 1), (fun t => t), ⟨hj6, hpadd⟩, by dsimp only; omega, ⟨by cbv, by cbv; try (repeat (first | exact rfl | exact trivial | refine ⟨?_, ?_⟩))⟩⟩
  · have r0 := r10 c1
    have r1 := r11 c1
    cbv
    cases c2 : ab .eql p (ai .add 2 x5)
    · have r := r0 c2
      cbv
      rw [r, t2]; cbv
      exact ⟨(j + 1, ai .add p 1), (fun t => t), ⟨hj6, hpadd⟩, by dsimp only; omega, ⟨by cbv, by cbv; try (repeat (first | exact rfl | exact trivial | refine ⟨?_, ?_⟩))⟩⟩
    · have r := r1 c2
      cbv
      rw [r, t2]; cbv
      exact ⟨(j + 1, ai .add p 1), (fun t => t), ⟨hj6, hpadd⟩, by dsimp only; omega, ⟨by cbv, by cbv; try (repeat (first | exact rfl | exact trivial | refine ⟨?_, ?_⟩))⟩⟩
theorem pBalance_does {T H N : List (List Int)} (h1 : ∀ x ∈ T, x.length = 24) (h2 : ∀ x ∈ H, x.length = 9) (h3 : ∀ x ∈ N, x.length = 7) (D : List Int) (p : Int) :
    Does Tryz.prog 40 [accP T H N, .list 1 (numP D), .int .i64 p] (.tup [.int .i64 (balN T H N D p), .int .i64 (balE T H N D p)]) := by
  have hpo := pPosts_does h1 h2 h3 D
  rw [pstQ_eq] at hpo
  have hin := checkParty_does p
  have hOr := orE_does [pstE T H N D, err (inB p 0 101) 68]
  rw [show orE [pstE T H N D, err (inB p 0 101) 68] = balE T H N D p by
    unfold balE err orE
    by_cases h : pstE T H N D = 0
    · rw [if_pos h, if_pos h]; cases inB p 0 101 <;> rfl
    · rw [if_neg h, if_neg h]] at hOr
  have hL5 : ∀ x ∈ pstL T H N D, x.length = 5 := pstL_five
  have hLa := pstL_amt (H := H) (N := N) h1 (D := D)
  have hLl := pstL_len T H N D
  obtain ⟨V, hV⟩ : ∃ V, PV.tup [.int .i64 (balN T H N D p), .int .i64 (balE T H N D p)] = V := ⟨_, rfl⟩
  rw [hV]
  unfold balN at hV
  obtain ⟨bE, hbe⟩ : ∃ e, balE T H N D p = e := ⟨_, rfl⟩
  obtain ⟨e, he⟩ : ∃ e, pstE T H N D = e := ⟨_, rfl⟩
  obtain ⟨L, hL⟩ : ∃ e, pstL T H N D = e := ⟨_, rfl⟩
  obtain ⟨ib, hib⟩ : ∃ e, err (inB p 0 101) 68 = e := ⟨_, rfl⟩
  rw [hbe, hL] at hV
  rw [he, hL] at hpo
  rw [hib] at hin
  rw [he, hib, hbe] at hOr
  rw [hL] at hL5 hLa hLl
  clear he hL hib hbe
  refine does_of (own := inPl) Tryz.func40 rfl Tryz.ntmps40 (congrArg Array.toList Tryz.results40) (fun us w => Tryz.call40 us w) hTT mixed (Nat.le_of_ble_eq_true rfl) ?_
  intro w0 im0 D0 S Cl hS hC ar har
  have har' := har
  obtain ⟨ai, ab, nz, inr, fi, pk, ix, ln, sb, eqi, sl, fits, mn, mx, nt, be, up, fu, mg, mh, ms⟩ := ar
  have F := facts_of har
  clear har
  obtain ⟨eT, hT⟩ : ∃ es, T.map rowP = es := ⟨_, rfl⟩
  obtain ⟨eH, hH⟩ : ∃ es, H.map rowP = es := ⟨_, rfl⟩
  obtain ⟨eN, hN⟩ : ∃ es, N.map rowP = es := ⟨_, rfl⟩
  obtain ⟨eD, hED⟩ : ∃ es, numP D = es := ⟨_, rfl⟩
  obtain ⟨eL, hEL⟩ : ∃ es, L.map rowP = es := ⟨_, rfl⟩
  simp only [accP, hT, hH, hN, hED, hEL] at hpo ⊢
  have hlnL : ln eL = L.length := by rw [F.ln, ← hEL]; simp
  cbv
  refine ⟨_, hC _ _ _ hpo, ?_⟩; cbv
  refine ⟨_, hC _ _ _ hin, ?_⟩; cbv
  refine ⟨_, hC _ _ _ hOr, ?_⟩; cbv
  cases c0 : ab .neq bE 0
  rotate_left
  · have h0 : ¬ bE = 0 := by rw [F.neq] at c0; simpa using c0
    rw [if_neg h0] at hV
    cbv
    subst hV
    exact PLe.of_eq rfl
  have h0 : bE = 0 := by rw [F.neq] at c0; simpa using c0
  rw [if_pos h0, h0] at hV
  cbv
  refine hS _ _ _ (sem_loop (fun x : Nat × Int × Int => [sI 2 p, sI 11 x.2.2, sL 28 5 eL, sI 29 (ln eL), sI 30 x.2.1]) (fun x => x.1 ≤ L.length ∧ x.2.1 = (x.1 : Int) ∧ x.2.2 = balK p (L.take x.1) ∧ -1000000000000 * (x.1 : Int) ≤ x.2.2 ∧ x.2.2 ≤ 1000000000000 * (x.1 : Int)) (fun x => L.length - x.1) (fun t => t) (0, 0, 0) (fun t => t) ⟨by rfl, by cbv; try (repeat (first | exact rfl | exact trivial | refine ⟨?_, ?_⟩))⟩ ?_ ?_)
  · exact ⟨by simp, rfl, rfl, by simp, by simp⟩
  rintro ⟨k, i, n⟩ ⟨hk, hi, hn, hlo, hhi⟩
  dsimp only at hk hi hn hlo hhi
  have hadd : ai .add i 1 = ((k + 1 : Nat) : Int) := by rw [F.add i 1 (by omega) (by omega), hi]; simp
  by_cases hlt : k < L.length
  · have hb1 : ab .lss i (ln eL) = true := by rw [hlnL, F.lss, hi]; simpa using hlt
    have hg : ix eL i = some (rowP L[k]) := by rw [F.ix _ i k hi, ← hEL]; exact get_rows hlt
    have hnext := balK_take (p := p) hlt
    have hamt := hLa _ (List.getElem_mem hlt)
    obtain ⟨x0, x1, x2, x3, x4, hx⟩ := list5 (hL5 _ (List.getElem_mem hlt))
    rw [hx] at hg hnext hamt
    simp only [balF, List.getD_cons_succ, List.getD_cons_zero] at hnext hamt
    rw [← hn, ← F.eql, ← F.eql] at hnext
    have hA : ai .add n x4 = n + x4 := F.add _ _ (by omega) (by omega)
    have hB : ai .sub n x4 = n - x4 := F.sub _ _ (by omega) (by omega)
    have hAB : ai .sub (ai .add n x4) x4 = n + x4 - x4 := by rw [hA]; exact F.sub _ _ (by omega) (by omega)
    have hff : ab .eql x3 p = false → ab .eql x2 p = false → n = balK p (L.take (k + 1)) := fun a b => by rw [hnext, a, b]; simp
    have htf : ab .eql x3 p = true → ab .eql x2 p = false → ai .add n x4 = balK p (L.take (k + 1)) := fun a b => by rw [hnext, a, b, hA]; simp
    have hft : ab .eql x3 p = false → ab .eql x2 p = true → ai .sub n x4 = balK p (L.take (k + 1)) := fun a b => by rw [hnext, a, b, hB]; simp
    have htt : ab .eql x3 p = true → ab .eql x2 p = true → ai .sub (ai .add n x4) x4 = balK p (L.take (k + 1)) := fun a b => by rw [hnext, a, b, hAB]; simp
    have b1 : -1000000000000 * ((k + 1 : Nat) : Int) ≤ n ∧ n ≤ 1000000000000 * ((k + 1 : Nat) : Int) := by omega
    have b2 : -1000000000000 * ((k + 1 : Nat) : Int) ≤ ai .add n x4 ∧ ai .add n x4 ≤ 1000000000000 * ((k + 1 : Nat) : Int) := by rw [hA]; omega
    have b3 : -1000000000000 * ((k + 1 : Nat) : Int) ≤ ai .sub n x4 ∧ ai .sub n x4 ≤ 1000000000000 * ((k + 1 : Nat) : Int) := by rw [hB]; omega
    have b4 : -1000000000000 * ((k + 1 : Nat) : Int) ≤ ai .sub (ai .add n x4) x4 ∧ ai .sub (ai .add n x4) x4 ≤ 1000000000000 * ((k + 1 : Nat) : Int) := by rw [hAB]; omega
    refine sem_of (X := ⟨_, TT, ⟨0, 52, inPl⟩⟩) har' hTT mixed ?_
    intro S1 Cl1 hS1 hC1
    cbv
    rw [hb1]; cbv
    repeat (rw [hg]; cbv)
    cases c1 : ab .eql x3 p
    · cbv
      repeat (rw [hg]; cbv)
      cases c2 : ab .eql x2 p
      · cbv
        exact ⟨(k + 1, ai .add i 1, n), ⟨hlt, hadd, hff c1 c2, b1.1, b1.2⟩, by dsimp only; omega, ⟨by rfl, by cbv; try (repeat (first | exact rfl | exact trivial | refine ⟨?_, ?_⟩))⟩⟩
      · cbv
        repeat (rw [hg]; cbv)
        exact ⟨(k + 1, ai .add i 1, ai .sub n x4), ⟨hlt, hadd, hft c1 c2, b3.1, b3.2⟩, by dsimp only; omega, ⟨by rfl, by cbv; try (repeat (first | exact rfl | exact trivial | refine ⟨?_, ?_⟩))⟩⟩
    · cbv
      repeat (rw [hg]; cbv)
      cases c2 : ab .eql x2 p
      · cbv
        exact ⟨(k + 1, ai .add i 1, ai .add n x4), ⟨hlt, hadd, htf c1 c2, b2.1, b2.2⟩, by dsimp only; omega, ⟨by rfl, by cbv; try (repeat (first | exact rfl | exact trivial | refine ⟨?_, ?_⟩))⟩⟩
      · cbv
        repeat (rw [hg]; cbv)
        exact ⟨(k + 1, ai .add i 1, ai .sub (ai .add n x4) x4), ⟨hlt, hadd, htt c1 c2, b4.1, b4.2⟩, by dsimp only; omega, ⟨by rfl, by cbv; try (repeat (first | exact rfl | exact trivial | refine ⟨?_, ?_⟩))⟩⟩
  · have hb1 : ab .lss i (ln eL) = false := by rw [hlnL, F.lss, hi]; simpa using hlt
    refine sem_of (X := ⟨_, TT, ⟨0, 52, inPl⟩⟩) har' hTT mixed ?_
    intro S1 Cl1 hS1 hC1
    cbv
    rw [hb1]; cbv
    subst hV
    refine PLe.of_eq ?_
    rw [hn, List.take_of_length_le (by omega)]
theorem equal_does (a b : List (List Int)) (ha : ∀ x ∈ a, x.length = 5) (hb : ∀ x ∈ b, x.length = 5) (hsm : a.length ≤ 1000000000) :
    Does Tryz.prog 108 [.list 5 (a.map rowP), .list 5 (b.map rowP)] (.bool (a == b)) := by
  obtain ⟨V, hV⟩ : ∃ V, PV.bool (a == b) = V := ⟨_, rfl⟩
  rw [hV]
  refine does_of (own := inPl) Tryz.func108 rfl Tryz.ntmps108 (congrArg Array.toList Tryz.results108) (fun us w => Tryz.call108 us w) hTT mixed (Nat.le_of_ble_eq_true rfl) ?_
  intro w0 im0 D0 S Cl hS hC ar har
  have har' := har
  obtain ⟨ai, ab, nz, inr, fi, pk, ix, ln, sb, eqi, sl, fits, mn, mx, nt, be, up, fu, mg, mh, ms⟩ := ar
  have F := facts_of har
  clear har
  obtain ⟨eA, hA⟩ : ∃ es, a.map rowP = es := ⟨_, rfl⟩
  obtain ⟨eB, hB⟩ : ∃ es, b.map rowP = es := ⟨_, rfl⟩
  have hlA : ln eA = a.length := by rw [F.ln, ← hA]; simp
  have hlB : ln eB = b.length := by rw [F.ln, ← hB]; simp
  rw [hA, hB]
  cbv
  by_cases hlen : a.length = b.length
  rotate_left
  · have c0 : ab .neq (ln eA) (ln eB) = true := by rw [F.neq, hlA, hlB]; exact bne_iff_ne.2 fun h => hlen (Int.ofNat.inj h)
    rw [c0]; cbv
    subst hV
    refine PLe.of_eq ?_
    congr 1
    exact (Bool.eq_false_iff.2 fun he => hlen (by rw [eq_of_beq he])).symm
  have c0 : ab .neq (ln eA) (ln eB) = false := by rw [F.neq, hlA, hlB, hlen]; simp
  rw [c0]; cbv
  refine hS _ _ _ (sem_loop (fun x : Nat × Int => [sL 0 5 eA, sL 1 5 eB, sI 12 (ln eA), sI 13 x.2]) (fun x => x.1 ≤ a.length ∧ x.2 = (x.1 : Int) ∧ a.take x.1 = b.take x.1) (fun x => a.length - x.1) (fun t => t) (0, 0) (fun t => t) ⟨by rfl, by cbv; try (repeat (first | exact rfl | exact trivial | refine ⟨?_, ?_⟩))⟩ ?_ ?_)
  · exact ⟨by simp, rfl, by simp⟩
  rintro ⟨k, i⟩ ⟨hk, hi, hs⟩
  dsimp only at hk hi hs
  have hadd : ai .add i 1 = ((k + 1 : Nat) : Int) := by rw [F.add i 1 (by omega) (by omega), hi]; simp
  by_cases hlt : k < a.length
  · have hb1 : ab .lss i (ln eA) = true := by rw [hlA, F.lss, hi]; simpa using hlt
    have hltb : k < b.length := by omega
    have hgA : ix eA i = some (rowP a[k]) := by rw [F.ix _ i k hi, ← hA]; exact get_rows hlt
    have hgB : ix eB i = some (rowP b[k]) := by rw [F.ix _ i k hi, ← hB]; exact get_rows hltb
    have hq : eqi (rowP a[k]) (rowP b[k]) = (a[k] == b[k]) := by rw [F.eqi, eqPs_rowP (by rw [ha _ (List.getElem_mem hlt), hb _ (List.getElem_mem hltb)])]
    have hyes : (a[k] == b[k]) = true → a.take (k + 1) = b.take (k + 1) := fun h => by rw [take_last hlt, take_last hltb, hs, eq_of_beq h]
    have hno : (a[k] == b[k]) = false → V = .bool false := fun h => by
      rw [← hV]
      congr 1
      refine Bool.eq_false_iff.2 fun he => ?_
      have he := eq_of_beq he
      subst he
      simp at h
    obtain ⟨x0, x1, x2, x3, x4, hx⟩ := list5 (ha _ (List.getElem_mem hlt))
    obtain ⟨y0, y1, y2, y3, y4, hy⟩ := list5 (hb _ (List.getElem_mem hltb))
    obtain ⟨s', hs'⟩ : ∃ s', (a[k] == b[k]) = s' := ⟨_, rfl⟩
    rw [hs'] at hq hyes hno
    rw [hx] at hgA hq
    rw [hy] at hgB hq
    have hq : eqi [.int .i64 x0, .int .i64 x1, .int .i64 x2, .int .i64 x3, .int .i64 x4] [.int .i64 y0, .int .i64 y1, .int .i64 y2, .int .i64 y3, .int .i64 y4] = s' := hq
    refine sem_of (X := ⟨_, TT, ⟨0, 26, inPl⟩⟩) har' hTT mixed ?_
    intro S1 Cl1 hS1 hC1
    cbv
    rw [hb1]; cbv
    repeat (rw [hgA]; cbv)
    repeat (rw [hgB]; cbv)
    rw [hq, F.nt]
    cases s'
    · cbv
      rw [hno rfl]
      exact PLe.refl _
    · cbv
      exact ⟨(k + 1, ai .add i 1), ⟨hlt, hadd, hyes rfl⟩, by dsimp only; omega, ⟨by rfl, by cbv; try (repeat (first | exact rfl | exact trivial | refine ⟨?_, ?_⟩))⟩⟩
  · have hb1 : ab .lss i (ln eA) = false := by rw [hlA, F.lss, hi]; simpa using hlt
    have hkE : k = a.length := by omega
    have hab : a = b := by rw [hkE, List.take_length, hlen, List.take_length] at hs; exact hs
    refine sem_of (X := ⟨_, TT, ⟨0, 26, inPl⟩⟩) har' hTT mixed ?_
    intro S1 Cl1 hS1 hC1
    cbv
    rw [hb1]; cbv
    rw [← hV, hab]
    exact PLe.of_eq (by simp)
theorem pCheckPosts_does {T H N : List (List Int)} (h1 : ∀ x ∈ T, x.length = 24) (h2 : ∀ x ∈ H, x.length = 9) (h3 : ∀ x ∈ N, x.length = 7) (D : List Int) (l : List (List Int)) (hl : ∀ x ∈ l, x.length = 5) :
    Does Tryz.prog 43 [accP T H N, .list 1 (numP D), .list 5 (l.map rowP)] (.int .i64 (cpsE T H N D l)) := by
  have hpo := pPosts_does h1 h2 h3 D
  rw [pstQ_eq] at hpo
  have hsa := equal_does (pstL T H N D) l pstL_five hl (by have := pstL_len T H N D; omega)
  have hun := unless_does (pstL T H N D == l) 67
  have hOr := orE_does [pstE T H N D, err (pstL T H N D == l) 67]
  have hres : orE [pstE T H N D, err (pstL T H N D == l) 67] = cpsE T H N D l := by
    unfold cpsE err orE
    by_cases h : pstE T H N D = 0
    · rw [if_pos h, if_pos h]; cases (pstL T H N D == l) <;> rfl
    · rw [if_neg h, if_neg h]
  rw [hres] at hOr
  generalize cpsE T H N D l = V at *
  generalize pstE T H N D = e at *
  generalize hsb : (pstL T H N D == l) = sb' at *
  clear hsb hres
  generalize err sb' 67 = e9 at *
  refine does_of (own := inPl) Tryz.func43 rfl Tryz.ntmps43 (congrArg Array.toList Tryz.results43) (fun us w => Tryz.call43 us w) hTT mixed (Nat.le_of_ble_eq_true rfl) ?_
  intro w0 im0 D0 S Cl hS hC ar har
  have har' := har
  obtain ⟨ai, ab, nz, inr, fi, pk, ix, ln, sb, eqi, sl, fits, mn, mx, nt, be, up, fu, mg, mh, ms⟩ := ar
  have F := facts_of har
  clear har
  obtain ⟨eT, hT⟩ : ∃ es, T.map rowP = es := ⟨_, rfl⟩
  obtain ⟨eH, hH⟩ : ∃ es, H.map rowP = es := ⟨_, rfl⟩
  obtain ⟨eN, hN⟩ : ∃ es, N.map rowP = es := ⟨_, rfl⟩
  obtain ⟨eD, hED⟩ : ∃ es, numP D = es := ⟨_, rfl⟩
  obtain ⟨eL, hEL⟩ : ∃ es, (pstL T H N D).map rowP = es := ⟨_, rfl⟩
  obtain ⟨el, hel⟩ : ∃ es, l.map rowP = es := ⟨_, rfl⟩
  simp only [accP, hT, hH, hN, hED, hEL, hel] at hpo hsa ⊢
  cbv
  refine ⟨_, hC _ _ _ hpo, ?_⟩; cbv
  refine ⟨_, hC _ _ _ hsa, ?_⟩; cbv
  refine ⟨_, hC _ _ _ hun, ?_⟩; cbv
  refine ⟨_, hC _ _ _ hOr, ?_⟩; cbv
  exact PLe.refl _
theorem finePaid_does (hs : Does Tryz.prog 11 [] (.bool true)) {eA eB eC : List (List PV)} {T H N : List (List Int)} (m : MadeOk T H N)
    (hMd : Does Tryz.prog 53 [.agg [.list 6 eA, .list 7 eB, .list 6 eC]] (accP T H N)) (l : List Int) :
    Does Tryz.prog 8 [.agg [.list 6 eA, .list 7 eB, .list 6 eC], .list 1 (numP l)] (.bool true) := by
  obtain ⟨D, hD⟩ : ∃ D, dysN l = D := ⟨_, rfl⟩
  have uD := days_does l
  obtain ⟨dok, dris, din, dlen⟩ := dysN_ok l
  rw [hD] at uD dok dris din dlen
  have din' : ∀ d ∈ D, 0 ≤ d ∧ d ≤ 100000 := fun d hd => by have := din d hd; omega
  have hE : pstE T H N D = 0 := by
    unfold pstE
    rw [if_pos m.ok, if_pos dok]
  have uP := pPosts_does m.t m.h m.n D
  have hok := posK_ok m din'
  have hdif := posN_dif m dris
  have hQl := posN_len m dlen
  have hpl : pstL T H N D = posN T H N D := by unfold pstL; rw [if_pos hE]
  rw [pstQ_eq, hpl, hE] at uP
  have uC := pCheckPosts_does m.t m.h m.n D (posN T H N D) (fun x hx => (hok x hx).len)
  have hce : cpsE T H N D (posN T H N D) = 0 := by
    unfold cpsE
    rw [if_pos hE, hpl, if_pos (by simp)]
  rw [hce] at uC
  have uB : ∀ p : Int, 0 ≤ p ∧ p ≤ 10 → Does Tryz.prog 40 [accP T H N, .list 1 (numP D), .int .i64 p] (.tup [.int .i64 (balK p (posN T H N D)), .int .i64 0]) := fun p hp => by
    have := pBalance_does m.t m.h m.n D p
    have he : balE T H N D p = 0 := by unfold balE; rw [if_pos hE, if_pos (inB_iff.2 (by omega))]
    unfold balN at this
    rw [he, if_pos rfl, hpl] at this
    exact this
  have uS : D ≠ [] → ∀ h ∈ H, Does Tryz.prog 56 [accP T H N, .agg (rowP h), .agg [.list 1 (numP D), .nil], .list 5 ((posN T H N D).map rowP)] (.bool true) := fun hne h hh => settled_does m (fun d hd => by have := din d hd; omega) hne dlen hh
  have uH : ∀ d ∈ D, Does Tryz.prog 55 [.list 1 (numP D), .int .i64 d] (.bool true) := fun d hd => by
    have := rHas_does D d
    rw [List.contains_iff_mem.2 hd] at this
    exact this
  have hQ0 : D = [] → posN T H N D = [] := fun h => by rw [h]; rfl
  clear hpl hce hE dok dris din din' hD
  have hamt : ∀ x ∈ posN T H N D, -500000000000 ≤ x.getD 4 0 ∧ x.getD 4 0 ≤ 500000000000 := fun x hx => (hok x hx).amt.2
  obtain ⟨Q, hQ⟩ : ∃ Q, posN T H N D = Q := ⟨_, rfl⟩
  rw [hQ] at uP uC hQl hok hdif hQ0 hamt
  simp only [hQ] at uB uS
  have hz : sumB Q 11 = 0 := sumB_zero Q (fun x hx => ⟨by have := (hok x hx).frm; omega, (hok x hx).to⟩)
  have hsb : ∀ j : Nat, j ≤ 11 → -100000000000000000 ≤ sumB Q j ∧ sumB Q j ≤ 100000000000000000 := fun j hj => by
    have := sumB_in hamt (by omega) j
    omega
  have hkb := fun p => balK_in p hamt (by omega)
  have hss : ∀ k : Nat, sumB Q (k + 1) = sumB Q k + balK (k : Int) Q := fun _ => rfl
  have hs0 : sumB Q 0 = 0 := rfl
  obtain ⟨sB', hsB⟩ : ∃ f, sumB Q = f := ⟨_, rfl⟩
  obtain ⟨bK, hbK⟩ : ∃ f : Int → Int, (fun p => balK p Q) = f := ⟨_, rfl⟩
  have gK : ∀ p, balK p Q = bK p := fun p => by rw [← hbK]
  rw [hsB] at hz hsb hss hs0
  simp only [gK] at hss hkb uB
  clear hsB hbK gK hamt hQ
  have hHl := m.hl
  have hh9 := m.h
  obtain ⟨eT, hT⟩ : ∃ es, T.map rowP = es := ⟨_, rfl⟩
  obtain ⟨eH, hH⟩ : ∃ es, H.map rowP = es := ⟨_, rfl⟩
  obtain ⟨eN, hN⟩ : ∃ es, N.map rowP = es := ⟨_, rfl⟩
  obtain ⟨eD, hDe⟩ : ∃ es, numP D = es := ⟨_, rfl⟩
  obtain ⟨eQ, hQe⟩ : ∃ es, Q.map rowP = es := ⟨_, rfl⟩
  obtain ⟨eL, hLe⟩ : ∃ es, numP l = es := ⟨_, rfl⟩
  simp only [accP, hT, hH, hN, hDe, hQe, hLe] at hMd uD uP uC uB uS uH ⊢
  refine does_of (own := inPl) Tryz.func8 rfl Tryz.ntmps8 (congrArg Array.toList Tryz.results8) (fun us w => Tryz.call8 us w) hTT mixed (Nat.le_of_ble_eq_true rfl) ?_
  intro w0 im0 D0 S Cl hS hC ar har
  have har' := har
  obtain ⟨ai, ab, nz, inr, fi, pk, ix, ln, sb, eqi, sl, fits, mn, mx, nt, be, up, fu, mg, mh, ms⟩ := ar
  have F := facts_of har
  clear har
  have hlnH : ln eH = H.length := by rw [F.ln, ← hH]; simp
  have hlnQ : ln eQ = Q.length := by rw [F.ln, ← hQe]; simp
  have hlnD : ab .eql (ln eD) 0 = decide (D = []) := by
    rw [F.ln, F.eql, ← hDe, numP_len]
    cases D with
    | nil => rfl
    | cons a D => simp; omega
  have t2 : nt true = false := F.nt _
  have z0 : ab .neq 0 0 = false := by rw [F.neq]; rfl
  cbv
  refine ⟨_, hC _ _ _ hs, ?_⟩; cbv
  refine ⟨_, hC _ _ _ hMd, ?_⟩; cbv
  refine ⟨_, hC _ _ _ uD, ?_⟩; cbv
  refine ⟨_, hC _ _ _ uP, ?_⟩; cbv
  rw [t2]; cbv
  rw [z0]; cbv
  refine ⟨_, hC _ _ _ uC, ?_⟩; cbv
  rw [z0]; cbv
  refine hS _ _ _ (sem_loopR (fun x : Nat × Int => [sP 6 6, sL 7 1 eD, sL 8 5 eQ, sI 10 x.2, bX 6 26 [cL 24 eT, cL 9 eH, cL 7 eN]]) (fun x => x.1 ≤ Q.length ∧ x.2 = (x.1 : Int)) (fun x => Q.length - x.1) (0, 0) (fun t => t) ⟨by cbv, by cbv; try (repeat (first | exact rfl | exact trivial | refine ⟨?_, ?_⟩))⟩ ?_ ?_)
  · exact ⟨by simp, rfl⟩
  rintro ⟨k, i⟩ ⟨hk, hi⟩
  dsimp only at hk hi
  have hadd : ai .add i 1 = ((k + 1 : Nat) : Int) := by rw [F.add i 1 (by omega) (by omega), hi]; simp
  by_cases hlt : k < Q.length
  · have hb : ab .lss i (ln eQ) = true := by rw [hlnQ, F.lss, hi]; simpa using hlt
    have hg : ix eQ i = some (rowP Q[k]) := by rw [F.ix _ i k hi, ← hQe]; exact get_rows hlt
    have hx := hok _ (List.getElem_mem hlt)
    have hHas := uH _ hx.day
    have hdk : ∀ j (hj : j < k), difP (Q[j]'(by omega)) Q[k] := fun j hj => by
      rw [List.pairwise_iff_getElem] at hdif
      exact hdif j k (by omega) hlt hj
    have y4 := hx.amt.1
    have y23 := hx.ne
    obtain ⟨y0, y1, y2, y3, y4', hy⟩ := list5 hx.len
    rw [hy] at hg hHas y4 y23
    simp only [hy] at hdk
    simp only [List.getD_cons_zero, List.getD_cons_succ] at hHas y4 y23
    have e4 : ab .eql y4' 0 = false := by rw [F.eql]; simpa using y4
    have e23 : ab .eql y2 y3 = false := by rw [F.eql]; simpa using y23
    clear hx y4 y23 hy
    refine sem_of (X := ⟨_, TT, ⟨0, 153, inPl⟩⟩) har' hTT mixed ?_
    intro S1 Cl1 hS1 hC1
    cbv
    rw [hb]; cbv
    repeat (rw [hg]; cbv)
    rw [e4]; cbv
    rw [e23]; cbv
    refine ⟨_, hC1 _ _ _ hHas, ?_⟩; cbv
    rw [t2]; cbv
    refine hS1 _ _ _ (sem_loopR (fun y : Nat × Int => [sP 6 6, sL 7 1 eD, sL 8 5 eQ, sI 10 i, sP 11 11, sI 12 y.2, bX 6 26 [cL 24 eT, cL 9 eH, cL 7 eN], bX 11 73 [cI y0, cI y1, cI y2, cI y3, cI y4']]) (fun y => y.1 ≤ k ∧ y.2 = (y.1 : Int)) (fun y => k - y.1) (0, 0) (fun t => t) ⟨by cbv, by cbv; try (repeat (first | exact rfl | exact trivial | refine ⟨?_, ?_⟩))⟩ ?_ ?_)
    · exact ⟨by simp, rfl⟩
    rintro ⟨j, c⟩ ⟨hj, hc⟩
    dsimp only at hj hc
    have hcadd : ai .add c 1 = ((j + 1 : Nat) : Int) := by rw [F.add c 1 (by omega) (by omega), hc]; simp
    by_cases hjk : j < k
    rotate_left
    · have hb2 : ab .lss c i = false := by rw [F.lss, hc, hi]; simpa using hjk
      refine sem_of (X := ⟨_, TT, ⟨0, 153, inPl⟩⟩) har' hTT mixed ?_
      intro S2 Cl2 hS2 hC2
      cbv
      rw [hb2]; cbv
      exact ⟨(k + 1, ai .add i 1), (fun t => t), ⟨hlt, hadd⟩, by dsimp only; omega, ⟨by cbv, by cbv; try (repeat (first | exact rfl | exact trivial | refine ⟨?_, ?_⟩))⟩⟩
    have hb2 : ab .lss c i = true := by rw [F.lss, hc, hi]; simpa using hjk
    have hltj : j < Q.length := by omega
    have hg2 : ix eQ c = some (rowP Q[j]) := by rw [F.ix _ c j hc, ← hQe]; exact get_rows hltj
    have hd := hdk j hjk
    obtain ⟨v0, v1, v2, v3, v4, hv⟩ := list5 (hok _ (List.getElem_mem hltj)).len
    rw [hv] at hg2 hd
    simp only [difP, List.getD_cons_zero, List.getD_cons_succ] at hd
    have eq : ∀ a b : Int, a = b → ab .eql a b = true := fun a b h => by rw [F.eql, h]; simp
    have ne : ∀ a b : Int, a ≠ b → ab .eql a b = false := fun a b h => by rw [F.eql]; simpa using h
    have h4 : ab .eql v0 y0 = false ∨ (ab .eql v0 y0 = true ∧ ab .eql v1 y1 = false) ∨ (ab .eql v0 y0 = true ∧ ab .eql v1 y1 = true ∧ ab .eql v2 y2 = false) ∨ (ab .eql v0 y0 = true ∧ ab .eql v1 y1 = true ∧ ab .eql v2 y2 = true ∧ ab .eql v3 y3 = false) := by
      by_cases a0 : v0 = y0
      · by_cases a1 : v1 = y1
        · by_cases a2 : v2 = y2
          · exact .inr (.inr (.inr ⟨eq _ _ a0, eq _ _ a1, eq _ _ a2, ne _ _ (fun a3 => hd ⟨a0, a1, a2, a3⟩)⟩))
          · exact .inr (.inr (.inl ⟨eq _ _ a0, eq _ _ a1, ne _ _ a2⟩))
        · exact .inr (.inl ⟨eq _ _ a0, ne _ _ a1⟩)
      · exact .inl (ne _ _ a0)
    clear eq ne hd hv
    refine sem_of (X := ⟨_, TT, ⟨0, 153, inPl⟩⟩) har' hTT mixed ?_
    intro S2 Cl2 hS2 hC2
    cbv
    rw [hb2]; cbv
    repeat (rw [hg2]; cbv)
    rcases h4 with a0 | ⟨a0, a1⟩ | ⟨a0, a1, a2⟩ | ⟨a0, a1, a2, a3⟩
    · rw [a0]; cbv
      exact ⟨(j + 1, ai .add c 1), (fun t => t), ⟨hjk, hcadd⟩, by dsimp only; omega, ⟨by cbv, by cbv; try (repeat (first | exact rfl | exact trivial | refine ⟨?_, ?_⟩))⟩⟩
    · rw [a0]; cbv
      rw [a1]; cbv
      exact ⟨(j + 1, ai .add c 1), (fun t => t), ⟨hjk, hcadd⟩, by dsimp only; omega, ⟨by cbv, by cbv; try (repeat (first | exact rfl | exact trivial | refine ⟨?_, ?_⟩))⟩⟩
    · rw [a0]; cbv
      rw [a1]; cbv
      rw [a2]; cbv
      exact ⟨(j + 1, ai .add c 1), (fun t => t), ⟨hjk, hcadd⟩, by dsimp only; omega, ⟨by cbv, by cbv; try (repeat (first | exact rfl | exact trivial | refine ⟨?_, ?_⟩))⟩⟩
    · rw [a0]; cbv
      rw [a1]; cbv
      rw [a2]; cbv
      rw [a3]; cbv
      exact ⟨(j + 1, ai .add c 1), (fun t => t), ⟨hjk, hcadd⟩, by dsimp only; omega, ⟨by cbv, by cbv; try (repeat (first | exact rfl | exact trivial | refine ⟨?_, ?_⟩))⟩⟩
  have hb : ab .lss i (ln eQ) = false := by rw [hlnQ, F.lss, hi]; simpa using hlt
  clear hok hdif hadd
  refine sem_of (X := ⟨_, TT, ⟨0, 153, inPl⟩⟩) har' hTT mixed ?_
  intro S1 Cl1 hS1 hC1
  cbv
  rw [hb]; cbv
  refine hS _ _ _ (sem_loopR (fun x : Nat × Int × Int => [sP 6 6, sL 7 1 eD, sL 8 5 eQ, sI 14 x.2.2, sI 15 x.2.1, bX 6 26 [cL 24 eT, cL 9 eH, cL 7 eN]]) (fun x => x.1 ≤ 11 ∧ x.2.1 = (x.1 : Int) ∧ x.2.2 = sB' x.1) (fun x => 11 - x.1) (0, 0, 0) (fun t => t) ⟨by cbv, by cbv; try (repeat (first | exact rfl | exact trivial | refine ⟨?_, ?_⟩))⟩ ?_ ?_)
  · exact ⟨by simp, rfl, hs0.symm⟩
  rintro ⟨j, p, s⟩ ⟨hj, hp, hsm⟩
  dsimp only at hj hp hsm
  have hpadd : ai .add p 1 = ((j + 1 : Nat) : Int) := by rw [F.add p 1 (by omega) (by omega), hp]; simp
  by_cases hj11 : j < 11
  · have hb2 : ab .leq p 10 = true := by rw [F.leq]; exact decide_eq_true (by omega)
    have uBp := uB p (by omega)
    have q1 := hsb j hj
    have q2 := hkb p
    have q3 : sB' (j + 1) = s + bK p := by
      have := hss j
      rw [← hsm] at this
      rw [hp]; exact this
    rw [← hsm] at q1
    have hsadd : ai .add s (bK p) = sB' (j + 1) := by rw [q3]; exact F.add _ _ (by omega) (by omega)
    generalize bK p = bp at *
    clear q1 q2 q3
    refine sem_of (X := ⟨_, TT, ⟨0, 153, inPl⟩⟩) har' hTT mixed ?_
    intro S2 Cl2 hS2 hC2
    cbv
    rw [hb2]; cbv
    refine ⟨_, hC2 _ _ _ uBp, ?_⟩; cbv
    rw [z0]; cbv
    exact ⟨(j + 1, ai .add p 1, ai .add s bp), (fun t => t), ⟨hj11, hpadd, hsadd⟩, by dsimp only; omega, ⟨by cbv, by cbv; try (repeat (first | exact rfl | exact trivial | refine ⟨?_, ?_⟩))⟩⟩
  have hb2 : ab .leq p 10 = false := by rw [F.leq, decide_eq_false_iff_not]; omega
  have hj11 : j = 11 := by omega
  have hs00 : s = 0 := by rw [hsm, hj11, hz]
  subst hs00
  clear hsm hpadd hsb hkb hss uB
  have z00 : ab .eql 0 0 = true := by rw [F.eql]; rfl
  refine sem_of (X := ⟨_, TT, ⟨0, 153, inPl⟩⟩) har' hTT mixed ?_
  intro S2 Cl2 hS2 hC2
  cbv
  rw [hb2]; cbv
  rw [z0]; cbv
  by_cases hDn : D = []
  · rw [decide_eq_true hDn] at hlnD
    have hq0 : ab .eql (ln eQ) 0 = true := by rw [hlnQ, hQ0 hDn, F.eql]; rfl
    rw [hlnD]; cbv
    rw [z00]; cbv
    rw [hq0]; cbv
    exact PLe.refl _
  rw [decide_eq_false hDn] at hlnD
  have uS := uS hDn
  rw [hlnD]; cbv
  refine hS _ _ _ (sem_loopR (fun x : Nat × Int => [sP 6 6, sL 7 1 eD, sL 8 5 eQ, sI 18 x.2, bX 6 26 [cL 24 eT, cL 9 eH, cL 7 eN]]) (fun x => x.1 ≤ H.length ∧ x.2 = (x.1 : Int)) (fun x => H.length - x.1) (0, 0) (fun t => t) ⟨by cbv, by cbv; try (repeat (first | exact rfl | exact trivial | refine ⟨?_, ?_⟩))⟩ ?_ ?_)
  · exact ⟨by simp, rfl⟩
  rintro ⟨k4, i4⟩ ⟨hk4, hi4⟩
  dsimp only at hk4 hi4
  have hadd : ai .add i4 1 = ((k4 + 1 : Nat) : Int) := by rw [F.add i4 1 (by omega) (by omega), hi4]; simp
  by_cases hlt4 : k4 < H.length
  · have hb3 : ab .lss i4 (ln eH) = true := by rw [hlnH, F.lss, hi4]; simpa using hlt4
    have hg : ix eH i4 = some (rowP H[k4]) := by rw [F.ix _ i4 k4 hi4, ← hH]; exact get_rows hlt4
    have uSx := uS _ (List.getElem_mem hlt4)
    obtain ⟨x0, x1, x2, x3, x4, x5, x6, x7, x8, hx⟩ := list9 (hh9 _ (List.getElem_mem hlt4))
    rw [hx] at hg uSx
    refine sem_of (X := ⟨_, TT, ⟨0, 153, inPl⟩⟩) har' hTT mixed ?_
    intro S3 Cl3 hS3 hC3
    cbv
    rw [hb3]; cbv
    repeat (rw [hg]; cbv)
    refine ⟨_, hC3 _ _ _ uSx, ?_⟩; cbv
    rw [t2]; cbv
    exact ⟨(k4 + 1, ai .add i4 1), (fun t => t), ⟨hlt4, hadd⟩, by dsimp only; omega, ⟨by cbv, by cbv; try (repeat (first | exact rfl | exact trivial | refine ⟨?_, ?_⟩))⟩⟩
  · have hb3 : ab .lss i4 (ln eH) = false := by rw [hlnH, F.lss, hi4]; simpa using hlt4
    refine sem_of (X := ⟨_, TT, ⟨0, 153, inPl⟩⟩) har' hTT mixed ?_
    intro S3 Cl3 hS3 hC3
    cbv
    rw [hb3]; cbv
    exact PLe.refl _
end Go.Proofs.YtjimjdhdnkhfnaaGreat
