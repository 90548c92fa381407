/- Contracts of functions of the program and of the reference, and plain facts: a part of a proof. Own text. -/
import Derived.Test.YtaieidigpilbfaaGreatJc
import Derived.Test.YtaieidigpilbfaaGreatJh
import Derived.Test.YtaieidigpilbfaaGreatJk
import Derived.Test.YtaieidigpilbfaaGreatJm
set_option linter.unusedVariables false
set_option linter.unusedSimpArgs false
set_option linter.unusedSectionVars false
namespace Go.Proofs.YtaieidigpilbfaaGreat
open Go Go.RowKit
set_option maxHeartbeats 1000000
set_option maxRecDepth 100000

/-- These cells are slices that hold these lists. -/
def RW (w : World) (rows : List Value) (xs : List (List Int)) : Prop :=
  rows.length = xs.length ∧ ∀ j (h : j < xs.length), ∃ A c, rows[j]? = some (.slice A xs[j].length c) ∧ Is w A xs[j].length xs[j] ∧ xs[j].length ≤ c
/-- A block of numbers. -/
def T3 (w : World) (g : Nat) : Prop := ∃ cur fz, w.heap[g]? = some (.cells cur 3 fz)
theorem T3.keep {w w' : World} {g : Nat} (h : T3 w g) (hb : Below w.heap.size w w') : T3 w' g := by
  obtain ⟨cur, fz, e⟩ := h
  exact ⟨cur, fz, (hb.block g (Array.getElem?_eq_some_iff.1 e).1).trans e⟩
/-- A slice of the call's own that holds these lists. -/
structure LL (w : World) (base : Nat) (v : Value) (xs : List (List Int)) : Prop where
  ex : ∃ rows, w.ownsRow base 22 1 v xs.length rows ∧ RW w rows xs ∧ ∀ r ∈ rows, ∀ g, r.ownBlock = some g → T3 w g
theorem RW.keep {w w' : World} {rows : List Value} {xs : List (List Int)} (h : RW w rows xs) (hb : Below w.heap.size w w') : RW w' rows xs :=
  ⟨h.1, fun j hj => by obtain ⟨A, c, h1, h2, h3⟩ := h.2 j hj; exact ⟨A, c, h1, h2.keep hb, h3⟩⟩
theorem RW.app {w : World} {rows rows' : List Value} {xs ys : List (List Int)} (h : RW w rows xs) (h' : RW w rows' ys) : RW w (rows ++ rows') (xs ++ ys) := by
  refine ⟨by rw [List.length_append, List.length_append, h.1, h'.1], fun j hj => ?_⟩
  by_cases hlt : j < xs.length
  · obtain ⟨A, c, h1, h2, h3⟩ := h.2 j hlt
    have e : (xs ++ ys)[j] = xs[j] := List.getElem_append_left hlt
    rw [e, List.getElem?_append_left (by rw [h.1]; exact hlt)]
    exact ⟨A, c, h1, h2, h3⟩
  · have hj2 : j - xs.length < ys.length := by rw [List.length_append] at hj; omega
    obtain ⟨A, c, h1, h2, h3⟩ := h'.2 _ hj2
    have e : (xs ++ ys)[j] = ys[j - xs.length] := List.getElem_append_right (by omega)
    rw [e, List.getElem?_append_right (by rw [h.1]; omega), h.1]
    exact ⟨A, c, h1, h2, h3⟩
theorem RW.turn {w w' : World} {rows : List Value} {xs : List (List Int)} {ob : Option Nat} (h : RW w rows xs) (hg : w.grownBy w' ob) (hd : ∀ r ∈ rows, ∀ g, r.ownBlock = some g → ob ≠ some g) : RW w' rows xs :=
  ⟨h.1, fun j hj => by
    obtain ⟨A, c, h1, h2, h3⟩ := h.2 j hj
    refine ⟨A, c, h1, ⟨h2.len, h2.small, fun k hk => ?_⟩, h3⟩
    obtain ⟨b, o, e, hlt, hc⟩ := h2.get k hk
    have hne : ob ≠ some b := hd _ (List.mem_of_getElem? h1) b (by rw [e]; rfl)
    exact ⟨b, o, e, by have := hg.size; omega, (World.cell?_of_block (a := ⟨b, o + k, none⟩) (hg.block b hlt (fun q => hne q.symm))).trans hc⟩⟩
theorem LL.nil (w : World) (base : Nat) : LL w base (.slice none 0 0) [] := ⟨[], World.ownsRow_nil _ _ _ _, ⟨rfl, fun j hj => by simp at hj⟩, fun r hr => by simp at hr⟩
theorem LL.keep {w w' : World} {base : Nat} {v : Value} {xs : List (List Int)} (h : LL w base v xs) (hb : Below w.heap.size w w') : LL w' base v xs := by
  obtain ⟨rows, h1, h2, h4⟩ := h.ex
  exact ⟨rows, own_keepB (B := 0) h1 fun g _ hlt => hb.block g hlt, h2.keep hb, fun r hr g hg => (h4 r hr g hg).keep hb⟩
theorem LL.mono {w : World} {base base' : Nat} {v : Value} {xs : List (List Int)} (h : LL w base v xs) (hb : base' ≤ base) : LL w base' v xs := by
  obtain ⟨rows, h1, h2, h4⟩ := h.ex
  refine ⟨rows, ⟨h1.1, ?_⟩, h2, h4⟩
  rcases h1.2 with h3 | ⟨g, cap, cur, hv, hg, r⟩
  · exact .inl h3
  · exact .inr ⟨g, cap, cur, hv, Nat.le_trans hb hg, r⟩
theorem LL.shape {w : World} {base : Nat} {v : Value} {xs : List (List Int)} (h : LL w base v xs) : ∃ A c, v = .slice A xs.length c ∧ xs.length ≤ c ∧ xs.length ≤ maxLen := by
  obtain ⟨rows, h1, h2, h4⟩ := h.ex
  rcases h1.2 with ⟨rfl, h3⟩ | ⟨g, cap, cur, rfl, _, _, hnc, hcm, _⟩
  · rw [h3]; exact ⟨none, 0, rfl, Nat.le_refl _, by unfold maxLen; omega⟩
  · exact ⟨_, _, rfl, hnc, by omega⟩
theorem LL.get {w : World} {base : Nat} {v : Value} {xs : List (List Int)} (h : LL w base v xs) {j : Nat} (hj : j < xs.length) :
    ∃ b c0 A c, v = .slice (some ⟨b, 0, none⟩) xs.length c0 ∧ base ≤ b ∧ b < w.heap.size ∧ w.cell? ⟨b, j, none⟩ = some (.slice A xs[j].length c) ∧ Is w A xs[j].length xs[j] ∧ xs[j].length ≤ c := by
  obtain ⟨rows, h1, h2, h4⟩ := h.ex
  obtain ⟨A, c, e, hi, hc⟩ := h2.2 j hj
  have h1' := h1
  rcases h1'.2 with ⟨rfl, h3⟩ | ⟨g, cap, cur, rfl, hbg, hg, hnc, hcm, hcs, htk⟩
  · omega
  · refine ⟨g, cap, A, c, rfl, hbg, (Array.getElem?_eq_some_iff.1 hg).1, ?_, hi, hc⟩
    have := h1.cells (g := g) rfl j _ e
    rw [Addr.add_lit] at this; simpa using this
section
variable {ops : Array Oper} {rest : List Oper} {o : Oper} {a : Act} {w : World} {Q : Exit → Act → World → Prop}
/-- Lists more. -/
theorem wpList_appLL {base base' : Nat} {v u : Value} {xs ys : List (List Int)} (K : LL w base v xs) (s x : Operand) (hgd : o.guard = none) (ho : o.op = .call { callee := .builtin .append, args := #[s, x], argTypes := #[100, 100] })
    (hs : a.eval s = v) (hx : a.eval x = u) (hI : LL w base' u ys) (hm : ys.length ≠ 0) (hn : xs.length + ys.length ≤ 1000000000) (hb : base ≤ w.heap.size)
    (h : ∀ A' c' w', LL w' base (.slice A' (xs ++ ys).length c') (xs ++ ys) → Below base w w' → wpList Tryz.prog ops Q rest (a.put o.dst (.slice A' (xs ++ ys).length c')) w') : wpList Tryz.prog ops Q (o :: rest) a w := by
  obtain ⟨i0, hi, hz0, hz1, hz2⟩ := info_parts info22
  obtain ⟨rows, k1, k2, k4⟩ := K.ex
  obtain ⟨rows', k1', k2', k4'⟩ := hI.ex
  have k3 := k1'
  rcases k3.2 with ⟨_, h3⟩ | ⟨g, cap, cur, rfl, hbg, hg, hnc, hcm, hcs, htk⟩
  · exact absurd h3 hm
  refine wpList_append_own _ hgd s x 100 ho base 22 i0 (.slice none 0 0) 1 24 Tryz.underlying100 hi hz0 hz1 hz2 rfl (by decide) v xs.length rows hs k1 ⟨g, 0, none⟩ ys.length cap rows' hx (by rw [k2'.1, Nat.mul_one]) ?_ ?_ (by unfold maxLen; omega) (by omega) hb ?_
  · intro j y hy
    exact k1'.cells (g := g) rfl j y hy
  · intro y hy
    obtain ⟨j, hj, rfl⟩ := List.mem_iff_getElem.1 hy
    obtain ⟨A, c, e, _, _⟩ := k2'.2 j (by rw [← k2'.1]; exact hj)
    rw [List.getElem?_eq_getElem hj] at e
    rw [Option.some.inj e]; rfl
  · intro v' w' h1 h2 _
    have hbl : Below base w w' := below_grown k1 hb h2
    have hne : ∀ g, T3 w g → v.ownBlock ≠ some g := by
      rintro g ⟨cur, fz, e⟩ ho
      rcases k1.2 with ⟨rfl, _⟩ | ⟨g', cap', cur', rfl, _, hg', _⟩
      · cases ho
      · cases ho
        rw [hg'] at e
        cases e
    have hrow : RW w' (rows ++ rows') (xs ++ ys) := (k2.turn h2 fun r hr g hg => hne g (k4 r hr g hg)).app (k2'.turn h2 fun r hr g hg => hne g (k4' r hr g hg))
    have hLL : LL w' base v' (xs ++ ys) := by
      refine ⟨rows ++ rows', by rw [List.length_append]; exact h1, hrow, fun r hr g hg => ?_⟩
      have h3 : T3 w g := by
        rcases List.mem_append.1 hr with hr | hr
        · exact k4 r hr g hg
        · exact k4' r hr g hg
      obtain ⟨cur, fz, e⟩ := h3
      exact ⟨cur, fz, (h2.block g (Array.getElem?_eq_some_iff.1 e).1 (fun q => hne g ⟨cur, fz, e⟩ q.symm)).trans e⟩
    obtain ⟨A', c', e, _, _⟩ := hLL.shape
    subst e
    exact h A' c' w' hLL hbl
end
end Go.Proofs.YtaieidigpilbfaaGreat

namespace Go.Proofs.YtaieidigpilbfaaGreat
open Go Go.RowKit
set_option maxHeartbeats 1000000
set_option maxRecDepth 100000

section
variable {ops : Array Oper} {rest : List Oper} {o : Oper} {a : Act} {w : World} {Q : Exit → Act → World → Prop}
/-- Any list more. -/
theorem wpList_appAny {base : Nat} {v : Value} {l : List Int} (K : OI w base v l) (s x : Operand) (hgd : o.guard = none) (ho : o.op = .call { callee := .builtin .append, args := #[s, x], argTypes := #[22, 22] })
    (hs : a.eval s = v) {B : Option Addr} {m c : Nat} {r : List Int} (hx : a.eval x = .slice B m c) (hI : Is w B m r) (hn : l.length + m ≤ 1000000000) (hb : base ≤ w.heap.size)
    (h : ∀ A' c' w', OI w' base (.slice A' (l ++ r).length c') (l ++ r) → Below base w w' → wpList Tryz.prog ops Q rest (a.put o.dst (.slice A' (l ++ r).length c')) w') : wpList Tryz.prog ops Q (o :: rest) a w := by
  by_cases hm : m = 0
  · have hr : r = [] := by have := hI.len; exact List.eq_nil_of_length_eq_zero (by omega)
    subst hr
    subst hm
    obtain ⟨A', c', e⟩ := K.shape
    have h2 := h A' c' w (by rw [List.append_nil]; rw [← e]; exact K) (Below.refl _ _)
    rw [List.append_nil, ← e] at h2
    exact Lib.wpList_append_run _ hgd _ _ _ _ ho _ _ hs hx _ _ (run_append_empty _ _ _ _ _ _ _ _ K.h) h2
  · refine wpList_appIs K s x hgd ho hs hx hI hm hn hb fun A' c' w' h1 h2 => ?_
    have := h A' c' w' (by rw [List.length_append, ← hI.len]; exact h1) h2
    rwa [List.length_append, ← hI.len] at this
end
/-- Any list more, for one operation. -/
theorem wp_appAny {o : Oper} {a : Act} {w : World} {KK : Act → World → Prop} {Q : Exit → Act → World → Prop} {base : Nat} {v : Value} {l : List Int} (K : OI w base v l) (s x : Operand) (ho : o.op = .call { callee := .builtin .append, args := #[s, x], argTypes := #[22, 22] })
    (hs : a.eval s = v) {B : Option Addr} {m c : Nat} {r : List Int} (hx : a.eval x = .slice B m c) (hI : Is w B m r) (hn : l.length + m ≤ 1000000000) (hb : base ≤ w.heap.size)
    (h : ∀ A' c' w', OI w' base (.slice A' (l ++ r).length c') (l ++ r) → Below base w w' → KK (a.put o.dst (.slice A' (l ++ r).length c')) w') : o.wp Tryz.prog a w KK Q := by
  have hml := hI.len
  by_cases hm : m = 0
  · have hr : r = [] := List.eq_nil_of_length_eq_zero (by omega)
    subst hr
    subst hm
    obtain ⟨A', c', e⟩ := K.shape
    have h2 := h A' c' w (by rw [List.append_nil]; rw [← e]; exact K) (Below.refl _ _)
    rw [List.append_nil, ← e] at h2
    exact Lib.wp_append_run _ _ _ _ _ ho _ _ hs hx _ _ (run_append_empty _ _ _ _ _ _ _ _ K.h) h2
  · obtain ⟨i0, hi, hz0, hz1, hz2⟩ := info_parts info3
    obtain ⟨b, ob, rfl, _, _⟩ := hI.get 0 (by omega)
    refine wp_append_own _ s x 22 ho base 3 i0 (.int .i64 0) 1 8 Tryz.underlying22 hi hz0 hz1 hz2 rfl (by decide) v l.length (ints l) hs K.h ⟨b, ob, none⟩ m c (ints r) hx (by simp [ints, hml]) ?_ ?_ (by unfold maxLen; omega) (by omega) hb ?_
    · intro j u hu
      have hj : j < r.length := by have := (List.getElem?_eq_some_iff.1 hu).1; simpa [ints] using this
      obtain ⟨b2, o2, e, _, hc⟩ := hI.get j hj
      cases e
      rw [Addr.add_lit, hc]
      simpa [ints, hj] using hu
    · intro u hu; simp [ints] at hu; obtain ⟨z, _, rfl⟩ := hu; rfl
    · intro v' w' h1 h2 _
      have h3 : OI w' base v' (l ++ r) := ⟨by rw [List.length_append, ← hml, show ints (l ++ r) = ints l ++ ints r by simp [ints]]; exact h1⟩
      obtain ⟨A', c', e⟩ := h3.shape
      subst e
      exact h A' c' w' h3 (below_grown K.h hb h2)
theorem OI.t3 {w : World} {base : Nat} {v : Value} {l : List Int} (h : OI w base v l) : ∀ g, v.ownBlock = some g → T3 w g := by
  intro g hg
  rcases h.h.2 with ⟨rfl, _⟩ | ⟨g', cap', cur', rfl, _, hg', _⟩
  · cases hg
  · cases hg; exact ⟨cur', _, hg'⟩
theorem LL.one {w : World} {base base' : Nat} {v : Value} {l : List Int} (h : OI w base' v l) (hb : base ≤ w.heap.size) : LL (w.alloc (.cells #[v] 22)) base (.slice (some ⟨w.heap.size, 0, none⟩) 1 1) [l] := by
  have hu := up_alloc w (.cells #[v] 22)
  have ht := h.t3
  obtain ⟨A, c, rfl, hc, hi, _⟩ := h.is
  refine ⟨[.slice A l.length c], ⟨rfl, .inr ⟨w.heap.size, 1, #[.slice A l.length c], rfl, hb, heap_alloc_new w _, Nat.le_refl _, by unfold maxLen; omega, rfl, rfl⟩⟩, ⟨rfl, fun j hj => ?_⟩, fun r hr g hg => ?_⟩
  · obtain rfl : j = 0 := by simpa using hj
    exact ⟨A, c, rfl, hi.keep hu, hc⟩
  · rw [List.mem_singleton] at hr
    subst hr
    exact (ht g hg).keep hu
end Go.Proofs.YtaieidigpilbfaaGreat

namespace Go.Proofs.YtaieidigpilbfaaGreat
open Go Go.RowKit
set_option maxRecDepth 100000

/-- The room of the first k that stand in a pen. -/
def sumQ (K : List Kd) (l p : List Int) (q : Int) : Nat → Int
  | 0 => 0
  | k + 1 => sumQ K l p q k + if p.getD k 0 = q then (kdD K (l.getD k 0)).r else 0
/-- One of the first k stands in a pen and is of a sort. -/
def anyQ (l p : List Int) (q t : Int) : Nat → Bool
  | 0 => false
  | k + 1 => anyQ l p q t k || (decide (p.getD k 0 = q) && decide (l.getD k 0 = t))
theorem kdD_s {K : List Kd} {x : Int} (h : kdI K x = true) : (kdD K x).s = x := by
  unfold kdI at h
  cases h2 : kd? K x with
  | none => rw [h2] at h; cases h
  | some k => rw [(kdD_some h2).1]; exact (kd_mem h2).2
theorem emK_even {P : List Int} (h5 : P.length ≤ 5) : ∀ k, k ≤ P.length → ∀ q, q < k → (emK P k).getD (q * 2) 0 = P.getD q 0
  | 0, _, q, hq => by omega
  | k + 1, hk, q, hq => by
    rw [emK, getD_set, emK_len]
    by_cases e : k = q
    · subst e; rw [if_pos ⟨rfl, by omega⟩]
    · rw [if_neg (by omega)]; exact emK_even h5 k (by omega) q (by omega)
theorem emK_odd {P : List Int} : ∀ k, ∀ q, q < 5 → (emK P k).getD (q * 2 + 1) 0 = 0
  | 0, q, hq => by
    rcases (by omega : q = 0 ∨ q = 1 ∨ q = 2 ∨ q = 3 ∨ q = 4) with rfl | rfl | rfl | rfl | rfl <;> rfl
  | k + 1, q, hq => by
    rw [emK, getD_set, if_neg (by omega)]; exact emK_odd k q hq
theorem lOk_at {K : List Kd} {l : List Int} (h : lOk K l = true) {k : Nat} (hk : k < l.length) : kdI K (l.getD k 0) = true := by
  have := List.all_eq_true.1 h l[k] (List.getElem_mem hk)
  rwa [show l.getD k 0 = l[k] by simp [hk]]
theorem bsL_getD {K : List Kd} {l : List Int} {k : Nat} (hk : k < l.length) : (bsL K l).getD k kd0 = kdD K (l.getD k 0) := by
  unfold bsL; simp [hk]
/-- What the pens' state says. -/
def saysS (P : List Int) (K : List Kd) (l p : List Int) (k : Nat) (st : List Int) : Prop :=
  hasOk st ∧ st.length = 10 ∧ ∀ q, q < P.length → st.getD (q * 2) 0 = P.getD q 0 - sumQ K l p q k ∧ ∀ t, 0 ≤ t ∧ t ≤ 9 → hasB (st.getD (q * 2 + 1) 0) t = anyQ l p q t k
theorem stand_says {P : List Int} {K : List Kd} {l p : List Int} (h5 : P.length ≤ 5) (hK : ksOk K = true) (hl : lOk K l = true) : ∀ k, k ≤ l.length → ∀ st, standK P (apL K) (bsL K l) p k = some st → saysS P K l p k st := by
  intro k
  induction k with
  | zero =>
    intro _ st h
    cases h
    refine ⟨fun i hi => by rw [show st0 P = emK P P.length from rfl, emK_odd _ i hi]; decide, st0_len P, fun q hq => ⟨?_, fun t ht => ?_⟩⟩
    · rw [show st0 P = emK P P.length from rfl, emK_even h5 _ (Nat.le_refl _) q hq, sumQ, Int.sub_zero]
    · rw [show st0 P = emK P P.length from rfl, emK_odd _ q (by omega), zero_bit ht]; rfl
  | succ k ih =>
    intro hk st h
    cases hs : standK P (apL K) (bsL K l) p k with
    | none => rw [standK, hs] at h; cases h
    | some s0 =>
      rw [standK_some hs] at h
      by_cases hin : inB (p.getD k 0) 0 ((P.length : Int) - 1) = true
      · rw [if_pos hin] at h
        obtain ⟨ho, hlen, hq⟩ := ih (by omega) s0 hs
        have hi := inB_iff.1 hin
        obtain ⟨i, hpi⟩ := Int.eq_ofNat_of_zero_le hi.1
        rw [hpi] at hi
        have hi5 : i < 5 := by omega
        rw [hpi, Int.toNat_natCast, bsL_getD (by omega)] at h
        have hkI := lOk_at hl (k := k) (by omega)
        have hs1 := kdD_s hkI
        have hin9 := lOk_in hK hl _ (List.getElem_mem (show k < l.length by omega))
        have hgx : l.getD k 0 = l[k] := by simp [show k < l.length by omega]
        rw [← hgx] at hin9
        generalize hx : l.getD k 0 = x at *
        have hxs : 1 ≤ (kdD K x).s ∧ (kdD K x).s ≤ 9 := by rw [hs1]; exact hin9
        rw [putS_add h]
        refine ⟨hasOk_add ho hlen hi5 hxs, by rw [addS_len, hlen], fun q hqn => ?_⟩
        obtain ⟨a1, a2⟩ := hq q hqn
        rw [add_free hlen hi5 q (by omega), add_has hlen hi5 q (by omega), sumQ, hpi]
        by_cases e : i = q
        · subst e
          rw [if_pos rfl, if_pos rfl, if_pos rfl, hx]
          refine ⟨by rw [a1]; omega, fun t ht => ?_⟩
          rw [(bor_bit (ho i hi5) (by omega) ht).2, a2 t ht, anyQ, hpi, hs1, hx]
          simp
        · rw [if_neg e, if_neg e]
          refine ⟨by rw [a1, if_neg (by omega)]; omega, fun t ht => ?_⟩
          rw [a2 t ht, anyQ, hpi, show decide ((i : Int) = (q : Int)) = false by simpa using (by omega : (i : Int) ≠ q)]
          simp
      · rw [if_neg hin] at h; cases h
/-- One of the first m that stand in a pen must stand apart from the k-th. -/
def clashQ (K : List Kd) (l p : List Int) (k : Nat) (q : Int) : Nat → Bool
  | 0 => false
  | m + 1 => clashQ K l p k q m || (decide (p.getD m 0 = q) && aptB K (l.getD m 0) (l.getD k 0))
theorem fitK_eq {K : List Kd} {l p : List Int} {k : Nat} {q : Int} : ∀ m, m ≤ k → fitK K l p k q m = if clashQ K l p k q m = true then none else some ((kdD K (l.getD k 0)).r + sumQ K l p q m)
  | 0, _ => by rw [fitK, clashQ, sumQ]; simp
  | m + 1, hm => by
    rw [fitK, fitK_eq m (by omega), clashQ, sumQ]
    have hne : (m == k) = false := by simpa using (by omega : m ≠ k)
    rw [hne, Bool.or_false]
    cases hc : clashQ K l p k q m
    · simp only [Bool.false_eq_true, if_false, Bool.false_or]
      by_cases hp : p.getD m 0 = q
      · have h1 : (p.getD m 0 != q) = false := by simpa using hp
        rw [h1]
        simp only [Bool.false_eq_true, if_false, hp, decide_true, Bool.true_and, if_true]
        split
        · rfl
        · rw [Int.add_assoc]
      · have h1 : (p.getD m 0 != q) = true := by simpa using hp
        rw [h1, decide_eq_false hp]
        simp only [if_neg hp, Int.add_zero, Bool.false_and, if_true, Bool.false_eq_true, if_false]
    · simp
theorem clash_iff {K : List Kd} {l p : List Int} {k : Nat} {q : Int} (hl : ∀ x ∈ l, 1 ≤ x ∧ x ≤ 9) : ∀ m, m ≤ l.length → (clashQ K l p k q m = true ↔ ∃ t, (1 ≤ t ∧ t ≤ 9) ∧ anyQ l p q t m = true ∧ aptB K t (l.getD k 0) = true)
  | 0, _ => by simp [clashQ, anyQ]
  | m + 1, hm => by
    have hx : 1 ≤ l.getD m 0 ∧ l.getD m 0 ≤ 9 := by
      rw [show l.getD m 0 = l[m] by simp [show m < l.length by omega]]; exact hl _ (List.getElem_mem _)
    rw [clashQ, Bool.or_eq_true, clash_iff hl m (by omega)]
    constructor
    · rintro (⟨t, ht, h1, h2⟩ | h)
      · exact ⟨t, ht, by rw [anyQ, h1]; rfl, h2⟩
      · rw [Bool.and_eq_true] at h
        exact ⟨l.getD m 0, hx, by rw [anyQ, h.1]; simp, h.2⟩
    · rintro ⟨t, ht, h1, h2⟩
      rw [anyQ, Bool.or_eq_true] at h1
      rcases h1 with h1 | h1
      · exact Or.inl ⟨t, ht, h1, h2⟩
      · rw [Bool.and_eq_true, decide_eq_true_eq] at h1
        right
        rw [h1.1, decide_eq_true rfl, Bool.true_and]
        rw [of_decide_eq_true h1.2]; exact h2
theorem anyQ_in {l p : List Int} {q t : Int} (hl : ∀ x ∈ l, 1 ≤ x ∧ x ≤ 9) : ∀ m, m ≤ l.length → anyQ l p q t m = true → 1 ≤ t ∧ t ≤ 9
  | 0, _, h => by cases h
  | m + 1, hm, h => by
    rw [anyQ, Bool.or_eq_true] at h
    rcases h with h | h
    · exact anyQ_in hl m (by omega) h
    · rw [Bool.and_eq_true] at h
      rw [← of_decide_eq_true h.2, show l.getD m 0 = l[m] by simp [show m < l.length by omega]]
      exact hl _ (List.getElem_mem _)
theorem band_iff {a b : Int} (ha : 0 ≤ a ∧ a ≤ 1023) (hb : 0 ≤ b ∧ b ≤ 1023) : band a b ≠ 0 ↔ ∃ t, (0 ≤ t ∧ t ≤ 9) ∧ hasB a t = true ∧ hasB b t = true := by
  obtain ⟨x, rfl⟩ := Int.eq_ofNat_of_zero_le ha.1
  obtain ⟨y, rfl⟩ := Int.eq_ofNat_of_zero_le hb.1
  rw [band_nat _ _ (by omega), Nat.mod_eq_of_lt (by omega)]
  constructor
  · intro h
    have h2 : x &&& y ≠ 0 := fun e => h (by rw [e]; rfl)
    obtain ⟨i, hi⟩ : ∃ i, (x &&& y).testBit i = true := by
      apply Classical.byContradiction
      intro hn
      apply h2
      apply Nat.eq_of_testBit_eq
      intro i
      rw [Nat.zero_testBit]
      cases hc : (x &&& y).testBit i
      · rfl
      · exact absurd ⟨i, hc⟩ hn
    rw [Nat.testBit_and, Bool.and_eq_true] at hi
    have hi9 : i ≤ 9 := by
      apply Classical.byContradiction
      intro hn
      have : x < 2 ^ i := Nat.lt_of_lt_of_le (show x < 2 ^ 10 by omega) (Nat.pow_le_pow_right (by decide) (by omega))
      rw [Nat.testBit_lt_two_pow this] at hi
      cases hi.1
    exact ⟨i, by omega, by rw [hasB_nat x i (by omega) (by omega)]; exact hi.1, by rw [hasB_nat y i (by omega) (by omega)]; exact hi.2⟩
  · rintro ⟨t, ht, h1, h2⟩ h0
    obtain ⟨i, rfl⟩ := Int.eq_ofNat_of_zero_le ht.1
    rw [hasB_nat x i (by omega) (by omega)] at h1
    rw [hasB_nat y i (by omega) (by omega)] at h2
    have h3 : (x &&& y).testBit i = true := by rw [Nat.testBit_and, h1, h2]; rfl
    rw [show x &&& y = 0 by omega, Nat.zero_testBit] at h3
    cases h3
theorem aptB_comm (K : List Kd) (x y : Int) : aptB K x y = aptB K y x := by unfold aptB; exact Bool.or_comm _ _
/-- Both sides say the same of one more beast behind a beginning. -/
theorem fit_full {P : List Int} {K : List Kd} {l p : List Int} {k q : Nat} {st : List Int} (h5 : P.length ≤ 5) (hK : ksOk K = true) (hl : lOk K l = true) (hk : k < l.length) (hq : q < P.length) (hp : p.length = k) (hs : saysS P K l p k st) :
    fitS P K l p k q = !fullS (apL K) st (kdD K (l.getD k 0)) q := by
  obtain ⟨ho, hlen, hsay⟩ := hs
  obtain ⟨a1, a2⟩ := hsay q hq
  have hl9 := lOk_in hK hl
  have hx := kdD_s (lOk_at hl hk)
  have hx9 : 1 ≤ l.getD k 0 ∧ l.getD k 0 ≤ 9 := by
    rw [show l.getD k 0 = l[k] by simp [hk]]; exact hl9 _ (List.getElem_mem _)
  unfold fitS fullS
  rw [hp, fitK_eq k (Nat.le_refl _), hx, a1]
  have hc := clash_iff (K := K) (p := p) (k := k) (q := (q : Int)) hl9 k (by omega)
  have hb := band_iff (ho q (by omega)) (apL_ok hK (l.getD k 0).toNat)
  have key : clashQ K l p k q k = true ↔ band (st.getD (q * 2 + 1) 0) ((apL K).getD (l.getD k 0).toNat 0) ≠ 0 := by
    rw [hc, hb]
    constructor
    · rintro ⟨t, ht, h1, h2⟩
      exact ⟨t, by omega, by rw [a2 t (by omega)]; exact h1, by rw [apL_apt hK hx9 ht, aptB_comm]; exact h2⟩
    · rintro ⟨t, ht, h1, h2⟩
      rw [a2 t ht] at h1
      have ht1 := anyQ_in hl9 k (by omega) h1
      rw [apL_apt hK hx9 ht1, aptB_comm] at h2
      exact ⟨t, ht1, h1, h2⟩
  by_cases hcl : clashQ K l p k q k = true
  · have hbn : (band (st.getD (q * 2 + 1) 0) ((apL K).getD (l.getD k 0).toNat 0) != 0) = true := by simpa using key.1 hcl
    rw [if_pos hcl, hbn]; simp
  · have hbn : (band (st.getD (q * 2 + 1) 0) ((apL K).getD (l.getD k 0).toNat 0) != 0) = false := by
      cases hbb : (band (st.getD (q * 2 + 1) 0) ((apL K).getD (l.getD k 0).toNat 0) != 0)
      · rfl
      · exact absurd (key.2 (by simpa using hbb)) hcl
    rw [if_neg hcl, hbn, Bool.or_false, Int.toNat_natCast]
    generalize (kdD K (l.getD k 0)).r = R
    generalize sumQ K l p q k = S
    generalize P.getD q 0 = T
    by_cases h : R + S ≤ T
    · have h2 : ¬ (T - S < R) := by omega
      simp [h, h2]
    · have h2 : T - S < R := by omega
      simp [h, h2]
end Go.Proofs.YtaieidigpilbfaaGreat

namespace Go.Proofs.YtaieidigpilbfaaGreat
open Go Go.RowKit
set_option maxRecDepth 100000

theorem standK_pre {P ap : List Int} {bs : List Kd} {p : List Int} {x : Int} : ∀ k, k ≤ p.length → standK P ap bs (p ++ [x]) k = standK P ap bs p k
  | 0, _ => rfl
  | k + 1, hk => by
    rw [standK, standK, standK_pre k (by omega)]
    have : (p ++ [x]).getD k 0 = p.getD k 0 := by
      rw [List.getD_eq_getElem?_getD, List.getD_eq_getElem?_getD, List.getElem?_append_left (by omega)]
    rw [this]
/-- A beginning stands, and this is the pens' state. -/
structure Beg (P : List Int) (K : List Kd) (l p st : List Int) : Prop where
  len : p.length ≤ l.length
  run : standK P (apL K) (bsL K l) p p.length = some st
  off : offS P.length st
/-- What a beginning can be led on to, in order. -/
def cmpL (P : List Int) (K : List Kd) (l p st : List Int) : List (List Int) := (plc (apL K) P.length P.length ((bsL K l).drop p.length) st).map (p ++ ·)
/-- With the next beast in one of the first q pens. -/
def cmpQ (P : List Int) (K : List Kd) (l p st : List Int) (q : Nat) : List (List Int) := (plcQ (apL K) P.length P.length ((bsL K l).drop (p.length + 1)) (kdD K (l.getD p.length 0)) st q).map (p ++ ·)
theorem Beg.nil (P : List Int) (K : List Kd) (l : List Int) : Beg P K l [] (st0 P) := ⟨by simp, rfl, offS_0⟩
theorem cmp_nil (P : List Int) (K : List Kd) (l : List Int) : cmpL P K l [] (st0 P) = PL P K l := by
  unfold cmpL PL; simp
theorem cmp_end {P : List Int} {K : List Kd} {l p st : List Int} (h : p.length = l.length) : cmpL P K l p st = [p] := by
  unfold cmpL
  rw [List.drop_of_length_le (by rw [bsL_len]; omega)]
  simp [plc]
theorem cmp_cons {P : List Int} {K : List Kd} {l p st : List Int} (h : p.length < l.length) : cmpL P K l p st = cmpQ P K l p st P.length := by
  unfold cmpL cmpQ
  have hb : p.length < (bsL K l).length := by rw [bsL_len]; exact h
  rw [List.drop_eq_getElem_cons hb, plc_cons]
  have : (bsL K l)[p.length] = kdD K (l.getD p.length 0) := by
    have := bsL_getD (K := K) h
    rwa [show (bsL K l).getD p.length kd0 = (bsL K l)[p.length] by simp [hb]] at this
  rw [this]
theorem cmpQ_0 {P : List Int} {K : List Kd} {l p st : List Int} : cmpQ P K l p st 0 = [] := by unfold cmpQ plcQ; simp
theorem cmpQ_pre {P : List Int} {K : List Kd} {l p st : List Int} (h : p.length < l.length) {q : Nat} (hq : q ≤ P.length) : ∃ t, cmpL P K l p st = cmpQ P K l p st q ++ t := by
  obtain ⟨t, ht⟩ := plcQ_pre (ap := apL K) (np := P.length) (most := P.length) (k := kdD K (l.getD p.length 0)) (ks := (bsL K l).drop (p.length + 1)) (st := st) q (P.length - q)
  rw [show q + (P.length - q) = P.length by omega] at ht
  rw [cmp_cons h]
  unfold cmpQ
  rw [ht, List.map_append]
  exact ⟨_, rfl⟩
theorem cmpQ_no {P : List Int} {K : List Kd} {l p st : List Int} {q : Nat} (h5 : P.length ≤ 5) (hK : ksOk K = true) (hl : lOk K l = true) (hb : Beg P K l p st) (hk : p.length < l.length) (hq : q < P.length) (hf : fitS P K l p p.length q = false) : cmpQ P K l p st (q + 1) = cmpQ P K l p st q := by
  have hs := stand_says h5 hK hl _ hb.len _ hb.run
  have := fit_full h5 hK hl hk hq rfl hs
  rw [hf] at this
  have hfu : fullS (apL K) st (kdD K (l.getD p.length 0)) q = true := by simpa using this.symm
  unfold cmpQ
  rw [plcQ_succ]
  have : plc1 (apL K) P.length P.length ((bsL K l).drop (p.length + 1)) (kdD K (l.getD p.length 0)) st q = [] := by
    unfold plc1 putS; rw [hfu]; rfl
  rw [this, List.append_nil]
theorem cmpQ_yes {P : List Int} {K : List Kd} {l p st : List Int} {q : Nat} (h5 : P.length ≤ 5) (hK : ksOk K = true) (hl : lOk K l = true) (hb : Beg P K l p st) (hk : p.length < l.length) (hq : q < P.length) (hf : fitS P K l p p.length q = true) :
    Beg P K l (p ++ [(q : Int)]) (addS st (kdD K (l.getD p.length 0)) q) ∧ cmpQ P K l p st (q + 1) = cmpQ P K l p st q ++ cmpL P K l (p ++ [(q : Int)]) (addS st (kdD K (l.getD p.length 0)) q) := by
  have hs := stand_says h5 hK hl _ hb.len _ hb.run
  have := fit_full h5 hK hl hk hq rfl hs
  rw [hf] at this
  have hfu : fullS (apL K) st (kdD K (l.getD p.length 0)) q = false := by simpa using this.symm
  have hput : putS (apL K) st (kdD K (l.getD p.length 0)) q = some (addS st (kdD K (l.getD p.length 0)) q) := by unfold putS; rw [hfu]; rfl
  have hoff := offS_add (k := kdD K (l.getD p.length 0)) hb.off hq
  refine ⟨⟨by rw [List.length_append, List.length_singleton]; omega, ?_, hoff⟩, ?_⟩
  · rw [List.length_append, List.length_singleton, standK, standK_pre _ (Nat.le_refl _), hb.run]
    have e : (p ++ [(q : Int)]).getD p.length 0 = (q : Int) := by simp
    rw [e, bsL_getD hk]
    have hin : inB (q : Int) 0 ((P.length : Int) - 1) = true := inB_iff.2 ⟨by omega, by omega⟩
    simp only [hin, if_true, Int.toNat_natCast]
    exact hput
  · unfold cmpQ cmpL
    rw [plcQ_succ, List.map_append]
    congr 1
    unfold plc1
    rw [hput]
    have hu : usedS (addS st (kdD K (l.getD p.length 0)) q) ≤ (P.length : Int) := by
      have := usedK_off hoff 5 (by omega)
      unfold usedS; omega
    have hd : decide ((P.length : Int) < usedS (addS st (kdD K (l.getD p.length 0)) q)) = false := decide_eq_false (by omega)
    simp only [hd, Bool.false_eq_true, if_false, List.map_map, List.length_append, List.length_singleton]
    apply List.map_congr_left
    intro r _
    simp
end Go.Proofs.YtaieidigpilbfaaGreat

namespace Go.Proofs.YtaieidigpilbfaaGreat
open Go Go.RowKit

/-- Slots are written. -/
def puts (a : Act) : List (Nat × Value) → Act
  | [] => a
  | p :: l => puts (a.put (some p.1) p.2) l
theorem wp_midP {P : Program} {c : Code} {Q : Exit → Act → World → Prop} {a : Act} {w : World} {β : Type} (f : β → List (Nat × Value)) (Good : β → World → Prop)
    (h1 : c.wp P (fun e a' w' => e = .normal ∧ ∃ b, a' = puts a (f b) ∧ Good b w') a w) (h2 : ∀ b w', Good b w' → Q .normal (puts a (f b)) w') : c.wp P Q a w :=
  wp_mono h1 fun e a' w' ⟨x, b, y, z⟩ => by subst x; subst y; exact h2 b w' z
/-- Any list more, for one operation whose slot is known. -/
theorem wp_appAnyD {o : Oper} {a : Act} {w : World} {KK : Act → World → Prop} {Q : Exit → Act → World → Prop} {base : Nat} {v : Value} {l : List Int} (K : OI w base v l) (t : Nat) (hd : o.dst = some t) (s x : Operand) (ho : o.op = .call { callee := .builtin .append, args := #[s, x], argTypes := #[22, 22] })
    (hs : a.eval s = v) {B : Option Addr} {m c : Nat} {r : List Int} (hx : a.eval x = .slice B m c) (hI : Is w B m r) (hn : l.length + m ≤ 1000000000) (hb : base ≤ w.heap.size)
    (h : ∀ A' c' w', OI w' base (.slice A' (l ++ r).length c') (l ++ r) → Below base w w' → KK (a.put (some t) (.slice A' (l ++ r).length c')) w') : o.wp Tryz.prog a w KK Q :=
  wp_appAny K s x ho hs hx hI hn hb (by rw [hd]; exact h)
/-- Any list more; what lies in another block stays. -/
theorem wp_appAnyG {o : Oper} {a : Act} {w : World} {KK : Act → World → Prop} {Q : Exit → Act → World → Prop} {base : Nat} {v : Value} {l : List Int} (K : OI w base v l) (t : Nat) (hd : o.dst = some t) (s x : Operand) (ho : o.op = .call { callee := .builtin .append, args := #[s, x], argTypes := #[22, 22] })
    (hs : a.eval s = v) {B : Option Addr} {m c : Nat} {r : List Int} (hx : a.eval x = .slice B m c) (hI : Is w B m r) (hn : l.length + m ≤ 1000000000) (hb : base ≤ w.heap.size)
    (h : ∀ A' c' w', OI w' base (.slice A' (l ++ r).length c') (l ++ r) → Below base w w' → (∀ b, b < w.heap.size → v.ownBlock ≠ some b → w'.heap[b]? = w.heap[b]?) → KK (a.put (some t) (.slice A' (l ++ r).length c')) w') : o.wp Tryz.prog a w KK Q := by
  have hml := hI.len
  by_cases hm : m = 0
  · have hr : r = [] := List.eq_nil_of_length_eq_zero (by omega)
    subst hr
    subst hm
    obtain ⟨A', c', e⟩ := K.shape
    have h2 := h A' c' w (by rw [List.append_nil]; rw [← e]; exact K) (Below.refl _ _) (fun _ _ _ => rfl)
    rw [List.append_nil, ← e, ← hd] at h2
    exact Lib.wp_append_run _ _ _ _ _ ho _ _ hs hx _ _ (run_append_empty _ _ _ _ _ _ _ _ K.h) h2
  · obtain ⟨i0, hi, hz0, hz1, hz2⟩ := info_parts info3
    obtain ⟨b, ob, rfl, _, _⟩ := hI.get 0 (by omega)
    refine wp_append_own _ s x 22 ho base 3 i0 (.int .i64 0) 1 8 Tryz.underlying22 hi hz0 hz1 hz2 rfl (by decide) v l.length (ints l) hs K.h ⟨b, ob, none⟩ m c (ints r) hx (by simp [ints, hml]) ?_ ?_ (by unfold maxLen; omega) (by omega) hb ?_
    · intro j u hu
      have hj : j < r.length := by have := (List.getElem?_eq_some_iff.1 hu).1; simpa [ints] using this
      obtain ⟨b2, o2, e, _, hc⟩ := hI.get j hj
      cases e
      rw [Addr.add_lit, hc]
      simpa [ints, hj] using hu
    · intro u hu; simp [ints] at hu; obtain ⟨z, _, rfl⟩ := hu; rfl
    · intro v' w' h1 h2 _
      have h3 : OI w' base v' (l ++ r) := ⟨by rw [List.length_append, ← hml, show ints (l ++ r) = ints l ++ ints r by simp [ints]]; exact h1⟩
      obtain ⟨A', c', e⟩ := h3.shape
      subst e
      rw [hd]
      exact h A' c' w' h3 (below_grown K.h hb h2) (fun b hlt hne => h2.block b hlt (fun q => hne q.symm))
theorem run_append_emptyL (ty : TypeId) (w : World) (base : Nat) (v : Value) (n : Nat) (xs : List Value) (A : Option Addr) (c : Nat) (hown : w.ownsRow base 22 1 v n xs) :
    (Builtin.append_ #[100, 100] ty #[v, .slice A 0 c]).run Tryz.prog w = .ok v w := by
  obtain ⟨i0, hi, hz0, hz1, hz2⟩ := info_parts info22
  rcases hown.2 with ⟨rfl, rfl⟩ | ⟨g, cap, cur, rfl, _, _, hnc, _⟩ <;> cases A <;>
    simp [Builtin.append_, run_underlying Tryz.underlying100, run_underlying Tryz.underlying30, sizeOf, typeInfo, hi, hz1, Builtin.lenOf, Builtin.firstCells, loadCells, loadCellsFrom, storeCells, *]
section
variable {ops : Array Oper} {rest : List Oper} {o : Oper} {a : Act} {w : World} {Q : Exit → Act → World → Prop}
/-- Lists more, whose number is known. -/
theorem wpList_appLLn {base base' : Nat} {v u : Value} {xs ys : List (List Int)} (N : Nat) (hN : (xs ++ ys).length = N) (K : LL w base v xs) (s x : Operand) (hgd : o.guard = none) (ho : o.op = .call { callee := .builtin .append, args := #[s, x], argTypes := #[100, 100] })
    (hs : a.eval s = v) (hx : a.eval x = u) (hI : LL w base' u ys) (hm : ys.length ≠ 0) (hn : xs.length + ys.length ≤ 1000000000) (hb : base ≤ w.heap.size)
    (h : ∀ A' c' w', LL w' base (.slice A' N c') (xs ++ ys) → Below base w w' → wpList Tryz.prog ops Q rest (a.put o.dst (.slice A' N c')) w') : wpList Tryz.prog ops Q (o :: rest) a w := by
  subst hN
  exact wpList_appLL K s x hgd ho hs hx hI hm hn hb h
end
end Go.Proofs.YtaieidigpilbfaaGreat

namespace Go.Proofs.YtaieidigpilbfaaGreat
open Go Go.RowKit
set_option maxHeartbeats 2000000
set_option maxRecDepth 100000

section
variable (A : Option Addr) (n c : Nat) (P : List Int) (B : Option Addr) (m d : Nat) (K : List Kd) (L : Option Addr) (r s : Nat) (l : List Int)
theorem search_leaf (h40 : l.length ≤ 1000) (C : Option Addr) (u v : Nat) (p st : List Int) (M : Nat) (w : World) (hp : p.length = l.length) (hl : Is w L r l) (hc : Is w C u p) (hM : 1 ≤ M) :
    Calls Tryz.prog 77 #[.agg #[.slice A n c, .slice B m d], .slice L r s, .slice C u v, .int .i64 (M : Int)] w fun e w' => ∃ x, e = .returned x ∧ LL w' w.heap.size x ((cmpL P K l p st).take M) ∧ Below w.heap.size w w' := by
  have him : ((u : Int) == (r : Int)) = true := by have := hl.len; have := hc.len; simp; omega
  have hu : u ≤ 1000 := by have := hc.len; omega
  have HX : Hid ((cmpL P K l p st).take M = [p]) := Lib.hid (by rw [cmp_end hp, List.take_of_length_le (by simp; omega)])
  rw [HX.out]
  have Hc := Lib.hid hc
  clear hc hl hp HX
  go_enter Tryz.func77, Tryz.ntmps77
  go_upto_region 1 with fail
  generalize hW : (World.alloc _ _) = W
  have HB : Hid (Below w.heap.size w W) := Lib.hid (by subst hW; go_grown)
  have KY : Bx W (w.heap.size) 25 [.slice A n c, .slice B m d] := by subst hW; repeat (first | (refine Bx.newAt _ _ _ ?_; first | rfl | (simp only [World.size_alloc]; done) | (simp only [World.size_alloc]; omega)) | refine Bx.old ?_ _)
  clear hW
  have KYl := KY.lt; have KYc := KY.get; have KYf := KY.fr
  have hWs := HB.out.size
  have HO := Lib.hid (show OI (W.alloc (.cells #[] 3)) w.heap.size (.slice (some ⟨W.heap.size, 0, none⟩) 0 0) [] from ⟨World.ownsRow_made W #[] 0 (by omega) (by unfold maxLen; omega) rfl⟩)
  have hb1 := up_alloc W (.cells #[] 3)
  have HC1 := Lib.hid ((Hc.out.keep HB.out).keep hb1)
  have HB1 := Lib.hid (up HB.out hb1)
  clear hb1
  go_wp2_with (at_builtin; refine wpList_appAny HO.out (.tmp 17) (.tmp 18) rfl rfl rfl rfl HC1.out (by simp; omega) (by have := HB1.out.size; omega) ?_; intro A' c' X hO hb; have HX := Lib.hid hO; have HBX := Lib.hid (HB1.out.trans hb); clear hO hb)
  go_ret
  exact ⟨_, rfl, LL.one HX.out (by have := HBX.out.size; omega), up HBX.out (up_alloc _ _)⟩
end
end Go.Proofs.YtaieidigpilbfaaGreat

namespace Go.Proofs.YtaieidigpilbfaaGreat
open Go Go.RowKit
set_option maxHeartbeats 4000000
set_option maxRecDepth 100000

section
variable (A : Option Addr) (n c : Nat) (P : List Int) (B : Option Addr) (m d : Nat) (K : List Kd) (L : Option Addr) (r s : Nat) (l : List Int)
theorem rsearch_any (h5 : P.length ≤ 5) (hK : ksOk K = true) (hlo : lOk K l = true) (h40 : l.length ≤ 1000) :
    ∀ (F : Nat) (C : Option Addr) (u v : Nat) (p st : List Int) (M : Nat) (w : World), l.length - p.length ≤ F → Beg P K l p st → Is w A n P → Ks w B m K → Is w L r l → Is w C u p → 1 ≤ M → M ≤ 1000000 →
    Calls Tryz.prog 77 #[.agg #[.slice A n c, .slice B m d], .slice L r s, .slice C u v, .int .i64 (M : Int)] w fun e w' => ∃ x, e = .returned x ∧ LL w' w.heap.size x ((cmpL P K l p st).take M) ∧ Below w.heap.size w w' := by
  intro F
  have HK := Lib.hid hK; have HL := Lib.hid hlo
  clear hK hlo
  induction F with
  | zero =>
    intro C u v p st M w hF hb hA hg hl hc hM hM2
    exact search_leaf A n c P B m d K L r s l h40 C u v p st M w (by have := hb.len; omega) hl hc hM
  | succ F ih =>
    intro C u v p st M w hF hb hA hg hl hc hM hM2
    by_cases hend : p.length = l.length
    · exact search_leaf A n c P B m d K L r s l h40 C u v p st M w hend hl hc hM
    · have hpl : p.length < l.length := by have := hb.len; omega
      obtain rfl : u = p.length := hc.len
      have him : ((p.length : Int) == (r : Int)) = false := by have := hl.len; simp; omega
      have Hb := Lib.hid hb; have Ih := Lib.hid ih
      have Hn : Hid (n = P.length) := Lib.hid hA.len
      have HA := Lib.hid hA; have Hg := Lib.hid hg; have Hl := Lib.hid hl; have Hc := Lib.hid hc
      have hnx := hA.small
      have Hend := Lib.hid hend
      clear hb ih hA hg hl hc hend
      go_enter Tryz.func77, Tryz.ntmps77
      go_upto_region 1 with fail
      generalize hW : (World.alloc _ _) = W
      have HB : Hid (Below w.heap.size w W) := Lib.hid (by subst hW; go_grown)
      have KY : Bx W (w.heap.size) 25 [.slice A n c, .slice B m d] := by subst hW; repeat (first | (refine Bx.newAt _ _ _ ?_; first | rfl | (simp only [World.size_alloc]; done) | (simp only [World.size_alloc]; omega)) | refine Bx.old ?_ _)
      clear hW
      have KYl := KY.lt; have KYc := KY.get; have KYf := KY.fr
      go_wp2_with fail
      clear KYl KYc KYf
      go_loopw [9, 24] (fun o i wr => ∃ (q : Nat), q ≤ n ∧ i = .int .i64 (q : Int) ∧ LL wr (w.heap.size + 1) o (cmpQ P K l p st q) ∧ (cmpQ P K l p st q).length < M ∧ Below w.heap.size w wr ∧ Bx wr w.heap.size 25 [.slice A n c, .slice B m d]) (fun _ i _ => n - (intOf i).toNat)
      case atStart => exact ⟨0, by omega, rfl, by rw [cmpQ_0]; exact LL.nil _ _, by rw [cmpQ_0]; simp; omega, HB.out, KY⟩
      case round =>
        clear KY HB
        obtain ⟨q, hq, rfl, ho, hlt, hb, KY⟩ := hrel
        have HO := Lib.hid ho; have HB := Lib.hid hb; have Hlt := Lib.hid hlt
        obtain ⟨Ao, co, rfl, _, _⟩ := ho.shape
        clear ho hb hlt
        by_cases hqn : q < n
        · have hqP : q < P.length := by rw [← Hn.out]; exact hqn
          have KYl := KY.lt; have KYc := KY.get; have KYf := KY.fr
          cases hf : fitS P K l p p.length q
          · have HQ : Hid (cmpQ P K l p st (q + 1) = cmpQ P K l p st q) := Lib.hid (cmpQ_no h5 HK.out HL.out Hb.out hpl hqP hf)
            have Hf := Lib.hid hf
            clear hf
            generalize hno : (cmpQ P K l p st q).length = no at *
            have Hno := Lib.hid hno
            clear hno
            go_wp2_with (go_at_call 86; refine (rfits_b A n c P B m d K L r s l C p.length v p _ (HA.out.keep HB.out) (Hg.out.keep HB.out) (Hl.out.keep HB.out) (Hc.out.keep HB.out) p.length q false HK.out HL.out hpl (Nat.le_of_lt hpl) hqP h40 Hf.out).mono ?_; rintro e X ⟨rfl, hbx⟩; have HOX := Lib.hid (HO.out.keep hbx); clear KYl KYc KYf; replace KY := KY.keep hbx; have KYl := KY.lt; have KYc := KY.get; have KYf := KY.fr; replace HB := Lib.hid (up HB.out hbx); clear hbx)
            exact ⟨⟨q + 1, by omega, by go_num, by rw [HQ.out]; exact HOX.out, by rw [HQ.out, Hno.out]; exact Hlt.out, HB.out, KY⟩, by simp [intOf]; omega⟩
          · have hs2 := cmpQ_yes h5 HK.out HL.out Hb.out hpl hqP hf
            have Hb2 := Lib.hid hs2.1; have HQ := Lib.hid hs2.2
            have Hf := Lib.hid hf
            clear hf hs2
            generalize addS st (kdD K (l.getD p.length 0)) q = st2 at *
            generalize hno : (cmpQ P K l p st q).length = no at *
            have Hno := Lib.hid hno
            have hnoM : no < M := Hlt.out
            clear hno
            have e1 : IntKind.i64.wrap ((M : Int) - (no : Int)) = ((M - no : Nat) : Int) := by rw [IntWalk.i64_in _ (by omega)]; omega
            go_upto_region 8 with (go_at_call 86; refine (rfits_b A n c P B m d K L r s l C p.length v p _ (HA.out.keep HB.out) (Hg.out.keep HB.out) (Hl.out.keep HB.out) (Hc.out.keep HB.out) p.length q true HK.out HL.out hpl (Nat.le_of_lt hpl) hqP h40 Hf.out).mono ?_; rintro e X ⟨rfl, hbx⟩; have HOX := Lib.hid (HO.out.keep hbx); clear KYl KYc KYf; replace KY := KY.keep hbx; have KYl := KY.lt; have KYc := KY.get; have KYf := KY.fr; replace HB := Lib.hid (up HB.out hbx); clear hbx)
            clear KYl KYc KYf
            obtain ⟨i0, hi0, hz0, hz1, hz2⟩ := info_parts info3
            have HI0 := Lib.hid hi0; have HZ0 := Lib.hid hz0; have HZ1 := Lib.hid hz1
            clear hi0 hz0 hz1 hz2
            have HKY := Lib.hid KY
            clear KY
            have hXw := HB.out.size
            refine wp_midP (fun b : Value × Value × Value × Value × Value => [(35, .agg #[.slice A n c, .slice B m d]), (36, .slice L r s), (37, b.1), (38, .slice C p.length v), (39, b.2.1), (40, .int .i64 (q : Int)), (41, b.2.2.1), (42, b.2.2.2.1), (43, .int .i64 (M : Int)), (44, .slice Ao no co), (45, .int .i64 (no : Int)), (46, .int .i64 ((M - no : Nat) : Int)), (47, b.2.2.2.2), (11, b.2.2.2.2)])
              (fun b w' => LL w' X.heap.size b.2.2.2.2 ((cmpL P K l (p ++ [(q : Int)]) st2).take (M - no)) ∧ Below X.heap.size X w') ?_ ?_
            · refine wp_region_takesG 12 6 [0, 1, 3, 5, 8, 9, 10, 11] (by kernel_rfl) (by kernel_rfl) (by kernel_rfl) (by kernel_rfl) (by decide) (fun _ _ _ _ _ h => by cases h.1) (by kernel_rfl) rfl ?_
              refine wpTakes_step (v := .agg #[.slice A n c, .slice B m d]) rfl (by rfl) ?_ ?_
              · (rintro _ ⟨z9, rfl⟩; exact run_get 25 (.tmp 4) rfl rfl (cell_res (HKY.out.keep (grow_below X z9)) Tryz.underlying25 rfl (by kernel_rfl)))
              simp only [Act.put, List.setIfInBounds_toArray, List.set_cons_zero, List.set_cons_succ]
              refine wpTakes_step (v := ?_) rfl (by rfl) ?_ ?_
              rotate_left
              · (rintro _ ⟨z9, rfl⟩; go_simp; try (with_reducible rfl))
              simp only [Act.put, List.setIfInBounds_toArray, List.set_cons_zero, List.set_cons_succ]
              refine wpTakes_step (v := ?_) rfl (by rfl) ?_ ?_
              rotate_left
              · (rintro _ ⟨z9, rfl⟩; go_simp; try (with_reducible rfl))
              simp only [Act.put, List.setIfInBounds_toArray, List.set_cons_zero, List.set_cons_succ]
              refine wpTakes_step (v := ?_) rfl (by rfl) ?_ ?_
              rotate_left
              · (rintro _ ⟨z9, rfl⟩; go_simp; try (with_reducible rfl))
              simp only [Act.put, List.setIfInBounds_toArray, List.set_cons_zero, List.set_cons_succ]
              refine wpTakes_step (v := ?_) rfl (by rfl) ?_ ?_
              rotate_left
              · (rintro _ ⟨z9, rfl⟩; go_simp; try (with_reducible rfl))
              simp only [Act.put, List.setIfInBounds_toArray, List.set_cons_zero, List.set_cons_succ]
              refine wpTakes_step (v := ?_) rfl (by rfl) ?_ ?_
              rotate_left
              · (rintro _ ⟨z9, rfl⟩; go_simp; try (with_reducible rfl))
              simp only [Act.put, List.setIfInBounds_toArray, List.set_cons_zero, List.set_cons_succ]
              refine wpTakes_step (v := ?_) rfl (by rfl) ?_ ?_
              rotate_left
              · (rintro _ ⟨z9, rfl⟩; go_simp; try (with_reducible rfl))
              simp only [Act.put, List.setIfInBounds_toArray, List.set_cons_zero, List.set_cons_succ]
              refine wpTakes_step (v := ?_) rfl (by rfl) ?_ ?_
              rotate_left
              · (rintro _ ⟨z9, rfl⟩; go_simp; try (with_reducible rfl))
              simp only [Act.put, List.setIfInBounds_toArray, List.set_cons_zero, List.set_cons_succ]
              simp only [wpTakes]
              refine wpAnyT_step2 (i := 2) (j := 6) (by kernel_rfl) rfl rfl rfl rfl ?_ ?_
              · refine makes_grown (makes_slice Tryz.underlying22 HI0.out HZ0.out rfl (by rw [HZ1.out]; decide)) (below_grow (show Below X.heap.size X X.drew by go_grown)) ?_
                go_wp2_with fail
                have b1 := up_alloc X (.cells #[] 3)
                have o1 : OI (X.alloc (.cells #[] 3)) X.heap.size (.slice (some ⟨X.heap.size, 0, none⟩) 0 0) [] := ⟨World.ownsRow_made X #[] 0 (Nat.le_refl _) (by unfold maxLen; omega) rfl⟩
                have hs1 : X.heap.size < (X.alloc (.cells #[] 3)).heap.size := by simp
                generalize X.alloc (.cells #[] 3) = V0 at *
                have b2 : Below V0.heap.size V0 V0.drew := by go_grown
                replace o1 := o1.keep b2
                have bV1 := up b1 b2
                have hs2 : X.heap.size < V0.drew.heap.size := by have := b2.size; omega
                generalize V0.drew = V1 at *
                clear b1 b2 hs1
                refine wpAnyT_step2 (i := 4) (j := 6) (by kernel_rfl) rfl rfl rfl rfl ?_ ?_
                · refine wp_appAnyD o1 39 rfl (.tmp 37) (.tmp 38) rfl rfl rfl ((Hc.out.keep HB.out).keep bV1) (by simp; omega) (by omega) ?_
                  intro A2 c2 V2 o2 bb2
                  have bV2 := bV1.trans bb2
                  clear o1 bb2 bV1
                  refine ⟨below_grow bV2, ?_⟩
                  simp only [Act.put, List.setIfInBounds_toArray, List.set_cons_zero, List.set_cons_succ]
                  simp only [List.nil_append] at o2 ⊢
                  refine wpAnyT_step (i := 6) rfl (by kernel_rfl) rfl ?_
                  refine makes_grown (makes_slice Tryz.underlying22 HI0.out HZ0.out rfl (by rw [HZ1.out]; decide)) (below_grow bV2) ?_
                  go_wp2_with fail
                  have b6 := up_alloc V2 (.cells #[.int .i64 (q : Int)] 3)
                  have i6 : Is (V2.alloc (.cells #[.int .i64 (q : Int)] 3)) (some ⟨V2.heap.size, 0, none⟩) 1 [(q : Int)] := isC V2 3 [(q : Int)] (by simp)
                  generalize V2.alloc (.cells #[.int .i64 (q : Int)] 3) = V6 at *
                  have o3 := o2.keep b6
                  have bV3 := up bV2 b6
                  clear o2 b6 bV2
                  refine wpAnyT_step (i := 7) rfl (by kernel_rfl) rfl ?_
                  refine wp_appAnyD o3 42 rfl (.tmp 39) (.tmp 41) rfl rfl rfl i6 (by simp; omega) bV3.size ?_
                  intro A9 c9 V9 o9 bb9
                  have bV9 := bV3.trans bb9
                  clear o3 i6 bb9 bV3
                  refine ⟨below_grow bV9, ?_⟩
                  simp only [Act.put, List.setIfInBounds_toArray, List.set_cons_zero, List.set_cons_succ]
                  try simp only [List.nil_append] at o9
                  refine wpAnyT_tail rfl (by kernel_rfl) (by kernel_rfl) ?_
                  simp only [List.drop_succ_cons, List.drop_zero]
                  have HBY := Lib.hid (up HB.out bV9)
                  obtain ⟨A5, c5, e5, hc5, his, _⟩ := o9.is
                  cases e5
                  rw [show (p ++ [(q : Int)]).length = p.length + 1 by simp] at his
                  have HC := Lib.hid (Ih.out A9 (p.length + 1) c9 (p ++ [(q : Int)]) st2 (M - no) V9 (by simp; omega) Hb2.out (HA.out.keep HBY.out) (Hg.out.keep HBY.out) (Hl.out.keep HBY.out) his (by omega) (by omega))
                  have Hb9 := Lib.hid bV9
                  clear o9 his bV9
                  go_wp2_with (go_at_call 77; refine HC.out.mono ?_; rintro e Z ⟨x, rfl, hx, hbz⟩; have hxm := hx.mono Hb9.out.size; have hbz2 := Hb9.out.trans (hbz.mono Hb9.out.size))
                  exact ⟨_, _, _, _, x, by (simp only [puts, Act.put, List.setIfInBounds_toArray, List.set_cons_zero, List.set_cons_succ] <;> rfl), hxm⟩
                · refine makes_grown (makes_slice Tryz.underlying22 HI0.out HZ0.out rfl (by rw [HZ1.out]; decide)) (below_grow bV1) ?_
                  go_wp2_with fail
                  have b6 := up_alloc V1 (.cells #[.int .i64 (q : Int)] 3)
                  have i6 : Is (V1.alloc (.cells #[.int .i64 (q : Int)] 3)) (some ⟨V1.heap.size, 0, none⟩) 1 [(q : Int)] := isC V1 3 [(q : Int)] (by simp)
                  generalize V1.alloc (.cells #[.int .i64 (q : Int)] 3) = V6 at *
                  have o2 := o1.keep b6
                  have bV2 := up bV1 b6
                  clear o1 b6 
                  refine wpAnyT_step (i := 4) rfl (by kernel_rfl) rfl ?_
                  refine wp_appAnyG o2 39 rfl (.tmp 37) (.tmp 38) rfl rfl rfl ((Hc.out.keep HB.out).keep bV2) (by simp; omega) bV2.size ?_
                  intro A2 c2 V3 o3 bb3 hk3
                  have i7 : Is V3 (some ⟨V1.heap.size, 0, none⟩) 1 [(q : Int)] := i6.off bb3.size (fun pp e hlt => by cases e; exact hk3 _ hlt (fun h => by have h' : X.heap.size = V1.heap.size := Option.some.inj h; omega))
                  have bV3 := bV2.trans bb3
                  clear o2 bb3 bV2 hk3 i6 bV1
                  refine ⟨below_grow bV3, ?_⟩
                  simp only [Act.put, List.setIfInBounds_toArray, List.set_cons_zero, List.set_cons_succ]
                  simp only [List.nil_append] at o3 ⊢
                  refine wpAnyT_step (i := 7) rfl (by kernel_rfl) rfl ?_
                  refine wp_appAnyD o3 42 rfl (.tmp 39) (.tmp 41) rfl rfl rfl i7 (by simp; omega) bV3.size ?_
                  intro A9 c9 V9 o9 bb9
                  have bV9 := bV3.trans bb9
                  clear o3 i7 bb9 bV3
                  refine ⟨below_grow bV9, ?_⟩
                  simp only [Act.put, List.setIfInBounds_toArray, List.set_cons_zero, List.set_cons_succ]
                  try simp only [List.nil_append] at o9
                  refine wpAnyT_tail rfl (by kernel_rfl) (by kernel_rfl) ?_
                  simp only [List.drop_succ_cons, List.drop_zero]
                  have HBY := Lib.hid (up HB.out bV9)
                  obtain ⟨A5, c5, e5, hc5, his, _⟩ := o9.is
                  cases e5
                  rw [show (p ++ [(q : Int)]).length = p.length + 1 by simp] at his
                  have HC := Lib.hid (Ih.out A9 (p.length + 1) c9 (p ++ [(q : Int)]) st2 (M - no) V9 (by simp; omega) Hb2.out (HA.out.keep HBY.out) (Hg.out.keep HBY.out) (Hl.out.keep HBY.out) his (by omega) (by omega))
                  have Hb9 := Lib.hid bV9
                  clear o9 his bV9
                  go_wp2_with (go_at_call 77; refine HC.out.mono ?_; rintro e Z ⟨x, rfl, hx, hbz⟩; have hxm := hx.mono Hb9.out.size; have hbz2 := Hb9.out.trans (hbz.mono Hb9.out.size))
                  exact ⟨_, _, _, _, x, by (simp only [puts, Act.put, List.setIfInBounds_toArray, List.set_cons_zero, List.set_cons_succ] <;> rfl), hxm⟩
              · refine makes_grown (makes_slice Tryz.underlying22 HI0.out HZ0.out rfl (by rw [HZ1.out]; decide)) (below_grow (show Below X.heap.size X X.drew by go_grown)) ?_
                go_wp2_with fail
                have hs6 : X.heap.size < (X.alloc (.cells #[.int .i64 (q : Int)] 3)).heap.size := by simp
                have b6 := up_alloc X (.cells #[.int .i64 (q : Int)] 3)
                have i6 : Is (X.alloc (.cells #[.int .i64 (q : Int)] 3)) (some ⟨X.heap.size, 0, none⟩) 1 [(q : Int)] := isC X 3 [(q : Int)] (by simp)
                generalize X.alloc (.cells #[.int .i64 (q : Int)] 3) = V6 at *
                have b2 : Below V6.heap.size V6 V6.drew := by go_grown
                have hXlt : X.heap.size < V6.drew.heap.size := by have := b2.size; omega
                replace i6 := i6.keep b2
                have bV1 := up b6 b2
                generalize V6.drew = V1 at *
                clear b6 b2
                refine wpAnyT_step (i := 2) rfl (by kernel_rfl) rfl ?_
                refine makes_grown (makes_slice Tryz.underlying22 HI0.out HZ0.out rfl (by rw [HZ1.out]; decide)) (below_grow bV1) ?_
                go_wp2_with fail
                have b1 := up_alloc V1 (.cells #[] 3)
                have o1 : OI (V1.alloc (.cells #[] 3)) V1.heap.size (.slice (some ⟨V1.heap.size, 0, none⟩) 0 0) [] := ⟨World.ownsRow_made V1 #[] 0 (Nat.le_refl _) (by unfold maxLen; omega) rfl⟩
                have hs1 : V1.heap.size < (V1.alloc (.cells #[] 3)).heap.size := by simp
                generalize V1.alloc (.cells #[] 3) = V0 at *
                replace i6 := i6.keep b1
                have bV2 := up bV1 b1
                have hsz := bV1.size
                refine wpAnyT_step (i := 4) rfl (by kernel_rfl) rfl ?_
                refine wp_appAnyD o1 39 rfl (.tmp 37) (.tmp 38) rfl rfl rfl ((Hc.out.keep HB.out).keep bV2) (by simp; omega) (by omega) ?_
                intro A2 c2 V2 o2 bb2
                have i7 : Is V2 (some ⟨X.heap.size, 0, none⟩) 1 [(q : Int)] := i6.keepP (B := V1.heap.size) (fun pp e => by cases e; exact hXlt) bb2
                have bV3 := bV2.trans (bb2.mono hsz)
                clear o1 bV2 b1
                refine ⟨below_grow bV3, ?_⟩
                simp only [Act.put, List.setIfInBounds_toArray, List.set_cons_zero, List.set_cons_succ]
                simp only [List.nil_append] at o2 ⊢
                refine wpAnyT_step (i := 7) rfl (by kernel_rfl) rfl ?_
                refine wp_appAnyD o2 42 rfl (.tmp 39) (.tmp 41) rfl rfl rfl i7 (by simp; omega) (by have := bb2.size; omega) ?_
                intro A9 c9 V9 o9 bb9
                have bV9 := bV3.trans (bb9.mono hsz)
                clear o2 i7 bb9 bV3 bb2
                refine ⟨below_grow bV9, ?_⟩
                simp only [Act.put, List.setIfInBounds_toArray, List.set_cons_zero, List.set_cons_succ]
                try simp only [List.nil_append] at o9
                refine wpAnyT_tail rfl (by kernel_rfl) (by kernel_rfl) ?_
                simp only [List.drop_succ_cons, List.drop_zero]
                have HBY := Lib.hid (up HB.out bV9)
                obtain ⟨A5, c5, e5, hc5, his, _⟩ := o9.is
                cases e5
                rw [show (p ++ [(q : Int)]).length = p.length + 1 by simp] at his
                have HC := Lib.hid (Ih.out A9 (p.length + 1) c9 (p ++ [(q : Int)]) st2 (M - no) V9 (by simp; omega) Hb2.out (HA.out.keep HBY.out) (Hg.out.keep HBY.out) (Hl.out.keep HBY.out) his (by omega) (by omega))
                have Hb9 := Lib.hid bV9
                clear o9 his bV9
                go_wp2_with (go_at_call 77; refine HC.out.mono ?_; rintro e Z ⟨x, rfl, hx, hbz⟩; have hxm := hx.mono Hb9.out.size; have hbz2 := Hb9.out.trans (hbz.mono Hb9.out.size))
                exact ⟨_, _, _, _, x, by (simp only [puts, Act.put, List.setIfInBounds_toArray, List.set_cons_zero, List.set_cons_succ] <;> rfl), hxm⟩
            · rintro ⟨v37, v39, v41, v42, x⟩ Z ⟨hx, hbz⟩
              dsimp only at hx
              simp only [puts, Act.put, List.setIfInBounds_toArray, List.set_cons_zero, List.set_cons_succ]
              have hKl := HKY.out.lt
              have HBZ := Lib.hid (up HB.out hbz)
              have HOZ := Lib.hid (HOX.out.keep hbz)
              have KZ := HKY.out.keep hbz
              have hZs := hbz.size
              obtain ⟨xA, xc, rfl, hxc, hxl⟩ := hx.shape
              obtain ⟨more, hmore⟩ : ∃ more, (cmpL P K l (p ++ [(q : Int)]) st2).take (M - no) = more := ⟨_, rfl⟩
              rw [hmore] at hx hxc hxl ⊢
              have hml : more.length ≤ M - no := by rw [← hmore, List.length_take]; omega
              have hcat : (cmpQ P K l p st q ++ more).length = no + more.length := by rw [List.length_append, Hno.out]
              clear HKY HOX HO HB
              by_cases hm : more.length = 0
              · have hnil : more = [] := List.eq_nil_of_length_eq_zero hm
                have hall : cmpL P K l (p ++ [(q : Int)]) st2 = [] := by
                  have h1 : ((cmpL P K l (p ++ [(q : Int)]) st2).take (M - no)).length = 0 := by rw [hmore]; exact hm
                  rw [List.length_take] at h1
                  exact List.eq_nil_of_length_eq_zero (by omega)
                have HN : Hid (cmpQ P K l p st (q + 1) = cmpQ P K l p st q) := Lib.hid (by rw [HQ.out, hall, List.append_nil])
                obtain ⟨rows, ho1, _⟩ := HOZ.out.ex
                rw [Hno.out] at ho1
                rw [hm]
                have Ho1 := Lib.hid ho1
                clear hx hmore hall hcat ho1
                go_wp2_with (at_builtin; refine Lib.wpList_append_run _ rfl _ _ _ _ rfl _ _ rfl rfl _ _ (run_append_emptyL _ _ _ _ _ _ _ _ Ho1.out) ?_)
                exact ⟨⟨q + 1, by omega, by go_num, by rw [HN.out]; exact HOZ.out, by rw [HN.out, Hno.out]; exact hnoM, HBZ.out, KZ⟩, by simp [intOf]; omega⟩
              have Hx := Lib.hid hx
              have Hcat := Lib.hid hcat
              have Hmore := Lib.hid hmore
              have hnl : (cmpQ P K l p st q).length + more.length ≤ 1000000000 := by rw [Hno.out]; omega
              have hzz : w.heap.size + 1 ≤ Z.heap.size := by omega
              clear hx hcat hmore
              by_cases hge : M ≤ no + more.length
              · have HT : Hid ((cmpL P K l p st).take M = cmpQ P K l p st q ++ more) := Lib.hid (by
                  obtain ⟨t, ht⟩ := cmpQ_pre (P := P) (K := K) (st := st) hpl (q := q + 1) (by omega)
                  rw [ht, HQ.out, List.append_assoc, List.take_append, Hno.out, List.take_of_length_le (by rw [Hno.out]; omega), List.take_append_of_le_length, Hmore.out]
                  have h1 := congrArg List.length Hmore.out
                  rw [List.length_take] at h1
                  omega)
                go_wp2_with (at_builtin; refine wpList_appLLn (no + more.length) Hcat.out HOZ.out (.tmp 48) (.tmp 49) rfl rfl rfl rfl Hx.out hm hnl hzz ?_; intro A3 c3 U hU hbU; have HU := Lib.hid hU; have HbU := Lib.hid hbU; clear hU hbU)
                go_ret
                exact ⟨_, rfl, by rw [HT.out]; exact HU.out.mono (by omega), HBZ.out.trans (HbU.out.mono (by omega))⟩
              · have HN : Hid (cmpQ P K l p st (q + 1) = cmpQ P K l p st q ++ more) := Lib.hid (by
                  rw [HQ.out]
                  have h1 := congrArg List.length Hmore.out
                  rw [List.length_take] at h1
                  have h2 : cmpL P K l (p ++ [(q : Int)]) st2 = more := by rw [← Hmore.out, List.take_of_length_le (by omega)]
                  rw [h2])
                go_wp2_with (at_builtin; refine wpList_appLLn (no + more.length) Hcat.out HOZ.out (.tmp 48) (.tmp 49) rfl rfl rfl rfl Hx.out hm hnl hzz ?_; intro A3 c3 U hU hbU; have HU := Lib.hid hU; have HbU := Lib.hid hbU; clear hU hbU)
                exact ⟨⟨q + 1, by omega, by go_num, by rw [HN.out]; exact HU.out, by rw [HN.out, Hcat.out]; omega, HBZ.out.trans (HbU.out.mono (by omega)), KZ.keepB HbU.out (by omega)⟩, by simp [intOf]; omega⟩
        · obtain rfl : q = n := by omega
          have HE : Hid ((cmpL P K l p st).take M = cmpQ P K l p st q) := Lib.hid (by rw [cmp_cons hpl, ← Hn.out, List.take_of_length_le (Nat.le_of_lt Hlt.out)])
          go_wp2
          go_ret
          exact ⟨_, rfl, by rw [HE.out]; exact HO.out.mono (by omega), HB.out⟩
end
end Go.Proofs.YtaieidigpilbfaaGreat

namespace Go.Proofs.YtaieidigpilbfaaGreat
open Go Go.RowKit
set_option maxHeartbeats 2000000
set_option maxRecDepth 100000

section
variable (A : Option Addr) (n c : Nat) (P : List Int) (B : Option Addr) (m d : Nat) (K : List Kd) (L : Option Addr) (r s : Nat) (l : List Int)
theorem rsearch0 (h5 : P.length ≤ 5) (hK : ksOk K = true) (hlo : lOk K l = true) (h40 : l.length ≤ 1000) (M : Nat) (hM : 1 ≤ M) (hM2 : M ≤ 1000000) (w : World) (hp : Is w A n P) (hg : Ks w B m K) (hl : Is w L r l) (q : List (List Int)) (hq : (PL P K l).take M = q) :
    Calls Tryz.prog 77 #[.agg #[.slice A n c, .slice B m d], .slice L r s, .slice none 0 0, .int .i64 (M : Int)] w fun e w' => ∃ C cc, e = .returned (.slice C q.length cc) ∧ LL w' w.heap.size (.slice C q.length cc) q ∧ q.length ≤ maxLen ∧ Below w.heap.size w w' := by
  subst hq
  refine (rsearch_any A n c P B m d K L r s l h5 hK hlo h40 l.length none 0 0 [] (st0 P) M w (by simp) (Beg.nil P K l) hp hg hl (is0 w) hM hM2).mono ?_
  rw [cmp_nil]
  rintro e w' ⟨x, rfl, hx, hb⟩
  obtain ⟨C, cc, rfl, h1, h2⟩ := hx.shape
  exact ⟨C, cc, rfl, hx, h2, hb⟩
theorem rcan_any (b : Bool) (w : World) (hp : Is w A n P) (hg : Ks w B m K) (hl : Is w L r l) (h5 : P.length ≤ 5) (hK : ksOk K = true) (hlo : lOk K l = true) (h40 : l.length ≤ 1000) (hb : (PL P K l != []) = b) :
    Calls Tryz.prog 140 #[.agg #[.slice A n c, .slice B m d], .slice L r s] w fun e w' => e = .returned (.bool b) ∧ Below w.heap.size w w' := by
  have H1 : ((PL P K l).take 1).length = if b = true then 1 else 0 := by
    subst hb
    cases PL P K l with
    | nil => rfl
    | cons x t => rw [if_pos (by simp)]; rfl
  obtain ⟨q, hq⟩ : ∃ q, (PL P K l).take 1 = q := ⟨_, rfl⟩
  rw [hq] at H1
  have HC : Hid (∀ W, Below w.heap.size w W → Calls Tryz.prog 77 #[.agg #[.slice A n c, .slice B m d], .slice L r s, .slice none 0 0, .int .i64 1] W fun e w' => ∃ C cc, e = .returned (.slice C q.length cc) ∧ LL w' W.heap.size (.slice C q.length cc) q ∧ q.length ≤ maxLen ∧ Below W.heap.size W w') := Lib.hid (fun W hW => by
    have := rsearch0 A n c P B m d K L r s l h5 hK hlo h40 1 (by omega) (by omega) W (hp.keep hW) (hg.keep hW) (hl.keep hW) q hq
    rwa [show ((1 : Nat) : Int) = 1 from rfl] at this)
  clear hp hg hl hb hK hlo hq
  generalize q.length = z at *
  cases b
  · rw [if_neg (by simp)] at H1
    subst H1
    go_enter Tryz.func140, Tryz.ntmps140
    go_upto_region 1 with fail
    generalize hW : (World.alloc _ _) = W
    have HB : Hid (Below w.heap.size w W) := Lib.hid (by subst hW; go_grown)
    have KY : Bx W (w.heap.size) 25 [.slice A n c, .slice B m d] := by subst hW; repeat (first | (refine Bx.newAt _ _ _ ?_; first | rfl | (simp only [World.size_alloc]; done) | (simp only [World.size_alloc]; omega)) | refine Bx.old ?_ _)
    clear hW
    have KYl := KY.lt; have KYc := KY.get; have KYf := KY.fr
    go_wp2_with (go_at_call 77; refine (HC.out _ HB.out).mono ?_; rintro e X ⟨C, cc, rfl, -, -, hbx⟩; clear KYl KYc KYf; replace KY := KY.keep hbx; have KYl := KY.lt; have KYc := KY.get; have KYf := KY.fr; replace HB := Lib.hid (up HB.out hbx); clear hbx)
    go_ret
    exact ⟨rfl, HB.out⟩
  · rw [if_pos rfl] at H1
    subst H1
    go_enter Tryz.func140, Tryz.ntmps140
    go_upto_region 1 with fail
    generalize hW : (World.alloc _ _) = W
    have HB : Hid (Below w.heap.size w W) := Lib.hid (by subst hW; go_grown)
    have KY : Bx W (w.heap.size) 25 [.slice A n c, .slice B m d] := by subst hW; repeat (first | (refine Bx.newAt _ _ _ ?_; first | rfl | (simp only [World.size_alloc]; done) | (simp only [World.size_alloc]; omega)) | refine Bx.old ?_ _)
    clear hW
    have KYl := KY.lt; have KYc := KY.get; have KYf := KY.fr
    go_wp2_with (go_at_call 77; refine (HC.out _ HB.out).mono ?_; rintro e X ⟨C, cc, rfl, -, -, hbx⟩; clear KYl KYc KYf; replace KY := KY.keep hbx; have KYl := KY.lt; have KYc := KY.get; have KYf := KY.fr; replace HB := Lib.hid (up HB.out hbx); clear hbx)
    go_ret
    exact ⟨rfl, HB.out⟩
variable (w : World) (hp : Is w A n P) (hg : Ks w B m K) (hl : Is w L r l)
include hp hg hl
theorem rPlace_any : Calls Tryz.prog 24 #[.agg #[.slice A n c, .slice B m d], .slice L r s] w fun e w' => ∃ C k cc, e = .returned (.tuple #[.slice C k cc, .int .i64 (nthE P K l 0 53)]) ∧ Is w' C k (nthL P K l 0) ∧ Below w.heap.size w w' := by
  have Hp := Lib.hid hp; have Hg := Lib.hid hg; have Hl := Lib.hid hl
  clear hp hg hl
  by_cases h0 : sE P K l = 0
  rotate_left
  · have hne : (sE P K l != 0) = true := by simpa using h0
    have HE : Hid (nthE P K l 0 53 = sE P K l) := Lib.hid (by unfold nthE; rw [if_neg h0])
    have HL : Hid (nthL P K l 0 = []) := Lib.hid (by unfold nthL; rw [if_neg h0])
    rw [HE.out, HL.out]
    clear h0 HE HL
    have HS := Lib.hid (show sE P K l = sE P K l from rfl)
    generalize hE : sE P K l = E at *
    have HE := Lib.hid hE
    clear hE HS
    go_enter Tryz.func24, Tryz.ntmps24
    go_upto_region 1 with fail
    generalize hW : (World.alloc _ _) = W
    have HB : Hid (Below w.heap.size w W) := Lib.hid (by subst hW; go_grown)
    have KY : Bx W (w.heap.size) 25 [.slice A n c, .slice B m d] := by subst hW; repeat (first | (refine Bx.newAt _ _ _ ?_; first | rfl | (simp only [World.size_alloc]; done) | (simp only [World.size_alloc]; omega)) | refine Bx.old ?_ _)
    clear hW
    have KYl := KY.lt; have KYc := KY.get; have KYf := KY.fr
    go_wp2_with (go_at_call 21; refine (rcheckSorts_any A n c P B m d K L r s l _ (Hp.out.keep HB.out) (Hg.out.keep HB.out) (Hl.out.keep HB.out)).mono ?_; rw [HE.out]; rintro e X ⟨rfl, hbx⟩; clear KYl KYc KYf; replace KY := KY.keep hbx; have KYl := KY.lt; have KYc := KY.get; have KYf := KY.fr; replace HB := Lib.hid (up HB.out hbx); clear hbx)
    go_ret2
    first | exact ⟨none, 0, 0, rfl, is0 _, HB.out⟩ | exact ⟨none, 0, ⟨0, rfl⟩, is0 _, HB.out⟩
  obtain ⟨hy, h8, hlo⟩ := sE_0 h0
  obtain ⟨h5, hP, hK⟩ := yOk_k hy
  have H0 := Lib.hid h0
  have hRS := fun q hq W hA hB hC => rsearch0 A n c P B m d K L r s l h5 hK hlo (by omega) 1 (by omega) (by omega) W hA hB hC q hq
  rw [show ((1 : Nat) : Int) = 1 from rfl] at hRS
  have HE : Hid (nthE P K l 0 53 = if (PL P K l)[0]?.isSome = true then 0 else 53) := Lib.hid (by unfold nthE; rw [if_pos h0])
  have HL : Hid (nthL P K l 0 = ((PL P K l)[0]?).getD []) := Lib.hid (by unfold nthL; rw [if_pos h0])
  rw [HE.out, HL.out]
  cases hG : PL P K l with
  | nil =>
    have HRS := Lib.hid (hRS [] (by rw [hG]; rfl))
    clear hRS HE HL hG h0 hy hlo hP hK
    go_enter Tryz.func24, Tryz.ntmps24
    go_upto_region 1 with fail
    generalize hW : (World.alloc _ _) = W
    have HB : Hid (Below w.heap.size w W) := Lib.hid (by subst hW; go_grown)
    have KY : Bx W (w.heap.size) 25 [.slice A n c, .slice B m d] := by subst hW; repeat (first | (refine Bx.newAt _ _ _ ?_; first | rfl | (simp only [World.size_alloc]; done) | (simp only [World.size_alloc]; omega)) | refine Bx.old ?_ _)
    clear hW
    have KYl := KY.lt; have KYc := KY.get; have KYf := KY.fr
    go_wp2_with (first
      | (go_at_call 21; refine (rcheckSorts_any A n c P B m d K L r s l _ (Hp.out.keep HB.out) (Hg.out.keep HB.out) (Hl.out.keep HB.out)).mono ?_; rw [H0.out]; rintro e X ⟨rfl, hbx⟩; clear KYl KYc KYf; replace KY := KY.keep hbx; have KYl := KY.lt; have KYc := KY.get; have KYf := KY.fr; replace HB := Lib.hid (up HB.out hbx); clear hbx)
      | (go_at_call 77; refine (HRS.out _ (Hp.out.keep HB.out) (Hg.out.keep HB.out) (Hl.out.keep HB.out)).mono ?_; rintro e X2 ⟨C, cc, rfl, -, -, hbx⟩; simp only [List.length_nil]; clear KYl KYc KYf; replace KY := KY.keep hbx; have KYl := KY.lt; have KYc := KY.get; have KYf := KY.fr; replace HB := Lib.hid (up HB.out hbx); clear hbx))
    go_ret2
    first | exact ⟨none, 0, 0, rfl, is0 _, HB.out⟩ | exact ⟨none, 0, ⟨0, rfl⟩, is0 _, HB.out⟩
  | cons x t =>
    have HRS := Lib.hid (hRS [x] (by rw [hG]; rfl))
    clear hRS HE HL hG h0 hy hlo hP hK
    go_enter Tryz.func24, Tryz.ntmps24
    go_upto_region 1 with fail
    generalize hW : (World.alloc _ _) = W
    have HB : Hid (Below w.heap.size w W) := Lib.hid (by subst hW; go_grown)
    have KY : Bx W (w.heap.size) 25 [.slice A n c, .slice B m d] := by subst hW; repeat (first | (refine Bx.newAt _ _ _ ?_; first | rfl | (simp only [World.size_alloc]; done) | (simp only [World.size_alloc]; omega)) | refine Bx.old ?_ _)
    clear hW
    have KYl := KY.lt; have KYc := KY.get; have KYf := KY.fr
    go_wp2_with (first
      | (go_at_call 21; refine (rcheckSorts_any A n c P B m d K L r s l _ (Hp.out.keep HB.out) (Hg.out.keep HB.out) (Hl.out.keep HB.out)).mono ?_; rw [H0.out]; rintro e X ⟨rfl, hbx⟩; clear KYl KYc KYf; replace KY := KY.keep hbx; have KYl := KY.lt; have KYc := KY.get; have KYf := KY.fr; replace HB := Lib.hid (up HB.out hbx); clear hbx)
      | (go_at_call 77; refine (HRS.out _ (Hp.out.keep HB.out) (Hg.out.keep HB.out) (Hl.out.keep HB.out)).mono ?_; rintro e X2 ⟨C, cc, rfl, hx, hmx, hbx⟩; obtain ⟨gb, gc, xA, xc, hge, hgl, hgs, hgc, hgi, hgcc⟩ := hx.get (j := 0) (by simp); simp only [List.getElem_cons_zero] at hgc hgi hgcc; have Hgi := Lib.hid hgi; simp only [List.length_singleton] at hge; cases hge; clear hgi hx hmx; simp only [List.length_singleton]; clear KYl KYc KYf; replace KY := KY.keep hbx; have KYl := KY.lt; have KYc := KY.get; have KYf := KY.fr; replace HB := Lib.hid (up HB.out hbx); clear hbx))
    go_ret2
    first | exact ⟨xA, _, xc, rfl, Hgi.out, HB.out⟩ | exact ⟨xA, _, ⟨xc, rfl⟩, Hgi.out, HB.out⟩
theorem rCount_any : Calls Tryz.prog 26 #[.agg #[.slice A n c, .slice B m d], .slice L r s] w fun e w' => e = .returned (.tuple #[.int .i64 (cntN P K l), .int .i64 (sE P K l)]) ∧ Below w.heap.size w w' := by
  have Hp := Lib.hid hp; have Hg := Lib.hid hg; have Hl := Lib.hid hl
  clear hp hg hl
  by_cases h0 : sE P K l = 0
  rotate_left
  · have hne : (sE P K l != 0) = true := by simpa using h0
    have HN : Hid (cntN P K l = 0) := Lib.hid (by unfold cntN; rw [if_neg h0])
    rw [HN.out]
    clear h0 HN
    generalize hE : sE P K l = E at *
    have HE := Lib.hid hE
    clear hE
    go_enter Tryz.func26, Tryz.ntmps26
    go_upto_region 1 with fail
    generalize hW : (World.alloc _ _) = W
    have HB : Hid (Below w.heap.size w W) := Lib.hid (by subst hW; go_grown)
    have KY : Bx W (w.heap.size) 25 [.slice A n c, .slice B m d] := by subst hW; repeat (first | (refine Bx.newAt _ _ _ ?_; first | rfl | (simp only [World.size_alloc]; done) | (simp only [World.size_alloc]; omega)) | refine Bx.old ?_ _)
    clear hW
    have KYl := KY.lt; have KYc := KY.get; have KYf := KY.fr
    go_wp2_with (go_at_call 21; refine (rcheckSorts_any A n c P B m d K L r s l _ (Hp.out.keep HB.out) (Hg.out.keep HB.out) (Hl.out.keep HB.out)).mono ?_; rw [HE.out]; rintro e X ⟨rfl, hbx⟩; clear KYl KYc KYf; replace KY := KY.keep hbx; have KYl := KY.lt; have KYc := KY.get; have KYf := KY.fr; replace HB := Lib.hid (up HB.out hbx); clear hbx)
    go_ret2
    exact ⟨rfl, HB.out⟩
  obtain ⟨hy, h8, hlo⟩ := sE_0 h0
  obtain ⟨h5, hP, hK⟩ := yOk_k hy
  have H0 := Lib.hid h0
  have hRS := fun q hq W hA hB hC => rsearch0 A n c P B m d K L r s l h5 hK hlo (by omega) 1000 (by omega) (by omega) W hA hB hC q hq
  rw [show ((1000 : Nat) : Int) = 1000 from rfl] at hRS
  obtain ⟨q, hq⟩ : ∃ q, (PL P K l).take 1000 = q := ⟨_, rfl⟩
  have HRS := Lib.hid (hRS q hq)
  have HN : Hid (cntN P K l = (q.length : Int)) := Lib.hid (by unfold cntN; rw [if_pos h0, ← hq, List.length_take, Nat.min_comm])
  rw [HN.out, h0]
  clear hRS HN hq h0 hy hlo hP hK
  generalize q.length = z at *
  go_enter Tryz.func26, Tryz.ntmps26
  go_upto_region 1 with fail
  generalize hW : (World.alloc _ _) = W
  have HB : Hid (Below w.heap.size w W) := Lib.hid (by subst hW; go_grown)
  have KY : Bx W (w.heap.size) 25 [.slice A n c, .slice B m d] := by subst hW; repeat (first | (refine Bx.newAt _ _ _ ?_; first | rfl | (simp only [World.size_alloc]; done) | (simp only [World.size_alloc]; omega)) | refine Bx.old ?_ _)
  clear hW
  have KYl := KY.lt; have KYc := KY.get; have KYf := KY.fr
  go_wp2_with (first
    | (go_at_call 21; refine (rcheckSorts_any A n c P B m d K L r s l _ (Hp.out.keep HB.out) (Hg.out.keep HB.out) (Hl.out.keep HB.out)).mono ?_; rw [H0.out]; rintro e X ⟨rfl, hbx⟩; clear KYl KYc KYf; replace KY := KY.keep hbx; have KYl := KY.lt; have KYc := KY.get; have KYf := KY.fr; replace HB := Lib.hid (up HB.out hbx); clear hbx)
    | (go_at_call 77; refine (HRS.out _ (Hp.out.keep HB.out) (Hg.out.keep HB.out) (Hl.out.keep HB.out)).mono ?_; rintro e X2 ⟨C, cc, rfl, -, -, hbx⟩; clear KYl KYc KYf; replace KY := KY.keep hbx; have KYl := KY.lt; have KYc := KY.get; have KYf := KY.fr; replace HB := Lib.hid (up HB.out hbx); clear hbx))
  go_ret2
  exact ⟨rfl, HB.out⟩
theorem rNth_any (i : Int) : Calls Tryz.prog 28 #[.agg #[.slice A n c, .slice B m d], .slice L r s, .int .i64 i] w fun e w' => ∃ C k cc, e = .returned (.tuple #[.slice C k cc, .int .i64 (nthF P K l i)]) ∧ Is w' C k (nthM P K l i) ∧ Below w.heap.size w w' := by
  have Hp := Lib.hid hp; have Hg := Lib.hid hg; have Hl := Lib.hid hl
  clear hp hg hl
  by_cases h0 : sE P K l = 0
  rotate_left
  · have hne : (sE P K l != 0) = true := by simpa using h0
    have HE : Hid (nthF P K l i = sE P K l) := Lib.hid (by unfold nthF; rw [if_neg h0])
    have HL : Hid (nthM P K l i = []) := Lib.hid (by unfold nthM; rw [if_neg (fun h => h0 h.1)])
    rw [HE.out, HL.out]
    clear h0 HE HL
    generalize hE : sE P K l = E at *
    have HE := Lib.hid hE
    clear hE
    go_enter Tryz.func28, Tryz.ntmps28
    go_upto_region 1 with fail
    generalize hW : (World.alloc _ _) = W
    have HB : Hid (Below w.heap.size w W) := Lib.hid (by subst hW; go_grown)
    have KY : Bx W (w.heap.size) 25 [.slice A n c, .slice B m d] := by subst hW; repeat (first | (refine Bx.newAt _ _ _ ?_; first | rfl | (simp only [World.size_alloc]; done) | (simp only [World.size_alloc]; omega)) | refine Bx.old ?_ _)
    clear hW
    have KYl := KY.lt; have KYc := KY.get; have KYf := KY.fr
    go_wp2_with (go_at_call 21; refine (rcheckSorts_any A n c P B m d K L r s l _ (Hp.out.keep HB.out) (Hg.out.keep HB.out) (Hl.out.keep HB.out)).mono ?_; rw [HE.out]; rintro e X ⟨rfl, hbx⟩; clear KYl KYc KYf; replace KY := KY.keep hbx; have KYl := KY.lt; have KYc := KY.get; have KYf := KY.fr; replace HB := Lib.hid (up HB.out hbx); clear hbx)
    go_ret2
    first | exact ⟨none, 0, 0, rfl, is0 _, HB.out⟩ | exact ⟨none, 0, ⟨0, rfl⟩, is0 _, HB.out⟩
  obtain ⟨hy, h8, hlo⟩ := sE_0 h0
  obtain ⟨h5, hP, hK⟩ := yOk_k hy
  have H0 := Lib.hid h0
  cases hin : inB i 0 999
  · have HE : Hid (nthF P K l i = 3) := Lib.hid (by unfold nthF; rw [if_pos h0, if_neg (by simp [hin])])
    have HL : Hid (nthM P K l i = []) := Lib.hid (by unfold nthM; rw [if_neg (by simp [hin])])
    rw [HE.out, HL.out]
    have HF := Lib.hid hin
    clear hin HE HL h0 hy hlo hP hK
    go_enter Tryz.func28, Tryz.ntmps28
    go_upto_region 1 with fail
    generalize hW : (World.alloc _ _) = W
    have HB : Hid (Below w.heap.size w W) := Lib.hid (by subst hW; go_grown)
    have KY : Bx W (w.heap.size) 25 [.slice A n c, .slice B m d] := by subst hW; repeat (first | (refine Bx.newAt _ _ _ ?_; first | rfl | (simp only [World.size_alloc]; done) | (simp only [World.size_alloc]; omega)) | refine Bx.old ?_ _)
    clear hW
    have KYl := KY.lt; have KYc := KY.get; have KYf := KY.fr
    go_wp2_with (first
      | (go_at_call 21; refine (rcheckSorts_any A n c P B m d K L r s l _ (Hp.out.keep HB.out) (Hg.out.keep HB.out) (Hl.out.keep HB.out)).mono ?_; rw [H0.out]; rintro e X ⟨rfl, hbx⟩; clear KYl KYc KYf; replace KY := KY.keep hbx; have KYl := KY.lt; have KYc := KY.get; have KYf := KY.fr; replace HB := Lib.hid (up HB.out hbx); clear hbx)
      | (go_at_call 72; refine (rwithin_any _ _ _ _).mono ?_; rw [HF.out]; rintro e V ⟨rfl, rfl⟩))
    go_ret2
    first | exact ⟨none, 0, 0, rfl, is0 _, HB.out⟩ | exact ⟨none, 0, ⟨0, rfl⟩, is0 _, HB.out⟩
  have hr := inB_iff.1 hin
  have HF := Lib.hid hin
  obtain ⟨j, rfl⟩ := Int.eq_ofNat_of_zero_le hr.1
  have hj : j ≤ 999 := by omega
  have HE : Hid (nthF P K l (j : Int) = if (PL P K l)[j]?.isSome = true then 0 else 3) := Lib.hid (by unfold nthF; rw [if_pos h0, if_pos hin, Int.toNat_natCast])
  have HL : Hid (nthM P K l (j : Int) = ((PL P K l)[j]?).getD []) := Lib.hid (by unfold nthM; rw [if_pos ⟨h0, hin⟩, Int.toNat_natCast])
  rw [HE.out, HL.out]
  have hRS := fun q hq W hA hB hC => rsearch0 A n c P B m d K L r s l h5 hK hlo (by omega) (j + 1) (by omega) (by omega) W hA hB hC q hq
  rw [show ((j + 1 : Nat) : Int) = (j : Int) + 1 by omega] at hRS
  obtain ⟨q, hq⟩ : ∃ q, (PL P K l).take (j + 1) = q := ⟨_, rfl⟩
  have HRS := Lib.hid (hRS q hq)
  have e1 : IntKind.i64.wrap ((j : Int) + 1) = (j : Int) + 1 := by rw [IntWalk.i64_in _ (by omega)]
  clear hRS hin hr HE HL
  by_cases hjl : j < (PL P K l).length
  · have hql : q.length = j + 1 := by rw [← hq, List.length_take]; omega
    have hqj : q[j]'(by omega) = (PL P K l)[j] := by subst hq; rw [List.getElem_take]
    have HQ : Hid (((PL P K l)[j]?).getD [] = q[j]'(by omega)) := Lib.hid (by rw [hqj]; simp [hjl])
    have HI : Hid ((if (PL P K l)[j]?.isSome = true then (0 : Int) else 3) = 0) := Lib.hid (by rw [if_pos (by simp [hjl])])
    rw [HQ.out, HI.out]
    clear hq hqj HI HQ hjl h0 hy hlo hP hK
    generalize hx : q[j]'(by omega) = x at *
    have Hx := Lib.hid hx
    have Hql := Lib.hid hql
    have HG : Hid (∀ (w : World) (base : Nat) (v : Value), LL w base v q → ∃ b c0 A c, v = .slice (some ⟨b, 0, none⟩) (j + 1) c0 ∧ b < w.heap.size ∧ w.cell? ⟨b, j, none⟩ = some (.slice A x.length c) ∧ Is w A x.length x) := Lib.hid (by
      intro w base v h
      obtain ⟨b, c0, A, c, g1, g2, g3, g4, g5, g6⟩ := h.get (j := j) (by rw [Hql.out]; omega)
      rw [hx] at g4 g5
      rw [Hql.out] at g1
      exact ⟨b, c0, A, c, g1, g3, g4, g5⟩)
    rw [hql] at HRS
    clear hx hql Hx
    go_enter Tryz.func28, Tryz.ntmps28
    go_upto_region 1 with fail
    generalize hW : (World.alloc _ _) = W
    have HB : Hid (Below w.heap.size w W) := Lib.hid (by subst hW; go_grown)
    have KY : Bx W (w.heap.size) 25 [.slice A n c, .slice B m d] := by subst hW; repeat (first | (refine Bx.newAt _ _ _ ?_; first | rfl | (simp only [World.size_alloc]; done) | (simp only [World.size_alloc]; omega)) | refine Bx.old ?_ _)
    clear hW
    have KYl := KY.lt; have KYc := KY.get; have KYf := KY.fr
    go_wp2_with (first
      | (go_at_call 21; refine (rcheckSorts_any A n c P B m d K L r s l _ (Hp.out.keep HB.out) (Hg.out.keep HB.out) (Hl.out.keep HB.out)).mono ?_; rw [H0.out]; rintro e X ⟨rfl, hbx⟩; clear KYl KYc KYf; replace KY := KY.keep hbx; have KYl := KY.lt; have KYc := KY.get; have KYf := KY.fr; replace HB := Lib.hid (up HB.out hbx); clear hbx)
      | (go_at_call 72; refine (rwithin_any _ _ _ _).mono ?_; rw [HF.out]; rintro e V ⟨rfl, rfl⟩)
      | (go_at_call 77; refine (HRS.out _ (Hp.out.keep HB.out) (Hg.out.keep HB.out) (Hl.out.keep HB.out)).mono ?_; rintro e X2 ⟨C, cc, rfl, hx, hmx, hbx⟩; obtain ⟨gb, gc, xA, xc, hge, hgs, hgc, hgi⟩ := HG.out _ _ _ hx; have Hgi := Lib.hid hgi; cases hge; clear hgi hx hmx; clear KYl KYc KYf; replace KY := KY.keep hbx; have KYl := KY.lt; have KYc := KY.get; have KYf := KY.fr; replace HB := Lib.hid (up HB.out hbx); clear hbx))
    go_ret2
    first | exact ⟨xA, _, xc, rfl, Hgi.out, HB.out⟩ | exact ⟨xA, _, ⟨xc, rfl⟩, Hgi.out, HB.out⟩
  · have hql : q.length ≤ j := by rw [← hq, List.length_take]; omega
    have HQ : Hid (((PL P K l)[j]?).getD [] = []) := Lib.hid (by rw [List.getElem?_eq_none (by omega)]; rfl)
    have HI : Hid ((if (PL P K l)[j]?.isSome = true then (0 : Int) else 3) = 3) := Lib.hid (by rw [List.getElem?_eq_none (by omega)]; rfl)
    rw [HQ.out, HI.out]
    clear hq HI HQ hjl h0 hy hlo hP hK
    generalize q.length = z at *
    go_enter Tryz.func28, Tryz.ntmps28
    go_upto_region 1 with fail
    generalize hW : (World.alloc _ _) = W
    have HB : Hid (Below w.heap.size w W) := Lib.hid (by subst hW; go_grown)
    have KY : Bx W (w.heap.size) 25 [.slice A n c, .slice B m d] := by subst hW; repeat (first | (refine Bx.newAt _ _ _ ?_; first | rfl | (simp only [World.size_alloc]; done) | (simp only [World.size_alloc]; omega)) | refine Bx.old ?_ _)
    clear hW
    have KYl := KY.lt; have KYc := KY.get; have KYf := KY.fr
    go_wp2_with (first
      | (go_at_call 21; refine (rcheckSorts_any A n c P B m d K L r s l _ (Hp.out.keep HB.out) (Hg.out.keep HB.out) (Hl.out.keep HB.out)).mono ?_; rw [H0.out]; rintro e X ⟨rfl, hbx⟩; clear KYl KYc KYf; replace KY := KY.keep hbx; have KYl := KY.lt; have KYc := KY.get; have KYf := KY.fr; replace HB := Lib.hid (up HB.out hbx); clear hbx)
      | (go_at_call 72; refine (rwithin_any _ _ _ _).mono ?_; rw [HF.out]; rintro e V ⟨rfl, rfl⟩)
      | (go_at_call 77; refine (HRS.out _ (Hp.out.keep HB.out) (Hg.out.keep HB.out) (Hl.out.keep HB.out)).mono ?_; rintro e X2 ⟨C, cc, rfl, -, -, hbx⟩; clear KYl KYc KYf; replace KY := KY.keep hbx; have KYl := KY.lt; have KYc := KY.get; have KYf := KY.fr; replace HB := Lib.hid (up HB.out hbx); clear hbx))
    go_ret2
    first | exact ⟨none, 0, 0, rfl, is0 _, HB.out⟩ | exact ⟨none, 0, ⟨0, rfl⟩, is0 _, HB.out⟩
end
end Go.Proofs.YtaieidigpilbfaaGreat

