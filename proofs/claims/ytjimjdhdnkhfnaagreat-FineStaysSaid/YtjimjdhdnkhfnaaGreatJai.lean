/- Contracts of functions of the program and of the reference, a calculus of states, and plain facts: a part of a proof. Own text. -/
import Derived.Test.YtjimjdhdnkhfnaaGreatJah
import Derived.OrdersHeld
set_option linter.unusedVariables false
set_option linter.unusedSimpArgs false
set_option linter.unusedSectionVars false
namespace Go.Proofs.YtjimjdhdnkhfnaaGreat
open Go Go.RowKit
section takes
variable {P : Program} {ops : Array Oper} {md : Region.Mode} {S : World → Prop} {Q : Exit → Act → World → Prop} {n : Nat}
def wpAnyT (P : Program) (md : Region.Mode) (ops : Array Oper) (Q : Exit → Act → World → Prop) (S : World → Prop) (n : Nat) : Nat → Array Bool → Act → World → Prop
  | 0, listed, a, w => Region.ready md ops listed = [] ∧ Q .normal a w
  | fuel + 1, listed, a, w =>
    (Region.ready md ops listed = [] → Q .normal a w) ∧
    ∀ i ∈ Region.ready md ops listed, wpOp P ops Q i (fun a' w' => (i < n → S w') ∧ wpAnyT P md ops Q S n fuel (listed.setIfInBounds i true) a' w') a w
theorem wpAny_of_T : ∀ (fuel : Nat) (listed : Array Bool) (a : Act) (w : World), wpAnyT P md ops Q S n fuel listed a w → wpAny P md ops Q fuel listed a w
  | 0, _, _, _, h => h
  | fuel + 1, _, _, _, h => ⟨h.1, fun i hi => wpOp_mono (fun a' w' h' => wpAny_of_T fuel _ a' w' h'.2) (h.2 i hi)⟩
theorem wpAnyT_of (fuel : Nat) : ∀ (listed : Array Bool) (a : Act) (w : World), (∀ i, i < n → listed.getD i true = true) → wpAny P md ops Q fuel listed a w → wpAnyT P md ops Q S n fuel listed a w := by
  induction fuel with
  | zero => intro _ _ _ _ h; exact h
  | succ fuel ih =>
    intro listed a w hl h
    refine ⟨h.1, fun i hi => wpOp_mono (fun a' w' h' => ⟨fun hin => ?_, ih _ a' w' (fun j hj => ?_) h'⟩) (h.2 i hi)⟩
    · have := (mem_ready.1 hi).1
      rw [hl i hin] at this
      cases this
    · by_cases hij : i = j
      · subst hij
        by_cases hs : i < listed.size
        · simp [Array.getD, hs]
        · simp [Array.getD, hs]
      · rw [getD_set_ne true hij]; exact hl j hj
theorem wpAnyT_first {i : Nat} {oi : Oper} {v : Value} (hi : ops[i]? = some oi) (hsel : ∀ (j : Nat) (o : Oper) cs b, ops[j]? = some o → o.op ≠ .select cs b)
    (hs : Region.sinkB md ops n = true) (hc : Region.chainB md ops n = true) (hn : n < ops.size) (hin : i < n)
    (hQ : ∀ c a w, Q (.panic c) (a.put oi.dst v) w → Q (.panic c) a w) :
    ∀ (fuel : Nat) (listed : Array Bool) (a : Act) (w : World), HeadInv md ops n listed →
      (∀ j oj, ops[j]? = some oj → j ≠ i → listed.getD j true = false → (∀ e ∈ oj.after, Region.binds md e = true → e.on ≠ i) → oi.apart ops oj = true) →
      i ∈ Region.ready md ops listed → YieldsIf P ops S oi v a → S w →
      wpAnyT P md ops Q S n fuel (listed.setIfInBounds i true) (a.put oi.dst v) w → wpAnyT P md ops Q S n (fuel + 1) listed a w := by
  intro fuel
  induction fuel with
  | zero =>
    intro listed a w _ _ hr hy hS H
    refine ⟨fun h => (by rw [h] at hr; cases hr), fun j hj => ?_⟩
    by_cases hji : j = i
    · subst hji; exact hy.wpOp hi hS ⟨fun _ => hS, H⟩
    · have := ready_mono hj hji
      rw [H.1] at this
      cases this
  | succ fuel ih =>
    intro listed a w inv hfree hr hy hS H
    refine ⟨fun h => (by rw [h] at hr; cases hr), fun j hj => ?_⟩
    by_cases hji : j = i
    · subst hji; exact hy.wpOp hi hS ⟨fun _ => hS, H⟩
    · have hjn : j < n := by
        rcases Nat.lt_or_ge j n with h | h
        · exact h
        · exact absurd hj (tail_waits hs hc hn inv _ i rfl hin (mem_ready.1 hr).1 j h)
      have h1 := H.2 j (ready_mono hj hji)
      obtain ⟨hjun, oj, hoj, hall⟩ := mem_ready.1 hj
      have hnot : ∀ e ∈ oj.after, Region.binds md e = true → e.on ≠ i := fun e he hb heq => by
        have h1 := hall e he hb
        rw [heq, getD_both (mem_ready.1 hr).1] at h1
        cases h1
      have h2 := wpOp_putIf hoj (hfree j oj hoj hji hjun hnot) (fun cs b => hsel i oi cs b hi) (fun cs b => hsel j oj cs b hoj) hQ hy h1
      have hfree' : ∀ k ok, ops[k]? = some ok → k ≠ i → (listed.setIfInBounds j true).getD k true = false →
          (∀ e ∈ ok.after, Region.binds md e = true → e.on ≠ i) → oi.apart ops ok = true := fun k ok hk hki hun hno => by
        refine hfree k ok hk hki ?_ hno
        by_cases hjk : j = k
        · subst hjk; exact hjun
        · rw [getD_set_ne true hjk] at hun; exact hun
      refine wpOp_mono (fun a' w' h3 => ⟨fun _ => h3.2.1 hjn, ih (listed.setIfInBounds j true) a' w' (inv.set hj hjn) hfree' (ready_mono hr (Ne.symm hji)) h3.1 (h3.2.1 hjn) ?_⟩) h2
      rw [Array.setIfInBounds_comm _ _ hji]
      exact h3.2.2
def wpTakes (P : Program) (ops : Array Oper) (S : World → Prop) (G : Act → Prop) : List Nat → Act → Prop
  | [], a => G a
  | i :: l, a => ∃ o, ops[i]? = some o ∧ ∃ v, YieldsIf P ops S o v a ∧ wpTakes P ops S G l (a.put o.dst v)
theorem wpTakes_step {G : Act → Prop} {i : Nat} {l : List Nat} {a : Act} {o : Oper} {v : Value} (ho : ops[i]? = some o) (hw : Region.wanted o (yielded ops a.tmps) = true)
    (hy : ∀ w, S w → (execOp a.eval o).run P w = .ok (.value v) w) (h : wpTakes P ops S G l (a.put o.dst v)) : wpTakes P ops S G (i :: l) a := ⟨o, ho, v, .inl ⟨hw, hy⟩, h⟩
def takesB (md : Region.Mode) (ops : Array Oper) (n : Nat) : List Nat → Array Bool → Bool
  | [], _ => true
  | i :: r, listed => decide (i < n) && (Region.free md ops listed i && ((Region.ready md ops listed).contains i && takesB md ops n r (listed.setIfInBounds i true)))
def marks (is : List Nat) (listed : Array Bool) : Array Bool := is.foldl (fun l i => l.setIfInBounds i true) listed
theorem wpAnyT_takes (hsel : Region.noSelect ops = true) (hs : Region.sinkB md ops n = true) (hc : Region.chainB md ops n = true) (hn : n < ops.size) (hQ : ∀ d v c a w, Q (.panic c) (a.put d v) w → Q (.panic c) a w)
    {G : Act → Prop} (is : List Nat) : ∀ (listed : Array Bool) (a : Act) (w : World) (fuel : Nat), takesB md ops n is listed = true → HeadInv md ops n listed → S w →
    wpTakes P ops S G is a → (∀ a', G a' → HeadInv md ops n (marks is listed) → wpAnyT P md ops Q S n fuel (marks is listed) a' w) → wpAnyT P md ops Q S n (fuel + is.length) listed a w := by
  induction is with
  | nil =>
    intro listed a w fuel _ inv _ h H
    exact H a h inv
  | cons i r ih =>
    intro listed a w fuel hB inv hS h H
    obtain ⟨o, ho, v, hy, h2⟩ := h
    simp only [takesB, Bool.and_eq_true, decide_eq_true_eq] at hB
    obtain ⟨hin, hf, hr, hB2⟩ := hB
    have hr' : i ∈ Region.ready md ops listed := by simpa using hr
    exact wpAnyT_first ho (Region.noSelect_spec hsel) hs hc hn hin (hQ _ _) _ listed a w inv (Region.free_spec ho hf) hr' hy hS
      (ih _ _ w fuel hB2 (inv.set hr' hin) hS h2 H)
def Makes (P : Program) (o : Oper) : Prop := ∀ (a : Act) (w : World), (∃ v w', (execOp (Act.eval a) o).run P w = .ok (.value v) w' ∧ Below w.heap.size w w') ∨ ∃ x w', (execOp (Act.eval a) o).run P w = .halt x w'
theorem Makes.wp {o : Oper} {a : Act} {w : World} {K : Act → World → Prop} (hm : Makes P o) (h : o.wp P a w K Q) : o.wp P a w (fun a' w' => Below w.heap.size w w' ∧ K a' w') Q := by
  unfold Oper.wp at *
  rcases hm a w with ⟨v, w', hr, hb⟩ | ⟨x, w', hr⟩
  · rw [hr] at h ⊢; exact ⟨hb, h⟩
  · rw [hr] at h ⊢
    cases x <;> first | exact h | exact h.elim
theorem wpAnyT_one {b : World} {i fuel : Nat} {listed : Array Bool} {a : Act} {w : World} {o : Oper} {rest : List Oper} (hi : ops[i]? = some o) (hr : Region.ready md ops listed = [i]) (hg : o.guard = none) (hm : Makes P o) (hw : grown b w)
    (hT : ∀ a' w', wpList P ops Q rest a' w' → wpAnyT P md ops Q (grown b) n fuel (listed.setIfInBounds i true) a' w')
    (h : wpList P ops Q (o :: rest) a w) : wpAnyT P md ops Q (grown b) n (fuel + 1) listed a w := by
  refine ⟨fun h0 => absurd (hr.symm.trans h0) (by simp), fun j hj => ?_⟩
  rw [hr] at hj
  obtain rfl : j = i := by simpa using hj
  unfold wpList at h
  unfold wpOp
  simp only [hi, Region.wanted, hg, if_true] at h ⊢
  rcases h with h | h
  · refine .inl (Oper.wp_mono (fun a'' w'' h2 => ⟨fun _ => ?_, hT _ _ h2.2⟩) (hm.wp h))
    obtain ⟨z, rfl⟩ := hw
    obtain ⟨y, rfl⟩ := below_grow h2.1
    exact grow_grow b z y
  · exact .inr h
end takes
theorem buildSlice_run {P : Program} {t e : TypeId} {i : TypeInfo} {z : Value} (ht : P.underlying t = some (.slice e)) (hi : P.info? e = some i) (hz : i.zero = some z) (len : Nat) (parts : Array (Nat × Value)) (w : World) (h24 : len * i.size ≤ 16777216) :
    (∃ v o, (Instr.buildSlice t len parts).run P w = .ok v (w.alloc o)) ∨ ∃ x w', (Instr.buildSlice t len parts).run P w = .halt x w' := by
  have h24' : ¬ (16777216 < len * i.size) := by omega
  by_cases h0 : len * i.size = 0 <;>
  · simp [Instr.buildSlice, run_underlying ht, sizeOf, typeInfo, hi, zeroValue, hz, h24', h0]
    split
    · left; exact ⟨_, _, rfl⟩
    · right; exact ⟨_, _, rfl⟩
theorem makes_slice {P : Program} {t e : TypeId} {i : TypeInfo} {z : Value} (ht : P.underlying t = some (.slice e)) (hi : P.info? e = some i) (hz : i.zero = some z) {len : Nat} {parts : Array (Nat × Operand)} {o : Oper} (ho : o.op = .buildSlice t len parts) (h24 : len * i.size ≤ 16777216) : Makes P o := by
  intro a w
  have e : execOp (Act.eval a) o = (do let r ← Instr.buildSlice t len (parts.map fun (i, x) => (i, a.eval x)); pure (.value r)) := by
    unfold execOp; simp only [ho]
  rw [e]
  rcases buildSlice_run ht hi hz len (parts.map fun (i, x) => (i, a.eval x)) w h24 with ⟨v, ob, hr⟩ | ⟨x, w', hr⟩
  · left; exact ⟨v, w.alloc ob, by simp only [Sem.run_bind, hr, Result.andThen_ok, Sem.run_pure], up_alloc _ _⟩
  · right; exact ⟨x, w', by simp only [Sem.run_bind, hr]; rfl⟩
theorem wp_region_takes {P : Program} {id : Nat} {Q : Exit → Act → World → Prop} {a : Act} {w : World} {l : List Oper} (n m : Nat) (is : List Nat) (om : Oper) (hmo : P.follows .mixedOrders = true)
    (hsel : Region.noSelect l.toArray = true) (hs : Region.sinkB .any l.toArray n = true) (hc : Region.chainB .any l.toArray n = true) (hn : n < l.length) (hmn : m < n)
    (hQ : ∀ d v c a w, Q (.panic c) (a.put d v) w → Q (.panic c) a w)
    (hB : takesB .any l.toArray n is (Array.replicate l.length false) = true) (hm : l[m]? = some om) (hgm : om.guard = none)
    (hrm : Region.ready .any l.toArray (marks is (Array.replicate l.length false)) = [m]) (hall : (List.range n).all (fun i => (marks (is ++ [m]) (Array.replicate l.length false)).getD i true) = true)
    (hseq : Region.seqB .any l.toArray (l.length - n) n (marks (is ++ [m]) (Array.replicate l.length false)) = true) (hlen : l.length = (l.length - n) + 1 + is.length)
    (hmk : Makes P om) (h : wpTakes P l.toArray (grown w) (fun a' => wpList P l.toArray Q (om :: l.drop n) a' w.drew) is a) : (Code.region id l.toArray true).wp P Q a w := by
  refine wp_region_any hmo ?_
  refine wpAny_of_T (S := grown w) (n := n) _ _ _ _ ?_
  have inv0 : HeadInv .any l.toArray n (Array.replicate l.length false) :=
    { size := by simp
      closed := fun j oj _ hl => by rw [getD_replicate_false] at hl; cases hl
      tail := fun t _ ht => getD_in (by simpa using ht) (getD_replicate_false _ _) }
  have hw0 : grown w { w with drawn := w.drawn + 1 } := ⟨⟨#[], w.drawn + 1⟩, by simp [grow]⟩
  have key := wpAnyT_takes (P := P) (Q := Q) (S := grown w) (md := .any) hsel hs hc (by simpa using hn) hQ is (Array.replicate l.length false) a { w with drawn := w.drawn + 1 } ((l.length - n) + 1) hB inv0 hw0 h
    (fun a' hG _ => by
      refine wpAnyT_one (o := om) (by simpa using hm) hrm hgm hmk hw0 (fun a'' w'' h2 => ?_) hG
      have e : marks (is ++ [m]) (Array.replicate l.length false) = (marks is (Array.replicate l.length false)).setIfInBounds m true := by simp [marks, List.foldl_append]
      rw [← e]
      refine wpAnyT_of _ _ _ _ (fun i hi => by have := List.all_eq_true.1 hall i (List.mem_range.2 hi); exact this) ?_
      have := wpAny_of_seq (md := .any) (ops := l.toArray) (Q' := Q) (l.drop n) n (marks (is ++ [m]) (Array.replicate l.length false)) a'' w'' (fun j => by simp [List.getElem?_drop]) (by rw [List.length_drop]; exact hseq) h2
      rwa [List.length_drop] at this)
  rw [← hlen] at key
  simpa using key
end Go.Proofs.YtjimjdhdnkhfnaaGreat
namespace Go.Proofs.YtjimjdhdnkhfnaaGreat
open Go Go.RowKit
section takes
variable {P : Program} {ops : Array Oper} {md : Region.Mode} {S : World → Prop} {Q : Exit → Act → World → Prop} {n : Nat}
theorem wpAnyT_step {i fuel : Nat} {listed : Array Bool} {a : Act} {w : World} {o : Oper} (hi : ops[i]? = some o) (hr : Region.ready md ops listed = [i]) (hg : o.guard = none)
    (h : o.wp P a w (fun a' w' => S w' ∧ wpAnyT P md ops Q S n fuel (listed.setIfInBounds i true) a' w') Q) : wpAnyT P md ops Q S n (fuel + 1) listed a w := by
  refine ⟨fun h0 => absurd (hr.symm.trans h0) (by simp), fun j hj => ?_⟩
  rw [hr] at hj
  obtain rfl : j = i := by simpa using hj
  unfold wpOp
  simp only [hi, Region.wanted, hg, if_true]
  exact .inl (Oper.wp_mono (fun a'' w'' h2 => ⟨fun _ => h2.1, h2.2⟩) h)
end takes
theorem wp_region_takes2 {P : Program} {id : Nat} {Q : Exit → Act → World → Prop} {a : Act} {w : World} {l : List Oper} (n m c : Nat) (is : List Nat) (om oc : Oper) (hmo : P.follows .mixedOrders = true)
    (hsel : Region.noSelect l.toArray = true) (hs : Region.sinkB .any l.toArray n = true) (hc : Region.chainB .any l.toArray n = true) (hn : n < l.length)
    (hQ : ∀ d v c a w, Q (.panic c) (a.put d v) w → Q (.panic c) a w)
    (hB : takesB .any l.toArray n is (Array.replicate l.length false) = true) (hm : l[m]? = some om) (hgm : om.guard = none) (hcc : l[c]? = some oc) (hgc : oc.guard = none)
    (hrm : Region.ready .any l.toArray (marks is (Array.replicate l.length false)) = [m])
    (hrc : Region.ready .any l.toArray (marks (is ++ [m]) (Array.replicate l.length false)) = [c])
    (hall : (List.range n).all (fun i => (marks (is ++ [m, c]) (Array.replicate l.length false)).getD i true) = true)
    (hseq : Region.seqB .any l.toArray (l.length - n) n (marks (is ++ [m, c]) (Array.replicate l.length false)) = true) (hlen : l.length = (l.length - n) + 1 + 1 + is.length)
    (hmk : Makes P om) (h : wpTakes P l.toArray (grown w) (fun a' => om.wp P a' w.drew (fun a1 w1 => oc.wp P a1 w1 (fun a2 w2 => grown w w2 ∧ wpList P l.toArray Q (l.drop n) a2 w2) Q) Q) is a) : (Code.region id l.toArray true).wp P Q a w := by
  refine wp_region_any hmo ?_
  refine wpAny_of_T (S := grown w) (n := n) _ _ _ _ ?_
  have inv0 : HeadInv .any l.toArray n (Array.replicate l.length false) :=
    { size := by simp
      closed := fun j oj _ hl => by rw [getD_replicate_false] at hl; cases hl
      tail := fun t _ ht => getD_in (by simpa using ht) (getD_replicate_false _ _) }
  have hw0 : grown w { w with drawn := w.drawn + 1 } := ⟨⟨#[], w.drawn + 1⟩, by simp [grow]⟩
  have key := wpAnyT_takes (P := P) (Q := Q) (S := grown w) (md := .any) hsel hs hc (by simpa using hn) hQ is (Array.replicate l.length false) a { w with drawn := w.drawn + 1 } ((l.length - n) + 1 + 1) hB inv0 hw0 h
    (fun a' hG _ => by
      have e1 : marks (is ++ [m]) (Array.replicate l.length false) = (marks is (Array.replicate l.length false)).setIfInBounds m true := by simp [marks, List.foldl_append]
      have e2 : marks (is ++ [m, c]) (Array.replicate l.length false) = (marks (is ++ [m]) (Array.replicate l.length false)).setIfInBounds c true := by simp [marks, List.foldl_append]
      refine wpAnyT_step (o := om) (by simpa using hm) hrm hgm (Oper.wp_mono (fun a1 w1 h1 => ?_) (hmk.wp hG))
      obtain ⟨hb1, h1⟩ := h1
      refine ⟨?_, ?_⟩
      · obtain ⟨z, hz⟩ := hw0
        have : Below w.heap.size w w1 := by
          have h0 : Below w.heap.size w w.drew := by go_grown
          exact h0.trans (hb1.mono (by simp))
        exact below_grow this
      rw [← e1]
      refine wpAnyT_step (o := oc) (by simpa using hcc) hrc hgc (Oper.wp_mono (fun a2 w2 h2 => ?_) h1)
      refine ⟨h2.1, ?_⟩
      rw [← e2]
      refine wpAnyT_of _ _ _ _ (fun i hi => by have := List.all_eq_true.1 hall i (List.mem_range.2 hi); exact this) ?_
      have := wpAny_of_seq (md := .any) (ops := l.toArray) (Q' := Q) (l.drop n) n (marks (is ++ [m, c]) (Array.replicate l.length false)) a2 w2 (fun j => by simp [List.getElem?_drop]) (by rw [List.length_drop]; exact hseq) h2.2
      rwa [List.length_drop] at this)
  rw [← hlen] at key
  simpa using key
end Go.Proofs.YtjimjdhdnkhfnaaGreat
namespace Go.Proofs.YtjimjdhdnkhfnaaGreat
open Go Go.RowKit
theorem wp_region_takes3 {P : Program} {id : Nat} {Q : Exit → Act → World → Prop} {a : Act} {w : World} {l : List Oper} (n c : Nat) (is : List Nat) (oc : Oper) (hmo : P.follows .mixedOrders = true)
    (hsel : Region.noSelect l.toArray = true) (hs : Region.sinkB .any l.toArray n = true) (hc : Region.chainB .any l.toArray n = true) (hn : n < l.length)
    (hQ : ∀ d v c a w, Q (.panic c) (a.put d v) w → Q (.panic c) a w)
    (hB : takesB .any l.toArray n is (Array.replicate l.length false) = true) (hcc : l[c]? = some oc) (hgc : oc.guard = none)
    (hrc : Region.ready .any l.toArray (marks is (Array.replicate l.length false)) = [c])
    (hall : (List.range n).all (fun i => (marks (is ++ [c]) (Array.replicate l.length false)).getD i true) = true)
    (hseq : Region.seqB .any l.toArray (l.length - n) n (marks (is ++ [c]) (Array.replicate l.length false)) = true) (hlen : l.length = (l.length - n) + 1 + is.length)
    (h : wpTakes P l.toArray (grown w) (fun a' => oc.wp P a' w.drew (fun a2 w2 => grown w w2 ∧ wpList P l.toArray Q (l.drop n) a2 w2) Q) is a) : (Code.region id l.toArray true).wp P Q a w := by
  refine wp_region_any hmo ?_
  refine wpAny_of_T (S := grown w) (n := n) _ _ _ _ ?_
  have inv0 : HeadInv .any l.toArray n (Array.replicate l.length false) :=
    { size := by simp
      closed := fun j oj _ hl => by rw [getD_replicate_false] at hl; cases hl
      tail := fun t _ ht => getD_in (by simpa using ht) (getD_replicate_false _ _) }
  have hw0 : grown w { w with drawn := w.drawn + 1 } := ⟨⟨#[], w.drawn + 1⟩, by simp [grow]⟩
  have key := wpAnyT_takes (P := P) (Q := Q) (S := grown w) (md := .any) hsel hs hc (by simpa using hn) hQ is (Array.replicate l.length false) a { w with drawn := w.drawn + 1 } ((l.length - n) + 1) hB inv0 hw0 h
    (fun a' hG _ => by
      have e2 : marks (is ++ [c]) (Array.replicate l.length false) = (marks is (Array.replicate l.length false)).setIfInBounds c true := by simp [marks, List.foldl_append]
      refine wpAnyT_step (o := oc) (by simpa using hcc) hrc hgc (Oper.wp_mono (fun a2 w2 h2 => ?_) hG)
      refine ⟨h2.1, ?_⟩
      rw [← e2]
      refine wpAnyT_of _ _ _ _ (fun i hi => by have := List.all_eq_true.1 hall i (List.mem_range.2 hi); exact this) ?_
      have := wpAny_of_seq (md := .any) (ops := l.toArray) (Q' := Q) (l.drop n) n (marks (is ++ [c]) (Array.replicate l.length false)) a2 w2 (fun j => by simp [List.getElem?_drop]) (by rw [List.length_drop]; exact hseq) h2.2
      rwa [List.length_drop] at this)
  rw [← hlen] at key
  simpa using key
end Go.Proofs.YtjimjdhdnkhfnaaGreat
namespace Go.Proofs.YtjimjdhdnkhfnaaGreat
open Go Go.RowKit
section takes
variable {P : Program} {ops : Array Oper} {md : Region.Mode} {S : World → Prop} {Q : Exit → Act → World → Prop} {n : Nat}
theorem wpAnyT_step2 {i j fuel : Nat} {listed : Array Bool} {a : Act} {w : World} {o p : Oper} (hr : Region.ready md ops listed = [i, j]) (hi : ops[i]? = some o) (hg : o.guard = none) (hj : ops[j]? = some p) (hg2 : p.guard = none)
    (h : o.wp P a w (fun a' w' => S w' ∧ wpAnyT P md ops Q S n fuel (listed.setIfInBounds i true) a' w') Q)
    (h2 : p.wp P a w (fun a' w' => S w' ∧ wpAnyT P md ops Q S n fuel (listed.setIfInBounds j true) a' w') Q) : wpAnyT P md ops Q S n (fuel + 1) listed a w := by
  refine ⟨fun h0 => absurd (hr.symm.trans h0) (by simp), fun k hk => ?_⟩
  rw [hr] at hk
  unfold wpOp
  rcases (by simpa using hk : k = i ∨ k = j) with rfl | rfl
  · simp only [hi, Region.wanted, hg, if_true]
    exact .inl (Oper.wp_mono (fun a'' w'' h2 => ⟨fun _ => h2.1, h2.2⟩) h)
  · simp only [hj, Region.wanted, hg2, if_true]
    exact .inl (Oper.wp_mono (fun a'' w'' h2 => ⟨fun _ => h2.1, h2.2⟩) h2)
theorem wpAnyT_tail {l : List Oper} {fuel : Nat} {listed : Array Bool} {a : Act} {w : World} (hf : l.length - n = fuel) (hall : (List.range n).all (fun i => listed.getD i true) = true) (hseq : Region.seqB md l.toArray (l.length - n) n listed = true)
    (h : wpList P l.toArray Q (l.drop n) a w) : wpAnyT P md l.toArray Q S n fuel listed a w := by
  subst hf
  refine wpAnyT_of _ _ _ _ (fun i hi => by have := List.all_eq_true.1 hall i (List.mem_range.2 hi); exact this) ?_
  have := wpAny_of_seq (md := md) (ops := l.toArray) (Q' := Q) (l.drop n) n listed a w (fun j => by simp [List.getElem?_drop]) (by rw [List.length_drop]; exact hseq) h
  rwa [List.length_drop] at this
end takes
theorem makes_grown {P : Program} {Q : Exit → Act → World → Prop} {o : Oper} {a : Act} {w v : World} {K : Act → World → Prop} (hm : Makes P o) (hv : grown w v) (h : o.wp P a v (fun a' w' => K a' w') Q) : o.wp P a v (fun a' w' => grown w w' ∧ K a' w') Q := by
  refine Oper.wp_mono (fun a1 w1 h1 => ⟨?_, h1.2⟩) (hm.wp h)
  obtain ⟨z, rfl⟩ := hv
  exact below_grow (up (grow_below w z) h1.1)
theorem wp_region_takesG {P : Program} {id : Nat} {Q : Exit → Act → World → Prop} {a : Act} {w : World} {l : List Oper} (n fuel : Nat) (is : List Nat) (hmo : P.follows .mixedOrders = true)
    (hsel : Region.noSelect l.toArray = true) (hs : Region.sinkB .any l.toArray n = true) (hc : Region.chainB .any l.toArray n = true) (hn : n < l.length)
    (hQ : ∀ d v c a w, Q (.panic c) (a.put d v) w → Q (.panic c) a w)
    (hB : takesB .any l.toArray n is (Array.replicate l.length false) = true) (hlen : l.length = fuel + is.length)
    (h : wpTakes P l.toArray (grown w) (fun a' => wpAnyT P .any l.toArray Q (grown w) n fuel (marks is (Array.replicate l.length false)) a' w.drew) is a) : (Code.region id l.toArray true).wp P Q a w := by
  refine wp_region_any hmo ?_
  refine wpAny_of_T (S := grown w) (n := n) _ _ _ _ ?_
  have inv0 : HeadInv .any l.toArray n (Array.replicate l.length false) :=
    { size := by simp
      closed := fun j oj _ hl => by rw [getD_replicate_false] at hl; cases hl
      tail := fun t _ ht => getD_in (by simpa using ht) (getD_replicate_false _ _) }
  have hw0 : grown w { w with drawn := w.drawn + 1 } := ⟨⟨#[], w.drawn + 1⟩, by simp [grow]⟩
  have key := wpAnyT_takes (P := P) (Q := Q) (S := grown w) (md := .any) hsel hs hc (by simpa using hn) hQ is (Array.replicate l.length false) a { w with drawn := w.drawn + 1 } fuel hB inv0 hw0 h (fun a' hG _ => hG)
  rw [← hlen] at key
  simpa using key
end Go.Proofs.YtjimjdhdnkhfnaaGreat
