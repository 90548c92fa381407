/- Contracts of functions of the program and of the reference, and plain facts: a part of a proof. Own text. -/
import Derived.Test.YtfhcofljlkihoaaGreatDoorJb
import Derived.OrdersHeld
set_option linter.unusedVariables false
set_option linter.unusedSimpArgs false
set_option linter.unusedSectionVars false
namespace Go.Proofs.YtfhcofljlkihoaaGreatDoor
open Go Go.RowKit

section alloc
variable {P : Program} {md : Region.Mode}

theorem tmps_put_ne (a : Act) (x : Option Tmp) (v : Value) (d : Nat) (h : x ≠ some d) : (a.put x v).tmps[d]? = a.tmps[d]? := by
  cases x with
  | none => rfl
  | some t =>
    have : t ≠ d := fun e => h (by rw [e])
    simp [Act.put, Array.getElem?_setIfInBounds, this]

/-- What a frame ends with, it has from where each of its slots was last written. -/
theorem headAny_pin {ops : Array Oper} {C : World → Prop} {n : Nat} {L : Array Bool → Act → Prop} {A : Act} {d : Nat} (hL : ∀ done a, L done a → a = A) (f : Nat) :
    ∀ done a, headAny P md ops C n L f done a → (∀ i o, done.getD i true = false → i < n → ops[i]? = some o → o.dst ≠ some d) → A.tmps[d]? = a.tmps[d]? := by
  induction f with
  | zero => intro done a h _; rw [hL _ _ h]
  | succ f ih =>
    intro done a h hd
    obtain ⟨i, hi⟩ := List.exists_mem_of_ne_nil _ h.1
    obtain ⟨hin, hq⟩ := h.2 i hi
    obtain ⟨hun, o, ho, _⟩ := mem_ready.1 hi
    obtain ⟨v, _, hk⟩ := yieldsIn_of_qOp ho hq
    rw [ih _ _ hk (fun j oj hj hjn hoj => hd j oj (by
      by_cases e : i = j
      · subst e; exact hun
      · rwa [getD_set_ne true e] at hj) hjn hoj), tmps_put_ne _ _ _ _ (hd i o hun hin ho)]

theorem put_same {a A A' : Act} {x : Option Tmp} {v v' : Value} (h : ∀ d, x = some d → A.tmps[d]? = A'.tmps[d]?) (h1 : ∀ d, x = some d → A.tmps[d]? = (a.put x v).tmps[d]?) (h2 : ∀ d, x = some d → A'.tmps[d]? = (a.put x v').tmps[d]?) : a.put x v = a.put x v' := by
  cases x with
  | none => rfl
  | some d =>
    have e := ((h1 d rfl).symm.trans (h d rfl)).trans (h2 d rfl)
    simp only [Act.put] at e ⊢
    by_cases hd : d < a.tmps.size
    · simp [Array.getElem?_setIfInBounds, hd] at e
      rw [e]
    · rw [Array.setIfInBounds_eq_of_size_le (Nat.not_lt.1 hd), Array.setIfInBounds_eq_of_size_le (Nat.not_lt.1 hd)]

theorem qOp_same {ops ops' : Array Oper} {C : World → Prop} {i : Nat} {K : Act → Prop} {a : Act} (h : ops'[i]? = ops[i]?) (hy : ∀ t, yielded ops' t = yielded ops t) (hq : qOp P ops' C i K a) : qOp P ops C i K a := by
  unfold qOp at *
  rw [h, hy] at hq
  exact hq

theorem alloc_done {ops ops' : Array Oper} {C : World → Prop} {n g m : Nat} {L : Array Bool → Act → Prop} {Q : Exit → Act → World → Prop} (hsame : ∀ i, i ≠ m → ops'[i]? = ops[i]?) (hy : ∀ t, yielded ops' t = yielded ops t)
    (hr : ∀ done, Region.ready md ops' done = Region.ready md ops done) (hL : ∀ done a w, C w → L done a → wpAny P md ops Q g done a w) (f : Nat) :
    ∀ done a w, C w → done.getD m true = true → headAny P md ops' C n L f done a → wpAny P md ops Q (f + g) done a w := by
  induction f with
  | zero => intro done a w hw _ h; rw [Nat.zero_add]; exact hL _ _ _ hw h
  | succ f ih =>
    intro done a w hw hm h
    rw [show f + 1 + g = (f + g) + 1 by omega]
    refine ⟨fun h0 => absurd (by rw [hr]; exact h0) h.1, fun i hi => ?_⟩
    have hi' : i ∈ Region.ready md ops' done := by rw [hr]; exact hi
    have hne : i ≠ m := fun e => by
      subst e
      rw [(mem_ready.1 hi).1] at hm
      cases hm
    exact wpOp_of_qOp hw (fun a' w' hw' hk => ih _ a' w' hw' (by rw [getD_set_ne true hne]; exact hm) hk) (qOp_same (hsame i hne) hy (h.2 i hi').2)

/-- The class of the worlds that have grown out of b. -/
def grown (b : World) : World → Prop := fun w' => ∃ z, w' = grow b z
theorem grown_self (b : World) : grown b b := ⟨⟨#[], b.drawn⟩, by simp [grow]⟩

theorem alloc_first {ops : Array Oper} {ops' : Nat → Array Oper} {n g m t : Nat} {obj : Obj} {oa : Oper} {oN : Nat → Oper} {A : Nat → Act} {L : Nat → Array Bool → Act → Prop} {Q : Exit → Act → World → Prop} {w : World}
    (hsame : ∀ N i, i ≠ m → (ops' N)[i]? = ops[i]?) (hy : ∀ N x, yielded (ops' N) x = yielded ops x) (hr : ∀ N done, Region.ready md (ops' N) done = Region.ready md ops done)
    (hmn : m < n) (ha : ops[m]? = some oa) (hwa : ∀ y, Region.wanted oa y = true) (hda : oa.dst = some t) (hrun : ∀ a w, (execOp (Act.eval a) oa).run P w = .ok (.value (.pointer (some ⟨w.heap.size, 0, none⟩))) (w.alloc obj))
    (hN : ∀ N, (ops' N)[m]? = some (oN N)) (hwN : ∀ N y, Region.wanted (oN N) y = true) (hdN : ∀ N, (oN N).dst = some t) (hrunN : ∀ N a w, (execOp (Act.eval a) (oN N)).run P w = .ok (.value (.pointer (some ⟨N, 0, none⟩))) w)
    (hnd : ∀ i j oi oj, i < n → j < n → i ≠ j → ops[i]? = some oi → ops[j]? = some oj → ∀ d, oi.dst = some d → oj.dst ≠ some d)
    (hA : ∀ N d, d ≠ t → (A N).tmps[d]? = (A 0).tmps[d]?) (hLA : ∀ N done a, L N done a → a = A N) (hLm : ∀ N done a, L N done a → done.getD m true = true)
    (hL : ∀ N b, Below w.heap.size w b → b.heap[N]? = some obj → w.heap.size ≤ N → ∀ done a w', grown b w' → L N done a → wpAny P md ops Q g done a w') (f : Nat) :
    ∀ done a w1, grown w w1 → done.getD m true = false → (∀ N b, Below w.heap.size w b → headAny P md (ops' N) (grown b) n (L N) f done a) → wpAny P md ops Q (f + g) done a w1 := by
  induction f with
  | zero =>
    intro done a w1 _ hm h
    have := hLm 0 done a (h 0 w (Below.refl _ _))
    rw [hm] at this
    cases this
  | succ f ih =>
    intro done a w1 hw1 hm h
    rw [show f + 1 + g = (f + g) + 1 by omega]
    have h0 := h 0 w (Below.refl _ _)
    refine ⟨fun e => absurd (by rw [hr]; exact e) h0.1, fun i hi => ?_⟩
    obtain ⟨z1, hz1⟩ := hw1
    have hbw1 : Below w.heap.size w w1 := hz1 ▸ grow_below w z1
    by_cases him : i = m
    · subst him
      have hb : Below w.heap.size w (w1.alloc obj) := up hbw1 (up_alloc _ _)
      have hi' : i ∈ Region.ready md (ops' w1.heap.size) done := by rw [hr]; exact hi
      have hq := ((h w1.heap.size (w1.alloc obj) hb).2 i hi').2
      obtain ⟨v, hyv, hk⟩ := yieldsIn_of_qOp (hN w1.heap.size) hq
      have hv : v = .pointer (some ⟨w1.heap.size, 0, none⟩) := by
        rcases hyv with ⟨_, hv⟩ | ⟨hv, _⟩
        · have := hv (w1.alloc obj) (grown_self _)
          unfold Oper.quietAt at this
          rw [hrunN] at this
          exact this.2.symm
        · rw [hwN] at hv; cases hv
      subst hv
      unfold wpOp
      simp only [ha, hwa, if_true]
      refine .inl ?_
      unfold Oper.wp
      rw [hrun]
      show wpAny P md ops Q (f + g) _ (a.put oa.dst _) (w1.alloc obj)
      rw [hda]
      rw [hdN] at hk
      have hblk : (w1.alloc obj).heap[w1.heap.size]? = some obj := by
        show (w1.heap.push obj)[w1.heap.size]? = _
        simp
      exact alloc_done (hsame _) (hy _) (hr _) (hL w1.heap.size (w1.alloc obj) hb hblk hbw1.size) f _ _ _ (grown_self _) (by
        obtain ⟨hu, o, ho, _⟩ := mem_ready.1 hi
        have hlt : i < done.size := by
          rcases Nat.lt_or_ge i done.size with h' | h'
          · exact h'
          · rw [show done.getD i true = true by simp [Array.getD, Nat.not_lt.2 h']] at hm; cases hm
        simp [Array.getD, hlt]) hk
    · have hi' : ∀ N, i ∈ Region.ready md (ops' N) done := fun N => by rw [hr]; exact hi
      obtain ⟨hin, hq⟩ := h0.2 i (hi' 0)
      obtain ⟨hun, o, ho, _⟩ := mem_ready.1 hi
      have ho' : ∀ N, (ops' N)[i]? = some o := fun N => (hsame N i him).trans ho
      obtain ⟨v, hyv, hk⟩ := yieldsIn_of_qOp (ho' 0) hq
      have left : ∀ (d : Nat), o.dst = some d → ∀ N j oj, (done.setIfInBounds i true).getD j true = false → j < n → (ops' N)[j]? = some oj → oj.dst ≠ some d := by
        intro d hd N j oj hj hjn hoj
        have hij : i ≠ j := fun e => by
          subst e
          by_cases hlt : i < done.size
          · simp [Array.getD, hlt] at hj
          · simp [Array.getD, hlt] at hun
        by_cases hjm : j = m
        · subst hjm
          rw [hN] at hoj
          obtain rfl := Option.some.inj hoj
          rw [hdN]
          intro e
          exact hnd i j o oa hin hjn hij ho ha d hd (by rw [hda]; exact e)
        · rw [hsame N j hjm] at hoj
          exact hnd i j o oj hin hjn hij ho hoj d hd
      have hdt : ∀ d, o.dst = some d → d ≠ t := fun d hd e => by
        subst e
        exact hnd i m o oa hin hmn him ho ha d hd hda
      have all : ∀ N b, Below w.heap.size w b → headAny P md (ops' N) (grown b) n (L N) f (done.setIfInBounds i true) (a.put o.dst v) := by
        intro N b hb
        obtain ⟨v', _, hk'⟩ := yieldsIn_of_qOp (ho' N) ((h N b hb).2 i (hi' N)).2
        have e : a.put o.dst v = a.put o.dst v' := put_same (A := A 0) (A' := A N) (fun d hd => (hA N d (hdt d hd)).symm)
          (fun d hd => headAny_pin (hLA 0) f _ _ hk (left d hd 0)) (fun d hd => headAny_pin (hLA N) f _ _ hk' (left d hd N))
        rw [e]
        exact hk'
      have hyv' : YieldsIn P ops (grown w) o v a := by
        unfold YieldsIn at *
        rw [← hy 0]
        exact hyv
      exact wpOp_of_qOp (C := grown w) ⟨z1, hz1⟩ (fun a' w' hw' hk2 => ih _ a' w' hw' (by rw [getD_set_ne true him]; exact hm) hk2)
        (hyv'.qOp ho (K := fun a' => ∀ N b, Below w.heap.size w b → headAny P md (ops' N) (grown b) n (L N) f (done.setIfInBounds i true) a') all)

/-- Each slot of the first n operations is written once. -/
def dstsB (ops : Array Oper) (n : Nat) : Bool := (List.range n).all fun i => (List.range n).all fun j => i == j || ((ops[i]?).bind (·.dst)).isNone || !(((ops[i]?).bind (·.dst)) == ((ops[j]?).bind (·.dst)))
theorem dstsB_spec {ops : Array Oper} {n : Nat} (h : dstsB ops n = true) : ∀ i j oi oj, i < n → j < n → i ≠ j → ops[i]? = some oi → ops[j]? = some oj → ∀ d, oi.dst = some d → oj.dst ≠ some d := by
  intro i j oi oj hi hj hij hoi hoj d hd e
  have := List.all_eq_true.1 (List.all_eq_true.1 h i (List.mem_range.2 hi)) j (List.mem_range.2 hj)
  simp [hoi, hoj, hd, e, hij] at this

/-- THE RULE: the m-th of the first n operations makes a variable; the others of these are quiet; what follows comes in its one order. -/
theorem any_grow_alloc {Q : Exit → Act → World → Prop} {a : Act} {w : World} {l : List Oper} (n m t : Nat) (obj : Obj) (oa : Oper) (oN : Nat → Oper) (l' : Nat → List Oper) (A : Nat → Act)
    (hB : ∀ N, Region.lexTailB .any (l' N).toArray n = true) (hlen : ∀ N, (l' N).length = l.length) (hmn : m < n)
    (hsame : ∀ N i, i ≠ m → (l' N)[i]? = l[i]?) (hafter : ∀ N, (oN N).after = oa.after) (hdst : ∀ N, (oN N).dst = oa.dst)
    (ha : l[m]? = some oa) (hN : ∀ N, (l' N)[m]? = some (oN N)) (hga : oa.guard = none) (hgN : ∀ N, (oN N).guard = none) (hfa : oa.after = #[]) (hda : oa.dst = some t)
    (hrun : ∀ a w, (execOp (Act.eval a) oa).run P w = .ok (.value (.pointer (some ⟨w.heap.size, 0, none⟩))) (w.alloc obj)) (hrunN : ∀ N a w, (execOp (Act.eval a) (oN N)).run P w = .ok (.value (.pointer (some ⟨N, 0, none⟩))) w)
    (hnd : dstsB l.toArray n = true) (hA : ∀ N, A N = (A 0).put (some t) (.pointer (some ⟨N, 0, none⟩)))
    (h : ∀ b N, Below w.heap.size w b → wpQuiet P (l' N).toArray (fun w' => ∃ z, w' = grow b z) (fun a' => a' = A N) ((l' N).take n) a)
    (htail : ∀ W' N, Below w.heap.size w W' → w.heap.size ≤ N → W'.heap[N]? = some obj → wpList P l.toArray Q (l.drop n) (A N) W') : wpAny P .any l.toArray Q l.toArray.size (Array.replicate l.toArray.size false) a { w with drawn := w.drawn + 1 } := by
  have hdrop : ∀ N, (l' N).drop n = l.drop n := fun N => by
    apply List.ext_getElem?
    intro i
    rw [List.getElem?_drop, List.getElem?_drop, hsame N _ (by omega)]
  have hr : ∀ N done, Region.ready .any (l' N).toArray done = Region.ready .any l.toArray done := fun N done => by
    unfold Region.ready
    simp only [List.size_toArray, hlen N, List.getElem?_toArray]
    congr 1
    funext i
    by_cases e : i = m
    · subst e; rw [hN, ha]; simp [hafter]
    · rw [hsame N i e]
  have hy : ∀ N x, yielded (l' N).toArray x = yielded l.toArray x := fun N x => by
    funext j
    unfold yielded
    simp only [List.getElem?_toArray]
    by_cases e : j = m
    · subst e; rw [hN, ha]; simp [hdst]
    · rw [hsame N j e]
  have hwa : ∀ y, Region.wanted oa y = true := fun y => by simp [Region.wanted, hga]
  have hwN : ∀ N y, Region.wanted (oN N) y = true := fun N y => by simp [Region.wanted, hgN]
  have hBB : ∀ N, Region.noSelect (l' N).toArray = true ∧ n < l.length ∧ Region.sinkB .any (l' N).toArray n = true ∧ Region.chainB .any (l' N).toArray n = true ∧ Region.lexHead .any (l' N).toArray (l.length - n) n 0 (Array.replicate l.length false) = true := fun N => by
    have := hB N
    simp only [Region.lexTailB, Bool.and_eq_true, decide_eq_true_eq, List.size_toArray, hlen N] at this
    exact ⟨this.1.1.1.1, this.1.1.1.2, this.1.1.2, this.1.2, this.2⟩
  have hn := (hBB 0).2.1
  have head : ∀ N b, Below w.heap.size w b → headAny P .any (l' N).toArray (grown b) n (fun d a' => Region.seqB .any (l' N).toArray (l.length - n) n d = true ∧ a' = A N) n (Array.replicate l.length false) a := by
    intro N b hb
    obtain ⟨b1, _, b3, b4, b5⟩ := hBB N
    have htl : ((l' N).take n).length = n := by simp [hlen N]; omega
    have inv0 : HeadInv .any (l' N).toArray n (Array.replicate l.length false) :=
      { size := by simp [hlen N]
        closed := fun j oj _ hl => by rw [getD_replicate_false] at hl; cases hl
        tail := fun t _ ht => getD_in (by simpa [hlen N] using ht) (getD_replicate_false _ _) }
    have := headAny_lex (md := .any) (C := grown b) (g := l.length - n) (G := fun a' => a' = A N) b1 b3 b4 (by simpa [hlen N] using hn) ((l' N).take n) 0 (Array.replicate l.length false) a
      (fun j hj => by rw [htl] at hj; simp [hj]) (by simpa using htl) inv0 (by rw [htl]; exact b5) (h b N hb)
    rwa [htl] at this
  have S := alloc_first (P := P) (md := .any) (ops := l.toArray) (ops' := fun N => (l' N).toArray) (n := n) (g := l.length - n) (m := m) (t := t) (obj := obj) (oa := oa) (oN := oN) (A := A)
    (L := fun N d a' => Region.seqB .any (l' N).toArray (l.length - n) n d = true ∧ a' = A N) (Q := Q) (w := w)
    (fun N i hi => by simpa using hsame N i hi) hy hr hmn (by simpa using ha) hwa hda hrun (fun N => by simpa using hN N) hwN (fun N => (hdst N).trans hda) hrunN (dstsB_spec hnd)
    (fun N d hd => by rw [hA N]; exact tmps_put_ne _ _ _ _ (fun e => hd (Option.some.inj e).symm)) (fun N done a' hL => hL.2)
    (fun N done a' hL => by
      cases hd : done.getD m true
      · exfalso
        have hm : m ∈ Region.ready .any (l' N).toArray done := mem_ready.2 ⟨hd, oN N, by simpa using hN N, fun e he => by rw [hafter, hfa] at he; simp at he⟩
        have := seqB_ready hL.1 m hm
        omega
      · rfl)
    (fun N b hb hblk hwN done a' w' hw' hL => by
      obtain ⟨z, rfl⟩ := hw'
      obtain ⟨hs, rfl⟩ := hL
      have hblk' : (grow b z).heap[N]? = some obj := ((grow_below b z).block N (Array.getElem?_eq_some_iff.1 hblk).1).trans hblk
      have hs' : ∀ (k g : Nat) (d : Array Bool), Region.seqB .any (l' N).toArray g k d = Region.seqB .any l.toArray g k d := by
        intro k g
        induction g generalizing k with
        | zero => intro d; simp only [Region.seqB, hr]
        | succ g ih => intro d; simp only [Region.seqB, hr, ih]
      have := wpAny_of_seq (md := .any) (ops := l.toArray) (Q' := Q) (l.drop n) n done (A N) (grow b z) (fun j => by simp [List.getElem?_drop]) (by rw [List.length_drop, ← hs']; exact hs)
        (htail (grow b z) N (up hb (grow_below b z)) hwN hblk')
      rwa [List.length_drop] at this)
    n (Array.replicate l.length false) a { w with drawn := w.drawn + 1 } ⟨⟨#[], w.drawn + 1⟩, by simp [grow]⟩ (getD_in (by simp; omega) (getD_replicate_false _ _)) head
  rw [show n + (l.length - n) = l.length by omega] at S
  simpa using S
theorem wp_region_grow_alloc {id : Nat} {Q : Exit → Act → World → Prop} {a : Act} {w : World} {l : List Oper} (n m t : Nat) (obj : Obj) (oa : Oper) (oN : Nat → Oper) (l' : Nat → List Oper) (A : Nat → Act)
    (hmo : P.follows .mixedOrders = true) (hB : ∀ N, Region.lexTailB .any (l' N).toArray n = true) (hlen : ∀ N, (l' N).length = l.length) (hmn : m < n)
    (hsame : ∀ N i, i ≠ m → (l' N)[i]? = l[i]?) (hafter : ∀ N, (oN N).after = oa.after) (hdst : ∀ N, (oN N).dst = oa.dst)
    (ha : l[m]? = some oa) (hN : ∀ N, (l' N)[m]? = some (oN N)) (hga : oa.guard = none) (hgN : ∀ N, (oN N).guard = none) (hfa : oa.after = #[]) (hda : oa.dst = some t)
    (hrun : ∀ a w, (execOp (Act.eval a) oa).run P w = .ok (.value (.pointer (some ⟨w.heap.size, 0, none⟩))) (w.alloc obj)) (hrunN : ∀ N a w, (execOp (Act.eval a) (oN N)).run P w = .ok (.value (.pointer (some ⟨N, 0, none⟩))) w)
    (hnd : dstsB l.toArray n = true) (hA : ∀ N, A N = (A 0).put (some t) (.pointer (some ⟨N, 0, none⟩)))
    (h : ∀ b N, Below w.heap.size w b → wpQuiet P (l' N).toArray (fun w' => ∃ z, w' = grow b z) (fun a' => a' = A N) ((l' N).take n) a)
    (htail : ∀ W' N, Below w.heap.size w W' → w.heap.size ≤ N → W'.heap[N]? = some obj → wpList P l.toArray Q (l.drop n) (A N) W') : (Code.region id l.toArray true).wp P Q a w :=
  wp_region_any hmo (any_grow_alloc n m t obj oa oN l' A hB hlen hmn hsame hafter hdst ha hN hga hgN hfa hda hrun hrunN hnd hA h htail)

/-- The operation that makes a variable, its pointer put in its place. -/
def ptrOp (t T : Nat) (p : String) (N : Nat) : Oper := { dst := some t, op := .assign (.const (.pointer (some ⟨N, 0, none⟩))), type := T, pos := p, after := #[], guard := none }
theorem wp_region_alloc {id : Nat} {Q : Exit → Act → World → Prop} {a : Act} {w : World} {l : List Oper} (n m t : Nat) (obj : Obj) {ty : TypeId} {T : Nat} {p : String}
    (hmo : P.follows .mixedOrders = true) (ha : l[m]? = some { dst := some t, op := .alloc ty, type := T, pos := p, after := #[], guard := none }) (hB : ∀ N, Region.lexTailB .any (l.set m (ptrOp t T p N)).toArray n = true) (hmn : m < n)
    (hrun : ∀ a w, (execOp (Act.eval a) { dst := some t, op := .alloc ty, type := T, pos := p, after := #[], guard := none }).run P w = .ok (.value (.pointer (some ⟨w.heap.size, 0, none⟩))) (w.alloc obj))
    (hnd : dstsB l.toArray n = true)
    (h : ∃ A : Nat → Act, (∀ b N, Below w.heap.size w b → wpQuiet P (l.set m (ptrOp t T p N)).toArray (fun w' => ∃ z, w' = grow b z) (fun a' => a' = A N) ((l.set m (ptrOp t T p N)).take n) a) ∧
      (∀ N, A N = (A 0).put (some t) (.pointer (some ⟨N, 0, none⟩))) ∧
      (∀ W' N, Below w.heap.size w W' → w.heap.size ≤ N → W'.heap[N]? = some obj → wpList P l.toArray Q (l.drop n) (A N) W')) : (Code.region id l.toArray true).wp P Q a w := by
  obtain ⟨A, h1, h2, h3⟩ := h
  have hm : m < l.length := (List.getElem?_eq_some_iff.1 ha).1
  exact wp_region_grow_alloc n m t obj _ (ptrOp t T p) (fun N => l.set m (ptrOp t T p N)) A hmo hB (fun N => by simp) hmn (fun N i hi => by rw [List.getElem?_set_ne (Ne.symm hi)]) (fun _ => rfl) (fun _ => rfl) ha
    (fun N => by rw [List.getElem?_set_self hm]) rfl (fun _ => rfl) rfl rfl hrun (fun N a w => by simp [ptrOp, execOp, Act.eval]) hnd h2 h1 h3

/-- Six cells that were made, written. -/
theorem made6 {w : World} {N : Nat} {c0 c1 c2 c3 c4 c5 : Value} {ty : TypeId} (h : w.heap[N]? = some (.cells #[c0, c1, c2, c3, c4, c5] ty (0, 0))) :
    N < w.heap.size ∧ (∀ j, w.cell? ⟨N, j, none⟩ = [c0, c1, c2, c3, c4, c5][j]?) ∧ (∀ j, w.frozen? ⟨N, j, none⟩ = false) := by
  refine ⟨(Array.getElem?_eq_some_iff.1 h).1, fun j => ?_, fun j => ?_⟩
  · unfold World.cell?; rw [h]; simp
  · unfold World.frozen?; rw [h]; simp
end alloc
end Go.Proofs.YtfhcofljlkihoaaGreatDoor

namespace Go.Proofs.YtfhcofljlkihoaaGreatDoor
open Go Go.RowKit

section takes
variable {P : Program} {ops : Array Oper} {md : Region.Mode} {S : World → Prop} {Q : Exit → Act → World → Prop} {n : Nat}

/-- Whatever order is picked; S holds behind each operation of the head. -/
def wpAnyT (P : Program) (md : Region.Mode) (ops : Array Oper) (Q : Exit → Act → World → Prop) (S : World → Prop) (n : Nat) : Nat → Array Bool → Act → World → Prop
  | 0, listed, a, w => Region.ready md ops listed = [] ∧ Q .normal a w
  | fuel + 1, listed, a, w =>
    (Region.ready md ops listed = [] → Q .normal a w) ∧
    ∀ i ∈ Region.ready md ops listed, wpOp P ops Q i (fun a' w' => (i < n → S w') ∧ wpAnyT P md ops Q S n fuel (listed.setIfInBounds i true) a' w') a w

theorem wpAny_of_T : ∀ (fuel : Nat) (listed : Array Bool) (a : Act) (w : World), wpAnyT P md ops Q S n fuel listed a w → wpAny P md ops Q fuel listed a w
  | 0, _, _, _, h => h
  | fuel + 1, _, _, _, h => ⟨h.1, fun i hi => wpOp_mono (fun a' w' h' => wpAny_of_T fuel _ a' w' h'.2) (h.2 i hi)⟩

theorem wpAnyT_of (fuel : Nat) : ∀ (listed : Array Bool) (a : Act) (w : World), (∀ i, i < n → listed.getD i true = true) → wpAny P md ops Q fuel listed a w → wpAnyT P md ops Q S n fuel listed a w := by
  induction fuel with
  | zero => intro _ _ _ _ h; exact h
  | succ fuel ih =>
    intro listed a w hl h
    refine ⟨h.1, fun i hi => wpOp_mono (fun a' w' h' => ⟨fun hin => ?_, ih _ a' w' (fun j hj => ?_) h'⟩) (h.2 i hi)⟩
    · have := (mem_ready.1 hi).1
      rw [hl i hin] at this
      cases this
    · by_cases hij : i = j
      · subst hij
        by_cases hs : i < listed.size
        · simp [Array.getD, hs]
        · simp [Array.getD, hs]
      · rw [getD_set_ne true hij]; exact hl j hj

theorem wpAnyT_first {i : Nat} {oi : Oper} {v : Value} (hi : ops[i]? = some oi) (hsel : ∀ (j : Nat) (o : Oper) cs b, ops[j]? = some o → o.op ≠ .select cs b)
    (hs : Region.sinkB md ops n = true) (hc : Region.chainB md ops n = true) (hn : n < ops.size) (hin : i < n)
    (hQ : ∀ c a w, Q (.panic c) (a.put oi.dst v) w → Q (.panic c) a w) :
    ∀ (fuel : Nat) (listed : Array Bool) (a : Act) (w : World), HeadInv md ops n listed →
      (∀ j oj, ops[j]? = some oj → j ≠ i → listed.getD j true = false → (∀ e ∈ oj.after, Region.binds md e = true → e.on ≠ i) → oi.apart ops oj = true) →
      i ∈ Region.ready md ops listed → YieldsIf P ops S oi v a → S w →
      wpAnyT P md ops Q S n fuel (listed.setIfInBounds i true) (a.put oi.dst v) w → wpAnyT P md ops Q S n (fuel + 1) listed a w := by
  intro fuel
  induction fuel with
  | zero =>
    intro listed a w _ _ hr hy hS H
    refine ⟨fun h => (by rw [h] at hr; cases hr), fun j hj => ?_⟩
    by_cases hji : j = i
    · subst hji; exact hy.wpOp hi hS ⟨fun _ => hS, H⟩
    · have := ready_mono hj hji
      rw [H.1] at this
      cases this
  | succ fuel ih =>
    intro listed a w inv hfree hr hy hS H
    refine ⟨fun h => (by rw [h] at hr; cases hr), fun j hj => ?_⟩
    by_cases hji : j = i
    · subst hji; exact hy.wpOp hi hS ⟨fun _ => hS, H⟩
    · have hjn : j < n := by
        rcases Nat.lt_or_ge j n with h | h
        · exact h
        · exact absurd hj (tail_waits hs hc hn inv _ i rfl hin (mem_ready.1 hr).1 j h)
      have h1 := H.2 j (ready_mono hj hji)
      obtain ⟨hjun, oj, hoj, hall⟩ := mem_ready.1 hj
      have hnot : ∀ e ∈ oj.after, Region.binds md e = true → e.on ≠ i := fun e he hb heq => by
        have h1 := hall e he hb
        rw [heq, getD_both (mem_ready.1 hr).1] at h1
        cases h1
      have h2 := wpOp_putIf hoj (hfree j oj hoj hji hjun hnot) (fun cs b => hsel i oi cs b hi) (fun cs b => hsel j oj cs b hoj) hQ hy h1
      have hfree' : ∀ k ok, ops[k]? = some ok → k ≠ i → (listed.setIfInBounds j true).getD k true = false →
          (∀ e ∈ ok.after, Region.binds md e = true → e.on ≠ i) → oi.apart ops ok = true := fun k ok hk hki hun hno => by
        refine hfree k ok hk hki ?_ hno
        by_cases hjk : j = k
        · subst hjk; exact hjun
        · rw [getD_set_ne true hjk] at hun; exact hun
      refine wpOp_mono (fun a' w' h3 => ⟨fun _ => h3.2.1 hjn, ih (listed.setIfInBounds j true) a' w' (inv.set hj hjn) hfree' (ready_mono hr (Ne.symm hji)) h3.1 (h3.2.1 hjn) ?_⟩) h2
      rw [Array.setIfInBounds_comm _ _ hji]
      exact h3.2.2

/-- Each of these operations yields a value, in whatever world of S; then G. -/
def wpTakes (P : Program) (ops : Array Oper) (S : World → Prop) (G : Act → Prop) : List Nat → Act → Prop
  | [], a => G a
  | i :: l, a => ∃ o, ops[i]? = some o ∧ ∃ v, YieldsIf P ops S o v a ∧ wpTakes P ops S G l (a.put o.dst v)

theorem wpTakes_step {G : Act → Prop} {i : Nat} {l : List Nat} {a : Act} {o : Oper} {v : Value} (ho : ops[i]? = some o) (hw : Region.wanted o (yielded ops a.tmps) = true)
    (hy : ∀ w, S w → (execOp a.eval o).run P w = .ok (.value v) w) (h : wpTakes P ops S G l (a.put o.dst v)) : wpTakes P ops S G (i :: l) a := ⟨o, ho, v, .inl ⟨hw, hy⟩, h⟩

/-- They may be taken in this order. -/
def takesB (md : Region.Mode) (ops : Array Oper) (n : Nat) : List Nat → Array Bool → Bool
  | [], _ => true
  | i :: r, listed => decide (i < n) && (Region.free md ops listed i && ((Region.ready md ops listed).contains i && takesB md ops n r (listed.setIfInBounds i true)))
def marks (is : List Nat) (listed : Array Bool) : Array Bool := is.foldl (fun l i => l.setIfInBounds i true) listed

theorem wpAnyT_takes (hsel : Region.noSelect ops = true) (hs : Region.sinkB md ops n = true) (hc : Region.chainB md ops n = true) (hn : n < ops.size) (hQ : ∀ d v c a w, Q (.panic c) (a.put d v) w → Q (.panic c) a w)
    {G : Act → Prop} (is : List Nat) : ∀ (listed : Array Bool) (a : Act) (w : World) (fuel : Nat), takesB md ops n is listed = true → HeadInv md ops n listed → S w →
    wpTakes P ops S G is a → (∀ a', G a' → HeadInv md ops n (marks is listed) → wpAnyT P md ops Q S n fuel (marks is listed) a' w) → wpAnyT P md ops Q S n (fuel + is.length) listed a w := by
  induction is with
  | nil =>
    intro listed a w fuel _ inv _ h H
    exact H a h inv
  | cons i r ih =>
    intro listed a w fuel hB inv hS h H
    obtain ⟨o, ho, v, hy, h2⟩ := h
    simp only [takesB, Bool.and_eq_true, decide_eq_true_eq] at hB
    obtain ⟨hin, hf, hr, hB2⟩ := hB
    have hr' : i ∈ Region.ready md ops listed := by simpa using hr
    exact wpAnyT_first ho (Region.noSelect_spec hsel) hs hc hn hin (hQ _ _) _ listed a w inv (Region.free_spec ho hf) hr' hy hS
      (ih _ _ w fuel hB2 (inv.set hr' hin) hS h2 H)

/-- An operation that makes memory of its own. -/
def Makes (P : Program) (o : Oper) : Prop := ∀ (a : Act) (w : World), (∃ v w', (execOp (Act.eval a) o).run P w = .ok (.value v) w' ∧ Below w.heap.size w w') ∨ ∃ x w', (execOp (Act.eval a) o).run P w = .halt x w'
theorem Makes.wp {o : Oper} {a : Act} {w : World} {K : Act → World → Prop} (hm : Makes P o) (h : o.wp P a w K Q) : o.wp P a w (fun a' w' => Below w.heap.size w w' ∧ K a' w') Q := by
  unfold Oper.wp at *
  rcases hm a w with ⟨v, w', hr, hb⟩ | ⟨x, w', hr⟩
  · rw [hr] at h ⊢; exact ⟨hb, h⟩
  · rw [hr] at h ⊢
    cases x <;> first | exact h | exact h.elim
/-- One that makes memory, alone at its time. -/
theorem wpAnyT_one {b : World} {i fuel : Nat} {listed : Array Bool} {a : Act} {w : World} {o : Oper} {rest : List Oper} (hi : ops[i]? = some o) (hr : Region.ready md ops listed = [i]) (hg : o.guard = none) (hm : Makes P o) (hw : grown b w)
    (hT : ∀ a' w', wpList P ops Q rest a' w' → wpAnyT P md ops Q (grown b) n fuel (listed.setIfInBounds i true) a' w')
    (h : wpList P ops Q (o :: rest) a w) : wpAnyT P md ops Q (grown b) n (fuel + 1) listed a w := by
  refine ⟨fun h0 => absurd (hr.symm.trans h0) (by simp), fun j hj => ?_⟩
  rw [hr] at hj
  obtain rfl : j = i := by simpa using hj
  unfold wpList at h
  unfold wpOp
  simp only [hi, Region.wanted, hg, if_true] at h ⊢
  rcases h with h | h
  · refine .inl (Oper.wp_mono (fun a'' w'' h2 => ⟨fun _ => ?_, hT _ _ h2.2⟩) (hm.wp h))
    obtain ⟨z, rfl⟩ := hw
    obtain ⟨y, rfl⟩ := below_grow h2.1
    exact grow_grow b z y
  · exact .inr h
end takes

/-- A slice that is laid: a new block, or an end. -/
theorem buildSlice_run {P : Program} {t e : TypeId} {i : TypeInfo} {z : Value} (ht : P.underlying t = some (.slice e)) (hi : P.info? e = some i) (hz : i.zero = some z) (len : Nat) (parts : Array (Nat × Value)) (w : World) (h24 : len * i.size ≤ 16777216) :
    (∃ v o, (Instr.buildSlice t len parts).run P w = .ok v (w.alloc o)) ∨ ∃ x w', (Instr.buildSlice t len parts).run P w = .halt x w' := by
  have h24' : ¬ (16777216 < len * i.size) := by omega
  by_cases h0 : len * i.size = 0 <;>
  · simp [Instr.buildSlice, run_underlying ht, sizeOf, typeInfo, hi, zeroValue, hz, h24', h0]
    split
    · left; exact ⟨_, _, rfl⟩
    · right; exact ⟨_, _, rfl⟩

theorem makes_slice {P : Program} {t e : TypeId} {i : TypeInfo} {z : Value} (ht : P.underlying t = some (.slice e)) (hi : P.info? e = some i) (hz : i.zero = some z) {len : Nat} {parts : Array (Nat × Operand)} {o : Oper} (ho : o.op = .buildSlice t len parts) (h24 : len * i.size ≤ 16777216) : Makes P o := by
  intro a w
  have e : execOp (Act.eval a) o = (do let r ← Instr.buildSlice t len (parts.map fun (i, x) => (i, a.eval x)); pure (.value r)) := by
    unfold execOp; simp only [ho]
  rw [e]
  rcases buildSlice_run ht hi hz len (parts.map fun (i, x) => (i, a.eval x)) w h24 with ⟨v, ob, hr⟩ | ⟨x, w', hr⟩
  · left; exact ⟨v, w.alloc ob, by simp only [Sem.run_bind, hr, Result.andThen_ok, Sem.run_pure], up_alloc _ _⟩
  · right; exact ⟨x, w', by simp only [Sem.run_bind, hr]; rfl⟩

/-- THE RULE: 'is' are taken first (they read worlds grown out of w); then number m makes a block; the rest comes in its one order from n on. -/
theorem wp_region_takes {P : Program} {id : Nat} {Q : Exit → Act → World → Prop} {a : Act} {w : World} {l : List Oper} (n m : Nat) (is : List Nat) (om : Oper) (hmo : P.follows .mixedOrders = true)
    (hsel : Region.noSelect l.toArray = true) (hs : Region.sinkB .any l.toArray n = true) (hc : Region.chainB .any l.toArray n = true) (hn : n < l.length) (hmn : m < n)
    (hQ : ∀ d v c a w, Q (.panic c) (a.put d v) w → Q (.panic c) a w)
    (hB : takesB .any l.toArray n is (Array.replicate l.length false) = true) (hm : l[m]? = some om) (hgm : om.guard = none)
    (hrm : Region.ready .any l.toArray (marks is (Array.replicate l.length false)) = [m]) (hall : (List.range n).all (fun i => (marks (is ++ [m]) (Array.replicate l.length false)).getD i true) = true)
    (hseq : Region.seqB .any l.toArray (l.length - n) n (marks (is ++ [m]) (Array.replicate l.length false)) = true) (hlen : l.length = (l.length - n) + 1 + is.length)
    (hmk : Makes P om) (h : wpTakes P l.toArray (grown w) (fun a' => wpList P l.toArray Q (om :: l.drop n) a' w.drew) is a) : (Code.region id l.toArray true).wp P Q a w := by
  refine wp_region_any hmo ?_
  refine wpAny_of_T (S := grown w) (n := n) _ _ _ _ ?_
  have inv0 : HeadInv .any l.toArray n (Array.replicate l.length false) :=
    { size := by simp
      closed := fun j oj _ hl => by rw [getD_replicate_false] at hl; cases hl
      tail := fun t _ ht => getD_in (by simpa using ht) (getD_replicate_false _ _) }
  have hw0 : grown w { w with drawn := w.drawn + 1 } := ⟨⟨#[], w.drawn + 1⟩, by simp [grow]⟩
  have key := wpAnyT_takes (P := P) (Q := Q) (S := grown w) (md := .any) hsel hs hc (by simpa using hn) hQ is (Array.replicate l.length false) a { w with drawn := w.drawn + 1 } ((l.length - n) + 1) hB inv0 hw0 h
    (fun a' hG _ => by
      refine wpAnyT_one (o := om) (by simpa using hm) hrm hgm hmk hw0 (fun a'' w'' h2 => ?_) hG
      have e : marks (is ++ [m]) (Array.replicate l.length false) = (marks is (Array.replicate l.length false)).setIfInBounds m true := by simp [marks, List.foldl_append]
      rw [← e]
      refine wpAnyT_of _ _ _ _ (fun i hi => by have := List.all_eq_true.1 hall i (List.mem_range.2 hi); exact this) ?_
      have := wpAny_of_seq (md := .any) (ops := l.toArray) (Q' := Q) (l.drop n) n (marks (is ++ [m]) (Array.replicate l.length false)) a'' w'' (fun j => by simp [List.getElem?_drop]) (by rw [List.length_drop]; exact hseq) h2
      rwa [List.length_drop] at this)
  rw [← hlen] at key
  simpa using key
end Go.Proofs.YtfhcofljlkihoaaGreatDoor

namespace Go.Proofs.YtfhcofljlkihoaaGreatDoor
open Go Go.RowKit
set_option maxHeartbeats 400000
set_option maxRecDepth 100000

def wearW : ByteArray := ⟨#[119, 101, 97, 114]⟩
def falseW : ByteArray := ⟨#[102, 97, 108, 115, 101]⟩
def markW : ByteArray := ⟨#[109, 97, 114, 107]⟩
/-- A line of a word and numbers. -/
def lineB (s : ByteArray) (l : List Int) : ByteArray := lineK s l ++ ⟨#[10]⟩
/-- A given mark's numbers. -/
def Giv.row (g : Giv) : List Int := [g.o, g.m0, g.m1, g.m2, g.m3, g.m4, g.m5]
/-- A text, and behind it a line for each given mark. -/
def marksK (s : ByteArray) : List Giv → ByteArray
  | [] => s
  | g :: r => marksK (s ++ lineB markW g.row) r
theorem marksK_snoc (s : ByteArray) (l : List Giv) (g : Giv) : marksK s (l ++ [g]) = marksK s l ++ lineB markW g.row := by
  induction l generalizing s with
  | nil => rfl
  | cons x r ih => simp [marksK, ih]
def headB (w0 w1 w2 w3 w4 F : Int) : ByteArray := lineB wearW [w0, w1, w2, w3, w4] ++ lineB falseW [F]
/-- A mark book's text. -/
def textB (w0 w1 w2 w3 w4 F : Int) (gs : List Giv) : ByteArray := marksK (headB w0 w1 w2 w3 w4 F) gs

theorem wr_small {a : Int} {k : Nat} (h : wrB a k = true) : 0 ≤ a ∧ a < 100 := by
  unfold wrB at h; simp at h; omega
theorem okB_wear {w0 w1 w2 w3 w4 F : Int} {gs : List Giv} (h : okB w0 w1 w2 w3 w4 F gs = true) : small99 [w0, w1, w2, w3, w4] ∧ small99 [F] := by
  unfold okB okW at h
  simp only [Bool.and_eq_true, decide_eq_true_eq] at h
  obtain ⟨⟨⟨⟨⟨⟨⟨h0, h1⟩, h2⟩, h3⟩, h4⟩, hF⟩, _⟩, _⟩ := h
  have a0 := wr_small h0; have a1 := wr_small h1; have a2 := wr_small h2; have a3 := wr_small h3; have a4 := wr_small h4
  constructor <;> intro x hx <;> simp at hx <;> omega
theorem okB_row {w0 w1 w2 w3 w4 F : Int} {gs : List Giv} (h : okB w0 w1 w2 w3 w4 F gs = true) (g : Giv) (hg : g ∈ gs) : small99 g.row := by
  have hk := okB_ok h g hg
  obtain ⟨k, hk1, rfl⟩ := List.getElem_of_mem hg
  unfold okB at h
  simp only [Bool.and_eq_true] at h
  have h2 := allK_at h.2 k hk1
  rw [okAt_some (List.getElem?_eq_getElem hk1)] at h2
  simp only [Bool.and_eq_true, decide_eq_true_eq] at h2
  have h3 := h2.1.1.2
  intro x hx
  unfold Giv.ok at hk
  simp [Giv.row] at hx
  omega
theorem lineB_size (s : ByteArray) (l : List Int) (h : small99 l) : (lineB s l).size ≤ s.size + 3 * l.length + 1 := by
  have := lineK_size s l h
  have h3 : (⟨#[10]⟩ : ByteArray).size = 1 := rfl
  unfold lineB; rw [ByteArray.size_append]; omega
theorem marksK_size (s : ByteArray) (l : List Giv) (h : ∀ g ∈ l, small99 g.row) : (marksK s l).size ≤ s.size + 26 * l.length := by
  induction l generalizing s with
  | nil => simp [marksK]
  | cons x r ih =>
    have h1 := ih (s ++ lineB markW x.row) (fun y hy => h y (List.mem_cons_of_mem _ hy))
    have h2 := lineB_size markW x.row (h x (List.mem_cons_self ..))
    have h3 : markW.size = 4 := rfl
    have h4 : x.row.length = 7 := rfl
    rw [ByteArray.size_append] at h1
    simp only [marksK, List.length_cons]
    omega
end Go.Proofs.YtfhcofljlkihoaaGreatDoor

namespace Go.Proofs.YtfhcofljlkihoaaGreatDoor
open Go
set_option maxHeartbeats 400000

def numsW : List Bs → Option (List Int)
  | [] => some []
  | w :: r => match numW w, numsW r with
    | some n, some l => some ((n : Int) :: l)
    | _, _ => none
theorem numsW_len {ws : List Bs} {l : List Int} (h : numsW ws = some l) : l.length = ws.length := by
  induction ws generalizing l with
  | nil => simp [numsW] at h; subst h; rfl
  | cons w r ih =>
    unfold numsW at h
    split at h
    · rename_i n m _ h2; simp at h; subst h; simp [ih h2]
    · cases h
theorem numsW_small {ws : List Bs} {l : List Int} (h : numsW ws = some l) : small99 l := by
  induction ws generalizing l with
  | nil => simp [numsW] at h; subst h; intro x hx; simp at hx
  | cons w r ih =>
    unfold numsW at h
    split at h
    · rename_i n m h1 h2
      simp at h; subst h
      intro x hx
      rcases List.mem_cons.1 hx with rfl | hx
      · have := numW_lt h1; omega
      · exact ih h2 x hx
    · cases h
theorem numsW_snoc_none {a : List Bs} {w : Bs} {b : List Bs} (h : numW w = none) : numsW (a ++ w :: b) = none := by
  induction a with
  | nil => simp [numsW, h]
  | cons x r ih => simp [numsW, ih]
theorem numsW_snoc {a : List Bs} {w : Bs} {l : List Int} {n : Nat} (h : numsW a = some l) (hn : numW w = some n) : numsW (a ++ [w]) = some (l ++ [(n : Int)]) := by
  induction a generalizing l with
  | nil => simp [numsW] at h; subst h; simp [numsW, hn]
  | cons x r ih =>
    unfold numsW at h
    split at h
    · rename_i k m h1 h2
      simp at h; subst h
      simp [numsW, h1, ih h2]
    · cases h

def wearL : Bs := [119, 101, 97, 114]
def falseL : Bs := [102, 97, 108, 115, 101]
def markL : Bs := [109, 97, 114, 107]
/-- The word of the line that comes next, and how many numbers it has. -/
def wordL (said : Nat) : Bs := if said = 0 then wearL else if said = 1 then falseL else markL
def cntL (said : Nat) : Nat := if said = 0 then 5 else if said = 1 then 1 else 7
/-- The numbers of a line of this word. -/
def rowL (w : Bs) (n : Nat) (ws : List Bs) : Option (List Int) := if ws.length = n + 1 ∧ ws.head? = some w then numsW ws.tail else none

/-- A mark book, as it is read. -/
structure Bo where
  (w0 w1 w2 w3 w4 F : Int)
  gs : List Giv
def Bo.zero : Bo := ⟨0, 0, 0, 0, 0, 0, []⟩
def gOf (l : List Int) : Giv := ⟨l.getD 0 0, l.getD 1 0, l.getD 2 0, l.getD 3 0, l.getD 4 0, l.getD 5 0, l.getD 6 0⟩
def stepB (said : Nat) (b : Bo) (l : List Int) : Bo :=
  if said = 0 then { b with w0 := l.getD 0 0, w1 := l.getD 1 0, w2 := l.getD 2 0, w3 := l.getD 3 0, w4 := l.getD 4 0 }
  else if said = 1 then { b with F := l.getD 0 0 }
  else { b with gs := b.gs ++ [gOf l] }

inductive PG where
  | bad (i : Nat)
  | done (said : Nat) (b : Bo)
/-- Lines, read from number i on. -/
def parseG : List Bs → Nat → Nat → Bo → PG
  | [], _, said, b => .done said b
  | x :: r, i, said, b =>
    if wordsL x = [] then parseG r (i + 1) said b
    else match rowL (wordL said) (cntL said) (wordsL x) with
      | none => .bad (i + 1)
      | some l => parseG r (i + 1) (said + 1) (stepB said b l)
/-- How reading a text's lines ends: at a line, or with a book. -/
def readG (t : Bs) : PG := match parseG (linesL t) 0 0 Bo.zero with
  | .bad i => .bad i
  | .done said b => if said < 2 then .bad ((linesL t).length + 1) else .done said b

/-- The error, the line and the book of a text. -/
def textE (t : Bs) : Int := if 4000 < t.length then 2 else match readG t with
  | .bad _ => 5
  | .done _ b => if okB b.w0 b.w1 b.w2 b.w3 b.w4 b.F b.gs then 0 else 13
def textN (t : Bs) : Int := if 4000 < t.length then 0 else match readG t with
  | .bad i => i
  | .done _ _ => 0
def bookT (t : Bs) : Bo := if 4000 < t.length then Bo.zero else match readG t with
  | .bad _ => Bo.zero
  | .done _ b => if okB b.w0 b.w1 b.w2 b.w3 b.w4 b.F b.gs then b else Bo.zero

/-- The bytes of a row. -/
def numL (n : Int) : Bs := Lib.decDigits n.toNat
def rowT (w : Bs) (l : List Int) : Bs := w ++ l.flatMap fun n => 32 :: numL n
theorem lineK_data (s : ByteArray) (l : List Int) : (lineK s l).data.toList = rowT s.data.toList l := by
  induction l generalizing s with
  | nil => simp [lineK, rowT]
  | cons n r ih =>
    rw [lineK, ih]
    simp [rowT, ByteArray.data_append, numB, numL]
theorem lineB_data (s : ByteArray) (l : List Int) : (lineB s l).data.toList = rowT s.data.toList l ++ [10] := by
  unfold lineB; rw [ByteArray.data_append]; simp [lineK_data]
theorem marksK_data (s : ByteArray) (gs : List Giv) : (marksK s gs).data.toList = s.data.toList ++ gs.flatMap fun g => rowT markL g.row ++ [10] := by
  induction gs generalizing s with
  | nil => simp [marksK]
  | cons g r ih =>
    rw [marksK, ih, ByteArray.data_append]
    simp [lineB_data, markW, markL]
theorem textB_data (w0 w1 w2 w3 w4 F : Int) (gs : List Giv) : (textB w0 w1 w2 w3 w4 F gs).data.toList = rowT wearL [w0, w1, w2, w3, w4] ++ 10 :: (rowT falseL [F] ++ 10 :: gs.flatMap fun g => rowT markL g.row ++ [10]) := by
  unfold textB headB
  rw [marksK_data, ByteArray.data_append]
  simp [lineB_data, wearW, wearL, falseW, falseL]

theorem no_small {u : UInt8} {k : Nat} (h : u.toNat = 48 + k) : (10 : UInt8) ≠ u ∧ (32 : UInt8) ≠ u := by
  constructor <;> intro e <;> rw [← e] at h <;> simp at h <;> omega
theorem num_all : ∀ n : Fin 100, numW (Lib.decDigits n.val) = some n.val ∧ (10 : UInt8) ∉ Lib.decDigits n.val ∧ (32 : UInt8) ∉ Lib.decDigits n.val ∧ Lib.decDigits n.val ≠ [] := by
  intro ⟨n, hn⟩
  by_cases h : n < 10
  · rw [dd1 h]
    have h1 : (UInt8.ofNat (48 + n)).toNat = 48 + n := by rw [UInt8.toNat_ofNat']; omega
    generalize UInt8.ofNat (48 + n) = c at h1
    have h2 := no_small h1
    refine ⟨?_, by simpa using h2.1, by simpa using h2.2, by simp⟩
    simp only [numW, h1]; rw [if_pos (by omega)]; simp
  · rw [dd2 h hn]
    have h1 : (UInt8.ofNat (48 + n / 10)).toNat = 48 + n / 10 := by rw [UInt8.toNat_ofNat']; omega
    have h2 : (UInt8.ofNat (48 + n % 10)).toNat = 48 + n % 10 := by rw [UInt8.toNat_ofNat']; omega
    generalize UInt8.ofNat (48 + n / 10) = c at h1
    generalize UInt8.ofNat (48 + n % 10) = d at h2
    have h3 := no_small h1
    have h4 := no_small h2
    refine ⟨?_, by simpa using ⟨h3.1, h4.1⟩, by simpa using ⟨h3.2, h4.2⟩, by simp⟩
    simp only [numW, h1, h2]; rw [if_pos (by omega)]; simp; omega
theorem numL_facts {n : Int} (h0 : 0 ≤ n) (h1 : n < 100) : numW (numL n) = some n.toNat ∧ (10 : UInt8) ∉ numL n ∧ (32 : UInt8) ∉ numL n ∧ numL n ≠ [] := num_all ⟨n.toNat, by omega⟩
theorem rowT_no10 (w : Bs) (l : List Int) (hw : (10 : UInt8) ∉ w) (hl : small99 l) : (10 : UInt8) ∉ rowT w l := by
  unfold rowT
  simp only [List.mem_append, List.mem_flatMap, List.mem_cons, not_or, not_exists, not_and]
  exact ⟨hw, fun n hn => ⟨by decide, (numL_facts (hl n hn).1 (hl n hn).2).2.1⟩⟩
theorem wordsG_nums (l : List Int) (hl : small99 l) (cur : Bs) (hc : cur ≠ []) : wordsG (l.flatMap fun n => 32 :: numL n) cur = cur :: l.map numL := by
  induction l generalizing cur with
  | nil => simp [wordsG, hc]
  | cons n r ih =>
    have hn := numL_facts (hl n (List.mem_cons_self ..)).1 (hl n (List.mem_cons_self ..)).2
    simp only [List.flatMap_cons, List.cons_append, List.map_cons]
    rw [wordsG, if_pos rfl, if_neg hc, wordsG_skip _ _ _ hn.2.2.1, List.nil_append, ih (fun x hx => hl x (List.mem_cons_of_mem _ hx)) _ hn.2.2.2]
theorem wordsL_row (w : Bs) (l : List Int) (hw : w ≠ []) (h32 : (32 : UInt8) ∉ w) (h35 : w.head? ≠ some 35) (hl : small99 l) : wordsL (rowT w l) = w :: l.map numL := by
  unfold wordsL rowT
  have : (w ++ l.flatMap fun n => 32 :: numL n).head? = w.head? := by cases w with
    | nil => exact absurd rfl hw
    | cons x r => rfl
  rw [this, if_neg h35, wordsG_skip _ _ _ h32, List.nil_append, wordsG_nums l hl w hw]
theorem numsW_row (l : List Int) (hl : small99 l) : numsW (l.map numL) = some l := by
  induction l with
  | nil => rfl
  | cons n r ih =>
    have hn := numL_facts (hl n (List.mem_cons_self ..)).1 (hl n (List.mem_cons_self ..)).2
    have h0 := (hl n (List.mem_cons_self ..)).1
    simp only [List.map_cons, numsW, hn.1, ih (fun x hx => hl x (List.mem_cons_of_mem _ hx))]
    simp; omega
theorem rowL_row (w : Bs) (l : List Int) (hw : w ≠ []) (h32 : (32 : UInt8) ∉ w) (h35 : w.head? ≠ some 35) (hl : small99 l) : rowL w l.length (wordsL (rowT w l)) = some l := by
  rw [wordsL_row w l hw h32 h35 hl]
  unfold rowL
  rw [if_pos ⟨by simp, rfl⟩]
  exact numsW_row l hl
theorem linesG_row (a b : Bs) (cur : Bs) (h : (10 : UInt8) ∉ a) : linesG (a ++ 10 :: b) cur = (cur ++ a) :: linesG b [] := by
  induction a generalizing cur with
  | nil => simp [linesG]
  | cons c r ih =>
    simp only [List.mem_cons, not_or] at h
    simp only [List.cons_append]
    rw [linesG, if_neg (fun e => h.1 e.symm), ih _ h.2]
    simp
theorem parseG_row (x : List Int) (said i : Nat) (b : Bo) (r : List Bs) (hx : small99 x) (hn : x.length = cntL said) : parseG (rowT (wordL said) x :: r) i said b = parseG r (i + 1) (said + 1) (stepB said b x) := by
  have hw : wordL said ≠ [] ∧ (32 : UInt8) ∉ wordL said ∧ (wordL said).head? ≠ some 35 := by
    unfold wordL; split
    · decide
    · split <;> decide
  have hr := rowL_row (wordL said) x hw.1 hw.2.1 hw.2.2 hx
  rw [hn] at hr
  rw [parseG, if_neg (by rw [wordsL_row _ _ hw.1 hw.2.1 hw.2.2 hx]; simp), hr]
theorem lines_marks (gs : List Giv) (h : ∀ g ∈ gs, small99 g.row) : linesG (gs.flatMap fun g => rowT markL g.row ++ [10]) [] = gs.map fun g => rowT markL g.row := by
  induction gs with
  | nil => rfl
  | cons g r ih =>
    simp only [List.flatMap_cons, List.append_assoc, List.singleton_append, List.map_cons]
    rw [linesG_row _ _ _ (rowT_no10 _ _ (by decide) (h g (List.mem_cons_self ..))), ih fun x hx => h x (List.mem_cons_of_mem _ hx)]
    simp
theorem parseG_marks (gs : List Giv) (h : ∀ g ∈ gs, small99 g.row) (i said : Nat) (b : Bo) (hs : 2 ≤ said) : parseG (gs.map fun g => rowT markL g.row) i said b = .done (said + gs.length) { b with gs := b.gs ++ gs } := by
  induction gs generalizing i said b with
  | nil => simp [parseG]
  | cons g r ih =>
    have e1 : wordL said = markL := by unfold wordL; rw [if_neg (by omega), if_neg (by omega)]
    have e2 : cntL said = 7 := by unfold cntL; rw [if_neg (by omega), if_neg (by omega)]
    simp only [List.map_cons]
    rw [← e1, parseG_row g.row said i b _ (h g (List.mem_cons_self ..)) (by rw [e2]; rfl), e1, ih (fun x hx => h x (List.mem_cons_of_mem _ hx)) _ _ _ (by omega)]
    unfold stepB
    rw [if_neg (by omega), if_neg (by omega)]
    simp [gOf, Giv.row]
    omega
theorem read_back (w0 w1 w2 w3 w4 F : Int) (gs : List Giv) (h : okB w0 w1 w2 w3 w4 F gs = true) : ∃ k, readG (textB w0 w1 w2 w3 w4 F gs).data.toList = .done k ⟨w0, w1, w2, w3, w4, F, gs⟩ := by
  have hw := okB_wear h
  have hr := okB_row h
  refine ⟨2 + gs.length, ?_⟩
  unfold readG linesL
  rw [textB_data, linesG_row _ _ _ (rowT_no10 _ _ (by decide) hw.1), List.nil_append, linesG_row _ _ _ (rowT_no10 _ _ (by decide) hw.2), List.nil_append, lines_marks gs hr]
  rw [show wearL = wordL 0 from rfl, parseG_row _ 0 0 _ _ hw.1 rfl, show falseL = wordL 1 from rfl, parseG_row _ 1 1 _ _ hw.2 rfl, parseG_marks gs hr _ _ _ (by omega)]
  simp [stepB, Bo.zero]
theorem text_len (w0 w1 w2 w3 w4 F : Int) (gs : List Giv) (h : okB w0 w1 w2 w3 w4 F gs = true) : (textB w0 w1 w2 w3 w4 F gs).size ≤ 4000 := by
  have hw := okB_wear h
  have h40 := okB_40 h
  have h1 := marksK_size (headB w0 w1 w2 w3 w4 F) gs (okB_row h)
  have h2 := lineB_size wearW _ hw.1
  have h3 := lineB_size falseW _ hw.2
  have e1 : wearW.size = 4 := rfl
  have e2 : falseW.size = 5 := rfl
  unfold textB
  have h4 : (headB w0 w1 w2 w3 w4 F).size = (lineB wearW [w0, w1, w2, w3, w4]).size + (lineB falseW [F]).size := by unfold headB; rw [ByteArray.size_append]
  simp only [List.length_cons, List.length_nil] at h2 h3
  omega
/-- What is printed is read as it was. -/
theorem text_back (w0 w1 w2 w3 w4 F : Int) (gs : List Giv) (h : okB w0 w1 w2 w3 w4 F gs = true) :
    textE (textB w0 w1 w2 w3 w4 F gs).data.toList = 0 ∧ textN (textB w0 w1 w2 w3 w4 F gs).data.toList = 0 ∧ bookT (textB w0 w1 w2 w3 w4 F gs).data.toList = ⟨w0, w1, w2, w3, w4, F, gs⟩ := by
  obtain ⟨k, hk⟩ := read_back w0 w1 w2 w3 w4 F gs h
  have hl := text_len w0 w1 w2 w3 w4 F gs h
  rw [Lib.size_eq] at hl
  unfold textE textN bookT
  rw [if_neg (by omega), if_neg (by omega), if_neg (by omega), hk]
  simp [h]

/-- What is read of a text has few marks, all of small numbers. -/
theorem parseG_gs (r : List Bs) : ∀ (i said : Nat) (b : Bo) (k : Nat) (c : Bo), parseG r i said b = .done k c → c.gs.length ≤ b.gs.length + r.length := by
  induction r with
  | nil => intro i said b k c h; simp [parseG] at h; obtain ⟨rfl, rfl⟩ := h; simp
  | cons x r ih =>
    intro i said b k c h
    rw [parseG] at h
    split at h
    · have := ih _ _ _ _ _ h; simp; omega
    · split at h
      · cases h
      · rename_i l _
        have h1 := ih _ _ _ _ _ h
        have h2 : (stepB said b l).gs.length ≤ b.gs.length + 1 := by unfold stepB; split <;> (try split) <;> simp
        simp; omega
end Go.Proofs.YtfhcofljlkihoaaGreatDoor

namespace Go.Proofs.YtfhcofljlkihoaaGreatDoor
open Go Go.RowKit
set_option maxHeartbeats 400000
set_option maxRecDepth 100000

/-- A slice holds these values, one cell each. -/
structure Vs (w : World) (A : Option Addr) (n : Nat) (vs : List Value) : Prop where
  len : n = vs.length
  small : n ≤ 9223372036854775807
  get : ∀ k (h : k < vs.length), ∃ b o, A = some ⟨b, o, none⟩ ∧ b < w.heap.size ∧ w.cell? ⟨b, o + k, none⟩ = some vs[k]
theorem Vs.keep {w w' : World} {A : Option Addr} {n : Nat} {l : List Value} (h : Vs w A n l) (hb : Below w.heap.size w w') : Vs w' A n l :=
  ⟨h.len, h.small, fun k hk => by
    obtain ⟨b, o, e, hlt, hg⟩ := h.get k hk
    exact ⟨b, o, e, by have := hb.size; omega, (hb.cell (p := ⟨b, o + k, none⟩) hlt).trans hg⟩⟩
theorem Vs.of_own {w : World} {base n : Nat} {t : TypeId} {v : Value} {l : List Value} (h : w.ownsRow base t 1 v n l) : ∃ A c, v = .slice A n c ∧ n ≤ c ∧ Vs w A n l := by
  have hl : n = l.length := by have := h.1; omega
  rcases h.2 with ⟨rfl, rfl⟩ | ⟨g, cap, cur, rfl, _, hg, hnc, hcm, hcs, htk⟩
  · exact ⟨none, 0, rfl, Nat.le_refl _, hl, by omega, fun k hk => by omega⟩
  · refine ⟨some ⟨g, 0, none⟩, cap, rfl, hnc, hl, by unfold maxLen at hcm; omega, fun k hk => ⟨g, 0, rfl, (Array.getElem?_eq_some_iff.1 hg).1, ?_⟩⟩
    have := h.cells (g := g) rfl k l[k] (by simp [hk])
    rw [Nat.zero_add]; rw [Addr.add_lit] at this; simpa using this
theorem Vs.ints {w : World} {A : Option Addr} {n : Nat} {l : List Int} (h : Vs w A n (ints l)) : Is w A n l :=
  ⟨by rw [h.len]; simp [Go.Proofs.YtfhcofljlkihoaaGreatDoor.ints], h.small, fun k hk => by
    obtain ⟨b, o, e, hlt, hg⟩ := h.get k (by simpa [Go.Proofs.YtfhcofljlkihoaaGreatDoor.ints] using hk)
    exact ⟨b, o, e, hlt, by rw [hg]; simp [Go.Proofs.YtfhcofljlkihoaaGreatDoor.ints]⟩⟩
/-- Behind the first ones. -/
theorem Vs.drop {w : World} {A : Option Addr} {n k : Nat} {l : List Value} (h : Vs w A n l) (hk : k ≤ n) (B : Option Addr) (hB : ∀ b o, A = some ⟨b, o, none⟩ → k < n → B = some ⟨b, o + k, none⟩) : Vs w B (n - k) (l.drop k) := by
  have hl := h.len
  have hs := h.small
  refine ⟨by simp; omega, by omega, fun j hj => ?_⟩
  obtain ⟨b, o, rfl, hlt, hg⟩ := h.get (k + j) (by simp at hj; omega)
  refine ⟨b, o + k, hB b o rfl (by simp at hj; omega), hlt, ?_⟩
  rw [show o + k + j = o + (k + j) by omega, hg]; simp
theorem Vs.take {w : World} {A : Option Addr} {n k : Nat} {l : List Value} (h : Vs w A n l) (hk : k ≤ n) : Vs w A k (l.take k) := by
  have hl := h.len
  have hs := h.small
  refine ⟨by simp; omega, by omega, fun j hj => ?_⟩
  obtain ⟨b, o, e, hlt, hg⟩ := h.get j (by simp at hj; omega)
  exact ⟨b, o, e, hlt, by rw [hg]; simp⟩
/-- Texts as values. -/
def strs (l : List Bs) : List Value := l.map fun x => .string (mkS x)
theorem strs_snoc (l : List Bs) (x : Bs) : strs (l ++ [x]) = strs l ++ [.string (mkS x)] := by simp [strs]
theorem strs_len (l : List Bs) : (strs l).length = l.length := by simp [strs]
theorem mkS_map (l : List Bs) : (l.map mkS).map Value.string = strs l := by simp [strs]

theorem info9 : (Tryz.prog.info? 9).map (fun i => (i.zero, i.size, i.bytes)) = some (some (.string ⟨#[]⟩), 1, 16) := by kernel_rfl

/-- What Lines has laid when it stands at i. -/
theorem lines_step (l : Bs) (i : Nat) (h : i < l.length) (cur : Bs) : linesG (l.drop i) cur = if l[i] = 10 then cur :: linesG (l.drop (i + 1)) [] else linesG (l.drop (i + 1)) (cur ++ [l[i]]) := by
  rw [List.drop_eq_getElem_cons h, linesG]
theorem words_step (l : Bs) (i : Nat) (h : i < l.length) (cur : Bs) : wordsG (l.drop i) cur = if l[i] = 32 then (if cur = [] then wordsG (l.drop (i + 1)) [] else cur :: wordsG (l.drop (i + 1)) []) else wordsG (l.drop (i + 1)) (cur ++ [l[i]]) := by
  rw [List.drop_eq_getElem_cons h, wordsG]
theorem take_from (l : Bs) (a i : Nat) (h : i < l.length) (ha : a ≤ i) : (l.take (i + 1)).drop a = (l.take i).drop a ++ [l[i]] := by
  rw [List.take_succ_eq_append_getElem h, List.drop_append_of_le_length (by simp; omega)]
theorem take_self (l : Bs) (i : Nat) (h : i < l.length) : (l.take (i + 1)).drop (i + 1) = [] := by
  rw [List.drop_take]; simp
theorem ext_mk (s : ByteArray) (a i : Nat) : s.extract a i = mkS ((s.data.toList.take i).drop a) := by rw [ext_list, List.drop_take]

set_option maxHeartbeats 1000000 in
theorem refLines_any (s : ByteArray) (w : World) (hs : s.size ≤ 4000) :
    Calls Tryz.prog 16 #[.string s] w fun e w' => ∃ v, e = .returned v ∧ w'.ownsRow w.heap.size 9 1 v (linesL s.data.toList).length (strs (linesL s.data.toList)) ∧ Below w.heap.size w w' := by
  obtain ⟨i0, hi, hz0, hz1, hz2⟩ := info_parts info9
  have HI := Lib.hid hi
  have HZ0 := Lib.hid hz0
  have HZ1 := Lib.hid hz1
  have HZ2 := Lib.hid hz2
  clear hi hz0 hz1 hz2
  have HSZ := Lib.hid (Lib.size_eq s)
  go_enter Tryz.func16, Tryz.ntmps16
  go_wp2
  go_loopw [3, 4, 5] (fun v a i wr => ∃ (k f : Nat) (z : Gr) (out : List Bs), k ≤ s.size ∧ f ≤ k ∧ a = .int .i64 f ∧ i = .int .i64 k ∧ wr = grow w z ∧ (grow w z).ownsRow w.heap.size 9 1 v out.length (strs out) ∧ out.length ≤ k ∧
      Hid (out ++ linesG (s.data.toList.drop k) ((s.data.toList.take k).drop f) = linesL s.data.toList)) (fun _ _ i _ => s.size - (intOf i).toNat)
  case atStart => exact ⟨0, 0, ⟨#[], w.drawn⟩, [], by omega, by omega, rfl, rfl, by simp [grow], World.ownsRow_nil _ _ _ _, by simp, Lib.hid (by simp [linesL])⟩
  case round =>
    obtain ⟨k, f, z, out, hk, hf, rfl, rfl, rfl, hown, hol, HR⟩ := hrel
    have Hown := Lib.hid hown; clear hown
    by_cases hlt : k < s.size
    · have hkl : k < s.data.toList.length := by rw [← HSZ.out]; exact hlt
      have hst := lines_step s.data.toList k hkl ((s.data.toList.take k).drop f)
      have hb : s.data.toList[k] = s[k] := rfl
      rw [hb] at hst
      have hcu := s[k].toNat_lt
      by_cases hc : s[k] = 10
      · rw [if_pos hc] at hst
        have HST := Lib.hid hst
        have hcb : ((s[k].toNat : Int) == 10) = true := by rw [hc]; rfl
        have HX := Lib.hid (ext_mk s f k)
        clear hst hb hc
        go_wp2_with (at_builtin; refine wpList_append_own _ rfl _ _ 46 rfl w.heap.size 9 i0 (.string ⟨#[]⟩) 1 16 Tryz.underlying46 HI.out HZ0.out HZ1.out HZ2.out rfl (by decide) _ _ _ rfl (Hown.out.alloc _) ⟨w.heap.size + z.blocks.size, 0, none⟩ 1 1 [.string (s.extract f k)] rfl rfl ?c1 ?c2 ?c3 ?c4 ?c5 ?_)
        case c1 =>
          intro j u hu
          cases j with
          | zero => simp at hu; subst hu; simp [Addr.add_lit, go_sem]
          | succ j => simp at hu
        case c2 => intro u hu; simp at hu; subst hu; rfl
        case c3 => unfold maxLen; omega
        case c4 => omega
        case c5 => simp; omega
        intro v' w' hown' hgr _
        have hbel : Below w.heap.size w w' := (up (grow_below w z) (up_alloc _ _)).grown hgr (by simp; omega) (fun q hq => (Hown.out.lt q hq).1)
        have Hown' := Lib.hid hown'
        clear hown' hgr
        obtain ⟨y, rfl⟩ := below_grow hbel
        go_wp2
        refine ⟨⟨k + 1, k + 1, y, out ++ [(s.data.toList.take k).drop f], by omega, by omega, by go_num, by go_num, rfl, ?_, by simp; omega, ?_⟩, by simp [intOf]; omega⟩
        · rw [strs_snoc, ← HX.out, List.length_append]; exact Hown'.out
        · refine Lib.hid ?_
          rw [take_self _ _ hkl, List.append_assoc, ← HR.out, HST.out]; rfl
      · rw [if_neg hc] at hst
        have HST := Lib.hid hst
        have hcb : ((s[k].toNat : Int) == 10) = false := by
          rw [beq_eq_false_iff_ne]; intro e; apply hc; apply UInt8.toNat.inj; simp; omega
        clear hst hb hc
        go_wp2
        refine ⟨⟨k + 1, f, z, out, by omega, by omega, rfl, by go_num, rfl, Hown.out, by omega, ?_⟩, by simp [intOf]; omega⟩
        refine Lib.hid ?_
        rw [take_from _ _ _ hkl hf, ← HR.out, HST.out]; rfl
    · obtain rfl : k = s.size := by omega
      have hfin : out ++ (if (s.data.toList.take s.size).drop f = [] then [] else [(s.data.toList.take s.size).drop f]) = linesL s.data.toList := by
        have := HR.out
        rw [List.drop_of_length_le (by rw [← HSZ.out]; exact Nat.le_refl _), linesG] at this
        exact this
      have hlen : ((s.data.toList.take s.size).drop f).length = s.size - f := by have := HSZ.out; simp; try omega
      by_cases hfl : f < s.size
      · rw [if_neg (by intro e; rw [e] at hlen; simp at hlen; omega)] at hfin
        have HF := Lib.hid hfin
        have HX := Lib.hid (ext_mk s f s.size)
        clear hfin hlen
        go_wp2_with (at_builtin; refine wpList_append_own _ rfl _ _ 46 rfl w.heap.size 9 i0 (.string ⟨#[]⟩) 1 16 Tryz.underlying46 HI.out HZ0.out HZ1.out HZ2.out rfl (by decide) _ _ _ rfl (Hown.out.alloc _) ⟨w.heap.size + z.blocks.size, 0, none⟩ 1 1 [.string (s.extract f s.size)] rfl rfl ?c1 ?c2 ?c3 ?c4 ?c5 ?_)
        case c1 =>
          intro j u hu
          cases j with
          | zero => simp at hu; subst hu; simp [Addr.add_lit, go_sem]
          | succ j => simp at hu
        case c2 => intro u hu; simp at hu; subst hu; rfl
        case c3 => unfold maxLen; omega
        case c4 => omega
        case c5 => simp; omega
        intro v' w' hown' hgr _
        have hbel : Below w.heap.size w w' := (up (grow_below w z) (up_alloc _ _)).grown hgr (by simp; omega) (fun q hq => (Hown.out.lt q hq).1)
        have Hown' := Lib.hid hown'
        clear hown' hgr
        go_wp2
        go_ret
        refine ⟨_, rfl, ?_, hbel⟩
        rw [← HF.out, strs_snoc, ← HX.out, List.length_append]; exact Hown'.out
      · rw [if_pos (by apply List.eq_nil_of_length_eq_zero; omega), List.append_nil] at hfin
        have HF := Lib.hid hfin
        clear hfin hlen
        go_wp2
        go_ret
        refine ⟨_, rfl, ?_, grow_below w z⟩
        rw [← HF.out]; exact Hown.out

/-- What Words has laid when it stands at k. -/
structure WRel (s : ByteArray) (k f : Nat) (out : List Bs) : Prop where
  a : k ≤ s.size → out ++ wordsG (s.data.toList.drop k) ((s.data.toList.take k).drop f) = wordsL s.data.toList
  b : k = s.size + 1 → out = wordsL s.data.toList
set_option maxHeartbeats 2000000 in
theorem refWords_any (s : ByteArray) (w : World) (hs : s.size ≤ 4000) :
    Calls Tryz.prog 17 #[.string s] w fun e w' => ∃ v, e = .returned v ∧ w'.ownsRow w.heap.size 9 1 v (wordsL s.data.toList).length (strs (wordsL s.data.toList)) ∧ Below w.heap.size w w' := by
  obtain ⟨i0, hi, hz0, hz1, hz2⟩ := info_parts info9
  have HI := Lib.hid hi
  have HZ0 := Lib.hid hz0
  have HZ1 := Lib.hid hz1
  have HZ2 := Lib.hid hz2
  clear hi hz0 hz1 hz2
  have HSZ := Lib.hid (Lib.size_eq s)
  by_cases h35 : s.data.toList.head? = some 35
  · have h0 : 0 < s.size := by
      rw [Lib.size_eq]; cases h : s.data.toList with
      | nil => rw [h] at h35; simp at h35
      | cons => simp
    have h1 : s[0] = 35 := by
      have : s.data.toList[0]? = some 35 := by rw [← List.head?_eq_getElem?]; exact h35
      rw [List.getElem?_eq_getElem (by rw [← HSZ.out]; exact h0)] at this
      exact Option.some.inj this
    have hcb : ((s[0].toNat : Int) == 35) = true := by rw [h1]; rfl
    have HL : Hid (wordsL s.data.toList = []) := Lib.hid (by unfold wordsL; rw [if_pos h35])
    clear h35 h1
    go_enter Tryz.func17, Tryz.ntmps17
    go_wp2
    go_ret
    refine ⟨_, rfl, ?_, Below.refl _ _⟩
    rw [HL.out]; exact World.ownsRow_nil _ _ _ _
  · have hgo : ∀ (wl : Hid (wordsL s.data.toList = wordsG s.data.toList [])), True := fun _ => trivial
    have HL : Hid (wordsL s.data.toList = wordsG s.data.toList []) := Lib.hid (by unfold wordsL; rw [if_neg h35])
    have hpre : s.size = 0 ∨ ∃ h : 0 < s.size, ((s[0].toNat : Int) == 35) = false := by
      by_cases h0 : 0 < s.size
      · right
        refine ⟨h0, ?_⟩
        rw [beq_eq_false_iff_ne]; intro e; apply h35
        rw [List.head?_eq_getElem?, List.getElem?_eq_getElem (by rw [← HSZ.out]; exact h0)]
        refine congrArg some (UInt8.toNat.inj ?_)
        show s[0].toNat = 35
        omega
      · left; omega
    clear h35 hgo
    rcases hpre with h0 | ⟨h0, hcb⟩
    · have hnil : s.data.toList = [] := by apply List.eq_nil_of_length_eq_zero; rw [← HSZ.out]; exact h0
      rw [hnil] at HL ⊢
      clear hnil
      go_enter Tryz.func17, Tryz.ntmps17
      go_wp2
      refine wp_loop_rounds 2 ?_
      repeat any_goals (rw [rounds_succ]; go_wp2)
      go_ret
      refine ⟨_, rfl, ?_, Below.refl _ _⟩
      rw [HL.out]; exact World.ownsRow_nil _ _ _ _
    all_goals
      go_enter Tryz.func17, Tryz.ntmps17
      go_wp2
      go_loopw [3, 4, 5] (fun v a i wr => ∃ (k f : Nat) (z : Gr) (out : List Bs), k ≤ s.size + 1 ∧ f ≤ k ∧ a = .int .i64 f ∧ i = .int .i64 k ∧ wr = grow w z ∧ (grow w z).ownsRow w.heap.size 9 1 v out.length (strs out) ∧ out.length ≤ k ∧
        WRel s k f out) (fun _ _ i _ => s.size + 1 - (intOf i).toNat)
      case atStart => exact ⟨0, 0, ⟨#[], w.drawn⟩, [], by omega, by omega, rfl, rfl, by simp [grow], World.ownsRow_nil _ _ _ _, by simp, ⟨fun _ => by simp [HL.out], fun h => by omega⟩⟩
      case round =>
        obtain ⟨k, f, z, out, hk, hf, rfl, rfl, rfl, hown, hol, HR⟩ := hrel
        have Hown := Lib.hid hown; clear hown
        by_cases hlt : k < s.size
        · have hkl : k < s.data.toList.length := by rw [← HSZ.out]; exact hlt
          have hst := words_step s.data.toList k hkl ((s.data.toList.take k).drop f)
          have hb : s.data.toList[k] = s[k] := rfl
          rw [hb] at hst
          have hcu := s[k].toNat_lt
          by_cases hc : s[k] = 32
          · rw [if_pos hc] at hst
            have hcb2 : ((s[k].toNat : Int) == 32) = true := by rw [hc]; rfl
            have hcb3 : ((s[k].toNat : Int) != 32) = false := by rw [hc]; rfl
            have HX := Lib.hid (ext_mk s f k)
            have hlen : ((s.data.toList.take k).drop f).length = k - f := by have := HSZ.out; simp; try omega
            by_cases hfk : f < k
            · rw [if_neg (by intro e; rw [e] at hlen; simp at hlen; omega)] at hst
              have HST := Lib.hid hst
              clear hst hb hc hlen
              go_wp2_with (at_builtin; refine wpList_append_own _ rfl _ _ 46 rfl w.heap.size 9 i0 (.string ⟨#[]⟩) 1 16 Tryz.underlying46 HI.out HZ0.out HZ1.out HZ2.out rfl (by decide) _ _ _ rfl (Hown.out.alloc _) ⟨w.heap.size + z.blocks.size, 0, none⟩ 1 1 [.string (s.extract f k)] rfl rfl ?c1 ?c2 ?c3 ?c4 ?c5 ?_)
              case c1 =>
                intro j u hu
                cases j with
                | zero => simp at hu; subst hu; simp [Addr.add_lit, go_sem]
                | succ j => simp at hu
              case c2 => intro u hu; simp at hu; subst hu; rfl
              case c3 => unfold maxLen; omega
              case c4 => omega
              case c5 => simp; omega
              intro v' w' hown' hgr _
              have hbel : Below w.heap.size w w' := (up (grow_below w z) (up_alloc _ _)).grown hgr (by simp; omega) (fun q hq => (Hown.out.lt q hq).1)
              have Hown' := Lib.hid hown'
              clear hown' hgr
              obtain ⟨y, rfl⟩ := below_grow hbel
              go_wp2
              refine ⟨⟨k + 1, k + 1, y, out ++ [(s.data.toList.take k).drop f], by omega, by omega, by go_num, by go_num, rfl, ?_, by simp; omega, ⟨fun _ => ?_, fun h => by omega⟩⟩, by simp [intOf]; omega⟩
              · rw [strs_snoc, ← HX.out, List.length_append]; exact Hown'.out
              · rw [take_self _ _ hkl, List.append_assoc, ← HR.a (by omega), HST.out]; try rfl
            · obtain rfl : f = k := by omega
              rw [if_pos (by apply List.eq_nil_of_length_eq_zero; omega)] at hst
              have HST := Lib.hid hst
              clear hst hb hc hlen
              go_wp2
              refine ⟨⟨f + 1, f + 1, z, out, by omega, by omega, by go_num, by go_num, rfl, Hown.out, by omega, ⟨fun _ => ?_, fun h => by omega⟩⟩, by simp [intOf]; omega⟩
              rw [take_self _ _ hkl, ← HR.a (by omega), HST.out]
          · rw [if_neg hc] at hst
            have HST := Lib.hid hst
            have hcb2 : ((s[k].toNat : Int) == 32) = false := by
              rw [beq_eq_false_iff_ne]; intro e; apply hc; apply UInt8.toNat.inj; simp; omega
            have hcb3 : ((s[k].toNat : Int) != 32) = true := by rw [bne, hcb2]; rfl
            clear hst hb hc
            go_wp2
            refine ⟨⟨k + 1, f, z, out, by omega, by omega, rfl, by go_num, rfl, Hown.out, by omega, ⟨fun _ => ?_, fun h => by omega⟩⟩, by simp [intOf]; omega⟩
            rw [take_from _ _ _ hkl hf, ← HR.a (by omega), HST.out]; try rfl
        · by_cases hend : k = s.size + 1
          · subst hend
            go_wp2
            go_ret
            refine ⟨_, rfl, ?_, grow_below w z⟩
            rw [← HR.b rfl]; exact Hown.out
          · obtain rfl : k = s.size := by omega
            have hfin : out ++ (if (s.data.toList.take s.size).drop f = [] then [] else [(s.data.toList.take s.size).drop f]) = wordsL s.data.toList := by
              have := HR.a (Nat.le_refl _)
              rw [List.drop_of_length_le (by rw [← HSZ.out]; exact Nat.le_refl _), wordsG] at this
              exact this
            have hlen : ((s.data.toList.take s.size).drop f).length = s.size - f := by have := HSZ.out; simp; try omega
            clear hend
            obtain ⟨k, hks⟩ : ∃ k, k = s.size := ⟨_, rfl⟩
            have HX := Lib.hid (ext_mk s f s.size)
            by_cases hfk : f < s.size
            · rw [if_neg (by intro e; rw [e] at hlen; simp at hlen; omega)] at hfin
              have HF := Lib.hid hfin
              clear hfin hlen hks
              go_wp2_with (at_builtin; refine wpList_append_own _ rfl _ _ 46 rfl w.heap.size 9 i0 (.string ⟨#[]⟩) 1 16 Tryz.underlying46 HI.out HZ0.out HZ1.out HZ2.out rfl (by decide) _ _ _ rfl (Hown.out.alloc _) ⟨w.heap.size + z.blocks.size, 0, none⟩ 1 1 [.string (s.extract f s.size)] rfl rfl ?c1 ?c2 ?c3 ?c4 ?c5 ?_)
              case c1 =>
                intro j u hu
                cases j with
                | zero => simp at hu; subst hu; simp [Addr.add_lit, go_sem]
                | succ j => simp at hu
              case c2 => intro u hu; simp at hu; subst hu; rfl
              case c3 => unfold maxLen; omega
              case c4 => omega
              case c5 => simp; omega
              intro v' w' hown' hgr _
              have hbel : Below w.heap.size w w' := (up (grow_below w z) (up_alloc _ _)).grown hgr (by simp; omega) (fun q hq => (Hown.out.lt q hq).1)
              have Hown' := Lib.hid hown'
              clear hown' hgr
              obtain ⟨y, rfl⟩ := below_grow hbel
              go_wp2
              refine ⟨⟨s.size + 1, s.size + 1, y, out ++ [(s.data.toList.take s.size).drop f], by omega, by omega, by go_num, by go_num, rfl, ?_, by simp; omega, ⟨fun h => by omega, fun _ => HF.out⟩⟩, by simp [intOf]; try omega⟩
              rw [strs_snoc, ← HX.out, List.length_append]; exact Hown'.out
            · obtain rfl : f = s.size := by omega
              rw [if_pos (by apply List.eq_nil_of_length_eq_zero; omega), List.append_nil] at hfin
              have HF := Lib.hid hfin
              clear hfin hlen hks
              go_wp2
              refine ⟨⟨s.size + 1, s.size + 1, z, out, by omega, by omega, by go_num, by go_num, rfl, Hown.out, by omega, ⟨fun h => by omega, fun _ => HF.out⟩⟩, by simp [intOf]; try omega⟩
end Go.Proofs.YtfhcofljlkihoaaGreatDoor

namespace Go.Proofs.YtfhcofljlkihoaaGreatDoor
open Go Go.RowKit
set_option maxHeartbeats 400000
set_option maxRecDepth 100000

theorem bs1 {s : ByteArray} (h : s.size = 1) : s.data.toList = [s[0]] := by
  obtain ⟨⟨l⟩⟩ := s
  match l, h with
  | [a], _ => rfl
theorem bs2 {s : ByteArray} (h : s.size = 2) : s.data.toList = [s[0], s[1]] := by
  obtain ⟨⟨l⟩⟩ := s
  match l, h with
  | [a, b], _ => rfl
theorem numW_none {s : ByteArray} (h : s.size = 0 ∨ 2 < s.size) : numW s.data.toList = none := by
  rw [Lib.size_eq] at h
  match s.data.toList, h with
  | [], _ => rfl
  | [_], h => simp at h
  | [_, _], h => simp at h
  | _ :: _ :: _ :: _, _ => rfl

theorem numW_one (c : UInt8) : numW [c] = if 48 ≤ c.toNat ∧ c.toNat ≤ 57 then some (c.toNat - 48) else none := rfl
theorem numW_two (c d : UInt8) : numW [c, d] = if 49 ≤ c.toNat ∧ c.toNat ≤ 57 ∧ 48 ≤ d.toNat ∧ d.toNat ≤ 57 then some ((c.toNat - 48) * 10 + (d.toNat - 48)) else none := rfl
theorem byte_lo {n : Nat} (h : n < 48) : decide ((n : Int) < 48) = true ∧ ((n : Int) == 48) = false := ⟨by rw [decide_eq_true_eq]; omega, by rw [beq_eq_false_iff_ne]; omega⟩
theorem byte_hi {n : Nat} (h : 57 < n) : decide ((n : Int) < 48) = false ∧ decide ((57 : Int) < (n : Int)) = true ∧ ((n : Int) == 48) = false := ⟨by rw [decide_eq_false_iff_not]; omega, by rw [decide_eq_true_eq]; omega, by rw [beq_eq_false_iff_ne]; omega⟩
theorem byte_in {n : Nat} (h : 48 ≤ n ∧ n ≤ 57) : decide ((n : Int) < 48) = false ∧ decide ((57 : Int) < (n : Int)) = false := ⟨by rw [decide_eq_false_iff_not]; omega, by rw [decide_eq_false_iff_not]; omega⟩

theorem refNumber_no (s : ByteArray) (w : World) (hs : s.size ≤ 4000) (h : numW s.data.toList = none) :
    Calls Tryz.prog 41 #[.string s, .int .i64 2] w fun e w' => e = .returned (.tuple #[.int .i64 0, .bool false]) ∧ w' = w := by
  by_cases h1 : s.size = 1
  · rw [bs1 h1, numW_one] at h
    have h2 : ¬ (48 ≤ s[0].toNat ∧ s[0].toNat ≤ 57) := by
      intro h3; rw [if_pos h3] at h; cases h
    clear h
    by_cases h3 : s[0].toNat < 48
    · obtain ⟨hc1, hc2⟩ := byte_lo h3
      clear h2 h3
      go_enter Tryz.func41, Tryz.ntmps41
      go_wp2
      refine wp_loop_rounds 1 ?_
      repeat any_goals (rw [rounds_succ]; go_wp2)
      go_ret2
      exact ⟨rfl, rfl⟩
    · obtain ⟨hc1, hc2, hc3⟩ := byte_hi (show 57 < s[0].toNat by omega)
      clear h2 h3
      go_enter Tryz.func41, Tryz.ntmps41
      go_wp2
      refine wp_loop_rounds 1 ?_
      repeat any_goals (rw [rounds_succ]; go_wp2)
      go_ret2
      exact ⟨rfl, rfl⟩
  by_cases h2 : s.size = 2
  · rw [bs2 h2, numW_two] at h
    have h3 : ¬ (49 ≤ s[0].toNat ∧ s[0].toNat ≤ 57 ∧ 48 ≤ s[1].toNat ∧ s[1].toNat ≤ 57) := by
      intro h3; rw [if_pos h3] at h; cases h
    clear h h1
    by_cases h4 : s[0].toNat < 48
    · obtain ⟨hc1, hc2⟩ := byte_lo h4
      clear h3 h4
      go_enter Tryz.func41, Tryz.ntmps41
      go_wp2
      refine wp_loop_rounds 1 ?_
      repeat any_goals (rw [rounds_succ]; go_wp2)
      go_ret2
      exact ⟨rfl, rfl⟩
    by_cases h5 : 57 < s[0].toNat
    · obtain ⟨hc1, hc2, hc3⟩ := byte_hi h5
      clear h3 h4 h5
      go_enter Tryz.func41, Tryz.ntmps41
      go_wp2
      refine wp_loop_rounds 1 ?_
      repeat any_goals (rw [rounds_succ]; go_wp2)
      go_ret2
      exact ⟨rfl, rfl⟩
    by_cases h6 : s[0].toNat = 48
    · have hc1 : ((s[0].toNat : Int) == 48) = true := by rw [h6]; rfl
      clear h3 h4 h5 h6
      go_enter Tryz.func41, Tryz.ntmps41
      go_wp2
      go_ret2
      exact ⟨rfl, rfl⟩
    have hc0 : ((s[0].toNat : Int) == 48) = false := by rw [beq_eq_false_iff_ne]; omega
    obtain ⟨hc1, hc2⟩ := byte_in (show 48 ≤ s[0].toNat ∧ s[0].toNat ≤ 57 by omega)
    have b0 : (48 : Int) ≤ (s[0].toNat : Int) := by omega
    have b1 : (s[0].toNat : Int) ≤ 57 := by omega
    by_cases h7 : s[1].toNat < 48
    · obtain ⟨hd1, hd2⟩ := byte_lo h7
      clear h3 h4 h5 h6 h7
      go_enter Tryz.func41, Tryz.ntmps41
      go_wp2
      refine wp_loop_rounds 2 ?_
      repeat any_goals (rw [rounds_succ]; go_wp2)
      go_ret2
      exact ⟨rfl, rfl⟩
    · obtain ⟨hd1, hd2, hd3⟩ := byte_hi (show 57 < s[1].toNat by omega)
      clear h3 h4 h5 h6 h7
      go_enter Tryz.func41, Tryz.ntmps41
      go_wp2
      refine wp_loop_rounds 2 ?_
      repeat any_goals (rw [rounds_succ]; go_wp2)
      go_ret2
      exact ⟨rfl, rfl⟩
  by_cases h0 : s.size = 0
  · clear h h1 h2
    go_enter Tryz.func41, Tryz.ntmps41
    go_wp2
    go_ret2
    exact ⟨rfl, rfl⟩
  · have h3 : decide ((2 : Int) < (s.size : Int)) = true := by rw [decide_eq_true_eq]; omega
    have h4 : ((s.size : Int) == 0) = false := by rw [beq_eq_false_iff_ne]; omega
    clear h h1 h2
    go_enter Tryz.func41, Tryz.ntmps41
    go_wp2
    go_ret2
    exact ⟨rfl, rfl⟩

theorem refNumber_yes (s : ByteArray) (k : Nat) (w : World) (hs : s.size ≤ 4000) (h : numW s.data.toList = some k) :
    Calls Tryz.prog 41 #[.string s, .int .i64 2] w fun e w' => e = .returned (.tuple #[.int .i64 k, .bool true]) ∧ w' = w := by
  have hl := numW_len h
  rw [← Lib.size_eq] at hl
  rcases hl with h1 | h2
  · rw [bs1 h1, numW_one] at h
    split at h
    · rename_i h3
      simp only [Option.some.injEq] at h
      have hc0 : ((1 : Int) < ((s.size : Nat) : Int)) = False := by rw [h1]; simp
      obtain ⟨hc1, hc2⟩ := byte_in h3
      have b0 : (48 : Int) ≤ (s[0].toNat : Int) := by omega
      have b1 : (s[0].toNat : Int) ≤ 57 := by omega
      have HK : Hid ((s[0].toNat : Int) - 48 = (k : Int)) := Lib.hid (by omega)
      have hcase : ((s[0].toNat : Int) == 48) = true ∨ ((s[0].toNat : Int) == 48) = false := by cases ((s[0].toNat : Int) == 48) <;> simp
      clear h h3 hs
      rcases hcase with hz | hz
      all_goals
        go_enter Tryz.func41, Tryz.ntmps41
        go_wp2
        refine wp_loop_rounds 2 ?_
        repeat any_goals (rw [rounds_succ]; go_wp2)
        go_ret2
        refine ⟨?_, rfl⟩
        show Ending.returned (.tuple #[.int .i64 ((s[0].toNat : Int) - 48), .bool true]) = _
        rw [HK.out]
    · cases h
  · rw [bs2 h2, numW_two] at h
    split at h
    · rename_i h3
      simp only [Option.some.injEq] at h
      obtain ⟨hc1, hc2⟩ := byte_in (show 48 ≤ s[0].toNat ∧ s[0].toNat ≤ 57 by omega)
      obtain ⟨hd1, hd2⟩ := byte_in (show 48 ≤ s[1].toNat ∧ s[1].toNat ≤ 57 by omega)
      have b0 : (48 : Int) ≤ (s[0].toNat : Int) := by omega
      have b1 : (s[0].toNat : Int) ≤ 57 := by omega
      have b2 : (48 : Int) ≤ (s[1].toNat : Int) := by omega
      have b3 : (s[1].toNat : Int) ≤ 57 := by omega
      have hz : ((s[0].toNat : Int) == 48) = false := by rw [beq_eq_false_iff_ne]; omega
      have HK : Hid (((s[0].toNat : Int) - 48) * 10 + ((s[1].toNat : Int) - 48) = (k : Int)) := Lib.hid (by omega)
      clear h h3 hs
      go_enter Tryz.func41, Tryz.ntmps41
      go_wp2
      refine wp_loop_rounds 3 ?_
      repeat any_goals (rw [rounds_succ]; go_wp2)
      go_ret2
      refine ⟨?_, rfl⟩
      show Ending.returned (.tuple #[.int .i64 (((s[0].toNat : Int) - 48) * 10 + ((s[1].toNat : Int) - 48)), .bool true]) = _
      rw [HK.out]
    · cases h

theorem strs_at (ws : List Bs) (k : Nat) (h : k < ws.length) : (strs ws)[k]'(by rw [strs_len]; exact h) = .string (mkS ws[k]) := by simp [strs]
theorem Vs.str {w : World} {A : Option Addr} {n : Nat} {ws : List Bs} (h : Vs w A n (strs ws)) (k : Nat) (hk : k < ws.length) : ∃ b o, A = some ⟨b, o, none⟩ ∧ b < w.heap.size ∧ w.cell? ⟨b, o + k, none⟩ = some (.string (mkS ws[k])) := by
  obtain ⟨b, o, e, hlt, hg⟩ := h.get k (by rw [strs_len]; exact hk)
  exact ⟨b, o, e, hlt, by rw [hg, strs_at ws k hk]⟩
theorem Vs.wlen {w : World} {A : Option Addr} {n : Nat} {ws : List Bs} (h : Vs w A n (strs ws)) : n = ws.length := by rw [h.len, strs_len]
/-- Numbers of words, or none. -/
def NumsR (w : World) (ws : List Bs) (e : Ending) (w' : World) : Prop :=
  (∃ l v, numsW ws = some l ∧ e = .returned (.tuple #[v, .bool true]) ∧ w'.ownsRow w.heap.size 3 1 v l.length (ints l) ∧ Below w.heap.size w w') ∨
  (numsW ws = none ∧ e = .returned (.tuple #[.slice none 0 0, .bool false]) ∧ Below w.heap.size w w')

set_option maxHeartbeats 1000000 in
theorem refNumbers_any (A : Option Addr) (n c : Nat) (ws : List Bs) (w : World) (hv : Vs w A n (strs ws)) (h40 : n ≤ 5000) (hws : ∀ x ∈ ws, x.length ≤ 4000) :
    Calls Tryz.prog 18 #[.slice A n c, .int .i64 2] w (NumsR w ws) := by
  have Hl := Lib.hid hv.wlen
  have HV := Lib.hid hv
  have HW := Lib.hid hws
  obtain ⟨i0, hi, hz0, hz1, hz2⟩ := info_parts info3
  have HI := Lib.hid hi
  have HZ0 := Lib.hid hz0
  have HZ1 := Lib.hid hz1
  have HZ2 := Lib.hid hz2
  clear hi hz0 hz1 hz2 hv hws
  go_enter Tryz.func18, Tryz.ntmps18
  go_wp2
  go_loopw [6, 7, 8, 9] (fun v i _ _ wr => ∃ (k : Nat) (z : Gr) (l : List Int), k ≤ n ∧ i = .int .i64 k ∧ wr = grow w z ∧ l.length = k ∧ (grow w z).ownsRow w.heap.size 3 1 v k (ints l) ∧ Hid (numsW (ws.take k) = some l)) (fun _ i _ _ _ => n - (intOf i).toNat)
  case atStart => exact ⟨0, ⟨#[], w.drawn⟩, [], by omega, rfl, by simp [grow], rfl, World.ownsRow_nil _ _ _ _, Lib.hid rfl⟩
  case round =>
    obtain ⟨k, z, l, hk, rfl, rfl, hll, hown, HN⟩ := hrel
    have Hown := Lib.hid hown; clear hown
    have HLL := Lib.hid hll; clear hll
    by_cases hlt : k < n
    · have hkl : k < ws.length := by rw [← Hl.out]; exact hlt
      obtain ⟨b, o, rfl, hb, hc⟩ := HV.out.str k hkl
      have hsz := HW.out ws[k] (List.getElem_mem _)
      have htk : ws.take (k + 1) = ws.take k ++ [ws[k]] := List.take_succ_eq_append_getElem hkl
      have HTK := Lib.hid htk
      have HDR := Lib.hid (show ws = ws.take k ++ ws[k] :: ws.drop (k + 1) by rw [← List.drop_eq_getElem_cons hkl, List.take_append_drop])
      clear htk
      generalize hwk : ws[k] = x at *
      cases hn : numW x with
      | none =>
        have HX := Lib.hid hn
        clear hn
        go_wp2_with (go_at_call 41; refine (refNumber_no (mkS x) _ (by rw [mkS_size]; exact hsz) (by rw [mkS_data]; exact HX.out)).mono ?_; rintro e x1 ⟨rfl, rfl⟩)
        go_ret2
        refine Or.inr ⟨?_, rfl, grow_below w z⟩
        rw [HDR.out]; exact numsW_snoc_none HX.out
      | some m =>
        have HX := Lib.hid hn
        have hm := numW_lt hn
        clear hn
        go_wp2_with (first | (go_at_call 41; refine (refNumber_yes (mkS x) m _ (by rw [mkS_size]; exact hsz) (by rw [mkS_data]; exact HX.out)).mono ?_; rintro e x1 ⟨rfl, rfl⟩) | (at_builtin; refine wpList_append_own _ rfl _ _ 37 rfl w.heap.size 3 i0 (.int .i64 0) 1 8 Tryz.underlying37 HI.out HZ0.out HZ1.out HZ2.out rfl (by decide) _ _ _ rfl (Hown.out.alloc _) ⟨w.heap.size + z.blocks.size, 0, none⟩ 1 1 [.int .i64 m] rfl rfl ?c1 ?c2 ?c3 ?c4 ?c5 ?_))
        case c1 =>
          intro j u hu
          cases j with
          | zero => simp at hu; subst hu; simp [Addr.add_lit, go_sem]
          | succ j => simp at hu
        case c2 => intro u hu; simp at hu; subst hu; rfl
        case c3 => unfold maxLen; omega
        case c4 => omega
        case c5 => simp; omega
        intro v' w' hown' hgr _
        have hbel : Below w.heap.size w w' := (up (grow_below w z) (up_alloc _ _)).grown hgr (by simp; omega) (fun q hq => (Hown.out.lt q hq).1)
        have Hown' := Lib.hid hown'
        clear hown' hgr
        obtain ⟨y, rfl⟩ := below_grow hbel
        go_wp2
        refine ⟨⟨k + 1, y, l ++ [(m : Int)], by omega, by go_num, rfl, by simp [HLL.out], ?_, Lib.hid ?_⟩, by simp [intOf]; omega⟩
        · rw [ints_snoc]; exact Hown'.out
        · rw [HTK.out]; exact numsW_snoc HN.out HX.out
    · obtain rfl : k = n := by omega
      go_wp2
      go_ret2
      refine Or.inl ⟨l, _, ?_, rfl, ?_, grow_below w z⟩
      · have := HN.out
        rwa [List.take_of_length_le (by rw [← Hl.out]; exact Nat.le_refl _)] at this
      · rw [HLL.out]; exact Hown.out
end Go.Proofs.YtfhcofljlkihoaaGreatDoor

