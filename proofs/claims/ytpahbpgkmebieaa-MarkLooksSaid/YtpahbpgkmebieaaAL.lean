/- A region in any order in which one operation makes a variable: what only reads, and calls that make memory of their own, then a forced tail. Own text. -/
import Derived.Test.YtpahbpgkmebieaaFac
namespace Go.Proofs.Ytpahbpgkmebieaa
open Go Go.RowKit

section alloc
variable {P : Program} {md : Region.Mode}

theorem tmps_put_ne (a : Act) (x : Option Tmp) (v : Value) (d : Nat) (h : x ≠ some d) : (a.put x v).tmps[d]? = a.tmps[d]? := by
  cases x with
  | none => rfl
  | some t =>
    have : t ≠ d := fun e => h (by rw [e])
    simp [Act.put, Array.getElem?_setIfInBounds, this]

/-- What a frame ends with, it has from where each of its slots was last written. -/
theorem headAny_pin {ops : Array Oper} {C : World → Prop} {n : Nat} {L : Array Bool → Act → Prop} {A : Act} {d : Nat} (hL : ∀ done a, L done a → a = A) (f : Nat) :
    ∀ done a, headAny P md ops C n L f done a → (∀ i o, done.getD i true = false → i < n → ops[i]? = some o → o.dst ≠ some d) → A.tmps[d]? = a.tmps[d]? := by
  induction f with
  | zero => intro done a h _; rw [hL _ _ h]
  | succ f ih =>
    intro done a h hd
    obtain ⟨i, hi⟩ := List.exists_mem_of_ne_nil _ h.1
    obtain ⟨hin, hq⟩ := h.2 i hi
    obtain ⟨hun, o, ho, _⟩ := mem_ready.1 hi
    obtain ⟨v, _, hk⟩ := yieldsIn_of_qOp ho hq
    rw [ih _ _ hk (fun j oj hj hjn hoj => hd j oj (by
      by_cases e : i = j
      · subst e; exact hun
      · rwa [getD_set_ne true e] at hj) hjn hoj), tmps_put_ne _ _ _ _ (hd i o hun hin ho)]

theorem put_same {a A A' : Act} {x : Option Tmp} {v v' : Value} (h : ∀ d, x = some d → A.tmps[d]? = A'.tmps[d]?) (h1 : ∀ d, x = some d → A.tmps[d]? = (a.put x v).tmps[d]?) (h2 : ∀ d, x = some d → A'.tmps[d]? = (a.put x v').tmps[d]?) : a.put x v = a.put x v' := by
  cases x with
  | none => rfl
  | some d =>
    have e := ((h1 d rfl).symm.trans (h d rfl)).trans (h2 d rfl)
    simp only [Act.put] at e ⊢
    by_cases hd : d < a.tmps.size
    · simp [Array.getElem?_setIfInBounds, hd] at e
      rw [e]
    · rw [Array.setIfInBounds_eq_of_size_le (Nat.not_lt.1 hd), Array.setIfInBounds_eq_of_size_le (Nat.not_lt.1 hd)]

theorem qOp_same {ops ops' : Array Oper} {C : World → Prop} {i : Nat} {K : Act → Prop} {a : Act} (h : ops'[i]? = ops[i]?) (hy : ∀ t, yielded ops' t = yielded ops t) (hq : qOp P ops' C i K a) : qOp P ops C i K a := by
  unfold qOp at *
  rw [h, hy] at hq
  exact hq

theorem alloc_done {ops ops' : Array Oper} {C : World → Prop} {n g m : Nat} {L : Array Bool → Act → Prop} {Q : Exit → Act → World → Prop} (hsame : ∀ i, i ≠ m → ops'[i]? = ops[i]?) (hy : ∀ t, yielded ops' t = yielded ops t)
    (hr : ∀ done, Region.ready md ops' done = Region.ready md ops done) (hL : ∀ done a w, C w → L done a → wpAny P md ops Q g done a w) (f : Nat) :
    ∀ done a w, C w → done.getD m true = true → headAny P md ops' C n L f done a → wpAny P md ops Q (f + g) done a w := by
  induction f with
  | zero => intro done a w hw _ h; rw [Nat.zero_add]; exact hL _ _ _ hw h
  | succ f ih =>
    intro done a w hw hm h
    rw [show f + 1 + g = (f + g) + 1 by omega]
    refine ⟨fun h0 => absurd (by rw [hr]; exact h0) h.1, fun i hi => ?_⟩
    have hi' : i ∈ Region.ready md ops' done := by rw [hr]; exact hi
    have hne : i ≠ m := fun e => by
      subst e
      rw [(mem_ready.1 hi).1] at hm
      cases hm
    exact wpOp_of_qOp hw (fun a' w' hw' hk => ih _ a' w' hw' (by rw [getD_set_ne true hne]; exact hm) hk) (qOp_same (hsame i hne) hy (h.2 i hi').2)

/-- The class of the worlds that have grown out of b. -/
def grown (b : World) : World → Prop := fun w' => ∃ z, w' = grow b z
theorem grown_self (b : World) : grown b b := ⟨⟨#[], b.drawn⟩, by simp [grow]⟩

theorem alloc_first {ops : Array Oper} {ops' : Nat → Array Oper} {n g m t : Nat} {obj : Obj} {oa : Oper} {oN : Nat → Oper} {A : Nat → Act} {L : Nat → Array Bool → Act → Prop} {Q : Exit → Act → World → Prop} {w : World}
    (hsame : ∀ N i, i ≠ m → (ops' N)[i]? = ops[i]?) (hy : ∀ N x, yielded (ops' N) x = yielded ops x) (hr : ∀ N done, Region.ready md (ops' N) done = Region.ready md ops done)
    (hmn : m < n) (ha : ops[m]? = some oa) (hwa : ∀ y, Region.wanted oa y = true) (hda : oa.dst = some t) (hrun : ∀ a w, (execOp (Act.eval a) oa).run P w = .ok (.value (.pointer (some ⟨w.heap.size, 0, none⟩))) (w.alloc obj))
    (hN : ∀ N, (ops' N)[m]? = some (oN N)) (hwN : ∀ N y, Region.wanted (oN N) y = true) (hdN : ∀ N, (oN N).dst = some t) (hrunN : ∀ N a w, (execOp (Act.eval a) (oN N)).run P w = .ok (.value (.pointer (some ⟨N, 0, none⟩))) w)
    (hnd : ∀ i j oi oj, i < n → j < n → i ≠ j → ops[i]? = some oi → ops[j]? = some oj → ∀ d, oi.dst = some d → oj.dst ≠ some d)
    (hA : ∀ N d, d ≠ t → (A N).tmps[d]? = (A 0).tmps[d]?) (hLA : ∀ N done a, L N done a → a = A N) (hLm : ∀ N done a, L N done a → done.getD m true = true)
    (hL : ∀ N b, Below w.heap.size w b → b.heap[N]? = some obj → w.heap.size ≤ N → ∀ done a w', grown b w' → L N done a → wpAny P md ops Q g done a w') (f : Nat) :
    ∀ done a w1, grown w w1 → done.getD m true = false → (∀ N b, Below w.heap.size w b → headAny P md (ops' N) (grown b) n (L N) f done a) → wpAny P md ops Q (f + g) done a w1 := by
  induction f with
  | zero =>
    intro done a w1 _ hm h
    have := hLm 0 done a (h 0 w (Below.refl _ _))
    rw [hm] at this
    cases this
  | succ f ih =>
    intro done a w1 hw1 hm h
    rw [show f + 1 + g = (f + g) + 1 by omega]
    have h0 := h 0 w (Below.refl _ _)
    refine ⟨fun e => absurd (by rw [hr]; exact e) h0.1, fun i hi => ?_⟩
    obtain ⟨z1, hz1⟩ := hw1
    have hbw1 : Below w.heap.size w w1 := hz1 ▸ grow_below w z1
    by_cases him : i = m
    · subst him
      have hb : Below w.heap.size w (w1.alloc obj) := up hbw1 (up_alloc _ _)
      have hi' : i ∈ Region.ready md (ops' w1.heap.size) done := by rw [hr]; exact hi
      have hq := ((h w1.heap.size (w1.alloc obj) hb).2 i hi').2
      obtain ⟨v, hyv, hk⟩ := yieldsIn_of_qOp (hN w1.heap.size) hq
      have hv : v = .pointer (some ⟨w1.heap.size, 0, none⟩) := by
        rcases hyv with ⟨_, hv⟩ | ⟨hv, _⟩
        · have := hv (w1.alloc obj) (grown_self _)
          unfold Oper.quietAt at this
          rw [hrunN] at this
          exact this.2.symm
        · rw [hwN] at hv; cases hv
      subst hv
      unfold wpOp
      simp only [ha, hwa, if_true]
      refine .inl ?_
      unfold Oper.wp
      rw [hrun]
      show wpAny P md ops Q (f + g) _ (a.put oa.dst _) (w1.alloc obj)
      rw [hda]
      rw [hdN] at hk
      have hblk : (w1.alloc obj).heap[w1.heap.size]? = some obj := by
        show (w1.heap.push obj)[w1.heap.size]? = _
        simp
      exact alloc_done (hsame _) (hy _) (hr _) (hL w1.heap.size (w1.alloc obj) hb hblk hbw1.size) f _ _ _ (grown_self _) (by
        obtain ⟨hu, o, ho, _⟩ := mem_ready.1 hi
        have hlt : i < done.size := by
          rcases Nat.lt_or_ge i done.size with h' | h'
          · exact h'
          · rw [show done.getD i true = true by simp [Array.getD, Nat.not_lt.2 h']] at hm; cases hm
        simp [Array.getD, hlt]) hk
    · have hi' : ∀ N, i ∈ Region.ready md (ops' N) done := fun N => by rw [hr]; exact hi
      obtain ⟨hin, hq⟩ := h0.2 i (hi' 0)
      obtain ⟨hun, o, ho, _⟩ := mem_ready.1 hi
      have ho' : ∀ N, (ops' N)[i]? = some o := fun N => (hsame N i him).trans ho
      obtain ⟨v, hyv, hk⟩ := yieldsIn_of_qOp (ho' 0) hq
      have left : ∀ (d : Nat), o.dst = some d → ∀ N j oj, (done.setIfInBounds i true).getD j true = false → j < n → (ops' N)[j]? = some oj → oj.dst ≠ some d := by
        intro d hd N j oj hj hjn hoj
        have hij : i ≠ j := fun e => by
          subst e
          by_cases hlt : i < done.size
          · simp [Array.getD, hlt] at hj
          · simp [Array.getD, hlt] at hun
        by_cases hjm : j = m
        · subst hjm
          rw [hN] at hoj
          obtain rfl := Option.some.inj hoj
          rw [hdN]
          intro e
          exact hnd i j o oa hin hjn hij ho ha d hd (by rw [hda]; exact e)
        · rw [hsame N j hjm] at hoj
          exact hnd i j o oj hin hjn hij ho hoj d hd
      have hdt : ∀ d, o.dst = some d → d ≠ t := fun d hd e => by
        subst e
        exact hnd i m o oa hin hmn him ho ha d hd hda
      have all : ∀ N b, Below w.heap.size w b → headAny P md (ops' N) (grown b) n (L N) f (done.setIfInBounds i true) (a.put o.dst v) := by
        intro N b hb
        obtain ⟨v', _, hk'⟩ := yieldsIn_of_qOp (ho' N) ((h N b hb).2 i (hi' N)).2
        have e : a.put o.dst v = a.put o.dst v' := put_same (A := A 0) (A' := A N) (fun d hd => (hA N d (hdt d hd)).symm)
          (fun d hd => headAny_pin (hLA 0) f _ _ hk (left d hd 0)) (fun d hd => headAny_pin (hLA N) f _ _ hk' (left d hd N))
        rw [e]
        exact hk'
      have hyv' : YieldsIn P ops (grown w) o v a := by
        unfold YieldsIn at *
        rw [← hy 0]
        exact hyv
      exact wpOp_of_qOp (C := grown w) ⟨z1, hz1⟩ (fun a' w' hw' hk2 => ih _ a' w' hw' (by rw [getD_set_ne true him]; exact hm) hk2)
        (hyv'.qOp ho (K := fun a' => ∀ N b, Below w.heap.size w b → headAny P md (ops' N) (grown b) n (L N) f (done.setIfInBounds i true) a') all)

/-- Each slot of the first n operations is written once. -/
def dstsB (ops : Array Oper) (n : Nat) : Bool := (List.range n).all fun i => (List.range n).all fun j => i == j || ((ops[i]?).bind (·.dst)).isNone || !(((ops[i]?).bind (·.dst)) == ((ops[j]?).bind (·.dst)))
theorem dstsB_spec {ops : Array Oper} {n : Nat} (h : dstsB ops n = true) : ∀ i j oi oj, i < n → j < n → i ≠ j → ops[i]? = some oi → ops[j]? = some oj → ∀ d, oi.dst = some d → oj.dst ≠ some d := by
  intro i j oi oj hi hj hij hoi hoj d hd e
  have := List.all_eq_true.1 (List.all_eq_true.1 h i (List.mem_range.2 hi)) j (List.mem_range.2 hj)
  simp [hoi, hoj, hd, e, hij] at this

/-- THE RULE: the m-th of the first n operations makes a variable; the others of these are quiet; what follows comes in its one order. -/
theorem any_grow_alloc {Q : Exit → Act → World → Prop} {a : Act} {w : World} {l : List Oper} (n m t : Nat) (obj : Obj) (oa : Oper) (oN : Nat → Oper) (l' : Nat → List Oper) (A : Nat → Act)
    (hB : ∀ N, Region.lexTailB .any (l' N).toArray n = true) (hlen : ∀ N, (l' N).length = l.length) (hmn : m < n)
    (hsame : ∀ N i, i ≠ m → (l' N)[i]? = l[i]?) (hafter : ∀ N, (oN N).after = oa.after) (hdst : ∀ N, (oN N).dst = oa.dst)
    (ha : l[m]? = some oa) (hN : ∀ N, (l' N)[m]? = some (oN N)) (hga : oa.guard = none) (hgN : ∀ N, (oN N).guard = none) (hfa : oa.after = #[]) (hda : oa.dst = some t)
    (hrun : ∀ a w, (execOp (Act.eval a) oa).run P w = .ok (.value (.pointer (some ⟨w.heap.size, 0, none⟩))) (w.alloc obj)) (hrunN : ∀ N a w, (execOp (Act.eval a) (oN N)).run P w = .ok (.value (.pointer (some ⟨N, 0, none⟩))) w)
    (hnd : dstsB l.toArray n = true) (hA : ∀ N, A N = (A 0).put (some t) (.pointer (some ⟨N, 0, none⟩)))
    (h : ∀ b N, Below w.heap.size w b → wpQuiet P (l' N).toArray (fun w' => ∃ z, w' = grow b z) (fun a' => a' = A N) ((l' N).take n) a)
    (htail : ∀ W' N, Below w.heap.size w W' → w.heap.size ≤ N → W'.heap[N]? = some obj → wpList P l.toArray Q (l.drop n) (A N) W') : wpAny P .any l.toArray Q l.toArray.size (Array.replicate l.toArray.size false) a { w with drawn := w.drawn + 1 } := by
  have hdrop : ∀ N, (l' N).drop n = l.drop n := fun N => by
    apply List.ext_getElem?
    intro i
    rw [List.getElem?_drop, List.getElem?_drop, hsame N _ (by omega)]
  have hr : ∀ N done, Region.ready .any (l' N).toArray done = Region.ready .any l.toArray done := fun N done => by
    unfold Region.ready
    simp only [List.size_toArray, hlen N, List.getElem?_toArray]
    congr 1
    funext i
    by_cases e : i = m
    · subst e; rw [hN, ha]; simp [hafter]
    · rw [hsame N i e]
  have hy : ∀ N x, yielded (l' N).toArray x = yielded l.toArray x := fun N x => by
    funext j
    unfold yielded
    simp only [List.getElem?_toArray]
    by_cases e : j = m
    · subst e; rw [hN, ha]; simp [hdst]
    · rw [hsame N j e]
  have hwa : ∀ y, Region.wanted oa y = true := fun y => by simp [Region.wanted, hga]
  have hwN : ∀ N y, Region.wanted (oN N) y = true := fun N y => by simp [Region.wanted, hgN]
  have hBB : ∀ N, Region.noSelect (l' N).toArray = true ∧ n < l.length ∧ Region.sinkB .any (l' N).toArray n = true ∧ Region.chainB .any (l' N).toArray n = true ∧ Region.lexHead .any (l' N).toArray (l.length - n) n 0 (Array.replicate l.length false) = true := fun N => by
    have := hB N
    simp only [Region.lexTailB, Bool.and_eq_true, decide_eq_true_eq, List.size_toArray, hlen N] at this
    exact ⟨this.1.1.1.1, this.1.1.1.2, this.1.1.2, this.1.2, this.2⟩
  have hn := (hBB 0).2.1
  have head : ∀ N b, Below w.heap.size w b → headAny P .any (l' N).toArray (grown b) n (fun d a' => Region.seqB .any (l' N).toArray (l.length - n) n d = true ∧ a' = A N) n (Array.replicate l.length false) a := by
    intro N b hb
    obtain ⟨b1, _, b3, b4, b5⟩ := hBB N
    have htl : ((l' N).take n).length = n := by simp [hlen N]; omega
    have inv0 : HeadInv .any (l' N).toArray n (Array.replicate l.length false) :=
      { size := by simp [hlen N]
        closed := fun j oj _ hl => by rw [getD_replicate_false] at hl; cases hl
        tail := fun t _ ht => getD_in (by simpa [hlen N] using ht) (getD_replicate_false _ _) }
    have := headAny_lex (md := .any) (C := grown b) (g := l.length - n) (G := fun a' => a' = A N) b1 b3 b4 (by simpa [hlen N] using hn) ((l' N).take n) 0 (Array.replicate l.length false) a
      (fun j hj => by rw [htl] at hj; simp [hj]) (by simpa using htl) inv0 (by rw [htl]; exact b5) (h b N hb)
    rwa [htl] at this
  have S := alloc_first (P := P) (md := .any) (ops := l.toArray) (ops' := fun N => (l' N).toArray) (n := n) (g := l.length - n) (m := m) (t := t) (obj := obj) (oa := oa) (oN := oN) (A := A)
    (L := fun N d a' => Region.seqB .any (l' N).toArray (l.length - n) n d = true ∧ a' = A N) (Q := Q) (w := w)
    (fun N i hi => by simpa using hsame N i hi) hy hr hmn (by simpa using ha) hwa hda hrun (fun N => by simpa using hN N) hwN (fun N => (hdst N).trans hda) hrunN (dstsB_spec hnd)
    (fun N d hd => by rw [hA N]; exact tmps_put_ne _ _ _ _ (fun e => hd (Option.some.inj e).symm)) (fun N done a' hL => hL.2)
    (fun N done a' hL => by
      cases hd : done.getD m true
      · exfalso
        have hm : m ∈ Region.ready .any (l' N).toArray done := mem_ready.2 ⟨hd, oN N, by simpa using hN N, fun e he => by rw [hafter, hfa] at he; simp at he⟩
        have := seqB_ready hL.1 m hm
        omega
      · rfl)
    (fun N b hb hblk hwN done a' w' hw' hL => by
      obtain ⟨z, rfl⟩ := hw'
      obtain ⟨hs, rfl⟩ := hL
      have hblk' : (grow b z).heap[N]? = some obj := ((grow_below b z).block N (Array.getElem?_eq_some_iff.1 hblk).1).trans hblk
      have hs' : ∀ (k g : Nat) (d : Array Bool), Region.seqB .any (l' N).toArray g k d = Region.seqB .any l.toArray g k d := by
        intro k g
        induction g generalizing k with
        | zero => intro d; simp only [Region.seqB, hr]
        | succ g ih => intro d; simp only [Region.seqB, hr, ih]
      have := wpAny_of_seq (md := .any) (ops := l.toArray) (Q' := Q) (l.drop n) n done (A N) (grow b z) (fun j => by simp [List.getElem?_drop]) (by rw [List.length_drop, ← hs']; exact hs)
        (htail (grow b z) N (up hb (grow_below b z)) hwN hblk')
      rwa [List.length_drop] at this)
    n (Array.replicate l.length false) a { w with drawn := w.drawn + 1 } ⟨⟨#[], w.drawn + 1⟩, by simp [grow]⟩ (getD_in (by simp; omega) (getD_replicate_false _ _)) head
  rw [show n + (l.length - n) = l.length by omega] at S
  simpa using S
theorem wp_region_grow_alloc {id : Nat} {Q : Exit → Act → World → Prop} {a : Act} {w : World} {l : List Oper} (n m t : Nat) (obj : Obj) (oa : Oper) (oN : Nat → Oper) (l' : Nat → List Oper) (A : Nat → Act)
    (hmo : P.follows .mixedOrders = true) (hB : ∀ N, Region.lexTailB .any (l' N).toArray n = true) (hlen : ∀ N, (l' N).length = l.length) (hmn : m < n)
    (hsame : ∀ N i, i ≠ m → (l' N)[i]? = l[i]?) (hafter : ∀ N, (oN N).after = oa.after) (hdst : ∀ N, (oN N).dst = oa.dst)
    (ha : l[m]? = some oa) (hN : ∀ N, (l' N)[m]? = some (oN N)) (hga : oa.guard = none) (hgN : ∀ N, (oN N).guard = none) (hfa : oa.after = #[]) (hda : oa.dst = some t)
    (hrun : ∀ a w, (execOp (Act.eval a) oa).run P w = .ok (.value (.pointer (some ⟨w.heap.size, 0, none⟩))) (w.alloc obj)) (hrunN : ∀ N a w, (execOp (Act.eval a) (oN N)).run P w = .ok (.value (.pointer (some ⟨N, 0, none⟩))) w)
    (hnd : dstsB l.toArray n = true) (hA : ∀ N, A N = (A 0).put (some t) (.pointer (some ⟨N, 0, none⟩)))
    (h : ∀ b N, Below w.heap.size w b → wpQuiet P (l' N).toArray (fun w' => ∃ z, w' = grow b z) (fun a' => a' = A N) ((l' N).take n) a)
    (htail : ∀ W' N, Below w.heap.size w W' → w.heap.size ≤ N → W'.heap[N]? = some obj → wpList P l.toArray Q (l.drop n) (A N) W') : (Code.region id l.toArray true).wp P Q a w :=
  wp_region_any hmo (any_grow_alloc n m t obj oa oN l' A hB hlen hmn hsame hafter hdst ha hN hga hgN hfa hda hrun hrunN hnd hA h htail)

/-- The operation that makes a variable, its pointer put in its place. -/
def ptrOp (t T : Nat) (p : String) (N : Nat) : Oper := { dst := some t, op := .assign (.const (.pointer (some ⟨N, 0, none⟩))), type := T, pos := p, after := #[], guard := none }
theorem wp_region_alloc {id : Nat} {Q : Exit → Act → World → Prop} {a : Act} {w : World} {l : List Oper} (n m t : Nat) (obj : Obj) {ty : TypeId} {T : Nat} {p : String}
    (hmo : P.follows .mixedOrders = true) (ha : l[m]? = some { dst := some t, op := .alloc ty, type := T, pos := p, after := #[], guard := none }) (hB : ∀ N, Region.lexTailB .any (l.set m (ptrOp t T p N)).toArray n = true) (hmn : m < n)
    (hrun : ∀ a w, (execOp (Act.eval a) { dst := some t, op := .alloc ty, type := T, pos := p, after := #[], guard := none }).run P w = .ok (.value (.pointer (some ⟨w.heap.size, 0, none⟩))) (w.alloc obj))
    (hnd : dstsB l.toArray n = true)
    (h : ∃ A : Nat → Act, (∀ b N, Below w.heap.size w b → wpQuiet P (l.set m (ptrOp t T p N)).toArray (fun w' => ∃ z, w' = grow b z) (fun a' => a' = A N) ((l.set m (ptrOp t T p N)).take n) a) ∧
      (∀ N, A N = (A 0).put (some t) (.pointer (some ⟨N, 0, none⟩))) ∧
      (∀ W' N, Below w.heap.size w W' → w.heap.size ≤ N → W'.heap[N]? = some obj → wpList P l.toArray Q (l.drop n) (A N) W')) : (Code.region id l.toArray true).wp P Q a w := by
  obtain ⟨A, h1, h2, h3⟩ := h
  have hm : m < l.length := (List.getElem?_eq_some_iff.1 ha).1
  exact wp_region_grow_alloc n m t obj _ (ptrOp t T p) (fun N => l.set m (ptrOp t T p N)) A hmo hB (fun N => by simp) hmn (fun N i hi => by rw [List.getElem?_set_ne (Ne.symm hi)]) (fun _ => rfl) (fun _ => rfl) ha
    (fun N => by rw [List.getElem?_set_self hm]) rfl (fun _ => rfl) rfl rfl hrun (fun N a w => by simp [ptrOp, execOp, Act.eval]) hnd h2 h1 h3

/-- Six cells that were made, written. -/
theorem made6 {w : World} {N : Nat} {c0 c1 c2 c3 c4 c5 : Value} {ty : TypeId} (h : w.heap[N]? = some (.cells #[c0, c1, c2, c3, c4, c5] ty (0, 0))) :
    N < w.heap.size ∧ (∀ j, w.cell? ⟨N, j, none⟩ = [c0, c1, c2, c3, c4, c5][j]?) ∧ (∀ j, w.frozen? ⟨N, j, none⟩ = false) := by
  refine ⟨(Array.getElem?_eq_some_iff.1 h).1, fun j => ?_, fun j => ?_⟩
  · unfold World.cell?; rw [h]; simp
  · unfold World.frozen?; rw [h]; simp
end alloc
end Go.Proofs.Ytpahbpgkmebieaa
