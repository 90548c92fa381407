/- Contracts of functions of the program and of the reference, a calculus of states, and plain facts: a part of a proof. Own text. -/
import Derived.Test.YtjimjdhdnkhfnaaGreatJag
import Derived.Deep.Cut
set_option linter.unusedVariables false
set_option linter.unusedSimpArgs false
set_option linter.unusedSectionVars false
namespace Go.Proofs.YtjimjdhdnkhfnaaGreat
open Go Go.RowKit
set_option maxHeartbeats 400000
set_option maxRecDepth 100000
structure Bx (w : World) (b : Nat) (t : TypeId) (cs : List Value) : Prop where
  h : w.heap[b]? = some (.cells ⟨cs⟩ t (0, 0))
section
variable {w U : World} {b b' : Nat} {t : TypeId} {cs : List Value}
theorem Bx.lt (K : Bx w b t cs) : b < w.heap.size := (Array.getElem?_eq_some_iff.1 K.h).1
theorem Bx.get (K : Bx w b t cs) : ∀ j, w.cell? ⟨b, j, none⟩ = cs[j]? := fun j => by rw [cell_of_row w b j _ _ _ K.h]; simp
theorem Bx.fr (K : Bx w b t cs) : ∀ j, w.frozen? ⟨b, j, none⟩ = false := fun j => frozen_of_row w b j _ _ K.h
theorem Bx.keep (K : Bx w b t cs) (hb : Below w.heap.size w U) : Bx U b t cs := ⟨(hb.block b K.lt).trans K.h⟩
theorem Bx.new (w : World) (cs : List Value) (t : TypeId) : Bx (w.alloc (.cells ⟨cs⟩ t)) w.heap.size t cs := ⟨heap_alloc_new _ _⟩
theorem Bx.newAt (w : World) (cs : List Value) (t : TypeId) (h : b = w.heap.size) : Bx (w.alloc (.cells ⟨cs⟩ t)) b t cs := by subst h; exact Bx.new _ _ _
theorem Bx.old (K : Bx w b t cs) (o : Obj) : Bx (w.alloc o) b t cs := ⟨(Below.heap_alloc w o b K.lt).trans K.h⟩
structure Put (w : World) (b : Nat) (U : World) : Prop where
  os : U.os = w.os
  tape : U.tape = w.tape
  output : U.output = w.output
  size : U.heap.size = w.heap.size
  block : ∀ k, k ≠ b → U.heap[k]? = w.heap[k]?
theorem Bx.put (K : Bx w b' t cs) (p : Put w b U) (h : b' ≠ b) : Bx U b' t cs := ⟨(p.block b' h).trans K.h⟩
theorem Put.below (p : Put w b U) {B : Nat} (h : B ≤ b) : Below B w U := ⟨p.os, p.tape, p.output, Nat.le_of_eq p.size.symm, fun k hk => p.block k (by omega)⟩
theorem upP {W X : World} (h1 : Below W.heap.size W X) (p : Put X b U) (h : W.heap.size ≤ b) : Below W.heap.size W U := h1.trans (p.below h)
theorem Put.cell (w : World) (b j : Nat) (v : Value) : Put w b (w.setCell ⟨b, j, none⟩ v) :=
  ⟨rfl, rfl, rfl, by simp [World.setCell], fun k hk => heap_setCell_other w ⟨b, j, none⟩ k v hk⟩
theorem Put.row (w : World) (b : Nat) (a : Array Value) : Put w b (w.setRow b a) := ⟨rfl, rfl, rfl, by simp, fun k hk => setRow_other w b k a hk⟩
theorem Put.trans {X Y Z : World} (p : Put X b Y) (q : Put Y b Z) : Put X b Z :=
  ⟨q.os.trans p.os, q.tape.trans p.tape, q.output.trans p.output, q.size.trans p.size, fun k hk => (q.block k hk).trans (p.block k hk)⟩
theorem Bx.cell (K : Bx w b t cs) (j : Nat) (v : Value) : Bx (w.setCell ⟨b, j, none⟩ v) b t (cs.set j v) :=
  ⟨by rw [heap_setCell_same w b j _ t v K.h]; simp⟩
theorem Bx.row (K : Bx w b t cs) (a : Array Value) : Bx (w.setRow b a) b t a.toList := ⟨by rw [setRow_heap w b _ a t _ K.h]⟩
end
section
variable {P : Program} {ops : Array Oper} {rest : List Oper} {o : Oper} {a : Act} {w : World} {Q : Exit → Act → World → Prop} {b : Nat} {t : TypeId}
theorem wpList_put (ty : TypeId) (p s : Tmp) (hg : o.guard = none) (ho : o.op = .store ty (.tmp p) (.tmp s)) {old : List Value} {cs : Array Value} (K : Bx w b t old) (hx : a.eval (.tmp p) = .pointer (some ⟨b, 0, none⟩))
    (hy : a.eval (.tmp s) = .agg cs) (hi : (P.info? ty).map (·.size) = some cs.size) (hold : old.length = cs.size) (h1 : cs.all (·.oneCell') = true)
    (h : ∀ U, Bx U b t cs.toList → Put w b U → wpList P ops Q rest (a.put o.dst undef) U) : wpList P ops Q (o :: rest) a w :=
  wpList_store_row hg ty _ _ ho b cs hx hy t _ K.h hi (by simpa using hold) h1 (h _ (K.row cs) (Put.row w b cs))
theorem wpList_get (ty : TypeId) (p : Tmp) (hg : o.guard = none) (ho : o.op = .load ty (.tmp p)) {cs : List Value} (K : Bx w b t cs) (hx : a.eval (.tmp p) = .pointer (some ⟨b, 0, none⟩)) {d : TypeDesc}
    (hu : P.underlying ty = some d) (hd : (match d with | .struct _ | .array _ _ => true | _ => false) = true) (hi : (P.info? ty).map (·.size) = some cs.length)
    (h : wpList P ops Q rest (a.put o.dst (.agg ⟨cs⟩)) w) : wpList P ops Q (o :: rest) a w :=
  wpList_load_row hg ty _ ho b hx t _ _ d K.h hu hd (by simpa using hi) h
end
section
variable {P : Program} {fn : Func} {w : World} {b : Nat} {t ty : TypeId} {cs : List Value} {d : TypeDesc}
theorem cell_res (K : Bx w b t cs) (hu : P.underlying ty = some d) (hd : (match d with | .struct _ | .array _ _ => true | _ => false) = true) (hi : (P.info? ty).map (·.size) = some cs.length) :
    (loadVar ty ⟨b, 0, none⟩).run P w = .ok (.agg ⟨cs⟩) w := run_loadVar_row w b t ty _ _ d K.h hu hd (by simpa using hi)
theorem results_1 {p : Tmp} (h : fn.results = #[.cell p ty]) (tmps : Array Value) (hp : tmps.getD p undef = .pointer (some ⟨b, 0, none⟩)) (K : Bx w b t cs)
    (hu : P.underlying ty = some d) (hd : (match d with | .struct _ | .array _ _ => true | _ => false) = true) (hi : (P.info? ty).map (·.size) = some cs.length) : (results fn tmps).run P w = .ok (.agg ⟨cs⟩) w :=
  results_cell_row h tmps w b t _ _ d hp K.h hu hd (by simpa using hi)
theorem results_2 {p q : Tmp} (h : fn.results = #[.cell p ty, .tmp q]) (tmps : Array Value) (hp : tmps.getD p undef = .pointer (some ⟨b, 0, none⟩)) (K : Bx w b t cs)
    (hu : P.underlying ty = some d) (hd : (match d with | .struct _ | .array _ _ => true | _ => false) = true) (hi : (P.info? ty).map (·.size) = some cs.length) :
    (results fn tmps).run P w = .ok (.tuple #[.agg ⟨cs⟩, tmps.getD q undef]) w := by
  have hp' : tmps[p]?.getD undef = .pointer (some ⟨b, 0, none⟩) := by simpa using hp
  simp [results, h, hp', asAddr, cell_res K hu hd hi]
end
section
variable {P : Program} {fn : Func} {w : World} {b : Nat} {t ty : TypeId} {cs : List Value} {d : TypeDesc} {R : Ending → World → Prop} {a : Act}
theorem post_1 {p : Tmp} (h : fn.results = #[.cell p ty]) (h0 : a.defers = []) (hp : a.tmps.getD p undef = .pointer (some ⟨b, 0, none⟩)) (K : Bx w b t cs)
    (hu : P.underlying ty = some d) (hd : (match d with | .struct _ | .array _ _ => true | _ => false) = true) (hi : (P.info? ty).map (·.size) = some cs.length) (hR : R (.returned (.agg ⟨cs⟩)) w) : bodyPost P fn R .ret a w :=
  bodyPost_ret (results_1 h _ hp K hu hd hi) h0 hR
theorem post_2 {p q : Tmp} {v : Value} (h : fn.results = #[.cell p ty, .tmp q]) (h0 : a.defers = []) (hp : a.tmps.getD p undef = .pointer (some ⟨b, 0, none⟩)) (K : Bx w b t cs)
    (hu : P.underlying ty = some d) (hd : (match d with | .struct _ | .array _ _ => true | _ => false) = true) (hi : (P.info? ty).map (·.size) = some cs.length) (hq : a.tmps.getD q undef = v) (hR : R (.returned (.tuple #[.agg ⟨cs⟩, v])) w) : bodyPost P fn R .ret a w :=
  bodyPost_ret (results_2 h _ hp K hu hd hi) h0 (by rw [hq]; exact hR)
end
theorem Is.keepP {w w' : World} {A : Option Addr} {n : Nat} {l : List Int} {B : Nat} (h : Is w A n l) (hB : ∀ p, A = some p → p.block < B) (hb : Below B w w') : Is w' A n l :=
  ⟨h.len, h.small, fun k hk => by
    obtain ⟨b, o, e, hlt, hg⟩ := h.get k hk
    have hB1 := hB _ e
    exact ⟨b, o, e, by have := hb.size; omega, (hb.cell (p := ⟨b, o + k, none⟩) hB1).trans hg⟩⟩
end Go.Proofs.YtjimjdhdnkhfnaaGreat
namespace Go.Proofs.YtjimjdhdnkhfnaaGreat
open Go Go.RowKit
section alloc
variable {P : Program} {md : Region.Mode}
theorem tmps_put_ne (a : Act) (x : Option Tmp) (v : Value) (d : Nat) (h : x ≠ some d) : (a.put x v).tmps[d]? = a.tmps[d]? := by
  cases x with
  | none => rfl
  | some t =>
    have : t ≠ d := fun e => h (by rw [e])
    simp [Act.put, Array.getElem?_setIfInBounds, this]
theorem headAny_pin {ops : Array Oper} {C : World → Prop} {n : Nat} {L : Array Bool → Act → Prop} {A : Act} {d : Nat} (hL : ∀ done a, L done a → a = A) (f : Nat) :
    ∀ done a, headAny P md ops C n L f done a → (∀ i o, done.getD i true = false → i < n → ops[i]? = some o → o.dst ≠ some d) → A.tmps[d]? = a.tmps[d]? := by
  induction f with
  | zero => intro done a h _; rw [hL _ _ h]
  | succ f ih =>
    intro done a h hd
    obtain ⟨i, hi⟩ := List.exists_mem_of_ne_nil _ h.1
    obtain ⟨hin, hq⟩ := h.2 i hi
    obtain ⟨hun, o, ho, _⟩ := mem_ready.1 hi
    obtain ⟨v, _, hk⟩ := yieldsIn_of_qOp ho hq
    rw [ih _ _ hk (fun j oj hj hjn hoj => hd j oj (by
      by_cases e : i = j
      · subst e; exact hun
      · rwa [getD_set_ne true e] at hj) hjn hoj), tmps_put_ne _ _ _ _ (hd i o hun hin ho)]
theorem put_same {a A A' : Act} {x : Option Tmp} {v v' : Value} (h : ∀ d, x = some d → A.tmps[d]? = A'.tmps[d]?) (h1 : ∀ d, x = some d → A.tmps[d]? = (a.put x v).tmps[d]?) (h2 : ∀ d, x = some d → A'.tmps[d]? = (a.put x v').tmps[d]?) : a.put x v = a.put x v' := by
  cases x with
  | none => rfl
  | some d =>
    have e := ((h1 d rfl).symm.trans (h d rfl)).trans (h2 d rfl)
    simp only [Act.put] at e ⊢
    by_cases hd : d < a.tmps.size
    · simp [Array.getElem?_setIfInBounds, hd] at e
      rw [e]
    · rw [Array.setIfInBounds_eq_of_size_le (Nat.not_lt.1 hd), Array.setIfInBounds_eq_of_size_le (Nat.not_lt.1 hd)]
theorem qOp_same {ops ops' : Array Oper} {C : World → Prop} {i : Nat} {K : Act → Prop} {a : Act} (h : ops'[i]? = ops[i]?) (hy : ∀ t, yielded ops' t = yielded ops t) (hq : qOp P ops' C i K a) : qOp P ops C i K a := by
  unfold qOp at *
  rw [h, hy] at hq
  exact hq
theorem alloc_done {ops ops' : Array Oper} {C : World → Prop} {n g m : Nat} {L : Array Bool → Act → Prop} {Q : Exit → Act → World → Prop} (hsame : ∀ i, i ≠ m → ops'[i]? = ops[i]?) (hy : ∀ t, yielded ops' t = yielded ops t)
    (hr : ∀ done, Region.ready md ops' done = Region.ready md ops done) (hL : ∀ done a w, C w → L done a → wpAny P md ops Q g done a w) (f : Nat) :
    ∀ done a w, C w → done.getD m true = true → headAny P md ops' C n L f done a → wpAny P md ops Q (f + g) done a w := by
  induction f with
  | zero => intro done a w hw _ h; rw [Nat.zero_add]; exact hL _ _ _ hw h
  | succ f ih =>
    intro done a w hw hm h
    rw [show f + 1 + g = (f + g) + 1 by omega]
    refine ⟨fun h0 => absurd (by rw [hr]; exact h0) h.1, fun i hi => ?_⟩
    have hi' : i ∈ Region.ready md ops' done := by rw [hr]; exact hi
    have hne : i ≠ m := fun e => by
      subst e
      rw [(mem_ready.1 hi).1] at hm
      cases hm
    exact wpOp_of_qOp hw (fun a' w' hw' hk => ih _ a' w' hw' (by rw [getD_set_ne true hne]; exact hm) hk) (qOp_same (hsame i hne) hy (h.2 i hi').2)
def grown (b : World) : World → Prop := fun w' => ∃ z, w' = grow b z
theorem grown_self (b : World) : grown b b := ⟨⟨#[], b.drawn⟩, by simp [grow]⟩
theorem alloc_first {ops : Array Oper} {ops' : Nat → Array Oper} {n g m t : Nat} {obj : Obj} {oa : Oper} {oN : Nat → Oper} {A : Nat → Act} {L : Nat → Array Bool → Act → Prop} {Q : Exit → Act → World → Prop} {w : World}
    (hsame : ∀ N i, i ≠ m → (ops' N)[i]? = ops[i]?) (hy : ∀ N x, yielded (ops' N) x = yielded ops x) (hr : ∀ N done, Region.ready md (ops' N) done = Region.ready md ops done)
    (hmn : m < n) (ha : ops[m]? = some oa) (hwa : ∀ y, Region.wanted oa y = true) (hda : oa.dst = some t) (hrun : ∀ a w, (execOp (Act.eval a) oa).run P w = .ok (.value (.pointer (some ⟨w.heap.size, 0, none⟩))) (w.alloc obj))
    (hN : ∀ N, (ops' N)[m]? = some (oN N)) (hwN : ∀ N y, Region.wanted (oN N) y = true) (hdN : ∀ N, (oN N).dst = some t) (hrunN : ∀ N a w, (execOp (Act.eval a) (oN N)).run P w = .ok (.value (.pointer (some ⟨N, 0, none⟩))) w)
    (hnd : ∀ i j oi oj, i < n → j < n → i ≠ j → ops[i]? = some oi → ops[j]? = some oj → ∀ d, oi.dst = some d → oj.dst ≠ some d)
    (hA : ∀ N d, d ≠ t → (A N).tmps[d]? = (A 0).tmps[d]?) (hLA : ∀ N done a, L N done a → a = A N) (hLm : ∀ N done a, L N done a → done.getD m true = true)
    (hL : ∀ N b, Below w.heap.size w b → b.heap[N]? = some obj → w.heap.size ≤ N → ∀ done a w', grown b w' → L N done a → wpAny P md ops Q g done a w') (f : Nat) :
    ∀ done a w1, grown w w1 → done.getD m true = false → (∀ N b, Below w.heap.size w b → headAny P md (ops' N) (grown b) n (L N) f done a) → wpAny P md ops Q (f + g) done a w1 := by
  induction f with
  | zero =>
    intro done a w1 _ hm h
    have := hLm 0 done a (h 0 w (Below.refl _ _))
    rw [hm] at this
    cases this
  | succ f ih =>
    intro done a w1 hw1 hm h
    rw [show f + 1 + g = (f + g) + 1 by omega]
    have h0 := h 0 w (Below.refl _ _)
    refine ⟨fun e => absurd (by rw [hr]; exact e) h0.1, fun i hi => ?_⟩
    obtain ⟨z1, hz1⟩ := hw1
    have hbw1 : Below w.heap.size w w1 := hz1 ▸ grow_below w z1
    by_cases him : i = m
    · subst him
      have hb : Below w.heap.size w (w1.alloc obj) := up hbw1 (up_alloc _ _)
      have hi' : i ∈ Region.ready md (ops' w1.heap.size) done := by rw [hr]; exact hi
      have hq := ((h w1.heap.size (w1.alloc obj) hb).2 i hi').2
      obtain ⟨v, hyv, hk⟩ := yieldsIn_of_qOp (hN w1.heap.size) hq
      have hv : v = .pointer (some ⟨w1.heap.size, 0, none⟩) := by
        rcases hyv with ⟨_, hv⟩ | ⟨hv, _⟩
        · have := hv (w1.alloc obj) (grown_self _)
          unfold Oper.quietAt at this
          rw [hrunN] at this
          exact this.2.symm
        · rw [hwN] at hv; cases hv
      subst hv
      unfold wpOp
      simp only [ha, hwa, if_true]
      refine .inl ?_
      unfold Oper.wp
      rw [hrun]
      show wpAny P md ops Q (f + g) _ (a.put oa.dst _) (w1.alloc obj)
      rw [hda]
      rw [hdN] at hk
      have hblk : (w1.alloc obj).heap[w1.heap.size]? = some obj := by
        show (w1.heap.push obj)[w1.heap.size]? = _
        simp
      exact alloc_done (hsame _) (hy _) (hr _) (hL w1.heap.size (w1.alloc obj) hb hblk hbw1.size) f _ _ _ (grown_self _) (by
        obtain ⟨hu, o, ho, _⟩ := mem_ready.1 hi
        have hlt : i < done.size := by
          rcases Nat.lt_or_ge i done.size with h' | h'
          · exact h'
          · rw [show done.getD i true = true by simp [Array.getD, Nat.not_lt.2 h']] at hm; cases hm
        simp [Array.getD, hlt]) hk
    · have hi' : ∀ N, i ∈ Region.ready md (ops' N) done := fun N => by rw [hr]; exact hi
      obtain ⟨hin, hq⟩ := h0.2 i (hi' 0)
      obtain ⟨hun, o, ho, _⟩ := mem_ready.1 hi
      have ho' : ∀ N, (ops' N)[i]? = some o := fun N => (hsame N i him).trans ho
      obtain ⟨v, hyv, hk⟩ := yieldsIn_of_qOp (ho' 0) hq
      have left : ∀ (d : Nat), o.dst = some d → ∀ N j oj, (done.setIfInBounds i true).getD j true = false → j < n → (ops' N)[j]? = some oj → oj.dst ≠ some d := by
        intro d hd N j oj hj hjn hoj
        have hij : i ≠ j := fun e => by
          subst e
          by_cases hlt : i < done.size
          · simp [Array.getD, hlt] at hj
          · simp [Array.getD, hlt] at hun
        by_cases hjm : j = m
        · subst hjm
          rw [hN] at hoj
          obtain rfl := Option.some.inj hoj
          rw [hdN]
          intro e
          exact hnd i j o oa hin hjn hij ho ha d hd (by rw [hda]; exact e)
        · rw [hsame N j hjm] at hoj
          exact hnd i j o oj hin hjn hij ho hoj d hd
      have hdt : ∀ d, o.dst = some d → d ≠ t := fun d hd e => by
        subst e
        exact hnd i m o oa hin hmn him ho ha d hd hda
      have all : ∀ N b, Below w.heap.size w b → headAny P md (ops' N) (grown b) n (L N) f (done.setIfInBounds i true) (a.put o.dst v) := by
        intro N b hb
        obtain ⟨v', _, hk'⟩ := yieldsIn_of_qOp (ho' N) ((h N b hb).2 i (hi' N)).2
        have e : a.put o.dst v = a.put o.dst v' := put_same (A := A 0) (A' := A N) (fun d hd => (hA N d (hdt d hd)).symm)
          (fun d hd => headAny_pin (hLA 0) f _ _ hk (left d hd 0)) (fun d hd => headAny_pin (hLA N) f _ _ hk' (left d hd N))
        rw [e]
        exact hk'
      have hyv' : YieldsIn P ops (grown w) o v a := by
        unfold YieldsIn at *
        rw [← hy 0]
        exact hyv
      exact wpOp_of_qOp (C := grown w) ⟨z1, hz1⟩ (fun a' w' hw' hk2 => ih _ a' w' hw' (by rw [getD_set_ne true him]; exact hm) hk2)
        (hyv'.qOp ho (K := fun a' => ∀ N b, Below w.heap.size w b → headAny P md (ops' N) (grown b) n (L N) f (done.setIfInBounds i true) a') all)
def dstsB (ops : Array Oper) (n : Nat) : Bool := (List.range n).all fun i => (List.range n).all fun j => i == j || ((ops[i]?).bind (·.dst)).isNone || !(((ops[i]?).bind (·.dst)) == ((ops[j]?).bind (·.dst)))
theorem dstsB_spec {ops : Array Oper} {n : Nat} (h : dstsB ops n = true) : ∀ i j oi oj, i < n → j < n → i ≠ j → ops[i]? = some oi → ops[j]? = some oj → ∀ d, oi.dst = some d → oj.dst ≠ some d := by
  intro i j oi oj hi hj hij hoi hoj d hd e
  have := List.all_eq_true.1 (List.all_eq_true.1 h i (List.mem_range.2 hi)) j (List.mem_range.2 hj)
  simp [hoi, hoj, hd, e, hij] at this
theorem any_grow_alloc {Q : Exit → Act → World → Prop} {a : Act} {w : World} {l : List Oper} (n m t : Nat) (obj : Obj) (oa : Oper) (oN : Nat → Oper) (l' : Nat → List Oper) (A : Nat → Act)
    (hB : ∀ N, Region.lexTailB .any (l' N).toArray n = true) (hlen : ∀ N, (l' N).length = l.length) (hmn : m < n)
    (hsame : ∀ N i, i ≠ m → (l' N)[i]? = l[i]?) (hafter : ∀ N, (oN N).after = oa.after) (hdst : ∀ N, (oN N).dst = oa.dst)
    (ha : l[m]? = some oa) (hN : ∀ N, (l' N)[m]? = some (oN N)) (hga : oa.guard = none) (hgN : ∀ N, (oN N).guard = none) (hfa : oa.after = #[]) (hda : oa.dst = some t)
    (hrun : ∀ a w, (execOp (Act.eval a) oa).run P w = .ok (.value (.pointer (some ⟨w.heap.size, 0, none⟩))) (w.alloc obj)) (hrunN : ∀ N a w, (execOp (Act.eval a) (oN N)).run P w = .ok (.value (.pointer (some ⟨N, 0, none⟩))) w)
    (hnd : dstsB l.toArray n = true) (hA : ∀ N, A N = (A 0).put (some t) (.pointer (some ⟨N, 0, none⟩)))
    (h : ∀ b N, Below w.heap.size w b → wpQuiet P (l' N).toArray (fun w' => ∃ z, w' = grow b z) (fun a' => a' = A N) ((l' N).take n) a)
    (htail : ∀ W' N, Below w.heap.size w W' → w.heap.size ≤ N → W'.heap[N]? = some obj → wpList P l.toArray Q (l.drop n) (A N) W') : wpAny P .any l.toArray Q l.toArray.size (Array.replicate l.toArray.size false) a { w with drawn := w.drawn + 1 } := by
  have hdrop : ∀ N, (l' N).drop n = l.drop n := fun N => by
    apply List.ext_getElem?
    intro i
    rw [List.getElem?_drop, List.getElem?_drop, hsame N _ (by omega)]
  have hr : ∀ N done, Region.ready .any (l' N).toArray done = Region.ready .any l.toArray done := fun N done => by
    unfold Region.ready
    simp only [List.size_toArray, hlen N, List.getElem?_toArray]
    congr 1
    funext i
    by_cases e : i = m
    · subst e; rw [hN, ha]; simp [hafter]
    · rw [hsame N i e]
  have hy : ∀ N x, yielded (l' N).toArray x = yielded l.toArray x := fun N x => by
    funext j
    unfold yielded
    simp only [List.getElem?_toArray]
    by_cases e : j = m
    · subst e; rw [hN, ha]; simp [hdst]
    · rw [hsame N j e]
  have hwa : ∀ y, Region.wanted oa y = true := fun y => by simp [Region.wanted, hga]
  have hwN : ∀ N y, Region.wanted (oN N) y = true := fun N y => by simp [Region.wanted, hgN]
  have hBB : ∀ N, Region.noSelect (l' N).toArray = true ∧ n < l.length ∧ Region.sinkB .any (l' N).toArray n = true ∧ Region.chainB .any (l' N).toArray n = true ∧ Region.lexHead .any (l' N).toArray (l.length - n) n 0 (Array.replicate l.length false) = true := fun N => by
    have := hB N
    simp only [Region.lexTailB, Bool.and_eq_true, decide_eq_true_eq, List.size_toArray, hlen N] at this
    exact ⟨this.1.1.1.1, this.1.1.1.2, this.1.1.2, this.1.2, this.2⟩
  have hn := (hBB 0).2.1
  have head : ∀ N b, Below w.heap.size w b → headAny P .any (l' N).toArray (grown b) n (fun d a' => Region.seqB .any (l' N).toArray (l.length - n) n d = true ∧ a' = A N) n (Array.replicate l.length false) a := by
    intro N b hb
    obtain ⟨b1, _, b3, b4, b5⟩ := hBB N
    have htl : ((l' N).take n).length = n := by simp [hlen N]; omega
    have inv0 : HeadInv .any (l' N).toArray n (Array.replicate l.length false) :=
      { size := by simp [hlen N]
        closed := fun j oj _ hl => by rw [getD_replicate_false] at hl; cases hl
        tail := fun t _ ht => getD_in (by simpa [hlen N] using ht) (getD_replicate_false _ _) }
    have := headAny_lex (md := .any) (C := grown b) (g := l.length - n) (G := fun a' => a' = A N) b1 b3 b4 (by simpa [hlen N] using hn) ((l' N).take n) 0 (Array.replicate l.length false) a
      (fun j hj => by rw [htl] at hj; simp [hj]) (by simpa using htl) inv0 (by rw [htl]; exact b5) (h b N hb)
    rwa [htl] at this
  have S := alloc_first (P := P) (md := .any) (ops := l.toArray) (ops' := fun N => (l' N).toArray) (n := n) (g := l.length - n) (m := m) (t := t) (obj := obj) (oa := oa) (oN := oN) (A := A)
    (L := fun N d a' => Region.seqB .any (l' N).toArray (l.length - n) n d = true ∧ a' = A N) (Q := Q) (w := w)
    (fun N i hi => by simpa using hsame N i hi) hy hr hmn (by simpa using ha) hwa hda hrun (fun N => by simpa using hN N) hwN (fun N => (hdst N).trans hda) hrunN (dstsB_spec hnd)
    (fun N d hd => by rw [hA N]; exact tmps_put_ne _ _ _ _ (fun e => hd (Option.some.inj e).symm)) (fun N done a' hL => hL.2)
    (fun N done a' hL => by
      cases hd : done.getD m true
      · exfalso
        have hm : m ∈ Region.ready .any (l' N).toArray done := mem_ready.2 ⟨hd, oN N, by simpa using hN N, fun e he => by rw [hafter, hfa] at he; simp at he⟩
        have := seqB_ready hL.1 m hm
        omega
      · rfl)
    (fun N b hb hblk hwN done a' w' hw' hL => by
      obtain ⟨z, rfl⟩ := hw'
      obtain ⟨hs, rfl⟩ := hL
      have hblk' : (grow b z).heap[N]? = some obj := ((grow_below b z).block N (Array.getElem?_eq_some_iff.1 hblk).1).trans hblk
      have hs' : ∀ (k g : Nat) (d : Array Bool), Region.seqB .any (l' N).toArray g k d = Region.seqB .any l.toArray g k d := by
        intro k g
        induction g generalizing k with
        | zero => intro d; simp only [Region.seqB, hr]
        | succ g ih => intro d; simp only [Region.seqB, hr, ih]
      have := wpAny_of_seq (md := .any) (ops := l.toArray) (Q' := Q) (l.drop n) n done (A N) (grow b z) (fun j => by simp [List.getElem?_drop]) (by rw [List.length_drop, ← hs']; exact hs)
        (htail (grow b z) N (up hb (grow_below b z)) hwN hblk')
      rwa [List.length_drop] at this)
    n (Array.replicate l.length false) a { w with drawn := w.drawn + 1 } ⟨⟨#[], w.drawn + 1⟩, by simp [grow]⟩ (getD_in (by simp; omega) (getD_replicate_false _ _)) head
  rw [show n + (l.length - n) = l.length by omega] at S
  simpa using S
theorem wp_region_grow_alloc {id : Nat} {Q : Exit → Act → World → Prop} {a : Act} {w : World} {l : List Oper} (n m t : Nat) (obj : Obj) (oa : Oper) (oN : Nat → Oper) (l' : Nat → List Oper) (A : Nat → Act)
    (hmo : P.follows .mixedOrders = true) (hB : ∀ N, Region.lexTailB .any (l' N).toArray n = true) (hlen : ∀ N, (l' N).length = l.length) (hmn : m < n)
    (hsame : ∀ N i, i ≠ m → (l' N)[i]? = l[i]?) (hafter : ∀ N, (oN N).after = oa.after) (hdst : ∀ N, (oN N).dst = oa.dst)
    (ha : l[m]? = some oa) (hN : ∀ N, (l' N)[m]? = some (oN N)) (hga : oa.guard = none) (hgN : ∀ N, (oN N).guard = none) (hfa : oa.after = #[]) (hda : oa.dst = some t)
    (hrun : ∀ a w, (execOp (Act.eval a) oa).run P w = .ok (.value (.pointer (some ⟨w.heap.size, 0, none⟩))) (w.alloc obj)) (hrunN : ∀ N a w, (execOp (Act.eval a) (oN N)).run P w = .ok (.value (.pointer (some ⟨N, 0, none⟩))) w)
    (hnd : dstsB l.toArray n = true) (hA : ∀ N, A N = (A 0).put (some t) (.pointer (some ⟨N, 0, none⟩)))
    (h : ∀ b N, Below w.heap.size w b → wpQuiet P (l' N).toArray (fun w' => ∃ z, w' = grow b z) (fun a' => a' = A N) ((l' N).take n) a)
    (htail : ∀ W' N, Below w.heap.size w W' → w.heap.size ≤ N → W'.heap[N]? = some obj → wpList P l.toArray Q (l.drop n) (A N) W') : (Code.region id l.toArray true).wp P Q a w :=
  wp_region_any hmo (any_grow_alloc n m t obj oa oN l' A hB hlen hmn hsame hafter hdst ha hN hga hgN hfa hda hrun hrunN hnd hA h htail)
def ptrOp (t T : Nat) (p : String) (N : Nat) : Oper := { dst := some t, op := .assign (.const (.pointer (some ⟨N, 0, none⟩))), type := T, pos := p, after := #[], guard := none }
theorem wp_region_alloc {id : Nat} {Q : Exit → Act → World → Prop} {a : Act} {w : World} {l : List Oper} (n m t : Nat) (obj : Obj) {ty : TypeId} {T : Nat} {p : String}
    (hmo : P.follows .mixedOrders = true) (ha : l[m]? = some { dst := some t, op := .alloc ty, type := T, pos := p, after := #[], guard := none }) (hB : ∀ N, Region.lexTailB .any (l.set m (ptrOp t T p N)).toArray n = true) (hmn : m < n)
    (hrun : ∀ a w, (execOp (Act.eval a) { dst := some t, op := .alloc ty, type := T, pos := p, after := #[], guard := none }).run P w = .ok (.value (.pointer (some ⟨w.heap.size, 0, none⟩))) (w.alloc obj))
    (hnd : dstsB l.toArray n = true)
    (h : ∃ A : Nat → Act, (∀ b N, Below w.heap.size w b → wpQuiet P (l.set m (ptrOp t T p N)).toArray (fun w' => ∃ z, w' = grow b z) (fun a' => a' = A N) ((l.set m (ptrOp t T p N)).take n) a) ∧
      (∀ N, A N = (A 0).put (some t) (.pointer (some ⟨N, 0, none⟩))) ∧
      (∀ W' N, Below w.heap.size w W' → w.heap.size ≤ N → W'.heap[N]? = some obj → wpList P l.toArray Q (l.drop n) (A N) W')) : (Code.region id l.toArray true).wp P Q a w := by
  obtain ⟨A, h1, h2, h3⟩ := h
  have hm : m < l.length := (List.getElem?_eq_some_iff.1 ha).1
  exact wp_region_grow_alloc n m t obj _ (ptrOp t T p) (fun N => l.set m (ptrOp t T p N)) A hmo hB (fun N => by simp) hmn (fun N i hi => by rw [List.getElem?_set_ne (Ne.symm hi)]) (fun _ => rfl) (fun _ => rfl) ha
    (fun N => by rw [List.getElem?_set_self hm]) rfl (fun _ => rfl) rfl rfl hrun (fun N a w => by simp [ptrOp, execOp, Act.eval]) hnd h2 h1 h3
theorem made6 {w : World} {N : Nat} {c0 c1 c2 c3 c4 c5 : Value} {ty : TypeId} (h : w.heap[N]? = some (.cells #[c0, c1, c2, c3, c4, c5] ty (0, 0))) :
    N < w.heap.size ∧ (∀ j, w.cell? ⟨N, j, none⟩ = [c0, c1, c2, c3, c4, c5][j]?) ∧ (∀ j, w.frozen? ⟨N, j, none⟩ = false) := by
  refine ⟨(Array.getElem?_eq_some_iff.1 h).1, fun j => ?_, fun j => ?_⟩
  · unfold World.cell?; rw [h]; simp
  · unfold World.frozen?; rw [h]; simp
end alloc
end Go.Proofs.YtjimjdhdnkhfnaaGreat
namespace Go.Proofs.YtjimjdhdnkhfnaaGreat
open Go Go.RowKit
section late
variable {P : Program} {md : Region.Mode}
theorem extract_yields {ops ops' : Array Oper} {Q : Exit → Act → World → Prop} {e : Nat} {oe : Oper} {t : Operand} {ix : Nat} (hQ : ¬ LetsOut Q) (he : ops'[e]? = some oe) (hop : oe.op = .extract t ix) (hg : oe.guard = none) {K : Act → World → Prop} {a : Act} {w : World}
    (h : wpOp P ops' Q e K a w) : ∃ v, Yields P ops oe v a ∧ K (a.put oe.dst v) w := by
  have hw : ∀ y, Region.wanted oe y = true := fun y => by simp [Region.wanted, hg]
  unfold wpOp at h
  simp only [he, hw, if_true] at h
  rcases h with h | ⟨_, h⟩
  · obtain ⟨d, op, ty, ps, af, gd⟩ := oe
    dsimp only at hop
    subst hop
    have hx : ∃ v, ∀ w, (execOp a.eval { dst := d, op := Op.extract t ix, type := ty, pos := ps, after := af, guard := gd }).run P w = .ok (.value v) w := by
      unfold Oper.wp at h
      simp only [execOp, Instr.extract] at h ⊢
      generalize a.eval t = x at h ⊢
      cases x
      case tuple vs =>
        dsimp only at h ⊢
        cases hv : vs[ix]?
        · rw [hv] at h; exact absurd h (by intro h; exact h)
        · exact ⟨_, fun w => rfl⟩
      all_goals exact absurd h (by intro h; exact h)
    obtain ⟨v, hv⟩ := hx
    refine ⟨v, .inl ⟨hw _, hv⟩, ?_⟩
    unfold Oper.wp at h
    rw [hv] at h
    exact h
  · exact absurd h hQ
def freeOf (md : Region.Mode) (ops : Array Oper) (oe : Oper) (e : Nat) : Bool :=
  (List.range ops.size).all fun j => j == e || oe.after.any (fun x => Region.binds md x && x.on == j) || match ops[j]? with
      | some oj => oj.after.any (fun x => Region.binds md x && x.on == e) || oe.apart ops oj
      | none => true
theorem freeOf_spec {ops : Array Oper} {oe : Oper} {e : Nat} (h : freeOf md ops oe e = true) (j : Nat) (oj : Oper) (hj : ops[j]? = some oj) (hne : j ≠ e) (hun : ∀ x ∈ oe.after, Region.binds md x = true → x.on ≠ j) (hno : ∀ x ∈ oj.after, Region.binds md x = true → x.on ≠ e) : oe.apart ops oj = true := by
  simp only [freeOf, List.all_eq_true, List.mem_range] at h
  have h1 := h j (Array.getElem?_eq_some_iff.1 hj).1
  simp only [hj, Bool.or_eq_true, beq_iff_eq, hne, false_or] at h1
  rcases h1 with h1 | h1 | h1
  · obtain ⟨x, hx, hb⟩ := Array.any_eq_true'.1 h1
    simp only [Bool.and_eq_true, beq_iff_eq] at hb
    exact absurd hb.2 (hun x hx hb.1)
  · obtain ⟨x, hx, hb⟩ := Array.any_eq_true'.1 h1
    simp only [Bool.and_eq_true, beq_iff_eq] at hb
    exact absurd hb.2 (hno x hx hb.1)
  · exact h1
def late (os : Oper) (e : Nat) : Oper := { os with after := os.after.push ⟨e, .data⟩ }
theorem wpAny_late {ops : Array Oper} {Q : Exit → Act → World → Prop} {e s : Nat} {oe os : Oper} {t : Operand} {ix : Nat} (hQ : ¬ LetsOut Q) (hQp : ∀ c a w, ¬ Q (.panic c) a w) (he : ops[e]? = some oe) (hs : ops[s]? = some os) (hes : e ≠ s) (hop : oe.op = .extract t ix) (hg : oe.guard = none)
    (hsel : Region.noSelect ops = true) (hfree : freeOf md ops oe e = true) (hdeps : ∀ x ∈ oe.after, Region.binds md x = true → ∃ y ∈ os.after, Region.binds md y = true ∧ y.on = x.on) :
    ∀ f done a w, done.size = ops.size → wpAny P md (ops.setIfInBounds s (late os e)) Q f done a w → wpAny P md ops Q f done a w := by
  have hne : ∀ i, i ≠ s → (ops.setIfInBounds s (late os e))[i]? = ops[i]? := fun i hi => Array.getElem?_setIfInBounds_ne (Ne.symm hi)
  have hslt : s < ops.size := (Array.getElem?_eq_some_iff.1 hs).1
  have helt : e < ops.size := (Array.getElem?_eq_some_iff.1 he).1
  have hss : (ops.setIfInBounds s (late os e))[s]? = some (late os e) := by simp [hslt]
  have hbd : Region.binds md ⟨e, .data⟩ = true := rfl
  have hy : ∀ x, yielded (ops.setIfInBounds s (late os e)) x = yielded ops x := fun x => by
    funext j
    unfold yielded
    by_cases h : j = s
    · subst h; rw [hss, hs]; rfl
    · rw [hne j h]
  have sub : ∀ done i, i ∈ Region.ready md (ops.setIfInBounds s (late os e)) done → i ∈ Region.ready md ops done := fun done i hi => by
    rw [mem_ready] at *
    obtain ⟨h0, o, ho, hall⟩ := hi
    by_cases h : i = s
    · subst h
      rw [hss] at ho
      obtain rfl := Option.some.inj ho
      exact ⟨h0, os, hs, fun x hx hb => hall x (Array.mem_push.2 (.inl hx)) hb⟩
    · rw [hne i h] at ho
      exact ⟨h0, o, ho, hall⟩
  have gap : ∀ done i, done.size = ops.size → i ∈ Region.ready md ops done → i ∈ Region.ready md (ops.setIfInBounds s (late os e)) done ∨ e ∈ Region.ready md (ops.setIfInBounds s (late os e)) done := fun done i hsz hi => by
    by_cases h : i = s
    · subst h
      obtain ⟨h0, o, ho, hall⟩ := mem_ready.1 hi
      rw [hs] at ho
      obtain rfl := Option.some.inj ho
      cases hd : done.getD e false
      · refine .inr (mem_ready.2 ⟨?_, oe, by rw [hne e hes]; exact he, fun x hx hb => ?_⟩)
        · simpa [Array.getD, hsz, helt] using hd
        · obtain ⟨y, hy1, hy2, hy3⟩ := hdeps x hx hb
          rw [← hy3]; exact hall y hy1 hy2
      · refine .inl (mem_ready.2 ⟨h0, late os e, hss, fun x hx hb => ?_⟩)
        rcases Array.mem_push.1 hx with hx | rfl
        · exact hall x hx hb
        · exact hd
    · left
      obtain ⟨h0, o, ho, hall⟩ := mem_ready.1 hi
      exact mem_ready.2 ⟨h0, o, by rw [hne i h]; exact ho, hall⟩
  have same : ∀ i K a w, wpOp P (ops.setIfInBounds s (late os e)) Q i K a w → wpOp P ops Q i K a w := fun i K a w h => by
    unfold wpOp at *
    rw [hy] at h
    by_cases hi : i = s
    · subst hi; rw [hss] at h; rw [hs]; exact h
    · rw [hne i hi] at h; exact h
  have first : ∀ f done a w, done.size = ops.size → (∀ done' a w, done'.size = ops.size → wpAny P md (ops.setIfInBounds s (late os e)) Q f done' a w → wpAny P md ops Q f done' a w) →
      e ∈ Region.ready md (ops.setIfInBounds s (late os e)) done → wpAny P md (ops.setIfInBounds s (late os e)) Q (f + 1) done a w → wpAny P md ops Q (f + 1) done a w := fun f done a w hsz ih her H => by
    obtain ⟨v, hyv, hK⟩ := extract_yields (ops := ops) hQ (by rw [hne e hes]; exact he) hop hg (H.2 e her)
    refine wpAny_first he (Region.noSelect_spec hsel) (fun c a w h => absurd h (hQp c _ w)) f done a w (fun j oj hj hje hun hno => freeOf_spec hfree j oj hj hje (fun x hx hb hxj => ?_) hno) (sub _ _ her) hyv (ih _ _ _ (by simpa using hsz) hK)
    obtain ⟨_, o, ho, hall⟩ := mem_ready.1 (sub _ _ her)
    rw [he] at ho
    obtain rfl := Option.some.inj ho
    have h1 := hall x hx hb
    have h2 : j < ops.size := (Array.getElem?_eq_some_iff.1 hj).1
    rw [hxj] at h1
    simp [Array.getD, hsz, h2] at h1 hun
    rw [h1] at hun
    cases hun
  intro f
  induction f with
  | zero =>
    intro done a w hsz H
    refine ⟨List.eq_nil_iff_forall_not_mem.2 fun i hi => ?_, H.2⟩
    rcases gap done i hsz hi with h | h <;> (rw [H.1] at h; cases h)
  | succ f ih =>
    intro done a w hsz H
    by_cases her : e ∈ Region.ready md (ops.setIfInBounds s (late os e)) done
    · exact first f done a w hsz ih her H
    · refine ⟨fun h0 => H.1 (List.eq_nil_iff_forall_not_mem.2 fun i hi => by have := sub _ _ hi; rw [h0] at this; cases this), fun i hi => ?_⟩
      rcases gap done i hsz hi with h | h
      · exact wpOp_mono (fun a' w' h' => ih _ a' w' (by simpa using hsz) h') (same _ _ _ _ (H.2 i h))
      · exact absurd h her
def Landed (Q : Exit → Act → World → Prop) (x : Exit) (a : Act) (w : World) : Prop := x = .normal ∧ Q x a w
theorem wp_region_alloc_late {id : Nat} {Q : Exit → Act → World → Prop} {a : Act} {w : World} {l : List Oper} (n m t e s : Nat) (obj : Obj) {ty : TypeId} {T : Nat} {p : String} {oe os : Oper} {x : Operand} {ix : Nat}
    (hmo : P.follows .mixedOrders = true) (ha : l[m]? = some { dst := some t, op := .alloc ty, type := T, pos := p, after := #[], guard := none }) (hmn : m < n) (hms : m ≠ s)
    (he : l[e]? = some oe) (hs : l[s]? = some os) (hes : e ≠ s) (hop : oe.op = .extract x ix) (hg : oe.guard = none)
    (hsel : Region.noSelect l.toArray = true) (hfree : freeOf .any l.toArray oe e = true)
    (hdeps : oe.after.all (fun x => !Region.binds .any x || os.after.any fun y => Region.binds .any y && y.on == x.on) = true)
    (hB : ∀ N, Region.lexTailB .any ((l.set s (late os e)).set m (ptrOp t T p N)).toArray n = true)
    (hrun : ∀ a w, (execOp (Act.eval a) { dst := some t, op := .alloc ty, type := T, pos := p, after := #[], guard := none }).run P w = .ok (.value (.pointer (some ⟨w.heap.size, 0, none⟩))) (w.alloc obj))
    (hnd : dstsB (l.set s (late os e)).toArray n = true)
    (h : ∃ A : Nat → Act, (∀ b N, Below w.heap.size w b → wpQuiet P ((l.set s (late os e)).set m (ptrOp t T p N)).toArray (fun w' => ∃ z, w' = grow b z) (fun a' => a' = A N) (((l.set s (late os e)).set m (ptrOp t T p N)).take n) a) ∧
      (∀ N, A N = (A 0).put (some t) (.pointer (some ⟨N, 0, none⟩))) ∧
      (∀ W' N, Below w.heap.size w W' → w.heap.size ≤ N → W'.heap[N]? = some obj → wpList P (l.set s (late os e)).toArray (Landed Q) ((l.set s (late os e)).drop n) (A N) W')) : (Code.region id l.toArray true).wp P Q a w := by
  obtain ⟨A, h1, h2, h3⟩ := h
  have hm : m < l.length := (List.getElem?_eq_some_iff.1 ha).1
  have ha' : (l.set s (late os e))[m]? = some { dst := some t, op := .alloc ty, type := T, pos := p, after := #[], guard := none } := by rw [List.getElem?_set_ne (Ne.symm hms)]; exact ha
  have S := any_grow_alloc (P := P) (Q := Landed Q) (a := a) (w := w) n m t obj _ (ptrOp t T p) (fun N => (l.set s (late os e)).set m (ptrOp t T p N)) A hB (fun N => by simp) hmn (fun N i hi => by rw [List.getElem?_set_ne (Ne.symm hi)]) (fun _ => rfl) (fun _ => rfl) ha'
    (fun N => by rw [List.getElem?_set_self (by simpa using hm)]) rfl (fun _ => rfl) rfl rfl hrun (fun N a w => by simp [ptrOp, execOp, Act.eval]) hnd h2 h1 h3
  have key := wpAny_late (P := P) (md := .any) (ops := l.toArray) (Q := Landed Q) (fun ⟨_, _, h, _⟩ => by cases h) (fun _ _ _ h => by cases h.1) (by simpa using he) (by simpa using hs) hes hop hg hsel hfree (fun x hx hb => by
    have := Array.all_eq_true_iff_forall_mem.1 hdeps x hx
    simp only [hb, Bool.not_true, Bool.false_or] at this
    obtain ⟨y, hy, hb2⟩ := Array.any_eq_true'.1 this
    simp only [Bool.and_eq_true, beq_iff_eq] at hb2
    exact ⟨y, hy, hb2.1, hb2.2⟩) l.toArray.size (Array.replicate l.toArray.size false) a { w with drawn := w.drawn + 1 } (by simp) (by simpa using S)
  exact Code.wp_mono (fun _ _ _ h => h.2) (wp_region_any hmo key)
end late
end Go.Proofs.YtjimjdhdnkhfnaaGreat
namespace Go.Proofs.YtjimjdhdnkhfnaaGreat
open Go Go.RowKit
section
variable {P : Program}
theorem any_head_tail {Q : Exit → Act → World → Prop} {a : Act} {w : World} {l : List Oper} {C : World → Prop} (n : Nat)
    (hB : Region.lexTailB .any l.toArray n = true) (hC : C { w with drawn := w.drawn + 1 })
    (h : wpQuiet P l.toArray C (fun a' => ∀ w', C w' → wpList P l.toArray Q (l.drop n) a' w') (l.take n) a) : wpAny P .any l.toArray Q l.toArray.size (Array.replicate l.toArray.size false) a { w with drawn := w.drawn + 1 } := by
  simp only [Region.lexTailB, Bool.and_eq_true, decide_eq_true_eq] at hB
  obtain ⟨⟨⟨⟨hsel, hn⟩, hs⟩, hc⟩, hlex⟩ := hB
  have hn' : n < l.length := by simpa using hn
  have htl : (l.take n).length = n := by simp; omega
  have hdl : (l.drop n).length = l.toArray.size - n := by simp
  have inv0 : HeadInv .any l.toArray n (Array.replicate l.toArray.size false) :=
    { size := by simp
      closed := fun j oj _ hl => by rw [getD_replicate_false] at hl; cases hl
      tail := fun t _ ht => getD_in (by simpa using ht) (getD_replicate_false _ _) }
  have H := headAny_lex (md := .any) (C := C) (g := l.toArray.size - n) hsel hs hc hn (l.take n) 0 _ a
    (fun j hj => by rw [htl] at hj; simp [hj]) (by simpa using htl) inv0 (by rw [htl]; exact hlex) h
  have S := headAny_sound (Q := Q) (g := l.toArray.size - n) (fun d a' w' hw' hL => by
    have := wpAny_of_seq (md := .any) (Q' := Q) (l.drop n) n d a' w' (fun j => by simp [List.getElem?_drop]) (by rw [hdl]; exact hL.1) (hL.2 w' hw')
    rwa [hdl] at this) _ _ _ _ hC H
  rw [htl, show n + (l.toArray.size - n) = l.toArray.size by omega] at S
  exact S
theorem wp_region_late {id : Nat} {Q : Exit → Act → World → Prop} {a : Act} {w : World} {l : List Oper} (n e s : Nat) {oe os : Oper} {x : Operand} {ix : Nat}
    (hmo : P.follows .mixedOrders = true)
    (he : l[e]? = some oe) (hs : l[s]? = some os) (hes : e ≠ s) (hop : oe.op = .extract x ix) (hg : oe.guard = none)
    (hsel : Region.noSelect l.toArray = true) (hfree : freeOf .any l.toArray oe e = true)
    (hdeps : oe.after.all (fun x => !Region.binds .any x || os.after.any fun y => Region.binds .any y && y.on == x.on) = true)
    (hB : Region.lexTailB .any (l.set s (late os e)).toArray n = true)
    (h : wpQuiet P (l.set s (late os e)).toArray (fun w' => ∃ z, w' = grow w z) (fun a' => ∀ z, wpList P (l.set s (late os e)).toArray (Landed Q) ((l.set s (late os e)).drop n) a' (grow w z)) ((l.set s (late os e)).take n) a) : (Code.region id l.toArray true).wp P Q a w := by
  have S := any_head_tail (P := P) (Q := Landed Q) (a := a) (w := w) (l := l.set s (late os e)) (C := fun w' => ∃ z, w' = grow w z) n hB ⟨⟨#[], w.drawn + 1⟩, by simp [grow]⟩ (by
    have e : (fun a' => ∀ z, wpList P (l.set s (late os e)).toArray (Landed Q) ((l.set s (late os e)).drop n) a' (grow w z)) = (fun a' => ∀ w', (∃ z, w' = grow w z) → wpList P (l.set s (late os e)).toArray (Landed Q) ((l.set s (late os e)).drop n) a' w') := by
      funext a'; exact propext ⟨fun h w' ⟨z, hz⟩ => hz ▸ h z, fun h z => h _ ⟨z, rfl⟩⟩
    rw [← e]; exact h)
  have key := wpAny_late (P := P) (md := .any) (ops := l.toArray) (Q := Landed Q) (fun ⟨_, _, h, _⟩ => by cases h) (fun _ _ _ h => by cases h.1) (by simpa using he) (by simpa using hs) hes hop hg hsel hfree (fun x hx hb => by
    have := Array.all_eq_true_iff_forall_mem.1 hdeps x hx
    simp only [hb, Bool.not_true, Bool.false_or] at this
    obtain ⟨y, hy, hb2⟩ := Array.any_eq_true'.1 this
    simp only [Bool.and_eq_true, beq_iff_eq] at hb2
    exact ⟨y, hy, hb2.1, hb2.2⟩) l.toArray.size (Array.replicate l.toArray.size false) a { w with drawn := w.drawn + 1 } (by simp) (by simpa using S)
  exact Code.wp_mono (fun _ _ _ h => h.2) (wp_region_any hmo key)
end
end Go.Proofs.YtjimjdhdnkhfnaaGreat
