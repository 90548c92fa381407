/- A drawn region with a variable that is made, in which an 'extract' may come after the store. Own text. -/
import Derived.Test.YtpahbpgkmebieaaAL
namespace Go.Proofs.Ytpahbpgkmebieaa
open Go Go.RowKit
section late
variable {P : Program} {md : Region.Mode}

/-- What an 'extract' yields, it yields in any world. -/
theorem extract_yields {ops ops' : Array Oper} {Q : Exit → Act → World → Prop} {e : Nat} {oe : Oper} {t : Operand} {ix : Nat} (hQ : ¬ LetsOut Q) (he : ops'[e]? = some oe) (hop : oe.op = .extract t ix) (hg : oe.guard = none) {K : Act → World → Prop} {a : Act} {w : World}
    (h : wpOp P ops' Q e K a w) : ∃ v, Yields P ops oe v a ∧ K (a.put oe.dst v) w := by
  have hw : ∀ y, Region.wanted oe y = true := fun y => by simp [Region.wanted, hg]
  unfold wpOp at h
  simp only [he, hw, if_true] at h
  rcases h with h | ⟨_, h⟩
  · obtain ⟨d, op, ty, ps, af, gd⟩ := oe
    dsimp only at hop
    subst hop
    have hx : ∃ v, ∀ w, (execOp a.eval { dst := d, op := Op.extract t ix, type := ty, pos := ps, after := af, guard := gd }).run P w = .ok (.value v) w := by
      unfold Oper.wp at h
      simp only [execOp, Instr.extract] at h ⊢
      generalize a.eval t = x at h ⊢
      cases x
      case tuple vs =>
        dsimp only at h ⊢
        cases hv : vs[ix]?
        · rw [hv] at h; exact absurd h (by intro h; exact h)
        · exact ⟨_, fun w => rfl⟩
      all_goals exact absurd h (by intro h; exact h)
    obtain ⟨v, hv⟩ := hx
    refine ⟨v, .inl ⟨hw _, hv⟩, ?_⟩
    unfold Oper.wp at h
    rw [hv] at h
    exact h
  · exact absurd h hQ

/-- The e-th operation is apart from each that it does not follow and that does not follow it. -/
def freeOf (md : Region.Mode) (ops : Array Oper) (oe : Oper) (e : Nat) : Bool :=
  (List.range ops.size).all fun j => j == e || oe.after.any (fun x => Region.binds md x && x.on == j) || match ops[j]? with
      | some oj => oj.after.any (fun x => Region.binds md x && x.on == e) || oe.apart ops oj
      | none => true
theorem freeOf_spec {ops : Array Oper} {oe : Oper} {e : Nat} (h : freeOf md ops oe e = true) (j : Nat) (oj : Oper) (hj : ops[j]? = some oj) (hne : j ≠ e) (hun : ∀ x ∈ oe.after, Region.binds md x = true → x.on ≠ j) (hno : ∀ x ∈ oj.after, Region.binds md x = true → x.on ≠ e) : oe.apart ops oj = true := by
  simp only [freeOf, List.all_eq_true, List.mem_range] at h
  have h1 := h j (Array.getElem?_eq_some_iff.1 hj).1
  simp only [hj, Bool.or_eq_true, beq_iff_eq, hne, false_or] at h1
  rcases h1 with h1 | h1 | h1
  · obtain ⟨x, hx, hb⟩ := Array.any_eq_true'.1 h1
    simp only [Bool.and_eq_true, beq_iff_eq] at hb
    exact absurd hb.2 (hun x hx hb.1)
  · obtain ⟨x, hx, hb⟩ := Array.any_eq_true'.1 h1
    simp only [Bool.and_eq_true, beq_iff_eq] at hb
    exact absurd hb.2 (hno x hx hb.1)
  · exact h1
/-- The s-th operation, after the e-th too. -/
def late (os : Oper) (e : Nat) : Oper := { os with after := os.after.push ⟨e, .data⟩ }
/-- An 'extract' that may come after the s-th operation: it is enough to have it before. -/
theorem wpAny_late {ops : Array Oper} {Q : Exit → Act → World → Prop} {e s : Nat} {oe os : Oper} {t : Operand} {ix : Nat} (hQ : ¬ LetsOut Q) (hQp : ∀ c a w, ¬ Q (.panic c) a w) (he : ops[e]? = some oe) (hs : ops[s]? = some os) (hes : e ≠ s) (hop : oe.op = .extract t ix) (hg : oe.guard = none)
    (hsel : Region.noSelect ops = true) (hfree : freeOf md ops oe e = true) (hdeps : ∀ x ∈ oe.after, Region.binds md x = true → ∃ y ∈ os.after, Region.binds md y = true ∧ y.on = x.on) :
    ∀ f done a w, done.size = ops.size → wpAny P md (ops.setIfInBounds s (late os e)) Q f done a w → wpAny P md ops Q f done a w := by
  have hne : ∀ i, i ≠ s → (ops.setIfInBounds s (late os e))[i]? = ops[i]? := fun i hi => Array.getElem?_setIfInBounds_ne (Ne.symm hi)
  have hslt : s < ops.size := (Array.getElem?_eq_some_iff.1 hs).1
  have helt : e < ops.size := (Array.getElem?_eq_some_iff.1 he).1
  have hss : (ops.setIfInBounds s (late os e))[s]? = some (late os e) := by simp [hslt]
  have hbd : Region.binds md ⟨e, .data⟩ = true := rfl
  have hy : ∀ x, yielded (ops.setIfInBounds s (late os e)) x = yielded ops x := fun x => by
    funext j
    unfold yielded
    by_cases h : j = s
    · subst h; rw [hss, hs]; rfl
    · rw [hne j h]
  have sub : ∀ done i, i ∈ Region.ready md (ops.setIfInBounds s (late os e)) done → i ∈ Region.ready md ops done := fun done i hi => by
    rw [mem_ready] at *
    obtain ⟨h0, o, ho, hall⟩ := hi
    by_cases h : i = s
    · subst h
      rw [hss] at ho
      obtain rfl := Option.some.inj ho
      exact ⟨h0, os, hs, fun x hx hb => hall x (Array.mem_push.2 (.inl hx)) hb⟩
    · rw [hne i h] at ho
      exact ⟨h0, o, ho, hall⟩
  have gap : ∀ done i, done.size = ops.size → i ∈ Region.ready md ops done → i ∈ Region.ready md (ops.setIfInBounds s (late os e)) done ∨ e ∈ Region.ready md (ops.setIfInBounds s (late os e)) done := fun done i hsz hi => by
    by_cases h : i = s
    · subst h
      obtain ⟨h0, o, ho, hall⟩ := mem_ready.1 hi
      rw [hs] at ho
      obtain rfl := Option.some.inj ho
      cases hd : done.getD e false
      · refine .inr (mem_ready.2 ⟨?_, oe, by rw [hne e hes]; exact he, fun x hx hb => ?_⟩)
        · simpa [Array.getD, hsz, helt] using hd
        · obtain ⟨y, hy1, hy2, hy3⟩ := hdeps x hx hb
          rw [← hy3]; exact hall y hy1 hy2
      · refine .inl (mem_ready.2 ⟨h0, late os e, hss, fun x hx hb => ?_⟩)
        rcases Array.mem_push.1 hx with hx | rfl
        · exact hall x hx hb
        · exact hd
    · left
      obtain ⟨h0, o, ho, hall⟩ := mem_ready.1 hi
      exact mem_ready.2 ⟨h0, o, by rw [hne i h]; exact ho, hall⟩
  have same : ∀ i K a w, wpOp P (ops.setIfInBounds s (late os e)) Q i K a w → wpOp P ops Q i K a w := fun i K a w h => by
    unfold wpOp at *
    rw [hy] at h
    by_cases hi : i = s
    · subst hi; rw [hss] at h; rw [hs]; exact h
    · rw [hne i hi] at h; exact h
  have first : ∀ f done a w, done.size = ops.size → (∀ done' a w, done'.size = ops.size → wpAny P md (ops.setIfInBounds s (late os e)) Q f done' a w → wpAny P md ops Q f done' a w) →
      e ∈ Region.ready md (ops.setIfInBounds s (late os e)) done → wpAny P md (ops.setIfInBounds s (late os e)) Q (f + 1) done a w → wpAny P md ops Q (f + 1) done a w := fun f done a w hsz ih her H => by
    obtain ⟨v, hyv, hK⟩ := extract_yields (ops := ops) hQ (by rw [hne e hes]; exact he) hop hg (H.2 e her)
    refine wpAny_first he (Region.noSelect_spec hsel) (fun c a w h => absurd h (hQp c _ w)) f done a w (fun j oj hj hje hun hno => freeOf_spec hfree j oj hj hje (fun x hx hb hxj => ?_) hno) (sub _ _ her) hyv (ih _ _ _ (by simpa using hsz) hK)
    obtain ⟨_, o, ho, hall⟩ := mem_ready.1 (sub _ _ her)
    rw [he] at ho
    obtain rfl := Option.some.inj ho
    have h1 := hall x hx hb
    have h2 : j < ops.size := (Array.getElem?_eq_some_iff.1 hj).1
    rw [hxj] at h1
    simp [Array.getD, hsz, h2] at h1 hun
    rw [h1] at hun
    cases hun
  intro f
  induction f with
  | zero =>
    intro done a w hsz H
    refine ⟨List.eq_nil_iff_forall_not_mem.2 fun i hi => ?_, H.2⟩
    rcases gap done i hsz hi with h | h <;> (rw [H.1] at h; cases h)
  | succ f ih =>
    intro done a w hsz H
    by_cases her : e ∈ Region.ready md (ops.setIfInBounds s (late os e)) done
    · exact first f done a w hsz ih her H
    · refine ⟨fun h0 => H.1 (List.eq_nil_iff_forall_not_mem.2 fun i hi => by have := sub _ _ hi; rw [h0] at this; cases this), fun i hi => ?_⟩
      rcases gap done i hsz hi with h | h
      · exact wpOp_mono (fun a' w' h' => ih _ a' w' (by simpa using hsz) h') (same _ _ _ _ (H.2 i h))
      · exact absurd h her

/-- The end that a walk of the tail comes to. -/
def Landed (Q : Exit → Act → World → Prop) (x : Exit) (a : Act) (w : World) : Prop := x = .normal ∧ Q x a w
/-- THE RULE: as 'wp_region_alloc', where an 'extract' (the e-th) may come after the store (the s-th). -/
theorem wp_region_alloc_late {id : Nat} {Q : Exit → Act → World → Prop} {a : Act} {w : World} {l : List Oper} (n m t e s : Nat) (obj : Obj) {ty : TypeId} {T : Nat} {p : String} {oe os : Oper} {x : Operand} {ix : Nat}
    (hmo : P.follows .mixedOrders = true) (ha : l[m]? = some { dst := some t, op := .alloc ty, type := T, pos := p, after := #[], guard := none }) (hmn : m < n) (hms : m ≠ s)
    (he : l[e]? = some oe) (hs : l[s]? = some os) (hes : e ≠ s) (hop : oe.op = .extract x ix) (hg : oe.guard = none)
    (hsel : Region.noSelect l.toArray = true) (hfree : freeOf .any l.toArray oe e = true)
    (hdeps : oe.after.all (fun x => !Region.binds .any x || os.after.any fun y => Region.binds .any y && y.on == x.on) = true)
    (hB : ∀ N, Region.lexTailB .any ((l.set s (late os e)).set m (ptrOp t T p N)).toArray n = true)
    (hrun : ∀ a w, (execOp (Act.eval a) { dst := some t, op := .alloc ty, type := T, pos := p, after := #[], guard := none }).run P w = .ok (.value (.pointer (some ⟨w.heap.size, 0, none⟩))) (w.alloc obj))
    (hnd : dstsB (l.set s (late os e)).toArray n = true)
    (h : ∃ A : Nat → Act, (∀ b N, Below w.heap.size w b → wpQuiet P ((l.set s (late os e)).set m (ptrOp t T p N)).toArray (fun w' => ∃ z, w' = grow b z) (fun a' => a' = A N) (((l.set s (late os e)).set m (ptrOp t T p N)).take n) a) ∧
      (∀ N, A N = (A 0).put (some t) (.pointer (some ⟨N, 0, none⟩))) ∧
      (∀ W' N, Below w.heap.size w W' → w.heap.size ≤ N → W'.heap[N]? = some obj → wpList P (l.set s (late os e)).toArray (Landed Q) ((l.set s (late os e)).drop n) (A N) W')) : (Code.region id l.toArray true).wp P Q a w := by
  obtain ⟨A, h1, h2, h3⟩ := h
  have hm : m < l.length := (List.getElem?_eq_some_iff.1 ha).1
  have ha' : (l.set s (late os e))[m]? = some { dst := some t, op := .alloc ty, type := T, pos := p, after := #[], guard := none } := by rw [List.getElem?_set_ne (Ne.symm hms)]; exact ha
  have S := any_grow_alloc (P := P) (Q := Landed Q) (a := a) (w := w) n m t obj _ (ptrOp t T p) (fun N => (l.set s (late os e)).set m (ptrOp t T p N)) A hB (fun N => by simp) hmn (fun N i hi => by rw [List.getElem?_set_ne (Ne.symm hi)]) (fun _ => rfl) (fun _ => rfl) ha'
    (fun N => by rw [List.getElem?_set_self (by simpa using hm)]) rfl (fun _ => rfl) rfl rfl hrun (fun N a w => by simp [ptrOp, execOp, Act.eval]) hnd h2 h1 h3
  have key := wpAny_late (P := P) (md := .any) (ops := l.toArray) (Q := Landed Q) (fun ⟨_, _, h, _⟩ => by cases h) (fun _ _ _ h => by cases h.1) (by simpa using he) (by simpa using hs) hes hop hg hsel hfree (fun x hx hb => by
    have := Array.all_eq_true_iff_forall_mem.1 hdeps x hx
    simp only [hb, Bool.not_true, Bool.false_or] at this
    obtain ⟨y, hy, hb2⟩ := Array.any_eq_true'.1 this
    simp only [Bool.and_eq_true, beq_iff_eq] at hb2
    exact ⟨y, hy, hb2.1, hb2.2⟩) l.toArray.size (Array.replicate l.toArray.size false) a { w with drawn := w.drawn + 1 } (by simp) (by simpa using S)
  exact Code.wp_mono (fun _ _ _ h => h.2) (wp_region_any hmo key)
end late
end Go.Proofs.Ytpahbpgkmebieaa
