/- Contracts of functions of the program and of the reference, a calculus of states, and plain facts: a part of a proof. Own text. -/
import Derived.Test.YtjimjdhdnkhfnaaGreatJaa
import Derived.Test.YtjimjdhdnkhfnaaGreatJac
set_option linter.unusedVariables false
set_option linter.unusedSimpArgs false
set_option linter.unusedSectionVars false
set_option linter.unnecessarySimpa false
namespace Go.Proofs.YtjimjdhdnkhfnaaGreat
open Go Go.RowKit
section
variable {w0 : World} {im0 : Nat → Prop} {N : NN} {D : Env} {bm : Nat → Nat} {rm : Nat → Value} {L : Lk} {a : Act} {w w' : World}
theorem RelAt.newRows (h : RelAt w0 im0 N D bm rm L a w) {L' : Lk} {rm' : Nat → Value} (hg : Below w.heap.size w w')
    (oT : ∀ k, L' (kT k) = L (kT k)) (oB : ∀ k, L' (kB k) = L (kB k)) (oI : ∀ i, (∃ e k es, L' i = .row e k es) ∨ L' i = L i)
    (oR : ∀ t, (∃ e k es xs, L' (kR t) = .row e k es ∧ L (kR t) = .none ∧ w'.ownsRow w.heap.size e k (rm' t) es.length xs ∧ RepL (fun _ => False) w' es.flatten xs ∧ ((∀ x ∈ es, x.length = k) ∧ ∀ u ∈ xs, u.oneCell' = true)) ∨ L' (kR t) = L (kR t))
    (hag : ∀ t, L (kR t) ≠ .none → rm' t = rm t)
    (hdis : ∀ t t' g, L (kR t) = .none → L (kR t') = .none → isRow L' t → isRow L' t' → (rm' t).ownBlock = some g → (rm' t').ownBlock = some g → t = t') :
    RelAt w0 im0 N D bm rm' L' a w' := by
  have hblk : ∀ b, b < w.heap.size → w'.heap[b]? = w.heap[b]? := fun b hb => hg.block b hb
  have iB' : ∀ k', isBox L' k' = isBox L k' := fun k' => by simp only [isBox, oB]
  have iR : ∀ t, isRow L' t → (L (kR t) = .none ∧ ∀ g, (rm' t).ownBlock = some g → w.heap.size ≤ g) ∨ (isRow L t ∧ rm' t = rm t) := fun t ht => by
    rcases oR t with ⟨e, k, es, xs, h1, h2, h3, h4, h5⟩ | h1
    · exact .inl ⟨h2, fun g hg => (h3.lt g hg).1⟩
    · obtain ⟨e, k, es, he⟩ := ht
      rw [h1] at he
      exact .inr ⟨⟨e, k, es, he⟩, hag t (by rw [he]; simp)⟩
  have agree : ∀ {c : Cont} {i : Nat}, L i = c → ∀ t ∈ c.rows, rm' t = rm t := by
    rintro c i rfl t ht
    exact hag t (h.wfr i t ht)
  have hk1 : Keeps (imOf w0.heap.size im0 bm rm L w) w (imOf w0.heap.size im0 bm rm' L' w') w' := by
    intro b hb
    refine ⟨⟨hb.1.keep hg.size (hblk b hb.1.1), hb.2.1, fun k' hk' => hb.2.2.1 k' (by rw [iB'] at hk'; exact hk'), fun t ht e => ?_⟩, hblk b hb.1.1⟩
    rcases iR t ht with ⟨_, h2⟩ | ⟨h1, h2⟩
    · have := h2 b e; have := hb.1.1; omega
    · rw [h2] at e; exact hb.2.2.2 t h1 e
  have hbase : Below w0.heap.size w0 w' := ⟨hg.os.trans h.base.os, hg.tape.trans h.base.tape, hg.output.trans h.base.output, Nat.le_trans h.base.size hg.size, fun b hb => by
    rw [hblk b (Nat.lt_of_lt_of_le hb h.base.size)]; exact h.base.block b hb⟩
  refine ⟨hbase, h.size, h.defs.keep (by first | exact Nat.le_refl _ | exact hg.size | exact hbel.size | exact hw.size | exact hs | (simp; done) | omega) hk1 (fun b hb => hblk b (mach_lt hb)), fun d' v' hv' => ?_, fun k' ty' cs' hc => ?_, fun k' o hc => ?_, fun t e' k' es' ht => ?_, fun k1 k2 => by rw [iB', iB']; exact h.bb k1 k2, fun k' t hk' ht => ?_, fun t t' g ht ht' hg1 hg2 => ?_, fun i k' hk' => ?_, fun i t ht => ?_⟩
  · rw [oT] at hv'
    exact (h.slots d' v' hv').keep hk1 (fun _ _ => rfl) (agree hv')
  · rw [oB] at hc
    obtain ⟨us, hu, hr, hn'⟩ := h.boxes k' ty' cs' hc
    exact ⟨us, by rw [hblk _ (h.boxlt (.inl ⟨ty', cs', hc⟩))]; exact hu, hr.keep hk1 (fun _ _ => rfl) (agree (c := .box ty' cs') hc), hn'⟩
  · rw [oB] at hc
    obtain ⟨O, hu, hr, hn'⟩ := h.objs k' o hc
    exact ⟨O, by rw [hblk _ (h.boxlt (.inr ⟨o, hc⟩))]; exact hu, hr.keep hk1, hn'⟩
  · rcases oR t with ⟨e, k, es, xs, h1, h2, h3, h4, h5⟩ | h1
    · rw [h1] at ht
      cases ht
      exact ⟨xs, ⟨h3.1, h3.2.imp id (by rintro ⟨g, cap, cur, hv, hbg, hr⟩; exact ⟨g, cap, cur, hv, Nat.le_trans h.base.size hbg, hr⟩)⟩, RepL.keep (fun _ hf => hf.elim) _ _ h4, h5⟩
    · rw [h1] at ht
      obtain ⟨xs', hx', hl', hr'⟩ := h.rows t e' k' es' ht
      rw [hag t (by rw [ht]; simp)]
      refine ⟨xs', ?_, hl'.keep hk1, hr'⟩
      refine hx'.kept (row := none) ⟨hg.os, hg.tape, hg.output, hg.size, fun b hb _ => hblk b hb⟩ ?_
      cases (rm t).ownBlock <;> simp
  · rw [iB'] at hk'
    intro e
    rcases iR t ht with ⟨_, h2⟩ | ⟨h1, h2⟩
    · have := h2 _ e; have := h.boxlt hk'; omega
    · rw [h2] at e; exact h.br k' t hk' h1 e
  · rcases iR t ht with ⟨h1, h2⟩ | ⟨h1, h2⟩
    · rcases iR t' ht' with ⟨h3, h4⟩ | ⟨h3, h4⟩
      · exact hdis t t' g h1 h3 ht ht' hg1 hg2
      · rw [h4] at hg2
        have := h.rowlt h3 hg2; have := h2 g hg1; omega
    · rcases iR t' ht' with ⟨h3, h4⟩ | ⟨h3, h4⟩
      · rw [h2] at hg1
        have := h.rowlt h1 hg1; have := h4 g hg2; omega
      · rw [h2] at hg1; rw [h4] at hg2
        exact h.rr t t' g h1 h3 hg1 hg2
  · rw [oB]
    rcases oI i with ⟨e, k, es, he⟩ | he
    · rw [he] at hk'; simp [Cont.boxes] at hk'
    · rw [he] at hk'; exact h.wfb i k' hk'
  · have key : L (kR t) ≠ .none := by
      rcases oI i with ⟨e, k, es, he⟩ | he
      · rw [he] at ht; simp [Cont.rows] at ht
      · rw [he] at ht; exact h.wfr i t ht
    rcases oR t with ⟨e, k, es, xs, h1, h2, _⟩ | h1
    · rw [h1]; simp
    · rw [h1]; exact key
end
abbrev RowT := TypeId × Nat × List (List PV)
def ownCells : List PV → Option (List RowT)
  | [] => some []
  | p :: r => match p with
    | .own e k es => match ownCells r with
      | some l => some ((e, k, es) :: l)
      | none => none
    | _ => none
def ownV : PV → Option (Bool × List RowT)
  | .own e k es => some (false, [(e, k, es)])
  | .agg (p :: ps) => match ownCells (p :: ps) with
    | some l => some (true, l)
    | none => none
  | _ => none
def rowN (d j : Nat) : Nat := 2000 + 16 * d + j
def rowsA (d : Nat) : Nat → List RowT → List (Nat × Cont)
  | _, [] => []
  | j, r :: l => (kR (rowN d j), .row r.1 r.2.1 r.2.2) :: rowsA d (j + 1) l
def rowsC (d : Nat) : Nat → List RowT → List CV
  | _, [] => []
  | j, _ :: l => .row (rowN d j) :: rowsC d (j + 1) l
def chkR {β : Type} (d : Nat) : Nat → List RowT → AskR β → AskR β
  | _, [], f => f
  | j, _ :: l, f => .get (kR (rowN d j)) fun c => match c with
    | .none => chkR d (j + 1) l f
    | _ => .fail
def putN (N : NN) (dst : Option Nat) (b : Bool) (rs : List RowT) : Ask := match dst with
  | some d => chkR d 0 rs (putA N (some d) (bif b then .agg (rowsC d 0 rs) else .c (.row (rowN d 0))) (rowsA d 0 rs))
  | none => .fail
theorem chkR_run {β : Type} {L : Lk} {d : Nat} : ∀ (rs : List RowT) (j : Nat) (f : AskR β) (R : List Nat) (y : β × List Nat), (chkR d j rs f).run L R = some y → (∀ q, q < rs.length → L (kR (rowN d (j + q))) = .none) ∧ ∃ R', f.run L R' = some y
  | [], j, f, R, y, h => ⟨fun q hq => absurd hq (Nat.not_lt_zero q), R, h⟩
  | r :: l, j, f, R, y, h => by
    simp only [chkR, AskR.run] at h
    split at h
    · rename_i hc
      obtain ⟨h1, R', h2⟩ := chkR_run l (j + 1) f _ y h
      refine ⟨fun q hq => ?_, R', h2⟩
      cases q with
      | zero => exact hc
      | succ q => have := h1 q (by simpa using hq); rwa [show j + 1 + q = j + (q + 1) by omega] at this
    · simp [AskR.run] at h
theorem rowsA_at {L : Lk} {d : Nat} (i : Nat) : ∀ (rs : List RowT) (j : Nat), (∃ q r, rs[q]? = some r ∧ i = kR (rowN d (j + q)) ∧ ovr (rowsA d j rs) L i = .row r.1 r.2.1 r.2.2) ∨ ((∀ q, q < rs.length → i ≠ kR (rowN d (j + q))) ∧ ovr (rowsA d j rs) L i = L i)
  | [], j => .inr ⟨fun q hq => absurd hq (Nat.not_lt_zero q), rfl⟩
  | r :: l, j => by
    simp only [rowsA, ovr]
    cases hb : Nat.beq (kR (rowN d j)) i with
    | true => exact .inl ⟨0, r, rfl, (Nat.eq_of_beq_eq_true hb).symm, rfl⟩
    | false =>
      have hne := Nat.ne_of_beq_eq_false hb
      rcases rowsA_at i l (j + 1) with ⟨q, r', h1, h2, h3⟩ | ⟨h1, h2⟩
      · exact .inl ⟨q + 1, r', by simpa using h1, by rw [h2, show j + 1 + q = j + (q + 1) by omega], h3⟩
      · refine .inr ⟨fun q hq => ?_, h2⟩
        cases q with
        | zero => exact fun e => hne e.symm
        | succ q => have := h1 q (by simpa using hq); rwa [show j + 1 + q = j + (q + 1) by omega] at this
structure RepN (n0 : Nat) (w : World) (rs : List RowT) (us : List Value) : Prop where
  len : us.length = rs.length
  own : ∀ (j : Nat) (r : RowT) (x : Value), rs[j]? = some r → us[j]? = some x → ∃ xs, w.ownsRow n0 r.1 r.2.1 x r.2.2.length xs ∧ RepL (fun _ => False) w r.2.2.flatten xs ∧ ((∀ y ∈ r.2.2, y.length = r.2.1) ∧ ∀ u ∈ xs, u.oneCell' = true)
  dis : ∀ (i j : Nat) (x y : Value) (g : Nat), us[i]? = some x → us[j]? = some y → x.ownBlock = some g → y.ownBlock = some g → i = j
section
variable {P : Program} {w0 : World} {im0 : Nat → Prop} {N : NN} {D : Env} {bm : Nat → Nat} {rm : Nat → Value} {L : Lk} {a : Act} {w w' : World}
theorem ownsRow_isSlice {n0 : Nat} {e : TypeId} {k n : Nat} {v : Value} {xs : List Value} (h : w.ownsRow n0 e k v n xs) : ∃ A n c, v = .slice A n c := by
  rcases h.2 with ⟨hv, _⟩ | ⟨g, cap, cur, hv, _⟩
  · exact ⟨_, _, _, hv⟩
  · exact ⟨_, _, _, hv⟩
theorem rowsC_rep {bm : Nat → Nat} {rm : Nat → Value} {im : Nat → Prop} {d : Nat} : ∀ (rs : List RowT) (j : Nat) (us : List Value), us.length = rs.length → (∀ (q : Nat) (x : Value), us[q]? = some x → rm (rowN d (j + q)) = x ∧ ∃ A n c, x = .slice A n c) → RepVs bm rm im w (rowsC d j rs) us
  | [], j, us, hl, h => by
    obtain rfl : us = [] := List.eq_nil_of_length_eq_zero hl
    rfl
  | r :: l, j, [], hl, h => by simp at hl
  | r :: l, j, u :: us, hl, h => by
    have h0 := h 0 u rfl
    refine ⟨u, us, rfl, ⟨h0.1.symm, h0.2⟩, rowsC_rep l (j + 1) us (by simpa using hl) fun q x hx => ?_⟩
    have := h (q + 1) x (by simpa using hx)
    rwa [show j + 1 + q = j + (q + 1) by omega]
theorem rowsC_boxes {d : Nat} : ∀ (rs : List RowT) (j : Nat), (rowsC d j rs).flatMap CV.boxes = []
  | [], _ => rfl
  | r :: l, j => by simp only [rowsC, List.flatMap_cons, rowsC_boxes l]; rfl
theorem rowsC_rows {d : Nat} : ∀ (rs : List RowT) (j t : Nat), t ∈ (rowsC d j rs).flatMap CV.rows → ∃ q, q < rs.length ∧ t = rowN d (j + q)
  | [], _, t, h => by simp [rowsC] at h
  | r :: l, j, t, h => by
    simp only [rowsC, List.flatMap_cons, List.mem_append, CV.rows, List.mem_singleton] at h
    rcases h with h | h
    · exact ⟨0, by simp, h⟩
    · obtain ⟨q, h1, h2⟩ := rowsC_rows l (j + 1) t h
      exact ⟨q + 1, by simpa using h1, by rw [h2, show j + 1 + q = j + (q + 1) by omega]⟩
theorem rowN_inj {d i j : Nat} (h : rowN d i = rowN d j) : i = j := by unfold rowN at h; omega
theorem putN_rel0 {d : Nat} (h : RelAt w0 im0 N D bm rm L a w) (hb : Below w.heap.size w w') {b : Bool} {rs : List RowT} {us : List Value} {u : Value} (hn : RepN w.heap.size w' rs us) (hu : bif b then u = .agg us.toArray else us = [u])
    (hnone : ∀ q, q < rs.length → L (kR (rowN d q)) = .none) : ∃ rm', RelAt w0 im0 N D bm rm' (ovr (rowsA d 0 rs) L) a w' ∧ Holds w0 im0 bm rm' (ovr (rowsA d 0 rs) L) w' (bif b then .agg (rowsC d 0 rs) else .c (.row (rowN d 0))) u := by
    obtain ⟨rm', hrm⟩ : ∃ rm' : Nat → Value, rm' = fun t => if 2000 + 16 * d ≤ t ∧ t < 2000 + 16 * d + us.length then us.getD (t - (2000 + 16 * d)) undef else rm t := ⟨_, rfl⟩
    have hat : ∀ (q : Nat) (y : Value), us[q]? = some y → rm' (rowN d q) = y := fun q y hy => by
      have hq := (List.getElem?_eq_some_iff.1 hy).1
      have key : ∀ t, t = 2000 + 16 * d + q → (if 2000 + 16 * d ≤ t ∧ t < 2000 + 16 * d + us.length then us.getD (t - (2000 + 16 * d)) undef else rm t) = y := by
        rintro _ rfl
        rw [if_pos (by omega), show 2000 + 16 * d + q - (2000 + 16 * d) = q by omega, List.getD_eq_getElem?_getD, hy]
        rfl
      rw [hrm]
      exact key _ rfl
    have hout : ∀ t, (∀ q, q < rs.length → t ≠ rowN d q) → rm' t = rm t := fun t ht => by
      rw [hrm]
      simp only
      rw [if_neg]
      rintro ⟨h1, h2⟩
      exact ht (t - (2000 + 16 * d)) (by have := hn.len; omega) (by unfold rowN; omega)
    have hrel : RelAt w0 im0 N D bm rm' (ovr (rowsA d 0 rs) L) a w' := by
      refine h.newRows hb (fun k => ?_) (fun k => ?_) (fun i => ?_) (fun t => ?_) (fun t ht => ?_) (fun t t' g h1 h2 ht ht' hg hg' => ?_)
      · rcases rowsA_at (L := L) (d := d) (kT k) rs 0 with ⟨q, r, _, h2, _⟩ | ⟨_, h2⟩
        · exact (kT_ne_kR _ _ h2).elim
        · exact h2
      · rcases rowsA_at (L := L) (d := d) (kB k) rs 0 with ⟨q, r, _, h2, _⟩ | ⟨_, h2⟩
        · exact (kB_ne_kR _ _ h2).elim
        · exact h2
      · rcases rowsA_at (L := L) (d := d) i rs 0 with ⟨q, r, _, _, h3⟩ | ⟨_, h2⟩
        · exact .inl ⟨_, _, _, h3⟩
        · exact .inr h2
      · rcases rowsA_at (L := L) (d := d) (kR t) rs 0 with ⟨q, r, h1, h2, h3⟩ | ⟨_, h2⟩
        · have ht := kR_inj h2
          rw [Nat.zero_add] at ht
          subst ht
          have hq := (List.getElem?_eq_some_iff.1 h1).1
          obtain ⟨y, hy⟩ : ∃ y, us[q]? = some y := ⟨_, List.getElem?_eq_getElem (by rw [hn.len]; exact hq)⟩
          obtain ⟨xs, k1, k2, k3⟩ := hn.own q r y h1 hy
          exact .inl ⟨_, _, _, xs, h3, hnone q hq, by rw [hat q y hy]; exact k1, k2, k3⟩
        · exact .inr h2
      · refine hout t fun q hq e => ht ?_
        rw [e]; exact hnone q hq
      · have key : ∀ t, L (kR t) = .none → isRow (ovr (rowsA d 0 rs) L) t → ∃ q y, us[q]? = some y ∧ t = rowN d q := fun t h1 ht => by
          rcases rowsA_at (L := L) (d := d) (kR t) rs 0 with ⟨q, r, k1, h2, h3⟩ | ⟨_, h2⟩
          · have ht := kR_inj h2
            rw [Nat.zero_add] at ht
            exact ⟨q, _, List.getElem?_eq_getElem (by rw [hn.len]; exact (List.getElem?_eq_some_iff.1 k1).1), ht⟩
          · obtain ⟨e, k, es, he⟩ := ht
            rw [h2, h1] at he; cases he
        obtain ⟨q, y, hy, rfl⟩ := key t h1 ht
        obtain ⟨q', y', hy', rfl⟩ := key t' h2 ht'
        rw [hat q y hy] at hg
        rw [hat q' y' hy'] at hg'
        rw [hn.dis q q' y y' g hy hy' hg hg']
    have hslice : ∀ (q : Nat) (y : Value), us[q]? = some y → rm' (rowN d (0 + q)) = y ∧ ∃ A n c, y = .slice A n c := fun q y hy => by
      rw [Nat.zero_add]
      have hq := (List.getElem?_eq_some_iff.1 hy).1
      obtain ⟨r, hrq⟩ : ∃ r, rs[q]? = some r := ⟨_, List.getElem?_eq_getElem (by rw [← hn.len]; exact hq)⟩
      obtain ⟨xs, k1, _⟩ := hn.own q r y hrq hy
      exact ⟨hat q y hy, ownsRow_isSlice k1⟩
    have hrows : ∀ q, q < rs.length → ovr (rowsA d 0 rs) L (kR (rowN d (0 + q))) ≠ .none := fun q hq e => by
      rcases rowsA_at (L := L) (d := d) (kR (rowN d (0 + q))) rs 0 with ⟨q', r, k1, h2, h3⟩ | ⟨h1, _⟩
      · rw [h3] at e; cases e
      · exact h1 q hq rfl
    refine ⟨rm', hrel, ?_⟩
    cases b with
    | true =>
      have hu : u = .agg us.toArray := hu
      refine ⟨⟨us, hu, rowsC_rep rs 0 us hn.len hslice⟩, fun k hk => ?_, fun t ht => ?_⟩
      · have hk : k ∈ (rowsC d 0 rs).flatMap CV.boxes := hk
        rw [rowsC_boxes] at hk; simp at hk
      · obtain ⟨q, hq, rfl⟩ := rowsC_rows rs 0 t ht
        exact hrows q hq
    | false =>
      obtain rfl : us = [u] := hu
      have hl : 0 < rs.length := by rw [← hn.len]; simp
      have := hslice 0 u rfl
      refine ⟨⟨this.1.symm, this.2⟩, fun k hk => by simp [TV.boxes, CV.boxes] at hk, fun t ht => ?_⟩
      obtain rfl : t = rowN d 0 := by simpa [TV.rows, CV.rows] using ht
      exact hrows 0 hl
theorem putN_rel {o : Oper} (h : RelAt w0 im0 N D bm rm L a w) (hb : Below w.heap.size w w') {b : Bool} {rs : List RowT} {us : List Value} {u : Value} (hn : RepN w.heap.size w' rs us) (hu : bif b then u = .agg us.toArray else us = [u])
    {R : List Nat} {x : Deed} (hr : (putN N o.dst b rs).run L R = some x) : Rel w0 im0 N D (ovr x.1 L) (a.put o.dst u) w' := by
  cases hd : o.dst with
  | none => rw [hd] at hr; simp [putN, AskR.run] at hr
  | some d =>
    rw [hd] at hr
    simp only [putN] at hr
    obtain ⟨hnone, R', hput⟩ := chkR_run rs 0 _ R x hr
    simp only [Nat.zero_add] at hnone
    obtain ⟨rm', h1, h2⟩ := putN_rel0 (d := d) h hb hn hu hnone
    exact fin_put (w' := w') (o := { o with dst := some d }) (α := rowsA d 0 rs) (v := bif b then .agg (rowsC d 0 rs) else .c (.row (rowN d 0))) h1 h2 hput
end
def bitsR : List Nat → Nat
  | [] => 0
  | k :: r => (1 <<< k) ||| bitsR r
def bitsW : List (Nat × Cont) → Nat
  | [] => 0
  | p :: r => (1 <<< p.1) ||| bitsW r
def ancM (az : List Nat) : List Edge → Nat
  | [] => 0
  | e :: r => bif Region.binds .any e then ((1 <<< e.on) ||| az.getD e.on 0) ||| ancM az r else ancM az r
def pastB (A W R : Nat) : Nat → List (Nat × Nat) → Bool
  | _, [] => true
  | i, p :: l => (Nat.beq (((W ||| R) &&& p.1) ||| (p.2 &&& W)) 0 || Nat.testBit A i) && pastB A W R (i + 1) l
def edgesB (j : Nat) : List Edge → Bool
  | [] => true
  | e :: r => (!Region.binds .any e || Nat.blt e.on j) && edgesB j r
def ordStep (f : Nat → Nat → Nat → Bool) (A W R : Nat) (past : List (Nat × Nat)) : Bool := pastB A W R 0 past && f A W R
def ordGo : List Oper → List Deed → Nat → List Nat → List (Nat × Nat) → Bool
  | [], _, _, _, _ => true
  | o :: os, ts, j, az, past => match ts with
    | [] => false
    | t :: ts => edgesB j o.after.toList && ordStep (fun A W R => ordGo os ts (j + 1) (az ++ [A]) (past ++ [(W, R)])) (ancM az o.after.toList) (bitsW t.1) (bitsR t.2) past
def ordM (ops : Array Oper) (ts : List Deed) : Bool := ordGo ops.toList ts 0 [] []
theorem bit_one (k q : Nat) : (1 <<< k).testBit q = decide (k = q) := by
  rw [Nat.one_shiftLeft, Nat.testBit_two_pow]
theorem bit_or (x y q : Nat) : (x ||| y).testBit q = (x.testBit q || y.testBit q) := Nat.testBit_or x y q
theorem bit_and (x y q : Nat) : (x &&& y).testBit q = (x.testBit q && y.testBit q) := Nat.testBit_and x y q
theorem dec_beq (k q : Nat) : decide (k = q) = Nat.beq k q := by
  cases h : Nat.beq k q with
  | true => exact decide_eq_true (Nat.eq_of_beq_eq_true h)
  | false => exact decide_eq_false (Nat.ne_of_beq_eq_false h)
theorem bitsR_mem : ∀ (ks : List Nat) (q : Nat), (bitsR ks).testBit q = ks.any fun k => Nat.beq k q
  | [], q => by simp [bitsR]
  | k :: r, q => by
    rw [bitsR, bit_or, bit_one, bitsR_mem r q, List.any_cons]
    congr 1
    exact dec_beq _ _
theorem bitsW_mem : ∀ (ks : List (Nat × Cont)) (q : Nat), (bitsW ks).testBit q = wr ks q
  | [], q => by simp [bitsW, wr]
  | k :: r, q => by
    have ih := bitsW_mem r q
    unfold wr at ih ⊢
    rw [bitsW, bit_or, bit_one, ih, List.any_cons]
    congr 1
    exact dec_beq _ _
theorem edgesB_all {j : Nat} : ∀ {es : List Edge}, edgesB j es = true → (es.all fun e => !Region.binds .any e || Nat.blt e.on j) = true
  | [], _ => rfl
  | e :: r, h => by
    simp only [edgesB, Bool.and_eq_true] at h
    rw [List.all_cons, h.1, edgesB_all h.2]
    rfl
theorem ancM_mem {az : List Nat} {q : Nat} : ∀ {es : List Edge}, (ancM az es).testBit q = true → ∃ e ∈ es, Region.binds .any e = true ∧ (e.on = q ∨ (az.getD e.on 0).testBit q = true)
  | [], h => by simp [ancM] at h
  | e :: r, h => by
    unfold ancM at h
    cases hb : Region.binds .any e with
    | false =>
      rw [hb] at h
      obtain ⟨e', h1, h2⟩ := ancM_mem h
      exact ⟨e', List.mem_cons_of_mem _ h1, h2⟩
    | true =>
      rw [hb] at h
      simp only [cond_true, bit_or, bit_one, Bool.or_eq_true, decide_eq_true_eq] at h
      rcases h with (h | h) | h
      · exact ⟨e, List.mem_cons_self .., hb, .inl h⟩
      · exact ⟨e, List.mem_cons_self .., hb, .inr h⟩
      · obtain ⟨e', h1, h2⟩ := ancM_mem h
        exact ⟨e', List.mem_cons_of_mem _ h1, h2⟩
theorem pastB_at {A W R : Nat} : ∀ {l : List (Nat × Nat)} {i : Nat}, pastB A W R i l = true → ∀ (q : Nat) p, l[q]? = some p → (((W ||| R) &&& p.1) ||| (p.2 &&& W)) ≠ 0 → A.testBit (i + q) = true
  | [], i, _, q, p, hp, _ => by simp at hp
  | p0 :: l, i, h, q, p, hp, hne => by
    simp only [pastB, Bool.and_eq_true, Bool.or_eq_true] at h
    cases q with
    | zero =>
      simp only [List.getElem?_cons_zero, Option.some.injEq] at hp
      subst hp
      rcases h.1 with h1 | h1
      · exact absurd (Nat.eq_of_beq_eq_true h1) hne
      · exact h1
    | succ q =>
      have := pastB_at h.2 q p (by simpa using hp) hne
      rwa [show i + 1 + q = i + (q + 1) by omega] at this
theorem confl_bits {x y : Deed} (h : confl x y = true) : (((bitsW y.1 ||| bitsR y.2) &&& bitsW x.1) ||| (bitsR x.2 &&& bitsW y.1)) ≠ 0 := by
  have key : ∀ k, (((bitsW y.1 ||| bitsR y.2) &&& bitsW x.1) ||| (bitsR x.2 &&& bitsW y.1)).testBit k = true → (((bitsW y.1 ||| bitsR y.2) &&& bitsW x.1) ||| (bitsR x.2 &&& bitsW y.1)) ≠ 0 := fun k hk e => by
    rw [e] at hk; simp at hk
  have hwr : ∀ (ks : List (Nat × Cont)) p, p ∈ ks → wr ks p.1 = true := fun ks p hp => List.any_eq_true.2 ⟨p, hp, Nat.beq_refl _⟩
  simp only [confl, Bool.or_eq_true, List.any_eq_true] at h
  rcases h with ⟨p, hp, hq | hq⟩ | ⟨p, hp, q, hq, hk⟩
  · obtain ⟨q, hq, hk⟩ := hq
    refine key p.1 ?_
    rw [bit_or, bit_and, bit_or, bitsW_mem x.1, hwr _ _ hp, bitsR_mem y.2, List.any_eq_true.2 ⟨q, hq, by rw [Nat.eq_of_beq_eq_true hk]; exact Nat.beq_refl _⟩]
    simp
  · refine key p.1 ?_
    rw [bit_or, bit_and, bit_or, bitsW_mem x.1, hwr _ _ hp, bitsW_mem y.1, hq]
    simp
  · refine key p.1 ?_
    rw [bit_or, bit_and, bit_and, bitsW_mem y.1, hwr _ _ hp, bitsR_mem x.2, List.any_eq_true.2 ⟨q, hq, by rw [Nat.eq_of_beq_eq_true hk]; exact Nat.beq_refl _⟩]
    simp
theorem ordGo_ok {ops : Array Oper} {ts : List Deed} : ∀ (os : List Oper) (tl : List Deed) (j : Nat) (az : List Nat) (past : List (Nat × Nat)), ordGo os tl j az past = true → os = ops.toList.drop j → tl = ts.drop j → az.length = j → past.length = j →
    (∀ i (A : Nat), az[i]? = some A → ∀ q, A.testBit q = true → ∀ f, i < f → anc ops q f i = true) → (∀ (i : Nat) p, past[i]? = some p → ∃ x, ts[i]? = some x ∧ p = (bitsW x.1, bitsR x.2)) →
    ∀ m, j ≤ m → m < ops.size → (∀ o, ops[m]? = some o → (o.after.toList.all fun e => !Region.binds .any e || Nat.blt e.on m) = true) ∧ ∀ i, i < m → ∀ x y, ts[i]? = some x → ts[m]? = some y → confl x y = true → anc ops i ops.size m = true
  | [], tl, j, az, past, _, ho, _, _, _, _, _, m, hj, hm => by
    have : (ops.toList.drop j).length = 0 := by rw [← ho]; rfl
    rw [List.length_drop, Array.length_toList] at this
    omega
  | o :: os, [], j, az, past, h, _, _, _, _, _, _, m, hj, hm => by simp [ordGo] at h
  | o :: os, t :: tl, j, az, past, h, ho, ht, hl, hp, ha, hpp, m, hj, hm => by
    simp only [ordGo, ordStep, Bool.and_eq_true] at h
    obtain ⟨h1, h2, h3⟩ := h
    have hoj : ops[j]? = some o := by
      have : (ops.toList.drop j)[0]? = some o := by rw [← ho]; rfl
      simpa using this
    have htj : ts[j]? = some t := by
      have : (ts.drop j)[0]? = some t := by rw [← ht]; rfl
      simpa using this
    have hos : os = ops.toList.drop (j + 1) := by
      have : (ops.toList.drop j).drop 1 = os := by rw [← ho]; rfl
      rw [← this, List.drop_drop]
    have htl : tl = ts.drop (j + 1) := by
      have : (ts.drop j).drop 1 = tl := by rw [← ht]; rfl
      rw [← this, List.drop_drop]
    have hA : ∀ q, (ancM az o.after.toList).testBit q = true → ∀ f, j < f → anc ops q f j = true := fun q hq f hf => by
      obtain ⟨e, he, hb, hor⟩ := ancM_mem hq
      have hlt : e.on < j := by
        have := List.all_eq_true.1 (edgesB_all h1) e he
        rw [hb] at this
        simpa [Nat.blt_eq] using this
      cases f with
      | zero => omega
      | succ f =>
        simp only [anc, hoj, List.any_eq_true]
        refine ⟨e, he, ?_⟩
        rw [hb, Bool.true_and, Bool.or_eq_true]
        rcases hor with rfl | hor
        · exact .inl (Nat.beq_refl _)
        · refine .inr (ha e.on _ ?_ q hor f (by omega))
          rw [List.getD_eq_getElem?_getD, List.getElem?_eq_getElem (by omega)]
          rfl
    rcases Nat.lt_or_ge j m with hjm | hjm
    · refine ordGo_ok os tl (j + 1) _ _ h3 hos htl (by simp [hl]) (by simp [hp]) (fun i A hi q hq f hf => ?_) (fun i p hi => ?_) m hjm hm
      · rw [List.getElem?_append] at hi
        split at hi
        · exact ha i A hi q hq f hf
        · have : i = j := by
            have := (List.getElem?_eq_some_iff.1 hi).1
            simp at this; omega
          subst this
          have : A = ancM az o.after.toList := by
            rw [hl, Nat.sub_self] at hi; simpa using hi.symm
          subst this
          exact hA q hq f hf
      · rw [List.getElem?_append] at hi
        split at hi
        · exact hpp i p hi
        · have : i = j := by
            have := (List.getElem?_eq_some_iff.1 hi).1
            simp at this; omega
          subst this
          refine ⟨t, htj, ?_⟩
          rw [hp, Nat.sub_self] at hi; simpa using hi.symm
    · have : m = j := by omega
      subst this
      refine ⟨fun o' ho' => ?_, fun i hi x y hx hy hc => ?_⟩
      · rw [hoj] at ho'; cases ho'
        exact edgesB_all h1
      · rw [htj] at hy; cases hy
        obtain ⟨p, hpi⟩ : ∃ p, past[i]? = some p := ⟨_, List.getElem?_eq_getElem (by omega)⟩
        obtain ⟨x', hx', rfl⟩ := hpp i p hpi
        rw [hx] at hx'; cases hx'
        have := pastB_at h2 i _ hpi (confl_bits hc)
        rw [Nat.zero_add] at this
        exact hA i this ops.size hm
theorem ordM_ok {ops : Array Oper} {ts : List Deed} (h : ordM ops ts = true) : ordB ops ts = true := by
  have key := ordGo_ok (ops := ops) (ts := ts) ops.toList ts 0 [] [] h (by simp) (by simp) rfl rfl (fun i A hi => by simp at hi) (fun i p hi => by simp at hi)
  unfold ordB
  rw [List.all_eq_true]
  intro m hm
  have hm := List.mem_range.1 hm
  obtain ⟨h1, h2⟩ := key m (Nat.zero_le _) hm
  rw [Bool.and_eq_true]
  refine ⟨?_, ?_⟩
  · cases ho : ops[m]? with
    | none => rfl
    | some o => exact h1 o ho
  · rw [List.all_eq_true]
    intro i hi
    have hi := List.mem_range.1 hi
    cases hx : ts[i]? with
    | none => rfl
    | some x => cases hy : ts[m]? with
      | none => rfl
      | some y =>
        simp only [Bool.or_eq_true, Bool.not_eq_true']
        cases hc : confl x y with
        | false => exact .inl rfl
        | true => exact .inr (h2 i hi x y hx hy hc)
def evOp (ar : Ar) (T : TypeId → Lay) (N : NN) (o : Oper) : Ask := match o.op with
  | .move x => evMove N o x
  | .assign x => evMove N o x
  | .pick c x y => evPick N o c x y
  | .alloc e => evAlloc T N o e
  | .box e x => evBox N o e x
  | .build t ps => evBuild T N o t ps.toList
  | .buildSlice t len ps => evBuildSlice T N o t len ps.toList
  | .load t x => evLoad ar T N o t x
  | .store t x y => evStore ar T o t x y
  | .binOp op t x y _ => (match op with
    | .shr => evShr ar N o x y
    | _ => evBin ar T N o op t x y)
  | .convert s d x => evConv ar T N o s d x
  | .unOp op _ x => evUn ar N o op x
  | .makeFunc f fi ca => evMakeFunc N o f fi.toList ca.toList
  | .fieldAddr s x f => evFieldAddr T N o s x f
  | .field s x f => evField T N o s x f
  | .indexAddr t x ix => evIndexAddr ar T N o t x ix
  | .extract x i => evExtract N o x i
  | .index t x ix => evIndex ar T N o t x ix
  | .slice t x lo hi mx => evSlice ar T N o t x lo hi mx
  | .makeMap t none => evMakeMap T N o t
  | .lookup t x ix ok => evLookup ar T N o t x ix ok
  | .mapUpdate t x ix y => evMapUpdate ar T o t x ix y
  | .range t x => evRange T N o t x
  | .entry x => evEntry N o x
  | .call c => match c.callee, c.args.toList, c.argTypes.toList with
    | .builtin .len, [x], [t] => evLen ar T N o t x
    | .builtin .append, [x, y], [t, t'] => bif Nat.beq t t' then evAppend ar T N o t x y else .fail
    | .builtin .min, [x, y], _ => evMin ar.mn N o x y
    | .builtin .max, [x, y], _ => evMin ar.mx N o x y
    | _, _, _ => .fail
  | _ => .fail
section
variable {P : Program} {w0 : World} {im0 : Nat → Prop} {N : NN} {D : Env} {bm : Nat → Nat} {rm : Nat → Value} {L : Lk} {a : Act} {w w' : World} {o : Oper} {im : Nat → Prop}
theorem evOp_ok {ar : Ar} (har : ar = Ar.std) {T : TypeId → Lay} (hT : ∀ t, LayOK P t (T t)) (h : RelAt w0 im0 N D bm rm L a w) {R : List Nat} {z : Deed} (hr : (evOp ar T N o).run L R = some z) : Res P w0 im0 N D o a w (ovr z.1 L) := by
  unfold evOp at hr
  split at hr
  · exact evMove_ok h hr (.inl ‹_›)
  · exact evMove_ok h hr (.inr ‹_›)
  · exact evPick_ok h hr ‹_›
  · exact evAlloc_ok hT h hr ‹_›
  · exact evBox_ok h hr ‹_›
  · exact evBuild_ok hT h hr ‹_›
  · exact evBuildSlice_ok hT h hr ‹_›
  · exact evLoad_ok har hT h hr ‹_›
  · exact evStore_ok har hT h hr ‹_›
  · rename_i op t x y yt ho
    split at hr
    · exact evShr_ok har h hr ho
    · exact evBin_ok har h hT hr ho
  · exact evConv_ok har hT h hr ‹_›
  · exact evUn_ok har h hr ‹_›
  · exact evMakeFunc_ok h hr ‹_›
  · exact evFieldAddr_ok hT h hr ‹_›
  · exact evField_ok hT h hr ‹_›
  · exact evIndexAddr_ok har hT h hr ‹_›
  · exact evExtract_ok h hr ‹_›
  · exact evIndex_ok har hT h hr ‹_›
  · exact evSlice_ok har hT h hr ‹_›
  · exact evMakeMap_ok h hr ‹_›
  · exact evLookup_ok har hT h hr ‹_›
  · exact evMapUpdate_ok har hT h hr ‹_›
  · exact evRange_ok hT h hr ‹_›
  · exact evEntry_ok h hr ‹_›
  · rename_i c ho
    obtain ⟨cal, args, ats⟩ := c
    split at hr
    · rename_i x t h1 h2 h3
      simp only at h1 h2 h3
      have e2 : args = #[x] := by apply Array.ext'; simpa using h2
      have e3 : ats = #[t] := by apply Array.ext'; simpa using h3
      subst h1; subst e2; subst e3
      exact evLen_ok har hT h hr ho
    · rename_i x y t t' h1 h2 h3
      simp only at h1 h2 h3
      have e2 : args = #[x, y] := by apply Array.ext'; simpa using h2
      have e3 : ats = #[t, t'] := by apply Array.ext'; simpa using h3
      cases hb : Nat.beq t t' with
      | false => rw [hb] at hr; simp [AskR.run] at hr
      | true =>
        rw [hb] at hr
        have := Nat.eq_of_beq_eq_true hb
        subst h1; subst e2; subst e3; subst this
        exact evAppend_ok har hT h hr ho
    · rename_i x y h1 h2
      simp only at h1 h2
      have e2 : args = #[x, y] := by apply Array.ext'; simpa using h2
      subst h1; subst e2; subst har
      exact evMin_ok h hr ho
    · rename_i x y h1 h2
      simp only at h1 h2
      have e2 : args = #[x, y] := by apply Array.ext'; simpa using h2
      subst h1; subst e2; subst har
      exact evMax_ok h hr ho
    · simp [AskR.run] at hr
  · simp [AskR.run] at hr
theorem fenceW_about (ro : Option Nat) (o : Oper) (w : World) (a : Act) : ∀ f, o.about P w a.eval = some f → (FW ro).fn f := fun _ _ => trivial
theorem res_wpIn {ro : Option Nat} {n : Nat} {Q : Exit → Act → World → Prop} {K : Act → World → Prop} {L' : Lk} (hnd : ∀ c, o.op ≠ .defer c) (hres : Res P w0 im0 N D o a w L') (hK : ∀ a' w', Rel w0 im0 N D L' a' w' → K a' w') :
    o.wpIn (FW ro) n P a w K Q := by
  refine ⟨fenceW_about ro o w a, ?_⟩
  rw [Oper.semAt_eq _ _ _ hnd]
  obtain ⟨w', ⟨v, hr, hrel⟩ | ⟨hr, hrel⟩⟩ := hres
  · rw [hr]; exact hK _ _ hrel
  · rw [hr]; exact hK _ _ hrel
theorem evOp_defer {ar : Ar} {T : TypeId → Lay} {R : List Nat} {z : Deed} (hr : (evOp ar T N o).run L R = some z) : ∀ c, o.op ≠ .defer c := by
  intro c hc
  unfold evOp at hr
  rw [hc] at hr
  simp [AskR.run] at hr
def foldA {β : Type} (g : CV → (PV → AskR β) → AskR β) : List CV → List PV → (List PV → AskR β) → AskR β
  | [], acc, f => f acc.reverse
  | c :: r, acc, f => g c fun p => foldA g r (p :: acc) f
def frzC {β : Type} : Nat → CV → (PV → AskR β) → AskR β
  | 0, c, f => match c with
    | .p v => f v
    | _ => .fail
  | n + 1, c, f => match c with
    | .p v => f v
    | .row r => .get (kR r) fun c => match c with
      | .row _ k es => f (.list k es)
      | _ => .fail
    | .ptr k off => .get (kB k) fun c => match c with
      | .box _ cs => foldA (frzC n) (cs.drop off) [] fun ps => f (.ptr ps)
      | _ => .fail
    | .clo g ks => foldA (frzC n) (ks.map fun k => .ptr k 0) [] fun ps => f (.fn g [] ps)
    | .mp k => .get (kB k) fun c => match c with
      | .obj (.map ka va kz es) => f (.map ka va kz es)
      | _ => .fail
    | _ => .fail
def frzT {β : Type} (v : TV) (f : PV → AskR β) : AskR β := match v with
  | .c c => frzC 3 c f
  | .agg cs => foldA (frzC 3) cs [] fun ps => f (.agg ps)
def imAll (w0 : World) (im0 : Nat → Prop) (w : World) (b : Nat) : Prop := Plain w b ∧ (im0 b ∨ w0.heap.size ≤ b)
theorem imAll_of {b : Nat} (h : imOf w0.heap.size im0 bm rm L w b) : imAll w0 im0 w b := ⟨h.1, h.2.1⟩
theorem keeps_all : Keeps (imOf w0.heap.size im0 bm rm L w) w (imAll w0 im0 w) w := fun _ h => ⟨imAll_of h, rfl⟩
theorem foldA_ok {β : Type} {g : CV → (PV → AskR β) → AskR β}
    (hg : ∀ (c : CV) (u : Value) (f : PV → AskR β) (R : List Nat) (y : β × List Nat), RepV bm rm (imOf w0.heap.size im0 bm rm L w) w c u → (g c f).run L R = some y → ∃ p R', RepP (imAll w0 im0 w) w p u ∧ ((∃ v, c = .p v) → RepP (imOf w0.heap.size im0 bm rm L w) w p u) ∧ (f p).run L R' = some y) :
    ∀ (cs : List CV) (us : List Value) (acc : List PV) (f : List PV → AskR β) (R : List Nat) (y : β × List Nat), RepVs bm rm (imOf w0.heap.size im0 bm rm L w) w cs us → (foldA g cs acc f).run L R = some y →
      ∃ ps R', RepL (imAll w0 im0 w) w ps us ∧ ((∀ c ∈ cs, ∃ v, c = .p v) → RepL (imOf w0.heap.size im0 bm rm L w) w ps us) ∧ (f (acc.reverse ++ ps)).run L R' = some y
  | [], us, acc, f, R, y, hv, hr => ⟨[], R, hv, fun _ => hv, by simpa [foldA] using hr⟩
  | c :: cs, us, acc, f, R, y, hv, hr => by
    simp only [RepVs] at hv
    obtain ⟨x, xs, rfl, h1, h2⟩ := hv
    simp only [foldA] at hr
    obtain ⟨p, R1, hp, hp', hr⟩ := hg c x _ R y h1 hr
    obtain ⟨ps, R2, hps, hps', hr⟩ := foldA_ok hg cs xs (p :: acc) f R1 y h2 hr
    exact ⟨p :: ps, R2, ⟨x, xs, rfl, hp, hps⟩, fun hc => ⟨x, xs, rfl, hp' (hc c (by simp)), hps' fun d hd => hc d (by simp [hd])⟩, by simpa using hr⟩
theorem RepE.of_flat' {k : Nat} {es : List (List PV)} {b o' : Nat} {us : List Value} (hk : (∀ e ∈ es, e.length = k) ∧ ∀ u ∈ us, u.oneCell' = true) (hr : w.rangeAt b o' us) (hl : RepL im w es.flatten us) : RepE im w k es b o' := RepE.of_flat hk.1 hr hk.2 hl
theorem frzC_ok {β : Type} (h : RelAt w0 im0 N D bm rm L a w) : ∀ (n : Nat) (c : CV) (u : Value) (f : PV → AskR β) (R : List Nat) (y : β × List Nat), RepV bm rm (imOf w0.heap.size im0 bm rm L w) w c u → (frzC n c f).run L R = some y →
    ∃ p R', RepP (imAll w0 im0 w) w p u ∧ ((∃ v, c = .p v) → RepP (imOf w0.heap.size im0 bm rm L w) w p u) ∧ (f p).run L R' = some y
  | 0, c, u, f, R, y, hv, hr => by
    simp only [frzC] at hr
    split at hr
    · exact ⟨_, R, RepP.keep keeps_all _ _ hv, fun _ => hv, hr⟩
    · simp [AskR.run] at hr
  | n + 1, c, u, f, R, y, hv, hr => by
    simp only [frzC] at hr
    split at hr
    · exact ⟨_, R, RepP.keep keeps_all _ _ hv, fun _ => hv, hr⟩
    · rename_i r
      simp only [AskR.run] at hr
      split at hr
      · rename_i e k es hc
        obtain ⟨hx, _⟩ : u = rm r ∧ _ := hv
        obtain ⟨xs, hown, hl, hk⟩ := h.rows r e k es hc
        refine ⟨_, _, ?_, (by rintro ⟨v, hv⟩; cases hv), hr⟩
        simp only [RepP]
        rcases hown.2 with ⟨hv, h0⟩ | ⟨g, cap, cur, hv, hbg, hgg, hcap, hm, _, _⟩
        · exact ⟨none, 0, 0, by rw [hx, hv], h0.symm, by simp, by simp, .inl (List.eq_nil_of_length_eq_zero h0)⟩
        · refine ⟨_, _, cap, by rw [hx, hv], rfl, hcap, hm, .inr ⟨g, 0, rfl, ⟨plain_of hgg rfl, .inr hbg⟩, ?_⟩⟩
          refine RepE.of_flat' hk (fun j v hv' => ?_) (RepL.keep keeps_all _ _ hl)
          have := hown.cells (g := g) (by rw [hv]; rfl) j v hv'
          rwa [Addr.add_mid] at this
      · simp [AskR.run] at hr
    · rename_i k off
      simp only [AskR.run] at hr
      split at hr
      · rename_i ty cs hc
        have hx : u = .pointer (some ⟨bm k, off, none⟩) := hv
        obtain ⟨us, hus, hrep, hn⟩ := h.boxes k ty cs hc
        obtain ⟨ps, R', hps, _, hr⟩ := foldA_ok (fun c u f R y => frzC_ok h n c u f R y) (cs.drop off) (us.drop off) [] _ _ y (hrep.drop off) hr
        refine ⟨_, R', ?_, (by rintro ⟨v, hv⟩; cases hv), by simpa using hr⟩
        simp only [RepP]
        refine ⟨bm k, off, us.drop off, hx, ⟨plain_of hus rfl, .inr hn⟩, ?_, by simpa using hps⟩
        have := rangeAt_drop (n := off) (rangeAt_row hus)
        rwa [Nat.zero_add] at this
      · simp [AskR.run] at hr
    · rename_i g ks
      have hx : u = .func g #[] (ks.map fun k => Value.pointer (some ⟨bm k, 0, none⟩)).toArray := hv
      have hvs : ∀ ks : List Nat, RepVs bm rm (imOf w0.heap.size im0 bm rm L w) w (ks.map fun k => CV.ptr k 0) (ks.map fun k => Value.pointer (some ⟨bm k, 0, none⟩)) := fun ks => by
        induction ks with
        | nil => simp [RepVs]
        | cons k ks ih => exact ⟨_, _, rfl, rfl, ih⟩
      obtain ⟨ps, R', hps, _, hr⟩ := foldA_ok (fun c u f R y => frzC_ok h n c u f R y) _ _ [] _ _ y (hvs ks) hr
      refine ⟨_, R', ?_, (by rintro ⟨v, hv⟩; cases hv), hr⟩
      simp only [RepP]
      exact ⟨[], _, hx, by simp [RepL], by simpa using hps⟩
    · rename_i k
      simp only [AskR.run] at hr
      split at hr
      · rename_i ka va kz es hc
        have hx : u = .map (some (bm k)) := hv
        obtain ⟨O, hO, hrep, hn⟩ := h.objs k _ hc
        obtain ⟨ms, clock, rfl, hok, hm⟩ := hrep
        refine ⟨_, _, ?_, (by rintro ⟨v, hv⟩; cases hv), hr⟩
        simp only [RepP]
        exact ⟨bm k, ms, clock, hx, ⟨plain_of hO rfl, .inr hn⟩, hO, hok, RepM.keep keeps_all _ _ _ _ _ hm⟩
      · simp [AskR.run] at hr
    · simp [AskR.run] at hr
def CV.isP : CV → Bool
  | .p _ => true
  | _ => false
def pureT : TV → Bool
  | .c c => c.isP
  | .agg cs => cs.all CV.isP
theorem isP_ex {c : CV} (h : c.isP = true) : ∃ v, c = .p v := by cases c <;> first | exact ⟨_, rfl⟩ | cases h
theorem frzT_ok {β : Type} (h : RelAt w0 im0 N D bm rm L a w) {v : TV} {u : Value} {f : PV → AskR β} {R : List Nat} {y : β × List Nat} (hv : RepT bm rm (imOf w0.heap.size im0 bm rm L w) w v u) (hr : (frzT v f).run L R = some y) :
    ∃ p R', RepP (imAll w0 im0 w) w p u ∧ (pureT v = true → RepP (imOf w0.heap.size im0 bm rm L w) w p u) ∧ (f p).run L R' = some y := by
  cases v with
  | c c =>
    obtain ⟨p, R', h1, h2, h3⟩ := frzC_ok h 3 c u f R y hv hr
    exact ⟨p, R', h1, fun hp => h2 (isP_ex hp), h3⟩
  | agg cs =>
    obtain ⟨us, rfl, hv⟩ := hv
    simp only [frzT] at hr
    obtain ⟨ps, R', hps, hps', hr⟩ := foldA_ok (fun c u f R y => frzC_ok h 3 c u f R y) cs us [] _ R y hv hr
    refine ⟨.agg ps, R', by simp only [RepP]; exact ⟨us, rfl, hps⟩, fun hp => ?_, by simpa using hr⟩
    simp only [RepP]
    simp only [pureT, List.all_eq_true] at hp
    exact ⟨us, rfl, hps' fun c hc => isP_ex (hp c hc)⟩
def flatP : Nat → PV → Bool
  | 0, _ => false
  | n + 1, p => match p with
    | .int _ _ | .bool _ | .str _ | .nil | .nilp | .nilf => true
    | .agg cs => cs.all (flatP n)
    | .tup cs => cs.all (flatP n)
    | _ => false
theorem flatL {im im' : Nat → Prop} {w w' : World} {g : PV → Bool} (hg : ∀ p u, g p = true → RepP im w p u → RepP im' w' p u) : ∀ {ps : List PV} {us : List Value}, ps.all g = true → RepL im w ps us → RepL im' w' ps us
  | [], _, _, h => h
  | p :: ps, us, ha, h => by
    simp only [List.all_cons, Bool.and_eq_true] at ha
    simp only [RepL] at h ⊢
    obtain ⟨x, xs, rfl, h1, h2⟩ := h
    exact ⟨x, xs, rfl, hg p x ha.1 h1, flatL hg ha.2 h2⟩
theorem flatP_rep {im im' : Nat → Prop} {w w' : World} : ∀ (n : Nat) (p : PV) (u : Value), flatP n p = true → RepP im w p u → RepP im' w' p u
  | 0, _, _, h, _ => by simp [flatP] at h
  | n + 1, p, u, h, hr => by
    unfold flatP at h
    split at h <;> first | exact hr | skip
    · simp only [RepP] at hr ⊢
      obtain ⟨us, rfl, hr⟩ := hr
      exact ⟨us, rfl, flatL (flatP_rep n) h hr⟩
    · simp only [RepP] at hr ⊢
      obtain ⟨us, rfl, hr⟩ := hr
      exact ⟨us, rfl, flatL (flatP_rep n) h hr⟩
    · cases h
def Does (P : Program) (f : FuncId) (args : List PV) (v : PV) : Prop :=
  (∀ us w, (callFunc f us).run P w = .ok (.enter f us) w) ∧
  ∀ (w : World) (im : Nat → Prop) (us : List Value), (∀ b, im b → Plain w b) → RepL im w args us →
    Calls P f us.toArray w fun e w' => ∃ u, e = .returned u ∧ RepP (fun b => im b ∨ (w.heap.size ≤ b ∧ Plain w' b)) w' v u ∧ Below w.heap.size w w'
def DoesF (P : Program) (f : FuncId) (args : List PV) (v : PV) : Prop :=
  (∀ us w, (callFunc f us).run P w = .ok (.enter f us) w) ∧
  ∀ (w : World) (im : Nat → Prop) (us : List Value), (∀ b, im b → Plain w b) → RepL im w args us →
    Calls P f us.toArray w fun e w' => ∃ u, e = .returned u ∧ RepP (fun b => w.heap.size ≤ b ∧ Plain w' b) w' v u ∧ Below w.heap.size w w'
def DoesC (P : Program) (f : FuncId) (e : TypeId) (k : Nat) (es : List (List PV)) (args : List PV) (v : PV) : Prop :=
  (∀ us w, (callFunc f us).run P w = .ok (.enter f us) w) ∧
  ∀ (w : World) (im imA : Nat → Prop) (base : Nat) (x : Value) (xs us : List Value), (∀ b, im b → Plain w b) → (∀ b, imA b → Plain w b) → base ≤ w.heap.size → w.ownsRow base e k x es.length xs →
    RepL im w es.flatten xs → ((∀ y ∈ es, y.length = k) ∧ ∀ u ∈ xs, u.oneCell' = true) → (∀ g, x.ownBlock = some g → ¬ im g ∧ ¬ imA g) → RepL imA w args us →
    Calls P f (x :: us).toArray w fun e' w' => ∃ u, e' = .returned u ∧ RepP (fun b => im b ∨ ((x.ownBlock = some b ∨ w.heap.size ≤ b) ∧ Plain w' b)) w' v u ∧ w.grownBy w' x.ownBlock
def DoesW (P : Program) (f : FuncId) (e : TypeId) (k : Nat) (es es' : List (List PV)) (args : List PV) : Prop :=
  (∀ us w, (callFunc f us).run P w = .ok (.enter f us) w) ∧
  ∀ (w : World) (im imA : Nat → Prop) (base : Nat) (x : Value) (xs us : List Value), (∀ b, im b → Plain w b) → (∀ b, imA b → Plain w b) → base ≤ w.heap.size → w.ownsRow base e k x es.length xs →
    RepL im w es.flatten xs → ((∀ y ∈ es, y.length = k) ∧ ∀ u ∈ xs, u.oneCell' = true) → (∀ g, x.ownBlock = some g → ¬ im g ∧ ¬ imA g) → RepL imA w args us →
    Calls P f (x :: us).toArray w fun e' w' => ∃ u xs', e' = .returned u ∧ w'.ownsRow base e k x es'.length xs' ∧ RepL im w es'.flatten xs' ∧ ((∀ y ∈ es', y.length = k) ∧ ∀ u ∈ xs', u.oneCell' = true) ∧ w.grownBy w' x.ownBlock
def DoesO (P : Program) (f : FuncId) (args : List PV) (b : Bool) (rs : List RowT) : Prop :=
  (∀ us w, (callFunc f us).run P w = .ok (.enter f us) w) ∧
  ∀ (w : World) (im : Nat → Prop) (us : List Value), (∀ b, im b → Plain w b) → RepL im w args us →
    Calls P f us.toArray w fun e w' => ∃ u vs, e = .returned u ∧ (bif b then u = .agg vs.toArray else vs = [u]) ∧ RepN w.heap.size w' rs vs ∧ Below w.heap.size w w'
def Can (P : Program) (f : FuncId) (args : List PV) (v : PV) : Prop := match args with
  | .own e k es :: r => match v with
    | .own e' k' es' => e' = e ∧ k' = k ∧ DoesW P f e k es es' r
    | _ => DoesC P f e k es r v
  | .mark :: r => match ownV v with
    | some (b, rs) => DoesO P f r b rs
    | none => DoesF P f r v
  | _ => Does P f args v
theorem can_does {f : FuncId} {args : List PV} {v : PV} {im : Nat → Prop} {w : World} {us : List Value} (h : Can P f args v) (hr : RepL im w args us) : Does P f args v := by
  unfold Can at h
  split at h
  · obtain ⟨x, xs, _, h1, _⟩ : ∃ x xs, us = x :: xs ∧ RepP im w (.own _ _ _) x ∧ _ := by simpa only [RepL] using hr
    simp only [RepP] at h1
  · obtain ⟨x, xs, _, h1, _⟩ : ∃ x xs, us = x :: xs ∧ RepP im w .mark x ∧ _ := by simpa only [RepL] using hr
    simp only [RepP] at h1
  · exact h
def boxP {β : Type} : List Nat → List PV → (List PV → AskR β) → AskR β
  | [], acc, f => f acc.reverse
  | k :: ks, acc, f => .get (kB k) fun c => match c with
    | .box _ cs => match asPs cs with
      | some ps => boxP ks (.ptr ps :: acc) f
      | none => .fail
    | _ => .fail
def otherB (q : Option Nat) (t : Nat) : Bool := match q with
  | some q => !Nat.beq q t
  | none => true
def simT {β : Type} (q : Option Nat) (v : TV) (f : PV → AskR β) : AskR β := match v with
  | .c (.p p) => f p
  | .c (.row t) => bif otherB q t then .get (kR t) fun c => (match c with
    | .row _ k es => f (.list k es)
    | _ => .fail) else .fail
  | .c (.clo g ks) => boxP ks [] fun ps => f (.fn g [] ps)
  | .agg cs => match asPs cs with
    | some ps => f (.agg ps)
    | none => .fail
  | _ => .fail
def simArgs {β : Type} (q : Option Nat) : List Operand → List PV → (List PV → AskR β) → AskR β
  | [], acc, f => f acc.reverse
  | x :: r, acc, f => opd x fun v => simT q v fun p => simArgs q r (p :: acc) f
structure CallS where
  f : FuncId
  args : List PV
  eat : List (Nat × Cont)
def memF (f : FuncId) : List FuncId → Bool
  | [] => false
  | g :: r => Nat.beq f g || memF f r
def callS (sp : List FuncId) (o : Oper) : AskR CallS := match o.op with
  | .call c => match c.callee, c.args.toList with
    | .value x, y :: r => opd x fun fv => match fv with
      | .c (.p (.fn (.func g) [] [])) => bif memF g sp then (opd y fun v => match v with
        | .c (.row q) => .get (kR q) fun cc => match cc with
          | .row e k es => simArgs (some q) r [] fun ps => .done ⟨g, .own e k es :: ps, [(kR q, .dead)]⟩
          | _ => .fail
        | _ => simArgs none (y :: r) [] fun ps => .done ⟨g, .mark :: ps, []⟩) else .fail
      | _ => .fail
    | _, _ => .fail
  | _ => .fail
def imBox (q : Option Nat) (w0 : World) (im0 : Nat → Prop) (bm : Nat → Nat) (rm : Nat → Value) (L : Lk) (w : World) (b : Nat) : Prop := imOf w0.heap.size im0 bm rm L w b ∨ (∃ k ty cs, L (kB k) = .box ty cs ∧ bm k = b) ∨ ∃ t, isRow L t ∧ otherB q t = true ∧ (rm t).ownBlock = some b
theorem keeps_box {q : Option Nat} : Keeps (imOf w0.heap.size im0 bm rm L w) w (imBox q w0 im0 bm rm L w) w := fun _ h => ⟨.inl h, rfl⟩
theorem boxP_ok {β : Type} (q : Option Nat) (h : RelAt w0 im0 N D bm rm L a w) : ∀ (ks : List Nat) (acc : List PV) (f : List PV → AskR β) (R : List Nat) (y : β × List Nat), (boxP ks acc f).run L R = some y →
    ∃ ps R', RepL (imBox q w0 im0 bm rm L w) w ps (ks.map fun k => Value.pointer (some ⟨bm k, 0, none⟩)) ∧ (f (acc.reverse ++ ps)).run L R' = some y
  | [], acc, f, R, y, hr => ⟨[], R, rfl, by simpa [boxP] using hr⟩
  | k :: ks, acc, f, R, y, hr => by
    simp only [boxP, AskR.run] at hr
    split at hr
    · rename_i ty cs hc
      split at hr
      · rename_i ps hps
        have := asPs_get hps
        subst this
        obtain ⟨us, hus, hrep, hn⟩ := h.boxes k ty _ hc
        obtain ⟨qs, R', hq, hr⟩ := boxP_ok q h ks (.ptr ps :: acc) f _ y hr
        refine ⟨.ptr ps :: qs, R', ⟨_, _, rfl, ?_, hq⟩, by simpa using hr⟩
        simp only [RepP]
        exact ⟨bm k, 0, us, rfl, .inr (.inl ⟨k, ty, _, hc, rfl⟩), rangeAt_row hus, RepL.keep keeps_box _ _ (pure_back hrep)⟩
      · simp [AskR.run] at hr
    · simp [AskR.run] at hr
theorem simT_ok {β : Type} {q : Option Nat} (h : RelAt w0 im0 N D bm rm L a w) {v : TV} {u : Value} {f : PV → AskR β} {R : List Nat} {y : β × List Nat} (hv : RepT bm rm (imOf w0.heap.size im0 bm rm L w) w v u) (hr : (simT q v f).run L R = some y) :
    ∃ p R', RepP (imBox q w0 im0 bm rm L w) w p u ∧ (f p).run L R' = some y := by
  unfold simT at hr
  split at hr
  · exact ⟨_, R, RepP.keep keeps_box _ _ hv, hr⟩
  · rename_i t
    cases hot : otherB q t with
    | false => rw [hot] at hr; simp [AskR.run] at hr
    | true =>
      rw [hot] at hr
      simp only [cond_true, AskR.run] at hr
      split at hr
      · rename_i e k es hc
        obtain ⟨hx, _⟩ : u = rm t ∧ _ := hv
        obtain ⟨xs, hown, hl, hk⟩ := h.rows t e k es hc
        refine ⟨_, _, ?_, hr⟩
        simp only [RepP]
        rcases hown.2 with ⟨hv, h0⟩ | ⟨g, cap, cur, hv, hbg, hgg, hcap, hm, _, _⟩
        · exact ⟨none, 0, 0, by rw [hx, hv], h0.symm, by simp, by simp, .inl (List.eq_nil_of_length_eq_zero h0)⟩
        · refine ⟨_, _, cap, by rw [hx, hv], rfl, hcap, hm, .inr ⟨g, 0, rfl, .inr (.inr ⟨t, ⟨e, k, es, hc⟩, hot, by rw [hv]; rfl⟩), ?_⟩⟩
          refine RepE.of_flat' hk (fun j v hv' => ?_) (RepL.keep keeps_box _ _ hl)
          have := hown.cells (g := g) (by rw [hv]; rfl) j v hv'
          rwa [Addr.add_mid] at this
      · simp [AskR.run] at hr
  · rename_i g ks
    have hx : u = .func g #[] (ks.map fun k => Value.pointer (some ⟨bm k, 0, none⟩)).toArray := hv
    obtain ⟨ps, R', hp, hr⟩ := boxP_ok q h ks [] _ R y hr
    refine ⟨_, R', ?_, hr⟩
    simp only [RepP]
    exact ⟨[], _, hx, by simp [RepL], by simpa using hp⟩
  · split at hr
    · rename_i ps hps
      have := asPs_get hps
      subst this
      obtain ⟨us, rfl, hrep⟩ := hv
      refine ⟨_, R, ?_, hr⟩
      simp only [RepP]
      exact ⟨us, rfl, RepL.keep keeps_box _ _ (pure_back hrep)⟩
    · simp [AskR.run] at hr
  · simp [AskR.run] at hr
theorem simArgs_ok {β : Type} (q : Option Nat) (h : RelAt w0 im0 N D bm rm L a w) : ∀ (xs : List Operand) (acc : List PV) (f : List PV → AskR β) (R : List Nat) (y : β × List Nat), (simArgs q xs acc f).run L R = some y →
    ∃ ps R', RepL (imBox q w0 im0 bm rm L w) w ps (xs.map a.eval) ∧ (f (acc.reverse ++ ps)).run L R' = some y
  | [], acc, f, R, y, hr => ⟨[], R, rfl, by simpa [simArgs] using hr⟩
  | x :: xs, acc, f, R, y, hr => by
    simp only [simArgs] at hr
    obtain ⟨v, R1, hv, hr⟩ := opd_inv h hr
    obtain ⟨p, R2, hp, hr⟩ := simT_ok h hv.rep hr
    obtain ⟨ps, R3, hps, hr⟩ := simArgs_ok q h xs (p :: acc) f R2 y hr
    exact ⟨p :: ps, R3, ⟨_, _, rfl, hp, hps⟩, by simpa using hr⟩
theorem imBox_plain {q : Option Nat} (h : RelAt w0 im0 N D bm rm L a w) {b : Nat} (hb : imBox q w0 im0 bm rm L w b) : Plain w b := by
  rcases hb with hb | ⟨k, ty, cs, hc, rfl⟩ | ⟨t, ⟨e, k, es, hc⟩, _, ht⟩
  · exact hb.1
  · obtain ⟨us, hus, _⟩ := h.boxes k ty cs hc
    exact plain_of hus rfl
  · obtain ⟨xs, hown, _⟩ := h.rows t e k es hc
    exact ⟨(hown.lt b ht).2, owns_not_mach hown ht⟩
theorem callS_ok (h : RelAt w0 im0 N D bm rm L a w) {sp : List FuncId} {R : List Nat} {c : CallS} {R' : List Nat} (hr : (callS sp o).run L R = some (c, R')) :
    (∀ d, o.op ≠ .defer d) ∧ ∃ us : List Value, ((∀ us w, (callFunc c.f us).run P w = .ok (.enter c.f us) w) → (execOp a.eval o).run P w = .ok (.enter c.f us.toArray) w) ∧
      ((∃ args, c.args = .mark :: args ∧ c.eat = [] ∧ RepL (imBox none w0 im0 bm rm L w) w args us) ∨
       ∃ q e k es args us', c.args = .own e k es :: args ∧ c.eat = [(kR q, .dead)] ∧ L (kR q) = .row e k es ∧ us = rm q :: us' ∧ RepL (imBox (some q) w0 im0 bm rm L w) w args us') := by
  unfold callS at hr
  split at hr
  · rename_i cl ho
    split at hr
    · rename_i x y r hcal hargs
      refine ⟨by rw [ho]; simp, ?_⟩
      replace hr := opd_inv h hr
      obtain ⟨fv, R1, hfv, hr⟩ := hr
      split at hr
      · rename_i g
        have hx : a.eval x = .func (.func g) #[] #[] := by
          obtain ⟨av, cs, hx, ha, hc⟩ : ∃ av cs' : List Value, a.eval x = .func (.func g) av.toArray cs'.toArray ∧ RepL _ w [] av ∧ RepL _ w [] cs' := by have := hfv.rep; simpa only [RepT, RepV, RepP] using this
          simp only [RepL] at ha hc
          subst ha; subst hc
          exact hx
        have enter : ∀ us : List Value, us = cl.args.toList.map a.eval → (∀ us w, (callFunc g us).run P w = .ok (.enter g us) w) → (execOp a.eval o).run P w = .ok (.enter g us.toArray) w := fun us hus hen => by
          obtain ⟨cal, args, ats⟩ := cl
          simp only at hcal hus
          subst hcal
          simp only [execOp, ho, resolve, Deferred.ofValue, hx, Sem.run_bind, Sem.run_pure, Result.andThen_ok, invoke]
          have e9 : us.toArray = args.map a.eval := by subst hus; apply Array.ext'; simp
          rw [e9, Array.empty_append, Array.append_empty]
          exact hen _ w
        cases hm : memF g sp with
        | false => rw [hm] at hr; simp [AskR.run] at hr
        | true =>
          rw [hm] at hr
          simp only [cond_true] at hr
          replace hr := opd_inv h hr
          obtain ⟨v, R2, hv, hr⟩ := hr
          split at hr
          · rename_i q
            simp only [AskR.run] at hr
            split at hr
            · rename_i e k es hc
              obtain ⟨ps, R3, hps, hr⟩ := simArgs_ok (some q) h r [] _ _ _ hr
              simp only [AskR.run, Option.some.injEq, Prod.mk.injEq, List.reverse_nil, List.nil_append] at hr
              obtain ⟨rfl, _⟩ := hr
              obtain ⟨hq, _⟩ : a.eval y = rm q ∧ _ := hv.rep
              refine ⟨rm q :: r.map a.eval, enter _ (by rw [hargs]; simp [hq]), .inr ⟨q, e, k, es, ps, _, rfl, rfl, hc, rfl, hps⟩⟩
            · simp [AskR.run] at hr
          · obtain ⟨ps, R3, hps, hr⟩ := simArgs_ok none h (y :: r) [] _ _ _ hr
            simp only [AskR.run, Option.some.injEq, Prod.mk.injEq, List.reverse_nil, List.nil_append] at hr
            obtain ⟨rfl, _⟩ := hr
            exact ⟨(y :: r).map a.eval, enter _ (by rw [hargs]), .inl ⟨ps, rfl, rfl, hps⟩⟩
      · simp [AskR.run] at hr
    · simp [AskR.run] at hr
  · simp [AskR.run] at hr
theorem RelAt.eat (h : RelAt w0 im0 N D bm rm L a w) {r : Nat} {e : TypeId} {k : Nat} {es : List (List PV)} {w' : World} (hr : L (kR r) = .row e k es) (hg : w.grownBy w' (rm r).ownBlock) :
    RelAt w0 im0 N D bm rm (ovr [(kR r, .dead)] L) a w' ∧ (∀ b, imOf w0.heap.size im0 bm rm L w b → imOf w0.heap.size im0 bm rm (ovr [(kR r, .dead)] L) w' b) ∧
      (∀ b, (rm r).ownBlock = some b → Plain w' b → imOf w0.heap.size im0 bm rm (ovr [(kR r, .dead)] L) w' b) ∧ (∀ b, w.heap.size ≤ b → Plain w' b → imOf w0.heap.size im0 bm rm (ovr [(kR r, .dead)] L) w' b) := by
  have hir : isRow L r := ⟨e, k, es, hr⟩
  have iB : ∀ k, isBox (ovr [(kR r, .dead)] L) k = isBox L k := fun k => by simp only [isBox, ovrR_B]
  have iR : ∀ k, isRow (ovr [(kR r, .dead)] L) k → isRow L k ∧ k ≠ r := fun k ⟨e, q, es, he⟩ => by
    rw [ovrR_R] at he
    split at he
    · cases he
    · rename_i hne; exact ⟨⟨e, q, es, he⟩, Ne.symm hne⟩
  obtain ⟨xs0, hown0, _, _⟩ := h.rows r e k es hr
  have hblk : ∀ b, b < w.heap.size → (rm r).ownBlock ≠ some b → w'.heap[b]? = w.heap[b]? := fun b hb hne => hg.block b hb (fun e => hne e.symm)
  have hk : Keeps (imOf w0.heap.size im0 bm rm L w) w (imOf w0.heap.size im0 bm rm (ovr [(kR r, .dead)] L) w') w' := fun b hb => by
    have e := hblk b hb.1.1 (hb.2.2.2 r hir)
    exact ⟨⟨hb.1.keep hg.size e, hb.2.1, fun k hk => hb.2.2.1 k (by rw [iB] at hk; exact hk), fun t' ht => hb.2.2.2 t' (iR t' ht).1⟩, e⟩
  have hbase : Below w0.heap.size w0 w' := ⟨hg.os.trans h.base.os, hg.tape.trans h.base.tape, hg.output.trans h.base.output, Nat.le_trans h.base.size hg.size, fun b hb => by
    rw [hblk b (Nat.lt_of_lt_of_le hb h.base.size) (fun e => by have := (hown0.lt b e).1; omega)]; exact h.base.block b hb⟩
  refine ⟨⟨hbase, h.size, h.defs.keep (by first | exact Nat.le_refl _ | exact hg.size | exact hbel.size | exact hw.size | exact hs | (simp; done) | omega) hk (fun b hb => hblk b (mach_lt hb) (fun e => by rw [owns_not_mach hown0 e] at hb; cases hb)), fun d' v' hv' => ?_, fun k' ty' cs' hc => ?_, fun k' o hc => ?_, fun t e' k' es' ht => ?_, fun k1 k2 => by rw [iB, iB]; exact h.bb k1 k2, fun k' t hk' ht => h.br k' t (by rw [iB] at hk'; exact hk') (iR t ht).1, fun t t' g ht ht' => h.rr t t' g (iR t ht).1 (iR t' ht').1, fun i k' hk' => ?_, fun i t ht => ?_⟩, fun b hb => (hk b hb).1, fun b hb hp => ?_, fun b hb hp => ?_⟩
  · rw [ovrR_T] at hv'
    exact (h.slots d' v' hv').keep hk (fun _ _ => rfl) (fun _ _ => rfl)
  · rw [ovrR_B] at hc
    obtain ⟨us, hu, hr', hn'⟩ := h.boxes k' ty' cs' hc
    exact ⟨us, by rw [hblk _ (h.boxlt (.inl ⟨ty', cs', hc⟩)) (h.br k' r (.inl ⟨ty', cs', hc⟩) hir)]; exact hu, hr'.keep hk (fun _ _ => rfl) (fun _ _ => rfl), hn'⟩
  · rw [ovrR_B] at hc
    obtain ⟨O, hu, hr', hn'⟩ := h.objs k' o hc
    exact ⟨O, by rw [hblk _ (h.boxlt (.inr ⟨o, hc⟩)) (h.br k' r (.inr ⟨o, hc⟩) hir)]; exact hu, hr'.keep hk, hn'⟩
  · rw [ovrR_R] at ht
    split at ht
    · cases ht
    · rename_i hne
      obtain ⟨xs, hx, hl, hr'⟩ := h.rows t e' k' es' ht
      refine ⟨xs, hx.kept hg ?_, hl.keep hk, hr'⟩
      cases ho : (rm t).ownBlock with
      | none => exact .inl rfl
      | some g => exact .inr fun e => hne (h.rr t r g ⟨e', k', es', ht⟩ hir ho e.symm).symm
  · rw [ovrR_B]
    rw [ovr_one] at hk'
    split at hk'
    · simp [Cont.boxes] at hk'
    · exact h.wfb i k' hk'
  · rw [ovrR_R]
    split
    · simp
    · rw [ovr_one] at ht
      split at ht
      · simp [Cont.rows] at ht
      · exact h.wfr i t ht
  · exact ⟨hp, .inr (hown0.lt b hb).1, fun k' hk' he => h.br k' r (by rw [iB] at hk'; exact hk') hir (by rw [hb, he]), fun t ht he => (iR t ht).2 (h.rr t r b (iR t ht).1 hir he hb)⟩
  · refine ⟨hp, .inr (Nat.le_trans h.base.size hb), fun k' hk' he => ?_, fun t ht he => ?_⟩
    · have := h.boxlt (by rw [iB] at hk'; exact hk'); omega
    · have := h.rowlt (iR t ht).1 he; omega
def frzArgs {β : Type} : List Operand → List PV → Bool → (List PV → Bool → AskR β) → AskR β
  | [], acc, b, f => f acc.reverse b
  | x :: r, acc, b, f => opd x fun v => frzT v fun p => frzArgs r (p :: acc) (b && pureT v) f
structure CallTo where
  f : FuncId
  args : List PV
  pure : Bool
def callA (o : Oper) : AskR CallTo := match o.op with
  | .call c => match c.callee with
    | .value x => opd x fun fv => frzArgs c.args.toList [] true fun ps b => match fv with
      | .c (.p (.fn (.func g) fa cs)) => .done ⟨g, fa ++ (ps ++ cs), b⟩
      | .c (.clo (.func g) ks) => foldA (frzC 3) (ks.map fun k => CV.ptr k 0) [] fun qs => .done ⟨g, ps ++ qs, false⟩
      | _ => .fail
    | _ => .fail
  | _ => .fail
theorem RepL.append_one {im : Nat → Prop} {w : World} : ∀ {ps : List PV} {us : List Value} {p : PV} {u : Value}, RepL im w ps us → RepP im w p u → RepL im w (ps ++ [p]) (us ++ [u])
  | _, _, p, u, h, k => h.append ⟨u, [], rfl, k, rfl⟩
theorem frzArgs_ok {β : Type} (h : RelAt w0 im0 N D bm rm L a w) : ∀ (xs : List Operand) (acc : List PV) (us : List Value) (b : Bool) (f : List PV → Bool → AskR β) (R : List Nat) (y : β × List Nat), (frzArgs xs acc b f).run L R = some y →
    RepL (imAll w0 im0 w) w acc.reverse us → (b = true → RepL (imOf w0.heap.size im0 bm rm L w) w acc.reverse us) →
    ∃ ps b' R', RepL (imAll w0 im0 w) w ps (us ++ xs.map a.eval) ∧ (b' = true → RepL (imOf w0.heap.size im0 bm rm L w) w ps (us ++ xs.map a.eval)) ∧ (f ps b').run L R' = some y
  | [], acc, us, b, f, R, y, hr, h1, h2 => ⟨acc.reverse, b, R, by simpa using h1, by simpa using h2, hr⟩
  | x :: xs, acc, us, b, f, R, y, hr, h1, h2 => by
    simp only [frzArgs] at hr
    obtain ⟨v, R1, hv, hr⟩ := opd_inv h hr
    obtain ⟨p, R2, hp, hp', hr⟩ := frzT_ok h hv.rep hr
    obtain ⟨ps, b', R3, k1, k2, k3⟩ := frzArgs_ok h xs (p :: acc) (us ++ [a.eval x]) (b && pureT v) f R2 y hr (by simpa using h1.append_one hp)
      (fun hb => by
        simp only [Bool.and_eq_true] at hb
        simpa using (h2 hb.1).append_one (hp' hb.2))
    exact ⟨ps, b', R3, by simpa using k1, by simpa using k2, k3⟩
theorem callA_ok (h : RelAt w0 im0 N D bm rm L a w) {R : List Nat} {c : CallTo} {R' : List Nat} (hr : (callA o).run L R = some (c, R')) :
    ∃ us : List Value, RepL (imAll w0 im0 w) w c.args us ∧ (c.pure = true → RepL (imOf w0.heap.size im0 bm rm L w) w c.args us) ∧ (∀ d, o.op ≠ .defer d) ∧
      ((∀ us w, (callFunc c.f us).run P w = .ok (.enter c.f us) w) → (execOp a.eval o).run P w = .ok (.enter c.f us.toArray) w) := by
  unfold callA at hr
  split at hr
  · rename_i cl ho
    split at hr
    · rename_i x hcal
      replace hr := opd_inv h hr
      obtain ⟨fv, R1, hfv, hr⟩ := hr
      replace hr := frzArgs_ok h cl.args.toList [] [] true _ R1 _ hr (by simp [RepL]) (fun _ => by simp [RepL])
      obtain ⟨ps, b, R2, k1, k2, hr⟩ := hr
      simp only [List.nil_append] at k1 k2
      split at hr
      · rename_i g fa cs
        obtain ⟨av, cc, hx, ha, hc⟩ : ∃ av cs' : List Value, a.eval x = .func (.func g) av.toArray cs'.toArray ∧ RepL _ w fa av ∧ RepL _ w cs cs' := by have := hfv.rep; simpa only [RepT, RepV, RepP] using this
        simp only [AskR.run, Option.some.injEq, Prod.mk.injEq] at hr
        obtain ⟨rfl, _⟩ := hr
        refine ⟨av ++ (cl.args.toList.map a.eval ++ cc), (RepL.keep keeps_all _ _ ha).append (k1.append (RepL.keep keeps_all _ _ hc)), fun hb => ha.append ((k2 hb).append hc), by rw [ho]; simp, fun hen => ?_⟩
        obtain ⟨cal, args, ats⟩ := cl
        simp only at hcal
        subst hcal
        simp only [execOp, ho, resolve, Deferred.ofValue, hx, Sem.run_bind, Sem.run_pure, Result.andThen_ok, invoke]
        have e9 : (av ++ (args.toList.map a.eval ++ cc)).toArray = av.toArray ++ args.map a.eval ++ cc.toArray := by apply Array.ext'; simp
        rw [e9]
        exact hen _ w
      · rename_i g ks
        have hx : a.eval x = .func (.func g) #[] (ks.map fun k => Value.pointer (some ⟨bm k, 0, none⟩)).toArray := hfv.rep
        have hvs : ∀ ks : List Nat, RepVs bm rm (imOf w0.heap.size im0 bm rm L w) w (ks.map fun k => CV.ptr k 0) (ks.map fun k => Value.pointer (some ⟨bm k, 0, none⟩)) := fun ks => by
          induction ks with
          | nil => simp [RepVs]
          | cons k ks ih => exact ⟨_, _, rfl, rfl, ih⟩
        obtain ⟨qs, R3, hq, _, hr⟩ := foldA_ok (fun c u f R y => frzC_ok h 3 c u f R y) _ _ [] _ _ _ (hvs ks) hr
        simp only [AskR.run, Option.some.injEq, Prod.mk.injEq, List.reverse_nil, List.nil_append] at hr
        obtain ⟨rfl, _⟩ := hr
        refine ⟨cl.args.toList.map a.eval ++ ks.map fun k => Value.pointer (some ⟨bm k, 0, none⟩), k1.append hq, (fun hb => by cases hb), by rw [ho]; simp, fun hen => ?_⟩
        obtain ⟨cal, args, ats⟩ := cl
        simp only at hcal
        subst hcal
        simp only [execOp, ho, resolve, Deferred.ofValue, hx, Sem.run_bind, Sem.run_pure, Result.andThen_ok, invoke]
        have e9 : (args.toList.map a.eval ++ ks.map fun k => Value.pointer (some ⟨bm k, 0, none⟩)).toArray = args.map a.eval ++ (ks.map fun k => Value.pointer (some ⟨bm k, 0, none⟩)).toArray := by apply Array.ext'; simp
        rw [e9, Array.empty_append]
        exact hen _ w
      · simp [AskR.run] at hr
    · simp [AskR.run] at hr
  · simp [AskR.run] at hr
end
def rowOf {β : Type} : List Operand → (Nat → AskR β) → AskR β
  | [], _ => .fail
  | x :: r, f => opd x fun v => match v with
    | .c (.row t) => f t
    | _ => rowOf r f
def frzZ {β : Type} (t : Nat) : List Operand → List PV → (List PV → AskR β) → AskR β
  | [], acc, f => f acc.reverse
  | x :: r, acc, f => opd x fun v => match v with
    | .c (.row t') => bif Nat.beq t' t then .get (kR t') fun c => (match c with
      | .row _ k es => frzZ t r (.list k es :: acc) f
      | _ => .fail) else .fail
    | .c (.p p) => frzZ t r (p :: acc) f
    | .agg cs => match asPs cs with
      | some ps => frzZ t r (.agg ps :: acc) f
      | none => .fail
    | _ => .fail
structure CallZ where
  f : FuncId
  args : List PV
  q : Nat
def callZ (o : Oper) : AskR CallZ := match o.op with
  | .call c => match c.callee with
    | .value x => opd x fun fv => match fv with
      | .c (.p (.fn (.func g) [] [])) => rowOf c.args.toList fun t => .get (kR t) fun cc => match cc with
        | .row _ _ _ => frzZ t c.args.toList [] fun ps => .done ⟨g, ps, t⟩
        | _ => .fail
      | _ => .fail
    | _ => .fail
  | _ => .fail
section
variable {P : Program} {w0 : World} {im0 : Nat → Prop} {N : NN} {D : Env} {bm : Nat → Nat} {rm : Nat → Value} {L : Lk} {a : Act} {w w' : World} {o : Oper}
theorem rowOf_ok {β : Type} (h : RelAt w0 im0 N D bm rm L a w) : ∀ (xs : List Operand) (f : Nat → AskR β) (R : List Nat) (y : β × List Nat), (rowOf xs f).run L R = some y → ∃ t R', (f t).run L R' = some y
  | [], f, R, y, hr => by simp [rowOf, AskR.run] at hr
  | x :: r, f, R, y, hr => by
    simp only [rowOf] at hr
    obtain ⟨v, R1, hv, hr⟩ := opd_inv h hr
    split at hr
    · exact ⟨_, _, hr⟩
    · exact rowOf_ok h r f R1 y hr
theorem keeps_kill (h : RelAt w0 im0 N D bm rm L a w) (t : Nat) : Keeps (imOf w0.heap.size im0 bm rm L w) w (imOf w0.heap.size im0 bm rm (ovr [(kR t, .dead)] L) w) w := fun b hb => by
  have iB : ∀ k, isBox (ovr [(kR t, .dead)] L) k = isBox L k := fun k => by simp only [isBox, ovrR_B]
  have iR : ∀ k, isRow (ovr [(kR t, .dead)] L) k → isRow L k := fun k ⟨e, q, es, he⟩ => by
    rw [ovrR_R] at he
    split at he
    · cases he
    · exact ⟨e, q, es, he⟩
  exact ⟨⟨hb.1, hb.2.1, fun k hk => hb.2.2.1 k (by rw [iB] at hk; exact hk), fun t' ht => hb.2.2.2 t' (iR t' ht)⟩, rfl⟩
theorem frzZ_ok {β : Type} (h : RelAt w0 im0 N D bm rm L a w) (t : Nat) : ∀ (xs : List Operand) (acc : List PV) (us : List Value) (f : List PV → AskR β) (R : List Nat) (y : β × List Nat), (frzZ t xs acc f).run L R = some y →
    RepL (imOf w0.heap.size im0 bm rm (ovr [(kR t, .dead)] L) w) w acc.reverse us →
    ∃ ps R', RepL (imOf w0.heap.size im0 bm rm (ovr [(kR t, .dead)] L) w) w ps (us ++ xs.map a.eval) ∧ (f ps).run L R' = some y
  | [], acc, us, f, R, y, hr, h1 => ⟨acc.reverse, R, by simpa using h1, hr⟩
  | x :: xs, acc, us, f, R, y, hr, h1 => by
    simp only [frzZ] at hr
    obtain ⟨v, R1, hv, hr⟩ := opd_inv h hr
    have step : ∀ p R2, RepP (imOf w0.heap.size im0 bm rm (ovr [(kR t, .dead)] L) w) w p (a.eval x) → (frzZ t xs (p :: acc) f).run L R2 = some y → ∃ ps R', RepL (imOf w0.heap.size im0 bm rm (ovr [(kR t, .dead)] L) w) w ps (us ++ (x :: xs).map a.eval) ∧ (f ps).run L R' = some y := fun p R2 hp hr => by
      obtain ⟨ps, R3, k1, k2⟩ := frzZ_ok h t xs (p :: acc) (us ++ [a.eval x]) f R2 y hr (by simpa using h1.append_one hp)
      exact ⟨ps, R3, by simpa using k1, k2⟩
    split at hr
    · rename_i t'
      cases hb : Nat.beq t' t with
      | false => rw [hb] at hr; simp [AskR.run] at hr
      | true =>
        rw [hb] at hr
        have := Nat.eq_of_beq_eq_true hb
        subst this
        simp only [cond_true, AskR.run] at hr
        split at hr
        · rename_i e k es hc
          obtain ⟨hx, _⟩ : a.eval x = rm t' ∧ _ := hv.rep
          refine step _ _ ?_ hr
          rw [hx]
          exact (h.freeze hc).2
        · simp [AskR.run] at hr
    · exact step _ _ (RepP.keep (keeps_kill h t) _ _ hv.rep) hr
    · split at hr
      · rename_i ps hps
        have := asPs_get hps
        subst this
        obtain ⟨vs, hx, hrep⟩ := hv.rep
        refine step (.agg ps) _ ?_ hr
        simp only [RepP]
        exact ⟨vs, hx, RepL.keep (keeps_kill h t) _ _ (pure_back hrep)⟩
      · simp [AskR.run] at hr
    · simp [AskR.run] at hr
theorem callZ_ok (h : RelAt w0 im0 N D bm rm L a w) {R : List Nat} {z : CallZ} {R' : List Nat} (hr : (callZ o).run L R = some (z, R')) :
    (∃ e k es, L (kR z.q) = .row e k es) ∧ ∃ us : List Value, RepL (imOf w0.heap.size im0 bm rm (ovr [(kR z.q, .dead)] L) w) w z.args us ∧ (∀ d, o.op ≠ .defer d) ∧
      ((∀ us w, (callFunc z.f us).run P w = .ok (.enter z.f us) w) → (execOp a.eval o).run P w = .ok (.enter z.f us.toArray) w) := by
  unfold callZ at hr
  split at hr
  · rename_i cl ho
    split at hr
    · rename_i x hcal
      replace hr := opd_inv h hr
      obtain ⟨fv, R1, hfv, hr⟩ := hr
      split at hr
      · rename_i g
        have hx : a.eval x = .func (.func g) #[] #[] := by
          obtain ⟨av, cs, hx, ha, hc⟩ : ∃ av cs' : List Value, a.eval x = .func (.func g) av.toArray cs'.toArray ∧ RepL _ w [] av ∧ RepL _ w [] cs' := by have := hfv.rep; simpa only [RepT, RepV, RepP] using this
          simp only [RepL] at ha hc
          subst ha; subst hc
          exact hx
        obtain ⟨t, R2, hr⟩ := rowOf_ok h _ _ _ _ hr
        simp only [AskR.run] at hr
        split at hr
        · rename_i e k es hrow
          obtain ⟨ps, R3, hps, hr⟩ := frzZ_ok h t _ _ [] _ _ _ hr (by simp [RepL])
          simp only [AskR.run, Option.some.injEq, Prod.mk.injEq] at hr
          obtain ⟨rfl, _⟩ := hr
          refine ⟨⟨e, k, es, hrow⟩, _, by simpa using hps, by rw [ho]; simp, fun hen => ?_⟩
          obtain ⟨cal, args, ats⟩ := cl
          simp only at hcal
          subst hcal
          simp only [execOp, ho, resolve, Deferred.ofValue, hx, Sem.run_bind, Sem.run_pure, Result.andThen_ok, invoke]
          have e9 : (args.toList.map a.eval).toArray = args.map a.eval := by apply Array.ext'; simp
          rw [e9, Array.empty_append, Array.append_empty]
          exact hen _ w
        · simp [AskR.run] at hr
      · simp [AskR.run] at hr
    · simp [AskR.run] at hr
  · simp [AskR.run] at hr
end
abbrev St := List (Nat × Cont)
def lkF : St → Nat → Cont
  | [], _ => .none
  | p :: r, i => if p.1 = i then p.2 else lkF r i
def lk (σ : St) : Lk := fun i => lkF σ i
theorem lkF_eq : ∀ (σ : St) (i : Nat), lkF σ i = ovr σ (fun _ => .none) i
  | [], _ => rfl
  | p :: r, i => by
    simp only [lkF, ovr]
    rw [lkF_eq r i]
    cases hb : Nat.beq p.1 i with
    | true => rw [if_pos (Nat.eq_of_beq_eq_true hb)]; rfl
    | false => rw [if_neg (Nat.ne_of_beq_eq_false hb)]; rfl
theorem lk_eq (σ : St) : lk σ = ovr σ fun _ => .none := funext fun i => lkF_eq σ i
theorem lk_append (α σ : St) : lk (α ++ σ) = ovr α (lk σ) := by rw [lk_eq, lk_eq]; exact ovr_append α σ _
theorem lk_cons (x : Nat × Cont) (σ : St) : lk (x :: σ) = ovr [x] (lk σ) := lk_append [x] σ
structure Ctx where
  ar : Ar
  T : TypeId → Lay
  N : NN
def gd (ops : List Oper) (o : Oper) (L : Lk) : Option (Bool × List Nat) := match o.guard with
  | none => some (true, [])
  | some (j, want) => match nthL ops j with
    | none => none
    | some oj => match oj.dst with
      | none => none
      | some d => match L (kT d) with
        | .t (.c (.p (.bool b))) => some (bif want then b else !b, [kT d])
        | .t (.c .und) => some (false, [kT d])
        | _ => none
def putE (N : NN) (dst : Option Nat) (v : PV) (eat : List (Nat × Cont)) : Ask := match v, dst, eat with
  | .own e k es, dst, [(q, .dead)] => putA N dst (.c .unk) [(q, .row e k es)]
  | v, dst, [] => match ownV v with
    | some (b, rs) => putN N dst b rs
    | none => putA N dst (TV.ofPV v) []
  | .own _ _ _, _, _ => .fail
  | v, dst, eat => putA N dst (TV.ofPV v) eat
def aOps (X : Ctx) (Cl : FuncId → List PV → PV → Prop) (ops : List Oper) : List Oper → St → List Deed → (List Deed → St → Prop) → Prop
  | [], σ, ts, K => K ts.reverse σ
  | o :: r, σ, ts, K => match gd ops o (lk σ) with
    | none => False
    | some (false, R) => match o.dst with
      | some d => bif okS X.N d then aOps X Cl ops r ((kT d, .t (.c .und)) :: σ) (([(kT d, .t (.c .und))], R) :: ts) K else False
      | none => aOps X Cl ops r σ (([], R) :: ts) K
    | some (true, R) => match (callS X.N.own o).run (lk σ) R with
     | some (c, R') => ∃ v, Cl c.f c.args v ∧ (match (putE X.N o.dst v c.eat).run (lk σ) R' with
          | some (α, R'') => aOps X Cl ops r (α ++ σ) ((α, R'') :: ts) K
          | none => False)
     | none => match (callA o).run (lk σ) R with
      | some (c, R') => ∃ v, Cl c.f c.args v ∧ (bif c.pure || flatP 4 v then (match (putA X.N o.dst (TV.ofPV v) []).run (lk σ) R' with
          | some (α, R'') => aOps X Cl ops r (α ++ σ) ((α, R'') :: ts) K
          | none => False) else (match (callZ o).run (lk σ) R with
          | some (z, R2) => z.f = c.f ∧ z.args = c.args ∧ (match (putA X.N o.dst (TV.ofPV v) [(kR z.q, .dead)]).run (lk σ) R2 with
            | some (α, R'') => aOps X Cl ops r (α ++ σ) ((α, R'') :: ts) K
            | none => False)
          | none => False))
      | none => match (evOp X.ar X.T X.N o).run (lk σ) R with
        | some (α, R') => aOps X Cl ops r (α ++ σ) ((α, R') :: ts) K
        | none => False
section
variable {P : Program} {w0 : World} {im0 : Nat → Prop} {X : Ctx} {D : Env} {ro : Option Nat} {n : Nat}
theorem lat_zero : ∀ (ts : List Deed) (i : Nat) (L : Lk), latM (lt_ 0) i ts L = L
  | [], _, _ => rfl
  | z :: ts, i, L => by simp only [latM, lt_, Nat.blt]; simpa using lat_zero ts (i + 1) L
theorem lat_shift (q : Nat) : ∀ (ts : List Deed) (i : Nat) (L : Lk), latM (lt_ (q + 1)) (i + 1) ts L = latM (lt_ q) i ts L
  | [], _, _ => rfl
  | z :: ts, i, L => by simp only [latM]; rw [lat_shift q ts]; simp [lt_, Nat.blt]
theorem lat_all : ∀ (ts : List Deed) (i j : Nat) (L : Lk), latM (fun _ => true) i ts L = latM (fun _ => true) j ts L
  | [], _, _, _ => rfl
  | z :: ts, i, j, L => by simp only [latM]; exact lat_all ts _ _ _
theorem lat_cons (q : Nat) (x : Deed) (ts : List Deed) (L : Lk) : latM (lt_ (q + 1)) 0 (x :: ts) L = latM (lt_ q) 0 ts (ovr x.1 L) := by
  simp only [latM]
  have h0 : lt_ (q + 1) 0 = true := by simp [lt_, Nat.blt_eq]
  rw [h0, if_pos rfl, lat_shift]
theorem putA_run {N : NN} {dst : Option Nat} {v : TV} {α : St} {L : Lk} {R : List Nat} {x : Deed} (h : (putA N dst v α).run L R = some x) : x.2 = R ∧ ∀ L', (putA N dst v α).run L' R = some x := by
  cases dst with
  | none => simp only [putA, AskR.run, Option.some.injEq] at h ⊢; subst h; exact ⟨rfl, fun _ => rfl⟩
  | some d =>
    simp only [putA] at h ⊢
    cases hb : okS N d with
    | false => simp [hb, AskR.run] at h
    | true => simp only [hb, cond_true, AskR.run, Option.some.injEq] at h ⊢; subst h; exact ⟨rfl, fun _ => rfl⟩
theorem gd_local {ops : List Oper} {o : Oper} {L L' : Lk} {g : Bool} {R : List Nat} (h : gd ops o L = some (g, R)) (hL : ∀ k ∈ R, L' k = L k) : gd ops o L' = some (g, R) := by
  unfold gd at h ⊢
  split at h
  · exact h
  · rename_i j want hn
    split at h
    · cases h
    · rename_i oj hoj
      split at h
      · cases h
      · rename_i d hd
        have key : ∀ g R, (match L (kT d) with
            | .t (.c (.p (.bool b))) => some (bif want then b else !b, [kT d])
            | .t (.c .und) => some (false, [kT d])
            | _ => none) = some (g, R) → R = [kT d] := by
          intro g R h
          split at h
          · cases h; rfl
          · cases h; rfl
          · cases h
        have hR := key _ _ h
        subst hR
        rw [hL (kT d) (by simp)]
        exact h
theorem gd_wanted {ops : Array Oper} {o : Oper} {bm : Nat → Nat} {rm : Nat → Value} {L : Lk} {a : Act} {w : World} (h : RelAt w0 im0 X.N D bm rm L a w) {g : Bool} {R : List Nat} (hg : gd ops.toList o L = some (g, R)) : Region.wanted o (yielded ops a.tmps) = g := by
  unfold gd at hg
  unfold Region.wanted
  split at hg
  · rename_i hn; rw [hn]; cases hg; rfl
  · rename_i j want hn
    rw [hn]
    rw [nthL_eq] at hg
    split at hg
    · cases hg
    · rename_i oj hoj
      split at hg
      · cases hg
      · rename_i d hd
        have hoj' : ops[j]? = some oj := by simpa using hoj
        split at hg
        · rename_i b hc
          have hs : a.tmps.getD d undef = .bool b := h.slots d _ hc
          have hs' : a.tmps[d]? = some (.bool b) := by
            simp only [Array.getD_eq_getD_getElem?] at hs
            cases ht : a.tmps[d]? with
            | none => rw [ht] at hs; simp [undef] at hs
            | some u => rw [ht] at hs; simpa using hs
          simp only [Option.some.injEq, Prod.mk.injEq] at hg
          obtain ⟨rfl, _⟩ := hg
          simp only [yielded, hoj', Option.bind_some, hd, hs']
          cases want <;> cases b <;> rfl
        · rename_i hc
          have hs : a.tmps.getD d undef = undef := h.slots d _ hc
          simp only [Option.some.injEq, Prod.mk.injEq] at hg
          obtain ⟨rfl, _⟩ := hg
          have : yielded ops a.tmps j = none := by
            simp only [Array.getD_eq_getD_getElem?] at hs
            simp only [yielded, hoj', Option.bind_some, hd]
            cases ht : a.tmps[d]? with
            | none => rfl
            | some u => rw [ht] at hs; simp only [Option.getD_some] at hs; subst hs; rfl
          simp only [this]
          rfl
        · cases hg
theorem call_step {o : Oper} {bm : Nat → Nat} {rm : Nat → Value} {L : Lk} {a : Act} {w : World} (h : RelAt w0 im0 X.N D bm rm L a w) {c : CallTo} {R R' R'' : List Nat} {α : St} {v : PV} (hr : (callA o).run L R = some (c, R')) (hd0 : Can P c.f c.args v) (hp : (c.pure || flatP 4 v) = true)
    (hput : (putA X.N o.dst (TV.ofPV v) []).run L R' = some (α, R'')) {Q : Exit → Act → World → Prop} {K : Act → World → Prop} (hK : ∀ a' w', Rel w0 im0 X.N D (ovr α L) a' w' → K a' w') : o.wpIn (FW ro) n P a w K Q := by
  obtain ⟨us, h1, h2, hnd, hen⟩ := callA_ok (P := P) h hr
  have hd := can_does hd0 h1
  refine ⟨fenceW_about ro o w a, ?_⟩
  rw [Oper.semAt_eq _ _ _ hnd, hen hd.1, Oper.uponIn_enter]
  refine ⟨fun hh => by simp [FW, Fence.wide] at hh, ?_⟩
  have fin : ∀ (u : Value) (w' : World), Below w.heap.size w w' → RepP (imOf w0.heap.size im0 bm rm L w') w' v u → K (a.put o.dst u) w' := fun u w' hb hu => by
    refine hK _ _ ?_
    have := fin_put (α := []) (L := L) (h.grow hb) (holds_of hu) hput
    exact this
  have fresh : ∀ (w' : World), Below w.heap.size w w' → ∀ b, w.heap.size ≤ b ∧ Plain w' b → imOf w0.heap.size im0 bm rm L w' b := fun w' hb b hbb =>
    ⟨hbb.2, .inr (Nat.le_trans h.base.size hbb.1), fun k hk e => by have := h.boxlt hk; omega, fun t ht e => by have := h.rowlt ht e; omega⟩
  have main : Calls P c.f us.toArray w (fun e w' => ∃ u, e = .returned u ∧ RepP (imOf w0.heap.size im0 bm rm L w') w' v u ∧ Below w.heap.size w w') := by
    cases hcp : c.pure with
    | true =>
      refine (hd.2 w _ us (fun b hb => hb.1) (h2 hcp)).mono ?_
      rintro e w' ⟨u, rfl, hu, hb⟩
      refine ⟨u, rfl, RepP.keep (fun b hbb => ⟨?_, rfl⟩) v u hu, hb⟩
      rcases hbb with hbb | hbb
      · exact ⟨hbb.1.keep hb.size (hb.block b hbb.1.1), hbb.2⟩
      · exact fresh w' hb b hbb
    | false =>
      rw [hcp, Bool.false_or] at hp
      refine (hd.2 w _ us (fun b hb => hb.1) h1).mono ?_
      rintro e w' ⟨u, rfl, hu, hb⟩
      exact ⟨u, rfl, flatP_rep 4 v u hp hu, hb⟩
  have : CallsIn Fence.wide (n - 1) P c.f us.toArray w (fun
    | .returned v, w'' => K (a.put o.dst v) w''
    | .panicked chain, w'' => Q (.panic chain) a w''
    | .outgrown, _ => LetsOut Q) := callsIn_wide.2 (main.mono (by
      rintro e w' ⟨u, rfl, hu, hb⟩
      exact fin u w' hb hu))
  exact this
theorem call_stepZ {o : Oper} {bm : Nat → Nat} {rm : Nat → Value} {L : Lk} {a : Act} {w : World} (h : RelAt w0 im0 X.N D bm rm L a w) {z : CallZ} {R R' R'' : List Nat} {α : St} {v : PV} (hr : (callZ o).run L R = some (z, R')) (hd0 : Can P z.f z.args v)
    (hput : (putA X.N o.dst (TV.ofPV v) [(kR z.q, .dead)]).run L R' = some (α, R'')) {Q : Exit → Act → World → Prop} {K : Act → World → Prop} (hK : ∀ a' w', Rel w0 im0 X.N D (ovr α L) a' w' → K a' w') : o.wpIn (FW ro) n P a w K Q := by
  obtain ⟨⟨e, k, es, hrow⟩, us, h1, hnd, hen⟩ := callZ_ok (P := P) h hr
  have hd := can_does hd0 h1
  have hkill := h.kill z.q
  refine ⟨fenceW_about ro o w a, ?_⟩
  rw [Oper.semAt_eq _ _ _ hnd, hen hd.1, Oper.uponIn_enter]
  refine ⟨fun hh => by simp [FW, Fence.wide] at hh, ?_⟩
  have : CallsIn Fence.wide (n - 1) P z.f us.toArray w (fun
    | .returned v, w'' => K (a.put o.dst v) w''
    | .panicked chain, w'' => Q (.panic chain) a w''
    | .outgrown, _ => LetsOut Q) := callsIn_wide.2 ((hd.2 w _ us (fun b hb => hb.1) h1).mono (by
      rintro e w' ⟨u, rfl, hu, hb⟩
      refine hK _ _ ?_
      refine fin_put (α := [(kR z.q, .dead)]) (L := L) (hkill.grow hb) (holds_of (RepP.keep (fun b hbb => ⟨?_, rfl⟩) v u hu)) hput
      rcases hbb with hbb | hbb
      · exact ⟨hbb.1.keep hb.size (hb.block b hbb.1.1), hbb.2⟩
      · exact ⟨hbb.2, .inr (Nat.le_trans hkill.base.size hbb.1), fun k hk e => by have := hkill.boxlt hk; omega, fun t ht e => by have := hkill.rowlt ht e; omega⟩))
  exact this
theorem putE_nil {N : NN} {dst : Option Nat} {v : PV} : putE N dst v [] = match ownV v with
    | some (b, rs) => putN N dst b rs
    | none => putA N dst (TV.ofPV v) [] := by
  cases v <;> rfl
theorem putE_dead {N : NN} {dst : Option Nat} {v : PV} {q : Nat} {c : Cont} (h : ∀ e k es, v ≠ .own e k es) : putE N dst v [(q, c)] = putA N dst (TV.ofPV v) [(q, c)] := by
  cases v <;> first | exact absurd rfl (h _ _ _) | rfl
theorem call_stepS {o : Oper} {bm : Nat → Nat} {rm : Nat → Value} {L : Lk} {a : Act} {w : World} (h : RelAt w0 im0 X.N D bm rm L a w) {sp : List FuncId} {c : CallS} {R R' R'' : List Nat} {α : St} {v : PV} (hr : (callS sp o).run L R = some (c, R')) (hd : Can P c.f c.args v)
    (hput : (putE X.N o.dst v c.eat).run L R' = some (α, R'')) {Q : Exit → Act → World → Prop} {K : Act → World → Prop} (hK : ∀ a' w', Rel w0 im0 X.N D (ovr α L) a' w' → K a' w') : o.wpIn (FW ro) n P a w K Q := by
  obtain ⟨hnd, us, hen, hor⟩ := callS_ok (P := P) h hr
  obtain ⟨f, cargs, eat⟩ := c
  simp only at hd hput hen hor
  refine ⟨fenceW_about ro o w a, ?_⟩
  have go : Calls P f us.toArray w (fun e w' => ∃ u, e = .returned u ∧ K (a.put o.dst u) w') → CallsIn Fence.wide (n - 1) P f us.toArray w (fun
      | .returned v, w'' => K (a.put o.dst v) w''
      | .panicked chain, w'' => Q (.panic chain) a w''
      | .outgrown, _ => LetsOut Q) := fun h2 => callsIn_wide.2 (h2.mono (by
        rintro e w' ⟨u, rfl, hu⟩
        exact hu))
  rcases hor with ⟨args, rfl, rfl, hrep⟩ | ⟨q, e, k, es, args, us', rfl, rfl, hc, rfl, hrep⟩
  · rw [putE_nil] at hput
    simp only [Can] at hd
    cases hov : ownV v with
    | some bl =>
      obtain ⟨b, rs⟩ := bl
      rw [hov] at hd hput
      have hd : DoesO P f args b rs := hd
      have hput : (putN X.N o.dst b rs).run L R' = some (α, R'') := hput
      rw [Oper.semAt_eq _ _ _ hnd, hen hd.1, Oper.uponIn_enter]
      refine ⟨fun hh => by simp [FW, Fence.wide] at hh, ?_⟩
      refine go ((hd.2 w _ us (fun b hb => imBox_plain h hb) hrep).mono ?_)
      rintro e w' ⟨u, vs, rfl, hu, hn, hb⟩
      exact ⟨u, rfl, hK _ _ (putN_rel h hb hn hu hput)⟩
    | none =>
    rw [hov] at hd hput
    have hd : DoesF P f args v := hd
    have hput : (putA X.N o.dst (TV.ofPV v) []).run L R' = some (α, R'') := hput
    rw [Oper.semAt_eq _ _ _ hnd, hen hd.1, Oper.uponIn_enter]
    refine ⟨fun hh => by simp [FW, Fence.wide] at hh, ?_⟩
    refine go ((hd.2 w _ us (fun b hb => imBox_plain h hb) hrep).mono ?_)
    rintro e w' ⟨u, rfl, hu, hb⟩
    refine ⟨u, rfl, hK _ _ ?_⟩
    refine fin_put (α := []) (L := L) (h.grow hb) (holds_of (RepP.keep (fun b hbb => ⟨?_, rfl⟩) v u hu)) hput
    exact ⟨hbb.2, .inr (Nat.le_trans h.base.size hbb.1), fun k hk e => by have := h.boxlt hk; omega, fun t ht e => by have := h.rowlt ht e; omega⟩
  · obtain ⟨xs, hown, hl, hk⟩ := h.rows q e k es hc
    have hir : isRow L q := ⟨e, k, es, hc⟩
    have hnim : ∀ g, (rm q).ownBlock = some g → ¬ imOf w0.heap.size im0 bm rm L w g ∧ ¬ imBox (some q) w0 im0 bm rm L w g := fun g hg => ⟨fun hi => hi.2.2.2 q hir hg, fun hi => by
      rcases hi with hi | ⟨k', ty, cs, hc', rfl⟩ | ⟨t, ht, hot, htg⟩
      · exact hi.2.2.2 q hir hg
      · exact h.br k' q (.inl ⟨ty, cs, hc'⟩) hir hg
      · have := h.rr t q g ht hir htg hg
        subst this
        simp [otherB] at hot⟩
    have hor2 : (∃ e' k' es', v = .own e' k' es') ∨ (DoesC P f e k es args v ∧ (putA X.N o.dst (TV.ofPV v) [(kR q, .dead)]).run L R' = some (α, R'')) := by
      by_cases hv : ∃ e' k' es', v = .own e' k' es'
      · exact .inl hv
      · rw [putE_dead (fun e' k' es' he => hv ⟨e', k', es', he⟩)] at hput
        refine .inr ⟨?_, hput⟩
        cases v <;> first | exact absurd ⟨_, _, _, rfl⟩ hv | exact hd
    rcases hor2 with ⟨e', k', es', rfl⟩ | ⟨hd, hput⟩
    · obtain ⟨rfl, rfl, hd⟩ : e' = e ∧ k' = k ∧ DoesW P f e k es es' args := hd
      have hput : (putA X.N o.dst (.c .unk) [(kR q, .row e' k' es')]).run L R' = some (α, R'') := hput
      rw [Oper.semAt_eq _ _ _ hnd, hen hd.1, Oper.uponIn_enter]
      refine ⟨fun hh => by simp [FW, Fence.wide] at hh, ?_⟩
      refine go ((hd.2 w _ _ w0.heap.size (rm q) xs us' (fun b hb => hb.1) (fun b hb => imBox_plain h hb) h.base.size hown hl hk hnim hrep).mono ?_)
      rintro e1 w' ⟨u, xs', rfl, hown', hl', hk', hg⟩
      exact ⟨u, rfl, hK _ _ (fin_put (α := [(kR q, .row e' k' es')]) (v := .c .unk) (u := u) (L := L) (h.setRow hc hg hg.size hown' hl' hk') ⟨trivial, by simp [TV.boxes, CV.boxes], by simp [TV.rows, CV.rows]⟩ hput)⟩
    rw [Oper.semAt_eq _ _ _ hnd, hen hd.1, Oper.uponIn_enter]
    refine ⟨fun hh => by simp [FW, Fence.wide] at hh, ?_⟩
    refine go ((hd.2 w _ _ w0.heap.size (rm q) xs us' (fun b hb => hb.1) (fun b hb => imBox_plain h hb) h.base.size hown hl hk hnim hrep).mono ?_)
    · rintro e' w' ⟨u, rfl, hu, hg⟩
      obtain ⟨h1, h2, h3, h4⟩ := h.eat hc hg
      refine ⟨u, rfl, hK _ _ ?_⟩
      refine fin_put (α := [(kR q, .dead)]) (L := L) h1 (holds_of (RepP.keep (fun b hbb => ⟨?_, rfl⟩) v u hu)) hput
      rcases hbb with hbb | ⟨hbb | hbb, hp⟩
      · exact h2 b hbb
      · exact h3 b hbb hp
      · exact h4 b hbb hp
theorem putA_runE {N : NN} {dst : Option Nat} {v : TV} {α : St} {L : Lk} {R : List Nat} {x : Deed} (h : (putA N dst v α).run L R = some x) : x.2 = R ∧ ∀ L', (putA N dst v α).run L' R = some x := putA_run h
theorem aOps_ok {ops : Array Oper} (har : X.ar = Ar.std) (hT : ∀ t, LayOK P t (X.T t)) : ∀ (l : List Oper) (k : Nat) (σ : St) (ts : List Deed) (K : List Deed → St → Prop), (∀ i, l[i]? = ops[k + i]?) → aOps X (Can P) ops.toList l σ ts K →
    ∃ ts' σ', ts'.length = l.length ∧ K (ts.reverse ++ ts') σ' ∧ lk σ' = latM (fun _ => true) 0 ts' (lk σ) ∧
      ∀ i x, ts'[i]? = some x → ∀ L', (∀ q ∈ x.2, L' q = latM (lt_ i) 0 ts' (lk σ) q) → StepOK w0 im0 X.N D ro n P ops (k + i) x.1 L'
  | [], k, σ, ts, K, _, h => ⟨[], σ, rfl, by simpa [aOps] using h, rfl, fun i x hx => by simp at hx⟩
  | o :: l, k, σ, ts, K, hl, h => by
    have hk : ops[k]? = some o := by simpa using (hl 0).symm
    have hl' : ∀ i, l[i]? = ops[k + 1 + i]? := fun i => by
      have := hl (i + 1)
      rw [show k + 1 + i = k + (i + 1) by omega, ← this]; rfl
    have next : ∀ (α : St) (R : List Nat), aOps X (Can P) ops.toList l (α ++ σ) ((α, R) :: ts) K → (∀ L', (∀ q ∈ R, L' q = lk σ q) → StepOK w0 im0 X.N D ro n P ops k α L') →
        ∃ ts' σ', ts'.length = (o :: l).length ∧ K (ts.reverse ++ ts') σ' ∧ lk σ' = latM (fun _ => true) 0 ts' (lk σ) ∧
          ∀ i x, ts'[i]? = some x → ∀ L', (∀ q ∈ x.2, L' q = latM (lt_ i) 0 ts' (lk σ) q) → StepOK w0 im0 X.N D ro n P ops (k + i) x.1 L' := by
      intro α R h hs
      obtain ⟨ts', σ', h1, h2, h3, h4⟩ := aOps_ok har hT l (k + 1) (α ++ σ) ((α, R) :: ts) K hl' h
      refine ⟨(α, R) :: ts', σ', by simp [h1], by simpa using h2, ?_, fun i x hx L' hL => ?_⟩
      · rw [h3, lk_append]
        simp only [latM, if_true]
        exact lat_all _ _ _ _
      · cases i with
        | zero =>
          simp only [List.getElem?_cons_zero, Option.some.injEq] at hx
          subst hx
          rw [Nat.add_zero]
          exact hs L' fun q hq => by rw [hL q hq, lat_zero]
        | succ i =>
          have := h4 i x (by simpa using hx) L' (fun q hq => by rw [hL q hq, lat_cons, lk_append])
          rwa [show k + 1 + i = k + (i + 1) by omega] at this
    simp only [aOps] at h
    cases hg : gd ops.toList o (lk σ) with
    | none => rw [hg] at h; exact h.elim
    | some gR =>
      obtain ⟨g, R⟩ := gR
      rw [hg] at h
      cases g with
      | false =>
        simp only at h
        have skip : ∀ α : St, (∀ (bm : Nat → Nat) (rm : Nat → Value) L' a w, RelAt w0 im0 X.N D bm rm L' a w → Rel w0 im0 X.N D (ovr α L') (a.put o.dst undef) w) → ∀ L', (∀ q ∈ R, L' q = lk σ q) → StepOK w0 im0 X.N D ro n P ops k α L' := by
          intro α hα L' hL Q K' a w ⟨bm, rm, hrel⟩ hK
          unfold wpOpIn
          simp only [hk]
          rw [gd_wanted hrel (gd_local hg hL), if_neg (by simp)]
          exact ⟨fenceW_about ro o w a, hK _ _ (hα bm rm L' a w hrel)⟩
        cases hd : o.dst with
        | none =>
          rw [hd] at h skip
          refine next [] R (by simpa using h) (skip [] fun bm rm L' a w hr => ⟨bm, rm, hr⟩)
        | some d =>
          rw [hd] at h skip
          simp only at h
          cases hb : okS X.N d with
          | false => rw [hb] at h; exact h.elim
          | true =>
            rw [hb] at h
            refine next [(kT d, .t (.c .und))] R (by simpa using h) (skip _ fun bm rm L' a w hr => ⟨bm, rm, hr.put (by simpa [Nat.blt_eq] using hb) rfl (by simp [TV.boxes, CV.boxes]) (by simp [TV.rows, CV.rows])⟩)
      | true =>
        simp only at h
        have wanted : ∀ {L' : Lk} {bm rm a w}, (∀ q ∈ R, L' q = lk σ q) → RelAt w0 im0 X.N D bm rm L' a w → ∀ {Q K'}, o.wpIn (FW ro) n P a w K' Q → wpOpIn (FW ro) n P ops Q k K' a w := by
          intro L' bm rm a w hL hrel Q K' hw
          unfold wpOpIn
          simp only [hk]
          rw [gd_wanted hrel (gd_local hg hL), if_pos rfl]
          exact hw
        cases hs : (callS X.N.own o).run (lk σ) R with
        | some cR =>
          obtain ⟨c, R'⟩ := cR
          rw [hs] at h
          simp only at h
          obtain ⟨v, hdoes, h⟩ := h
          cases hput : (putE X.N o.dst v c.eat).run (lk σ) R' with
          | none => rw [hput] at h; exact h.elim
          | some αR =>
            obtain ⟨α, R''⟩ := αR
            rw [hput] at h
            refine next α _ h fun L' hL Q K' a w ⟨bm, rm, hrel⟩ hK => ?_
            have hsub := AskR.run_sub _ _ _ _ hs
            have hsub2 := AskR.run_sub _ _ _ _ hput
            exact wanted (fun q hq => hL q (hsub2 q (hsub q hq))) hrel (call_stepS hrel (AskR.local _ _ L' _ _ hs (fun q hq => hL q (hsub2 q hq))) hdoes (AskR.local _ _ L' _ _ hput hL) hK)
        | none =>
        rw [hs] at h
        simp only at h
        cases hc : (callA o).run (lk σ) R with
        | some cR =>
          obtain ⟨c, R'⟩ := cR
          rw [hc] at h
          simp only at h
          obtain ⟨v, hdoes, h⟩ := h
          cases hp : (c.pure || flatP 4 v) with
          | false =>
            rw [hp] at h
            simp only [cond_false] at h
            cases hz : (callZ o).run (lk σ) R with
            | none => rw [hz] at h; exact h.elim
            | some zR =>
              obtain ⟨z, R2⟩ := zR
              rw [hz] at h
              obtain ⟨e1, e2, h⟩ := h
              cases hput : (putA X.N o.dst (TV.ofPV v) [(kR z.q, .dead)]).run (lk σ) R2 with
              | none => rw [hput] at h; exact h.elim
              | some αR =>
                obtain ⟨α, R''⟩ := αR
                rw [hput] at h
                obtain ⟨rfl, hput'⟩ := putA_run hput
                rw [← e1, ← e2] at hdoes
                refine next α _ h fun L' hL Q K' a w ⟨bm, rm, hrel⟩ hK => ?_
                have hsub := AskR.run_sub _ _ _ _ hz
                exact wanted (fun q hq => hL q (hsub q hq)) hrel (call_stepZ hrel (AskR.local _ _ L' _ _ hz hL) hdoes (hput' L') hK)
          | true =>
            rw [hp] at h
            simp only [cond_true] at h
            cases hput : (putA X.N o.dst (TV.ofPV v) []).run (lk σ) R' with
            | none => rw [hput] at h; exact h.elim
            | some αR =>
              obtain ⟨α, R''⟩ := αR
              rw [hput] at h
              obtain ⟨rfl, hput'⟩ := putA_run hput
              refine next α _ h fun L' hL Q K' a w ⟨bm, rm, hrel⟩ hK => ?_
              have hsub := AskR.run_sub _ _ _ _ hc
              exact wanted (fun q hq => hL q (hsub q hq)) hrel (call_step hrel (AskR.local _ _ L' _ _ hc hL) hdoes hp (hput' L') hK)
        | none =>
          rw [hc] at h
          simp only at h
          cases he : (evOp X.ar X.T X.N o).run (lk σ) R with
          | none => rw [he] at h; exact h.elim
          | some αR =>
            obtain ⟨α, R'⟩ := αR
            rw [he] at h
            refine next α R' h fun L' hL Q K' a w ⟨bm, rm, hrel⟩ hK => ?_
            have hsub := AskR.run_sub _ _ _ _ he
            exact wanted (fun q hq => hL q (hsub q hq)) hrel (res_wpIn (evOp_defer he) (evOp_ok har hT hrel (AskR.local _ _ L' _ _ he hL)) hK)
def SemC (P : Program) (w0 : World) (im0 : Nat → Prop) (N : NN) (D : Env) (ro : Option Nat) (n : Nat) (c : Code) (Q : Exit → St → Prop) (σ : St) : Prop :=
  ∀ a w, Rel w0 im0 N D (lk σ) a w → c.wpIn (FW ro) n P (fun e a w => ∃ σ', Q e σ' ∧ Rel w0 im0 N D (lk σ') a w) a w
def cnd (c : Operand) : AskR Bool := opd c fun v => match v with
  | .c (.p (.bool b)) => .done b
  | _ => .fail
def hasNext (ops : List Oper) : Bool := ops.any fun o => match o.op with
  | .next _ _ => true
  | .call c => (match c.callee with
    | .builtin .clear => true
    | _ => false)
  | _ => false
def acode (X : Ctx) (Cl : FuncId → List PV → PV → Prop) (S : Code → (Exit → St → Prop) → St → Prop) : Code → (Exit → St → Prop) → St → Prop
  | .skip, Q, σ => Q .normal σ
  | .label _, Q, σ => Q .normal σ
  | .region id ops draw, Q, σ => bif hasNext ops.toList then S (.region id ops draw) Q σ else aOps X Cl ops.toList ops.toList σ [] fun ts σ' => bif !draw || ordM ops ts then Q .normal σ' else False
  | .seq x y, Q, σ => acode X Cl S x (fun e σ' => match e with
    | .normal => acode X Cl S y Q σ'
    | e => Q e σ') σ
  | .cond c x y, Q, σ => match (cnd c).run (lk σ) [] with
    | some (true, _) => acode X Cl S x Q σ
    | some (false, _) => acode X Cl S y Q σ
    | none => False
  | .block id c, Q, σ => acode X Cl S c (fun e σ' => match e with
    | .exit id' => bif Nat.beq id' id then Q .normal σ' else Q (.exit id') σ'
    | e => Q e σ') σ
  | .exit id, Q, σ => Q (.exit id) σ
  | .goto l, Q, σ => Q (.goto l) σ
  | .ret, Q, σ => Q .ret σ
  | c, Q, σ => S c Q σ
theorem acode_ok (har : X.ar = Ar.std) (hT : ∀ t, LayOK P t (X.T t)) (hm : P.follows .mixedOrders = true) : ∀ (c : Code) (Q : Exit → St → Prop) (σ : St), acode X (Can P) (SemC P w0 im0 X.N D ro n) c Q σ → SemC P w0 im0 X.N D ro n c Q σ
  | .skip, Q, σ, h => fun a w hr => wpIn_skip ⟨σ, h, hr⟩
  | .label _, Q, σ, h => fun a w hr => wpIn_label ⟨σ, h, hr⟩
  | .region id ops draw, Q, σ, h => fun a w hr => by
    simp only [acode] at h
    cases hnx : hasNext ops.toList with
    | true => rw [hnx] at h; exact h a w hr
    | false =>
    rw [hnx] at h
    simp only [cond_false] at h
    obtain ⟨ts, σ', h1, h2, h3, h4⟩ := aOps_ok (w0 := w0) (im0 := im0) (D := D) (ro := ro) (n := n) har hT ops.toList 0 σ [] _ (fun i => by simp) h
    simp only [List.reverse_nil, List.nil_append] at h2
    cases hb : (!draw || ordM ops ts) with
    | false => rw [hb] at h2; exact h2.elim
    | true =>
      rw [hb] at h2
      simp only [cond_true] at h2
      have hend : ∀ a w, Rel w0 im0 X.N D (latM (fun _ => true) 0 ts (lk σ)) a w → ∃ σ', Q .normal σ' ∧ Rel w0 im0 X.N D (lk σ') a w := fun a w hr => ⟨σ', h2, by rw [h3]; exact hr⟩
      cases draw with
      | true =>
        exact wp_drawn hm (by simpa using h1) (ordM_ok (by simpa using hb)) (fun i x hx L' hL => by have := h4 i x hx L' hL; rwa [Nat.zero_add] at this) hr hend
      | false =>
        refine wpIn_region (wp_plain_ops (L := lk σ) (List.range ops.size) ts (lk σ) a w (fun q i x hq hx => ?_) (by simp [h1]) hr hend)
        have hqi : q = i := by
          rw [List.getElem?_range] at hq
          · simpa using hq
          · have := (List.getElem?_eq_some_iff.1 hx).1
            simp only [Array.length_toList] at h1
            omega
        subst hqi
        have := h4 q x hx _ (fun _ _ => rfl)
        rwa [Nat.zero_add] at this
  | .seq x y, Q, σ, h => fun a w hr => by
    simp only [acode] at h
    refine wpIn_seq (wpIn_mono (acode_ok har hT hm x _ σ h a w hr) ?_)
    rintro e a' w' ⟨σ', hq, hr'⟩
    cases e with
    | normal => exact acode_ok har hT hm y Q σ' hq a' w' hr'
    | _ => exact ⟨σ', hq, hr'⟩
  | .cond c x y, Q, σ, h => fun a w hr => by
    simp only [acode] at h
    obtain ⟨bm, rm, hrel⟩ := hr
    split at h
    · rename_i R hc
      unfold cnd at hc
      obtain ⟨v, R', hv, hc⟩ := opd_inv hrel hc
      split at hc
      · rename_i b
        simp only [AskR.run, Option.some.injEq, Prod.mk.injEq] at hc
        obtain ⟨rfl, _⟩ := hc
        exact wpIn_cond_true hv.rep (acode_ok har hT hm x Q σ h a w ⟨bm, rm, hrel⟩)
      · simp [AskR.run] at hc
    · rename_i R hc
      unfold cnd at hc
      obtain ⟨v, R', hv, hc⟩ := opd_inv hrel hc
      split at hc
      · rename_i b
        simp only [AskR.run, Option.some.injEq, Prod.mk.injEq] at hc
        obtain ⟨rfl, _⟩ := hc
        exact wpIn_cond_false hv.rep (acode_ok har hT hm y Q σ h a w ⟨bm, rm, hrel⟩)
      · simp [AskR.run] at hc
    · exact h.elim
  | .block id c, Q, σ, h => fun a w hr => by
    simp only [acode] at h
    refine wpIn_block (wpIn_mono (acode_ok har hT hm c _ σ h a w hr) ?_)
    rintro e a' w' ⟨σ', hq, hr'⟩
    cases e with
    | exit id' =>
      simp only at hq
      cases hb : Nat.beq id' id with
      | true =>
        rw [hb] at hq
        have := Nat.eq_of_beq_eq_true hb
        simp only [Exit.inBlock, if_pos this]
        exact ⟨σ', hq, hr'⟩
      | false =>
        rw [hb] at hq
        have := Nat.ne_of_beq_eq_false hb
        simp only [Exit.inBlock, if_neg this]
        exact ⟨σ', hq, hr'⟩
    | _ => exact ⟨σ', hq, hr'⟩
  | .exit id, Q, σ, h => fun a w hr => wpIn_exit ⟨σ, h, hr⟩
  | .goto l, Q, σ, h => fun a w hr => wpIn_goto ⟨σ, h, hr⟩
  | .ret, Q, σ, h => fun a w hr => wpIn_ret ⟨σ, h, hr⟩
  | .loop _, Q, σ, h => h
  | .rangeFunc _ _ _ _, Q, σ, h => h
  | .scope _, Q, σ, h => h
  | .refuse _, Q, σ, h => h
end
end Go.Proofs.YtjimjdhdnkhfnaaGreat
