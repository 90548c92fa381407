/- Contracts of functions of the program and of the reference, and plain facts: a part of a proof. Own text. -/
import Derived.Test.YtaieidigpilbfaaGreatJh
import Derived.Test.YtaieidigpilbfaaGreatJn
import Derived.Deep.AppendLies
set_option linter.unusedVariables false
set_option linter.unusedSimpArgs false
set_option linter.unusedSectionVars false
namespace Go.Proofs.YtaieidigpilbfaaGreat
open Go Go.RowKit
set_option maxHeartbeats 1000000

/-- An operation that makes or writes memory: its number, its slot, and the operations whose values it uses up. -/
structure Job where
  i : Nat
  d : Nat
  use : List Nat
deriving DecidableEq

def Agr (js : List Job) (a0 a : Act) : Prop := a.tmps.size = a0.tmps.size ∧ a.defers = a0.defers ∧ ∀ t, (∀ j ∈ js, j.d ≠ t) → a.tmps[t]? = a0.tmps[t]?
def slotOf (j : Job) (a : Act) : Value := a.tmps.getD j.d undef
def liveJ (js : List Job) (L : Array Bool) (j : Job) : Prop := L.getD j.i true = true ∧ ∀ c ∈ js, j.i ∈ c.use → L.getD c.i true = false
/-- What a list of jobs must be like. -/
structure JobsOk (md : Region.Mode) (ops : Array Oper) (n sz : Nat) (js : List Job) : Prop where
  idx : ∀ j ∈ js, ∀ c ∈ js, j.i = c.i ∨ j.d = c.d → j = c
  inn : ∀ j ∈ js, j.i < n ∧ j.d < sz
  aft : ∀ j ∈ js, ∃ o, ops[j.i]? = some o ∧ (∀ u ∈ j.use, ∃ e ∈ o.after, Region.binds md e = true ∧ e.on = u) ∧ ∀ e ∈ o.after, Region.binds md e = true → e.on < j.i
  uses : ∀ j ∈ js, ∀ u ∈ j.use, ∀ c ∈ js, u ∈ c.use → c = j
def jobsB (md : Region.Mode) (ops : Array Oper) (n sz : Nat) (js : List Job) : Bool :=
  js.all fun j => (decide (j.i < n) && decide (j.d < sz)) && (js.all (fun c => !(decide (j.i = c.i) || decide (j.d = c.d)) || decide (j = c)) &&
    ((match ops[j.i]? with
      | none => false
      | some o => j.use.all (fun u => o.after.any fun e => Region.binds md e && decide (e.on = u)) && o.after.all fun e => !Region.binds md e || decide (e.on < j.i)) &&
    j.use.all fun u => js.all fun c => !(c.use.contains u) || decide (c = j)))
theorem jobs_ok {md : Region.Mode} {ops : Array Oper} {n sz : Nat} {js : List Job} (h : jobsB md ops n sz js = true) : JobsOk md ops n sz js := by
  have h1 := fun j (hj : j ∈ js) => (List.all_eq_true.1 h) j hj
  refine ⟨fun j hj c hc he => ?_, fun j hj => ?_, fun j hj => ?_, fun j hj u hu c hc huc => ?_⟩
  · have := h1 j hj
    simp only [Bool.and_eq_true] at this
    have := (List.all_eq_true.1 this.2.1) c hc
    rcases he with e | e <;> simp [e] at this <;> exact this
  · have := h1 j hj
    simp only [Bool.and_eq_true, decide_eq_true_eq] at this
    exact this.1
  · have := h1 j hj
    simp only [Bool.and_eq_true] at this
    have h2 := this.2.2.1
    cases ho : ops[j.i]? with
    | none => rw [ho] at h2; cases h2
    | some o =>
      rw [ho] at h2
      simp only [Bool.and_eq_true] at h2
      refine ⟨o, rfl, fun u hu => ?_, fun e he hb => ?_⟩
      · have := (List.all_eq_true.1 h2.1) u hu
        obtain ⟨i, hi, hp⟩ := Array.any_eq_true.1 this
        simp only [Bool.and_eq_true, decide_eq_true_eq] at hp
        exact ⟨o.after[i], Array.getElem_mem hi, hp.1, hp.2⟩
      · have := Array.all_eq_true_iff_forall_mem.1 h2.2 e he
        simpa [hb] using this
  · have := h1 j hj
    simp only [Bool.and_eq_true] at this
    have := (List.all_eq_true.1 ((List.all_eq_true.1 this.2.2.2) u hu)) c hc
    simpa [huc] using this

section
variable {P : Program} {l : List Oper} {md : Region.Mode} {S : World → Prop} {Q : Exit → Act → World → Prop} {n : Nat}
  {js : List Job} {R : Nat → Value → World → Prop} {own : Value → List Nat} {a0 : Act} {w0 : World}
structure RInv (md : Region.Mode) (l : List Oper) (n : Nat) (js : List Job) (R : Nat → Value → World → Prop) (own : Value → List Nat) (a0 : Act) (w0 : World) (L : Array Bool) (a : Act) (w : World) : Prop where
  head : HeadInv md l.toArray n L
  agr : Agr js a0 a
  bel : Below w0.heap.size w0 w
  oth : ∀ i, i < n → (∀ j ∈ js, j.i ≠ i) → L.getD i true = true
  good : ∀ j ∈ js, liveJ js L j → R j.i (slotOf j a) w ∧ ∀ b ∈ own (slotOf j a), w0.heap.size ≤ b ∧ b < w.heap.size
  sep : ∀ j ∈ js, ∀ c ∈ js, liveJ js L j → liveJ js L c → j.i ≠ c.i → ∀ b ∈ own (slotOf j a), b ∉ own (slotOf c a)
def finL (l : List Oper) (n : Nat) : Array Bool := ((List.range l.length).map fun i => decide (i < n)).toArray
theorem agr_put {a : Act} {j : Job} {v : Value} (hj : j ∈ js) (h : Agr js a0 a) : Agr js a0 (a.put (some j.d) v) := by
  obtain ⟨h1, h2, h3⟩ := h
  refine ⟨?_, h2, fun t ht => ?_⟩
  · simp only [Act.put, Array.size_setIfInBounds]; exact h1
  · simp only [Act.put]
    rw [Array.getElem?_setIfInBounds_ne (ht j hj)]
    exact h3 t ht
theorem slot_put_self {a : Act} {j : Job} {v : Value} (h : j.d < a.tmps.size) : slotOf j (a.put (some j.d) v) = v := by
  unfold slotOf; simp [Act.put, h]
theorem slot_put_ne {a : Act} {j c : Job} {v : Value} (h : c.d ≠ j.d) : slotOf c (a.put (some j.d) v) = slotOf c a := by
  unfold slotOf; simp only [Act.put]
  rw [Array.getD_eq_getD_getElem?, Array.getD_eq_getD_getElem?, Array.getElem?_setIfInBounds_ne (Ne.symm h)]
theorem fin_eq {L : Array Bool} (hz : L.size = l.length) (h1 : ∀ i, i < n → L.getD i true = true) (h2 : ∀ i, n ≤ i → i < l.length → L.getD i true = false) : L = finL l n := by
  apply Array.ext
  · simp [finL, hz]
  · intro i hi hi2
    have hil : i < l.length := by rw [← hz]; exact hi
    have e : L[i] = L.getD i true := by simp [hi]
    have e2 : (finL l n)[i] = decide (i < n) := by simp [finL]
    rw [e, e2]
    by_cases h : i < n
    · rw [h1 i h]; simp [h]
    · rw [h2 i (by omega) hil]; simp [h]
theorem cnt_set {L : Array Bool} {i : Nat} (hi : i < L.size) (h : L.getD i true = false) : (L.setIfInBounds i true).toList.count false + 1 = L.toList.count false := by
  have e : L.toList[i]'(by simpa using hi) = false := by simpa [hi] using h
  have hpos : 0 < L.toList.count false := List.count_pos_iff.2 (by rw [← e]; exact List.getElem_mem _)
  rw [Array.toList_setIfInBounds, List.count_set (by simpa using hi), e]
  rw [if_pos (show (false == false) = true from rfl), if_neg (show ¬ (true == false) = true by decide)]
  omega
/-- The first job that is left. -/
theorem job_min (L : Array Bool) : ∀ m, (∃ j ∈ js, j.i < m ∧ L.getD j.i true = false) → ∃ j ∈ js, L.getD j.i true = false ∧ ∀ c ∈ js, c.i < j.i → L.getD c.i true = true := by
  intro m
  induction m with
  | zero => rintro ⟨j, _, h, _⟩; omega
  | succ m ih =>
    rintro ⟨j, hj, h, hL⟩
    by_cases he : ∃ c ∈ js, c.i < m ∧ L.getD c.i true = false
    · exact ih he
    · refine ⟨j, hj, hL, fun c hc hci => ?_⟩
      cases hq : L.getD c.i true with
      | true => rfl
      | false => exact absurd ⟨c, hc, by omega, hq⟩ he
theorem wpAnyT_jobs (hJ : JobsOk md l.toArray n a0.tmps.size js) (hs : Region.sinkB md l.toArray n = true) (hc : Region.chainB md l.toArray n = true) (hn : n < l.length)
    (hseq : Region.seqB md l.toArray (l.length - n) n (finL l n) = true) (hfin : (finL l n).toList.count false = l.length - n)
    (hS : ∀ w, Below w0.heap.size w0 w → S w)
    (stab : ∀ i v w w', R i v w → (∀ b ∈ own v, w'.heap[b]? = w.heap[b]?) → w.heap.size ≤ w'.heap.size → R i v w')
    (hwant : ∀ j ∈ js, ∀ o, l.toArray[j.i]? = some o → ∀ a, Agr js a0 a → Region.wanted o (yielded l.toArray a.tmps) = true)
    (hstep : ∀ j ∈ js, ∀ o, l.toArray[j.i]? = some o → ∀ a w, Agr js a0 a → Below w0.heap.size w0 w →
      (∀ c ∈ js, c.i ∈ j.use → R c.i (slotOf c a) w ∧ ∀ b ∈ own (slotOf c a), w0.heap.size ≤ b ∧ b < w.heap.size) →
      (∀ c ∈ js, ∀ c' ∈ js, c.i ∈ j.use → c'.i ∈ j.use → c.i ≠ c'.i → ∀ b ∈ own (slotOf c a), b ∉ own (slotOf c' a)) →
      o.wp P a w (fun a' w' => ∃ v, a' = a.put (some j.d) v ∧ R j.i v w' ∧ Below w0.heap.size w0 w' ∧ w.heap.size ≤ w'.heap.size ∧
        (∀ b, b < w.heap.size → (∀ c ∈ js, c.i ∈ j.use → b ∉ own (slotOf c a)) → w'.heap[b]? = w.heap[b]?) ∧
        ∀ b ∈ own v, w0.heap.size ≤ b ∧ b < w'.heap.size ∧ ((∃ c ∈ js, c.i ∈ j.use ∧ b ∈ own (slotOf c a)) ∨ w.heap.size ≤ b)) Q)
    (hend : ∀ a w, Agr js a0 a → Below w0.heap.size w0 w → (∀ j ∈ js, (∀ c ∈ js, j.i ∉ c.use) → R j.i (slotOf j a) w) → wpList P l.toArray Q (l.drop n) a w) :
    ∀ fuel L a w, RInv md l n js R own a0 w0 L a w → L.toList.count false = fuel → wpAnyT P md l.toArray Q S n fuel L a w := by
  intro fuel
  induction fuel with
  | zero =>
    intro L a w inv hcnt
    exfalso
    have hz := inv.head.size
    have h1 := inv.head.tail n (Nat.le_refl _) (by simpa using hn)
    have hnl : n < L.size := by rw [hz]; simpa using hn
    have : false ∈ L.toList := by
      have e : L[n] = false := by simpa [hnl] using h1
      rw [← e]; exact Array.mem_toList_iff.2 (Array.getElem_mem hnl)
    have := List.count_pos_iff.2 this
    omega
  | succ fuel ih =>
    intro L a w inv hcnt
    have hz : L.size = l.length := by simpa using inv.head.size
    by_cases hall : ∀ j ∈ js, L.getD j.i true = true
    · have hL : L = finL l n := fin_eq hz (fun i hi => by
        by_cases h : ∃ j ∈ js, j.i = i
        · obtain ⟨j, hj, rfl⟩ := h; exact hall j hj
        · exact inv.oth i hi (fun j hj e => h ⟨j, hj, e⟩)) (fun i h1 h2 => inv.head.tail i h1 (by simpa using h2))
      have hfu : l.length - n = fuel + 1 := by rw [← hcnt, hL, hfin]
      have hE := hend a w inv.agr inv.bel (fun j hj hno => (inv.good j hj ⟨hall j hj, fun c hc hu => absurd hu (hno c hc)⟩).1)
      have hlist : ∀ i, i < n → L.getD i true = true := fun i hi => by
        by_cases h : ∃ j ∈ js, j.i = i
        · obtain ⟨j, hj, rfl⟩ := h; exact hall j hj
        · exact inv.oth i hi (fun j hj e => h ⟨j, hj, e⟩)
      rw [← hfu]
      refine wpAnyT_of _ _ _ _ hlist ?_
      rw [hL]
      have := wpAny_of_seq (md := md) (ops := l.toArray) (Q' := Q) (l.drop n) n (finL l n) a w (fun j => by simp [List.getElem?_drop]) (by rw [List.length_drop]; exact hseq) hE
      rwa [List.length_drop] at this
    · obtain ⟨j0, hj0, hL0⟩ : ∃ j ∈ js, L.getD j.i true = false := by
        refine Classical.byContradiction fun h => hall fun j hj => ?_
        cases hq : L.getD j.i true with
        | true => rfl
        | false => exact absurd ⟨j, hj, hq⟩ h
      refine ⟨fun he => ?_, fun i hi => ?_⟩
      · obtain ⟨j, hj, hjL, hmin⟩ := job_min L (j0.i + 1) ⟨j0, hj0, by omega, hL0⟩
        obtain ⟨o, ho, _, haf⟩ := hJ.aft j hj
        have : j.i ∈ Region.ready md l.toArray L := mem_ready.2 ⟨hjL, o, ho, fun e hee hb => by
          have h1 := haf e hee hb
          have h2 : e.on < n := by have := (hJ.inn j hj).1; omega
          have h3 : L.getD e.on true = true := by
            by_cases h : ∃ c ∈ js, c.i = e.on
            · obtain ⟨c, hc, h4⟩ := h; rw [← h4]; exact hmin c hc (by omega)
            · exact inv.oth _ h2 (fun c hc e' => h ⟨c, hc, e'⟩)
          have h4 : e.on < L.size := by omega
          simpa [h4] using h3⟩
        rw [he] at this; cases this
      · have hr := mem_ready.1 hi
        obtain ⟨hiL, o, ho, hdep⟩ := hr
        have hin : i < n := by
          rcases Nat.lt_or_ge i n with h | h
          · exact h
          · exact absurd hi (tail_waits hs hc (by simpa using hn) inv.head _ j0.i rfl (hJ.inn j0 hj0).1 hL0 i h)
        have hjx : ∃ j ∈ js, j.i = i := Classical.byContradiction fun h => by
          have := inv.oth i hin (fun j hj e => h ⟨j, hj, e⟩)
          rw [this] at hiL; cases hiL
        obtain ⟨j, hj, rfl⟩ := hjx
        have hjsz : j.i < L.size := by rw [hz]; omega
        obtain ⟨o', ho', hus, haf⟩ := hJ.aft j hj
        have hoo : o' = o := by rw [ho'] at ho; exact Option.some.inj ho
        subst hoo
        have huse : ∀ c ∈ js, c.i ∈ j.use → liveJ js L c := fun c hc hcu => by
          obtain ⟨e, he, hb, heq⟩ := hus _ hcu
          have h1 := hdep e he hb
          rw [heq] at h1
          refine ⟨?_, fun c' hc' hu' => ?_⟩
          · by_cases h : c.i < L.size
            · simpa [h] using h1
            · simp [h]
          · rw [hJ.uses j hj _ hcu c' hc' hu']; exact hiL
        have hst := hstep j hj o' ho' a w inv.agr inv.bel (fun c hc hcu => inv.good c hc (huse c hc hcu)) (fun c hc c' hc' h1 h2 hne => inv.sep c hc c' hc' (huse c hc h1) (huse c' hc' h2) hne)
        unfold wpOp
        rw [ho']
        simp only [hwant j hj o' ho' a inv.agr, if_true]
        left
        refine Oper.wp_mono (fun a' w' hx => ?_) hst
        obtain ⟨v, rfl, hR, hbel, hsz, hkeep, hown⟩ := hx
        refine ⟨fun _ => hS _ hbel, ih _ _ _ ?_ ?_⟩
        · have hjd : j.d < a.tmps.size := by rw [inv.agr.1]; exact (hJ.inn j hj).2
          -- a job that lives on
          have old : ∀ c ∈ js, c.i ≠ j.i → liveJ js (L.setIfInBounds j.i true) c → liveJ js L c ∧ c.i ∉ j.use := fun c hc hne hlv => by
            obtain ⟨h1, h2⟩ := hlv
            have hnu : c.i ∉ j.use := fun hu => by
              have := h2 j hj hu
              rw [show (L.setIfInBounds j.i true).getD j.i true = true by simp [hjsz]] at this
              cases this
            refine ⟨⟨by rwa [getD_set_ne true (Ne.symm hne)] at h1, fun c' hc' hu => ?_⟩, hnu⟩
            have h3 := h2 c' hc' hu
            by_cases e : c'.i = j.i
            · rw [e] at h3
              rw [show (L.setIfInBounds j.i true).getD j.i true = true by simp [hjsz]] at h3
              cases h3
            · rwa [getD_set_ne true (Ne.symm e)] at h3
          have hslot : ∀ c ∈ js, c.i ≠ j.i → slotOf c (a.put (some j.d) v) = slotOf c a := fun c hc hne => slot_put_ne (fun e => hne (by rw [hJ.idx c hc j hj (.inr e)]))
          refine ⟨inv.head.set hi hin, agr_put hj inv.agr, hbel, fun i hi2 hno => ?_, fun c hc hlv => ?_, fun c hc c' hc' hl1 hl2 hne b hb => ?_⟩
          · rw [getD_set_ne true (hno j hj)]; exact inv.oth i hi2 hno
          · by_cases e : c.i = j.i
            · obtain rfl := hJ.idx c hc j hj (.inl e)
              rw [slot_put_self hjd]
              exact ⟨hR, fun b hb => ⟨(hown b hb).1, (hown b hb).2.1⟩⟩
            · obtain ⟨h1, h2⟩ := old c hc e hlv
              obtain ⟨g1, g2⟩ := inv.good c hc h1
              rw [hslot c hc e]
              refine ⟨stab _ _ _ _ g1 (fun b hb => hkeep b (g2 b hb).2 (fun c' hc' hu' hb' => ?_)) hsz, fun b hb => ⟨(g2 b hb).1, by have := (g2 b hb).2; omega⟩⟩
              exact inv.sep c hc c' hc' h1 (huse c' hc' hu') (fun e' => h2 (by rw [e']; exact hu')) b hb hb'
          · by_cases e : c.i = j.i
            · obtain rfl := hJ.idx c hc j hj (.inl e)
              rw [slot_put_self hjd] at hb
              have hne' : c'.i ≠ c.i := Ne.symm hne
              obtain ⟨h1, h2⟩ := old c' hc' hne' hl2
              rw [hslot c' hc' hne']
              intro hb2
              rcases (hown b hb).2.2 with ⟨x, hx, hxu, hbx⟩ | hge
              · exact inv.sep x hx c' hc' (huse x hx hxu) h1 (fun e' => h2 (by rw [← e']; exact hxu)) b hbx hb2
              · have := ((inv.good c' hc' h1).2 b hb2).2; omega
            · obtain ⟨h1, h2⟩ := old c hc e hl1
              rw [hslot c hc e] at hb
              by_cases e' : c'.i = j.i
              · obtain rfl := hJ.idx c' hc' j hj (.inl e')
                rw [slot_put_self hjd]
                intro hb2
                rcases (hown b hb2).2.2 with ⟨x, hx, hxu, hbx⟩ | hge
                · exact inv.sep x hx c hc (huse x hx hxu) h1 (fun e9 => h2 (by rw [← e9]; exact hxu)) b hbx hb
                · have := ((inv.good c hc h1).2 b hb).2; omega
              · obtain ⟨h3, h4⟩ := old c' hc' e' hl2
                rw [hslot c' hc' e']
                exact inv.sep c hc c' hc' h1 h3 hne b hb
        · have := cnt_set hjsz hiL
          omega
end
end Go.Proofs.YtaieidigpilbfaaGreat

namespace Go.Proofs.YtaieidigpilbfaaGreat
open Go Go.RowKit
set_option maxHeartbeats 1000000
set_option maxRecDepth 100000

theorem puts_agr (a : Act) : ∀ (ks : List Nat) (a0 : Act), a.tmps.size = a0.tmps.size → a.defers = a0.defers → (∀ t, t ∉ ks → a.tmps[t]? = a0.tmps[t]?) → puts a0 (ks.map fun k => (k, a.tmps.getD k undef)) = a := by
  intro ks
  induction ks with
  | nil =>
    intro a0 h1 h2 h3
    simp only [List.map_nil, puts]
    obtain ⟨t, d⟩ := a; obtain ⟨t0, d0⟩ := a0
    simp only at h1 h2 h3
    subst h2
    congr 1
    apply Array.ext
    · exact h1.symm
    · intro i hi hi2
      have := h3 i (by simp)
      rw [Array.getElem?_eq_getElem hi, Array.getElem?_eq_getElem hi2] at this
      exact (Option.some.inj this).symm
  | cons k ks ih =>
    intro a0 h1 h2 h3
    simp only [List.map_cons, puts]
    refine ih _ (by simp [Act.put, h1]) (by simp [Act.put, h2]) (fun t ht => ?_)
    simp only [Act.put]
    by_cases e : t = k
    · subst e
      by_cases hs : t < a0.tmps.size
      · have hs2 : t < a.tmps.size := by rw [h1]; exact hs
        simp [hs, hs2]
      · have hs2 : ¬ t < a.tmps.size := by rw [h1]; exact hs
        rw [Array.getElem?_eq_none (by omega), Array.getElem?_eq_none (by simp; omega)]
    · rw [Array.getElem?_setIfInBounds_ne (Ne.symm e)]
      exact h3 t (by simp [e, ht])
theorem agr_puts {js : List Job} {a0 a : Act} (h : Agr js a0 a) : puts a0 ((js.map (·.d)).map fun k => (k, a.tmps.getD k undef)) = a :=
  puts_agr a _ _ h.1 h.2.1 (fun t ht => h.2.2 t (fun j hj e => ht (List.mem_map.2 ⟨j, hj, e⟩)))
theorem agr_eval {js : List Job} {a0 a : Act} (h : Agr js a0 a) {t : Nat} (ht : ∀ j ∈ js, j.d ≠ t) : a.eval (.tmp t) = a0.eval (.tmp t) := by
  have := h.2.2 t ht
  simp only [Act.eval]
  rw [Array.getD_eq_getD_getElem?, Array.getD_eq_getD_getElem?, this]
def ownL (v : Value) : List Nat := v.ownBlock.toList
theorem OI.stab {w w' : World} {base : Nat} {v : Value} {x : List Int} (h : OI w base v x) (hb : ∀ b ∈ ownL v, w'.heap[b]? = w.heap[b]?) : OI w' base v x :=
  ⟨own_keepB (B := 0) h.h fun g hg _ => hb g (by unfold ownL; rw [hg]; simp)⟩
theorem OI.ownB {w : World} {base : Nat} {v : Value} {x : List Int} (h : OI w base v x) : ∀ b ∈ ownL v, base ≤ b ∧ b < w.heap.size := by
  intro b hb
  unfold ownL at hb
  rcases h.h.2 with ⟨rfl, _⟩ | ⟨g, cap, cur, rfl, hge, hg, _⟩
  · cases hb
  · simp [Value.ownBlock] at hb
    subst hb
    exact ⟨hge, (Array.getElem?_eq_some_iff.1 hg).1⟩
/-- What a job does. -/
def Did (js : List Job) (R : Nat → Value → World → Prop) (own : Value → List Nat) (w0 : World) (j : Job) (a : Act) (w : World) (a' : Act) (w' : World) : Prop :=
  ∃ v, a' = a.put (some j.d) v ∧ R j.i v w' ∧ Below w0.heap.size w0 w' ∧ w.heap.size ≤ w'.heap.size ∧
    (∀ b, b < w.heap.size → (∀ c ∈ js, c.i ∈ j.use → b ∉ own (slotOf c a)) → w'.heap[b]? = w.heap[b]?) ∧
    ∀ b ∈ own v, w0.heap.size ≤ b ∧ b < w'.heap.size ∧ ((∃ c ∈ js, c.i ∈ j.use ∧ b ∈ own (slotOf c a)) ∨ w.heap.size ≤ b)
/-- A list is appended to one's own. -/
theorem job_app {o : Oper} {a : Act} {w : World} {Q : Exit → Act → World → Prop} {base t : Nat} {v : Value} {l : List Int} (hd : o.dst = some t) (s x : Operand) (ho : o.op = .call { callee := .builtin .append, args := #[s, x], argTypes := #[22, 22] })
    (hs : a.eval s = v) (K : OI w base v l) {B : Option Addr} {m c : Nat} {r : List Int} (hx : a.eval x = .slice B m c) (hI : Is w B m r) (hn : l.length + m ≤ 1000000000) (hb : base ≤ w.heap.size) :
    o.wp Tryz.prog a w (fun a' w' => ∃ v', a' = a.put (some t) v' ∧ OI w' base v' (l ++ r) ∧ Below base w w' ∧ w.heap.size ≤ w'.heap.size ∧ (∀ b, b < w.heap.size → b ∉ ownL v → w'.heap[b]? = w.heap[b]?) ∧ ∀ b ∈ ownL v', base ≤ b ∧ b < w'.heap.size ∧ (b ∈ ownL v ∨ w.heap.size ≤ b)) Q := by
  have hml := hI.len
  by_cases hm : m = 0
  · have hr : r = [] := List.eq_nil_of_length_eq_zero (by omega)
    subst hr
    subst hm
    have hob := K.ownB
    refine Lib.wp_append_run _ _ _ _ _ ho _ _ hs hx _ _ (run_append_empty _ _ _ _ _ _ _ _ K.h) ⟨v, by rw [hd], by rw [List.append_nil]; exact K, Below.refl _ _, Nat.le_refl _, fun _ _ _ => rfl, fun b hb => ⟨(hob b hb).1, (hob b hb).2, .inl hb⟩⟩
  · obtain ⟨i0, hi, hz0, hz1, hz2⟩ := info_parts info3
    obtain ⟨b, ob, rfl, _, _⟩ := hI.get 0 (by omega)
    refine wp_append_lies _ s x 22 ho base 3 i0 (.int .i64 0) 1 8 Tryz.underlying22 hi hz0 hz1 hz2 rfl (by decide) v l.length (ints l) hs K.h ⟨b, ob, none⟩ m c (ints r) hx (by simp [ints, hml]) ?_ ?_ (by omega) (by unfold maxLen; omega) (by omega) hb w.heap.size rfl ?_
    · intro j u hu
      have hj : j < r.length := by have := (List.getElem?_eq_some_iff.1 hu).1; simpa [ints] using this
      obtain ⟨b2, o2, e, _, hc⟩ := hI.get j hj
      cases e
      rw [Addr.add_lit, hc]
      simpa [ints, hj] using hu
    · intro u hu; simp [ints] at hu; obtain ⟨z, _, rfl⟩ := hu; rfl
    · intro g cap w' h1 h2 h3 h4
      have h5 : OI w' base (.slice (some ⟨g, 0, none⟩) (l.length + m) cap) (l ++ r) := ⟨by rw [List.length_append, ← hml, show ints (l ++ r) = ints l ++ ints r by simp [ints]]; exact h1⟩
      have hbl := below_grown K.h hb h2
      refine ⟨_, by rw [hd], h5, hbl, h2.size, fun b hlt hne => h2.block b hlt (fun q => hne (by unfold ownL; rw [← q]; simp)), fun b hbb => ?_⟩
      obtain ⟨g1, g2⟩ := h5.ownB b hbb
      refine ⟨g1, g2, ?_⟩
      have e : b = g := by unfold ownL at hbb; simpa [Value.ownBlock] using hbb
      subst e
      rcases h3 with h3 | h3
      · left; unfold ownL; rw [h3]; simp
      · right; omega
theorem make0_run {o : Oper} {a : Act} {w : World} {K : Act → World → Prop} {Q : Exit → Act → World → Prop} {t : Nat} (hd : o.dst = some t) (ho : o.op = .buildSlice 22 0 #[]) (h : K (a.put (some t) (.slice (some ⟨w.heap.size, 0, none⟩) 0 0)) (w.alloc (.cells #[] 3))) : o.wp Tryz.prog a w K Q := by
  obtain ⟨dst, op, ty, pos, af, gd⟩ := o
  simp only at ho hd
  subst ho; subst hd
  go_wp2_with fail
  exact h
/-- An empty list is made. -/
theorem job_make0 {o : Oper} {a : Act} {w : World} {Q : Exit → Act → World → Prop} {base t : Nat} (hd : o.dst = some t) (ho : o.op = .buildSlice 22 0 #[]) (hb : base ≤ w.heap.size) :
    o.wp Tryz.prog a w (fun a' w' => ∃ v', a' = a.put (some t) v' ∧ OI w' base v' [] ∧ Below base w w' ∧ w.heap.size ≤ w'.heap.size ∧ (∀ b, b < w.heap.size → w'.heap[b]? = w.heap[b]?) ∧ ∀ b ∈ ownL v', base ≤ b ∧ b < w'.heap.size ∧ w.heap.size ≤ b) Q := by
  have hu := up_alloc w (.cells #[] 3)
  have ho2 : OI (w.alloc (.cells #[] 3)) base (.slice (some ⟨w.heap.size, 0, none⟩) 0 0) [] := ⟨World.ownsRow_made w #[] 0 hb (by unfold maxLen; omega) rfl⟩
  refine make0_run hd ho ⟨_, rfl, ho2, hu.mono hb, hu.size, fun b hlt => hu.block b hlt, fun b hbb => ?_⟩
  have e : b = w.heap.size := by unfold ownL at hbb; simpa [Value.ownBlock] using hbb
  subst e
  exact ⟨hb, by simp, Nat.le_refl _⟩
theorem make1_run {o : Oper} {a : Act} {w : World} {K : Act → World → Prop} {Q : Exit → Act → World → Prop} {t s : Nat} {x : Int} (hd : o.dst = some t) (ho : o.op = .buildSlice 22 1 #[(0, .tmp s)]) (hx : a.eval (.tmp s) = .int .i64 x) (h : K (a.put (some t) (.slice (some ⟨w.heap.size, 0, none⟩) 1 1)) (w.alloc (.cells #[.int .i64 x] 3))) : o.wp Tryz.prog a w K Q := by
  obtain ⟨dst, op, ty, pos, af, gd⟩ := o
  simp only at ho hd
  subst ho; subst hd
  have hx2 : a.tmps[s]?.getD undef = .int .i64 x := by rw [← Array.getD_eq_getD_getElem?]; exact hx
  go_wp2_with fail
  exact h
/-- A list of one number is made. -/
theorem job_make1 {o : Oper} {a : Act} {w : World} {Q : Exit → Act → World → Prop} {base t s : Nat} {x : Int} (hd : o.dst = some t) (ho : o.op = .buildSlice 22 1 #[(0, .tmp s)]) (hx : a.eval (.tmp s) = .int .i64 x) (hb : base ≤ w.heap.size) :
    o.wp Tryz.prog a w (fun a' w' => ∃ v', a' = a.put (some t) v' ∧ OI w' base v' [x] ∧ Below base w w' ∧ w.heap.size ≤ w'.heap.size ∧ (∀ b, b < w.heap.size → w'.heap[b]? = w.heap[b]?) ∧ ∀ b ∈ ownL v', base ≤ b ∧ b < w'.heap.size ∧ w.heap.size ≤ b) Q := by
  have hu := up_alloc w (.cells #[.int .i64 x] 3)
  have ho2 : OI (w.alloc (.cells #[.int .i64 x] 3)) base (.slice (some ⟨w.heap.size, 0, none⟩) 1 1) [x] := ⟨⟨rfl, .inr ⟨w.heap.size, 1, #[.int .i64 x], rfl, hb, heap_alloc_new w _, Nat.le_refl _, by unfold maxLen; omega, rfl, rfl⟩⟩⟩
  refine make1_run hd ho hx ⟨_, rfl, ho2, hu.mono hb, hu.size, fun b hlt => hu.block b hlt, fun b hbb => ?_⟩
  have e : b = w.heap.size := by unfold ownL at hbb; simpa [Value.ownBlock] using hbb
  subst e
  exact ⟨hb, by simp, Nat.le_refl _⟩
end Go.Proofs.YtaieidigpilbfaaGreat

namespace Go.Proofs.YtaieidigpilbfaaGreat
open Go Go.RowKit
set_option maxHeartbeats 1000000

theorem takes_at {P : Program} {ops : Array Oper} {S : World → Prop} {G : Act → Prop} {i : Nat} {l : List Nat} {a : Act} {o : Oper} {v : Value} {t : Nat} (ho : ops[i]? = some o) (hd : o.dst = some t) (hw : Region.wanted o (yielded ops a.tmps) = true)
    (hy : ∀ w, S w → (execOp a.eval o).run P w = .ok (.value v) w) (h : wpTakes P ops S G l (a.put (some t) v)) : wpTakes P ops S G (i :: l) a :=
  wpTakes_step ho hw hy (by rw [hd]; exact h)
theorem wp_region_takesH {P : Program} {id : Nat} {Q : Exit → Act → World → Prop} {a : Act} {w : World} {l : List Oper} (n fuel : Nat) (is : List Nat) (hmo : P.follows .mixedOrders = true)
    (hsel : Region.noSelect l.toArray = true) (hs : Region.sinkB .any l.toArray n = true) (hc : Region.chainB .any l.toArray n = true) (hn : n < l.length)
    (hQ : ∀ d v c a w, Q (.panic c) (a.put d v) w → Q (.panic c) a w)
    (hB : takesB .any l.toArray n is (Array.replicate l.length false) = true) (hlen : l.length = fuel + is.length)
    (h : wpTakes P l.toArray (grown w) (fun a' => HeadInv .any l.toArray n (marks is (Array.replicate l.length false)) → wpAnyT P .any l.toArray Q (grown w) n fuel (marks is (Array.replicate l.length false)) a' w.drew) is a) : (Code.region id l.toArray true).wp P Q a w := by
  refine wp_region_any hmo ?_
  refine wpAny_of_T (S := grown w) (n := n) _ _ _ _ ?_
  have inv0 : HeadInv .any l.toArray n (Array.replicate l.length false) :=
    { size := by simp
      closed := fun j oj _ hl => by rw [getD_replicate_false] at hl; cases hl
      tail := fun t _ ht => getD_in (by simpa using ht) (getD_replicate_false _ _) }
  have hw0 : grown w { w with drawn := w.drawn + 1 } := ⟨⟨#[], w.drawn + 1⟩, by simp [grow]⟩
  have key := wpAnyT_takes (P := P) (Q := Q) (S := grown w) (md := .any) hsel hs hc (by simpa using hn) hQ is (Array.replicate l.length false) a { w with drawn := w.drawn + 1 } fuel hB inv0 hw0 h (fun a' hG hI => hG hI)
  rw [← hlen] at key
  simpa using key
theorem rinv_start {l : List Oper} {md : Region.Mode} {n : Nat} {js : List Job} {R : Nat → Value → World → Prop} {own : Value → List Nat} {a0 : Act} {w0 : World} {L : Array Bool} {w : World}
    (hh : HeadInv md l.toArray n L) (hb : Below w0.heap.size w0 w) (h1 : ((List.range n).all fun i => js.any (fun j => decide (j.i = i)) || L.getD i true) = true) (h2 : (js.all fun j => !(L.getD j.i true)) = true) : RInv md l n js R own a0 w0 L a0 w := by
  have no : ∀ j ∈ js, ¬ liveJ js L j := fun j hj hl => by
    have := (List.all_eq_true.1 h2) j hj
    rw [hl.1] at this
    cases this
  refine ⟨hh, ⟨rfl, rfl, fun _ _ => rfl⟩, hb, fun i hi hno => ?_, fun j hj hl => absurd hl (no j hj), fun j hj c _ hl => absurd hl (no j hj)⟩
  have := (List.all_eq_true.1 h1) i (List.mem_range.2 hi)
  rw [Bool.or_eq_true] at this
  rcases this with h | h
  · obtain ⟨j, hj, e⟩ := List.any_eq_true.1 h
    exact absurd (of_decide_eq_true e) (hno j hj)
  · exact h
theorem yielded_agr {js : List Job} {a0 a : Act} {ops : Array Oper} {i t : Nat} (h : Agr js a0 a) (hd : (ops[i]?).bind (·.dst) = some t) (ht : ∀ j ∈ js, j.d ≠ t) : yielded ops a.tmps i = yielded ops a0.tmps i := by
  unfold yielded
  rw [hd]
  simp only [Option.bind_some, h.2.2 t ht]
/-- One guard for all jobs. -/
theorem wanted_agr {js : List Job} {a0 a : Act} {ops : Array Oper} {i t : Nat} {b : Bool} {o : Oper} (h : Agr js a0 a) (hd : (ops[i]?).bind (·.dst) = some t) (ht : (js.all fun j => !decide (j.d = t)) = true) (hy : yielded ops a0.tmps i = some b) (hg : o.guard = some (i, b)) : Region.wanted o (yielded ops a.tmps) = true := by
  have := yielded_agr h hd (fun j hj e => by have := (List.all_eq_true.1 ht) j hj; simp [e] at this)
  simp only [Region.wanted, hg, this, hy]
  simp
end Go.Proofs.YtaieidigpilbfaaGreat

namespace Go.Proofs.YtaieidigpilbfaaGreat
open Go Go.RowKit
set_option maxHeartbeats 1000000

section
variable {js : List Job} {w0 w : World} {j : Job} {o : Oper} {a : Act} {Q : Exit → Act → World → Prop} {l r : List Int}
/-- A list that lies there is appended to the list of an earlier job. -/
theorem did_app {c : Job} (hc : c ∈ js) (hu : c.i ∈ j.use) (hbel : Below w0.heap.size w0 w) (hd : o.dst = some j.d) (x : Operand) (ho : o.op = .call { callee := .builtin .append, args := #[.tmp c.d, x], argTypes := #[22, 22] })
    (K : OI w w0.heap.size (slotOf c a) l) {B : Option Addr} {m k : Nat} (hx : a.eval x = .slice B m k) (hI : Is w B m r) (hn : l.length + m ≤ 1000000000) :
    o.wp Tryz.prog a w (fun a' w' => ∃ v, a' = a.put (some j.d) v ∧ OI w' w0.heap.size v (l ++ r) ∧ Below w0.heap.size w0 w' ∧ w.heap.size ≤ w'.heap.size ∧
      (∀ b, b < w.heap.size → (∀ c ∈ js, c.i ∈ j.use → b ∉ ownL (slotOf c a)) → w'.heap[b]? = w.heap[b]?) ∧
      ∀ b ∈ ownL v, w0.heap.size ≤ b ∧ b < w'.heap.size ∧ ((∃ c ∈ js, c.i ∈ j.use ∧ b ∈ ownL (slotOf c a)) ∨ w.heap.size ≤ b)) Q := by
  refine Oper.wp_mono ?_ (job_app (base := w0.heap.size) hd (.tmp c.d) x ho (v := slotOf c a) rfl K hx hI hn hbel.size)
  rintro a' w' ⟨v, h1, h2, h3, h4, h5, h6⟩
  exact ⟨v, h1, h2, hbel.trans h3, h4, fun b hb hno => h5 b hb (hno c hc hu), fun b hb => ⟨(h6 b hb).1, (h6 b hb).2.1, (h6 b hb).2.2.imp (fun q => ⟨c, hc, hu, q⟩) id⟩⟩
/-- The list of one earlier job is appended to that of another. -/
theorem did_app2 {c e : Job} (hc : c ∈ js) (hu : c.i ∈ j.use) (hbel : Below w0.heap.size w0 w) (hd : o.dst = some j.d) (ho : o.op = .call { callee := .builtin .append, args := #[.tmp c.d, .tmp e.d], argTypes := #[22, 22] })
    (K : OI w w0.heap.size (slotOf c a) l) (K2 : OI w w0.heap.size (slotOf e a) r) (hn : l.length + r.length ≤ 1000000000) :
    o.wp Tryz.prog a w (fun a' w' => ∃ v, a' = a.put (some j.d) v ∧ OI w' w0.heap.size v (l ++ r) ∧ Below w0.heap.size w0 w' ∧ w.heap.size ≤ w'.heap.size ∧
      (∀ b, b < w.heap.size → (∀ c ∈ js, c.i ∈ j.use → b ∉ ownL (slotOf c a)) → w'.heap[b]? = w.heap[b]?) ∧
      ∀ b ∈ ownL v, w0.heap.size ≤ b ∧ b < w'.heap.size ∧ ((∃ c ∈ js, c.i ∈ j.use ∧ b ∈ ownL (slotOf c a)) ∨ w.heap.size ≤ b)) Q := by
  obtain ⟨B, k, hv, _, hI, _⟩ := K2.is
  exact did_app hc hu hbel hd (.tmp e.d) ho K (B := B) (m := r.length) (k := k) hv hI hn
theorem did_make0 (hbel : Below w0.heap.size w0 w) (hd : o.dst = some j.d) (ho : o.op = .buildSlice 22 0 #[]) :
    o.wp Tryz.prog a w (fun a' w' => ∃ v, a' = a.put (some j.d) v ∧ OI w' w0.heap.size v [] ∧ Below w0.heap.size w0 w' ∧ w.heap.size ≤ w'.heap.size ∧
      (∀ b, b < w.heap.size → (∀ c ∈ js, c.i ∈ j.use → b ∉ ownL (slotOf c a)) → w'.heap[b]? = w.heap[b]?) ∧
      ∀ b ∈ ownL v, w0.heap.size ≤ b ∧ b < w'.heap.size ∧ ((∃ c ∈ js, c.i ∈ j.use ∧ b ∈ ownL (slotOf c a)) ∨ w.heap.size ≤ b)) Q := by
  refine Oper.wp_mono ?_ (job_make0 (base := w0.heap.size) hd ho hbel.size)
  rintro a' w' ⟨v, h1, h2, h3, h4, h5, h6⟩
  exact ⟨v, h1, h2, hbel.trans h3, h4, fun b hb _ => h5 b hb, fun b hb => ⟨(h6 b hb).1, (h6 b hb).2.1, .inr (h6 b hb).2.2⟩⟩
theorem did_make1 {s : Nat} {x : Int} (hbel : Below w0.heap.size w0 w) (hd : o.dst = some j.d) (ho : o.op = .buildSlice 22 1 #[(0, .tmp s)]) (hx : a.eval (.tmp s) = .int .i64 x) :
    o.wp Tryz.prog a w (fun a' w' => ∃ v, a' = a.put (some j.d) v ∧ OI w' w0.heap.size v [x] ∧ Below w0.heap.size w0 w' ∧ w.heap.size ≤ w'.heap.size ∧
      (∀ b, b < w.heap.size → (∀ c ∈ js, c.i ∈ j.use → b ∉ ownL (slotOf c a)) → w'.heap[b]? = w.heap[b]?) ∧
      ∀ b ∈ ownL v, w0.heap.size ≤ b ∧ b < w'.heap.size ∧ ((∃ c ∈ js, c.i ∈ j.use ∧ b ∈ ownL (slotOf c a)) ∨ w.heap.size ≤ b)) Q := by
  refine Oper.wp_mono ?_ (job_make1 (base := w0.heap.size) hd ho hx hbel.size)
  rintro a' w' ⟨v, h1, h2, h3, h4, h5, h6⟩
  exact ⟨v, h1, h2, hbel.trans h3, h4, fun b hb _ => h5 b hb, fun b hb => ⟨(h6 b hb).1, (h6 b hb).2.1, .inr (h6 b hb).2.2⟩⟩
end
end Go.Proofs.YtaieidigpilbfaaGreat

namespace Go.Proofs.YtaieidigpilbfaaGreat
open Go Go.RowKit
set_option maxHeartbeats 1000000

section
variable {P : Program} {ops : Array Oper} {Q : Exit → Act → World → Prop} {a : Act} {w : World} {rest : List Oper} {o : Oper} {v : Value} {t : Nat}
theorem list_value (hd : o.dst = some t) (hw : Region.wanted o (yielded ops a.tmps) = true) (hr : (execOp a.eval o).run P w = .ok (.value v) w) (h : wpList P ops Q rest (a.put (some t) v) w) : wpList P ops Q (o :: rest) a w := by
  unfold wpList
  rw [if_pos hw]
  refine .inl ?_
  unfold Oper.wp
  rw [hr, Oper.upon_value, hd]
  exact h
theorem list_enter {f : FuncId} {args : Array Value} {R : World → Prop} (hd : o.dst = some t) (hw : Region.wanted o (yielded ops a.tmps) = true) (hr : (execOp a.eval o).run P w = .ok (.enter f args) w)
    (hc : Calls P f args w fun e w' => e = .returned v ∧ R w') (h : ∀ w', R w' → wpList P ops Q rest (a.put (some t) v) w') : wpList P ops Q (o :: rest) a w := by
  unfold wpList
  rw [if_pos hw]
  refine .inl ?_
  unfold Oper.wp
  rw [hr, Oper.upon_enter, hd]
  refine hc.mono ?_
  rintro e w' ⟨rfl, hR⟩
  exact h w' hR
end
end Go.Proofs.YtaieidigpilbfaaGreat

namespace Go.Proofs.YtaieidigpilbfaaGreat
open Go Go.RowKit
set_option maxHeartbeats 1000000
set_option maxRecDepth 100000

/-- The blocks that a value names. -/
def ownX (v : Value) : List Nat :=
  match v with
  | .slice _ _ _ => ownL v
  | .agg a => a.toList.flatMap ownL
  | .pointer (some p) => [p.block]
  | _ => []
theorem ownX_slice (A : Option Addr) (n c : Nat) : ownX (.slice A n c) = ownL (.slice A n c) := rfl
theorem ownX_two (x y : Value) : ownX (.agg #[x, y]) = ownL x ++ ownL y := by simp [ownX]
theorem OI.ownX {w : World} {base : Nat} {v : Value} {l : List Int} (h : OI w base v l) : ownX v = ownL v := by
  obtain ⟨A, c, rfl⟩ := h.shape; rfl
theorem OK.ownX {w : World} {base : Nat} {v : Value} {l : List Kd} (h : OK w base v l) : ownX v = ownL v := by
  obtain ⟨A, c, rfl⟩ := h.shape; rfl
theorem OK.stab {w w' : World} {base : Nat} {v : Value} {x : List Kd} (h : OK w base v x) (hb : ∀ b ∈ ownL v, w'.heap[b]? = w.heap[b]?) : OK w' base v x :=
  ⟨own_keepB (B := 0) h.h fun g hg _ => hb g (by unfold ownL; rw [hg]; simp)⟩
theorem OK.ownB {w : World} {base : Nat} {v : Value} {x : List Kd} (h : OK w base v x) : ∀ b ∈ ownL v, base ≤ b ∧ b < w.heap.size := by
  intro b hb
  unfold ownL at hb
  rcases h.h.2 with ⟨rfl, _⟩ | ⟨g, cap, cur, rfl, hge, hg, _⟩
  · cases hb
  · simp [Value.ownBlock] at hb
    subst hb
    exact ⟨hge, (Array.getElem?_eq_some_iff.1 hg).1⟩
theorem ks_cells {w : World} {A : Option Addr} {n : Nat} {r : List Kd} (h : Ks w A n r) {b o : Nat} (hA : A = some ⟨b, o, none⟩) {j : Nat} {u : Value} (hu : (kcells r)[j]? = some u) : w.cell? ⟨b, o + j, none⟩ = some u := by
  have hj : j < r.length * 4 := by have := (List.getElem?_eq_some_iff.1 hu).1; rwa [kcells_len] at this
  have hm := Nat.div_add_mod j 4
  have hk : j / 4 < r.length := by omega
  have hr : j % 4 = 0 ∨ j % 4 = 1 ∨ j % 4 = 2 ∨ j % 4 = 3 := by omega
  generalize j / 4 = k at *
  generalize j % 4 = q at *
  subst hm
  obtain ⟨b2, o2, e, _, hc⟩ := h.get k hk
  rw [hA] at e; cases e
  obtain ⟨q0, q1, q2, q3⟩ := kcells_at r k hk
  obtain ⟨c0, c1, c2, c3⟩ := hc
  rw [Nat.mul_comm 4 k] at hu ⊢
  rcases hr with rfl | rfl | rfl | rfl
  · rw [Nat.add_zero] at hu ⊢; rw [q0] at hu; cases hu; exact c0
  · rw [q1] at hu; cases hu; exact c1
  · rw [q2] at hu; cases hu; exact c2
  · rw [q3] at hu; cases hu; exact c3
theorem kcells_one : ∀ (r : List Kd), ∀ u ∈ kcells r, u.oneCell' = true
  | [], u, h => by simp [kcells] at h
  | g :: r, u, h => by
      simp only [kcells, List.cons_append, List.nil_append, List.mem_cons] at h
      rcases h with rfl | rfl | rfl | rfl | h
      · rfl
      · rfl
      · rfl
      · rfl
      · exact kcells_one r u h
theorem kcells_app : ∀ (l r : List Kd), kcells (l ++ r) = kcells l ++ kcells r
  | [], r => rfl
  | g :: l, r => by simp [kcells, kcells_app l r]
/-- A list of kinds is appended to one's own. -/
theorem job_appK {o : Oper} {a : Act} {w : World} {Q : Exit → Act → World → Prop} {base t : Nat} {v : Value} {l : List Kd} (hd : o.dst = some t) (s x : Operand) (ho : o.op = .call { callee := .builtin .append, args := #[s, x], argTypes := #[23, 23] })
    (hs : a.eval s = v) (K : OK w base v l) {B : Option Addr} {m c : Nat} {r : List Kd} (hx : a.eval x = .slice B m c) (hI : Ks w B m r) (hm : 0 < m) (hn : l.length + m ≤ 1000000000) (hb : base ≤ w.heap.size) :
    o.wp Tryz.prog a w (fun a' w' => ∃ v', a' = a.put (some t) v' ∧ OK w' base v' (l ++ r) ∧ Below base w w' ∧ w.heap.size ≤ w'.heap.size ∧ (∀ b, b < w.heap.size → b ∉ ownL v → w'.heap[b]? = w.heap[b]?) ∧ ∀ b ∈ ownL v', base ≤ b ∧ b < w'.heap.size ∧ (b ∈ ownL v ∨ w.heap.size ≤ b)) Q := by
  have hml := hI.len
  obtain ⟨i0, hi, hz0, hz1, hz2⟩ := info_parts info72
  obtain ⟨b, ob, rfl, _, _⟩ := hI.get 0 (by omega)
  refine wp_append_lies _ s x 23 ho base 72 i0 (.agg #[.int .i64 0, .int .i64 0, .int .i64 0, .int .i64 0]) 4 32 Tryz.underlying23 hi hz0 hz1 hz2 rfl (by decide) v l.length (kcells l) hs K.h ⟨b, ob, none⟩ m c (kcells r) hx (by rw [kcells_len, hml]) ?_ (kcells_one r) hm (by unfold maxLen; omega) (by omega) hb w.heap.size rfl ?_
  · intro j u hu
    rw [Addr.add_lit]
    exact ks_cells hI rfl hu
  · intro g cap w' h1 h2 h3 h4
    have h5 : OK w' base (.slice (some ⟨g, 0, none⟩) (l.length + m) cap) (l ++ r) := ⟨by rw [List.length_append, ← hml, kcells_app]; exact h1⟩
    have hbl := below_grown K.h hb h2
    refine ⟨_, by rw [hd], h5, hbl, h2.size, fun b hlt hne => h2.block b hlt (fun q => hne (by unfold ownL; rw [← q]; simp)), fun b hbb => ?_⟩
    obtain ⟨g1, g2⟩ := h5.ownB b hbb
    refine ⟨g1, g2, ?_⟩
    have e : b = g := by unfold ownL at hbb; simpa [Value.ownBlock] using hbb
    subst e
    rcases h3 with h3 | h3
    · left; unfold ownL; rw [h3]; simp
    · right; omega
theorem make0K_run {o : Oper} {a : Act} {w : World} {K : Act → World → Prop} {Q : Exit → Act → World → Prop} {t : Nat} (hd : o.dst = some t) (ho : o.op = .buildSlice 23 0 #[]) (h : K (a.put (some t) (.slice (some ⟨w.heap.size, 0, none⟩) 0 0)) (w.alloc (.cells #[] 72))) : o.wp Tryz.prog a w K Q := by
  obtain ⟨dst, op, ty, pos, af, gd⟩ := o
  simp only at ho hd
  subst ho; subst hd
  go_wp2_with fail
  exact h
theorem alloc25_run {o : Oper} {a : Act} {w : World} {K : Act → World → Prop} {Q : Exit → Act → World → Prop} {t : Nat} (hd : o.dst = some t) (ho : o.op = .alloc 25) (h : K (a.put (some t) (.pointer (some ⟨w.heap.size, 0, none⟩))) (w.alloc (.cells #[.slice none 0 0, .slice none 0 0] 25))) : o.wp Tryz.prog a w K Q := by
  obtain ⟨dst, op, ty, pos, af, gd⟩ := o
  simp only at ho hd
  subst ho; subst hd
  go_wp2_with fail
  exact h

section
variable {js : List Job} {w0 w : World} {j : Job} {o : Oper} {a : Act} {Q : Exit → Act → World → Prop}
theorem didX_app {l r : List Int} {c : Job} (hc : c ∈ js) (hu : c.i ∈ j.use) (hbel : Below w0.heap.size w0 w) (hd : o.dst = some j.d) (x : Operand) (ho : o.op = .call { callee := .builtin .append, args := #[.tmp c.d, x], argTypes := #[22, 22] })
    (K : OI w w0.heap.size (slotOf c a) l) {B : Option Addr} {m k : Nat} (hx : a.eval x = .slice B m k) (hI : Is w B m r) (hn : l.length + m ≤ 1000000000) :
    o.wp Tryz.prog a w (fun a' w' => ∃ v, a' = a.put (some j.d) v ∧ OI w' w0.heap.size v (l ++ r) ∧ Below w0.heap.size w0 w' ∧ w.heap.size ≤ w'.heap.size ∧
      (∀ b, b < w.heap.size → (∀ c ∈ js, c.i ∈ j.use → b ∉ ownX (slotOf c a)) → w'.heap[b]? = w.heap[b]?) ∧
      ∀ b ∈ ownX v, w0.heap.size ≤ b ∧ b < w'.heap.size ∧ ((∃ c ∈ js, c.i ∈ j.use ∧ b ∈ ownX (slotOf c a)) ∨ w.heap.size ≤ b)) Q := by
  refine Oper.wp_mono ?_ (job_app (base := w0.heap.size) hd (.tmp c.d) x ho (v := slotOf c a) rfl K hx hI hn hbel.size)
  rintro a' w' ⟨v, h1, h2, h3, h4, h5, h6⟩
  refine ⟨v, h1, h2, hbel.trans h3, h4, fun b hb hno => h5 b hb (by rw [← K.ownX]; exact hno c hc hu), ?_⟩
  rw [h2.ownX]
  exact fun b hb => ⟨(h6 b hb).1, (h6 b hb).2.1, (h6 b hb).2.2.imp (fun q => ⟨c, hc, hu, by rw [K.ownX]; exact q⟩) id⟩
theorem didX_appK {l r : List Kd} {c : Job} (hc : c ∈ js) (hu : c.i ∈ j.use) (hbel : Below w0.heap.size w0 w) (hd : o.dst = some j.d) (x : Operand) (ho : o.op = .call { callee := .builtin .append, args := #[.tmp c.d, x], argTypes := #[23, 23] })
    (K : OK w w0.heap.size (slotOf c a) l) {B : Option Addr} {m k : Nat} (hx : a.eval x = .slice B m k) (hI : Ks w B m r) (hm : 0 < m) (hn : l.length + m ≤ 1000000000) :
    o.wp Tryz.prog a w (fun a' w' => ∃ v, a' = a.put (some j.d) v ∧ OK w' w0.heap.size v (l ++ r) ∧ Below w0.heap.size w0 w' ∧ w.heap.size ≤ w'.heap.size ∧
      (∀ b, b < w.heap.size → (∀ c ∈ js, c.i ∈ j.use → b ∉ ownX (slotOf c a)) → w'.heap[b]? = w.heap[b]?) ∧
      ∀ b ∈ ownX v, w0.heap.size ≤ b ∧ b < w'.heap.size ∧ ((∃ c ∈ js, c.i ∈ j.use ∧ b ∈ ownX (slotOf c a)) ∨ w.heap.size ≤ b)) Q := by
  refine Oper.wp_mono ?_ (job_appK (base := w0.heap.size) hd (.tmp c.d) x ho (v := slotOf c a) rfl K hx hI hm hn hbel.size)
  rintro a' w' ⟨v, h1, h2, h3, h4, h5, h6⟩
  refine ⟨v, h1, h2, hbel.trans h3, h4, fun b hb hno => h5 b hb (by rw [← K.ownX]; exact hno c hc hu), ?_⟩
  rw [h2.ownX]
  exact fun b hb => ⟨(h6 b hb).1, (h6 b hb).2.1, (h6 b hb).2.2.imp (fun q => ⟨c, hc, hu, by rw [K.ownX]; exact q⟩) id⟩
theorem didX_make0 (hbel : Below w0.heap.size w0 w) (hd : o.dst = some j.d) (ho : o.op = .buildSlice 22 0 #[]) :
    o.wp Tryz.prog a w (fun a' w' => ∃ v, a' = a.put (some j.d) v ∧ OI w' w0.heap.size v [] ∧ Below w0.heap.size w0 w' ∧ w.heap.size ≤ w'.heap.size ∧
      (∀ b, b < w.heap.size → (∀ c ∈ js, c.i ∈ j.use → b ∉ ownX (slotOf c a)) → w'.heap[b]? = w.heap[b]?) ∧
      ∀ b ∈ ownX v, w0.heap.size ≤ b ∧ b < w'.heap.size ∧ ((∃ c ∈ js, c.i ∈ j.use ∧ b ∈ ownX (slotOf c a)) ∨ w.heap.size ≤ b)) Q := by
  refine Oper.wp_mono ?_ (job_make0 (base := w0.heap.size) hd ho hbel.size)
  rintro a' w' ⟨v, h1, h2, h3, h4, h5, h6⟩
  refine ⟨v, h1, h2, hbel.trans h3, h4, fun b hb _ => h5 b hb, ?_⟩
  rw [h2.ownX]
  exact fun b hb => ⟨(h6 b hb).1, (h6 b hb).2.1, .inr (h6 b hb).2.2⟩
theorem didX_make0K (hbel : Below w0.heap.size w0 w) (hd : o.dst = some j.d) (ho : o.op = .buildSlice 23 0 #[]) :
    o.wp Tryz.prog a w (fun a' w' => ∃ v, a' = a.put (some j.d) v ∧ OK w' w0.heap.size v [] ∧ Below w0.heap.size w0 w' ∧ w.heap.size ≤ w'.heap.size ∧
      (∀ b, b < w.heap.size → (∀ c ∈ js, c.i ∈ j.use → b ∉ ownX (slotOf c a)) → w'.heap[b]? = w.heap[b]?) ∧
      ∀ b ∈ ownX v, w0.heap.size ≤ b ∧ b < w'.heap.size ∧ ((∃ c ∈ js, c.i ∈ j.use ∧ b ∈ ownX (slotOf c a)) ∨ w.heap.size ≤ b)) Q := by
  have hu := up_alloc w (.cells #[] 72)
  have ho2 : OK (w.alloc (.cells #[] 72)) w0.heap.size (.slice (some ⟨w.heap.size, 0, none⟩) 0 0) [] := ⟨World.ownsRow_made w #[] 0 hbel.size (by unfold maxLen; omega) rfl⟩
  refine make0K_run hd ho ⟨_, rfl, ho2, hbel.trans (hu.mono hbel.size), hu.size, fun b hlt _ => hu.block b hlt, fun b hbb => ?_⟩
  rw [ho2.ownX] at hbb
  have e : b = w.heap.size := by unfold ownL at hbb; simpa [Value.ownBlock] using hbb
  subst e
  exact ⟨hbel.size, by simp, .inr (Nat.le_refl _)⟩
theorem didX_alloc25 (hbel : Below w0.heap.size w0 w) (hd : o.dst = some j.d) (ho : o.op = .alloc 25) :
    o.wp Tryz.prog a w (fun a' w' => ∃ v, a' = a.put (some j.d) v ∧ (∃ b, v = .pointer (some ⟨b, 0, none⟩) ∧ w0.heap.size ≤ b ∧ Bx w' b 25 [.slice none 0 0, .slice none 0 0]) ∧ Below w0.heap.size w0 w' ∧ w.heap.size ≤ w'.heap.size ∧
      (∀ b, b < w.heap.size → (∀ c ∈ js, c.i ∈ j.use → b ∉ ownX (slotOf c a)) → w'.heap[b]? = w.heap[b]?) ∧
      ∀ b ∈ ownX v, w0.heap.size ≤ b ∧ b < w'.heap.size ∧ ((∃ c ∈ js, c.i ∈ j.use ∧ b ∈ ownX (slotOf c a)) ∨ w.heap.size ≤ b)) Q := by
  have hu := up_alloc w (.cells #[.slice none 0 0, .slice none 0 0] 25)
  refine alloc25_run hd ho ⟨_, rfl, ⟨_, rfl, hbel.size, Bx.new _ _ _⟩, hbel.trans (hu.mono hbel.size), hu.size, fun b hlt _ => hu.block b hlt, fun b hbb => ?_⟩
  have e : b = w.heap.size := by simpa [ownX] using hbb
  subst e
  exact ⟨hbel.size, by simp, .inr (Nat.le_refl _)⟩
theorem build2_run {K : Act → World → Prop} {t p q : Nat} {A B : Option Addr} {n m k d : Nat} (hd : o.dst = some t) (ho : o.op = .build 25 #[(0, .tmp p), (1, .tmp q)]) (hx : a.eval (.tmp p) = .slice A n k) (hy : a.eval (.tmp q) = .slice B m d) (h : K (a.put (some t) (.agg #[.slice A n k, .slice B m d])) w) : o.wp Tryz.prog a w K Q := by
  obtain ⟨dst, op, ty, pos, af, gd⟩ := o
  simp only at ho hd
  subst ho; subst hd
  have hx2 : a.tmps[p]?.getD undef = .slice A n k := by rw [← Array.getD_eq_getD_getElem?]; exact hx
  have hy2 : a.tmps[q]?.getD undef = .slice B m d := by rw [← Array.getD_eq_getD_getElem?]; exact hy
  go_wp2_with fail
  exact h
theorem didX_build {P : List Int} {L : List Kd} {c e : Job} (hc : c ∈ js) (hu : c.i ∈ j.use) (he : e ∈ js) (hue : e.i ∈ j.use) (hbel : Below w0.heap.size w0 w) (hd : o.dst = some j.d) (ho : o.op = .build 25 #[(0, .tmp c.d), (1, .tmp e.d)])
    (K : OI w w0.heap.size (slotOf c a) P) (K2 : OK w w0.heap.size (slotOf e a) L) :
    o.wp Tryz.prog a w (fun a' w' => ∃ v, a' = a.put (some j.d) v ∧ (∃ x y, v = .agg #[x, y] ∧ OI w' w0.heap.size x P ∧ OK w' w0.heap.size y L) ∧ Below w0.heap.size w0 w' ∧ w.heap.size ≤ w'.heap.size ∧
      (∀ b, b < w.heap.size → (∀ c ∈ js, c.i ∈ j.use → b ∉ ownX (slotOf c a)) → w'.heap[b]? = w.heap[b]?) ∧
      ∀ b ∈ ownX v, w0.heap.size ≤ b ∧ b < w'.heap.size ∧ ((∃ c ∈ js, c.i ∈ j.use ∧ b ∈ ownX (slotOf c a)) ∨ w.heap.size ≤ b)) Q := by
  obtain ⟨A, k, e1⟩ := K.shape
  obtain ⟨B, k2, e2⟩ := K2.shape
  refine build2_run hd ho e1 e2 ⟨_, rfl, ⟨_, _, rfl, by rw [← e1]; exact K, by rw [← e2]; exact K2⟩, hbel, Nat.le_refl _, fun _ _ _ => rfl, fun b hbb => ?_⟩
  rw [← e1, ← e2] at hbb
  rw [ownX_two, List.mem_append] at hbb
  rcases hbb with hbb | hbb
  · exact ⟨(K.ownB b hbb).1, (K.ownB b hbb).2, .inl ⟨c, hc, hu, by rw [K.ownX]; exact hbb⟩⟩
  · exact ⟨(K2.ownB b hbb).1, (K2.ownB b hbb).2, .inl ⟨e, he, hue, by rw [K2.ownX]; exact hbb⟩⟩
end
end Go.Proofs.YtaieidigpilbfaaGreat

namespace Go.Proofs.YtaieidigpilbfaaGreat
open Go Go.RowKit
set_option maxHeartbeats 1000000
set_option maxRecDepth 100000

theorem OK.not_row {w : World} {base b : Nat} {v : Value} {l : List Kd} {t : TypeId} {cs : List Value} (h : OK w base v l) (K : Bx w b t cs) (ht : t ≠ 72) : some b ≠ v.ownBlock := by
  intro e
  rcases h.h.2 with ⟨rfl, _⟩ | ⟨g, cap, cur, rfl, hge, hg, _⟩
  · cases e
  · simp [Value.ownBlock] at e
    subst e
    have := K.h
    rw [hg] at this
    simp only [Option.some.injEq, Obj.cells.injEq] at this
    exact ht this.2.1.symm
section
variable {w U : World} {base b : Nat} {v : Value} {t : TypeId} {cs : List Value}
theorem OI.putX {l : List Int} (h : OI w base v l) (K : Bx w b t cs) (ht : t ≠ 3) (p : Put w b U) : OI U base v l :=
  h.stab fun g hg => p.block g fun e => h.not_row K ht (by subst e; unfold ownL at hg; exact (Option.mem_toList.1 hg).symm)
theorem OK.putX {l : List Kd} (h : OK w base v l) (K : Bx w b t cs) (ht : t ≠ 72) (p : Put w b U) : OK U base v l :=
  h.stab fun g hg => p.block g fun e => h.not_row K ht (by subst e; unfold ownL at hg; exact (Option.mem_toList.1 hg).symm)
end
theorem OI.store {w : World} {base g c : Nat} {l : List Int} (h : OI w base (.slice (some ⟨g, 0, none⟩) l.length c) l) (j : Nat) (x : Int) :
    OI (w.setCell ⟨g, j, none⟩ (.int .i64 x)) base (.slice (some ⟨g, 0, none⟩) l.length c) (l.set j x) :=
  ⟨by rw [List.length_set, ← ints_set]; exact (h.h.stored j _).1⟩
theorem kcells_set3 : ∀ (K : List Kd) (j : Nat) (h : j < K.length) (x : Int), (kcells K).set (j * 4 + 3) (.int .i64 x) = kcells (K.set j ⟨K[j].s, K[j].r, K[j].e, x⟩)
  | [], j, h, x => by simp at h
  | g :: r, 0, h, x => by simp [kcells]
  | g :: r, j + 1, h, x => by
      have := kcells_set3 r j (by simpa using h) x
      rw [show (j + 1) * 4 + 3 = (j * 4 + 3) + 4 by omega]
      simp only [kcells, List.cons_append, List.nil_append, List.set_cons_succ, List.getElem_cons_succ, this]
theorem OK.store3 {w : World} {base g c : Nat} {l : List Kd} (h : OK w base (.slice (some ⟨g, 0, none⟩) l.length c) l) {j : Nat} (hj : j < l.length) (x : Int) :
    OK (w.setCell ⟨g, j * 4 + 3, none⟩ (.int .i64 x)) base (.slice (some ⟨g, 0, none⟩) l.length c) (l.set j ⟨l[j].s, l[j].r, l[j].e, x⟩) :=
  ⟨by rw [List.length_set, ← kcells_set3]; exact (h.h.stored _ _).1⟩
/-- A row of kinds begins its block. -/
theorem OK.row {w : World} {base n c : Nat} {A : Option Addr} {l : List Kd} (h : OK w base (.slice A n c) l) (hl : 0 < l.length) : ∃ g cur, A = some ⟨g, 0, none⟩ ∧ base ≤ g ∧ w.heap[g]? = some (.cells cur 72 (0, 0)) := by
  rcases h.h.2 with ⟨h', h2⟩ | ⟨g, cap, cur, h', hge, hg, _⟩
  · simp only [Value.slice.injEq] at h'
    have := h.h.1
    omega
  · simp only [Value.slice.injEq] at h'
    obtain ⟨rfl, _, _⟩ := h'
    exact ⟨g, cur, rfl, hge, hg⟩

def jobs13 : List Job := [⟨0, 110, []⟩, ⟨3, 113, [0]⟩, ⟨4, 114, []⟩, ⟨7, 117, [4]⟩, ⟨8, 118, [3, 7]⟩, ⟨9, 15, []⟩]
theorem mem_jobs13 {j : Job} (h : j ∈ jobs13) : j = ⟨0, 110, []⟩ ∨ j = ⟨3, 113, [0]⟩ ∨ j = ⟨4, 114, []⟩ ∨ j = ⟨7, 117, [4]⟩ ∨ j = ⟨8, 118, [3, 7]⟩ ∨ j = ⟨9, 15, []⟩ := by
  simpa [jobs13] using h
def R13 (base : Nat) (P : List Int) (K : List Kd) (i : Nat) (v : Value) (w : World) : Prop :=
  match i with
  | 0 => OI w base v []
  | 3 => OI w base v P
  | 4 => OK w base v []
  | 7 => OK w base v K
  | 8 => ∃ x y, v = .agg #[x, y] ∧ OI w base x P ∧ OK w base y K
  | 9 => ∃ b, v = .pointer (some ⟨b, 0, none⟩) ∧ base ≤ b ∧ Bx w b 25 [.slice none 0 0, .slice none 0 0]
  | _ => True
theorem R13_stab {base : Nat} {P : List Int} {K : List Kd} {i : Nat} {v : Value} {w w' : World} (h : R13 base P K i v w) (hb : ∀ b ∈ ownX v, w'.heap[b]? = w.heap[b]?) : R13 base P K i v w' := by
  unfold R13 at h ⊢
  split
  · exact OI.stab h (by rw [← OI.ownX h]; exact hb)
  · exact OI.stab h (by rw [← OI.ownX h]; exact hb)
  · exact OK.stab h (by rw [← OK.ownX h]; exact hb)
  · exact OK.stab h (by rw [← OK.ownX h]; exact hb)
  · obtain ⟨x, y, rfl, h1, h2⟩ := h
    rw [ownX_two] at hb
    exact ⟨x, y, rfl, h1.stab (fun b h => hb b (List.mem_append_left _ h)), h2.stab (fun b h => hb b (List.mem_append_right _ h))⟩
  · obtain ⟨b, rfl, h1, h2⟩ := h
    exact ⟨b, rfl, h1, ⟨(hb b (by simp [ownX])).trans h2.h⟩⟩
  · trivial
end Go.Proofs.YtaieidigpilbfaaGreat

