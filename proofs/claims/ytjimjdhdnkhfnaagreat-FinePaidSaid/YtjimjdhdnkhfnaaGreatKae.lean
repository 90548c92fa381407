/- Contracts of functions of the program and of the reference, a calculus of states, and plain facts: a part of a proof. Own text. -/
import Derived.Test.YtjimjdhdnkhfnaaGreatKad
import Derived.LoopIn
import Derived.RangeFuncNested
import Derived.RangeFuncBound
import Derived.RangeFuncCalls
import Derived.RangeFuncLeaves
import Derived.Scope
import Derived.IntWalk
import Derived.Test.YtjimjdhdnkhfnaaGreatProg
set_option linter.unusedVariables false
set_option linter.unusedSimpArgs false
set_option linter.unusedSectionVars false
set_option linter.unnecessarySimpa false
namespace Go.Proofs.YtjimjdhdnkhfnaaGreat
open Go Go.RowKit
abbrev St := List (Nat × Cont)
def lkF : St → Nat → Cont
  | [], _ => .none
  | p :: r, i => if p.1 = i then p.2 else lkF r i
def lk (σ : St) : Lk := fun i => lkF σ i
theorem lkF_eq : ∀ (σ : St) (i : Nat), lkF σ i = ovr σ (fun _ => .none) i
  | [], _ => rfl
  | p :: r, i => by
    simp only [lkF, ovr]
    rw [lkF_eq r i]
    cases hb : Nat.beq p.1 i with
    | true => rw [if_pos (Nat.eq_of_beq_eq_true hb)]; rfl
    | false => rw [if_neg (Nat.ne_of_beq_eq_false hb)]; rfl
theorem lk_eq (σ : St) : lk σ = ovr σ fun _ => .none := funext fun i => lkF_eq σ i
theorem lk_append (α σ : St) : lk (α ++ σ) = ovr α (lk σ) := by rw [lk_eq, lk_eq]; exact ovr_append α σ _
theorem lk_cons (x : Nat × Cont) (σ : St) : lk (x :: σ) = ovr [x] (lk σ) := lk_append [x] σ
structure Ctx where
  ar : Ar
  T : TypeId → Lay
  N : NN
def gd (ops : List Oper) (o : Oper) (L : Lk) : Option (Bool × List Nat) := match o.guard with
  | none => some (true, [])
  | some (j, want) => match nthL ops j with
    | none => none
    | some oj => match oj.dst with
      | none => none
      | some d => match L (kT d) with
        | .t (.c (.p (.bool b))) => some (bif want then b else !b, [kT d])
        | .t (.c .und) => some (false, [kT d])
        | _ => none
def putE (N : NN) (dst : Option Nat) (v : PV) (eat : List (Nat × Cont)) : Ask := match v, dst, eat with
  | .own e k es, dst, [(q, .dead)] => putA N dst (.c .unk) [(q, .row e k es)]
  | v, dst, [] => match ownV v with
    | some (b, rs) => putN N dst b rs
    | none => putA N dst (TV.ofPV v) []
  | .own _ _ _, _, _ => .fail
  | v, dst, eat => putA N dst (TV.ofPV v) eat
def aOps (X : Ctx) (Cl : FuncId → List PV → PV → Prop) (ops : List Oper) : List Oper → St → List Deed → (List Deed → St → Prop) → Prop
  | [], σ, ts, K => K ts.reverse σ
  | o :: r, σ, ts, K => match gd ops o (lk σ) with
    | none => False
    | some (false, R) => match o.dst with
      | some d => bif okS X.N d then aOps X Cl ops r ((kT d, .t (.c .und)) :: σ) (([(kT d, .t (.c .und))], R) :: ts) K else False
      | none => aOps X Cl ops r σ (([], R) :: ts) K
    | some (true, R) => match (callS X.N.own o).run (lk σ) R with
     | some (c, R') => ∃ v, Cl c.f c.args v ∧ (match (putE X.N o.dst v c.eat).run (lk σ) R' with
          | some (α, R'') => aOps X Cl ops r (α ++ σ) ((α, R'') :: ts) K
          | none => False)
     | none => match (callA o).run (lk σ) R with
      | some (c, R') => ∃ v, Cl c.f c.args v ∧ (bif c.pure || flatP 4 v then (match (putA X.N o.dst (TV.ofPV v) []).run (lk σ) R' with
          | some (α, R'') => aOps X Cl ops r (α ++ σ) ((α, R'') :: ts) K
          | none => False) else (match (callZ o).run (lk σ) R with
          | some (z, R2) => z.f = c.f ∧ z.args = c.args ∧ (match (putA X.N o.dst (TV.ofPV v) [(kR z.q, .dead)]).run (lk σ) R2 with
            | some (α, R'') => aOps X Cl ops r (α ++ σ) ((α, R'') :: ts) K
            | none => False)
          | none => False))
      | none => match (evOp X.ar X.T X.N o).run (lk σ) R with
        | some (α, R') => aOps X Cl ops r (α ++ σ) ((α, R') :: ts) K
        | none => False
section
variable {P : Program} {w0 : World} {im0 : Nat → Prop} {X : Ctx} {D : Env} {ro : Option Nat} {n : Nat}
theorem lat_zero : ∀ (ts : List Deed) (i : Nat) (L : Lk), latM (lt_ 0) i ts L = L
  | [], _, _ => rfl
  | z :: ts, i, L => by simp only [latM, lt_, Nat.blt]; simpa using lat_zero ts (i + 1) L
theorem lat_shift (q : Nat) : ∀ (ts : List Deed) (i : Nat) (L : Lk), latM (lt_ (q + 1)) (i + 1) ts L = latM (lt_ q) i ts L
  | [], _, _ => rfl
  | z :: ts, i, L => by simp only [latM]; rw [lat_shift q ts]; simp [lt_, Nat.blt]
theorem lat_all : ∀ (ts : List Deed) (i j : Nat) (L : Lk), latM (fun _ => true) i ts L = latM (fun _ => true) j ts L
  | [], _, _, _ => rfl
  | z :: ts, i, j, L => by simp only [latM]; exact lat_all ts _ _ _
theorem lat_cons (q : Nat) (x : Deed) (ts : List Deed) (L : Lk) : latM (lt_ (q + 1)) 0 (x :: ts) L = latM (lt_ q) 0 ts (ovr x.1 L) := by
  simp only [latM]
  have h0 : lt_ (q + 1) 0 = true := by simp [lt_, Nat.blt_eq]
  rw [h0, if_pos rfl, lat_shift]
theorem putA_run {N : NN} {dst : Option Nat} {v : TV} {α : St} {L : Lk} {R : List Nat} {x : Deed} (h : (putA N dst v α).run L R = some x) : x.2 = R ∧ ∀ L', (putA N dst v α).run L' R = some x := by
  cases dst with
  | none => simp only [putA, AskR.run, Option.some.injEq] at h ⊢; subst h; exact ⟨rfl, fun _ => rfl⟩
  | some d =>
    simp only [putA] at h ⊢
    cases hb : okS N d with
    | false => simp [hb, AskR.run] at h
    | true => simp only [hb, cond_true, AskR.run, Option.some.injEq] at h ⊢; subst h; exact ⟨rfl, fun _ => rfl⟩
theorem gd_local {ops : List Oper} {o : Oper} {L L' : Lk} {g : Bool} {R : List Nat} (h : gd ops o L = some (g, R)) (hL : ∀ k ∈ R, L' k = L k) : gd ops o L' = some (g, R) := by
  unfold gd at h ⊢
  split at h
  · exact h
  · rename_i j want hn
    split at h
    · cases h
    · rename_i oj hoj
      split at h
      · cases h
      · rename_i d hd
        have key : ∀ g R, (match L (kT d) with
            | .t (.c (.p (.bool b))) => some (bif want then b else !b, [kT d])
            | .t (.c .und) => some (false, [kT d])
            | _ => none) = some (g, R) → R = [kT d] := by
          intro g R h
          split at h
          · cases h; rfl
          · cases h; rfl
          · cases h
        have hR := key _ _ h
        subst hR
        rw [hL (kT d) (by simp)]
        exact h
theorem gd_wanted {ops : Array Oper} {o : Oper} {bm : Nat → Nat} {rm : Nat → Value} {L : Lk} {a : Act} {w : World} (h : RelAt w0 im0 X.N D bm rm L a w) {g : Bool} {R : List Nat} (hg : gd ops.toList o L = some (g, R)) : Region.wanted o (yielded ops a.tmps) = g := by
  unfold gd at hg
  unfold Region.wanted
  split at hg
  · rename_i hn; rw [hn]; cases hg; rfl
  · rename_i j want hn
    rw [hn]
    rw [nthL_eq] at hg
    split at hg
    · cases hg
    · rename_i oj hoj
      split at hg
      · cases hg
      · rename_i d hd
        have hoj' : ops[j]? = some oj := by simpa using hoj
        split at hg
        · rename_i b hc
          have hs : a.tmps.getD d undef = .bool b := h.slots d _ hc
          have hs' : a.tmps[d]? = some (.bool b) := by
            simp only [Array.getD_eq_getD_getElem?] at hs
            cases ht : a.tmps[d]? with
            | none => rw [ht] at hs; simp [undef] at hs
            | some u => rw [ht] at hs; simpa using hs
          simp only [Option.some.injEq, Prod.mk.injEq] at hg
          obtain ⟨rfl, _⟩ := hg
          simp only [yielded, hoj', Option.bind_some, hd, hs']
          cases want <;> cases b <;> rfl
        · rename_i hc
          have hs : a.tmps.getD d undef = undef := h.slots d _ hc
          simp only [Option.some.injEq, Prod.mk.injEq] at hg
          obtain ⟨rfl, _⟩ := hg
          have : yielded ops a.tmps j = none := by
            simp only [Array.getD_eq_getD_getElem?] at hs
            simp only [yielded, hoj', Option.bind_some, hd]
            cases ht : a.tmps[d]? with
            | none => rfl
            | some u => rw [ht] at hs; simp only [Option.getD_some] at hs; subst hs; rfl
          simp only [this]
          rfl
        · cases hg
theorem call_step {o : Oper} {bm : Nat → Nat} {rm : Nat → Value} {L : Lk} {a : Act} {w : World} (h : RelAt w0 im0 X.N D bm rm L a w) {c : CallTo} {R R' R'' : List Nat} {α : St} {v : PV} (hr : (callA o).run L R = some (c, R')) (hd0 : Can P c.f c.args v) (hp : (c.pure || flatP 4 v) = true)
    (hput : (putA X.N o.dst (TV.ofPV v) []).run L R' = some (α, R'')) {Q : Exit → Act → World → Prop} {K : Act → World → Prop} (hK : ∀ a' w', Rel w0 im0 X.N D (ovr α L) a' w' → K a' w') : o.wpIn (FW ro) n P a w K Q := by
  obtain ⟨us, h1, h2, hnd, hen⟩ := callA_ok (P := P) h hr
  have hd := can_does hd0 h1
  refine ⟨fenceW_about ro o w a, ?_⟩
  rw [Oper.semAt_eq _ _ _ hnd, hen hd.1, Oper.uponIn_enter]
  refine ⟨fun hh => by simp [FW, Fence.wide] at hh, ?_⟩
  have fin : ∀ (u : Value) (w' : World), Below w.heap.size w w' → RepP (imOf w0.heap.size im0 bm rm L w') w' v u → K (a.put o.dst u) w' := fun u w' hb hu => by
    refine hK _ _ ?_
    have := fin_put (α := []) (L := L) (h.grow hb) (holds_of hu) hput
    exact this
  have fresh : ∀ (w' : World), Below w.heap.size w w' → ∀ b, w.heap.size ≤ b ∧ Plain w' b → imOf w0.heap.size im0 bm rm L w' b := fun w' hb b hbb =>
    ⟨hbb.2, .inr (Nat.le_trans h.base.size hbb.1), fun k hk e => by have := h.boxlt hk; omega, fun t ht e => by have := h.rowlt ht e; omega⟩
  have main : Calls P c.f us.toArray w (fun e w' => ∃ u, e = .returned u ∧ RepP (imOf w0.heap.size im0 bm rm L w') w' v u ∧ Below w.heap.size w w') := by
    cases hcp : c.pure with
    | true =>
      refine (hd.2 w _ us (fun b hb => hb.1) (h2 hcp)).mono ?_
      rintro e w' ⟨u, rfl, hu, hb⟩
      refine ⟨u, rfl, RepP.keep (fun b hbb => ⟨?_, rfl⟩) v u hu, hb⟩
      rcases hbb with hbb | hbb
      · exact ⟨hbb.1.keep hb.size (hb.block b hbb.1.1), hbb.2⟩
      · exact fresh w' hb b hbb
    | false =>
      rw [hcp, Bool.false_or] at hp
      refine (hd.2 w _ us (fun b hb => hb.1) h1).mono ?_
      rintro e w' ⟨u, rfl, hu, hb⟩
      exact ⟨u, rfl, flatP_rep 4 v u hp hu, hb⟩
  have : CallsIn Fence.wide (n - 1) P c.f us.toArray w (fun
    | .returned v, w'' => K (a.put o.dst v) w''
    | .panicked chain, w'' => Q (.panic chain) a w''
    | .outgrown, _ => LetsOut Q) := callsIn_wide.2 (main.mono (by
      rintro e w' ⟨u, rfl, hu, hb⟩
      exact fin u w' hb hu))
  exact this
theorem call_stepZ {o : Oper} {bm : Nat → Nat} {rm : Nat → Value} {L : Lk} {a : Act} {w : World} (h : RelAt w0 im0 X.N D bm rm L a w) {z : CallZ} {R R' R'' : List Nat} {α : St} {v : PV} (hr : (callZ o).run L R = some (z, R')) (hd0 : Can P z.f z.args v)
    (hput : (putA X.N o.dst (TV.ofPV v) [(kR z.q, .dead)]).run L R' = some (α, R'')) {Q : Exit → Act → World → Prop} {K : Act → World → Prop} (hK : ∀ a' w', Rel w0 im0 X.N D (ovr α L) a' w' → K a' w') : o.wpIn (FW ro) n P a w K Q := by
  obtain ⟨⟨e, k, es, hrow⟩, us, h1, hnd, hen⟩ := callZ_ok (P := P) h hr
  have hd := can_does hd0 h1
  have hkill := h.kill z.q
  refine ⟨fenceW_about ro o w a, ?_⟩
  rw [Oper.semAt_eq _ _ _ hnd, hen hd.1, Oper.uponIn_enter]
  refine ⟨fun hh => by simp [FW, Fence.wide] at hh, ?_⟩
  have : CallsIn Fence.wide (n - 1) P z.f us.toArray w (fun
    | .returned v, w'' => K (a.put o.dst v) w''
    | .panicked chain, w'' => Q (.panic chain) a w''
    | .outgrown, _ => LetsOut Q) := callsIn_wide.2 ((hd.2 w _ us (fun b hb => hb.1) h1).mono (by
      rintro e w' ⟨u, rfl, hu, hb⟩
      refine hK _ _ ?_
      refine fin_put (α := [(kR z.q, .dead)]) (L := L) (hkill.grow hb) (holds_of (RepP.keep (fun b hbb => ⟨?_, rfl⟩) v u hu)) hput
      rcases hbb with hbb | hbb
      · exact ⟨hbb.1.keep hb.size (hb.block b hbb.1.1), hbb.2⟩
      · exact ⟨hbb.2, .inr (Nat.le_trans hkill.base.size hbb.1), fun k hk e => by have := hkill.boxlt hk; omega, fun t ht e => by have := hkill.rowlt ht e; omega⟩))
  exact this
theorem putE_nil {N : NN} {dst : Option Nat} {v : PV} : putE N dst v [] = match ownV v with
    | some (b, rs) => putN N dst b rs
    | none => putA N dst (TV.ofPV v) [] := by
  cases v <;> rfl
theorem putE_dead {N : NN} {dst : Option Nat} {v : PV} {q : Nat} {c : Cont} (h : ∀ e k es, v ≠ .own e k es) : putE N dst v [(q, c)] = putA N dst (TV.ofPV v) [(q, c)] := by
  cases v <;> first | exact absurd rfl (h _ _ _) | rfl
theorem call_stepS {o : Oper} {bm : Nat → Nat} {rm : Nat → Value} {L : Lk} {a : Act} {w : World} (h : RelAt w0 im0 X.N D bm rm L a w) {sp : List FuncId} {c : CallS} {R R' R'' : List Nat} {α : St} {v : PV} (hr : (callS sp o).run L R = some (c, R')) (hd : Can P c.f c.args v)
    (hput : (putE X.N o.dst v c.eat).run L R' = some (α, R'')) {Q : Exit → Act → World → Prop} {K : Act → World → Prop} (hK : ∀ a' w', Rel w0 im0 X.N D (ovr α L) a' w' → K a' w') : o.wpIn (FW ro) n P a w K Q := by
  obtain ⟨hnd, us, hen, hor⟩ := callS_ok (P := P) h hr
  obtain ⟨f, cargs, eat⟩ := c
  simp only at hd hput hen hor
  refine ⟨fenceW_about ro o w a, ?_⟩
  have go : Calls P f us.toArray w (fun e w' => ∃ u, e = .returned u ∧ K (a.put o.dst u) w') → CallsIn Fence.wide (n - 1) P f us.toArray w (fun
      | .returned v, w'' => K (a.put o.dst v) w''
      | .panicked chain, w'' => Q (.panic chain) a w''
      | .outgrown, _ => LetsOut Q) := fun h2 => callsIn_wide.2 (h2.mono (by
        rintro e w' ⟨u, rfl, hu⟩
        exact hu))
  rcases hor with ⟨args, rfl, rfl, hrep⟩ | ⟨q, e, k, es, args, us', rfl, rfl, hc, rfl, hrep⟩
  · rw [putE_nil] at hput
    simp only [Can] at hd
    cases hov : ownV v with
    | some bl =>
      obtain ⟨b, rs⟩ := bl
      rw [hov] at hd hput
      have hd : DoesO P f args b rs := hd
      have hput : (putN X.N o.dst b rs).run L R' = some (α, R'') := hput
      rw [Oper.semAt_eq _ _ _ hnd, hen hd.1, Oper.uponIn_enter]
      refine ⟨fun hh => by simp [FW, Fence.wide] at hh, ?_⟩
      refine go ((hd.2 w _ us (fun b hb => imBox_plain h hb) hrep).mono ?_)
      rintro e w' ⟨u, vs, rfl, hu, hn, hb⟩
      exact ⟨u, rfl, hK _ _ (putN_rel h hb hn hu hput)⟩
    | none =>
    rw [hov] at hd hput
    have hd : DoesF P f args v := hd
    have hput : (putA X.N o.dst (TV.ofPV v) []).run L R' = some (α, R'') := hput
    rw [Oper.semAt_eq _ _ _ hnd, hen hd.1, Oper.uponIn_enter]
    refine ⟨fun hh => by simp [FW, Fence.wide] at hh, ?_⟩
    refine go ((hd.2 w _ us (fun b hb => imBox_plain h hb) hrep).mono ?_)
    rintro e w' ⟨u, rfl, hu, hb⟩
    refine ⟨u, rfl, hK _ _ ?_⟩
    refine fin_put (α := []) (L := L) (h.grow hb) (holds_of (RepP.keep (fun b hbb => ⟨?_, rfl⟩) v u hu)) hput
    exact ⟨hbb.2, .inr (Nat.le_trans h.base.size hbb.1), fun k hk e => by have := h.boxlt hk; omega, fun t ht e => by have := h.rowlt ht e; omega⟩
  · obtain ⟨xs, hown, hl, hk⟩ := h.rows q e k es hc
    have hir : isRow L q := ⟨e, k, es, hc⟩
    have hnim : ∀ g, (rm q).ownBlock = some g → ¬ imOf w0.heap.size im0 bm rm L w g ∧ ¬ imBox (some q) w0 im0 bm rm L w g := fun g hg => ⟨fun hi => hi.2.2.2 q hir hg, fun hi => by
      rcases hi with hi | ⟨k', ty, cs, hc', rfl⟩ | ⟨t, ht, hot, htg⟩
      · exact hi.2.2.2 q hir hg
      · exact h.br k' q (.inl ⟨ty, cs, hc'⟩) hir hg
      · have := h.rr t q g ht hir htg hg
        subst this
        simp [otherB] at hot⟩
    have hor2 : (∃ e' k' es', v = .own e' k' es') ∨ (DoesC P f e k es args v ∧ (putA X.N o.dst (TV.ofPV v) [(kR q, .dead)]).run L R' = some (α, R'')) := by
      by_cases hv : ∃ e' k' es', v = .own e' k' es'
      · exact .inl hv
      · rw [putE_dead (fun e' k' es' he => hv ⟨e', k', es', he⟩)] at hput
        refine .inr ⟨?_, hput⟩
        cases v <;> first | exact absurd ⟨_, _, _, rfl⟩ hv | exact hd
    rcases hor2 with ⟨e', k', es', rfl⟩ | ⟨hd, hput⟩
    · obtain ⟨rfl, rfl, hd⟩ : e' = e ∧ k' = k ∧ DoesW P f e k es es' args := hd
      have hput : (putA X.N o.dst (.c .unk) [(kR q, .row e' k' es')]).run L R' = some (α, R'') := hput
      rw [Oper.semAt_eq _ _ _ hnd, hen hd.1, Oper.uponIn_enter]
      refine ⟨fun hh => by simp [FW, Fence.wide] at hh, ?_⟩
      refine go ((hd.2 w _ _ w0.heap.size (rm q) xs us' (fun b hb => hb.1) (fun b hb => imBox_plain h hb) h.base.size hown hl hk hnim hrep).mono ?_)
      rintro e1 w' ⟨u, xs', rfl, hown', hl', hk', hg⟩
      exact ⟨u, rfl, hK _ _ (fin_put (α := [(kR q, .row e' k' es')]) (v := .c .unk) (u := u) (L := L) (h.setRow hc hg hg.size hown' hl' hk') ⟨trivial, by simp [TV.boxes, CV.boxes], by simp [TV.rows, CV.rows]⟩ hput)⟩
    rw [Oper.semAt_eq _ _ _ hnd, hen hd.1, Oper.uponIn_enter]
    refine ⟨fun hh => by simp [FW, Fence.wide] at hh, ?_⟩
    refine go ((hd.2 w _ _ w0.heap.size (rm q) xs us' (fun b hb => hb.1) (fun b hb => imBox_plain h hb) h.base.size hown hl hk hnim hrep).mono ?_)
    · rintro e' w' ⟨u, rfl, hu, hg⟩
      obtain ⟨h1, h2, h3, h4⟩ := h.eat hc hg
      refine ⟨u, rfl, hK _ _ ?_⟩
      refine fin_put (α := [(kR q, .dead)]) (L := L) h1 (holds_of (RepP.keep (fun b hbb => ⟨?_, rfl⟩) v u hu)) hput
      rcases hbb with hbb | ⟨hbb | hbb, hp⟩
      · exact h2 b hbb
      · exact h3 b hbb hp
      · exact h4 b hbb hp
theorem aOps_ok {ops : Array Oper} (har : X.ar = Ar.std) (hT : ∀ t, LayOK P t (X.T t)) : ∀ (l : List Oper) (k : Nat) (σ : St) (ts : List Deed) (K : List Deed → St → Prop), (∀ i, l[i]? = ops[k + i]?) → aOps X (Can P) ops.toList l σ ts K →
    ∃ ts' σ', ts'.length = l.length ∧ K (ts.reverse ++ ts') σ' ∧ lk σ' = latM (fun _ => true) 0 ts' (lk σ) ∧
      ∀ i x, ts'[i]? = some x → ∀ L', (∀ q ∈ x.2, L' q = latM (lt_ i) 0 ts' (lk σ) q) → StepOK w0 im0 X.N D ro n P ops (k + i) x.1 L'
  | [], k, σ, ts, K, _, h => ⟨[], σ, rfl, by simpa [aOps] using h, rfl, fun i x hx => by simp at hx⟩
  | o :: l, k, σ, ts, K, hl, h => by
    have hk : ops[k]? = some o := by simpa using (hl 0).symm
    have hl' : ∀ i, l[i]? = ops[k + 1 + i]? := fun i => by
      have := hl (i + 1)
      rw [show k + 1 + i = k + (i + 1) by omega, ← this]; rfl
    have next : ∀ (α : St) (R : List Nat), aOps X (Can P) ops.toList l (α ++ σ) ((α, R) :: ts) K → (∀ L', (∀ q ∈ R, L' q = lk σ q) → StepOK w0 im0 X.N D ro n P ops k α L') →
        ∃ ts' σ', ts'.length = (o :: l).length ∧ K (ts.reverse ++ ts') σ' ∧ lk σ' = latM (fun _ => true) 0 ts' (lk σ) ∧
          ∀ i x, ts'[i]? = some x → ∀ L', (∀ q ∈ x.2, L' q = latM (lt_ i) 0 ts' (lk σ) q) → StepOK w0 im0 X.N D ro n P ops (k + i) x.1 L' := by
      intro α R h hs
      obtain ⟨ts', σ', h1, h2, h3, h4⟩ := aOps_ok har hT l (k + 1) (α ++ σ) ((α, R) :: ts) K hl' h
      refine ⟨(α, R) :: ts', σ', by simp [h1], by simpa using h2, ?_, fun i x hx L' hL => ?_⟩
      · rw [h3, lk_append]
        simp only [latM, if_true]
        exact lat_all _ _ _ _
      · cases i with
        | zero =>
          simp only [List.getElem?_cons_zero, Option.some.injEq] at hx
          subst hx
          rw [Nat.add_zero]
          exact hs L' fun q hq => by rw [hL q hq, lat_zero]
        | succ i =>
          have := h4 i x (by simpa using hx) L' (fun q hq => by rw [hL q hq, lat_cons, lk_append])
          rwa [show k + 1 + i = k + (i + 1) by omega] at this
    simp only [aOps] at h
    cases hg : gd ops.toList o (lk σ) with
    | none => rw [hg] at h; exact h.elim
    | some gR =>
      obtain ⟨g, R⟩ := gR
      rw [hg] at h
      cases g with
      | false =>
        simp only at h
        have skip : ∀ α : St, (∀ (bm : Nat → Nat) (rm : Nat → Value) L' a w, RelAt w0 im0 X.N D bm rm L' a w → Rel w0 im0 X.N D (ovr α L') (a.put o.dst undef) w) → ∀ L', (∀ q ∈ R, L' q = lk σ q) → StepOK w0 im0 X.N D ro n P ops k α L' := by
          intro α hα L' hL Q K' a w ⟨bm, rm, hrel⟩ hK
          unfold wpOpIn
          simp only [hk]
          rw [gd_wanted hrel (gd_local hg hL), if_neg (by simp)]
          exact ⟨fenceW_about ro o w a, hK _ _ (hα bm rm L' a w hrel)⟩
        cases hd : o.dst with
        | none =>
          rw [hd] at h skip
          refine next [] R (by simpa using h) (skip [] fun bm rm L' a w hr => ⟨bm, rm, hr⟩)
        | some d =>
          rw [hd] at h skip
          simp only at h
          cases hb : okS X.N d with
          | false => rw [hb] at h; exact h.elim
          | true =>
            rw [hb] at h
            refine next [(kT d, .t (.c .und))] R (by simpa using h) (skip _ fun bm rm L' a w hr => ⟨bm, rm, hr.put (by simpa [Nat.blt_eq] using hb) rfl (by simp [TV.boxes, CV.boxes]) (by simp [TV.rows, CV.rows])⟩)
      | true =>
        simp only at h
        have wanted : ∀ {L' : Lk} {bm rm a w}, (∀ q ∈ R, L' q = lk σ q) → RelAt w0 im0 X.N D bm rm L' a w → ∀ {Q K'}, o.wpIn (FW ro) n P a w K' Q → wpOpIn (FW ro) n P ops Q k K' a w := by
          intro L' bm rm a w hL hrel Q K' hw
          unfold wpOpIn
          simp only [hk]
          rw [gd_wanted hrel (gd_local hg hL), if_pos rfl]
          exact hw
        cases hs : (callS X.N.own o).run (lk σ) R with
        | some cR =>
          obtain ⟨c, R'⟩ := cR
          rw [hs] at h
          simp only at h
          obtain ⟨v, hdoes, h⟩ := h
          cases hput : (putE X.N o.dst v c.eat).run (lk σ) R' with
          | none => rw [hput] at h; exact h.elim
          | some αR =>
            obtain ⟨α, R''⟩ := αR
            rw [hput] at h
            refine next α _ h fun L' hL Q K' a w ⟨bm, rm, hrel⟩ hK => ?_
            have hsub := AskR.run_sub _ _ _ _ hs
            have hsub2 := AskR.run_sub _ _ _ _ hput
            exact wanted (fun q hq => hL q (hsub2 q (hsub q hq))) hrel (call_stepS hrel (AskR.local _ _ L' _ _ hs (fun q hq => hL q (hsub2 q hq))) hdoes (AskR.local _ _ L' _ _ hput hL) hK)
        | none =>
        rw [hs] at h
        simp only at h
        cases hc : (callA o).run (lk σ) R with
        | some cR =>
          obtain ⟨c, R'⟩ := cR
          rw [hc] at h
          simp only at h
          obtain ⟨v, hdoes, h⟩ := h
          cases hp : (c.pure || flatP 4 v) with
          | false =>
            rw [hp] at h
            simp only [cond_false] at h
            cases hz : (callZ o).run (lk σ) R with
            | none => rw [hz] at h; exact h.elim
            | some zR =>
              obtain ⟨z, R2⟩ := zR
              rw [hz] at h
              obtain ⟨e1, e2, h⟩ := h
              cases hput : (putA X.N o.dst (TV.ofPV v) [(kR z.q, .dead)]).run (lk σ) R2 with
              | none => rw [hput] at h; exact h.elim
              | some αR =>
                obtain ⟨α, R''⟩ := αR
                rw [hput] at h
                obtain ⟨rfl, hput'⟩ := putA_run hput
                rw [← e1, ← e2] at hdoes
                refine next α _ h fun L' hL Q K' a w ⟨bm, rm, hrel⟩ hK => ?_
                have hsub := AskR.run_sub _ _ _ _ hz
                exact wanted (fun q hq => hL q (hsub q hq)) hrel (call_stepZ hrel (AskR.local _ _ L' _ _ hz hL) hdoes (hput' L') hK)
          | true =>
            rw [hp] at h
            simp only [cond_true] at h
            cases hput : (putA X.N o.dst (TV.ofPV v) []).run (lk σ) R' with
            | none => rw [hput] at h; exact h.elim
            | some αR =>
              obtain ⟨α, R''⟩ := αR
              rw [hput] at h
              obtain ⟨rfl, hput'⟩ := putA_run hput
              refine next α _ h fun L' hL Q K' a w ⟨bm, rm, hrel⟩ hK => ?_
              have hsub := AskR.run_sub _ _ _ _ hc
              exact wanted (fun q hq => hL q (hsub q hq)) hrel (call_step hrel (AskR.local _ _ L' _ _ hc hL) hdoes hp (hput' L') hK)
        | none =>
          rw [hc] at h
          simp only at h
          cases he : (evOp X.ar X.T X.N o).run (lk σ) R with
          | none => rw [he] at h; exact h.elim
          | some αR =>
            obtain ⟨α, R'⟩ := αR
            rw [he] at h
            refine next α R' h fun L' hL Q K' a w ⟨bm, rm, hrel⟩ hK => ?_
            have hsub := AskR.run_sub _ _ _ _ he
            exact wanted (fun q hq => hL q (hsub q hq)) hrel (res_wpIn (evOp_defer he) (evOp_ok har hT hrel (AskR.local _ _ L' _ _ he hL)) hK)
def SemC (P : Program) (w0 : World) (im0 : Nat → Prop) (N : NN) (D : Env) (ro : Option Nat) (n : Nat) (c : Code) (Q : Exit → St → Prop) (σ : St) : Prop :=
  ∀ a w, Rel w0 im0 N D (lk σ) a w → c.wpIn (FW ro) n P (fun e a w => ∃ σ', Q e σ' ∧ Rel w0 im0 N D (lk σ') a w) a w
def cnd (c : Operand) : AskR Bool := opd c fun v => match v with
  | .c (.p (.bool b)) => .done b
  | _ => .fail
def hasNext (ops : List Oper) : Bool := ops.any fun o => match o.op with
  | .next _ _ => true
  | .call c => (match c.callee with
    | .builtin .clear => true
    | _ => false)
  | _ => false
def acode (X : Ctx) (Cl : FuncId → List PV → PV → Prop) (S : Code → (Exit → St → Prop) → St → Prop) : Code → (Exit → St → Prop) → St → Prop
  | .skip, Q, σ => Q .normal σ
  | .label _, Q, σ => Q .normal σ
  | .region id ops draw, Q, σ => bif hasNext ops.toList then S (.region id ops draw) Q σ else aOps X Cl ops.toList ops.toList σ [] fun ts σ' => bif !draw || ordM ops ts then Q .normal σ' else False
  | .seq x y, Q, σ => acode X Cl S x (fun e σ' => match e with
    | .normal => acode X Cl S y Q σ'
    | e => Q e σ') σ
  | .cond c x y, Q, σ => match (cnd c).run (lk σ) [] with
    | some (true, _) => acode X Cl S x Q σ
    | some (false, _) => acode X Cl S y Q σ
    | none => False
  | .block id c, Q, σ => acode X Cl S c (fun e σ' => match e with
    | .exit id' => bif Nat.beq id' id then Q .normal σ' else Q (.exit id') σ'
    | e => Q e σ') σ
  | .exit id, Q, σ => Q (.exit id) σ
  | .goto l, Q, σ => Q (.goto l) σ
  | .ret, Q, σ => Q .ret σ
  | c, Q, σ => S c Q σ
theorem acode_ok (har : X.ar = Ar.std) (hT : ∀ t, LayOK P t (X.T t)) (hm : P.follows .mixedOrders = true) : ∀ (c : Code) (Q : Exit → St → Prop) (σ : St), acode X (Can P) (SemC P w0 im0 X.N D ro n) c Q σ → SemC P w0 im0 X.N D ro n c Q σ
  | .skip, Q, σ, h => fun a w hr => wpIn_skip ⟨σ, h, hr⟩
  | .label _, Q, σ, h => fun a w hr => wpIn_label ⟨σ, h, hr⟩
  | .region id ops draw, Q, σ, h => fun a w hr => by
    simp only [acode] at h
    cases hnx : hasNext ops.toList with
    | true => rw [hnx] at h; exact h a w hr
    | false =>
    rw [hnx] at h
    simp only [cond_false] at h
    obtain ⟨ts, σ', h1, h2, h3, h4⟩ := aOps_ok (w0 := w0) (im0 := im0) (D := D) (ro := ro) (n := n) har hT ops.toList 0 σ [] _ (fun i => by simp) h
    simp only [List.reverse_nil, List.nil_append] at h2
    cases hb : (!draw || ordM ops ts) with
    | false => rw [hb] at h2; exact h2.elim
    | true =>
      rw [hb] at h2
      simp only [cond_true] at h2
      have hend : ∀ a w, Rel w0 im0 X.N D (latM (fun _ => true) 0 ts (lk σ)) a w → ∃ σ', Q .normal σ' ∧ Rel w0 im0 X.N D (lk σ') a w := fun a w hr => ⟨σ', h2, by rw [h3]; exact hr⟩
      cases draw with
      | true =>
        exact wp_drawn hm (by simpa using h1) (ordM_ok (by simpa using hb)) (fun i x hx L' hL => by have := h4 i x hx L' hL; rwa [Nat.zero_add] at this) hr hend
      | false =>
        refine wpIn_region (wp_plain_ops (L := lk σ) (List.range ops.size) ts (lk σ) a w (fun q i x hq hx => ?_) (by simp [h1]) hr hend)
        have hqi : q = i := by
          rw [List.getElem?_range] at hq
          · simpa using hq
          · have := (List.getElem?_eq_some_iff.1 hx).1
            simp only [Array.length_toList] at h1
            omega
        subst hqi
        have := h4 q x hx _ (fun _ _ => rfl)
        rwa [Nat.zero_add] at this
  | .seq x y, Q, σ, h => fun a w hr => by
    simp only [acode] at h
    refine wpIn_seq (wpIn_mono (acode_ok har hT hm x _ σ h a w hr) ?_)
    rintro e a' w' ⟨σ', hq, hr'⟩
    cases e with
    | normal => exact acode_ok har hT hm y Q σ' hq a' w' hr'
    | _ => exact ⟨σ', hq, hr'⟩
  | .cond c x y, Q, σ, h => fun a w hr => by
    simp only [acode] at h
    obtain ⟨bm, rm, hrel⟩ := hr
    split at h
    · rename_i R hc
      unfold cnd at hc
      obtain ⟨v, R', hv, hc⟩ := opd_inv hrel hc
      split at hc
      · rename_i b
        simp only [AskR.run, Option.some.injEq, Prod.mk.injEq] at hc
        obtain ⟨rfl, _⟩ := hc
        exact wpIn_cond_true hv.rep (acode_ok har hT hm x Q σ h a w ⟨bm, rm, hrel⟩)
      · simp [AskR.run] at hc
    · rename_i R hc
      unfold cnd at hc
      obtain ⟨v, R', hv, hc⟩ := opd_inv hrel hc
      split at hc
      · rename_i b
        simp only [AskR.run, Option.some.injEq, Prod.mk.injEq] at hc
        obtain ⟨rfl, _⟩ := hc
        exact wpIn_cond_false hv.rep (acode_ok har hT hm y Q σ h a w ⟨bm, rm, hrel⟩)
      · simp [AskR.run] at hc
    · exact h.elim
  | .block id c, Q, σ, h => fun a w hr => by
    simp only [acode] at h
    refine wpIn_block (wpIn_mono (acode_ok har hT hm c _ σ h a w hr) ?_)
    rintro e a' w' ⟨σ', hq, hr'⟩
    cases e with
    | exit id' =>
      simp only at hq
      cases hb : Nat.beq id' id with
      | true =>
        rw [hb] at hq
        have := Nat.eq_of_beq_eq_true hb
        simp only [Exit.inBlock, if_pos this]
        exact ⟨σ', hq, hr'⟩
      | false =>
        rw [hb] at hq
        have := Nat.ne_of_beq_eq_false hb
        simp only [Exit.inBlock, if_neg this]
        exact ⟨σ', hq, hr'⟩
    | _ => exact ⟨σ', hq, hr'⟩
  | .exit id, Q, σ, h => fun a w hr => wpIn_exit ⟨σ, h, hr⟩
  | .goto l, Q, σ, h => fun a w hr => wpIn_goto ⟨σ, h, hr⟩
  | .ret, Q, σ, h => fun a w hr => wpIn_ret ⟨σ, h, hr⟩
  | .loop _, Q, σ, h => h
  | .rangeFunc _ _ _ _, Q, σ, h => h
  | .scope _, Q, σ, h => h
  | .refuse _, Q, σ, h => h
end
structure PLe (p q : PV) : Prop where
  h : ∀ im w u, RepP im w p u → RepP im w q u
theorem PLe.refl (p : PV) : PLe p p := ⟨fun _ _ _ h => h⟩
theorem PLe.of_eq {p q : PV} (h : p = q) : PLe p q := h ▸ PLe.refl p
theorem PLe.nil (k : Nat) : PLe .nil (.list k []) := ⟨fun im w u h => by
  simp only [RepP] at h ⊢
  exact ⟨none, 0, 0, h, rfl, by simp, by simp, by simp⟩⟩
theorem PLe.tup2 {a b c d : PV} (h : PLe a c) (k : PLe b d) : PLe (.tup [a, b]) (.tup [c, d]) := ⟨fun im w u hr => by
  simp only [RepP, RepL] at hr ⊢
  obtain ⟨us, rfl, x, xs, rfl, h1, y, ys, rfl, h2, rfl⟩ := hr
  exact ⟨_, rfl, x, _, rfl, h.h _ _ _ h1, y, _, rfl, k.h _ _ _ h2, rfl⟩⟩
def resA (ar : Ar) (T : TypeId → Lay) : List ResultVar → List PV → AskR (List PV)
  | [], acc => .done acc.reverse
  | .tmp t :: r, acc => opd (.tmp t) fun v => frzT v fun p => resA ar T r (p :: acc)
  | .cell p ty :: r, acc => opd (.tmp p) fun pv => behind ar pv (T ty) fun v => frzT v fun p => resA ar T r (p :: acc)
def onePV : List PV → PV
  | [p] => p
  | ps => .tup ps
def retQ (X : Ctx) (rs : List ResultVar) (res : PV) : Exit → St → Prop
  | .ret, σ | .normal, σ => match (resA X.ar X.T rs []).run (lk σ) [] with
    | some (ps, _) => PLe (onePV ps) res
    | none => False
  | _, _ => False
def st0 : Nat → List PV → St
  | _, [] => []
  | i, p :: r => (kT i, .t (TV.ofPV p)) :: st0 (i + 1) r
section
variable {P : Program} {w0 : World} {im0 : Nat → Prop} {X : Ctx} {D : Env} {ro : Option Nat} {n : Nat}
theorem loadAt_asAddr {t : TypeId} {u x : Value} {w : World} (h : (Instr.loadAt t u).run P w = .ok x w) : (do loadVar t (← asAddr u) : Sem Value).run P w = .ok x w := by
  cases u with
  | pointer p => cases p with
    | none => simp [Instr.loadAt, Instr.sureAddr, stuck] at h
    | some p => simpa [Instr.loadAt, Instr.sureAddr, asAddr] using h
  | _ => simp [Instr.loadAt, Instr.sureAddr, stuck] at h
def resV (tmps : Array Value) : ResultVar → Sem Value
  | .tmp t => pure (tmps.getD t undef)
  | .cell a t => do loadVar t (← asAddr (tmps.getD a undef))
theorem results_eq (fn : Func) (tmps : Array Value) : results fn tmps = (do
    let vs ← fn.results.mapM (resV tmps)
    pure (if h : vs.size = 1 then vs[0] else .tuple vs)) := by
  unfold results
  congr
theorem resA_ok {ar : Ar} (har : ar = Ar.std) {T : TypeId → Lay} (hT : ∀ t, LayOK P t (T t)) {N : NN} {bm : Nat → Nat} {rm : Nat → Value} {L : Lk} {a : Act} {w : World} (h : RelAt w0 im0 N D bm rm L a w) :
    ∀ (rs : List ResultVar) (acc : List PV) (us : List Value) (R : List Nat) (y : List PV × List Nat), (resA ar T rs acc).run L R = some y → RepL (imAll w0 im0 w) w acc.reverse us →
      ∃ vs : List Value, (rs.mapM (resV a.tmps)).run P w = .ok vs w ∧ RepL (imAll w0 im0 w) w y.1 (us ++ vs)
  | [], acc, us, R, y, hr, hu => by
    simp only [resA, AskR.run, Option.some.injEq] at hr
    subst hr
    exact ⟨[], by simp, by simpa using hu⟩
  | .tmp t :: rs, acc, us, R, y, hr, hu => by
    simp only [resA] at hr
    replace hr := opd_inv h hr; obtain ⟨v, R1, hv, hr⟩ := hr
    replace hr := frzT_ok h hv.rep hr; obtain ⟨p, R2, hp, _, hr⟩ := hr
    obtain ⟨vs, h1, h2⟩ := resA_ok har hT h rs (p :: acc) (us ++ [a.eval (.tmp t)]) R2 y hr (by simpa using hu.append_one hp)
    refine ⟨a.tmps.getD t undef :: vs, ?_, by rw [List.append_assoc] at h2; exact h2⟩
    rw [List.mapM_cons]
    simp only [resV, Sem.run_bind, Sem.run_pure, Result.andThen_ok, h1]
  | .cell p ty :: rs, acc, us, R, y, hr, hu => by
    simp only [resA] at hr
    replace hr := opd_inv h hr; obtain ⟨v, R1, hv, hr⟩ := hr
    replace hr := behind_ok har (hT ty) h hv hr; obtain ⟨v2, x, R2, hrun, hv2, hr⟩ := hr
    replace hr := frzT_ok h hv2.rep hr; obtain ⟨q, R3, hq, _, hr⟩ := hr
    obtain ⟨vs, h1, h2⟩ := resA_ok har hT h rs (q :: acc) (us ++ [x]) R3 y hr (by simpa using hu.append_one hq)
    refine ⟨x :: vs, ?_, by simpa using h2⟩
    have := loadAt_asAddr hrun
    simp only [Act.eval] at this
    rw [List.mapM_cons]
    have e9 : (resV a.tmps (.cell p ty)).run P w = .ok x w := this
    rw [Sem.run_bind, e9]
    simp only [Sem.run_bind, Sem.run_pure, Result.andThen_ok, h1]
theorem st0_get : ∀ (ps : List PV) (i j : Nat) (c : Cont), lk (st0 i ps) j = c → c ≠ .none → ∃ k p, ps[k]? = some p ∧ j = kT (i + k) ∧ c = .t (TV.ofPV p)
  | [], i, j, c, h, hc => by simp only [st0, lk_eq, ovr] at h; exact absurd h.symm hc
  | p :: ps, i, j, c, h, hc => by
    simp only [st0, lk_eq, ovr] at h
    cases hb : Nat.beq (kT i) j with
    | true =>
      rw [hb] at h
      exact ⟨0, p, rfl, by rw [Nat.add_zero]; exact (Nat.eq_of_beq_eq_true hb).symm, h.symm⟩
    | false =>
      rw [hb] at h
      obtain ⟨k, q, h1, h2, h3⟩ := st0_get ps (i + 1) j c (by rw [lk_eq]; exact h) hc
      exact ⟨k + 1, q, by simpa using h1, by rw [h2]; congr 1; omega, h3⟩
theorem RelAt.move {N N' : NN} {D D' : Env} {bm : Nat → Nat} {rm : Nat → Value} {L : Lk} {a a' : Act} {w w' : World} (h : RelAt w0 im0 N D bm rm L a w) (hos : w'.os = w.os) (htape : w'.tape = w.tape) (hout : w'.output = w.output) (hs : w.heap.size ≤ w'.heap.size)
    (hb : ∀ b, b < w.heap.size → w'.heap[b]? = w.heap[b]? ∨ (w0.heap.size ≤ b ∧ Obj.machB w.heap[b]? = true)) (hsz : a'.tmps.size = N'.hi)
    (hsl : ∀ d v, L (kT d) = .t v → a'.tmps.getD d undef = a.tmps.getD d undef)
    (hdefs : Keeps (imOf w0.heap.size im0 bm rm L w) w (imOf w0.heap.size im0 bm rm L w') w' → AuxAt w0.heap.size D' N' a' (imOf w0.heap.size im0 bm rm L w') w') : RelAt w0 im0 N' D' bm rm L a' w' := by
  have hold : ∀ b : Nat, b < w.heap.size → Obj.machB w.heap[b]? = false → w'.heap[b]? = w.heap[b]? := fun b hl hm => (hb b hl).resolve_right fun h => by rw [hm] at h; cases h.2
  have hk : Keeps (imOf w0.heap.size im0 bm rm L w) w (imOf w0.heap.size im0 bm rm L w') w' := fun b hbb => by
    have e := hold b hbb.1.1 hbb.1.2
    exact ⟨⟨hbb.1.keep hs e, hbb.2⟩, e⟩
  have hcell : ∀ b O, w.heap[b]? = some O → Obj.machB (some O) = false → w'.heap[b]? = some O := fun b O h1 h2 => by
    rw [hold b (Array.getElem?_eq_some_iff.1 h1).1 (by rw [h1]; exact h2)]; exact h1
  refine ⟨⟨hos.trans h.base.os, htape.trans h.base.tape, hout.trans h.base.output, Nat.le_trans h.base.size hs, fun b hb0 => ?_⟩, hsz, hdefs hk, fun d v hv => ?_, fun k ty cs hc => ?_, fun k o hc => ?_, fun t e k es hc => ?_, h.bb, h.br, h.rr, h.wfb, h.wfr⟩
  · rcases hb b (Nat.lt_of_lt_of_le hb0 h.base.size) with e | ⟨e, _⟩
    · rw [e]; exact h.base.block b hb0
    · omega
  · rw [hsl d v hv]
    exact (h.slots d v hv).keep hk (fun _ _ => rfl) (fun _ _ => rfl)
  · obtain ⟨us, hu, hr, hn⟩ := h.boxes k ty cs hc
    exact ⟨us, hcell _ _ hu rfl, hr.keep hk (fun _ _ => rfl) (fun _ _ => rfl), hn⟩
  · obtain ⟨O, hu, hr, hn⟩ := h.objs k o hc
    exact ⟨O, hcell _ _ hu (objs_not_mach hr), hr.keep hk, hn⟩
  · obtain ⟨xs, hx, hl, hr⟩ := h.rows t e k es hc
    refine ⟨xs, ⟨hx.1, ?_⟩, hl.keep hk, hr⟩
    rcases hx.2 with h0 | ⟨g, cap, cur, hv, hbg, hgg, hrest⟩
    · exact .inl h0
    · exact .inr ⟨g, cap, cur, hv, hbg, hcell _ _ hgg rfl, hrest⟩
structure OffV (Ds : List Nat) (X Y : World) : Prop where
  os : Y.os = X.os
  tape : Y.tape = X.tape
  output : Y.output = X.output
  size : Y.heap.size = X.heap.size
  block : ∀ b, b ∉ Ds → Y.heap[b]? = X.heap[b]?
theorem leaves_marksV {F : Fence} {n : Nat} {fn : Func} {tmps : Array Value} {R : Ending → World → Prop} : ∀ (Ds : List Nat) (X : World), Ds.Nodup →
    (∀ D ∈ Ds, X.heap[D]? = some (.deferred (some []))) → (∀ Y, OffV Ds X Y → ∃ v, (results fn tmps).run P Y = .ok v Y ∧ R (.returned v) Y) →
    LeavesInM F n P fn tmps R (Ds.map mkDv) .returning X
  | [], X, _, _, h => by
    obtain ⟨v, h1, h2⟩ := h X ⟨rfl, rfl, rfl, rfl, fun _ _ => rfl⟩
    exact ⟨v, h1, h2⟩
  | D :: Ds, X, hn, hD, h => by
    refine ⟨by simp, .inl ⟨D, _, rfl, run_takeDeferred (hD D (List.mem_cons_self ..)), ?_⟩⟩
    obtain ⟨hn1, hn2⟩ := List.nodup_cons.1 hn
    refine leaves_marksV Ds _ hn2 (fun E hE => (World.putObj_heap_other (by rintro rfl; exact hn1 hE)).trans (hD E (List.mem_cons_of_mem _ hE))) fun Y hY => h Y ⟨hY.os, hY.tape, hY.output, by rw [hY.size]; simp [World.putObj], fun b hb => ?_⟩
    rw [hY.block b (fun hm => hb (List.mem_cons_of_mem _ hm))]
    exact World.putObj_heap_other (by rintro rfl; exact hb (List.mem_cons_self ..))
theorem calls_of {f : FuncId} {fn : Func} {body : Code} {res : PV} {T : TypeId → Lay} {M : Nat} {own : List FuncId} {rs : List ResultVar} (hD : ∀ b, ¬ D.mks b) (hf : P.funcs[f]? = some fn) (hb : fn.body = some body) (hrs : fn.results.toList = rs) (hT : ∀ t, LayOK P t (T t))
    {us : List Value} {w : World} {bm : Nat → Nat} {rm : Nat → Value} {σ : St} (hrel : RelAt w0 im0 ⟨0, M, own⟩ D bm rm (lk σ) { tmps := us.toArray ++ Array.replicate (fn.ntmps - us.toArray.size) undef, defers := [] } w)
    (hsem : SemC P w0 im0 ⟨0, M, own⟩ D none 9 body (retQ ⟨Ar.std, T, ⟨0, M, own⟩⟩ rs res) σ) :
    Calls P f us.toArray w fun e Y => ∃ u bm rm L a, e = .returned u ∧ RepP (imAll w0 im0 Y) Y res u ∧ RelAt w0 im0 ⟨0, M, own⟩ D bm rm L a Y := by
  refine (callsIn_wide (n := 9)).1 (callsIn_of_wp_marks hf hb trivial (wpIn_mono (hsem _ w ⟨bm, rm, hrel⟩) ?_) rfl)
  rintro e a' w' ⟨σ', hq, bm, rm, hrel'⟩
  have key : (match (resA Ar.std T rs []).run (lk σ') [] with
      | some (ps, _) => PLe (onePV ps) res
      | none => False) → LeavesInM (FW none) 9 P fn a'.tmps (fun e Y => ∃ u bm rm L a, e = .returned u ∧ RepP (imAll w0 im0 Y) Y res u ∧ RelAt w0 im0 ⟨0, M, own⟩ D bm rm L a Y) a'.defers .returning w' := by
    intro hq
    obtain ⟨Ds, hd1, hd2, hd3⟩ := hrel'.defs.marks
    rw [hd1]
    refine leaves_marksV Ds w' hd2 (fun b hb => (hd3 b hb).2) fun Y hY => ?_
    have hrelY : RelAt w0 im0 ⟨0, M, own⟩ D bm rm (lk σ') { tmps := a'.tmps, defers := [] } Y := by
      refine hrel'.move hY.os hY.tape hY.output (Nat.le_of_eq hY.size.symm) (fun b _ => ?_) hrel'.size (fun _ _ _ => rfl) (fun hk => ⟨⟨[], rfl, by simp, by simp⟩, hrel'.defs.kept.trans hk, hrel'.defs.pins, fun b hb => absurd hb (hD b), Nat.le_trans hrel'.defs.top (Nat.le_of_eq hY.size.symm)⟩)
      by_cases hm : b ∈ Ds
      · exact .inr ⟨(hd3 b hm).1.1, by rw [(hd3 b hm).2]; rfl⟩
      · exact .inl (hY.block b hm)
    split at hq
    · rename_i ps R hr
      obtain ⟨vs, h1, h2⟩ := resA_ok rfl hT hrelY rs [] [] [] _ hr (by simp [RepL])
      simp only [List.nil_append] at h2
      refine ⟨(if h : vs.toArray.size = 1 then vs.toArray[0] else .tuple vs.toArray), ?_, _, bm, rm, _, _, rfl, ?_, hrelY⟩
      · rw [results_eq, Sem.run_bind, Array.mapM_eq_mapM_toList, hrs, Sem.run_map, h1]
        simp only [Result.andThen_ok, Sem.run_pure]
      · refine hq.h _ _ _ ?_
        have hl := h2.len
        cases ps with
        | nil =>
          have : vs = [] := List.eq_nil_of_length_eq_zero (by simpa using hl)
          subst this
          simp only [onePV, RepP]
          exact ⟨[], by simp, h2⟩
        | cons p ps =>
          cases ps with
          | nil =>
            simp only [RepL] at h2
            obtain ⟨x, xs, rfl, hp, rfl⟩ := h2
            simpa [onePV] using hp
          | cons q qs =>
            have : ¬ vs.toArray.size = 1 := by simp [hl]
            rw [dif_neg this]
            simp only [onePV, RepP]
            exact ⟨vs, rfl, h2⟩
    · exact hq.elim
  cases e with
  | normal => exact key hq
  | ret => exact key hq
  | _ => exact hq.elim
theorem does_of {f : FuncId} {fn : Func} {body : Code} {args : List PV} {res : PV} {T : TypeId → Lay} {M : Nat} {own : List FuncId} {rs : List ResultVar} (hf : P.funcs[f]? = some fn) (hb : fn.body = some body) (hN : fn.ntmps = M) (hrs : fn.results.toList = rs)
    (hen : ∀ us w, (callFunc f us).run P w = .ok (.enter f us) w) (hT : ∀ t, LayOK P t (T t)) (hm : P.follows .mixedOrders = true) (hle : args.length ≤ M)
    (h : ∀ (w0 : World) (im0 : Nat → Prop) (D : Env) (S : Code → (Exit → St → Prop) → St → Prop) (Cl : FuncId → List PV → PV → Prop), (∀ c Q σ, SemC P w0 im0 ⟨0, M, own⟩ D none 9 c Q σ → S c Q σ) → (∀ f a v, Can P f a v → Cl f a v) → ∀ ar, ar = Ar.std → acode ⟨ar, T, ⟨0, M, own⟩⟩ Cl S body (retQ ⟨ar, T, ⟨0, M, own⟩⟩ rs res) (st0 0 args)) : Does P f args res := by
  refine ⟨hen, fun w im us him hrep => ?_⟩
  have hlen := hrep.len
  have hrel : RelAt w im ⟨0, M, own⟩ ⟨fun _ => False, w, #[], fun _ => False, 0⟩ (fun _ => 0) (fun _ => .nilFunc) (lk (st0 0 args)) { tmps := us.toArray ++ Array.replicate (fn.ntmps - us.toArray.size) undef, defers := [] } w := by
    have hnb : ∀ k, ¬ isBox (lk (st0 0 args)) k := fun k hb => by
      rcases hb with ⟨ty, cs, hc⟩ | ⟨o, hc⟩ <;>
      · obtain ⟨_, _, _, h2, h3⟩ := st0_get args 0 _ _ hc (by simp)
        exact (kT_ne_kB _ _) h2.symm
    have hnr : ∀ k, ¬ isRow (lk (st0 0 args)) k := fun k ⟨e, q, es, hc⟩ => by
      obtain ⟨_, _, _, h2, h3⟩ := st0_get args 0 _ _ hc (by simp)
      exact (kT_ne_kR _ _) h2.symm
    refine ⟨Below.refl _ _, by simp [hN, hlen]; omega, ⟨⟨[], rfl, by simp, by simp⟩, (fun _ h => h.elim), fun d hd => absurd hd (Nat.not_lt_zero d), fun _ h => h.elim, Nat.zero_le _⟩, fun d v hv => ?_, fun k ty cs hc => absurd (.inl ⟨ty, cs, hc⟩) (hnb k), fun k o hc => absurd (.inr ⟨o, hc⟩) (hnb k), fun t e k es hc => absurd ⟨e, k, es, hc⟩ (hnr t), fun k k' hk => absurd hk (hnb k), fun k t hk => absurd hk (hnb k), fun t t' g ht => absurd ht (hnr t), fun i k hk => ?_, fun i t ht => ?_⟩
    · obtain ⟨k, p, h1, h2, h3⟩ := st0_get args 0 _ _ hv (by simp)
      have hd : d = k := by have := kT_inj h2; omega
      subst hd
      cases h3
      obtain ⟨u, hu, hp⟩ := hrep.get h1
      have hlt := (List.getElem?_eq_some_iff.1 hu).1
      have e : (us.toArray ++ Array.replicate (fn.ntmps - us.toArray.size) undef).getD d undef = u := by
        simp only [Array.getD_eq_getD_getElem?, Array.getElem?_append, List.size_toArray, hlt, if_true, List.getElem?_toArray, hu, Option.getD_some]
      show RepT _ _ _ _ _ ((us.toArray ++ Array.replicate (fn.ntmps - us.toArray.size) undef).getD d undef)
      rw [e]
      exact TV.ofPV_rep (RepP.keep (fun b hb => ⟨⟨him b hb, .inl hb, fun k hk => absurd hk (hnb k), fun t ht => absurd ht (hnr t)⟩, rfl⟩) _ _ hp)
    · cases hc : lk (st0 0 args) i with
      | none => rw [hc] at hk; simp [Cont.boxes] at hk
      | _ =>
        obtain ⟨q, p, _, _, h3⟩ := st0_get args 0 _ _ hc (by simp)
        rw [hc, h3] at hk
        simp [Cont.boxes, TV.ofPV_boxes] at hk
    · cases hc : lk (st0 0 args) i with
      | none => rw [hc] at ht; simp [Cont.rows] at ht
      | _ =>
        obtain ⟨q, p, _, _, h3⟩ := st0_get args 0 _ _ hc (by simp)
        rw [hc, h3] at ht
        simp [Cont.rows, TV.ofPV_rows] at ht
  have hsem := acode_ok (X := ⟨Ar.std, T, ⟨0, M, own⟩⟩) (P := P) (w0 := w) (im0 := im) (D := ⟨fun _ => False, w, #[], fun _ => False, 0⟩) (ro := none) (n := 9) rfl hT hm body _ _ (h w im _ _ _ (fun _ _ _ h => h) (fun _ _ _ h => h) Ar.std rfl)
  refine (calls_of (fun _ h => h) hf hb hrs hT hrel hsem).mono ?_
  rintro e Y ⟨u, bm, rm, L, a, rfl, hu, hY⟩
  exact ⟨u, rfl, RepP.keep (fun b hb => ⟨hb.2.elim .inl fun h => .inr ⟨h, hb.1⟩, rfl⟩) _ _ hu, hY.base⟩
end
def CV.ren (ρ : Nat → Nat) : CV → CV
  | .row t => .row (ρ t)
  | .rptr t k i o => .rptr (ρ t) k i o
  | c => c
def TV.ren (ρ : Nat → Nat) : TV → TV
  | .c v => .c (v.ren ρ)
  | .agg cs => .agg (cs.map (CV.ren ρ))
def leC (ρ : Nat → Nat) (c' c : CV) : Prop := match c' with
  | .unk => True
  | c' => c = c'.ren ρ
def leCs (ρ : Nat → Nat) : List CV → List CV → Prop
  | [], [] => True
  | c' :: r', c :: r => leC ρ c' c ∧ leCs ρ r' r
  | _, _ => False
def wk1 (ρ : Nat → Nat) (L : Lk) (i : Nat) (c' : Cont) : Prop := match c' with
  | .t v' => L i = .t (v'.ren ρ)
  | .box ty cs' => match L i with
    | .box ty2 cs => ty2 = ty ∧ leCs ρ cs' cs
    | _ => False
  | .row e k es => L (kR (ρ ((i - 2) / 3))) = .row e k es
  | .obj o => L i = .obj o
  | _ => True
def wkP (ρ : Nat → Nat) (L : Lk) : St → Prop
  | [] => True
  | (i, c) :: r => wk1 ρ L i c ∧ wkP ρ L r
def Cont.kind : Cont → Nat
  | .t _ => 0
  | .box _ _ => 1
  | .row _ _ _ => 2
  | .obj _ => 1
  | _ => 3
def keysB : St → Bool
  | [] => true
  | (i, c) :: r => Nat.beq (i % 3) c.kind && (r.all fun x => !Nat.beq x.1 i) && keysB r
def hasB (σ : St) (i : Nat) : Bool := σ.any fun x => Nat.beq x.1 i
def shutB (σ : St) : Bool := σ.all fun x => (x.2.boxes.all fun k => hasB σ (kB k)) && (x.2.rows.all fun t => hasB σ (kR t))
def injB (ρ : Nat → Nat) : St → Bool
  | [] => true
  | (i, c) :: r => (match c with
    | .row _ _ _ => r.all fun x => match x.2 with
      | .row _ _ _ => !Nat.beq (ρ ((i - 2) / 3)) (ρ ((x.1 - 2) / 3))
      | _ => true
    | _ => true) && injB ρ r
def goodB (ρ : Nat → Nat) (σ : St) : Bool := keysB σ && shutB σ && injB ρ σ
structure Weak (ρ : Nat → Nat) (σ σ' : St) : Prop where
  ok : goodB ρ σ' = true
  le : wkP ρ (lk σ) σ'
section
theorem lk_mem : ∀ {σ : St} {i : Nat} {c : Cont}, lk σ i = c → c ≠ .none → (i, c) ∈ σ
  | [], i, c, h, hc => by simp only [lk_eq, ovr] at h; exact absurd h.symm hc
  | (j, d) :: r, i, c, h, hc => by
    simp only [lk_eq, ovr] at h
    cases hb : Nat.beq j i with
    | true => rw [hb] at h; have := Nat.eq_of_beq_eq_true hb; simp only [cond_true] at h; subst this; subst h; simp
    | false => rw [hb] at h; exact List.mem_cons_of_mem _ (lk_mem (σ := r) (by rw [lk_eq]; exact h) hc)
theorem lk_has {σ : St} (hk : keysB σ = true) : ∀ {i : Nat}, hasB σ i = true → lk σ i ≠ .none := by
  induction σ with
  | nil => intro i h; simp [hasB] at h
  | cons x r ih =>
    intro i h
    obtain ⟨j, d⟩ := x
    simp only [keysB, Bool.and_eq_true] at hk
    simp only [hasB, List.any_cons, Bool.or_eq_true] at h
    simp only [lk_eq, ovr]
    cases hb : Nat.beq j i with
    | true =>
      simp only [cond_true]
      rintro rfl
      have := Nat.eq_of_beq_eq_true hk.1.1
      simp only [Cont.kind] at this
      omega
    | false =>
      simp only [cond_false]
      rw [hb] at h
      rw [← lk_eq]
      exact ih hk.2 (by simpa [hasB] using h)
theorem wkP_mem {ρ : Nat → Nat} {L : Lk} : ∀ {σ : St}, wkP ρ L σ → ∀ {i : Nat} {c : Cont}, (i, c) ∈ σ → wk1 ρ L i c
  | [], _, i, c, h => by simp at h
  | x :: r, hw, i, c, h => by
    simp only [wkP] at hw
    rcases List.mem_cons.1 h with rfl | h
    · exact hw.1
    · exact wkP_mem hw.2 h
theorem injB_mem {ρ : Nat → Nat} : ∀ {σ : St}, injB ρ σ = true → keysB σ = true → ∀ {i j : Nat} {e e' k k' : Nat} {es es' : List (List PV)}, (i, Cont.row e k es) ∈ σ → (j, Cont.row e' k' es') ∈ σ →
    ρ ((i - 2) / 3) = ρ ((j - 2) / 3) → i = j
  | [], _, _, _, _, _, _, _, _, _, _, h, _, _ => by simp at h
  | (q, c) :: r, hi, hk, i, j, e, e', k, k', es, es', h1, h2, he => by
    simp only [injB, Bool.and_eq_true] at hi
    simp only [keysB, Bool.and_eq_true] at hk
    have m1 := List.mem_cons.1 h1
    have m2 := List.mem_cons.1 h2
    clear h1 h2
    rcases m1 with m1 | m1
    · rcases m2 with m2 | m2
      · cases m1; cases m2; rfl
      · cases m1
        simp only [List.all_eq_true] at hi
        have := hi.1 _ m2
        simp only [Bool.not_eq_true'] at this
        exact absurd he (Nat.ne_of_beq_eq_false this)
    · rcases m2 with m2 | m2
      · cases m2
        simp only [List.all_eq_true] at hi
        have := hi.1 _ m1
        simp only [Bool.not_eq_true'] at this
        exact absurd he.symm (Nat.ne_of_beq_eq_false this)
      · exact injB_mem hi.2 hk.2 m1 m2 he
end
section
variable {P : Program} {w0 : World} {im0 : Nat → Prop} {N : NN} {D : Env} {ro : Option Nat} {n : Nat} {bm : Nat → Nat} {rm : Nat → Value} {a : Act} {w : World}
theorem leC_rep {ρ : Nat → Nat} {im im' : Nat → Prop} {c' c : CV} {u : Value} (hk : Keeps im w im' w) (hl : leC ρ c' c) (h : RepV bm rm im w c u) : RepV bm (fun t => rm (ρ t)) im' w c' u := by
  cases c' with
  | p v => have hl : c = .p v := hl; subst hl; exact RepP.keep hk _ _ h
  | ptr k o => have hl : c = .ptr k o := hl; subst hl; exact h
  | row t => have hl : c = .row (ρ t) := hl; subst hl; exact h
  | rptr t k i o => have hl : c = .rptr (ρ t) k i o := hl; subst hl; exact h
  | aptr k o l i => have hl : c = .aptr k o l i := hl; subst hl; exact h
  | clo f ks => have hl : c = .clo f ks := hl; subst hl; exact h
  | mp k => have hl : c = .mp k := hl; subst hl; exact h
  | und => have hl : c = .und := hl; subst hl; exact h
  | unk => trivial
theorem leCs_rep {ρ : Nat → Nat} {im im' : Nat → Prop} (hk : Keeps im w im' w) : ∀ {cs' cs : List CV} {us : List Value}, leCs ρ cs' cs → RepVs bm rm im w cs us → RepVs bm (fun t => rm (ρ t)) im' w cs' us
  | [], [], _, _, h => h
  | [], _ :: _, _, hl, _ => hl.elim
  | _ :: _, [], _, hl, _ => hl.elim
  | c' :: cs', c :: cs, us, hl, h => by
    simp only [leCs] at hl
    simp only [RepVs] at h ⊢
    obtain ⟨x, xs, rfl, h1, h2⟩ := h
    exact ⟨x, xs, rfl, leC_rep hk hl.1 h1, leCs_rep hk hl.2 h2⟩
theorem leCs_map (ρ : Nat → Nat) : ∀ cs : List CV, leCs ρ cs (cs.map (CV.ren ρ))
  | [] => trivial
  | c :: cs => by
    refine ⟨?_, leCs_map ρ cs⟩
    cases c <;> simp [leC, CV.ren]
theorem leT_rep {ρ : Nat → Nat} {im im' : Nat → Prop} {v : TV} {u : Value} (hk : Keeps im w im' w) (h : RepT bm rm im w (v.ren ρ) u) : RepT bm (fun t => rm (ρ t)) im' w v u := by
  cases v with
  | c c => exact leC_rep (c := c.ren ρ) hk (by cases c <;> simp [leC, CV.ren]) h
  | agg cs =>
    obtain ⟨us, rfl, h⟩ := h
    exact ⟨us, rfl, leCs_rep hk (leCs_map ρ cs) h⟩
theorem RelAt.weak {ρ : Nat → Nat} {σ σ' : St} (hw : Weak ρ σ σ') (h : RelAt w0 im0 N D bm rm (lk σ) a w) : RelAt w0 im0 N D bm (fun t => rm (ρ t)) (lk σ') a w := by
  obtain ⟨hok, hle⟩ := hw
  simp only [goodB, Bool.and_eq_true] at hok
  obtain ⟨⟨hkeys, hshut⟩, hinj⟩ := hok
  have hT : ∀ d v', lk σ' (kT d) = .t v' → lk σ (kT d) = .t (v'.ren ρ) := fun d v' hv => wkP_mem hle (lk_mem hv (by simp))
  have hB : ∀ k ty cs', lk σ' (kB k) = .box ty cs' → ∃ cs, lk σ (kB k) = .box ty cs ∧ leCs ρ cs' cs := fun k ty cs' hc => by
    have := wkP_mem hle (lk_mem hc (by simp))
    simp only [wk1] at this
    split at this
    · rename_i ty2 cs heq
      obtain ⟨rfl, hl⟩ := this
      exact ⟨cs, heq, hl⟩
    · exact this.elim
  have hR : ∀ t e k es, lk σ' (kR t) = .row e k es → lk σ (kR (ρ t)) = .row e k es := fun t e k es hc => by
    have := wkP_mem hle (lk_mem hc (by simp))
    simp only [wk1, kR] at this
    rwa [show (3 * t + 2 - 2) / 3 = t by omega] at this
  have hO : ∀ k o, lk σ' (kB k) = .obj o → lk σ (kB k) = .obj o := fun k o hc => wkP_mem hle (lk_mem hc (by simp))
  have iB : ∀ k, isBox (lk σ') k → isBox (lk σ) k := fun k hb => by
    rcases hb with ⟨ty, cs', hc⟩ | ⟨o, hc⟩
    · obtain ⟨cs, h1, _⟩ := hB k ty cs' hc; exact .inl ⟨ty, cs, h1⟩
    · exact .inr ⟨o, hO k o hc⟩
  have iR : ∀ t, isRow (lk σ') t → isRow (lk σ) (ρ t) := fun t ⟨e, k, es, hc⟩ => ⟨e, k, es, hR t e k es hc⟩
  have hk : Keeps (imOf w0.heap.size im0 bm rm (lk σ) w) w (imOf w0.heap.size im0 bm (fun t => rm (ρ t)) (lk σ') w) w := fun b hb =>
    ⟨⟨hb.1, hb.2.1, fun k hk => hb.2.2.1 k (iB k hk), fun t ht => hb.2.2.2 (ρ t) (iR t ht)⟩, rfl⟩
  refine ⟨h.base, h.size, h.defs.keep (by first | exact Nat.le_refl _ | exact hg.size | exact hbel.size | exact hw.size | exact hs | (simp; done) | omega) hk (fun _ _ => rfl), fun d v hv => leT_rep hk (h.slots d _ (hT d v hv)), fun k ty cs' hc => ?_, fun k o hc => ?_, fun t e k es hc => ?_, fun k k' hk1 hk2 => h.bb k k' (iB k hk1) (iB k' hk2), fun k t hk1 ht => h.br k (ρ t) (iB k hk1) (iR t ht), fun t t' g ht ht' h1 h2 => ?_, fun i k hk' => ?_, fun i t ht => ?_⟩
  · obtain ⟨cs, h1, h2⟩ := hB k ty cs' hc
    obtain ⟨us, hu, hr, hn⟩ := h.boxes k ty cs h1
    exact ⟨us, hu, leCs_rep hk h2 hr, hn⟩
  · obtain ⟨O, hu, hr, hn⟩ := h.objs k o (hO k o hc)
    exact ⟨O, hu, hr.keep hk, hn⟩
  · obtain ⟨xs, hx, hl, hr⟩ := h.rows (ρ t) e k es (hR t e k es hc)
    exact ⟨xs, hx, RepL.keep hk _ _ hl, hr⟩
  · have e1 := h.rr (ρ t) (ρ t') g (iR t ht) (iR t' ht') h1 h2
    obtain ⟨e, k, es, hc⟩ := ht
    obtain ⟨e', k', es', hc'⟩ := ht'
    have := injB_mem hinj hkeys (lk_mem hc (by simp)) (lk_mem hc' (by simp)) (by
      simp only [kR]
      rw [show (3 * t + 2 - 2) / 3 = t by omega, show (3 * t' + 2 - 2) / 3 = t' by omega]; exact e1)
    exact kR_inj this
  · cases hc : lk σ' i with
    | none => rw [hc] at hk'; simp [Cont.boxes] at hk'
    | _ =>
      have hm := lk_mem hc (by simp)
      rw [hc] at hk'
      simp only [shutB, List.all_eq_true, Bool.and_eq_true] at hshut
      exact lk_has hkeys ((hshut _ hm).1 k hk')
  · cases hc : lk σ' i with
    | none => rw [hc] at ht; simp [Cont.rows] at ht
    | _ =>
      have hm := lk_mem hc (by simp)
      rw [hc] at ht
      simp only [shutB, List.all_eq_true, Bool.and_eq_true] at hshut
      exact lk_has hkeys ((hshut _ hm).2 t ht)
theorem Rel.weak {ρ : Nat → Nat} {σ σ' : St} (hw : Weak ρ σ σ') (h : Rel w0 im0 N D (lk σ) a w) : Rel w0 im0 N D (lk σ') a w := by
  obtain ⟨bm, rm, h⟩ := h
  exact ⟨bm, _, h.weak hw⟩
theorem exists_least {p : Nat → Prop} (h : ∃ m, p m) : ∃ m, p m ∧ ∀ k, p k → m ≤ k := by
  obtain ⟨m, hm⟩ := h
  induction m using Nat.strongRecOn with
  | _ m ih =>
    by_cases hl : ∃ k, k < m ∧ p k
    · obtain ⟨k, hk, hp⟩ := hl
      exact ih k hk hp
    · exact ⟨m, hm, fun k hk => Nat.le_of_not_lt fun hlt => hl ⟨k, hlt, hk⟩⟩
theorem sem_loop {ι : Type} {c : Code} {Q : Exit → St → Prop} {σ : St} (I : ι → St) (Inv : ι → Prop) (μ : ι → Nat) (ρ : Nat → Nat) (i0 : ι) (ρ0 : Nat → Nat) (hw : Weak ρ0 σ (I i0)) (h0 : Inv i0)
    (round : ∀ i, Inv i → SemC P w0 im0 N D ro n c (fun e σ' => match e with
      | .normal => ∃ j, Inv j ∧ μ j < μ i ∧ Weak ρ σ' (I j)
      | e => Q e σ') (I i)) : SemC P w0 im0 N D ro n (.loop c) Q σ := by
  intro a w hr
  classical
  let p : Act → World → Nat → Prop := fun a w m => ∃ i, Inv i ∧ Rel w0 im0 N D (lk (I i)) a w ∧ μ i = m
  let M : Act → World → Nat := fun a w => if h : ∃ m, p a w m then (exists_least h).choose else 0
  have hM : ∀ {a w m}, p a w m → p a w (M a w) ∧ M a w ≤ m := fun {a w m} h => by
    have hex : ∃ m, p a w m := ⟨m, h⟩
    have := (exists_least hex).choose_spec
    simp only [M, dif_pos hex]
    exact ⟨this.1, this.2 m h⟩
  refine wpIn_loop (fun a w => ∃ m, p a w m) M ⟨_, i0, h0, hr.weak hw, rfl⟩ fun a w ⟨m, hm⟩ => ?_
  obtain ⟨⟨i, hi, hrel, hmi⟩, _⟩ := hM hm
  refine wpIn_mono (round i hi a w hrel) ?_
  rintro e a' w' ⟨σ', hq, hrel'⟩
  cases e with
  | normal =>
    obtain ⟨j, hj, hlt, hwk⟩ := hq
    have hp : p a' w' (μ j) := ⟨j, hj, hrel'.weak hwk, rfl⟩
    exact ⟨⟨_, hp⟩, by have := (hM hp).2; omega⟩
  | _ => exact ⟨σ', hq, hrel'⟩
theorem sem_of {X : Ctx} {c : Code} {Q : Exit → St → Prop} {σ : St} (har : X.ar = Ar.std) (hT : ∀ t, LayOK P t (X.T t)) (hm : P.follows .mixedOrders = true)
    (h : ∀ (S : Code → (Exit → St → Prop) → St → Prop) (Cl : FuncId → List PV → PV → Prop), (∀ c Q σ, SemC P w0 im0 X.N D ro n c Q σ → S c Q σ) → (∀ f a v, Can P f a v → Cl f a v) → acode X Cl S c Q σ) : SemC P w0 im0 X.N D ro n c Q σ :=
  acode_ok har hT hm c Q σ (h _ _ (fun _ _ _ h => h) fun _ _ _ h => h)
theorem RelAt.mkRow {L : Lk} (h : RelAt w0 im0 N D bm rm L a w) {d t : Nat} (e : TypeId) (k : Nat) (hd : L (kT d) = .t (.c (.p .nil))) (ht : L (kR t) = .none) :
    RelAt w0 im0 N D bm (updN rm t (.slice none 0 0)) (ovr [(kT d, .t (.c (.row t))), (kR t, .row e k []), (kR t, .dead)] L) a w := by
  have hnew := h.newRow (d := t) (r := t) (e := e) (k := k) (es := []) (v := .slice none 0 0) (xs := []) (row := none) ht ⟨rfl, rfl, rfl, Nat.le_refl _, fun _ _ _ => rfl⟩ (by simp) (World.ownsRow_nil w _ e k) (by simp [Value.ownBlock]) (by simp [RepL]) (by simp)
  have hs : a.tmps.getD d undef = .slice none 0 0 := h.slots d _ hd
  have := hnew.see (d := d) (u := .slice none 0 0) (v := .c (.row t)) hs ⟨by rw [updN_same], _, _, _, rfl⟩ (by simp [TV.boxes, CV.boxes]) (fun q hq => by
    simp only [TV.rows, CV.rows, List.mem_singleton] at hq
    subst hq
    rw [ovr_cons, ovrR_R, if_pos rfl]; simp)
  rwa [ovr_cons]
theorem sem_mkRow {c : Code} {Q : Exit → St → Prop} {σ : St} (d t : Nat) (e : TypeId) (k : Nat) (hd : lk σ (kT d) = .t (.c (.p .nil))) (ht : lk σ (kR t) = .none)
    (h : SemC P w0 im0 N D ro n c Q ((kT d, .t (.c (.row t))) :: (kR t, .row e k []) :: (kR t, .dead) :: σ)) : SemC P w0 im0 N D ro n c Q σ := fun a w ⟨bm, rm, hr⟩ =>
  h a w ⟨bm, _, by rw [lk_cons, lk_cons, lk_cons]; exact hr.mkRow e k hd ht⟩
end
theorem wrap_fits {n : Int} (h1 : -9223372036854775808 ≤ n) (h2 : n ≤ 9223372036854775807) : IntKind.i64.wrap n = n := by
  rw [IntKind.wrap_i64]; omega
structure Facts (ai : BinOp → Int → Int → Int) (ab : BinOp → Int → Int → Bool) (nz : Int → Bool) (inr : Nat → Int → Bool) (fi : List Int → Int → Int) (pk : List CV → Int → Option CV)
    (ix : List (List PV) → Int → Option (List PV)) (ln : List (List PV) → Int) (sb : BinOp → ByteArray → ByteArray → Bool) (eqi : List PV → List PV → Bool) (sl : List (List PV) → Int → Int → Option (List (List PV)))
    (fits : Nat → List (List PV) → List (List PV) → Bool) (mn mx : Int → Int → Int) (nt : Bool → Bool) (be : BinOp → Bool → Bool → Bool) (up : List (List PV) → Int → List PV → List (List PV)) (fu : Int → Nat → Int → Int → Int) (mg : Nat → List (List PV) → List PV → List PV → List PV) (mh : Nat → List (List PV) → List PV → Bool) (ms : Nat → List (List PV) → List PV → List PV → List (List PV)) : Prop where
  add : ∀ x y : Int, -9223372036854775808 ≤ x + y → x + y ≤ 9223372036854775807 → ai .add x y = x + y
  sub : ∀ x y : Int, -9223372036854775808 ≤ x - y → x - y ≤ 9223372036854775807 → ai .sub x y = x - y
  mul : ∀ x y : Int, -9223372036854775808 ≤ x * y → x * y ≤ 9223372036854775807 → ai .mul x y = x * y
  quo : ∀ x y : Int, -9223372036854775808 ≤ x.tdiv y → x.tdiv y ≤ 9223372036854775807 → ai .quo x y = x.tdiv y
  rem : ∀ x y : Int, ai .rem x y = x.tmod y
  eql : ∀ x y : Int, ab .eql x y = (x == y)
  neq : ∀ x y : Int, ab .neq x y = (x != y)
  lss : ∀ x y : Int, ab .lss x y = decide (x < y)
  leq : ∀ x y : Int, ab .leq x y = decide (x ≤ y)
  gtr : ∀ x y : Int, ab .gtr x y = decide (x > y)
  geq : ∀ x y : Int, ab .geq x y = decide (x ≥ y)
  nz : ∀ x : Int, x ≠ 0 → nz x = true
  inr : ∀ (n : Nat) (i : Int), 0 ≤ i → i < n → inr n i = true
  fi : ∀ (l : List Int) (i : Int), fi l i = l.getD i.toNat 0
  pk : ∀ (l : List CV) (i : Int) (k : Nat), i = k → pk l i = l[k]?
  ix : ∀ (l : List (List PV)) (i : Int) (k : Nat), i = k → ix l i = l[k]?
  ln : ∀ l : List (List PV), ln l = l.length
  mn : ∀ x y : Int, mn x y = min x y
  mx : ∀ x y : Int, mx x y = max x y
  nt : ∀ b, nt b = !b
  eqi : ∀ x y : List PV, eqi x y = eqPs x y
  sl : ∀ (l : List (List PV)) (i j : Int) (a b : Nat), i = a → j = b → a ≤ b → b ≤ l.length → sl l i j = some ((l.drop a).take (b - a))
  up : ∀ (l : List (List PV)) (i : Int) (k : Nat) (e : List PV), i = k → up l i e = l.set k e
  fu : ∀ (i : Int) (j : Nat) (x y : Int), fu i j x y = if i = j then x else y
  be : ∀ a b, be .eql a b = (a == b) ∧ be .neq a b = !(a == b)
  mg : ∀ (n : Nat) (es : List (List PV)) (key vz : List PV), mg n es key vz = mGet n es key vz
  mh : ∀ (n : Nat) (es : List (List PV)) (key : List PV), mh n es key = (mFind n key es).isSome
  ms : ∀ (n : Nat) (es : List (List PV)) (key v : List PV), ms n es key v = mSet n es key v
  fits : ∀ (b : Nat) (x y : List (List PV)), (x.length + y.length) * (b + 1) ≤ 1000000000000 → fits b x y = true
  uw : ∀ x : Int, 0 ≤ x → x ≤ 18446744073709551615 → ai .andNot x 0 = x
  iw : ∀ x : Int, -9223372036854775808 ≤ x → x ≤ 9223372036854775807 → ai .xor x 0 = x
  shr1 : ∀ x : Int, 0 ≤ x → ai .shr x 1 = x / 2
  addw : ∀ x y : Int, ai .add x y = IntKind.i64.wrap (x + y)
  mulw : ∀ x y : Int, ai .mul x y = IntKind.i64.wrap (x * y)
theorem facts_of {ai ab nz inr fi pk ix ln sb eqi sl fits mn mx nt be up fu mg mh ms} (h : Ar.mk ai ab nz inr fi pk ix ln sb eqi sl fits mn mx nt be up fu mg mh ms = Ar.std) : Facts ai ab nz inr fi pk ix ln sb eqi sl fits mn mx nt be up fu mg mh ms := by
  simp only [Ar.std, Ar.mk.injEq] at h
  obtain ⟨rfl, rfl, rfl, rfl, rfl, rfl, rfl, rfl, rfl, rfl, rfl, rfl, rfl, rfl, rfl, rfl, rfl, rfl, rfl, rfl, rfl⟩ := h
  refine ⟨fun x y h1 h2 => wrap_fits h1 h2, fun x y h1 h2 => wrap_fits h1 h2, fun x y h1 h2 => wrap_fits h1 h2, fun x y h1 h2 => wrap_fits h1 h2, fun _ _ => rfl, fun _ _ => rfl, fun _ _ => rfl, fun _ _ => rfl, fun _ _ => rfl, fun _ _ => rfl, fun _ _ => rfl,
    fun x h => by simpa using h, fun n i h1 h2 => by simp [h1, h2], fun _ _ => rfl, fun l i k h => by subst h; simp, fun l i k h => by subst h; simp, fun _ => rfl, fun x y => ?_, fun x y => ?_, fun _ => rfl, fun _ _ => rfl, fun l i j a b hi hj h1 h2 => ?_, fun l i k e h => by subst h; simp, fun _ _ _ _ => rfl, fun _ _ => ⟨rfl, rfl⟩, fun _ _ _ _ => rfl, fun _ _ _ => rfl, fun _ _ _ _ => rfl, fun b x y h => by simpa using h, fun x h1 h2 => IntWalk.u64_in x ⟨h1, h2⟩, fun x h1 h2 => wrap_fits h1 h2, fun x h => by show x.fdiv (2 ^ 1) = _; rw [Int.fdiv_eq_ediv_of_nonneg _ (by decide)]; rfl, fun _ _ => rfl, fun _ _ => rfl⟩
  · show (if y < x then y else x) = min x y
    split <;> omega
  · show (if y > x then y else x) = max x y
    split <;> omega
  · subst hi; subst hj
    show (if _ then _ else _) = _
    rw [if_pos (by omega)]
    simp
def sI (d : Nat) (n : Int) : Nat × Cont := (kT d, .t (.c (.p (.int .i64 n))))
def sB (d : Nat) (b : Bool) : Nat × Cont := (kT d, .t (.c (.p (.bool b))))
def sL (d k : Nat) (es : List (List PV)) : Nat × Cont := (kT d, .t (.c (.p (.list k es))))
def sV (d : Nat) (v : PV) : Nat × Cont := (kT d, .t (TV.ofPV v))
def sP (d k : Nat) : Nat × Cont := (kT d, .t (.c (.ptr k 0)))
def sR (d t : Nat) : Nat × Cont := (kT d, .t (.c (.row t)))
def bX (k ty : Nat) (cs : List CV) : Nat × Cont := (kB k, .box ty cs)
def rW (t e k : Nat) (es : List (List PV)) : Nat × Cont := (kR t, .row e k es)
def cI (n : Int) : CV := .p (.int .i64 n)
def cL (k : Nat) (es : List (List PV)) : CV := .p (.list k es)
def rowP (x : List Int) : List PV := x.map (PV.int .i64)
theorem list7P {x : List Int} (h : x.length = 7) : ∃ a b c d e f g, x = [a, b, c, d, e, f, g] := by
  match x, h with
  | [a, b, c, d, e, f, g], _ => exact ⟨a, b, c, d, e, f, g, rfl⟩
theorem get_rows {T : List (List Int)} {k : Nat} (h : k < T.length) : (T.map rowP)[k]? = some (rowP T[k]) := by simp [h]
theorem take_last {α : Type} {T : List α} {k : Nat} (h : k < T.length) : T.take (k + 1) = T.take k ++ [T[k]] := List.take_succ_eq_append_getElem h
set_option maxRecDepth 100000
def tab : List (TypeId × Lay) := [
  (2, .sc (.int .i64 0)),
  (3, .sc (.int .i64 0)),
  (4, .sc (.bool false)),
  (5, .sc (.int .u8 0)),
  (9, .sc (.str ⟨#[]⟩)),
  (21, .sc (.int .i32 0)),
  (22, .sl 30 24 192 true [.int .i64 0, .int .i64 0, .int .i64 0, .int .i64 0, .int .i64 0, .int .i64 0, .int .i64 0, .int .i64 0, .int .i64 0, .int .i64 0, .int .i64 0, .int .i64 0, .int .i64 0, .int .i64 0, .int .i64 0, .int .i64 0, .int .i64 0, .int .i64 0, .int .i64 0, .int .i64 0, .int .i64 0, .int .i64 0, .int .i64 0, .int .i64 0]),
  (23, .sl 32 9 72 true [.int .i64 0, .int .i64 0, .int .i64 0, .int .i64 0, .int .i64 0, .int .i64 0, .int .i64 0, .int .i64 0, .int .i64 0]),
  (24, .sl 34 7 56 true [.int .i64 0, .int .i64 0, .int .i64 0, .int .i64 0, .int .i64 0, .int .i64 0, .int .i64 0]),
  (25, .st false [(0, 1, false), (1, 1, false), (2, 1, false)] [.nil, .nil, .nil]),
  (26, .st false [(0, 1, false), (1, 1, false), (2, 1, false)] [.nil, .nil, .nil]),
  (27, .arr true 10 1 false [.int .i64 0, .int .i64 0, .int .i64 0, .int .i64 0, .int .i64 0, .int .i64 0, .int .i64 0, .int .i64 0, .int .i64 0, .int .i64 0]),
  (28, .arr true 10 1 false [.int .i64 0, .int .i64 0, .int .i64 0, .int .i64 0, .int .i64 0, .int .i64 0, .int .i64 0, .int .i64 0, .int .i64 0, .int .i64 0]),
  (29, .st true [(0, 1, false), (1, 10, true), (11, 10, true), (21, 1, false), (22, 1, false), (23, 1, false)] [.int .i64 0, .int .i64 0, .int .i64 0, .int .i64 0, .int .i64 0, .int .i64 0, .int .i64 0, .int .i64 0, .int .i64 0, .int .i64 0, .int .i64 0, .int .i64 0, .int .i64 0, .int .i64 0, .int .i64 0, .int .i64 0, .int .i64 0, .int .i64 0, .int .i64 0, .int .i64 0, .int .i64 0, .int .i64 0, .int .i64 0, .int .i64 0]),
  (30, .st true [(0, 1, false), (1, 10, true), (11, 10, true), (21, 1, false), (22, 1, false), (23, 1, false)] [.int .i64 0, .int .i64 0, .int .i64 0, .int .i64 0, .int .i64 0, .int .i64 0, .int .i64 0, .int .i64 0, .int .i64 0, .int .i64 0, .int .i64 0, .int .i64 0, .int .i64 0, .int .i64 0, .int .i64 0, .int .i64 0, .int .i64 0, .int .i64 0, .int .i64 0, .int .i64 0, .int .i64 0, .int .i64 0, .int .i64 0, .int .i64 0]),
  (31, .st true [(0, 1, false), (1, 1, false), (2, 1, false), (3, 1, false), (4, 1, false), (5, 1, false), (6, 1, false), (7, 1, false), (8, 1, false)] [.int .i64 0, .int .i64 0, .int .i64 0, .int .i64 0, .int .i64 0, .int .i64 0, .int .i64 0, .int .i64 0, .int .i64 0]),
  (32, .st true [(0, 1, false), (1, 1, false), (2, 1, false), (3, 1, false), (4, 1, false), (5, 1, false), (6, 1, false), (7, 1, false), (8, 1, false)] [.int .i64 0, .int .i64 0, .int .i64 0, .int .i64 0, .int .i64 0, .int .i64 0, .int .i64 0, .int .i64 0, .int .i64 0]),
  (33, .st true [(0, 1, false), (1, 1, false), (2, 1, false), (3, 1, false), (4, 1, false), (5, 1, false), (6, 1, false)] [.int .i64 0, .int .i64 0, .int .i64 0, .int .i64 0, .int .i64 0, .int .i64 0, .int .i64 0]),
  (34, .st true [(0, 1, false), (1, 1, false), (2, 1, false), (3, 1, false), (4, 1, false), (5, 1, false), (6, 1, false)] [.int .i64 0, .int .i64 0, .int .i64 0, .int .i64 0, .int .i64 0, .int .i64 0, .int .i64 0]),
  (35, .st true [(0, 24, true), (24, 9, true), (33, 7, true)] [.int .i64 0, .int .i64 0, .int .i64 0, .int .i64 0, .int .i64 0, .int .i64 0, .int .i64 0, .int .i64 0, .int .i64 0, .int .i64 0, .int .i64 0, .int .i64 0, .int .i64 0, .int .i64 0, .int .i64 0, .int .i64 0, .int .i64 0, .int .i64 0, .int .i64 0, .int .i64 0, .int .i64 0, .int .i64 0, .int .i64 0, .int .i64 0, .int .i64 0, .int .i64 0, .int .i64 0, .int .i64 0, .int .i64 0, .int .i64 0, .int .i64 0, .int .i64 0, .int .i64 0, .int .i64 0, .int .i64 0, .int .i64 0, .int .i64 0, .int .i64 0, .int .i64 0, .int .i64 0]),
  (36, .st true [(0, 24, true), (24, 9, true), (33, 7, true)] [.int .i64 0, .int .i64 0, .int .i64 0, .int .i64 0, .int .i64 0, .int .i64 0, .int .i64 0, .int .i64 0, .int .i64 0, .int .i64 0, .int .i64 0, .int .i64 0, .int .i64 0, .int .i64 0, .int .i64 0, .int .i64 0, .int .i64 0, .int .i64 0, .int .i64 0, .int .i64 0, .int .i64 0, .int .i64 0, .int .i64 0, .int .i64 0, .int .i64 0, .int .i64 0, .int .i64 0, .int .i64 0, .int .i64 0, .int .i64 0, .int .i64 0, .int .i64 0, .int .i64 0, .int .i64 0, .int .i64 0, .int .i64 0, .int .i64 0, .int .i64 0, .int .i64 0, .int .i64 0]),
  (38, .sc (.int .i64 0)),
  (49, .sl 3 1 8 false [.int .i64 0]),
  (55, .st true [(0, 1, false), (1, 1, false), (2, 1, false), (3, 1, false)] [.int .i64 0, .int .i64 0, .int .i64 0, .int .i64 0]),
  (56, .st true [(0, 1, false), (1, 1, false), (2, 1, false), (3, 1, false)] [.int .i64 0, .int .i64 0, .int .i64 0, .int .i64 0]),
  (61, .st true [(0, 1, false), (1, 1, false), (2, 1, false)] [.int .i64 0, .int .i64 0, .int .i64 0]),
  (62, .st true [(0, 1, false), (1, 1, false), (2, 1, false)] [.int .i64 0, .int .i64 0, .int .i64 0]),
  (65, .st true [(0, 1, false), (1, 1, false), (2, 1, false), (3, 1, false)] [.int .i64 0, .int .i64 0, .int .i64 0, .int .i64 0]),
  (66, .st true [(0, 1, false), (1, 1, false), (2, 1, false), (3, 1, false)] [.int .i64 0, .int .i64 0, .int .i64 0, .int .i64 0]),
  (69, .sl 73 5 40 true [.int .i64 0, .int .i64 0, .int .i64 0, .int .i64 0, .int .i64 0]),
  (72, .st true [(0, 1, false), (1, 1, false), (2, 1, false), (3, 1, false), (4, 1, false)] [.int .i64 0, .int .i64 0, .int .i64 0, .int .i64 0, .int .i64 0]),
  (73, .st true [(0, 1, false), (1, 1, false), (2, 1, false), (3, 1, false), (4, 1, false)] [.int .i64 0, .int .i64 0, .int .i64 0, .int .i64 0, .int .i64 0]),
  (78, .st true [(0, 1, false), (1, 1, false), (2, 1, false), (3, 1, false)] [.int .i64 0, .int .i64 0, .int .i64 0, .int .i64 0]),
  (79, .st true [(0, 1, false), (1, 1, false), (2, 1, false), (3, 1, false)] [.int .i64 0, .int .i64 0, .int .i64 0, .int .i64 0]),
  (81, .sl 150 6 48 true [.int .i64 0, .int .i64 0, .int .i64 0, .int .i64 0, .int .i64 0, .int .i64 0]),
  (82, .sl 151 7 56 true [.int .i64 0, .int .i64 0, .int .i64 0, .int .i64 0, .int .i64 0, .int .i64 0, .int .i64 0]),
  (83, .st false [(0, 1, false), (1, 1, false), (2, 1, false)] [.nil, .nil, .nil]),
  (84, .st false [(0, 1, false), (1, 1, false), (2, 1, false)] [.nil, .nil, .nil]),
  (89, .arr false 2 1 false [.nil, .nil]),
  (120, .sl 123 16 160 true [.int .i64 0, .int .i64 0, .int .i64 0, .int .i64 0, .int .i64 0, .int .i64 0, .int .i64 0, .int .i64 0, .int .i64 0, .nil, .nil, .int .i64 0, .int .i64 0, .int .i64 0, .int .i64 0, .int .i64 0]),
  (122, .st false [(0, 9, true), (9, 1, false), (10, 1, false), (11, 1, false), (12, 4, true)] [.int .i64 0, .int .i64 0, .int .i64 0, .int .i64 0, .int .i64 0, .int .i64 0, .int .i64 0, .int .i64 0, .int .i64 0, .nil, .nil, .int .i64 0, .int .i64 0, .int .i64 0, .int .i64 0, .int .i64 0]),
  (123, .st false [(0, 9, true), (9, 1, false), (10, 1, false), (11, 1, false), (12, 4, true)] [.int .i64 0, .int .i64 0, .int .i64 0, .int .i64 0, .int .i64 0, .int .i64 0, .int .i64 0, .int .i64 0, .int .i64 0, .nil, .nil, .int .i64 0, .int .i64 0, .int .i64 0, .int .i64 0, .int .i64 0]),
  (140, .mp 175 3 true false [.int .i64 0, .int .i64 0, .int .i64 0] [.int .i64 0]),
  (148, .mp 3 66 false true [.int .i64 0] [.int .i64 0, .int .i64 0, .int .i64 0, .int .i64 0]),
  (150, .arr true 6 1 false [.int .i64 0, .int .i64 0, .int .i64 0, .int .i64 0, .int .i64 0, .int .i64 0]),
  (151, .arr true 7 1 false [.int .i64 0, .int .i64 0, .int .i64 0, .int .i64 0, .int .i64 0, .int .i64 0, .int .i64 0]),
  (152, .arr true 3 1 false [.int .i64 0, .int .i64 0, .int .i64 0]),
  (153, .sl 38 1 8 false [.int .i64 0]),
  (154, .sc (.int .u64 0)),
  (161, .sc (.nilf)),
  (167, .arr true 5 1 false [.int .i64 0, .int .i64 0, .int .i64 0, .int .i64 0, .int .i64 0]),
  (169, .sc (.nilf)),
  (174, .st true [(0, 1, false), (1, 1, false), (2, 1, false)] [.int .i64 0, .int .i64 0, .int .i64 0]),
  (175, .st true [(0, 1, false), (1, 1, false), (2, 1, false)] [.int .i64 0, .int .i64 0, .int .i64 0]),
  (178, .arr true 2 1 false [.int .i64 0, .int .i64 0]),
  (187, .sl 140 1 8 false [.nilm]),
  (193, .arr true 5 1 false [.bool false, .bool false, .bool false, .bool false, .bool false]),
  (198, .sc (.int .i64 0)),
  (205, .sc (.int .u32 0)),
  (207, .sc (.int .u64 0)),
  (208, .sc (.int .u64 0)),
  (212, .sc (.nilp)),
  (214, .sc (.nilp)),
  (217, .st false [(0, 1, false), (1, 1, false), (2, 1, false), (3, 1, false)] [.nilp, .nilp, .nilp, .str ⟨#[]⟩]),
  (218, .st false [(0, 1, false), (1, 1, false), (2, 1, false), (3, 1, false)] [.nilp, .nilp, .nilp, .str ⟨#[]⟩]),
  (219, .arr false 0 1 false []),
  (220, .st false [(0, 0, true)] []),
  (221, .st false [(0, 0, true)] []),
  (222, .sc (.int .u8 0)),
  (223, .sc (.int .u8 0)),
  (225, .sc (.nilp)),
  (226, .sc (.int .i32 0)),
  (227, .sc (.int .i32 0)),
  (228, .st false [(0, 1, false), (1, 1, false), (2, 1, false), (3, 1, false), (4, 1, false), (5, 1, false), (6, 1, false), (7, 1, false), (8, 1, false), (9, 1, false), (10, 1, false)] [.int .u64 0, .int .u64 0, .int .u32 0, .int .u8 0, .int .u8 0, .int .u8 0, .int .u8 0, .nilf, .nilp, .int .i32 0, .int .i32 0]),
  (229, .st false [(0, 1, false), (1, 1, false), (2, 1, false), (3, 1, false), (4, 1, false), (5, 1, false), (6, 1, false), (7, 1, false), (8, 1, false), (9, 1, false), (10, 1, false)] [.int .u64 0, .int .u64 0, .int .u32 0, .int .u8 0, .int .u8 0, .int .u8 0, .int .u8 0, .nilf, .nilp, .int .i32 0, .int .i32 0])]
theorem tab_ok : tabB Tryz.prog tab = true := by kernel_rfl
def TT : TypeId → Lay := tabF tab
theorem hTT (t : TypeId) : LayOK Tryz.prog t (TT t) := tabF_ok tab_ok t
def inPl : List FuncId := [152, 153, 141, 143, 65, 86, 64, 118, 119, 120]
theorem mixed : Tryz.prog.follows .mixedOrders = true := by kernel_rfl
section
variable {P : Program} {w0 : World} {im0 : Nat → Prop} {N : NN} {D : Env} {ro : Option Nat} {n : Nat}
theorem sem_loopR {ι : Type} {c : Code} {Q : Exit → St → Prop} {σ : St} (I : ι → St) (Inv : ι → Prop) (μ : ι → Nat) (i0 : ι) (ρ0 : Nat → Nat) (hw : Weak ρ0 σ (I i0)) (h0 : Inv i0)
    (round : ∀ i, Inv i → SemC P w0 im0 N D ro n c (fun e σ' => match e with
      | .normal => ∃ j ρ, Inv j ∧ μ j < μ i ∧ Weak ρ σ' (I j)
      | e => Q e σ') (I i)) : SemC P w0 im0 N D ro n (.loop c) Q σ := by
  intro a w hr
  classical
  let p : Act → World → Nat → Prop := fun a w m => ∃ i, Inv i ∧ Rel w0 im0 N D (lk (I i)) a w ∧ μ i = m
  let M : Act → World → Nat := fun a w => if h : ∃ m, p a w m then (exists_least h).choose else 0
  have hM : ∀ {a w m}, p a w m → p a w (M a w) ∧ M a w ≤ m := fun {a w m} h => by
    have hex : ∃ m, p a w m := ⟨m, h⟩
    have := (exists_least hex).choose_spec
    simp only [M, dif_pos hex]
    exact ⟨this.1, this.2 m h⟩
  refine wpIn_loop (fun a w => ∃ m, p a w m) M ⟨_, i0, h0, hr.weak hw, rfl⟩ fun a w ⟨m, hm⟩ => ?_
  obtain ⟨⟨i, hi, hrel, hmi⟩, _⟩ := hM hm
  refine wpIn_mono (round i hi a w hrel) ?_
  rintro e a' w' ⟨σ', hq, hrel'⟩
  cases e with
  | normal =>
    obtain ⟨j, ρ, hj, hlt, hwk⟩ := hq
    have hp : p a' w' (μ j) := ⟨j, hj, hrel'.weak hwk, rfl⟩
    exact ⟨⟨_, hp⟩, by have := (hM hp).2; omega⟩
  | _ => exact ⟨σ', hq, hrel'⟩
end
end Go.Proofs.YtjimjdhdnkhfnaaGreat

namespace Go.Proofs.YtjimjdhdnkhfnaaGreat
open Go Go.RowKit
section
variable {P : Program} {w0 : World} {im0 : Nat → Prop} {N : NN} {D : Env} {ro : Option Nat} {n : Nat} {bm : Nat → Nat} {rm : Nat → Value} {a : Act} {w : World} {L : Lk} {im : Nat → Prop}
theorem RepVs.setAt {c : CV} : ∀ {cs : List CV} {us : List Value} (i : Nat), RepVs bm rm im w cs us → (∀ u, us[i]? = some u → RepV bm rm im w c u) → RepVs bm rm im w (cs.set i c) us
  | [], us, i, h, _ => by simpa using h
  | p :: cs, us, i, h, hc => by
    simp only [RepVs] at h
    obtain ⟨x, xs, rfl, h1, h2⟩ := h
    cases i with
    | zero => exact ⟨x, xs, rfl, hc x rfl, h2⟩
    | succ i => exact ⟨x, xs, rfl, h1, RepVs.setAt i h2 fun u hu => hc u (by simpa using hu)⟩
theorem flatMap_set {α β : Type} {f : α → List β} {c : α} {b : β} : ∀ {l : List α} {i : Nat}, b ∈ (l.set i c).flatMap f → b ∈ l.flatMap f ∨ b ∈ f c
  | [], i, h => by simp at h
  | x :: l, 0, h => by
    simp only [List.set_cons_zero, List.flatMap_cons, List.mem_append] at h ⊢
    rcases h with h | h
    · exact .inr h
    · exact .inl (.inr h)
  | x :: l, i + 1, h => by
    simp only [List.set_cons_succ, List.flatMap_cons, List.mem_append] at h ⊢
    rcases h with h | h
    · exact .inl (.inl h)
    · rcases flatMap_set h with h | h
      · exact .inl (.inr h)
      · exact .inr h
theorem RelAt.mkRowB (h : RelAt w0 im0 N D bm rm L a w) {k t ty : Nat} {cs : List CV} (i : Nat) (e : TypeId) (q : Nat) (hb : L (kB k) = .box ty cs) (hi : cs[i]? = some (.p .nil)) (ht : L (kR t) = .none) :
    RelAt w0 im0 N D bm (updN rm t (.slice none 0 0)) (ovr [(kB k, .box ty (cs.set i (.row t))), (kR t, .row e q []), (kR t, .dead)] L) a w := by
  have hnew := h.newRow (d := t) (r := t) (e := e) (k := q) (es := []) (v := .slice none 0 0) (xs := []) (row := none) ht ⟨rfl, rfl, rfl, Nat.le_refl _, fun _ _ _ => rfl⟩ (by simp) (World.ownsRow_nil w _ e q) (by simp [Value.ownBlock]) (by simp [RepL]) (by simp)
  have hb' : ovr [(kR t, .row e q []), (kR t, .dead)] L (kB k) = .box ty cs := by rw [ovr_cons, ovrR_B, ovrR_B]; exact hb
  obtain ⟨us, hus, hrep, hn⟩ := hnew.boxes k ty cs hb'
  have hw := hnew.wfb (kB k)
  have hv := hnew.wfr (kB k)
  rw [hb'] at hw hv
  rw [ovr_cons]
  refine hnew.setBox hb' (us := us) (RepVs.setAt i hrep fun u hu => ?_) (fun k' hk' => ?_) (fun t' ht' => ?_) rfl rfl rfl rfl hus (fun _ _ => rfl)
  · obtain ⟨u', hu', hr⟩ := hrep.get hi
    rw [hu] at hu'
    obtain rfl : u = u' := by simpa using hu'
    have hr : u = .slice none 0 0 := by simpa only [RepV, RepP] using hr
    exact ⟨by rw [updN_same, hr], _, _, _, hr⟩
  · rcases flatMap_set hk' with h' | h'
    · exact hw k' h'
    · simp [CV.boxes] at h'
  · rcases flatMap_set ht' with h' | h'
    · exact hv t' h'
    · simp only [CV.rows, List.mem_singleton] at h'
      subst h'
      rw [ovr_cons, ovrR_R, if_pos rfl]; simp
theorem sem_mkRowB {c : Code} {Q : Exit → St → Prop} {σ : St} (k t : Nat) (e : TypeId) (q i ty : Nat) (cs : List CV) (hd : lk σ (kB k) = .box ty cs) (hi : cs[i]? = some (.p .nil)) (ht : lk σ (kR t) = .none)
    (h : SemC P w0 im0 N D ro n c Q ((kB k, .box ty (cs.set i (.row t))) :: (kR t, .row e q []) :: (kR t, .dead) :: σ)) : SemC P w0 im0 N D ro n c Q σ := fun a w ⟨bm, rm, hr⟩ =>
  h a w ⟨bm, _, by rw [lk_cons, lk_cons, lk_cons]; exact hr.mkRowB i e q hd hi ht⟩
end
def FlatL (es : List (List PV)) : Prop := ∀ (im im' : Nat → Prop) (w w' : World) (us : List Value), RepL im w es.flatten us → RepL im' w' es.flatten us
section
variable {P : Program} {w0 : World} {im0 : Nat → Prop} {D : Env}
end
end Go.Proofs.YtjimjdhdnkhfnaaGreat

namespace Go.Proofs.YtjimjdhdnkhfnaaGreat
open Go Go.RowKit
def resOne (ar : Ar) (T : TypeId → Lay) : ResultVar → AskR TV
  | .tmp t => opd (.tmp t) fun v => .done v
  | .cell p ty => opd (.tmp p) fun pv => behind ar pv (T ty) fun v => .done v
def notIn (r : Nat) (cs : List CV) : Bool := cs.all fun c => match c with
  | .row q => !Nat.beq q r
  | _ => true
def ownsL (σ : St) : List CV → List RowT → Prop
  | [], out => out = []
  | c :: cs, out => match c with
    | .row r => match lk σ (kR r) with
      | .row e k es => match out with
        | o :: out' => (e, k, es) = o ∧ FlatL es ∧ notIn r cs = true ∧ ownsL σ cs out'
        | [] => False
      | _ => False
    | _ => False
def retOs (X : Ctx) (rs : List ResultVar) (b : Bool) (out : List RowT) (σ : St) : Prop := match rs with
  | [r] => match (resOne X.ar X.T r).run (lk σ) [] with
    | some (v, _) => match v with
      | .agg cs => b = true ∧ ownsL σ cs out
      | .c c => b = false ∧ ownsL σ [c] out
    | none => False
  | _ => False
def retO (X : Ctx) (rs : List ResultVar) (b : Bool) (out : List RowT) : Exit → St → Prop
  | .ret, σ | .normal, σ => retOs X rs b out σ
  | _, _ => False
section
variable {P : Program} {w0 : World} {im0 : Nat → Prop} {D : Env}
theorem ownsL_get {bm : Nat → Nat} {rm : Nat → Value} {im : Nat → Prop} {w : World} {σ : St} : ∀ (cs : List CV) (out : List RowT) (us : List Value), ownsL σ cs out → RepVs bm rm im w cs us →
    us.length = out.length ∧ (∀ (j : Nat) (o : RowT) (x : Value), out[j]? = some o → us[j]? = some x → ∃ r, cs[j]? = some (.row r) ∧ x = rm r ∧ lk σ (kR r) = .row o.1 o.2.1 o.2.2 ∧ FlatL o.2.2) ∧
      ∀ (i j r : Nat), cs[i]? = some (.row r) → cs[j]? = some (.row r) → i = j
  | [], out, us, h, hv => by
    simp only [ownsL] at h
    simp only [RepVs] at hv
    subst h; subst hv
    exact ⟨rfl, fun j o x hj => by simp at hj, fun i j r hi => by simp at hi⟩
  | c :: cs, out, us, h, hv => by
    simp only [RepVs] at hv
    obtain ⟨x, xs, rfl, h1, h2⟩ := hv
    simp only [ownsL] at h
    split at h <;> try exact h.elim
    rename_i r
    split at h <;> try exact h.elim
    rename_i e k es hc
    split at h <;> try exact h.elim
    rename_i o out'
    obtain ⟨rfl, hf, hn, hr⟩ := h
    obtain ⟨k1, k2, k3⟩ := ownsL_get cs out' xs hr h2
    obtain ⟨hx, _⟩ : x = rm r ∧ _ := h1
    have hne : ∀ j : Nat, cs[j]? ≠ some (.row r) := fun j hj => by
      unfold notIn at hn
      have := List.all_eq_true.1 hn _ (List.mem_of_getElem? hj)
      simp at this
    refine ⟨by simp [k1], fun j o y hj hy => ?_, fun i j q hi hj => ?_⟩
    · cases j with
      | zero =>
        simp only [List.getElem?_cons_zero, Option.some.injEq] at hj hy
        subst hj; subst hy
        exact ⟨r, rfl, hx, hc, hf⟩
      | succ j => simpa using k2 j o y (by simpa using hj) (by simpa using hy)
    · cases i with
      | zero =>
        cases j with
        | zero => rfl
        | succ j =>
          simp only [List.getElem?_cons_zero, List.getElem?_cons_succ, Option.some.injEq, CV.row.injEq] at hi hj
          subst hi
          exact (hne j hj).elim
      | succ i =>
        cases j with
        | zero =>
          simp only [List.getElem?_cons_zero, List.getElem?_cons_succ, Option.some.injEq, CV.row.injEq] at hi hj
          subst hj
          exact (hne i hi).elim
        | succ j => rw [k3 i j q (by simpa using hi) (by simpa using hj)]
theorem rows_new {N : NN} {bm : Nat → Nat} {rm : Nat → Value} {a : Act} {w : World} {σ : St} {im : Nat → Prop} (h : RelAt w0 im0 N D bm rm (lk σ) a w) {cs : List CV} {out : List RowT} {us : List Value} (hr : ownsL σ cs out) (hv : RepVs bm rm im w cs us) : RepN w0.heap.size w out us := by
  obtain ⟨h1, h2, h3⟩ := ownsL_get cs out us hr hv
  refine ⟨h1, fun j o x ho hx => ?_, fun i j x y g hx hy hgx hgy => ?_⟩
  · obtain ⟨r, _, rfl, k2, k3⟩ := h2 j o x ho hx
    obtain ⟨xs, hown, hl, hk⟩ := h.rows r _ _ _ k2
    exact ⟨xs, hown, k3 _ _ _ _ _ hl, hk⟩
  · obtain ⟨o, ho⟩ : ∃ o, out[i]? = some o := ⟨_, List.getElem?_eq_getElem (by rw [← h1]; exact (List.getElem?_eq_some_iff.1 hx).1)⟩
    obtain ⟨o', ho'⟩ : ∃ o, out[j]? = some o := ⟨_, List.getElem?_eq_getElem (by rw [← h1]; exact (List.getElem?_eq_some_iff.1 hy).1)⟩
    obtain ⟨r, k1, rfl, k2, _⟩ := h2 i o x ho hx
    obtain ⟨r', k1', rfl, k2', _⟩ := h2 j o' y ho' hy
    have := h.rr r r' g ⟨_, _, _, k2⟩ ⟨_, _, _, k2'⟩ hgx hgy
    subst this
    exact h3 i j r k1 k1'
theorem resOne_ok {ar : Ar} (har : ar = Ar.std) {T : TypeId → Lay} (hT : ∀ t, LayOK P t (T t)) {N : NN} {bm : Nat → Nat} {rm : Nat → Value} {L : Lk} {a : Act} {w : World} (h : RelAt w0 im0 N D bm rm L a w) {r : ResultVar} {R : List Nat} {y : TV × List Nat}
    (hr : (resOne ar T r).run L R = some y) : ∃ u, (resV a.tmps r).run P w = .ok u w ∧ RepT bm rm (imOf w0.heap.size im0 bm rm L w) w y.1 u := by
  cases r with
  | tmp t =>
    simp only [resOne] at hr
    replace hr := opd_inv h hr; obtain ⟨v, R1, hv, hr⟩ := hr
    simp only [AskR.run, Option.some.injEq] at hr
    subst hr
    exact ⟨_, rfl, hv.rep⟩
  | cell p ty =>
    simp only [resOne] at hr
    replace hr := opd_inv h hr; obtain ⟨v, R1, hv, hr⟩ := hr
    replace hr := behind_ok har (hT ty) h hv hr; obtain ⟨v2, x, R2, hrun, hv2, hr⟩ := hr
    simp only [AskR.run, Option.some.injEq] at hr
    subst hr
    exact ⟨x, loadAt_asAddr hrun, hv2.rep⟩
theorem calls_ofO {T : TypeId → Lay} (hT : ∀ t, LayOK P t (T t)) {f : FuncId} {fn : Func} {body : Code} {bo : Bool} {out : List RowT} {M : Nat} {own : List FuncId} {rs : List ResultVar} (hD : ∀ b, ¬ D.mks b) (hf : P.funcs[f]? = some fn) (hb : fn.body = some body) (hrs : fn.results.toList = rs)
    {us : List Value} {w : World} {bm : Nat → Nat} {rm : Nat → Value} {σ : St} (hrel : RelAt w0 im0 ⟨0, M, own⟩ D bm rm (lk σ) { tmps := us.toArray ++ Array.replicate (fn.ntmps - us.toArray.size) undef, defers := [] } w)
    (hsem : SemC P w0 im0 ⟨0, M, own⟩ D none 9 body (retO ⟨Ar.std, T, ⟨0, M, own⟩⟩ rs bo out) σ) :
    Calls P f us.toArray w fun e Y => ∃ u vs, e = .returned u ∧ (bif bo then u = .agg vs.toArray else vs = [u]) ∧ RepN w0.heap.size Y out vs ∧ Below w0.heap.size w0 Y := by
  refine (callsIn_wide (n := 9)).1 (callsIn_of_wp_marks hf hb trivial (wpIn_mono (hsem _ w ⟨bm, rm, hrel⟩) ?_) rfl)
  rintro e a' w' ⟨σ', hq, bm, rm, hrel'⟩
  have key : retOs ⟨Ar.std, T, ⟨0, M, own⟩⟩ rs bo out σ' → LeavesInM (FW none) 9 P fn a'.tmps (fun e Y => ∃ u vs, e = .returned u ∧ (bif bo then u = .agg vs.toArray else vs = [u]) ∧ RepN w0.heap.size Y out vs ∧ Below w0.heap.size w0 Y) a'.defers .returning w' := by
    intro hq
    obtain ⟨Ds, hd1, hd2, hd3⟩ := hrel'.defs.marks
    rw [hd1]
    refine leaves_marksV Ds w' hd2 (fun b hb => (hd3 b hb).2) fun Y hY => ?_
    have hrelY : RelAt w0 im0 ⟨0, M, own⟩ D bm rm (lk σ') { tmps := a'.tmps, defers := [] } Y := by
      refine hrel'.move hY.os hY.tape hY.output (Nat.le_of_eq hY.size.symm) (fun b _ => ?_) hrel'.size (fun _ _ _ => rfl) (fun hk => ⟨⟨[], rfl, by simp, by simp⟩, hrel'.defs.kept.trans hk, hrel'.defs.pins, fun b hb => absurd hb (hD b), Nat.le_trans hrel'.defs.top (Nat.le_of_eq hY.size.symm)⟩)
      by_cases hm : b ∈ Ds
      · exact .inr ⟨(hd3 b hm).1.1, by rw [(hd3 b hm).2]; rfl⟩
      · exact .inl (hY.block b hm)
    unfold retOs at hq
    split at hq <;> try exact hq.elim
    rename_i r hq9
    simp only at hq
    cases hv : (resOne Ar.std T r).run (lk σ') [] with
    | none => rw [hv] at hq; exact hq.elim
    | some y =>
      rw [hv] at hq
      obtain ⟨u, hrun, hrep⟩ := resOne_ok rfl hT hrelY hv
      have hrun : (resV a'.tmps r).run P Y = .ok u Y := hrun
      have hres : (results fn a'.tmps).run P Y = .ok u Y := by
        rw [results_eq, Sem.run_bind, Array.mapM_eq_mapM_toList, hrs, Sem.run_map]
        simp only [List.mapM_cons, List.mapM_nil, Sem.run_bind, Sem.run_pure, Result.andThen_ok, hrun]
        rfl
      obtain ⟨v, R⟩ := y
      cases v with
      | agg cs =>
        obtain ⟨rfl, hro⟩ : bo = true ∧ ownsL σ' cs out := hq
        obtain ⟨vs, rfl, hvs⟩ := hrep
        exact ⟨_, hres, _, vs, rfl, rfl, rows_new hrelY hro hvs, hrelY.base⟩
      | c c =>
        obtain ⟨rfl, hro⟩ : bo = false ∧ ownsL σ' [c] out := hq
        exact ⟨_, hres, u, [u], rfl, rfl, rows_new hrelY hro ⟨u, [], rfl, hrep, rfl⟩, hrelY.base⟩
  cases e with
  | normal => exact key hq
  | ret => exact key hq
  | _ => exact hq.elim
theorem doesO_of {f : FuncId} {fn : Func} {body : Code} {args : List PV} {bo : Bool} {out : List RowT} {T : TypeId → Lay} {M : Nat} {own : List FuncId} {rs : List ResultVar} (hf : P.funcs[f]? = some fn) (hb : fn.body = some body) (hN : fn.ntmps = M) (hrs : fn.results.toList = rs)
    (hen : ∀ us w, (callFunc f us).run P w = .ok (.enter f us) w) (hT : ∀ t, LayOK P t (T t)) (hm : P.follows .mixedOrders = true) (hle : args.length ≤ M)
    (h : ∀ (w0 : World) (im0 : Nat → Prop) (D : Env) (S : Code → (Exit → St → Prop) → St → Prop) (Cl : FuncId → List PV → PV → Prop), (∀ c Q σ, SemC P w0 im0 ⟨0, M, own⟩ D none 9 c Q σ → S c Q σ) → (∀ f a v, Can P f a v → Cl f a v) → ∀ ar, ar = Ar.std → acode ⟨ar, T, ⟨0, M, own⟩⟩ Cl S body (retO ⟨ar, T, ⟨0, M, own⟩⟩ rs bo out) (st0 0 args)) : DoesO P f args bo out := by
  refine ⟨hen, fun w im us him hrep => ?_⟩
  have hlen := hrep.len
  have hrel : RelAt w im ⟨0, M, own⟩ ⟨fun _ => False, w, #[], fun _ => False, 0⟩ (fun _ => 0) (fun _ => .nilFunc) (lk (st0 0 args)) { tmps := us.toArray ++ Array.replicate (fn.ntmps - us.toArray.size) undef, defers := [] } w := by
    have hnb : ∀ k, ¬ isBox (lk (st0 0 args)) k := fun k hb => by
      rcases hb with ⟨ty, cs, hc⟩ | ⟨o, hc⟩ <;>
      · obtain ⟨_, _, _, h2, h3⟩ := st0_get args 0 _ _ hc (by simp)
        exact (kT_ne_kB _ _) h2.symm
    have hnr : ∀ k, ¬ isRow (lk (st0 0 args)) k := fun k ⟨e, q, es, hc⟩ => by
      obtain ⟨_, _, _, h2, h3⟩ := st0_get args 0 _ _ hc (by simp)
      exact (kT_ne_kR _ _) h2.symm
    refine ⟨Below.refl _ _, by simp [hN, hlen]; omega, ⟨⟨[], rfl, by simp, by simp⟩, (fun _ h => h.elim), fun d hd => absurd hd (Nat.not_lt_zero d), fun _ h => h.elim, Nat.zero_le _⟩, fun d v hv => ?_, fun k ty cs hc => absurd (.inl ⟨ty, cs, hc⟩) (hnb k), fun k o hc => absurd (.inr ⟨o, hc⟩) (hnb k), fun t e k es hc => absurd ⟨e, k, es, hc⟩ (hnr t), fun k k' hk => absurd hk (hnb k), fun k t hk => absurd hk (hnb k), fun t t' g ht => absurd ht (hnr t), fun i k hk => ?_, fun i t ht => ?_⟩
    · obtain ⟨k, p, h1, h2, h3⟩ := st0_get args 0 _ _ hv (by simp)
      have hd : d = k := by have := kT_inj h2; omega
      subst hd
      cases h3
      obtain ⟨u, hu, hp⟩ := hrep.get h1
      have hlt := (List.getElem?_eq_some_iff.1 hu).1
      have e : (us.toArray ++ Array.replicate (fn.ntmps - us.toArray.size) undef).getD d undef = u := by
        simp only [Array.getD_eq_getD_getElem?, Array.getElem?_append, List.size_toArray, hlt, if_true, List.getElem?_toArray, hu, Option.getD_some]
      show RepT _ _ _ _ _ ((us.toArray ++ Array.replicate (fn.ntmps - us.toArray.size) undef).getD d undef)
      rw [e]
      exact TV.ofPV_rep (RepP.keep (fun b hb => ⟨⟨him b hb, .inl hb, fun k hk => absurd hk (hnb k), fun t ht => absurd ht (hnr t)⟩, rfl⟩) _ _ hp)
    · cases hc : lk (st0 0 args) i with
      | none => rw [hc] at hk; simp [Cont.boxes] at hk
      | _ =>
        obtain ⟨q, p, _, _, h3⟩ := st0_get args 0 _ _ hc (by simp)
        rw [hc, h3] at hk
        simp [Cont.boxes, TV.ofPV_boxes] at hk
    · cases hc : lk (st0 0 args) i with
      | none => rw [hc] at ht; simp [Cont.rows] at ht
      | _ =>
        obtain ⟨q, p, _, _, h3⟩ := st0_get args 0 _ _ hc (by simp)
        rw [hc, h3] at ht
        simp [Cont.rows, TV.ofPV_rows] at ht
  have hsem := acode_ok (X := ⟨Ar.std, T, ⟨0, M, own⟩⟩) (P := P) (w0 := w) (im0 := im) (D := ⟨fun _ => False, w, #[], fun _ => False, 0⟩) (ro := none) (n := 9) rfl hT hm body _ _ (h w im _ _ _ (fun _ _ _ h => h) (fun _ _ _ h => h) Ar.std rfl)
  exact calls_ofO hT (fun _ h => h) hf hb hrs hrel hsem
end
end Go.Proofs.YtjimjdhdnkhfnaaGreat
