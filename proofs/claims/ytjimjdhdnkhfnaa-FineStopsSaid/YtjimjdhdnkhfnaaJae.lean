/- Contracts of functions of the program and of the reference, a calculus of states, and plain facts: a part of a proof. Own text. -/
import Derived.Test.YtjimjdhdnkhfnaaJad
import Derived.LoopIn
import Derived.RangeFuncNested
import Derived.RangeFuncBound
import Derived.RangeFuncCalls
import Derived.RangeFuncLeaves
import Derived.Scope
import Derived.IntWalk
import Derived.Test.YtjimjdhdnkhfnaaProg
set_option linter.unusedVariables false
set_option linter.unusedSimpArgs false
set_option linter.unusedSectionVars false
set_option linter.unnecessarySimpa false
namespace Go.Proofs.Ytjimjdhdnkhfnaa
open Go Go.RowKit
abbrev St := List (Nat × Cont)
def lkF : St → Nat → Cont
  | [], _ => .none
  | p :: r, i => if p.1 = i then p.2 else lkF r i
def lk (σ : St) : Lk := fun i => lkF σ i
theorem lkF_eq : ∀ (σ : St) (i : Nat), lkF σ i = ovr σ (fun _ => .none) i
  | [], _ => rfl
  | p :: r, i => by
    simp only [lkF, ovr]
    rw [lkF_eq r i]
    cases hb : Nat.beq p.1 i with
    | true => rw [if_pos (Nat.eq_of_beq_eq_true hb)]; rfl
    | false => rw [if_neg (Nat.ne_of_beq_eq_false hb)]; rfl
theorem lk_eq (σ : St) : lk σ = ovr σ fun _ => .none := funext fun i => lkF_eq σ i
theorem lk_append (α σ : St) : lk (α ++ σ) = ovr α (lk σ) := by rw [lk_eq, lk_eq]; exact ovr_append α σ _
theorem lk_cons (x : Nat × Cont) (σ : St) : lk (x :: σ) = ovr [x] (lk σ) := lk_append [x] σ
structure Ctx where
  ar : Ar
  T : TypeId → Lay
  N : NN
def gd (ops : List Oper) (o : Oper) (L : Lk) : Option (Bool × List Nat) := match o.guard with
  | none => some (true, [])
  | some (j, want) => match nthL ops j with
    | none => none
    | some oj => match oj.dst with
      | none => none
      | some d => match L (kT d) with
        | .t (.c (.p (.bool b))) => some (bif want then b else !b, [kT d])
        | .t (.c .und) => some (false, [kT d])
        | _ => none
def putE (N : NN) (dst : Option Nat) (v : PV) (eat : List (Nat × Cont)) : Ask := match v, dst, eat with
  | .own e k es, dst, [(q, .dead)] => putA N dst (.c .unk) [(q, .row e k es)]
  | v, dst, [] => match ownV v with
    | some (b, rs) => putN N dst b rs
    | none => putA N dst (TV.ofPV v) []
  | .own _ _ _, _, _ => .fail
  | v, dst, eat => putA N dst (TV.ofPV v) eat
def aOps (X : Ctx) (Cl : FuncId → List PV → PV → Prop) (ops : List Oper) : List Oper → St → List Deed → (List Deed → St → Prop) → Prop
  | [], σ, ts, K => K ts.reverse σ
  | o :: r, σ, ts, K => match gd ops o (lk σ) with
    | none => False
    | some (false, R) => match o.dst with
      | some d => bif okS X.N d then aOps X Cl ops r ((kT d, .t (.c .und)) :: σ) (([(kT d, .t (.c .und))], R) :: ts) K else False
      | none => aOps X Cl ops r σ (([], R) :: ts) K
    | some (true, R) => match (callS X.N.own o).run (lk σ) R with
     | some (c, R') => ∃ v, Cl c.f c.args v ∧ (match (putE X.N o.dst v c.eat).run (lk σ) R' with
          | some (α, R'') => aOps X Cl ops r (α ++ σ) ((α, R'') :: ts) K
          | none => False)
     | none => match (callA o).run (lk σ) R with
      | some (c, R') => ∃ v, Cl c.f c.args v ∧ (bif c.pure || flatP 4 v then (match (putA X.N o.dst (TV.ofPV v) []).run (lk σ) R' with
          | some (α, R'') => aOps X Cl ops r (α ++ σ) ((α, R'') :: ts) K
          | none => False) else (match (callZ o).run (lk σ) R with
          | some (z, R2) => z.f = c.f ∧ z.args = c.args ∧ (match (putA X.N o.dst (TV.ofPV v) [(kR z.q, .dead)]).run (lk σ) R2 with
            | some (α, R'') => aOps X Cl ops r (α ++ σ) ((α, R'') :: ts) K
            | none => False)
          | none => False))
      | none => match (evOp X.ar X.T X.N o).run (lk σ) R with
        | some (α, R') => aOps X Cl ops r (α ++ σ) ((α, R') :: ts) K
        | none => False
section
variable {P : Program} {w0 : World} {im0 : Nat → Prop} {X : Ctx} {D : Env} {ro : Option Nat} {n : Nat}
theorem lat_zero : ∀ (ts : List Deed) (i : Nat) (L : Lk), latM (lt_ 0) i ts L = L
  | [], _, _ => rfl
  | z :: ts, i, L => by simp only [latM, lt_, Nat.blt]; simpa using lat_zero ts (i + 1) L
theorem lat_shift (q : Nat) : ∀ (ts : List Deed) (i : Nat) (L : Lk), latM (lt_ (q + 1)) (i + 1) ts L = latM (lt_ q) i ts L
  | [], _, _ => rfl
  | z :: ts, i, L => by simp only [latM]; rw [lat_shift q ts]; simp [lt_, Nat.blt]
theorem lat_all : ∀ (ts : List Deed) (i j : Nat) (L : Lk), latM (fun _ => true) i ts L = latM (fun _ => true) j ts L
  | [], _, _, _ => rfl
  | z :: ts, i, j, L => by simp only [latM]; exact lat_all ts _ _ _
theorem lat_cons (q : Nat) (x : Deed) (ts : List Deed) (L : Lk) : latM (lt_ (q + 1)) 0 (x :: ts) L = latM (lt_ q) 0 ts (ovr x.1 L) := by
  simp only [latM]
  have h0 : lt_ (q + 1) 0 = true := by simp [lt_, Nat.blt_eq]
  rw [h0, if_pos rfl, lat_shift]
theorem putA_run {N : NN} {dst : Option Nat} {v : TV} {α : St} {L : Lk} {R : List Nat} {x : Deed} (h : (putA N dst v α).run L R = some x) : x.2 = R ∧ ∀ L', (putA N dst v α).run L' R = some x := by
  cases dst with
  | none => simp only [putA, AskR.run, Option.some.injEq] at h ⊢; subst h; exact ⟨rfl, fun _ => rfl⟩
  | some d =>
    simp only [putA] at h ⊢
    cases hb : okS N d with
    | false => simp [hb, AskR.run] at h
    | true => simp only [hb, cond_true, AskR.run, Option.some.injEq] at h ⊢; subst h; exact ⟨rfl, fun _ => rfl⟩
theorem gd_local {ops : List Oper} {o : Oper} {L L' : Lk} {g : Bool} {R : List Nat} (h : gd ops o L = some (g, R)) (hL : ∀ k ∈ R, L' k = L k) : gd ops o L' = some (g, R) := by
  unfold gd at h ⊢
  split at h
  · exact h
  · rename_i j want hn
    split at h
    · cases h
    · rename_i oj hoj
      split at h
      · cases h
      · rename_i d hd
        have key : ∀ g R, (match L (kT d) with
            | .t (.c (.p (.bool b))) => some (bif want then b else !b, [kT d])
            | .t (.c .und) => some (false, [kT d])
            | _ => none) = some (g, R) → R = [kT d] := by
          intro g R h
          split at h
          · cases h; rfl
          · cases h; rfl
          · cases h
        have hR := key _ _ h
        subst hR
        rw [hL (kT d) (by simp)]
        exact h
theorem gd_wanted {ops : Array Oper} {o : Oper} {bm : Nat → Nat} {rm : Nat → Value} {L : Lk} {a : Act} {w : World} (h : RelAt w0 im0 X.N D bm rm L a w) {g : Bool} {R : List Nat} (hg : gd ops.toList o L = some (g, R)) : Region.wanted o (yielded ops a.tmps) = g := by
  unfold gd at hg
  unfold Region.wanted
  split at hg
  · rename_i hn; rw [hn]; cases hg; rfl
  · rename_i j want hn
    rw [hn]
    rw [nthL_eq] at hg
    split at hg
    · cases hg
    · rename_i oj hoj
      split at hg
      · cases hg
      · rename_i d hd
        have hoj' : ops[j]? = some oj := by simpa using hoj
        split at hg
        · rename_i b hc
          have hs : a.tmps.getD d undef = .bool b := h.slots d _ hc
          have hs' : a.tmps[d]? = some (.bool b) := by
            simp only [Array.getD_eq_getD_getElem?] at hs
            cases ht : a.tmps[d]? with
            | none => rw [ht] at hs; simp [undef] at hs
            | some u => rw [ht] at hs; simpa using hs
          simp only [Option.some.injEq, Prod.mk.injEq] at hg
          obtain ⟨rfl, _⟩ := hg
          simp only [yielded, hoj', Option.bind_some, hd, hs']
          cases want <;> cases b <;> rfl
        · rename_i hc
          have hs : a.tmps.getD d undef = undef := h.slots d _ hc
          simp only [Option.some.injEq, Prod.mk.injEq] at hg
          obtain ⟨rfl, _⟩ := hg
          have : yielded ops a.tmps j = none := by
            simp only [Array.getD_eq_getD_getElem?] at hs
            simp only [yielded, hoj', Option.bind_some, hd]
            cases ht : a.tmps[d]? with
            | none => rfl
            | some u => rw [ht] at hs; simp only [Option.getD_some] at hs; subst hs; rfl
          simp only [this]
          rfl
        · cases hg
theorem call_step {o : Oper} {bm : Nat → Nat} {rm : Nat → Value} {L : Lk} {a : Act} {w : World} (h : RelAt w0 im0 X.N D bm rm L a w) {c : CallTo} {R R' R'' : List Nat} {α : St} {v : PV} (hr : (callA o).run L R = some (c, R')) (hd0 : Can P c.f c.args v) (hp : (c.pure || flatP 4 v) = true)
    (hput : (putA X.N o.dst (TV.ofPV v) []).run L R' = some (α, R'')) {Q : Exit → Act → World → Prop} {K : Act → World → Prop} (hK : ∀ a' w', Rel w0 im0 X.N D (ovr α L) a' w' → K a' w') : o.wpIn (FW ro) n P a w K Q := by
  obtain ⟨us, h1, h2, hnd, hen⟩ := callA_ok (P := P) h hr
  have hd := can_does hd0 h1
  refine ⟨fenceW_about ro o w a, ?_⟩
  rw [Oper.semAt_eq _ _ _ hnd, hen hd.1, Oper.uponIn_enter]
  refine ⟨fun hh => by simp [FW, Fence.wide] at hh, ?_⟩
  have fin : ∀ (u : Value) (w' : World), Below w.heap.size w w' → RepP (imOf w0.heap.size im0 bm rm L w') w' v u → K (a.put o.dst u) w' := fun u w' hb hu => by
    refine hK _ _ ?_
    have := fin_put (α := []) (L := L) (h.grow hb) (holds_of hu) hput
    exact this
  have fresh : ∀ (w' : World), Below w.heap.size w w' → ∀ b, w.heap.size ≤ b ∧ Plain w' b → imOf w0.heap.size im0 bm rm L w' b := fun w' hb b hbb =>
    ⟨hbb.2, .inr (Nat.le_trans h.base.size hbb.1), fun k hk e => by have := h.boxlt hk; omega, fun t ht e => by have := h.rowlt ht e; omega⟩
  have main : Calls P c.f us.toArray w (fun e w' => ∃ u, e = .returned u ∧ RepP (imOf w0.heap.size im0 bm rm L w') w' v u ∧ Below w.heap.size w w') := by
    cases hcp : c.pure with
    | true =>
      refine (hd.2 w _ us (fun b hb => hb.1) (h2 hcp)).mono ?_
      rintro e w' ⟨u, rfl, hu, hb⟩
      refine ⟨u, rfl, RepP.keep (fun b hbb => ⟨?_, rfl⟩) v u hu, hb⟩
      rcases hbb with hbb | hbb
      · exact ⟨hbb.1.keep hb.size (hb.block b hbb.1.1), hbb.2⟩
      · exact fresh w' hb b hbb
    | false =>
      rw [hcp, Bool.false_or] at hp
      refine (hd.2 w _ us (fun b hb => hb.1) h1).mono ?_
      rintro e w' ⟨u, rfl, hu, hb⟩
      exact ⟨u, rfl, flatP_rep 4 v u hp hu, hb⟩
  have : CallsIn Fence.wide (n - 1) P c.f us.toArray w (fun
    | .returned v, w'' => K (a.put o.dst v) w''
    | .panicked chain, w'' => Q (.panic chain) a w''
    | .outgrown, _ => LetsOut Q) := callsIn_wide.2 (main.mono (by
      rintro e w' ⟨u, rfl, hu, hb⟩
      exact fin u w' hb hu))
  exact this
theorem call_stepZ {o : Oper} {bm : Nat → Nat} {rm : Nat → Value} {L : Lk} {a : Act} {w : World} (h : RelAt w0 im0 X.N D bm rm L a w) {z : CallZ} {R R' R'' : List Nat} {α : St} {v : PV} (hr : (callZ o).run L R = some (z, R')) (hd0 : Can P z.f z.args v)
    (hput : (putA X.N o.dst (TV.ofPV v) [(kR z.q, .dead)]).run L R' = some (α, R'')) {Q : Exit → Act → World → Prop} {K : Act → World → Prop} (hK : ∀ a' w', Rel w0 im0 X.N D (ovr α L) a' w' → K a' w') : o.wpIn (FW ro) n P a w K Q := by
  obtain ⟨⟨e, k, es, hrow⟩, us, h1, hnd, hen⟩ := callZ_ok (P := P) h hr
  have hd := can_does hd0 h1
  have hkill := h.kill z.q
  refine ⟨fenceW_about ro o w a, ?_⟩
  rw [Oper.semAt_eq _ _ _ hnd, hen hd.1, Oper.uponIn_enter]
  refine ⟨fun hh => by simp [FW, Fence.wide] at hh, ?_⟩
  have : CallsIn Fence.wide (n - 1) P z.f us.toArray w (fun
    | .returned v, w'' => K (a.put o.dst v) w''
    | .panicked chain, w'' => Q (.panic chain) a w''
    | .outgrown, _ => LetsOut Q) := callsIn_wide.2 ((hd.2 w _ us (fun b hb => hb.1) h1).mono (by
      rintro e w' ⟨u, rfl, hu, hb⟩
      refine hK _ _ ?_
      refine fin_put (α := [(kR z.q, .dead)]) (L := L) (hkill.grow hb) (holds_of (RepP.keep (fun b hbb => ⟨?_, rfl⟩) v u hu)) hput
      rcases hbb with hbb | hbb
      · exact ⟨hbb.1.keep hb.size (hb.block b hbb.1.1), hbb.2⟩
      · exact ⟨hbb.2, .inr (Nat.le_trans hkill.base.size hbb.1), fun k hk e => by have := hkill.boxlt hk; omega, fun t ht e => by have := hkill.rowlt ht e; omega⟩))
  exact this
theorem putE_nil {N : NN} {dst : Option Nat} {v : PV} : putE N dst v [] = match ownV v with
    | some (b, rs) => putN N dst b rs
    | none => putA N dst (TV.ofPV v) [] := by
  cases v <;> rfl
theorem putE_dead {N : NN} {dst : Option Nat} {v : PV} {q : Nat} {c : Cont} (h : ∀ e k es, v ≠ .own e k es) : putE N dst v [(q, c)] = putA N dst (TV.ofPV v) [(q, c)] := by
  cases v <;> first | exact absurd rfl (h _ _ _) | rfl
theorem call_stepS {o : Oper} {bm : Nat → Nat} {rm : Nat → Value} {L : Lk} {a : Act} {w : World} (h : RelAt w0 im0 X.N D bm rm L a w) {sp : List FuncId} {c : CallS} {R R' R'' : List Nat} {α : St} {v : PV} (hr : (callS sp o).run L R = some (c, R')) (hd : Can P c.f c.args v)
    (hput : (putE X.N o.dst v c.eat).run L R' = some (α, R'')) {Q : Exit → Act → World → Prop} {K : Act → World → Prop} (hK : ∀ a' w', Rel w0 im0 X.N D (ovr α L) a' w' → K a' w') : o.wpIn (FW ro) n P a w K Q := by
  obtain ⟨hnd, us, hen, hor⟩ := callS_ok (P := P) h hr
  obtain ⟨f, cargs, eat⟩ := c
  simp only at hd hput hen hor
  refine ⟨fenceW_about ro o w a, ?_⟩
  have go : Calls P f us.toArray w (fun e w' => ∃ u, e = .returned u ∧ K (a.put o.dst u) w') → CallsIn Fence.wide (n - 1) P f us.toArray w (fun
      | .returned v, w'' => K (a.put o.dst v) w''
      | .panicked chain, w'' => Q (.panic chain) a w''
      | .outgrown, _ => LetsOut Q) := fun h2 => callsIn_wide.2 (h2.mono (by
        rintro e w' ⟨u, rfl, hu⟩
        exact hu))
  rcases hor with ⟨args, rfl, rfl, hrep⟩ | ⟨q, e, k, es, args, us', rfl, rfl, hc, rfl, hrep⟩
  · rw [putE_nil] at hput
    simp only [Can] at hd
    cases hov : ownV v with
    | some bl =>
      obtain ⟨b, rs⟩ := bl
      rw [hov] at hd hput
      have hd : DoesO P f args b rs := hd
      have hput : (putN X.N o.dst b rs).run L R' = some (α, R'') := hput
      rw [Oper.semAt_eq _ _ _ hnd, hen hd.1, Oper.uponIn_enter]
      refine ⟨fun hh => by simp [FW, Fence.wide] at hh, ?_⟩
      refine go ((hd.2 w _ us (fun b hb => imBox_plain h hb) hrep).mono ?_)
      rintro e w' ⟨u, vs, rfl, hu, hn, hb⟩
      exact ⟨u, rfl, hK _ _ (putN_rel h hb hn hu hput)⟩
    | none =>
    rw [hov] at hd hput
    have hd : DoesF P f args v := hd
    have hput : (putA X.N o.dst (TV.ofPV v) []).run L R' = some (α, R'') := hput
    rw [Oper.semAt_eq _ _ _ hnd, hen hd.1, Oper.uponIn_enter]
    refine ⟨fun hh => by simp [FW, Fence.wide] at hh, ?_⟩
    refine go ((hd.2 w _ us (fun b hb => imBox_plain h hb) hrep).mono ?_)
    rintro e w' ⟨u, rfl, hu, hb⟩
    refine ⟨u, rfl, hK _ _ ?_⟩
    refine fin_put (α := []) (L := L) (h.grow hb) (holds_of (RepP.keep (fun b hbb => ⟨?_, rfl⟩) v u hu)) hput
    exact ⟨hbb.2, .inr (Nat.le_trans h.base.size hbb.1), fun k hk e => by have := h.boxlt hk; omega, fun t ht e => by have := h.rowlt ht e; omega⟩
  · obtain ⟨xs, hown, hl, hk⟩ := h.rows q e k es hc
    have hir : isRow L q := ⟨e, k, es, hc⟩
    have hnim : ∀ g, (rm q).ownBlock = some g → ¬ imOf w0.heap.size im0 bm rm L w g ∧ ¬ imBox (some q) w0 im0 bm rm L w g := fun g hg => ⟨fun hi => hi.2.2.2 q hir hg, fun hi => by
      rcases hi with hi | ⟨k', ty, cs, hc', rfl⟩ | ⟨t, ht, hot, htg⟩
      · exact hi.2.2.2 q hir hg
      · exact h.br k' q (.inl ⟨ty, cs, hc'⟩) hir hg
      · have := h.rr t q g ht hir htg hg
        subst this
        simp [otherB] at hot⟩
    have hor2 : (∃ e' k' es', v = .own e' k' es') ∨ (DoesC P f e k es args v ∧ (putA X.N o.dst (TV.ofPV v) [(kR q, .dead)]).run L R' = some (α, R'')) := by
      by_cases hv : ∃ e' k' es', v = .own e' k' es'
      · exact .inl hv
      · rw [putE_dead (fun e' k' es' he => hv ⟨e', k', es', he⟩)] at hput
        refine .inr ⟨?_, hput⟩
        cases v <;> first | exact absurd ⟨_, _, _, rfl⟩ hv | exact hd
    rcases hor2 with ⟨e', k', es', rfl⟩ | ⟨hd, hput⟩
    · obtain ⟨rfl, rfl, hd⟩ : e' = e ∧ k' = k ∧ DoesW P f e k es es' args := hd
      have hput : (putA X.N o.dst (.c .unk) [(kR q, .row e' k' es')]).run L R' = some (α, R'') := hput
      rw [Oper.semAt_eq _ _ _ hnd, hen hd.1, Oper.uponIn_enter]
      refine ⟨fun hh => by simp [FW, Fence.wide] at hh, ?_⟩
      refine go ((hd.2 w _ _ w0.heap.size (rm q) xs us' (fun b hb => hb.1) (fun b hb => imBox_plain h hb) h.base.size hown hl hk hnim hrep).mono ?_)
      rintro e1 w' ⟨u, xs', rfl, hown', hl', hk', hg⟩
      exact ⟨u, rfl, hK _ _ (fin_put (α := [(kR q, .row e' k' es')]) (v := .c .unk) (u := u) (L := L) (h.setRow hc hg hg.size hown' hl' hk') ⟨trivial, by simp [TV.boxes, CV.boxes], by simp [TV.rows, CV.rows]⟩ hput)⟩
    rw [Oper.semAt_eq _ _ _ hnd, hen hd.1, Oper.uponIn_enter]
    refine ⟨fun hh => by simp [FW, Fence.wide] at hh, ?_⟩
    refine go ((hd.2 w _ _ w0.heap.size (rm q) xs us' (fun b hb => hb.1) (fun b hb => imBox_plain h hb) h.base.size hown hl hk hnim hrep).mono ?_)
    · rintro e' w' ⟨u, rfl, hu, hg⟩
      obtain ⟨h1, h2, h3, h4⟩ := h.eat hc hg
      refine ⟨u, rfl, hK _ _ ?_⟩
      refine fin_put (α := [(kR q, .dead)]) (L := L) h1 (holds_of (RepP.keep (fun b hbb => ⟨?_, rfl⟩) v u hu)) hput
      rcases hbb with hbb | ⟨hbb | hbb, hp⟩
      · exact h2 b hbb
      · exact h3 b hbb hp
      · exact h4 b hbb hp
theorem aOps_ok {ops : Array Oper} (har : X.ar = Ar.std) (hT : ∀ t, LayOK P t (X.T t)) : ∀ (l : List Oper) (k : Nat) (σ : St) (ts : List Deed) (K : List Deed → St → Prop), (∀ i, l[i]? = ops[k + i]?) → aOps X (Can P) ops.toList l σ ts K →
    ∃ ts' σ', ts'.length = l.length ∧ K (ts.reverse ++ ts') σ' ∧ lk σ' = latM (fun _ => true) 0 ts' (lk σ) ∧
      ∀ i x, ts'[i]? = some x → ∀ L', (∀ q ∈ x.2, L' q = latM (lt_ i) 0 ts' (lk σ) q) → StepOK w0 im0 X.N D ro n P ops (k + i) x.1 L'
  | [], k, σ, ts, K, _, h => ⟨[], σ, rfl, by simpa [aOps] using h, rfl, fun i x hx => by simp at hx⟩
  | o :: l, k, σ, ts, K, hl, h => by
    have hk : ops[k]? = some o := by simpa using (hl 0).symm
    have hl' : ∀ i, l[i]? = ops[k + 1 + i]? := fun i => by
      have := hl (i + 1)
      rw [show k + 1 + i = k + (i + 1) by omega, ← this]; rfl
    have next : ∀ (α : St) (R : List Nat), aOps X (Can P) ops.toList l (α ++ σ) ((α, R) :: ts) K → (∀ L', (∀ q ∈ R, L' q = lk σ q) → StepOK w0 im0 X.N D ro n P ops k α L') →
        ∃ ts' σ', ts'.length = (o :: l).length ∧ K (ts.reverse ++ ts') σ' ∧ lk σ' = latM (fun _ => true) 0 ts' (lk σ) ∧
          ∀ i x, ts'[i]? = some x → ∀ L', (∀ q ∈ x.2, L' q = latM (lt_ i) 0 ts' (lk σ) q) → StepOK w0 im0 X.N D ro n P ops (k + i) x.1 L' := by
      intro α R h hs
      obtain ⟨ts', σ', h1, h2, h3, h4⟩ := aOps_ok har hT l (k + 1) (α ++ σ) ((α, R) :: ts) K hl' h
      refine ⟨(α, R) :: ts', σ', by simp [h1], by simpa using h2, ?_, fun i x hx L' hL => ?_⟩
      · rw [h3, lk_append]
        simp only [latM, if_true]
        exact lat_all _ _ _ _
      · cases i with
        | zero =>
          simp only [List.getElem?_cons_zero, Option.some.injEq] at hx
          subst hx
          rw [Nat.add_zero]
          exact hs L' fun q hq => by rw [hL q hq, lat_zero]
        | succ i =>
          have := h4 i x (by simpa using hx) L' (fun q hq => by rw [hL q hq, lat_cons, lk_append])
          rwa [show k + 1 + i = k + (i + 1) by omega] at this
    simp only [aOps] at h
    cases hg : gd ops.toList o (lk σ) with
    | none => rw [hg] at h; exact h.elim
    | some gR =>
      obtain ⟨g, R⟩ := gR
      rw [hg] at h
      cases g with
      | false =>
        simp only at h
        have skip : ∀ α : St, (∀ (bm : Nat → Nat) (rm : Nat → Value) L' a w, RelAt w0 im0 X.N D bm rm L' a w → Rel w0 im0 X.N D (ovr α L') (a.put o.dst undef) w) → ∀ L', (∀ q ∈ R, L' q = lk σ q) → StepOK w0 im0 X.N D ro n P ops k α L' := by
          intro α hα L' hL Q K' a w ⟨bm, rm, hrel⟩ hK
          unfold wpOpIn
          simp only [hk]
          rw [gd_wanted hrel (gd_local hg hL), if_neg (by simp)]
          exact ⟨fenceW_about ro o w a, hK _ _ (hα bm rm L' a w hrel)⟩
        cases hd : o.dst with
        | none =>
          rw [hd] at h skip
          refine next [] R (by simpa using h) (skip [] fun bm rm L' a w hr => ⟨bm, rm, hr⟩)
        | some d =>
          rw [hd] at h skip
          simp only at h
          cases hb : okS X.N d with
          | false => rw [hb] at h; exact h.elim
          | true =>
            rw [hb] at h
            refine next [(kT d, .t (.c .und))] R (by simpa using h) (skip _ fun bm rm L' a w hr => ⟨bm, rm, hr.put (by simpa [Nat.blt_eq] using hb) rfl (by simp [TV.boxes, CV.boxes]) (by simp [TV.rows, CV.rows])⟩)
      | true =>
        simp only at h
        have wanted : ∀ {L' : Lk} {bm rm a w}, (∀ q ∈ R, L' q = lk σ q) → RelAt w0 im0 X.N D bm rm L' a w → ∀ {Q K'}, o.wpIn (FW ro) n P a w K' Q → wpOpIn (FW ro) n P ops Q k K' a w := by
          intro L' bm rm a w hL hrel Q K' hw
          unfold wpOpIn
          simp only [hk]
          rw [gd_wanted hrel (gd_local hg hL), if_pos rfl]
          exact hw
        cases hs : (callS X.N.own o).run (lk σ) R with
        | some cR =>
          obtain ⟨c, R'⟩ := cR
          rw [hs] at h
          simp only at h
          obtain ⟨v, hdoes, h⟩ := h
          cases hput : (putE X.N o.dst v c.eat).run (lk σ) R' with
          | none => rw [hput] at h; exact h.elim
          | some αR =>
            obtain ⟨α, R''⟩ := αR
            rw [hput] at h
            refine next α _ h fun L' hL Q K' a w ⟨bm, rm, hrel⟩ hK => ?_
            have hsub := AskR.run_sub _ _ _ _ hs
            have hsub2 := AskR.run_sub _ _ _ _ hput
            exact wanted (fun q hq => hL q (hsub2 q (hsub q hq))) hrel (call_stepS hrel (AskR.local _ _ L' _ _ hs (fun q hq => hL q (hsub2 q hq))) hdoes (AskR.local _ _ L' _ _ hput hL) hK)
        | none =>
        rw [hs] at h
        simp only at h
        cases hc : (callA o).run (lk σ) R with
        | some cR =>
          obtain ⟨c, R'⟩ := cR
          rw [hc] at h
          simp only at h
          obtain ⟨v, hdoes, h⟩ := h
          cases hp : (c.pure || flatP 4 v) with
          | false =>
            rw [hp] at h
            simp only [cond_false] at h
            cases hz : (callZ o).run (lk σ) R with
            | none => rw [hz] at h; exact h.elim
            | some zR =>
              obtain ⟨z, R2⟩ := zR
              rw [hz] at h
              obtain ⟨e1, e2, h⟩ := h
              cases hput : (putA X.N o.dst (TV.ofPV v) [(kR z.q, .dead)]).run (lk σ) R2 with
              | none => rw [hput] at h; exact h.elim
              | some αR =>
                obtain ⟨α, R''⟩ := αR
                rw [hput] at h
                obtain ⟨rfl, hput'⟩ := putA_run hput
                rw [← e1, ← e2] at hdoes
                refine next α _ h fun L' hL Q K' a w ⟨bm, rm, hrel⟩ hK => ?_
                have hsub := AskR.run_sub _ _ _ _ hz
                exact wanted (fun q hq => hL q (hsub q hq)) hrel (call_stepZ hrel (AskR.local _ _ L' _ _ hz hL) hdoes (hput' L') hK)
          | true =>
            rw [hp] at h
            simp only [cond_true] at h
            cases hput : (putA X.N o.dst (TV.ofPV v) []).run (lk σ) R' with
            | none => rw [hput] at h; exact h.elim
            | some αR =>
              obtain ⟨α, R''⟩ := αR
              rw [hput] at h
              obtain ⟨rfl, hput'⟩ := putA_run hput
              refine next α _ h fun L' hL Q K' a w ⟨bm, rm, hrel⟩ hK => ?_
              have hsub := AskR.run_sub _ _ _ _ hc
              exact wanted (fun q hq => hL q (hsub q hq)) hrel (call_step hrel (AskR.local _ _ L' _ _ hc hL) hdoes hp (hput' L') hK)
        | none =>
          rw [hc] at h
          simp only at h
          cases he : (evOp X.ar X.T X.N o).run (lk σ) R with
          | none => rw [he] at h; exact h.elim
          | some αR =>
            obtain ⟨α, R'⟩ := αR
            rw [he] at h
            refine next α R' h fun L' hL Q K' a w ⟨bm, rm, hrel⟩ hK => ?_
            have hsub := AskR.run_sub _ _ _ _ he
            exact wanted (fun q hq => hL q (hsub q hq)) hrel (res_wpIn (evOp_defer he) (evOp_ok har hT hrel (AskR.local _ _ L' _ _ he hL)) hK)
def SemC (P : Program) (w0 : World) (im0 : Nat → Prop) (N : NN) (D : Env) (ro : Option Nat) (n : Nat) (c : Code) (Q : Exit → St → Prop) (σ : St) : Prop :=
  ∀ a w, Rel w0 im0 N D (lk σ) a w → c.wpIn (FW ro) n P (fun e a w => ∃ σ', Q e σ' ∧ Rel w0 im0 N D (lk σ') a w) a w
def cnd (c : Operand) : AskR Bool := opd c fun v => match v with
  | .c (.p (.bool b)) => .done b
  | _ => .fail
def hasNext (ops : List Oper) : Bool := ops.any fun o => match o.op with
  | .next _ _ => true
  | .call c => (match c.callee with
    | .builtin .clear => true
    | _ => false)
  | _ => false
def acode (X : Ctx) (Cl : FuncId → List PV → PV → Prop) (S : Code → (Exit → St → Prop) → St → Prop) : Code → (Exit → St → Prop) → St → Prop
  | .skip, Q, σ => Q .normal σ
  | .label _, Q, σ => Q .normal σ
  | .region id ops draw, Q, σ => bif hasNext ops.toList then S (.region id ops draw) Q σ else aOps X Cl ops.toList ops.toList σ [] fun ts σ' => bif !draw || ordM ops ts then Q .normal σ' else False
  | .seq x y, Q, σ => acode X Cl S x (fun e σ' => match e with
    | .normal => acode X Cl S y Q σ'
    | e => Q e σ') σ
  | .cond c x y, Q, σ => match (cnd c).run (lk σ) [] with
    | some (true, _) => acode X Cl S x Q σ
    | some (false, _) => acode X Cl S y Q σ
    | none => False
  | .block id c, Q, σ => acode X Cl S c (fun e σ' => match e with
    | .exit id' => bif Nat.beq id' id then Q .normal σ' else Q (.exit id') σ'
    | e => Q e σ') σ
  | .exit id, Q, σ => Q (.exit id) σ
  | .goto l, Q, σ => Q (.goto l) σ
  | .ret, Q, σ => Q .ret σ
  | c, Q, σ => S c Q σ
theorem acode_ok (har : X.ar = Ar.std) (hT : ∀ t, LayOK P t (X.T t)) (hm : P.follows .mixedOrders = true) : ∀ (c : Code) (Q : Exit → St → Prop) (σ : St), acode X (Can P) (SemC P w0 im0 X.N D ro n) c Q σ → SemC P w0 im0 X.N D ro n c Q σ
  | .skip, Q, σ, h => fun a w hr => wpIn_skip ⟨σ, h, hr⟩
  | .label _, Q, σ, h => fun a w hr => wpIn_label ⟨σ, h, hr⟩
  | .region id ops draw, Q, σ, h => fun a w hr => by
    simp only [acode] at h
    cases hnx : hasNext ops.toList with
    | true => rw [hnx] at h; exact h a w hr
    | false =>
    rw [hnx] at h
    simp only [cond_false] at h
    obtain ⟨ts, σ', h1, h2, h3, h4⟩ := aOps_ok (w0 := w0) (im0 := im0) (D := D) (ro := ro) (n := n) har hT ops.toList 0 σ [] _ (fun i => by simp) h
    simp only [List.reverse_nil, List.nil_append] at h2
    cases hb : (!draw || ordM ops ts) with
    | false => rw [hb] at h2; exact h2.elim
    | true =>
      rw [hb] at h2
      simp only [cond_true] at h2
      have hend : ∀ a w, Rel w0 im0 X.N D (latM (fun _ => true) 0 ts (lk σ)) a w → ∃ σ', Q .normal σ' ∧ Rel w0 im0 X.N D (lk σ') a w := fun a w hr => ⟨σ', h2, by rw [h3]; exact hr⟩
      cases draw with
      | true =>
        exact wp_drawn hm (by simpa using h1) (ordM_ok (by simpa using hb)) (fun i x hx L' hL => by have := h4 i x hx L' hL; rwa [Nat.zero_add] at this) hr hend
      | false =>
        refine wpIn_region (wp_plain_ops (L := lk σ) (List.range ops.size) ts (lk σ) a w (fun q i x hq hx => ?_) (by simp [h1]) hr hend)
        have hqi : q = i := by
          rw [List.getElem?_range] at hq
          · simpa using hq
          · have := (List.getElem?_eq_some_iff.1 hx).1
            simp only [Array.length_toList] at h1
            omega
        subst hqi
        have := h4 q x hx _ (fun _ _ => rfl)
        rwa [Nat.zero_add] at this
  | .seq x y, Q, σ, h => fun a w hr => by
    simp only [acode] at h
    refine wpIn_seq (wpIn_mono (acode_ok har hT hm x _ σ h a w hr) ?_)
    rintro e a' w' ⟨σ', hq, hr'⟩
    cases e with
    | normal => exact acode_ok har hT hm y Q σ' hq a' w' hr'
    | _ => exact ⟨σ', hq, hr'⟩
  | .cond c x y, Q, σ, h => fun a w hr => by
    simp only [acode] at h
    obtain ⟨bm, rm, hrel⟩ := hr
    split at h
    · rename_i R hc
      unfold cnd at hc
      obtain ⟨v, R', hv, hc⟩ := opd_inv hrel hc
      split at hc
      · rename_i b
        simp only [AskR.run, Option.some.injEq, Prod.mk.injEq] at hc
        obtain ⟨rfl, _⟩ := hc
        exact wpIn_cond_true hv.rep (acode_ok har hT hm x Q σ h a w ⟨bm, rm, hrel⟩)
      · simp [AskR.run] at hc
    · rename_i R hc
      unfold cnd at hc
      obtain ⟨v, R', hv, hc⟩ := opd_inv hrel hc
      split at hc
      · rename_i b
        simp only [AskR.run, Option.some.injEq, Prod.mk.injEq] at hc
        obtain ⟨rfl, _⟩ := hc
        exact wpIn_cond_false hv.rep (acode_ok har hT hm y Q σ h a w ⟨bm, rm, hrel⟩)
      · simp [AskR.run] at hc
    · exact h.elim
  | .block id c, Q, σ, h => fun a w hr => by
    simp only [acode] at h
    refine wpIn_block (wpIn_mono (acode_ok har hT hm c _ σ h a w hr) ?_)
    rintro e a' w' ⟨σ', hq, hr'⟩
    cases e with
    | exit id' =>
      simp only at hq
      cases hb : Nat.beq id' id with
      | true =>
        rw [hb] at hq
        have := Nat.eq_of_beq_eq_true hb
        simp only [Exit.inBlock, if_pos this]
        exact ⟨σ', hq, hr'⟩
      | false =>
        rw [hb] at hq
        have := Nat.ne_of_beq_eq_false hb
        simp only [Exit.inBlock, if_neg this]
        exact ⟨σ', hq, hr'⟩
    | _ => exact ⟨σ', hq, hr'⟩
  | .exit id, Q, σ, h => fun a w hr => wpIn_exit ⟨σ, h, hr⟩
  | .goto l, Q, σ, h => fun a w hr => wpIn_goto ⟨σ, h, hr⟩
  | .ret, Q, σ, h => fun a w hr => wpIn_ret ⟨σ, h, hr⟩
  | .loop _, Q, σ, h => h
  | .rangeFunc _ _ _ _, Q, σ, h => h
  | .scope _, Q, σ, h => h
  | .refuse _, Q, σ, h => h
end
structure PLe (p q : PV) : Prop where
  h : ∀ im w u, RepP im w p u → RepP im w q u
theorem PLe.refl (p : PV) : PLe p p := ⟨fun _ _ _ h => h⟩
theorem PLe.of_eq {p q : PV} (h : p = q) : PLe p q := h ▸ PLe.refl p
theorem PLe.nil (k : Nat) : PLe .nil (.list k []) := ⟨fun im w u h => by
  simp only [RepP] at h ⊢
  exact ⟨none, 0, 0, h, rfl, by simp, by simp, by simp⟩⟩
theorem PLe.tup2 {a b c d : PV} (h : PLe a c) (k : PLe b d) : PLe (.tup [a, b]) (.tup [c, d]) := ⟨fun im w u hr => by
  simp only [RepP, RepL] at hr ⊢
  obtain ⟨us, rfl, x, xs, rfl, h1, y, ys, rfl, h2, rfl⟩ := hr
  exact ⟨_, rfl, x, _, rfl, h.h _ _ _ h1, y, _, rfl, k.h _ _ _ h2, rfl⟩⟩
def resA (ar : Ar) (T : TypeId → Lay) : List ResultVar → List PV → AskR (List PV)
  | [], acc => .done acc.reverse
  | .tmp t :: r, acc => opd (.tmp t) fun v => frzT v fun p => resA ar T r (p :: acc)
  | .cell p ty :: r, acc => opd (.tmp p) fun pv => behind ar pv (T ty) fun v => frzT v fun p => resA ar T r (p :: acc)
def onePV : List PV → PV
  | [p] => p
  | ps => .tup ps
def retQ (X : Ctx) (rs : List ResultVar) (res : PV) : Exit → St → Prop
  | .ret, σ | .normal, σ => match (resA X.ar X.T rs []).run (lk σ) [] with
    | some (ps, _) => PLe (onePV ps) res
    | none => False
  | _, _ => False
def st0 : Nat → List PV → St
  | _, [] => []
  | i, p :: r => (kT i, .t (TV.ofPV p)) :: st0 (i + 1) r
section
variable {P : Program} {w0 : World} {im0 : Nat → Prop} {X : Ctx} {D : Env} {ro : Option Nat} {n : Nat}
theorem loadAt_asAddr {t : TypeId} {u x : Value} {w : World} (h : (Instr.loadAt t u).run P w = .ok x w) : (do loadVar t (← asAddr u) : Sem Value).run P w = .ok x w := by
  cases u with
  | pointer p => cases p with
    | none => simp [Instr.loadAt, Instr.sureAddr, stuck] at h
    | some p => simpa [Instr.loadAt, Instr.sureAddr, asAddr] using h
  | _ => simp [Instr.loadAt, Instr.sureAddr, stuck] at h
def resV (tmps : Array Value) : ResultVar → Sem Value
  | .tmp t => pure (tmps.getD t undef)
  | .cell a t => do loadVar t (← asAddr (tmps.getD a undef))
theorem results_eq (fn : Func) (tmps : Array Value) : results fn tmps = (do
    let vs ← fn.results.mapM (resV tmps)
    pure (if h : vs.size = 1 then vs[0] else .tuple vs)) := by
  unfold results
  congr
theorem resA_ok {ar : Ar} (har : ar = Ar.std) {T : TypeId → Lay} (hT : ∀ t, LayOK P t (T t)) {N : NN} {bm : Nat → Nat} {rm : Nat → Value} {L : Lk} {a : Act} {w : World} (h : RelAt w0 im0 N D bm rm L a w) :
    ∀ (rs : List ResultVar) (acc : List PV) (us : List Value) (R : List Nat) (y : List PV × List Nat), (resA ar T rs acc).run L R = some y → RepL (imAll w0 im0 w) w acc.reverse us →
      ∃ vs : List Value, (rs.mapM (resV a.tmps)).run P w = .ok vs w ∧ RepL (imAll w0 im0 w) w y.1 (us ++ vs)
  | [], acc, us, R, y, hr, hu => by
    simp only [resA, AskR.run, Option.some.injEq] at hr
    subst hr
    exact ⟨[], by simp, by simpa using hu⟩
  | .tmp t :: rs, acc, us, R, y, hr, hu => by
    simp only [resA] at hr
    replace hr := opd_inv h hr; obtain ⟨v, R1, hv, hr⟩ := hr
    replace hr := frzT_ok h hv.rep hr; obtain ⟨p, R2, hp, _, hr⟩ := hr
    obtain ⟨vs, h1, h2⟩ := resA_ok har hT h rs (p :: acc) (us ++ [a.eval (.tmp t)]) R2 y hr (by simpa using hu.append_one hp)
    refine ⟨a.tmps.getD t undef :: vs, ?_, by rw [List.append_assoc] at h2; exact h2⟩
    rw [List.mapM_cons]
    simp only [resV, Sem.run_bind, Sem.run_pure, Result.andThen_ok, h1]
  | .cell p ty :: rs, acc, us, R, y, hr, hu => by
    simp only [resA] at hr
    replace hr := opd_inv h hr; obtain ⟨v, R1, hv, hr⟩ := hr
    replace hr := behind_ok har (hT ty) h hv hr; obtain ⟨v2, x, R2, hrun, hv2, hr⟩ := hr
    replace hr := frzT_ok h hv2.rep hr; obtain ⟨q, R3, hq, _, hr⟩ := hr
    obtain ⟨vs, h1, h2⟩ := resA_ok har hT h rs (q :: acc) (us ++ [x]) R3 y hr (by simpa using hu.append_one hq)
    refine ⟨x :: vs, ?_, by simpa using h2⟩
    have := loadAt_asAddr hrun
    simp only [Act.eval] at this
    rw [List.mapM_cons]
    have e9 : (resV a.tmps (.cell p ty)).run P w = .ok x w := this
    rw [Sem.run_bind, e9]
    simp only [Sem.run_bind, Sem.run_pure, Result.andThen_ok, h1]
theorem st0_get : ∀ (ps : List PV) (i j : Nat) (c : Cont), lk (st0 i ps) j = c → c ≠ .none → ∃ k p, ps[k]? = some p ∧ j = kT (i + k) ∧ c = .t (TV.ofPV p)
  | [], i, j, c, h, hc => by simp only [st0, lk_eq, ovr] at h; exact absurd h.symm hc
  | p :: ps, i, j, c, h, hc => by
    simp only [st0, lk_eq, ovr] at h
    cases hb : Nat.beq (kT i) j with
    | true =>
      rw [hb] at h
      exact ⟨0, p, rfl, by rw [Nat.add_zero]; exact (Nat.eq_of_beq_eq_true hb).symm, h.symm⟩
    | false =>
      rw [hb] at h
      obtain ⟨k, q, h1, h2, h3⟩ := st0_get ps (i + 1) j c (by rw [lk_eq]; exact h) hc
      exact ⟨k + 1, q, by simpa using h1, by rw [h2]; congr 1; omega, h3⟩
theorem RelAt.move {N N' : NN} {D D' : Env} {bm : Nat → Nat} {rm : Nat → Value} {L : Lk} {a a' : Act} {w w' : World} (h : RelAt w0 im0 N D bm rm L a w) (hos : w'.os = w.os) (htape : w'.tape = w.tape) (hout : w'.output = w.output) (hs : w.heap.size ≤ w'.heap.size)
    (hb : ∀ b, b < w.heap.size → w'.heap[b]? = w.heap[b]? ∨ (w0.heap.size ≤ b ∧ Obj.machB w.heap[b]? = true)) (hsz : a'.tmps.size = N'.hi)
    (hsl : ∀ d v, L (kT d) = .t v → a'.tmps.getD d undef = a.tmps.getD d undef)
    (hdefs : Keeps (imOf w0.heap.size im0 bm rm L w) w (imOf w0.heap.size im0 bm rm L w') w' → AuxAt w0.heap.size D' N' a' (imOf w0.heap.size im0 bm rm L w') w') : RelAt w0 im0 N' D' bm rm L a' w' := by
  have hold : ∀ b : Nat, b < w.heap.size → Obj.machB w.heap[b]? = false → w'.heap[b]? = w.heap[b]? := fun b hl hm => (hb b hl).resolve_right fun h => by rw [hm] at h; cases h.2
  have hk : Keeps (imOf w0.heap.size im0 bm rm L w) w (imOf w0.heap.size im0 bm rm L w') w' := fun b hbb => by
    have e := hold b hbb.1.1 hbb.1.2
    exact ⟨⟨hbb.1.keep hs e, hbb.2⟩, e⟩
  have hcell : ∀ b O, w.heap[b]? = some O → Obj.machB (some O) = false → w'.heap[b]? = some O := fun b O h1 h2 => by
    rw [hold b (Array.getElem?_eq_some_iff.1 h1).1 (by rw [h1]; exact h2)]; exact h1
  refine ⟨⟨hos.trans h.base.os, htape.trans h.base.tape, hout.trans h.base.output, Nat.le_trans h.base.size hs, fun b hb0 => ?_⟩, hsz, hdefs hk, fun d v hv => ?_, fun k ty cs hc => ?_, fun k o hc => ?_, fun t e k es hc => ?_, h.bb, h.br, h.rr, h.wfb, h.wfr⟩
  · rcases hb b (Nat.lt_of_lt_of_le hb0 h.base.size) with e | ⟨e, _⟩
    · rw [e]; exact h.base.block b hb0
    · omega
  · rw [hsl d v hv]
    exact (h.slots d v hv).keep hk (fun _ _ => rfl) (fun _ _ => rfl)
  · obtain ⟨us, hu, hr, hn⟩ := h.boxes k ty cs hc
    exact ⟨us, hcell _ _ hu rfl, hr.keep hk (fun _ _ => rfl) (fun _ _ => rfl), hn⟩
  · obtain ⟨O, hu, hr, hn⟩ := h.objs k o hc
    exact ⟨O, hcell _ _ hu (objs_not_mach hr), hr.keep hk, hn⟩
  · obtain ⟨xs, hx, hl, hr⟩ := h.rows t e k es hc
    refine ⟨xs, ⟨hx.1, ?_⟩, hl.keep hk, hr⟩
    rcases hx.2 with h0 | ⟨g, cap, cur, hv, hbg, hgg, hrest⟩
    · exact .inl h0
    · exact .inr ⟨g, cap, cur, hv, hbg, hcell _ _ hgg rfl, hrest⟩
structure OffV (Ds : List Nat) (X Y : World) : Prop where
  os : Y.os = X.os
  tape : Y.tape = X.tape
  output : Y.output = X.output
  size : Y.heap.size = X.heap.size
  block : ∀ b, b ∉ Ds → Y.heap[b]? = X.heap[b]?
theorem leaves_marksV {F : Fence} {n : Nat} {fn : Func} {tmps : Array Value} {R : Ending → World → Prop} : ∀ (Ds : List Nat) (X : World), Ds.Nodup →
    (∀ D ∈ Ds, X.heap[D]? = some (.deferred (some []))) → (∀ Y, OffV Ds X Y → ∃ v, (results fn tmps).run P Y = .ok v Y ∧ R (.returned v) Y) →
    LeavesInM F n P fn tmps R (Ds.map mkDv) .returning X
  | [], X, _, _, h => by
    obtain ⟨v, h1, h2⟩ := h X ⟨rfl, rfl, rfl, rfl, fun _ _ => rfl⟩
    exact ⟨v, h1, h2⟩
  | D :: Ds, X, hn, hD, h => by
    refine ⟨by simp, .inl ⟨D, _, rfl, run_takeDeferred (hD D (List.mem_cons_self ..)), ?_⟩⟩
    obtain ⟨hn1, hn2⟩ := List.nodup_cons.1 hn
    refine leaves_marksV Ds _ hn2 (fun E hE => (World.putObj_heap_other (by rintro rfl; exact hn1 hE)).trans (hD E (List.mem_cons_of_mem _ hE))) fun Y hY => h Y ⟨hY.os, hY.tape, hY.output, by rw [hY.size]; simp [World.putObj], fun b hb => ?_⟩
    rw [hY.block b (fun hm => hb (List.mem_cons_of_mem _ hm))]
    exact World.putObj_heap_other (by rintro rfl; exact hb (List.mem_cons_self ..))
theorem calls_of {f : FuncId} {fn : Func} {body : Code} {res : PV} {T : TypeId → Lay} {M : Nat} {own : List FuncId} {rs : List ResultVar} (hD : ∀ b, ¬ D.mks b) (hf : P.funcs[f]? = some fn) (hb : fn.body = some body) (hrs : fn.results.toList = rs) (hT : ∀ t, LayOK P t (T t))
    {us : List Value} {w : World} {bm : Nat → Nat} {rm : Nat → Value} {σ : St} (hrel : RelAt w0 im0 ⟨0, M, own⟩ D bm rm (lk σ) { tmps := us.toArray ++ Array.replicate (fn.ntmps - us.toArray.size) undef, defers := [] } w)
    (hsem : SemC P w0 im0 ⟨0, M, own⟩ D none 9 body (retQ ⟨Ar.std, T, ⟨0, M, own⟩⟩ rs res) σ) :
    Calls P f us.toArray w fun e Y => ∃ u bm rm L a, e = .returned u ∧ RepP (imAll w0 im0 Y) Y res u ∧ RelAt w0 im0 ⟨0, M, own⟩ D bm rm L a Y := by
  refine (callsIn_wide (n := 9)).1 (callsIn_of_wp_marks hf hb trivial (wpIn_mono (hsem _ w ⟨bm, rm, hrel⟩) ?_) rfl)
  rintro e a' w' ⟨σ', hq, bm, rm, hrel'⟩
  have key : (match (resA Ar.std T rs []).run (lk σ') [] with
      | some (ps, _) => PLe (onePV ps) res
      | none => False) → LeavesInM (FW none) 9 P fn a'.tmps (fun e Y => ∃ u bm rm L a, e = .returned u ∧ RepP (imAll w0 im0 Y) Y res u ∧ RelAt w0 im0 ⟨0, M, own⟩ D bm rm L a Y) a'.defers .returning w' := by
    intro hq
    obtain ⟨Ds, hd1, hd2, hd3⟩ := hrel'.defs.marks
    rw [hd1]
    refine leaves_marksV Ds w' hd2 (fun b hb => (hd3 b hb).2) fun Y hY => ?_
    have hrelY : RelAt w0 im0 ⟨0, M, own⟩ D bm rm (lk σ') { tmps := a'.tmps, defers := [] } Y := by
      refine hrel'.move hY.os hY.tape hY.output (Nat.le_of_eq hY.size.symm) (fun b _ => ?_) hrel'.size (fun _ _ _ => rfl) (fun hk => ⟨⟨[], rfl, by simp, by simp⟩, hrel'.defs.kept.trans hk, hrel'.defs.pins, fun b hb => absurd hb (hD b), Nat.le_trans hrel'.defs.top (Nat.le_of_eq hY.size.symm)⟩)
      by_cases hm : b ∈ Ds
      · exact .inr ⟨(hd3 b hm).1.1, by rw [(hd3 b hm).2]; rfl⟩
      · exact .inl (hY.block b hm)
    split at hq
    · rename_i ps R hr
      obtain ⟨vs, h1, h2⟩ := resA_ok rfl hT hrelY rs [] [] [] _ hr (by simp [RepL])
      simp only [List.nil_append] at h2
      refine ⟨(if h : vs.toArray.size = 1 then vs.toArray[0] else .tuple vs.toArray), ?_, _, bm, rm, _, _, rfl, ?_, hrelY⟩
      · rw [results_eq, Sem.run_bind, Array.mapM_eq_mapM_toList, hrs, Sem.run_map, h1]
        simp only [Result.andThen_ok, Sem.run_pure]
      · refine hq.h _ _ _ ?_
        have hl := h2.len
        cases ps with
        | nil =>
          have : vs = [] := List.eq_nil_of_length_eq_zero (by simpa using hl)
          subst this
          simp only [onePV, RepP]
          exact ⟨[], by simp, h2⟩
        | cons p ps =>
          cases ps with
          | nil =>
            simp only [RepL] at h2
            obtain ⟨x, xs, rfl, hp, rfl⟩ := h2
            simpa [onePV] using hp
          | cons q qs =>
            have : ¬ vs.toArray.size = 1 := by simp [hl]
            rw [dif_neg this]
            simp only [onePV, RepP]
            exact ⟨vs, rfl, h2⟩
    · exact hq.elim
  cases e with
  | normal => exact key hq
  | ret => exact key hq
  | _ => exact hq.elim
theorem does_of {f : FuncId} {fn : Func} {body : Code} {args : List PV} {res : PV} {T : TypeId → Lay} {M : Nat} {own : List FuncId} {rs : List ResultVar} (hf : P.funcs[f]? = some fn) (hb : fn.body = some body) (hN : fn.ntmps = M) (hrs : fn.results.toList = rs)
    (hen : ∀ us w, (callFunc f us).run P w = .ok (.enter f us) w) (hT : ∀ t, LayOK P t (T t)) (hm : P.follows .mixedOrders = true) (hle : args.length ≤ M)
    (h : ∀ (w0 : World) (im0 : Nat → Prop) (D : Env) (S : Code → (Exit → St → Prop) → St → Prop) (Cl : FuncId → List PV → PV → Prop), (∀ c Q σ, SemC P w0 im0 ⟨0, M, own⟩ D none 9 c Q σ → S c Q σ) → (∀ f a v, Can P f a v → Cl f a v) → ∀ ar, ar = Ar.std → acode ⟨ar, T, ⟨0, M, own⟩⟩ Cl S body (retQ ⟨ar, T, ⟨0, M, own⟩⟩ rs res) (st0 0 args)) : Does P f args res := by
  refine ⟨hen, fun w im us him hrep => ?_⟩
  have hlen := hrep.len
  have hrel : RelAt w im ⟨0, M, own⟩ ⟨fun _ => False, w, #[], fun _ => False, 0⟩ (fun _ => 0) (fun _ => .nilFunc) (lk (st0 0 args)) { tmps := us.toArray ++ Array.replicate (fn.ntmps - us.toArray.size) undef, defers := [] } w := by
    have hnb : ∀ k, ¬ isBox (lk (st0 0 args)) k := fun k hb => by
      rcases hb with ⟨ty, cs, hc⟩ | ⟨o, hc⟩ <;>
      · obtain ⟨_, _, _, h2, h3⟩ := st0_get args 0 _ _ hc (by simp)
        exact (kT_ne_kB _ _) h2.symm
    have hnr : ∀ k, ¬ isRow (lk (st0 0 args)) k := fun k ⟨e, q, es, hc⟩ => by
      obtain ⟨_, _, _, h2, h3⟩ := st0_get args 0 _ _ hc (by simp)
      exact (kT_ne_kR _ _) h2.symm
    refine ⟨Below.refl _ _, by simp [hN, hlen]; omega, ⟨⟨[], rfl, by simp, by simp⟩, (fun _ h => h.elim), fun d hd => absurd hd (Nat.not_lt_zero d), fun _ h => h.elim, Nat.zero_le _⟩, fun d v hv => ?_, fun k ty cs hc => absurd (.inl ⟨ty, cs, hc⟩) (hnb k), fun k o hc => absurd (.inr ⟨o, hc⟩) (hnb k), fun t e k es hc => absurd ⟨e, k, es, hc⟩ (hnr t), fun k k' hk => absurd hk (hnb k), fun k t hk => absurd hk (hnb k), fun t t' g ht => absurd ht (hnr t), fun i k hk => ?_, fun i t ht => ?_⟩
    · obtain ⟨k, p, h1, h2, h3⟩ := st0_get args 0 _ _ hv (by simp)
      have hd : d = k := by have := kT_inj h2; omega
      subst hd
      cases h3
      obtain ⟨u, hu, hp⟩ := hrep.get h1
      have hlt := (List.getElem?_eq_some_iff.1 hu).1
      have e : (us.toArray ++ Array.replicate (fn.ntmps - us.toArray.size) undef).getD d undef = u := by
        simp only [Array.getD_eq_getD_getElem?, Array.getElem?_append, List.size_toArray, hlt, if_true, List.getElem?_toArray, hu, Option.getD_some]
      show RepT _ _ _ _ _ ((us.toArray ++ Array.replicate (fn.ntmps - us.toArray.size) undef).getD d undef)
      rw [e]
      exact TV.ofPV_rep (RepP.keep (fun b hb => ⟨⟨him b hb, .inl hb, fun k hk => absurd hk (hnb k), fun t ht => absurd ht (hnr t)⟩, rfl⟩) _ _ hp)
    · cases hc : lk (st0 0 args) i with
      | none => rw [hc] at hk; simp [Cont.boxes] at hk
      | _ =>
        obtain ⟨q, p, _, _, h3⟩ := st0_get args 0 _ _ hc (by simp)
        rw [hc, h3] at hk
        simp [Cont.boxes, TV.ofPV_boxes] at hk
    · cases hc : lk (st0 0 args) i with
      | none => rw [hc] at ht; simp [Cont.rows] at ht
      | _ =>
        obtain ⟨q, p, _, _, h3⟩ := st0_get args 0 _ _ hc (by simp)
        rw [hc, h3] at ht
        simp [Cont.rows, TV.ofPV_rows] at ht
  have hsem := acode_ok (X := ⟨Ar.std, T, ⟨0, M, own⟩⟩) (P := P) (w0 := w) (im0 := im) (D := ⟨fun _ => False, w, #[], fun _ => False, 0⟩) (ro := none) (n := 9) rfl hT hm body _ _ (h w im _ _ _ (fun _ _ _ h => h) (fun _ _ _ h => h) Ar.std rfl)
  refine (calls_of (fun _ h => h) hf hb hrs hT hrel hsem).mono ?_
  rintro e Y ⟨u, bm, rm, L, a, rfl, hu, hY⟩
  exact ⟨u, rfl, RepP.keep (fun b hb => ⟨hb.2.elim .inl fun h => .inr ⟨h, hb.1⟩, rfl⟩) _ _ hu, hY.base⟩
end
def CV.ren (ρ : Nat → Nat) : CV → CV
  | .row t => .row (ρ t)
  | .rptr t k i o => .rptr (ρ t) k i o
  | c => c
def TV.ren (ρ : Nat → Nat) : TV → TV
  | .c v => .c (v.ren ρ)
  | .agg cs => .agg (cs.map (CV.ren ρ))
def leC (ρ : Nat → Nat) (c' c : CV) : Prop := match c' with
  | .unk => True
  | c' => c = c'.ren ρ
def leCs (ρ : Nat → Nat) : List CV → List CV → Prop
  | [], [] => True
  | c' :: r', c :: r => leC ρ c' c ∧ leCs ρ r' r
  | _, _ => False
def wk1 (ρ : Nat → Nat) (L : Lk) (i : Nat) (c' : Cont) : Prop := match c' with
  | .t v' => L i = .t (v'.ren ρ)
  | .box ty cs' => match L i with
    | .box ty2 cs => ty2 = ty ∧ leCs ρ cs' cs
    | _ => False
  | .row e k es => L (kR (ρ ((i - 2) / 3))) = .row e k es
  | .obj o => L i = .obj o
  | _ => True
def wkP (ρ : Nat → Nat) (L : Lk) : St → Prop
  | [] => True
  | (i, c) :: r => wk1 ρ L i c ∧ wkP ρ L r
def Cont.kind : Cont → Nat
  | .t _ => 0
  | .box _ _ => 1
  | .row _ _ _ => 2
  | .obj _ => 1
  | _ => 3
def keysB : St → Bool
  | [] => true
  | (i, c) :: r => Nat.beq (i % 3) c.kind && (r.all fun x => !Nat.beq x.1 i) && keysB r
def hasB (σ : St) (i : Nat) : Bool := σ.any fun x => Nat.beq x.1 i
def shutB (σ : St) : Bool := σ.all fun x => (x.2.boxes.all fun k => hasB σ (kB k)) && (x.2.rows.all fun t => hasB σ (kR t))
def injB (ρ : Nat → Nat) : St → Bool
  | [] => true
  | (i, c) :: r => (match c with
    | .row _ _ _ => r.all fun x => match x.2 with
      | .row _ _ _ => !Nat.beq (ρ ((i - 2) / 3)) (ρ ((x.1 - 2) / 3))
      | _ => true
    | _ => true) && injB ρ r
def goodB (ρ : Nat → Nat) (σ : St) : Bool := keysB σ && shutB σ && injB ρ σ
structure Weak (ρ : Nat → Nat) (σ σ' : St) : Prop where
  ok : goodB ρ σ' = true
  le : wkP ρ (lk σ) σ'
section
theorem lk_mem : ∀ {σ : St} {i : Nat} {c : Cont}, lk σ i = c → c ≠ .none → (i, c) ∈ σ
  | [], i, c, h, hc => by simp only [lk_eq, ovr] at h; exact absurd h.symm hc
  | (j, d) :: r, i, c, h, hc => by
    simp only [lk_eq, ovr] at h
    cases hb : Nat.beq j i with
    | true => rw [hb] at h; have := Nat.eq_of_beq_eq_true hb; simp only [cond_true] at h; subst this; subst h; simp
    | false => rw [hb] at h; exact List.mem_cons_of_mem _ (lk_mem (σ := r) (by rw [lk_eq]; exact h) hc)
theorem lk_has {σ : St} (hk : keysB σ = true) : ∀ {i : Nat}, hasB σ i = true → lk σ i ≠ .none := by
  induction σ with
  | nil => intro i h; simp [hasB] at h
  | cons x r ih =>
    intro i h
    obtain ⟨j, d⟩ := x
    simp only [keysB, Bool.and_eq_true] at hk
    simp only [hasB, List.any_cons, Bool.or_eq_true] at h
    simp only [lk_eq, ovr]
    cases hb : Nat.beq j i with
    | true =>
      simp only [cond_true]
      rintro rfl
      have := Nat.eq_of_beq_eq_true hk.1.1
      simp only [Cont.kind] at this
      omega
    | false =>
      simp only [cond_false]
      rw [hb] at h
      rw [← lk_eq]
      exact ih hk.2 (by simpa [hasB] using h)
theorem wkP_mem {ρ : Nat → Nat} {L : Lk} : ∀ {σ : St}, wkP ρ L σ → ∀ {i : Nat} {c : Cont}, (i, c) ∈ σ → wk1 ρ L i c
  | [], _, i, c, h => by simp at h
  | x :: r, hw, i, c, h => by
    simp only [wkP] at hw
    rcases List.mem_cons.1 h with rfl | h
    · exact hw.1
    · exact wkP_mem hw.2 h
theorem injB_mem {ρ : Nat → Nat} : ∀ {σ : St}, injB ρ σ = true → keysB σ = true → ∀ {i j : Nat} {e e' k k' : Nat} {es es' : List (List PV)}, (i, Cont.row e k es) ∈ σ → (j, Cont.row e' k' es') ∈ σ →
    ρ ((i - 2) / 3) = ρ ((j - 2) / 3) → i = j
  | [], _, _, _, _, _, _, _, _, _, _, h, _, _ => by simp at h
  | (q, c) :: r, hi, hk, i, j, e, e', k, k', es, es', h1, h2, he => by
    simp only [injB, Bool.and_eq_true] at hi
    simp only [keysB, Bool.and_eq_true] at hk
    have m1 := List.mem_cons.1 h1
    have m2 := List.mem_cons.1 h2
    clear h1 h2
    rcases m1 with m1 | m1
    · rcases m2 with m2 | m2
      · cases m1; cases m2; rfl
      · cases m1
        simp only [List.all_eq_true] at hi
        have := hi.1 _ m2
        simp only [Bool.not_eq_true'] at this
        exact absurd he (Nat.ne_of_beq_eq_false this)
    · rcases m2 with m2 | m2
      · cases m2
        simp only [List.all_eq_true] at hi
        have := hi.1 _ m1
        simp only [Bool.not_eq_true'] at this
        exact absurd he.symm (Nat.ne_of_beq_eq_false this)
      · exact injB_mem hi.2 hk.2 m1 m2 he
end
section
variable {P : Program} {w0 : World} {im0 : Nat → Prop} {N : NN} {D : Env} {ro : Option Nat} {n : Nat} {bm : Nat → Nat} {rm : Nat → Value} {a : Act} {w : World}
theorem leC_rep {ρ : Nat → Nat} {im im' : Nat → Prop} {c' c : CV} {u : Value} (hk : Keeps im w im' w) (hl : leC ρ c' c) (h : RepV bm rm im w c u) : RepV bm (fun t => rm (ρ t)) im' w c' u := by
  cases c' with
  | p v => have hl : c = .p v := hl; subst hl; exact RepP.keep hk _ _ h
  | ptr k o => have hl : c = .ptr k o := hl; subst hl; exact h
  | row t => have hl : c = .row (ρ t) := hl; subst hl; exact h
  | rptr t k i o => have hl : c = .rptr (ρ t) k i o := hl; subst hl; exact h
  | aptr k o l i => have hl : c = .aptr k o l i := hl; subst hl; exact h
  | clo f ks => have hl : c = .clo f ks := hl; subst hl; exact h
  | mp k => have hl : c = .mp k := hl; subst hl; exact h
  | und => have hl : c = .und := hl; subst hl; exact h
  | unk => trivial
theorem leCs_rep {ρ : Nat → Nat} {im im' : Nat → Prop} (hk : Keeps im w im' w) : ∀ {cs' cs : List CV} {us : List Value}, leCs ρ cs' cs → RepVs bm rm im w cs us → RepVs bm (fun t => rm (ρ t)) im' w cs' us
  | [], [], _, _, h => h
  | [], _ :: _, _, hl, _ => hl.elim
  | _ :: _, [], _, hl, _ => hl.elim
  | c' :: cs', c :: cs, us, hl, h => by
    simp only [leCs] at hl
    simp only [RepVs] at h ⊢
    obtain ⟨x, xs, rfl, h1, h2⟩ := h
    exact ⟨x, xs, rfl, leC_rep hk hl.1 h1, leCs_rep hk hl.2 h2⟩
theorem leCs_map (ρ : Nat → Nat) : ∀ cs : List CV, leCs ρ cs (cs.map (CV.ren ρ))
  | [] => trivial
  | c :: cs => by
    refine ⟨?_, leCs_map ρ cs⟩
    cases c <;> simp [leC, CV.ren]
theorem leT_rep {ρ : Nat → Nat} {im im' : Nat → Prop} {v : TV} {u : Value} (hk : Keeps im w im' w) (h : RepT bm rm im w (v.ren ρ) u) : RepT bm (fun t => rm (ρ t)) im' w v u := by
  cases v with
  | c c => exact leC_rep (c := c.ren ρ) hk (by cases c <;> simp [leC, CV.ren]) h
  | agg cs =>
    obtain ⟨us, rfl, h⟩ := h
    exact ⟨us, rfl, leCs_rep hk (leCs_map ρ cs) h⟩
theorem RelAt.weak {ρ : Nat → Nat} {σ σ' : St} (hw : Weak ρ σ σ') (h : RelAt w0 im0 N D bm rm (lk σ) a w) : RelAt w0 im0 N D bm (fun t => rm (ρ t)) (lk σ') a w := by
  obtain ⟨hok, hle⟩ := hw
  simp only [goodB, Bool.and_eq_true] at hok
  obtain ⟨⟨hkeys, hshut⟩, hinj⟩ := hok
  have hT : ∀ d v', lk σ' (kT d) = .t v' → lk σ (kT d) = .t (v'.ren ρ) := fun d v' hv => wkP_mem hle (lk_mem hv (by simp))
  have hB : ∀ k ty cs', lk σ' (kB k) = .box ty cs' → ∃ cs, lk σ (kB k) = .box ty cs ∧ leCs ρ cs' cs := fun k ty cs' hc => by
    have := wkP_mem hle (lk_mem hc (by simp))
    simp only [wk1] at this
    split at this
    · rename_i ty2 cs heq
      obtain ⟨rfl, hl⟩ := this
      exact ⟨cs, heq, hl⟩
    · exact this.elim
  have hR : ∀ t e k es, lk σ' (kR t) = .row e k es → lk σ (kR (ρ t)) = .row e k es := fun t e k es hc => by
    have := wkP_mem hle (lk_mem hc (by simp))
    simp only [wk1, kR] at this
    rwa [show (3 * t + 2 - 2) / 3 = t by omega] at this
  have hO : ∀ k o, lk σ' (kB k) = .obj o → lk σ (kB k) = .obj o := fun k o hc => wkP_mem hle (lk_mem hc (by simp))
  have iB : ∀ k, isBox (lk σ') k → isBox (lk σ) k := fun k hb => by
    rcases hb with ⟨ty, cs', hc⟩ | ⟨o, hc⟩
    · obtain ⟨cs, h1, _⟩ := hB k ty cs' hc; exact .inl ⟨ty, cs, h1⟩
    · exact .inr ⟨o, hO k o hc⟩
  have iR : ∀ t, isRow (lk σ') t → isRow (lk σ) (ρ t) := fun t ⟨e, k, es, hc⟩ => ⟨e, k, es, hR t e k es hc⟩
  have hk : Keeps (imOf w0.heap.size im0 bm rm (lk σ) w) w (imOf w0.heap.size im0 bm (fun t => rm (ρ t)) (lk σ') w) w := fun b hb =>
    ⟨⟨hb.1, hb.2.1, fun k hk => hb.2.2.1 k (iB k hk), fun t ht => hb.2.2.2 (ρ t) (iR t ht)⟩, rfl⟩
  refine ⟨h.base, h.size, h.defs.keep (by first | exact Nat.le_refl _ | exact hg.size | exact hbel.size | exact hw.size | exact hs | (simp; done) | omega) hk (fun _ _ => rfl), fun d v hv => leT_rep hk (h.slots d _ (hT d v hv)), fun k ty cs' hc => ?_, fun k o hc => ?_, fun t e k es hc => ?_, fun k k' hk1 hk2 => h.bb k k' (iB k hk1) (iB k' hk2), fun k t hk1 ht => h.br k (ρ t) (iB k hk1) (iR t ht), fun t t' g ht ht' h1 h2 => ?_, fun i k hk' => ?_, fun i t ht => ?_⟩
  · obtain ⟨cs, h1, h2⟩ := hB k ty cs' hc
    obtain ⟨us, hu, hr, hn⟩ := h.boxes k ty cs h1
    exact ⟨us, hu, leCs_rep hk h2 hr, hn⟩
  · obtain ⟨O, hu, hr, hn⟩ := h.objs k o (hO k o hc)
    exact ⟨O, hu, hr.keep hk, hn⟩
  · obtain ⟨xs, hx, hl, hr⟩ := h.rows (ρ t) e k es (hR t e k es hc)
    exact ⟨xs, hx, RepL.keep hk _ _ hl, hr⟩
  · have e1 := h.rr (ρ t) (ρ t') g (iR t ht) (iR t' ht') h1 h2
    obtain ⟨e, k, es, hc⟩ := ht
    obtain ⟨e', k', es', hc'⟩ := ht'
    have := injB_mem hinj hkeys (lk_mem hc (by simp)) (lk_mem hc' (by simp)) (by
      simp only [kR]
      rw [show (3 * t + 2 - 2) / 3 = t by omega, show (3 * t' + 2 - 2) / 3 = t' by omega]; exact e1)
    exact kR_inj this
  · cases hc : lk σ' i with
    | none => rw [hc] at hk'; simp [Cont.boxes] at hk'
    | _ =>
      have hm := lk_mem hc (by simp)
      rw [hc] at hk'
      simp only [shutB, List.all_eq_true, Bool.and_eq_true] at hshut
      exact lk_has hkeys ((hshut _ hm).1 k hk')
  · cases hc : lk σ' i with
    | none => rw [hc] at ht; simp [Cont.rows] at ht
    | _ =>
      have hm := lk_mem hc (by simp)
      rw [hc] at ht
      simp only [shutB, List.all_eq_true, Bool.and_eq_true] at hshut
      exact lk_has hkeys ((hshut _ hm).2 t ht)
theorem Rel.weak {ρ : Nat → Nat} {σ σ' : St} (hw : Weak ρ σ σ') (h : Rel w0 im0 N D (lk σ) a w) : Rel w0 im0 N D (lk σ') a w := by
  obtain ⟨bm, rm, h⟩ := h
  exact ⟨bm, _, h.weak hw⟩
theorem exists_least {p : Nat → Prop} (h : ∃ m, p m) : ∃ m, p m ∧ ∀ k, p k → m ≤ k := by
  obtain ⟨m, hm⟩ := h
  induction m using Nat.strongRecOn with
  | _ m ih =>
    by_cases hl : ∃ k, k < m ∧ p k
    · obtain ⟨k, hk, hp⟩ := hl
      exact ih k hk hp
    · exact ⟨m, hm, fun k hk => Nat.le_of_not_lt fun hlt => hl ⟨k, hlt, hk⟩⟩
theorem sem_loop {ι : Type} {c : Code} {Q : Exit → St → Prop} {σ : St} (I : ι → St) (Inv : ι → Prop) (μ : ι → Nat) (ρ : Nat → Nat) (i0 : ι) (ρ0 : Nat → Nat) (hw : Weak ρ0 σ (I i0)) (h0 : Inv i0)
    (round : ∀ i, Inv i → SemC P w0 im0 N D ro n c (fun e σ' => match e with
      | .normal => ∃ j, Inv j ∧ μ j < μ i ∧ Weak ρ σ' (I j)
      | e => Q e σ') (I i)) : SemC P w0 im0 N D ro n (.loop c) Q σ := by
  intro a w hr
  classical
  let p : Act → World → Nat → Prop := fun a w m => ∃ i, Inv i ∧ Rel w0 im0 N D (lk (I i)) a w ∧ μ i = m
  let M : Act → World → Nat := fun a w => if h : ∃ m, p a w m then (exists_least h).choose else 0
  have hM : ∀ {a w m}, p a w m → p a w (M a w) ∧ M a w ≤ m := fun {a w m} h => by
    have hex : ∃ m, p a w m := ⟨m, h⟩
    have := (exists_least hex).choose_spec
    simp only [M, dif_pos hex]
    exact ⟨this.1, this.2 m h⟩
  refine wpIn_loop (fun a w => ∃ m, p a w m) M ⟨_, i0, h0, hr.weak hw, rfl⟩ fun a w ⟨m, hm⟩ => ?_
  obtain ⟨⟨i, hi, hrel, hmi⟩, _⟩ := hM hm
  refine wpIn_mono (round i hi a w hrel) ?_
  rintro e a' w' ⟨σ', hq, hrel'⟩
  cases e with
  | normal =>
    obtain ⟨j, hj, hlt, hwk⟩ := hq
    have hp : p a' w' (μ j) := ⟨j, hj, hrel'.weak hwk, rfl⟩
    exact ⟨⟨_, hp⟩, by have := (hM hp).2; omega⟩
  | _ => exact ⟨σ', hq, hrel'⟩
theorem sem_of {X : Ctx} {c : Code} {Q : Exit → St → Prop} {σ : St} (har : X.ar = Ar.std) (hT : ∀ t, LayOK P t (X.T t)) (hm : P.follows .mixedOrders = true)
    (h : ∀ (S : Code → (Exit → St → Prop) → St → Prop) (Cl : FuncId → List PV → PV → Prop), (∀ c Q σ, SemC P w0 im0 X.N D ro n c Q σ → S c Q σ) → (∀ f a v, Can P f a v → Cl f a v) → acode X Cl S c Q σ) : SemC P w0 im0 X.N D ro n c Q σ :=
  acode_ok har hT hm c Q σ (h _ _ (fun _ _ _ h => h) fun _ _ _ h => h)
theorem RelAt.mkRow {L : Lk} (h : RelAt w0 im0 N D bm rm L a w) {d t : Nat} (e : TypeId) (k : Nat) (hd : L (kT d) = .t (.c (.p .nil))) (ht : L (kR t) = .none) :
    RelAt w0 im0 N D bm (updN rm t (.slice none 0 0)) (ovr [(kT d, .t (.c (.row t))), (kR t, .row e k []), (kR t, .dead)] L) a w := by
  have hnew := h.newRow (d := t) (r := t) (e := e) (k := k) (es := []) (v := .slice none 0 0) (xs := []) (row := none) ht ⟨rfl, rfl, rfl, Nat.le_refl _, fun _ _ _ => rfl⟩ (by simp) (World.ownsRow_nil w _ e k) (by simp [Value.ownBlock]) (by simp [RepL]) (by simp)
  have hs : a.tmps.getD d undef = .slice none 0 0 := h.slots d _ hd
  have := hnew.see (d := d) (u := .slice none 0 0) (v := .c (.row t)) hs ⟨by rw [updN_same], _, _, _, rfl⟩ (by simp [TV.boxes, CV.boxes]) (fun q hq => by
    simp only [TV.rows, CV.rows, List.mem_singleton] at hq
    subst hq
    rw [ovr_cons, ovrR_R, if_pos rfl]; simp)
  rwa [ovr_cons]
theorem sem_mkRow {c : Code} {Q : Exit → St → Prop} {σ : St} (d t : Nat) (e : TypeId) (k : Nat) (hd : lk σ (kT d) = .t (.c (.p .nil))) (ht : lk σ (kR t) = .none)
    (h : SemC P w0 im0 N D ro n c Q ((kT d, .t (.c (.row t))) :: (kR t, .row e k []) :: (kR t, .dead) :: σ)) : SemC P w0 im0 N D ro n c Q σ := fun a w ⟨bm, rm, hr⟩ =>
  h a w ⟨bm, _, by rw [lk_cons, lk_cons, lk_cons]; exact hr.mkRow e k hd ht⟩
end
theorem wrap_fits {n : Int} (h1 : -9223372036854775808 ≤ n) (h2 : n ≤ 9223372036854775807) : IntKind.i64.wrap n = n := by
  rw [IntKind.wrap_i64]; omega
structure Facts (ai : BinOp → Int → Int → Int) (ab : BinOp → Int → Int → Bool) (nz : Int → Bool) (inr : Nat → Int → Bool) (fi : List Int → Int → Int) (pk : List CV → Int → Option CV)
    (ix : List (List PV) → Int → Option (List PV)) (ln : List (List PV) → Int) (sb : BinOp → ByteArray → ByteArray → Bool) (eqi : List PV → List PV → Bool) (sl : List (List PV) → Int → Int → Option (List (List PV)))
    (fits : Nat → List (List PV) → List (List PV) → Bool) (mn mx : Int → Int → Int) (nt : Bool → Bool) (be : BinOp → Bool → Bool → Bool) (up : List (List PV) → Int → List PV → List (List PV)) (fu : Int → Nat → Int → Int → Int) (mg : Nat → List (List PV) → List PV → List PV → List PV) (mh : Nat → List (List PV) → List PV → Bool) (ms : Nat → List (List PV) → List PV → List PV → List (List PV)) : Prop where
  add : ∀ x y : Int, -9223372036854775808 ≤ x + y → x + y ≤ 9223372036854775807 → ai .add x y = x + y
  sub : ∀ x y : Int, -9223372036854775808 ≤ x - y → x - y ≤ 9223372036854775807 → ai .sub x y = x - y
  mul : ∀ x y : Int, -9223372036854775808 ≤ x * y → x * y ≤ 9223372036854775807 → ai .mul x y = x * y
  quo : ∀ x y : Int, -9223372036854775808 ≤ x.tdiv y → x.tdiv y ≤ 9223372036854775807 → ai .quo x y = x.tdiv y
  rem : ∀ x y : Int, ai .rem x y = x.tmod y
  eql : ∀ x y : Int, ab .eql x y = (x == y)
  neq : ∀ x y : Int, ab .neq x y = (x != y)
  lss : ∀ x y : Int, ab .lss x y = decide (x < y)
  leq : ∀ x y : Int, ab .leq x y = decide (x ≤ y)
  gtr : ∀ x y : Int, ab .gtr x y = decide (x > y)
  geq : ∀ x y : Int, ab .geq x y = decide (x ≥ y)
  nz : ∀ x : Int, x ≠ 0 → nz x = true
  inr : ∀ (n : Nat) (i : Int), 0 ≤ i → i < n → inr n i = true
  fi : ∀ (l : List Int) (i : Int), fi l i = l.getD i.toNat 0
  pk : ∀ (l : List CV) (i : Int) (k : Nat), i = k → pk l i = l[k]?
  ix : ∀ (l : List (List PV)) (i : Int) (k : Nat), i = k → ix l i = l[k]?
  ln : ∀ l : List (List PV), ln l = l.length
  mn : ∀ x y : Int, mn x y = min x y
  mx : ∀ x y : Int, mx x y = max x y
  nt : ∀ b, nt b = !b
  eqi : ∀ x y : List PV, eqi x y = eqPs x y
  sl : ∀ (l : List (List PV)) (i j : Int) (a b : Nat), i = a → j = b → a ≤ b → b ≤ l.length → sl l i j = some ((l.drop a).take (b - a))
  up : ∀ (l : List (List PV)) (i : Int) (k : Nat) (e : List PV), i = k → up l i e = l.set k e
  fu : ∀ (i : Int) (j : Nat) (x y : Int), fu i j x y = if i = j then x else y
  be : ∀ a b, be .eql a b = (a == b) ∧ be .neq a b = !(a == b)
  mg : ∀ (n : Nat) (es : List (List PV)) (key vz : List PV), mg n es key vz = mGet n es key vz
  mh : ∀ (n : Nat) (es : List (List PV)) (key : List PV), mh n es key = (mFind n key es).isSome
  ms : ∀ (n : Nat) (es : List (List PV)) (key v : List PV), ms n es key v = mSet n es key v
  fits : ∀ (b : Nat) (x y : List (List PV)), (x.length + y.length) * (b + 1) ≤ 1000000000000 → fits b x y = true
  uw : ∀ x : Int, 0 ≤ x → x ≤ 18446744073709551615 → ai .andNot x 0 = x
  iw : ∀ x : Int, -9223372036854775808 ≤ x → x ≤ 9223372036854775807 → ai .xor x 0 = x
  shr1 : ∀ x : Int, 0 ≤ x → ai .shr x 1 = x / 2
  addw : ∀ x y : Int, ai .add x y = IntKind.i64.wrap (x + y)
  mulw : ∀ x y : Int, ai .mul x y = IntKind.i64.wrap (x * y)
theorem facts_of {ai ab nz inr fi pk ix ln sb eqi sl fits mn mx nt be up fu mg mh ms} (h : Ar.mk ai ab nz inr fi pk ix ln sb eqi sl fits mn mx nt be up fu mg mh ms = Ar.std) : Facts ai ab nz inr fi pk ix ln sb eqi sl fits mn mx nt be up fu mg mh ms := by
  simp only [Ar.std, Ar.mk.injEq] at h
  obtain ⟨rfl, rfl, rfl, rfl, rfl, rfl, rfl, rfl, rfl, rfl, rfl, rfl, rfl, rfl, rfl, rfl, rfl, rfl, rfl, rfl, rfl⟩ := h
  refine ⟨fun x y h1 h2 => wrap_fits h1 h2, fun x y h1 h2 => wrap_fits h1 h2, fun x y h1 h2 => wrap_fits h1 h2, fun x y h1 h2 => wrap_fits h1 h2, fun _ _ => rfl, fun _ _ => rfl, fun _ _ => rfl, fun _ _ => rfl, fun _ _ => rfl, fun _ _ => rfl, fun _ _ => rfl,
    fun x h => by simpa using h, fun n i h1 h2 => by simp [h1, h2], fun _ _ => rfl, fun l i k h => by subst h; simp, fun l i k h => by subst h; simp, fun _ => rfl, fun x y => ?_, fun x y => ?_, fun _ => rfl, fun _ _ => rfl, fun l i j a b hi hj h1 h2 => ?_, fun l i k e h => by subst h; simp, fun _ _ _ _ => rfl, fun _ _ => ⟨rfl, rfl⟩, fun _ _ _ _ => rfl, fun _ _ _ => rfl, fun _ _ _ _ => rfl, fun b x y h => by simpa using h, fun x h1 h2 => IntWalk.u64_in x ⟨h1, h2⟩, fun x h1 h2 => wrap_fits h1 h2, fun x h => by show x.fdiv (2 ^ 1) = _; rw [Int.fdiv_eq_ediv_of_nonneg _ (by decide)]; rfl, fun _ _ => rfl, fun _ _ => rfl⟩
  · show (if y < x then y else x) = min x y
    split <;> omega
  · show (if y > x then y else x) = max x y
    split <;> omega
  · subst hi; subst hj
    show (if _ then _ else _) = _
    rw [if_pos (by omega)]
    simp
def sI (d : Nat) (n : Int) : Nat × Cont := (kT d, .t (.c (.p (.int .i64 n))))
def sB (d : Nat) (b : Bool) : Nat × Cont := (kT d, .t (.c (.p (.bool b))))
def sL (d k : Nat) (es : List (List PV)) : Nat × Cont := (kT d, .t (.c (.p (.list k es))))
def sV (d : Nat) (v : PV) : Nat × Cont := (kT d, .t (TV.ofPV v))
def sP (d k : Nat) : Nat × Cont := (kT d, .t (.c (.ptr k 0)))
def sR (d t : Nat) : Nat × Cont := (kT d, .t (.c (.row t)))
def bX (k ty : Nat) (cs : List CV) : Nat × Cont := (kB k, .box ty cs)
def rW (t e k : Nat) (es : List (List PV)) : Nat × Cont := (kR t, .row e k es)
def cI (n : Int) : CV := .p (.int .i64 n)
def cL (k : Nat) (es : List (List PV)) : CV := .p (.list k es)
def rowP (x : List Int) : List PV := x.map (PV.int .i64)
theorem list7P {x : List Int} (h : x.length = 7) : ∃ a b c d e f g, x = [a, b, c, d, e, f, g] := by
  match x, h with
  | [a, b, c, d, e, f, g], _ => exact ⟨a, b, c, d, e, f, g, rfl⟩
theorem get_rows {T : List (List Int)} {k : Nat} (h : k < T.length) : (T.map rowP)[k]? = some (rowP T[k]) := by simp [h]
theorem take_last {α : Type} {T : List α} {k : Nat} (h : k < T.length) : T.take (k + 1) = T.take k ++ [T[k]] := List.take_succ_eq_append_getElem h
set_option maxRecDepth 100000
def tab : List (TypeId × Lay) := [
  (2, .sc (.int .i64 0)),
  (3, .sc (.int .i64 0)),
  (4, .sc (.bool false)),
  (5, .sc (.int .u8 0)),
  (9, .sc (.str ⟨#[]⟩)),
  (21, .sc (.int .i32 0)),
  (22, .sl 66 6 48 true [.int .i64 0, .int .i64 0, .int .i64 0, .int .i64 0, .int .i64 0, .int .i64 0]),
  (23, .sl 71 7 56 true [.int .i64 0, .int .i64 0, .int .i64 0, .int .i64 0, .int .i64 0, .int .i64 0, .int .i64 0]),
  (24, .st false [(0, 1, false), (1, 1, false), (2, 1, false)] [.nil, .nil, .nil]),
  (25, .st false [(0, 1, false), (1, 1, false), (2, 1, false)] [.nil, .nil, .nil]),
  (26, .arr true 4 1 false [.int .i64 0, .int .i64 0, .int .i64 0, .int .i64 0]),
  (28, .sl 70 24 192 true [.int .i64 0, .int .i64 0, .int .i64 0, .int .i64 0, .int .i64 0, .int .i64 0, .int .i64 0, .int .i64 0, .int .i64 0, .int .i64 0, .int .i64 0, .int .i64 0, .int .i64 0, .int .i64 0, .int .i64 0, .int .i64 0, .int .i64 0, .int .i64 0, .int .i64 0, .int .i64 0, .int .i64 0, .int .i64 0, .int .i64 0, .int .i64 0]),
  (29, .sl 35 9 72 true [.int .i64 0, .int .i64 0, .int .i64 0, .int .i64 0, .int .i64 0, .int .i64 0, .int .i64 0, .int .i64 0, .int .i64 0]),
  (30, .sl 49 7 56 true [.int .i64 0, .int .i64 0, .int .i64 0, .int .i64 0, .int .i64 0, .int .i64 0, .int .i64 0]),
  (31, .st false [(0, 1, false), (1, 1, false), (2, 1, false)] [.nil, .nil, .nil]),
  (32, .st false [(0, 1, false), (1, 1, false), (2, 1, false)] [.nil, .nil, .nil]),
  (34, .st true [(0, 1, false), (1, 1, false), (2, 1, false), (3, 1, false), (4, 1, false), (5, 1, false), (6, 1, false), (7, 1, false), (8, 1, false)] [.int .i64 0, .int .i64 0, .int .i64 0, .int .i64 0, .int .i64 0, .int .i64 0, .int .i64 0, .int .i64 0, .int .i64 0]),
  (35, .st true [(0, 1, false), (1, 1, false), (2, 1, false), (3, 1, false), (4, 1, false), (5, 1, false), (6, 1, false), (7, 1, false), (8, 1, false)] [.int .i64 0, .int .i64 0, .int .i64 0, .int .i64 0, .int .i64 0, .int .i64 0, .int .i64 0, .int .i64 0, .int .i64 0]),
  (37, .st true [(0, 1, false), (1, 1, false), (2, 1, false), (3, 1, false)] [.int .i64 0, .int .i64 0, .int .i64 0, .int .i64 0]),
  (38, .st true [(0, 1, false), (1, 1, false), (2, 1, false), (3, 1, false)] [.int .i64 0, .int .i64 0, .int .i64 0, .int .i64 0]),
  (39, .sc (.int .i64 0)),
  (42, .st true [(0, 1, false), (1, 1, false), (2, 1, false)] [.int .i64 0, .int .i64 0, .int .i64 0]),
  (43, .st true [(0, 1, false), (1, 1, false), (2, 1, false)] [.int .i64 0, .int .i64 0, .int .i64 0]),
  (48, .st true [(0, 1, false), (1, 1, false), (2, 1, false), (3, 1, false), (4, 1, false), (5, 1, false), (6, 1, false)] [.int .i64 0, .int .i64 0, .int .i64 0, .int .i64 0, .int .i64 0, .int .i64 0, .int .i64 0]),
  (49, .st true [(0, 1, false), (1, 1, false), (2, 1, false), (3, 1, false), (4, 1, false), (5, 1, false), (6, 1, false)] [.int .i64 0, .int .i64 0, .int .i64 0, .int .i64 0, .int .i64 0, .int .i64 0, .int .i64 0]),
  (51, .st true [(0, 1, false), (1, 1, false), (2, 1, false), (3, 1, false)] [.int .i64 0, .int .i64 0, .int .i64 0, .int .i64 0]),
  (52, .st true [(0, 1, false), (1, 1, false), (2, 1, false), (3, 1, false)] [.int .i64 0, .int .i64 0, .int .i64 0, .int .i64 0]),
  (57, .sl 65 5 40 true [.int .i64 0, .int .i64 0, .int .i64 0, .int .i64 0, .int .i64 0]),
  (60, .sl 3 1 8 false [.int .i64 0]),
  (64, .st true [(0, 1, false), (1, 1, false), (2, 1, false), (3, 1, false), (4, 1, false)] [.int .i64 0, .int .i64 0, .int .i64 0, .int .i64 0, .int .i64 0]),
  (65, .st true [(0, 1, false), (1, 1, false), (2, 1, false), (3, 1, false), (4, 1, false)] [.int .i64 0, .int .i64 0, .int .i64 0, .int .i64 0, .int .i64 0]),
  (66, .arr true 6 1 false [.int .i64 0, .int .i64 0, .int .i64 0, .int .i64 0, .int .i64 0, .int .i64 0]),
  (67, .arr true 10 1 false [.int .i64 0, .int .i64 0, .int .i64 0, .int .i64 0, .int .i64 0, .int .i64 0, .int .i64 0, .int .i64 0, .int .i64 0, .int .i64 0]),
  (68, .arr true 10 1 false [.int .i64 0, .int .i64 0, .int .i64 0, .int .i64 0, .int .i64 0, .int .i64 0, .int .i64 0, .int .i64 0, .int .i64 0, .int .i64 0]),
  (69, .st true [(0, 1, false), (1, 10, true), (11, 10, true), (21, 1, false), (22, 1, false), (23, 1, false)] [.int .i64 0, .int .i64 0, .int .i64 0, .int .i64 0, .int .i64 0, .int .i64 0, .int .i64 0, .int .i64 0, .int .i64 0, .int .i64 0, .int .i64 0, .int .i64 0, .int .i64 0, .int .i64 0, .int .i64 0, .int .i64 0, .int .i64 0, .int .i64 0, .int .i64 0, .int .i64 0, .int .i64 0, .int .i64 0, .int .i64 0, .int .i64 0]),
  (70, .st true [(0, 1, false), (1, 10, true), (11, 10, true), (21, 1, false), (22, 1, false), (23, 1, false)] [.int .i64 0, .int .i64 0, .int .i64 0, .int .i64 0, .int .i64 0, .int .i64 0, .int .i64 0, .int .i64 0, .int .i64 0, .int .i64 0, .int .i64 0, .int .i64 0, .int .i64 0, .int .i64 0, .int .i64 0, .int .i64 0, .int .i64 0, .int .i64 0, .int .i64 0, .int .i64 0, .int .i64 0, .int .i64 0, .int .i64 0, .int .i64 0]),
  (71, .arr true 7 1 false [.int .i64 0, .int .i64 0, .int .i64 0, .int .i64 0, .int .i64 0, .int .i64 0, .int .i64 0]),
  (72, .st false [(0, 9, true), (9, 1, false), (10, 1, false), (11, 1, false), (12, 4, true)] [.int .i64 0, .int .i64 0, .int .i64 0, .int .i64 0, .int .i64 0, .int .i64 0, .int .i64 0, .int .i64 0, .int .i64 0, .nil, .nil, .int .i64 0, .int .i64 0, .int .i64 0, .int .i64 0, .int .i64 0]),
  (73, .st false [(0, 9, true), (9, 1, false), (10, 1, false), (11, 1, false), (12, 4, true)] [.int .i64 0, .int .i64 0, .int .i64 0, .int .i64 0, .int .i64 0, .int .i64 0, .int .i64 0, .int .i64 0, .int .i64 0, .nil, .nil, .int .i64 0, .int .i64 0, .int .i64 0, .int .i64 0, .int .i64 0]),
  (87, .mp 122 3 true false [.int .i64 0, .int .i64 0, .int .i64 0] [.int .i64 0]),
  (91, .sl 73 16 160 true [.int .i64 0, .int .i64 0, .int .i64 0, .int .i64 0, .int .i64 0, .int .i64 0, .int .i64 0, .int .i64 0, .int .i64 0, .nil, .nil, .int .i64 0, .int .i64 0, .int .i64 0, .int .i64 0, .int .i64 0]),
  (100, .sl 39 1 8 false [.int .i64 0]),
  (113, .sc (.int .u64 0)),
  (121, .st true [(0, 1, false), (1, 1, false), (2, 1, false)] [.int .i64 0, .int .i64 0, .int .i64 0]),
  (122, .st true [(0, 1, false), (1, 1, false), (2, 1, false)] [.int .i64 0, .int .i64 0, .int .i64 0]),
  (128, .sc (.nilf)),
  (133, .sl 87 1 8 false [.nilm]),
  (138, .arr true 5 1 false [.bool false, .bool false, .bool false, .bool false, .bool false]),
  (140, .sc (.nilf)),
  (148, .sc (.int .i64 0)),
  (155, .sc (.int .u32 0)),
  (157, .sc (.int .u64 0)),
  (158, .sc (.int .u64 0)),
  (162, .sc (.nilp)),
  (164, .sc (.nilp)),
  (167, .st false [(0, 1, false), (1, 1, false), (2, 1, false), (3, 1, false)] [.nilp, .nilp, .nilp, .str ⟨#[]⟩]),
  (168, .st false [(0, 1, false), (1, 1, false), (2, 1, false), (3, 1, false)] [.nilp, .nilp, .nilp, .str ⟨#[]⟩]),
  (169, .arr false 0 1 false []),
  (170, .st false [(0, 0, true)] []),
  (171, .st false [(0, 0, true)] []),
  (172, .sc (.int .u8 0)),
  (173, .sc (.int .u8 0)),
  (175, .sc (.nilp)),
  (176, .sc (.int .i32 0)),
  (177, .sc (.int .i32 0)),
  (178, .st false [(0, 1, false), (1, 1, false), (2, 1, false), (3, 1, false), (4, 1, false), (5, 1, false), (6, 1, false), (7, 1, false), (8, 1, false), (9, 1, false), (10, 1, false)] [.int .u64 0, .int .u64 0, .int .u32 0, .int .u8 0, .int .u8 0, .int .u8 0, .int .u8 0, .nilf, .nilp, .int .i32 0, .int .i32 0]),
  (179, .st false [(0, 1, false), (1, 1, false), (2, 1, false), (3, 1, false), (4, 1, false), (5, 1, false), (6, 1, false), (7, 1, false), (8, 1, false), (9, 1, false), (10, 1, false)] [.int .u64 0, .int .u64 0, .int .u32 0, .int .u8 0, .int .u8 0, .int .u8 0, .int .u8 0, .nilf, .nilp, .int .i32 0, .int .i32 0])]
theorem tab_ok : tabB Try.prog tab = true := by kernel_rfl
def TT : TypeId → Lay := tabF tab
theorem hTT (t : TypeId) : LayOK Try.prog t (TT t) := tabF_ok tab_ok t
def inPl : List FuncId := [74, 75, 25, 24, 55, 56, 57]
theorem mixed : Try.prog.follows .mixedOrders = true := by kernel_rfl
section
variable {P : Program} {w0 : World} {im0 : Nat → Prop} {N : NN} {D : Env} {ro : Option Nat} {n : Nat}
theorem sem_loopR {ι : Type} {c : Code} {Q : Exit → St → Prop} {σ : St} (I : ι → St) (Inv : ι → Prop) (μ : ι → Nat) (i0 : ι) (ρ0 : Nat → Nat) (hw : Weak ρ0 σ (I i0)) (h0 : Inv i0)
    (round : ∀ i, Inv i → SemC P w0 im0 N D ro n c (fun e σ' => match e with
      | .normal => ∃ j ρ, Inv j ∧ μ j < μ i ∧ Weak ρ σ' (I j)
      | e => Q e σ') (I i)) : SemC P w0 im0 N D ro n (.loop c) Q σ := by
  intro a w hr
  classical
  let p : Act → World → Nat → Prop := fun a w m => ∃ i, Inv i ∧ Rel w0 im0 N D (lk (I i)) a w ∧ μ i = m
  let M : Act → World → Nat := fun a w => if h : ∃ m, p a w m then (exists_least h).choose else 0
  have hM : ∀ {a w m}, p a w m → p a w (M a w) ∧ M a w ≤ m := fun {a w m} h => by
    have hex : ∃ m, p a w m := ⟨m, h⟩
    have := (exists_least hex).choose_spec
    simp only [M, dif_pos hex]
    exact ⟨this.1, this.2 m h⟩
  refine wpIn_loop (fun a w => ∃ m, p a w m) M ⟨_, i0, h0, hr.weak hw, rfl⟩ fun a w ⟨m, hm⟩ => ?_
  obtain ⟨⟨i, hi, hrel, hmi⟩, _⟩ := hM hm
  refine wpIn_mono (round i hi a w hrel) ?_
  rintro e a' w' ⟨σ', hq, hrel'⟩
  cases e with
  | normal =>
    obtain ⟨j, ρ, hj, hlt, hwk⟩ := hq
    have hp : p a' w' (μ j) := ⟨j, hj, hrel'.weak hwk, rfl⟩
    exact ⟨⟨_, hp⟩, by have := (hM hp).2; omega⟩
  | _ => exact ⟨σ', hq, hrel'⟩
end
end Go.Proofs.Ytjimjdhdnkhfnaa

namespace Go.Proofs.Ytjimjdhdnkhfnaa
open Go Go.RowKit
section
variable {P : Program} {w0 : World} {im0 : Nat → Prop} {N : NN} {D : Env} {ro : Option Nat} {n : Nat} {bm : Nat → Nat} {rm : Nat → Value} {a : Act} {w : World} {L : Lk} {im : Nat → Prop}
theorem RepVs.setAt {c : CV} : ∀ {cs : List CV} {us : List Value} (i : Nat), RepVs bm rm im w cs us → (∀ u, us[i]? = some u → RepV bm rm im w c u) → RepVs bm rm im w (cs.set i c) us
  | [], us, i, h, _ => by simpa using h
  | p :: cs, us, i, h, hc => by
    simp only [RepVs] at h
    obtain ⟨x, xs, rfl, h1, h2⟩ := h
    cases i with
    | zero => exact ⟨x, xs, rfl, hc x rfl, h2⟩
    | succ i => exact ⟨x, xs, rfl, h1, RepVs.setAt i h2 fun u hu => hc u (by simpa using hu)⟩
theorem flatMap_set {α β : Type} {f : α → List β} {c : α} {b : β} : ∀ {l : List α} {i : Nat}, b ∈ (l.set i c).flatMap f → b ∈ l.flatMap f ∨ b ∈ f c
  | [], i, h => by simp at h
  | x :: l, 0, h => by
    simp only [List.set_cons_zero, List.flatMap_cons, List.mem_append] at h ⊢
    rcases h with h | h
    · exact .inr h
    · exact .inl (.inr h)
  | x :: l, i + 1, h => by
    simp only [List.set_cons_succ, List.flatMap_cons, List.mem_append] at h ⊢
    rcases h with h | h
    · exact .inl (.inl h)
    · rcases flatMap_set h with h | h
      · exact .inl (.inr h)
      · exact .inr h
theorem RelAt.mkRowB (h : RelAt w0 im0 N D bm rm L a w) {k t ty : Nat} {cs : List CV} (i : Nat) (e : TypeId) (q : Nat) (hb : L (kB k) = .box ty cs) (hi : cs[i]? = some (.p .nil)) (ht : L (kR t) = .none) :
    RelAt w0 im0 N D bm (updN rm t (.slice none 0 0)) (ovr [(kB k, .box ty (cs.set i (.row t))), (kR t, .row e q []), (kR t, .dead)] L) a w := by
  have hnew := h.newRow (d := t) (r := t) (e := e) (k := q) (es := []) (v := .slice none 0 0) (xs := []) (row := none) ht ⟨rfl, rfl, rfl, Nat.le_refl _, fun _ _ _ => rfl⟩ (by simp) (World.ownsRow_nil w _ e q) (by simp [Value.ownBlock]) (by simp [RepL]) (by simp)
  have hb' : ovr [(kR t, .row e q []), (kR t, .dead)] L (kB k) = .box ty cs := by rw [ovr_cons, ovrR_B, ovrR_B]; exact hb
  obtain ⟨us, hus, hrep, hn⟩ := hnew.boxes k ty cs hb'
  have hw := hnew.wfb (kB k)
  have hv := hnew.wfr (kB k)
  rw [hb'] at hw hv
  rw [ovr_cons]
  refine hnew.setBox hb' (us := us) (RepVs.setAt i hrep fun u hu => ?_) (fun k' hk' => ?_) (fun t' ht' => ?_) rfl rfl rfl rfl hus (fun _ _ => rfl)
  · obtain ⟨u', hu', hr⟩ := hrep.get hi
    rw [hu] at hu'
    obtain rfl : u = u' := by simpa using hu'
    have hr : u = .slice none 0 0 := by simpa only [RepV, RepP] using hr
    exact ⟨by rw [updN_same, hr], _, _, _, hr⟩
  · rcases flatMap_set hk' with h' | h'
    · exact hw k' h'
    · simp [CV.boxes] at h'
  · rcases flatMap_set ht' with h' | h'
    · exact hv t' h'
    · simp only [CV.rows, List.mem_singleton] at h'
      subst h'
      rw [ovr_cons, ovrR_R, if_pos rfl]; simp
theorem sem_mkRowB {c : Code} {Q : Exit → St → Prop} {σ : St} (k t : Nat) (e : TypeId) (q i ty : Nat) (cs : List CV) (hd : lk σ (kB k) = .box ty cs) (hi : cs[i]? = some (.p .nil)) (ht : lk σ (kR t) = .none)
    (h : SemC P w0 im0 N D ro n c Q ((kB k, .box ty (cs.set i (.row t))) :: (kR t, .row e q []) :: (kR t, .dead) :: σ)) : SemC P w0 im0 N D ro n c Q σ := fun a w ⟨bm, rm, hr⟩ =>
  h a w ⟨bm, _, by rw [lk_cons, lk_cons, lk_cons]; exact hr.mkRowB i e q hd hi ht⟩
end
section
variable {P : Program} {w0 : World} {im0 : Nat → Prop} {N : NN} {D : Env} {ro : Option Nat} {n : Nat} {bm : Nat → Nat} {rm : Nat → Value} {a : Act} {w : World} {L : Lk} {im : Nat → Prop}
theorem sem_scope {c : Code} {Q : Exit → St → Prop} {σ : St} (h : SemC P w0 im0 N D none n c (fun e σ' => match e with
    | .goto _ => False
    | e => Q e σ') σ) : SemC P w0 im0 N D none n (.scope c) Q σ := fun a w hr => by
  refine wpIn_wide.2 (wp_scope_straight (wpIn_wide.1 (wpIn_mono (h a w hr) ?_)))
  rintro e a' w' ⟨σ', hq, hr'⟩
  cases e with
  | goto l => exact hq.elim
  | _ => exact ⟨σ', hq, hr'⟩
theorem sem_next {id : Nat} {o1 o2 : Oper} {s d1 d2 : Nat} {Q : Exit → St → Prop} {σ : St} {ka va : Bool} {kz : List PV} {left cur : List (List PV)} (k : Nat) (h1 : o1.op = .next (.tmp s) false) (h2 : o1.dst = some d1) (h3 : o1.guard = none)
    (h4 : o2.op = .extract (.tmp d1) 0) (h5 : o2.dst = some d2) (h6 : o2.guard = none) (hN1 : okS N d1 = true) (hN2 : okS N d2 = true)
    (hs : lk σ (kT s) = .t (.c (.ptr k 0))) (hk : lk σ (kB k) = .obj (.iter ka va kz left cur))
    (hend : left = [] → Q .normal ((kT d2, .t (.c (.p (.bool false)))) :: (kT d1, .t (.c .unk)) :: σ))
    (hstep : ∀ (i : Nat) (e : List PV), left[i]? = some e → Q .normal ((kT d2, .t (.c (.p (.bool true)))) :: (kT d1, .t (.c .unk)) :: (kB k, .obj (.iter ka va kz (left.eraseIdx i) [e])) :: σ)) :
    SemC P w0 im0 N D ro n (.region id #[o1, o2] false) Q σ := fun a w ⟨bm, rm, hr⟩ => by
  have hx : a.eval (.tmp s) = .pointer (some ⟨bm k, 0, none⟩) := hr.slots s _ hs
  refine wpIn_region ?_
  have e1 : (#[o1, o2] : Array Oper)[0]? = some o1 := rfl
  have e2 : (#[o1, o2] : Array Oper)[1]? = some o2 := rfl
  have second : ∀ (σ' : St) (b : Bool) (a' : Act) (w' : World) (bm' : Nat → Nat) (rm' : Nat → Value), RelAt w0 im0 N D bm' rm' (lk σ') a' w' → (∃ vs : Array Value, a'.tmps.getD d1 undef = .tuple vs ∧ vs[0]? = some (.bool b)) →
      Q .normal ((kT d2, .t (.c (.p (.bool b)))) :: σ') → wpOpsIn (FW ro) n P #[o1, o2] (fun e a w => ∃ σ', Q e σ' ∧ Rel w0 im0 N D (lk σ') a w) [1] a' w' := by
    intro σ' b a' w' bm' rm' hr' ⟨vs, hv, hv0⟩ hq
    rw [wpOpsIn_cons]
    unfold wpOpIn
    simp only [e2]
    rw [if_pos (by simp [Region.wanted, h6])]
    have hev : a'.eval (.tmp d1) = .tuple vs := hv
    refine res_wpIn (w0 := w0) (im0 := im0) (N := N) (D := D) (L' := ovr [(kT d2, .t (.c (.p (.bool b))))] (lk σ')) (by simp [h4]) ⟨w', .inl ⟨.bool b, ?_, ?_⟩⟩ fun a2 w2 hr2 => ?_
    · simp only [execOp, h4, hev, Instr.extract, Sem.run_bind]
      simp [hv0]
    · rw [h5]
      exact ⟨bm', rm', hr'.put hN2 (v := .c (.p (.bool b))) (by simp [RepT, RepV, RepP]) (by simp [TV.boxes, CV.boxes]) (by simp [TV.rows, CV.rows])⟩
    · exact ⟨_, hq, by rw [show lk ((kT d2, .t (.c (.p (.bool b)))) :: σ') = ovr [(kT d2, .t (.c (.p (.bool b))))] (lk σ') from lk_cons _ _]; exact hr2⟩
  rw [show List.range (#[o1, o2] : Array Oper).size = [0, 1] from rfl, wpOpsIn_cons]
  unfold wpOpIn
  simp only [e1]
  rw [if_pos (by simp [Region.wanted, h3])]
  have hget : ∀ (a : Act) (v : Value), a.tmps.size = N.hi → (a.put (some d1) v).tmps.getD d1 undef = v := fun a v hs => by
    simp [Act.put, hs, okS_lt hN1]
  refine ⟨fenceW_about ro o1 w a, ?_⟩
  rw [Oper.semAt_eq _ _ _ (by simp [h1])]
  rcases next_run (P := P) hr hk o1.type with ⟨hl, hrun⟩ | ⟨i, e, v1, v2, w', hi, hrun, hr'⟩
  · have hex : (execOp a.eval o1).run P w = .ok (.value (.tuple #[.bool false])) w := by
      simp only [execOp, h1, hx, Sem.run_bind, hrun, Result.andThen_ok, Sem.run_pure]
    rw [hex]
    have hfin := second _ false (a.put (some d1) (.tuple #[.bool false])) w bm rm (by
      rw [show lk ((kT d1, .t (.c .unk)) :: σ) = ovr [(kT d1, .t (.c .unk))] (lk σ) from lk_cons _ _]
      exact hr.put hN1 (v := .c .unk) trivial (by simp [TV.boxes, CV.boxes]) (by simp [TV.rows, CV.rows])) ⟨#[.bool false], hget a _ hr.size, rfl⟩ (hend hl)
    rw [← h2] at hfin
    exact hfin
  · have hex : (execOp a.eval o1).run P w = .ok (.value (.tuple #[.bool true, v1, v2])) w' := by
      simp only [execOp, h1, hx, Sem.run_bind, hrun, Result.andThen_ok, Sem.run_pure]
    rw [hex]
    have hfin := second _ true (a.put (some d1) (.tuple #[.bool true, v1, v2])) w' bm rm (by
      rw [show lk ((kT d1, .t (.c .unk)) :: (kB k, .obj (.iter ka va kz (left.eraseIdx i) [e])) :: σ) = ovr [(kT d1, .t (.c .unk))] (ovr [(kB k, .obj (.iter ka va kz (left.eraseIdx i) [e]))] (lk σ)) by
        rw [show lk ((kT d1, .t (.c .unk)) :: (kB k, .obj (.iter ka va kz (left.eraseIdx i) [e])) :: σ) = ovr [(kT d1, .t (.c .unk))] (lk ((kB k, .obj (.iter ka va kz (left.eraseIdx i) [e])) :: σ)) from lk_cons _ _]
        rw [show lk ((kB k, .obj (.iter ka va kz (left.eraseIdx i) [e])) :: σ) = ovr [(kB k, .obj (.iter ka va kz (left.eraseIdx i) [e]))] (lk σ) from lk_cons _ _]]
      exact hr'.put hN1 (v := .c .unk) trivial (by simp [TV.boxes, CV.boxes]) (by simp [TV.rows, CV.rows])) ⟨#[.bool true, v1, v2], hget a _ hr'.size, rfl⟩ (hstep i e hi)
    rw [← h2] at hfin
    exact hfin
def Yields (P : Program) (f : FuncId) (caps : List PV) (xs : List (List PV)) : Prop :=
  (∀ us w, (callFunc f us).run P w = .ok (.enter f us) w) ∧
  ∀ (w : World) (im : Nat → Prop) (lb : List Value), (∀ b, im b → Plain w b) → RepL im w caps lb → ∀ (n l : Nat) (J Jx : Nat → World → Prop), 3 ≤ n →
    (∀ k A A', J k A → Below A.heap.size A A' → J k A') → (∀ k A, J k A → Keeps im w im A) →
    (∀ k A (args : Array Value) x, xs[k]? = some x → J k A → RepL im A x args.toList → YieldAt Fence.wide (n - 1) P l args A fun e A' => (e = .returned (.bool true) ∧ J (k + 1) A') ∨ (e = .returned (.bool false) ∧ Jx (k + 1) A')) →
    J 0 w → CallsIn Fence.wide n P f (#[.func (.yield l) #[] #[]] ++ lb.toArray) w fun e W' => (∃ v, e = .returned v) ∧ (J xs.length W' ∨ ∃ k, k ≤ xs.length ∧ Jx k W')
def slotsB (m : Nat) (σ : St) : Bool := σ.all fun x => match x.2 with
  | .t _ => Nat.blt x.1 (3 * m)
  | _ => true
theorem slotsB_lt {m : Nat} {σ : St} (h : slotsB m σ = true) {d : Nat} {v : TV} (hd : lk σ (kT d) = .t v) : d < m := by
  have := lk_mem hd (by simp)
  simp only [slotsB, List.all_eq_true] at h
  have := h _ this
  simp only [Nat.blt_eq, kT] at this
  omega
def parSt : List Nat → List PV → St → St
  | p :: ps, v :: vs, σ => parSt ps vs ((kT p, .t (TV.ofPV v)) :: σ)
  | _, _, σ => σ
theorem par_rel {M : NN} : ∀ (ps : List Nat) (vs : List PV) (us : List Value) (σ : St) (a : Act), (∀ p ∈ ps, okS M p = true) → RelAt w0 im0 M D bm rm (lk σ) a w → RepL (imOf w0.heap.size im0 bm rm (lk σ) w) w vs us →
    RelAt w0 im0 M D bm rm (lk (parSt ps vs σ)) { tmps := (ps.zip us).foldl (fun t (p, v) => t.setIfInBounds p v) a.tmps, defers := a.defers } w
  | [], vs, us, σ, a, _, h, _ => by cases vs <;> exact h
  | p :: ps, [], us, σ, a, _, h, hv => by
    simp only [RepL] at hv; subst hv
    simpa [parSt] using h
  | p :: ps, v :: vs, us, σ, a, hp, h, hv => by
    simp only [RepL] at hv
    obtain ⟨x, xs, rfl, h1, h2⟩ := hv
    have hput := h.put (u := x) (v := TV.ofPV v) (hp p (by simp)) (TV.ofPV_rep h1) (by simp [TV.ofPV_boxes]) (by simp [TV.ofPV_rows])
    have e1 : lk ((kT p, .t (TV.ofPV v)) :: σ) = ovr [(kT p, .t (TV.ofPV v))] (lk σ) := lk_cons _ _
    rw [← e1] at hput
    have e2 : imOf w0.heap.size im0 bm rm (lk ((kT p, .t (TV.ofPV v)) :: σ)) w = imOf w0.heap.size im0 bm rm (lk σ) w :=
      imOf_congr (fun k => by rw [e1, ovr_one, if_neg (kT_ne_kB p k)]) fun t => by rw [e1, ovr_one, if_neg (kT_ne_kR p t)]
    have := par_rel ps vs xs ((kT p, .t (TV.ofPV v)) :: σ) (a.put (some p) x) (fun q hq => hp q (by simp [hq])) hput (by rw [e2]; exact h2)
    simpa [parSt, Act.put] using this
theorem RelAt.aux (h : RelAt w0 im0 N D bm rm L a w) {N' : NN} {D' : Env} {a' : Act} (hsz : a'.tmps.size = N'.hi) (hsl : ∀ d v, L (kT d) = .t v → a'.tmps.getD d undef = a.tmps.getD d undef) (hd : AuxAt w0.heap.size D' N' a' (imOf w0.heap.size im0 bm rm L w) w) : RelAt w0 im0 N' D' bm rm L a' w :=
  h.move rfl rfl rfl (Nat.le_refl _) (fun _ _ => .inl rfl) hsz hsl fun _ => hd
theorem below_refl_mach {w : World} {b : Nat} {o o' : Obj} (h : w.heap[b]? = some o) (hm : Obj.machB (some o) = true) {n0 : Nat} (hn : n0 ≤ b) : ∀ b', b' < w.heap.size → (w.putObj b o').heap[b']? = w.heap[b']? ∨ (n0 ≤ b' ∧ Obj.machB w.heap[b']? = true) := fun b' _ => by
  by_cases hb : b' = b
  · subst hb; exact .inr ⟨hn, by rw [h]; exact hm⟩
  · exact .inl (World.putObj_heap_other hb)
theorem aOps_mono {X : Ctx} {Cl : FuncId → List PV → PV → Prop} {ops : List Oper} : ∀ (l : List Oper) (σ : St) (ts : List Deed) (K K' : List Deed → St → Prop), (∀ ts σ, K ts σ → K' ts σ) → aOps X Cl ops l σ ts K → aOps X Cl ops l σ ts K'
  | [], σ, ts, K, K', hk, h => hk _ _ h
  | o :: r, σ, ts, K, K', hk, h => by
    simp only [aOps] at h ⊢
    cases hg : gd ops o (lk σ) with
    | none => rw [hg] at h; exact h
    | some gR =>
      obtain ⟨g, R⟩ := gR
      rw [hg] at h
      cases g with
      | false =>
        simp only at h ⊢
        cases hd : o.dst with
        | none => rw [hd] at h; exact aOps_mono r _ _ K K' hk h
        | some d =>
          rw [hd] at h
          simp only at h ⊢
          cases hb : okS X.N d with
          | false => rw [hb] at h; exact h
          | true => rw [hb] at h; exact aOps_mono r _ _ K K' hk h
      | true =>
        simp only at h ⊢
        cases hs : (callS X.N.own o).run (lk σ) R with
        | some cR =>
          rw [hs] at h
          obtain ⟨v, hv, h⟩ := h
          refine ⟨v, hv, ?_⟩
          cases hp : (putE X.N o.dst v cR.1.eat).run (lk σ) cR.2 with
          | none => rw [hp] at h; exact h
          | some x => rw [hp] at h; exact aOps_mono r _ _ K K' hk h
        | none =>
        rw [hs] at h
        simp only at h ⊢
        cases hc : (callA o).run (lk σ) R with
        | some cR =>
          rw [hc] at h
          obtain ⟨v, hv, h⟩ := h
          refine ⟨v, hv, ?_⟩
          cases hb : (cR.1.pure || flatP 4 v) with
          | false =>
            rw [hb] at h
            simp only [cond_false] at h ⊢
            cases hz : (callZ o).run (lk σ) R with
            | none => rw [hz] at h; exact h
            | some zR =>
              rw [hz] at h
              obtain ⟨e1, e2, h⟩ := h
              refine ⟨e1, e2, ?_⟩
              cases hp : (putA X.N o.dst (TV.ofPV v) [(kR zR.1.q, .dead)]).run (lk σ) zR.2 with
              | none => rw [hp] at h; exact h
              | some x => rw [hp] at h; exact aOps_mono r _ _ K K' hk h
          | true =>
            rw [hb] at h
            simp only [cond_true] at h ⊢
            cases hp : (putA X.N o.dst (TV.ofPV v) []).run (lk σ) cR.2 with
            | none => rw [hp] at h; exact h
            | some x => rw [hp] at h; exact aOps_mono r _ _ K K' hk h
        | none =>
          rw [hc] at h
          simp only at h ⊢
          cases he : (evOp X.ar X.T X.N o).run (lk σ) R with
          | none => rw [he] at h; exact h
          | some x => rw [he] at h; exact aOps_mono r _ _ K K' hk h
theorem acode_mono {X : Ctx} {Cl : FuncId → List PV → PV → Prop} {S S' : Code → (Exit → St → Prop) → St → Prop} (hS : ∀ c Q Q' σ, (∀ e σ', Q e σ' → Q' e σ') → S c Q σ → S' c Q' σ) :
    ∀ (c : Code) (Q Q' : Exit → St → Prop) (σ : St), (∀ e σ', Q e σ' → Q' e σ') → acode X Cl S c Q σ → acode X Cl S' c Q' σ
  | .skip, Q, Q', σ, hq, h => hq _ _ h
  | .label _, Q, Q', σ, hq, h => hq _ _ h
  | .region id ops draw, Q, Q', σ, hq, h => by
    simp only [acode] at h ⊢
    cases hnx : hasNext ops.toList with
    | true => rw [hnx] at h; exact hS _ _ _ _ hq h
    | false =>
      rw [hnx] at h
      refine aOps_mono _ _ _ _ _ (fun ts σ' h => ?_) h
      cases hb : (!draw || ordM ops ts) with
      | false => rw [hb] at h; exact h
      | true => rw [hb] at h; exact hq _ _ h
  | .seq x y, Q, Q', σ, hq, h => by
    simp only [acode] at h ⊢
    refine acode_mono hS x _ _ σ (fun e σ' h => ?_) h
    cases e with
    | normal => exact acode_mono hS y Q Q' σ' hq h
    | _ => exact hq _ _ h
  | .cond c x y, Q, Q', σ, hq, h => by
    simp only [acode] at h ⊢
    split at h
    · exact acode_mono hS x Q Q' σ hq h
    · exact acode_mono hS y Q Q' σ hq h
    · exact h
  | .block id c, Q, Q', σ, hq, h => by
    simp only [acode] at h ⊢
    refine acode_mono hS c _ _ σ (fun e σ' h => ?_) h
    cases e with
    | exit id' =>
      simp only at h ⊢
      cases hb : Nat.beq id' id with
      | true => rw [hb] at h; exact hq _ _ h
      | false => rw [hb] at h; exact hq _ _ h
    | _ => exact hq _ _ h
  | .exit id, Q, Q', σ, hq, h => hq _ _ h
  | .goto l, Q, Q', σ, hq, h => hq _ _ h
  | .ret, Q, Q', σ, hq, h => hq _ _ h
  | .loop _, Q, Q', σ, hq, h => hS _ _ _ _ hq h
  | .rangeFunc _ _ _ _, Q, Q', σ, hq, h => hS _ _ _ _ hq h
  | .scope _, Q, Q', σ, hq, h => hS _ _ _ _ hq h
  | .refuse _, Q, Q', σ, hq, h => hS _ _ _ _ hq h
theorem SemC.mono {c : Code} {Q Q' : Exit → St → Prop} {σ : St} (hq : ∀ e σ', Q e σ' → Q' e σ') (h : SemC P w0 im0 N D ro n c Q σ) : SemC P w0 im0 N D ro n c Q' σ := fun a w hr =>
  wpIn_mono (h a w hr) fun e _ _ ⟨σ', h1, h2⟩ => ⟨σ', hq e σ' h1, h2⟩
theorem keeps_put {l : Nat} {o o' : Obj} (hl : w.heap[l]? = some o) (hm : Obj.machB (some o) = true) {n0 : Nat} : Keeps (imOf n0 im0 bm rm L w) w (imOf n0 im0 bm rm L (w.putObj l o')) (w.putObj l o') := fun b hb => by
  have hne : b ≠ l := by rintro rfl; have := hb.1.2; rw [hl, hm] at this; cases this
  have e : (w.putObj l o').heap[b]? = w.heap[b]? := World.putObj_heap_other hne
  exact ⟨⟨hb.1.keep (by simp [World.putObj]) e, hb.2⟩, e⟩
theorem sem_range {lo hi : Nat} {own : List FuncId} {X : Ctx} {g : Operand} {ps : Array Tmp} {assign body : Code} {Q : Exit → St → Prop} {σ : St} (d m : Nat) (gf : FuncId) (caps : List PV) (xs : List (List PV)) (I : Nat → St) (Inv : Nat → Prop) (ρ0 : Nat → Nat)
    (har : X.ar = Ar.std) (hT : ∀ t, LayOK P t (X.T t)) (hm : P.follows .mixedOrders = true) (hX : X.N = ⟨m, hi, own⟩) (hn : 5 ≤ n) (hg : g = .tmp d) (hd : lk σ (kT d) = .t (.c (.p (.fn (.func gf) [] caps))))
    (hY : Yields P gf caps xs) (hlen : ∀ x ∈ xs, x.length = ps.size) (hlo : lo ≤ m) (hps : ps.toList.all (fun p => okS ⟨m, hi, own⟩ p) = true) (hsl : ∀ k, slotsB m (I k) = true) (hw : Weak ρ0 σ (I 0)) (hI0 : Inv 0)
    (round : ∀ k x, xs[k]? = some x → Inv k → ∀ (D1 : Env) (l : Nat) (S1 S2 : Code → (Exit → St → Prop) → St → Prop) (Cl : FuncId → List PV → PV → Prop),
      (∀ c Q σ, SemC P w0 im0 ⟨m, hi, own⟩ D1 (some l) (n - 1 - 1) c Q σ → S1 c Q σ) → (∀ c Q σ, (∀ D2 : Env, SemC P w0 im0 ⟨m, hi, own⟩ D2 (some l) (n - 1 - 1) c Q σ) → S2 c Q σ) → (∀ f a v, Can P f a v → Cl f a v) →
      acode X Cl S1 assign (fun e σ' => match e with
        | .normal => acode X Cl S2 body (fun e σ' => match e with
          | .normal => Inv (k + 1) ∧ ∃ ρ, Weak ρ σ' (I (k + 1))
          | .ret => ∃ ρ σ2, Weak ρ σ' σ2 ∧ slotsB m σ2 = true ∧ Q .ret σ2
          | .exit id => ∃ ρ σ2, Weak ρ σ' σ2 ∧ slotsB m σ2 = true ∧ Q (.exit id) σ2
          | .goto t => ∃ ρ σ2, Weak ρ σ' σ2 ∧ slotsB m σ2 = true ∧ Q (.goto t) σ2
          | _ => False) σ'
        | _ => False) (parSt ps.toList x (I k)))
    (done : Inv xs.length → Q .normal (I xs.length)) : SemC P w0 im0 ⟨lo, hi, own⟩ D none n (.rangeFunc g ps assign body) Q σ := by
  intro a w ⟨bm, rm, hr⟩
  refine wpIn_rangeFunc ?_
  intro fn hfn
  obtain ⟨B, hB⟩ : ∃ B, w.heap.size = B := ⟨_, rfl⟩
  let rec_ : LoopState → Option Code → Loop := fun st pe => { state := st, pending := pe, fn, tmps := a.tmps, params := ps, assign, body, defers := B }
  let U : World := (w.alloc (.deferred (some []))).alloc (.loop (rec_ .ready none))
  have hU1 : U.heap[B + 1]? = some (.loop (rec_ .ready none)) := by
    have := World.alloc_heap_new (w.alloc (.deferred (some []))) (.loop (rec_ .ready none))
    rw [World.size_alloc, hB] at this; exact this
  have hU0 : U.heap[B]? = some (.deferred (some [])) := by
    have h1 := World.alloc_heap_new w (.deferred (some []))
    have h2 := Below.heap_alloc (w.alloc (.deferred (some []))) (.loop (rec_ .ready none)) B (by simp; omega)
    rw [hB] at h1; exact h2.trans h1
  have hUs : U.heap.size = B + 2 := by show (World.alloc (World.alloc w _) _).heap.size = _; simp; omega
  have hUb : Below w.heap.size w U := ((Below.refl _ w).alloc (Nat.le_refl _) _).alloc (by simp) _
  have hBn : w0.heap.size ≤ B := by rw [← hB]; exact hr.base.size
  obtain ⟨lb, hev, hcap⟩ : ∃ lb : List Value, a.eval g = .func (.func gf) #[] lb.toArray ∧ RepL (imOf w0.heap.size im0 bm rm (lk σ) w) w caps lb := by
    have := hr.slots d _ hd
    obtain ⟨az, cs, h1, h2, h3⟩ : ∃ az cs : List Value, a.tmps.getD d undef = .func (.func gf) az.toArray cs.toArray ∧ RepL _ w [] az ∧ RepL _ w caps cs := by simpa only [RepT, RepV, RepP] using this
    simp only [RepL] at h2; subst h2
    exact ⟨cs, by rw [hg]; exact h1, h3⟩
  have hrU := hr.grow hUb
  have hcapU : RepL (imOf w0.heap.size im0 bm rm (lk σ) U) U caps lb := RepL.keep (fun b hb => ⟨⟨hb.1.keep hUb.size (hUb.block b hb.1.1), hb.2⟩, hUb.block b hb.1.1⟩) _ _ hcap
  have hrI := hrU.weak hw
  obtain ⟨rm1, hrm1⟩ : ∃ rm1, (fun t => rm (ρ0 t)) = rm1 := ⟨_, rfl⟩
  rw [hrm1] at hrI
  have himU : Keeps (imOf w0.heap.size im0 bm rm (lk σ) U) U (imOf w0.heap.size im0 bm rm1 (lk (I 0)) U) U := by
    have h9 := (hrU.aux (N' := ⟨0, a.tmps.size, []⟩) (D' := ⟨imOf w0.heap.size im0 bm rm (lk σ) U, U, #[], fun _ => False, 0⟩) (a' := { tmps := a.tmps, defers := [] }) rfl (fun _ _ _ => rfl) ⟨⟨[], rfl, by simp, by simp⟩, Keeps.refl _ _, fun d hd => absurd hd (Nat.not_lt_zero d), fun _ h => h.elim, Nat.zero_le _⟩).weak hw
    rw [hrm1] at h9
    exact h9.defs.kept
  have hcapI : RepL (imOf w0.heap.size im0 bm rm1 (lk (I 0)) U) U caps lb := RepL.keep himU _ _ hcapU
  let D' : Env := ⟨imOf w0.heap.size im0 bm rm1 (lk (I 0)) U, U, a.tmps, fun b => Obj.machB U.heap[b]? = true ∧ b ≠ B + 1, 0⟩
  let J : Nat → World → Prop := fun k A => (∃ bm rm, RelAt w0 im0 ⟨m, hi, own⟩ D' bm rm (lk (I k)) { tmps := a.tmps, defers := [] } A) ∧ A.heap[B + 1]? = some (.loop (rec_ .ready none)) ∧ Inv k
  let Jx : Nat → World → Prop := fun _ A => ∃ (c : Code) (σ2 : St), (∀ a w, (∃ bm rm, RelAt w0 im0 ⟨lo, hi, own⟩ D bm rm (lk σ2) a w) → c.wpIn (FW none) n P (fun e a w => ∃ σ', Q e σ' ∧ Rel w0 im0 ⟨lo, hi, own⟩ D (lk σ') a w) a w) ∧ slotsB m σ2 = true ∧
    (∃ bm rm, RelAt w0 im0 ⟨m, hi, own⟩ D' bm rm (lk σ2) { tmps := a.tmps, defers := [] } A) ∧ A.heap[B + 1]? = some (.loop (rec_ .done (some c)))
  have back : ∀ (σ2 : St) (A : World) (o : Loop), slotsB m σ2 = true → (∃ bm rm, RelAt w0 im0 ⟨m, hi, own⟩ D' bm rm (lk σ2) { tmps := a.tmps, defers := [] } A) → A.heap[B + 1]? = some (.loop o) → ∀ o', ∃ bm rm, RelAt w0 im0 ⟨lo, hi, own⟩ D bm rm (lk σ2) { a with defers := { target := .collected B, args := #[] } :: a.defers } (A.putObj (B + 1) (.loop o')) := by
    rintro σ2 A o hs2 ⟨bm2, rm2, hr2⟩ hA o'
    refine ⟨bm2, rm2, hr2.move rfl rfl rfl (by simp [World.putObj]) (below_refl_mach hA rfl (by omega)) hr.size (fun d v hv => rfl) fun hk => ?_⟩
    have mk : ∀ b : Nat, Obj.machB U.heap[b]? = true → b ≠ B + 1 → (A.putObj (B + 1) (.loop o')).heap[b]? = U.heap[b]? := fun b h1 h2 => by
      rw [World.putObj_heap_other h2]; exact (hr2.defs.mks b ⟨h1, h2⟩).2
    obtain ⟨Ds, d1, d2, d3⟩ := hrI.defs.marks
    have hlt : ∀ b ∈ Ds, b < B := fun b hb => by
      obtain ⟨Ds', d1', d2', d3'⟩ := hr.defs.marks
      have : Ds = Ds' := by
        have e := d1.symm.trans d1'
        exact (List.map_inj_right (fun x y h => by simpa [mkDv] using h)).1 e
      subst this
      have := (d3' b hb).2
      rw [← hB]; exact (Array.getElem?_eq_some_iff.1 this).1
    refine ⟨⟨B :: Ds, by rw [List.map_cons, ← d1]; rfl, List.nodup_cons.2 ⟨fun h => by have := hlt B h; omega, d2⟩, fun b hb => ?_⟩, ?_, ?_, ?_, by have h1 := hr.defs.top; have h2 := (Array.getElem?_eq_some_iff.1 hA).1; simp only [World.putObj, Array.size_setIfInBounds]; omega⟩
    · rcases List.mem_cons.1 hb with rfl | hb
      · exact ⟨⟨hBn, by have h1 := hr.defs.top; omega⟩, (mk b (by rw [hU0]; rfl) (by omega)).trans hU0⟩
      · exact ⟨(d3 b hb).1, (mk b (by rw [(d3 b hb).2]; rfl) (by have := hlt b hb; omega)).trans (d3 b hb).2⟩
    · exact (hrI.defs.kept.trans hr2.defs.kept).trans hk
    · exact fun d hd => hr.defs.pins d hd
    · intro b hb
      have h1 := hrI.defs.mks b hb
      have hne : b ≠ B + 1 := by
        have := (hr.defs.mks b hb).1
        have := mach_lt this
        omega
      have e := mk b h1.1 hne
      rw [e]; exact h1
  refine ⟨B + 1, [{ target := .collected B, args := #[] }], U, { target := .fn (.func gf) lb.toArray, args := #[.func (.yield (B + 1)) #[] #[]] }, U, gf,
    #[.func (.yield (B + 1)) #[] #[]] ++ lb.toArray, U, ?_, ?_, fun f' _ => trivial, ?_, fun h => (by cases h), ?_⟩
  · have := run_enterLoop_outer (P := P) (w := w) fn a.tmps ps assign body
    rw [hB] at this; exact this
  · simp only [resolve, hev]; simp [go_sem]
  · simp [invoke, go_sem, hY.1]
  refine (hY.2 U (imOf w0.heap.size im0 bm rm1 (lk (I 0)) U) lb (fun b hb => hb.1) hcapI (n - 1) (B + 1) J Jx (by omega) ?_ ?_ ?_ ⟨⟨bm, rm1, hrI.aux (by have := hr.size; exact this) (fun _ _ _ => rfl) ⟨⟨[], rfl, by simp, by simp⟩, Keeps.refl _ _, fun _ _ => rfl, fun b hb => ⟨hb.1, rfl⟩, Nat.zero_le _⟩⟩, hU1, hI0⟩).mono ?_
  · rintro k A A' ⟨⟨bm2, rm2, hr2⟩, hl, hinv⟩ hb
    exact ⟨⟨bm2, rm2, hr2.grow hb⟩, (hb.block _ (Array.getElem?_eq_some_iff.1 hl).1).trans hl, hinv⟩
  · rintro k A ⟨⟨bm2, rm2, hr2⟩, _⟩
    intro b hb
    exact ⟨hb, (hr2.defs.kept b hb).2⟩
  · rintro k A args x hx ⟨⟨bm2, rm2, hr2⟩, hl, hinv⟩ hrep
    obtain ⟨ar, T, NX⟩ := X
    simp only at har hT hX
    subst hX
    have hlenx := hlen x (List.mem_of_getElem? hx)
    have hargs : args.size = ps.size := by have := hrep.len; simpa [hlenx] using this
    have hy := run_yield (P := P) (args := args) hl hargs
    refine ⟨fn, _, assign, body, hy, roundIn_of_wpIn hfn ?_⟩
    let D1 : Env := ⟨imOf w0.heap.size im0 bm2 rm2 (lk (I k)) A, A, a.tmps, fun b => Obj.machB A.heap[b]? = true, 0⟩
    have hr3 : RelAt w0 im0 ⟨m, hi, own⟩ D1 bm2 rm2 (lk (I k)) { tmps := a.tmps, defers := [] } A := hr2.aux hr2.size (fun _ _ _ => rfl) ⟨⟨[], rfl, by simp, by simp⟩, Keeps.refl _ _, fun _ _ => rfl, fun b hb => ⟨hb, rfl⟩, Nat.zero_le _⟩
    have hx3 : RepL (imOf w0.heap.size im0 bm2 rm2 (lk (I k)) A) A x args.toList := RepL.keep (fun b hb => ⟨(hr2.defs.kept b hb).1, rfl⟩) _ _ hrep
    have hr4 := par_rel ps.toList x args.toList (I k) _ (List.all_eq_true.1 hps) hr3 hx3
    have hfold : (ps.toList.zip args.toList).foldl (fun t (p, v) => t.setIfInBounds p v) a.tmps = (ps.zip args).foldl (fun t (p, v) => t.setIfInBounds p v) a.tmps := by
      rw [← Array.foldl_toList, Array.toList_zip]
    have hwalk := round k x hx hinv D1 (B + 1) (SemC P w0 im0 ⟨m, hi, own⟩ D1 (some (B + 1)) (n - 1 - 1)) (fun c Q σ => ∀ D2 : Env, SemC P w0 im0 ⟨m, hi, own⟩ D2 (some (B + 1)) (n - 1 - 1) c Q σ) (Can P) (fun _ _ _ h => h) (fun _ _ _ h => h) (fun _ _ _ h => h)
    have hass := acode_ok (X := ⟨ar, T, ⟨m, hi, own⟩⟩) (w0 := w0) (im0 := im0) (D := D1) (ro := some (B + 1)) (n := n - 1 - 1) har hT hm assign _ _ hwalk
    refine wpIn_mono (hass _ A ⟨bm2, rm2, by simp only [hfold] at hr4; exact hr4⟩) ?_
    rintro e a₁ w₁ ⟨σ', hq, bm4, rm4, hr5⟩
    cases e with
    | normal =>
      simp only at hq
      have hl1 : w₁.heap[B + 1]? = some (.loop (rec_ .ready none)) := (hr5.defs.mks (B + 1) (by show Obj.machB A.heap[B + 1]? = true; rw [hl]; rfl)).2.trans hl
      refine ⟨_, run_beginRound hl1 rfl, ?_⟩
      obtain ⟨w₂, hw2⟩ : ∃ w₂, w₁.putObj (B + 1) (.loop (rec_ .busy none)) = w₂ := ⟨_, rfl⟩
      have hl2 : w₂.heap[B + 1]? = some (.loop (rec_ .busy none)) := by rw [← hw2]; exact World.putObj_heap_same (Array.getElem?_eq_some_iff.1 hl1).1
      have hk2 : Keeps (imOf w0.heap.size im0 bm4 rm4 (lk σ') w₁) w₁ (imOf w0.heap.size im0 bm4 rm4 (lk σ') w₂) w₂ := by rw [← hw2]; exact keeps_put hl1 rfl
      let D2 : Env := ⟨imOf w0.heap.size im0 bm4 rm4 (lk σ') w₂, w₂, a.tmps, fun b => Obj.machB w₂.heap[b]? = true, 0⟩
      have hr6 : RelAt w0 im0 ⟨m, hi, own⟩ D2 bm4 rm4 (lk σ') a₁ w₂ := by
        refine hr5.move (by rw [← hw2]; rfl) (by rw [← hw2]; rfl) (by rw [← hw2]; rfl) (by rw [← hw2]; simp [World.putObj]) (by rw [← hw2]; exact below_refl_mach hl1 rfl (by omega)) hr5.size (fun _ _ _ => rfl) fun _ => ⟨?_, Keeps.refl _ _, hr5.defs.pins, fun b hb => ⟨hb, rfl⟩, Nat.zero_le _⟩
        obtain ⟨Ds, d1, d2, d3⟩ := hr5.defs.marks
        refine ⟨Ds, d1, d2, fun b hb => ⟨(d3 b hb).1, ?_⟩⟩
        rw [← hw2, World.putObj_heap_other (by rintro rfl; have := (d3 _ hb).2; rw [hl1] at this; cases this)]
        exact (d3 b hb).2
      have hbody := acode_ok (X := ⟨ar, T, ⟨m, hi, own⟩⟩) (w0 := w0) (im0 := im0) (D := D2) (ro := some (B + 1)) (n := n - 1 - 1) har hT hm body _ _ (acode_mono (S' := SemC P w0 im0 ⟨m, hi, own⟩ D2 (some (B + 1)) (n - 1 - 1)) (fun c Q Q' σ hq h => (h D2).mono hq) body _ _ σ' (fun _ _ h => h) hq)
      show body.wpIn _ _ _ _ _ (w₁.putObj (B + 1) (.loop (rec_ .busy none)))
      rw [hw2]
      refine wpIn_mono (hbody a₁ w₂ ⟨_, _, hr6⟩) ?_
      have fin : ∀ (σ3 σ4 : St) (ρ : Nat → Nat) (bm7 : Nat → Nat) (rm7 : Nat → Value) (a₃ : Act) (Y : World) (o' : Loop), RelAt w0 im0 ⟨m, hi, own⟩ D2 bm7 rm7 (lk σ3) a₃ Y → Weak ρ σ3 σ4 → slotsB m σ4 = true →
          Y.heap[B + 1]? = some (.loop (rec_ .busy none)) ∧ (∃ bm rm, RelAt w0 im0 ⟨m, hi, own⟩ D' bm rm (lk σ4) { tmps := a.tmps, defers := [] } (Y.putObj (B + 1) (.loop o'))) ∧ (Y.putObj (B + 1) (.loop o')).heap[B + 1]? = some (.loop o') := by
        intro σ3 σ4 ρ bm7 rm7 a₃ Y o' hr7 hwk hs4
        have hr8 := hr7.weak hwk
        have hlY : Y.heap[B + 1]? = some (.loop (rec_ .busy none)) := (hr8.defs.mks (B + 1) (by show Obj.machB w₂.heap[B + 1]? = true; rw [hl2]; rfl)).2.trans hl2
        refine ⟨hlY, ⟨bm7, _, hr8.move rfl rfl rfl (by simp [World.putObj]) (below_refl_mach hlY rfl (by omega)) (by have := hr.size; exact this) (fun d v hv => (hr8.defs.pins d (slotsB_lt hs4 hv)).symm) fun hk => ⟨⟨[], rfl, by simp, by simp⟩, ?_, fun _ _ => rfl, fun b hb => ?_, Nat.zero_le _⟩⟩, World.putObj_heap_same (Array.getElem?_eq_some_iff.1 hlY).1⟩
        · exact (((hr2.defs.kept.trans hr5.defs.kept).trans hk2).trans hr8.defs.kept).trans hk
        · have g1 := hr2.defs.mks b hb
          have g2 := hr5.defs.mks b g1.1
          have g3 : w₂.heap[b]? = w₁.heap[b]? := by rw [← hw2]; exact World.putObj_heap_other hb.2
          have g4 := hr8.defs.mks b (by show Obj.machB w₂.heap[b]? = true; rw [g3]; exact g2.1)
          have g5 : (Y.putObj (B + 1) (.loop o')).heap[b]? = Y.heap[b]? := World.putObj_heap_other hb.2
          have e : (Y.putObj (B + 1) (.loop o')).heap[b]? = U.heap[b]? := by rw [g5, g4.2]; exact g3.trans (g2.2.trans g1.2)
          exact ⟨by rw [e]; exact hb.1, e⟩
      rintro e a₃ Y ⟨σ3, hq3, bm7, rm7, hr7⟩
      cases e with
      | normal =>
        obtain ⟨hinv', ρ, hwk⟩ := hq3
        obtain ⟨hlY, h1, h2⟩ := fin σ3 _ ρ bm7 rm7 a₃ Y (rec_ .ready none) hr7 hwk (hsl _)
        exact ⟨_, _, run_endRound (P := P) none hlY, .inl ⟨rfl, h1, h2, hinv'⟩⟩
      | ret =>
        obtain ⟨ρ, σ2, hwk, hs2, hq⟩ := hq3
        obtain ⟨hlY, h1, h2⟩ := fin σ3 _ ρ bm7 rm7 a₃ Y (rec_ .done (some .ret)) hr7 hwk hs2
        exact ⟨_, _, run_endRound (P := P) (some .ret) hlY, .inr ⟨rfl, .ret, σ2, fun a w hr => wpIn_ret ⟨σ2, hq, hr⟩, hs2, h1, h2⟩⟩
      | exit id =>
        obtain ⟨ρ, σ2, hwk, hs2, hq⟩ := hq3
        obtain ⟨hlY, h1, h2⟩ := fin σ3 _ ρ bm7 rm7 a₃ Y (rec_ .done (some (.exit id))) hr7 hwk hs2
        exact ⟨_, _, run_endRound (P := P) (some (.exit id)) hlY, .inr ⟨rfl, .exit id, σ2, fun a w hr => wpIn_exit ⟨σ2, hq, hr⟩, hs2, h1, h2⟩⟩
      | goto t =>
        obtain ⟨ρ, σ2, hwk, hs2, hq⟩ := hq3
        obtain ⟨hlY, h1, h2⟩ := fin σ3 _ ρ bm7 rm7 a₃ Y (rec_ .done (some (.goto t))) hr7 hwk hs2
        exact ⟨_, _, run_endRound (P := P) (some (.goto t)) hlY, .inr ⟨rfl, .goto t, σ2, fun a w hr => wpIn_goto ⟨σ2, hq, hr⟩, hs2, h1, h2⟩⟩
      | panic ch => exact hq3.elim
      | outgrown => exact hq3.elim
    | _ => exact hq.elim
  · rintro e X ⟨⟨v, rfl⟩, (⟨hrel, hl, hinv⟩ | ⟨k, hk, c, σ2, hc, hs2, hrel, hl⟩)⟩
    · refine ⟨none, _, run_endLoop (P := P) hl (by simp [rec_]), ?_⟩
      exact ⟨_, done hinv, back _ _ _ (hsl _) hrel hl _⟩
    · refine ⟨some c, _, run_endLoop (P := P) hl (by simp [rec_]), ?_⟩
      exact hc _ _ (back _ _ _ hs2 hrel hl _)
end
def FlatL (es : List (List PV)) : Prop := ∀ (im im' : Nat → Prop) (w w' : World) (us : List Value), RepL im w es.flatten us → RepL im' w' es.flatten us
section
variable {P : Program} {w0 : World} {im0 : Nat → Prop} {D : Env}
end
end Go.Proofs.Ytjimjdhdnkhfnaa

