/- Contracts of functions of the program and of the reference, a calculus of states, and plain facts: a part of a proof. Own text. -/
import Derived.Test.YtjimjdhdnkhfnaaGreatJae
import Derived.Test.YtjimjdhdnkhfnaaGreatJao
import Derived.Test.YtjimjdhdnkhfnaaGreatJar
import Derived.Test.YtjimjdhdnkhfnaaGreatJau
import Derived.Test.YtjimjdhdnkhfnaaGreatJaz
set_option linter.unusedVariables false
set_option linter.unusedSimpArgs false
set_option linter.unusedSectionVars false
set_option linter.unnecessarySimpa false
namespace Go.Proofs.YtjimjdhdnkhfnaaGreat
open Go Go.RowKit
def st0C (e : TypeId) (k : Nat) (es : List (List PV)) (args : List PV) : St:=(kT 0,.t (.c (.row 0))) :: (kR 0,.row e k es) :: st0 1 args
section
variable {P : Program}
theorem st0C_at {e : TypeId} {k : Nat} {es : List (List PV)} {args : List PV} {j : Nat} {c : Cont} (h : lk (st0C e k es args) j = c) (hc : c ≠ .none) :
    (j = kT 0 ∧ c = .t (.c (.row 0))) ∨ (j = kR 0 ∧ c = .row e k es) ∨ ∃ q p,args[q]? = some p ∧ j = kT (1 + q) ∧ c = .t (TV.ofPV p):=by
  unfold st0C at h
  rw [lk_cons,lk_cons,ovr_one,ovr_one] at h
  split at h
  · exact .inl ⟨Eq.symm ‹_›,h.symm⟩
  · split at h
    · exact .inr (.inl ⟨Eq.symm ‹_›,h.symm⟩)
    · obtain ⟨q,p,h1,h2,h3⟩:=st0_get args 1 j c h hc
      exact .inr (.inr ⟨q,p,h1,h2,h3⟩)
theorem doesC_of {f : FuncId} {fn : Func} {body : Code} {e : TypeId} {k : Nat} {es : List (List PV)} {args : List PV} {res : PV} {T : TypeId → Lay} {M : Nat} {own : List FuncId} {rs : List ResultVar} (hf : P.funcs[f]? = some fn) (hb : fn.body = some body) (hN : fn.ntmps = M) (hrs : fn.results.toList = rs)
    (hen : ∀ us w,(callFunc f us).run P w = .ok (.enter f us) w) (hT : ∀ t,LayOK P t (T t)) (hm : P.follows .mixedOrders = true) (hle : args.length + 1 ≤ M)
    (h : ∀ (w0 : World) (im0 : Nat → Prop) (D : Env) (S : Code → (Exit → St → Prop) → St → Prop) (Cl : FuncId → List PV → PV → Prop),(∀ c Q σ,SemC P w0 im0 ⟨0,M,own⟩ D none 9 c Q σ → S c Q σ) → (∀ f a v,Can P f a v → Cl f a v) → ∀ ar,ar = Ar.std → acode ⟨ar,T,⟨0,M,own⟩⟩ Cl S body (retF rs res) (st0C e k es args)) : DoesC P f e k es args res:=by
  refine ⟨hen,fun w im imA base x xs us him himA hbase hown hl hk hno hrep => ?_⟩
  have hlen:=hrep.len
  obtain ⟨w0,hw0⟩ : ∃ w0 : World,w0 = { w with heap:=w.heap.extract 0 base }:=⟨_,rfl⟩
  have h0s : w0.heap.size = base:=by rw [hw0];simp;omega
  have hbel0 : Below w0.heap.size w0 w:=by
    refine ⟨by rw [hw0],by rw [hw0],by rw [hw0],by rw [h0s];exact hbase,fun b hb => ?_⟩
    rw [h0s] at hb
    rw [hw0]
    show w.heap[b]? = (w.heap.extract 0 base)[b]?
    rw [Array.getElem?_extract]
    simp only [Nat.zero_add,Nat.sub_zero,Nat.min_eq_left hbase]
    rw [if_pos hb]
  obtain ⟨D,hD⟩ : ∃ D : Env,D = ⟨fun b => Plain w b ∧ ((im b ∨ imA b) ∨ base ≤ b) ∧ x.ownBlock ≠ some b,w,#[],fun b => Obj.machB w.heap[b]? = true,w.heap.size⟩:=⟨_,rfl⟩
  have hnb : ∀ q,¬ isBox (lk (st0C e k es args)) q:=fun q hq => by
    rcases hq with ⟨ty,cs,hc⟩ | ⟨o,hc⟩ <;>
    · rcases st0C_at hc (by simp) with ⟨h2,_⟩ | ⟨h2,_⟩ | ⟨_,_,_,h2,_⟩
      · exact (kT_ne_kB _ _) h2.symm
      · exact (kB_ne_kR _ _) h2
      · exact (kT_ne_kB _ _) h2.symm
  have hrow : ∀ t,isRow (lk (st0C e k es args)) t → t = 0:=fun t ⟨e',k',es',hc⟩ => by
    rcases st0C_at hc (by simp) with ⟨h2,_⟩ | ⟨h2,_⟩ | ⟨_,_,_,h2,_⟩
    · exact ((kT_ne_kR _ _) h2.symm).elim
    · exact kR_inj h2
    · exact ((kT_ne_kR _ _) h2.symm).elim
  have him0 : ∀ b,(im b ∨ imA b) → imOf w0.heap.size (fun b => im b ∨ imA b) (fun _ => 0) (fun _ => x) (lk (st0C e k es args)) w b:=fun b hb =>
    ⟨hb.elim (him b) (himA b),.inl hb,fun q hq => absurd hq (hnb q),fun t ht e => by
      have:=hno b e
      exact hb.elim this.1 this.2⟩
  have hk0 : lk (st0C e k es args) (kR 0) = .row e k es:=by
    unfold st0C
    rw [lk_cons,lk_cons,ovr_one,ovr_one,if_neg (kT_ne_kR 0 0),if_pos rfl]
  have hrel : RelAt w0 (fun b => im b ∨ imA b) ⟨0,M,own⟩ D (fun _ => 0) (fun _ => x) (lk (st0C e k es args)) { tmps:=(x :: us).toArray ++ Array.replicate (fn.ntmps - (x :: us).toArray.size) undef,defers:=[] } w:=by
    refine ⟨hbel0,by simp [hN,hlen];omega,⟨⟨[],rfl,by simp,by simp⟩,fun b hb => ?_,fun d hd => absurd hd (Nat.not_lt_zero d),fun b hb => ?_,?_⟩,fun d v hv => ?_,fun q ty cs hc => absurd (.inl ⟨ty,cs,hc⟩) (hnb q),fun q o hc => absurd (.inr ⟨o,hc⟩) (hnb q),fun t e' k' es' hc => ?_,fun q q' hq => absurd hq (hnb q),fun q t hq => absurd hq (hnb q),fun t t' g ht ht' _ _ => (hrow t ht).trans (hrow t' ht').symm,fun i q hq => ?_,fun i t ht => ?_⟩
    · rw [hD] at hb ⊢
      obtain ⟨h1,h2,h3⟩:=hb
      refine ⟨⟨h1,by rw [h0s];exact h2,fun q hq => absurd hq (hnb q),fun t _ e => h3 e⟩,rfl⟩
    · rw [hD] at hb ⊢
      exact ⟨hb,rfl⟩
    · rw [hD];exact Nat.le_refl _
    · rcases st0C_at hv (by simp) with ⟨h2,h3⟩ | ⟨h2,_⟩ | ⟨q,p,h1,h2,h3⟩
      · obtain rfl:=kT_inj h2
        cases h3
        have : ((x :: us).toArray ++ Array.replicate (fn.ntmps - (x :: us).toArray.size) undef).getD 0 undef = x:=by
          simp [Array.getD_eq_getD_getElem?,Array.getElem?_append]
        show RepT _ _ _ _ _ (((x :: us).toArray ++ Array.replicate (fn.ntmps - (x :: us).toArray.size) undef).getD 0 undef)
        rw [this]
        exact ⟨rfl,ownsRow_isSlice hown⟩
      · exact ((kT_ne_kR _ _) h2).elim
      · have hd : d = 1 + q:=kT_inj h2
        subst hd
        cases h3
        obtain ⟨u,hu,hp⟩:=hrep.get h1
        have hlt:=(List.getElem?_eq_some_iff.1 hu).1
        have hu' : (x :: us)[1 + q]? = some u:=by rw [Nat.add_comm];simpa using hu
        have e1 : ((x :: us).toArray ++ Array.replicate (fn.ntmps - (x :: us).toArray.size) undef).getD (1 + q) undef = u:=by
          have hlt' : 1 + q < (x :: us).length:=by rw [List.length_cons];omega
          simp only [Array.getD_eq_getD_getElem?,Array.getElem?_append,List.size_toArray,hlt',if_true,List.getElem?_toArray,hu',Option.getD_some]
        show RepT _ _ _ _ _ (((x :: us).toArray ++ Array.replicate (fn.ntmps - (x :: us).toArray.size) undef).getD (1 + q) undef)
        rw [e1]
        exact TV.ofPV_rep (RepP.keep (fun b hb => ⟨him0 b (.inr hb),rfl⟩) _ _ hp)
    · have ht:=hrow t ⟨e',k',es',hc⟩
      subst ht
      rw [hk0] at hc
      cases hc
      exact ⟨xs,by rw [h0s];exact hown,RepL.keep (fun b hb => ⟨him0 b (.inl hb),rfl⟩) _ _ hl,hk⟩
    · cases hc : lk (st0C e k es args) i with
      | none => rw [hc] at hq;simp [Cont.boxes] at hq
      | _ =>
        rcases st0C_at hc (by simp) with ⟨_,h3⟩ | ⟨_,h3⟩ | ⟨_,_,_,_,h3⟩
        · rw [hc,h3] at hq
          simp [Cont.boxes,TV.boxes,CV.boxes] at hq
        · rw [hc,h3] at hq
          simp [Cont.boxes] at hq
        · rw [hc,h3] at hq
          simp [Cont.boxes,TV.ofPV_boxes] at hq
    · have ht0 : t = 0:=by
        cases hc : lk (st0C e k es args) i with
        | none => rw [hc] at ht;simp [Cont.rows] at ht
        | _ =>
          rcases st0C_at hc (by simp) with ⟨_,h3⟩ | ⟨_,h3⟩ | ⟨_,_,_,_,h3⟩
          · rw [hc,h3] at ht
            simpa [Cont.rows,TV.rows,CV.rows] using ht
          · rw [hc,h3] at ht
            simp [Cont.rows] at ht
          · rw [hc,h3] at ht
            simp [Cont.rows,TV.ofPV_rows] at ht
      subst ht0
      rw [hk0];simp
  have hsem:=acode_ok (X:=⟨Ar.std,T,⟨0,M,own⟩⟩) (P:=P) (w0:=w0) (im0:=fun b => im b ∨ imA b) (D:=D) (ro:=none) (n:=9) rfl hT hm body _ _ (h w0 _ _ _ _ (fun _ _ _ h => h) (fun _ _ _ h => h) Ar.std rfl)
  refine (callsIn_wide (n:=9)).1 (callsIn_of_wp_marks hf hb trivial (wpIn_mono (hsem _ w ⟨_,_,hrel⟩) ?_) rfl)
  rintro e1 a' w' ⟨σ',hq,bm,rm,hrel'⟩
  have key : retFs rs res σ' → LeavesInM (FW none) 9 P fn a'.tmps (fun e' w' => ∃ u,e' = .returned u ∧ RepP (fun b => im b ∨ ((x.ownBlock = some b ∨ w.heap.size ≤ b) ∧ Plain w' b)) w' res u ∧ w.grownBy w' x.ownBlock) a'.defers .returning w':=by
    intro hq
    obtain ⟨Ds,hd1,hd2,hd3⟩:=hrel'.defs.marks
    rw [hd1]
    refine leaves_marksV Ds w' hd2 (fun b hb => (hd3 b hb).2) fun Y hY => ?_
    have hDs : ∀ b ∈ Ds,w.heap.size ≤ b:=fun b hb => by have:=(hd3 b hb).1.2;rw [hD] at this;exact this
    have hrelY : RelAt w0 (fun b => im b ∨ imA b) ⟨0,M,own⟩ D bm rm (lk σ') { tmps:=a'.tmps,defers:=[] } Y:=by
      refine hrel'.move hY.os hY.tape hY.output (Nat.le_of_eq hY.size.symm) (fun b _ => ?_) hrel'.size (fun _ _ _ => rfl) (fun hk => ⟨⟨[],rfl,by simp,by simp⟩,hrel'.defs.kept.trans hk,hrel'.defs.pins,fun b hb => ?_,Nat.le_trans hrel'.defs.top (Nat.le_of_eq hY.size.symm)⟩)
      · by_cases hm : b ∈ Ds
        · exact .inr ⟨(hd3 b hm).1.1,by rw [(hd3 b hm).2];rfl⟩
        · exact .inl (hY.block b hm)
      · have h1:=hrel'.defs.mks b hb
        have hnm : b ∉ Ds:=fun hm => by
          have:=hDs b hm
          rw [hD] at hb
          have:=mach_lt (w:=w) hb
          omega
        rw [hY.block b hnm]
        exact h1
    have hgrow : w.grownBy Y x.ownBlock:=by
      refine ⟨hrelY.base.os.trans (by rw [hw0]),hrelY.base.tape.trans (by rw [hw0]),hrelY.base.output.trans (by rw [hw0]),by have:=hrelY.defs.top;rw [hD] at this;exact this,fun b hb hne => ?_⟩
      by_cases hbb : b < base
      · exact (hrelY.base.block b (by rw [h0s];exact hbb)).trans (hbel0.block b (by rw [h0s];exact hbb)).symm
      · cases hmb : Obj.machB w.heap[b]? with
        | true =>
          have:=(hrelY.defs.mks b (by rw [hD];exact hmb)).2
          rw [hD] at this
          exact this
        | false =>
          have:=(hrelY.defs.kept b (by rw [hD];exact ⟨⟨hb,hmb⟩,.inr (by omega),fun e => hne e.symm⟩)).2
          rw [hD] at this
          exact this
    unfold retFs at hq
    split at hq <;> try exact hq.elim
    rename_i t hq9
    split at hq <;> try exact hq.elim
    rename_i r hs
    split at hq <;> try exact hq.elim
    rename_i e9 k9 es9 hc
    obtain ⟨hv,_⟩ : a'.tmps.getD t undef = rm r ∧ _:=hrelY.slots _ _ hs
    obtain ⟨ys,hown9,hl9,hk9⟩:=hrelY.rows r e9 k9 es9 hc
    have hblk : ∀ g,(rm r).ownBlock = some g → x.ownBlock = some g ∨ w.heap.size ≤ g:=fun g hg => by
      rcases Nat.lt_or_ge g w.heap.size with hlt | hge
      · by_cases hx : x.ownBlock = some g
        · exact .inl hx
        · exfalso
          have hgb:=(hown9.lt g hg).1
          rw [h0s] at hgb
          cases hmb : Obj.machB w.heap[g]? with
          | true =>
            have:=(hrelY.defs.mks g (by rw [hD];exact hmb)).1
            rw [owns_not_mach hown9 hg] at this
            cases this
          | false =>
            have:=(hrelY.defs.kept g (by rw [hD];exact ⟨⟨hlt,hmb⟩,.inr hgb,hx⟩)).1
            exact this.2.2.2 r ⟨e9,k9,es9,hc⟩ hg
      · exact .inr hge
    refine ⟨rm r,?_,rm r,rfl,hq.1.h _ _ _ ?_,hgrow⟩
    · rw [results_eq,Sem.run_bind,Array.mapM_eq_mapM_toList,hrs,Sem.run_map]
      simp only [List.mapM_cons,List.mapM_nil,resV,Sem.run_bind,Sem.run_pure,Result.andThen_ok,hv]
      rfl
    · simp only [RepP]
      rcases hown9.2 with ⟨hv,h0⟩ | ⟨g,cap,cur,hv,hbg,hgg,hcap,hmx,_,_⟩
      · exact ⟨none,0,0,hv,h0.symm,by simp,by simp,.inl (List.eq_nil_of_length_eq_zero h0)⟩
      · refine ⟨_,_,cap,hv,rfl,hcap,hmx,.inr ⟨g,0,rfl,.inr ⟨hblk g (by rw [hv];rfl),plain_of hgg rfl⟩,?_⟩⟩
        refine RepE.of_flat' hk9 (fun j u hu => ?_) (hq.2 _ _ _ _ _ hl9)
        have:=hown9.cells (g:=g) (by rw [hv];rfl) j u hu
        rwa [Addr.add_mid] at this
  cases e1 with
  | normal => exact key hq
  | ret => exact key hq
  | _ => exact hq.elim
end
section
variable {P : Program} {w0 : World} {im0 : Nat → Prop} {N : NN} {D : Env} {ro : Option Nat} {n : Nat} {bm : Nat → Nat} {rm : Nat → Value} {L : Lk}
theorem op_run {ops : Array Oper} {i : Nat} {o : Oper} {a : Act} {w w' : World} {v : Value} {Q : Exit → Act → World → Prop} {K : Act → World → Prop} (ho : ops[i]? = some o) (hg : o.guard = none) (hnd : ∀ c,o.op ≠ .defer c)
    (hrun : (execOp a.eval o).run P w = .ok (.value v) w') (hK : K (a.put o.dst v) w') : wpOpIn (FW ro) n P ops Q i K a w:=by
  unfold wpOpIn
  simp only [ho]
  rw [show Region.wanted o (yielded ops a.tmps) = true by simp [Region.wanted,hg],if_pos rfl]
  exact ⟨fenceW_about ro o w a,by rw [Oper.semAt_eq _ _ _ hnd,hrun];exact hK⟩
theorem zero_flat (z : List Value) : ∀ (m : Nat),(Builtin.zeroCells z.toArray m).toList = (List.replicate m z).flatten:=fun m => by
  apply List.ext_getElem
  · simp [Builtin.zeroCells,List.length_flatten,List.sum_replicate_nat]
  · intro j h1 h2
    have hj : j < m * z.length:=by simpa [Builtin.zeroCells] using h1
    have hz : 0 < z.length:=by
      rcases Nat.eq_zero_or_pos z.length with h | h
      · rw [h] at hj;simp at hj
      · exact h
    have e1 : (Builtin.zeroCells z.toArray m).toList[j] = z[j % z.length]'(Nat.mod_lt _ hz):=by
      simp [Builtin.zeroCells,Nat.mod_lt _ hz]
    rw [e1]
    have key : ∀ (m j : Nat) (h : j < (List.replicate m z).flatten.length),(List.replicate m z).flatten[j] = z[j % z.length]'(Nat.mod_lt _ hz):=fun m => by
      induction m with
      | zero => intro j h;simp at h
      | succ m ih =>
        intro j h
        simp only [List.replicate_succ,List.flatten_cons]
        rw [List.getElem_append]
        split
        · rename_i hlt
          congr 1
          exact (Nat.mod_eq_of_lt hlt).symm
        · rename_i hge
          rw [ih (j - z.length)]
          congr 1
          exact (Nat.mod_eq_sub_mod (by omega)).symm
    exact (key m j h2).symm
theorem sem_clear {id t s i d1 d2 d3 : Nat} {ops : Array Oper} {o1 o2 o3 o4 : Oper} {Q : Exit → St → Prop} {σ : St} {T : TypeId → Lay} {e : TypeId} {k bytes : Nat} {eagg : Bool} {ez : List PV} {r : Nat} {es : List (List PV)} {q : Int} {m : Nat}
    (hops : ops = #[o1,o2,o3,o4]) (hg1 : o1.guard = none) (hg2 : o2.guard = none) (hg3 : o3.guard = none) (hg4 : o4.guard = none) (ho1 : o1.op = .move (.tmp s)) (ho2 : o2.op = .move (.tmp i)) (ho3 : o3.op = .slice t (.tmp d1) (some (.tmp d2)) none none)
    (ho4 : o4.op = .call { callee:=.builtin .clear,args:=#[.tmp d3],argTypes:=#[t] }) (hd1 : o1.dst = some d1) (hd2 : o2.dst = some d2) (hd3 : o3.dst = some d3) (hd4 : o4.dst = none)
    (hk1 : okS N d1 = true) (hk2 : okS N d2 = true) (hk3 : okS N d3 = true) (hne1 : d1 ≠ i) (hne2 : d2 ≠ d1) (hT : LayOK P t (T t)) (hlay : T t = .sl e k bytes eagg ez)
    (hs : lk σ (kT s) = .t (.c (.row r))) (hi : lk σ (kT i) = .t (.c (.p (.int .i64 q)))) (hr : lk σ (kR r) = .row e k es) (hq : q = m) (hm : m ≤ es.length)
    (h : Q .normal ((kR r,.row e k (es.take m ++ List.replicate (es.length - m) ez)) :: (kT d3,.t (.c .unk)) :: (kT d2,.t (.c (.p (.int .i64 q)))) :: (kT d1,.t (.c (.row r))) :: σ)) : SemC P w0 im0 N D ro n (.region id ops false) Q σ:=by
  subst hops
  rintro a w ⟨bm,rm,hrel⟩
  have hTl:=hT
  rw [hlay] at hTl
  obtain ⟨hu,hsz,hag,hzo,hezl,ib,hib,hbytes⟩:=lay_sl hTl
  obtain ⟨zv,_,hzr,_,ie,hie,hiz⟩:=zeroOfB_run hzo w
  have hzl : zv.cells.toList.length = k:=by have:=(hzr (fun _ => True) w).len;simpa [hezl] using this
  have es1 : a.eval (.tmp s) = rm r:=by
    obtain ⟨h1,_⟩ : a.eval (.tmp s) = rm r ∧ _:=hrel.slots s _ hs
    exact h1
  have hslice : ∃ A n c,rm r = .slice A n c:=by
    obtain ⟨h1,h2⟩ : a.eval (.tmp s) = rm r ∧ ∃ A n c,a.eval (.tmp s) = .slice A n c:=hrel.slots s _ hs
    rw [← h1];exact h2
  have hrne : lk σ (kR r) ≠ .none:=by rw [hr];simp
  refine wpIn_region ?_
  have hrange : List.range (#[o1,o2,o3,o4] : Array Oper).size = [0,1,2,3]:=rfl
  rw [hrange,wpOpsIn_cons]
  refine op_run (o:=o1) rfl hg1 (by rw [ho1];simp) (v:=rm r) (w':=w) (by simp [execOp,ho1,es1]) ?_
  rw [hd1]
  have r1:=hrel.put (d:=d1) (u:=rm r) (v:=.c (.row r)) hk1 ⟨rfl,hslice⟩ (by simp [TV.boxes,CV.boxes]) (fun t' ht' => by simp only [TV.rows,CV.rows,List.mem_singleton] at ht';subst ht';exact hrne)
  rw [wpOpsIn_cons]
  have ei : (a.put (some d1) (rm r)).eval (.tmp i) = .int .i64 q:=by
    refine r1.slots i (.c (.p (.int .i64 q))) ?_
    rw [ovr_one,if_neg (fun e => hne1 (kT_inj e))];exact hi
  refine op_run (o:=o2) rfl hg2 (by rw [ho2];simp) (v:=.int .i64 q) (w':=w) (by simp only [execOp,ho2,ei];simp) ?_
  rw [hd2]
  have r2:=r1.put (d:=d2) (u:=.int .i64 q) (v:=.c (.p (.int .i64 q))) hk2 rfl (by simp [TV.boxes,CV.boxes]) (by simp [TV.rows,CV.rows])
  rw [wpOpsIn_cons]
  have ex : ((a.put (some d1) (rm r)).put (some d2) (.int .i64 q)).eval (.tmp d1) = rm r:=by
    obtain ⟨h1,_⟩ : ((a.put (some d1) (rm r)).put (some d2) (.int .i64 q)).eval (.tmp d1) = rm r ∧ _:=r2.slots d1 (.c (.row r)) (by
      rw [ovr_one,if_neg (fun e => hne2 (kT_inj e)),ovr_one,if_pos rfl])
    exact h1
  have ey : ((a.put (some d1) (rm r)).put (some d2) (.int .i64 q)).eval (.tmp d2) = .int .i64 q:=r2.slots d2 (.c (.p (.int .i64 q))) (by rw [ovr_one,if_pos rfl])
  obtain ⟨xs,hown,hl,hkk⟩:=r2.rows r e k es (by
    rw [ovr_one,if_neg (kT_ne_kR _ _),ovr_one,if_neg (kT_ne_kR _ _)];exact hr)
  generalize (a.put (some d1) (rm r)).put (some d2) (.int .i64 q) = a2 at *
  have hs2:=sizeB_run hsz w
  obtain ⟨A,nn,cap,hv,hnn,hnc,hcm⟩ : ∃ A nn cap,rm r = .slice A nn cap ∧ nn = es.length ∧ nn ≤ cap ∧ cap ≤ maxLen:=by
    rcases hown.2 with ⟨hv,h0⟩ | ⟨g,cap,cur,hv,_,_,hcap,hmx,_,_⟩
    · exact ⟨_,_,_,hv,h0.symm,by simp,by simp⟩
    · exact ⟨_,_,_,hv,rfl,hcap,hmx⟩
  subst hnn
  have hsb:=bounds_run (P:=P) (w:=w) (n:=es.length) (c:=cap) (i:=q) (j:=es.length) (some (a2.eval (.tmp d2))) none (by simpa using ey) rfl (by omega) (by omega) (by omega) hnc
  have hqm : q.toNat = m:=by omega
  have hun:=okS_lt hk3
  refine op_run (o:=o3) rfl hg3 (by rw [ho3];simp) (v:=.slice (if cap = m then A else A.map (·.add (m * k))) (es.length - m) (cap - m)) (w':=w) (by
    simp only [execOp,ho3,ex,hv,Instr.sliceAt,Sem.run_bind,run_underlying hu w,Result.andThen_ok,Instr.slice,Option.map_none,Option.map_some,hsb,hs2,Sem.run_pure,hqm]
    simp) ?_
  rw [hd3]
  have r3:=r2.put (d:=d3) (u:=.slice (if cap = m then A else A.map (·.add (m * k))) (es.length - m) (cap - m)) (v:=.c .unk) hk3 trivial (by simp [TV.boxes,CV.boxes]) (by simp [TV.rows,CV.rows])
  rw [wpOpsIn_cons]
  have ez3 : (a2.put (some d3) (.slice (if cap = m then A else A.map (·.add (m * k))) (es.length - m) (cap - m))).eval (.tmp d3) = .slice (if cap = m then A else A.map (·.add (m * k))) (es.length - m) (cap - m):=by
    have hlt : d3 < a2.tmps.size:=by rw [r2.size];exact hun
    simp [Act.put,Act.eval,Array.getD_eq_getD_getElem?,hlt]
  obtain ⟨cs9,hrun⟩:=run_builtin (P:=P) (w:=w) (a:=a2.put (some d3) (.slice (if cap = m then A else A.map (·.add (m * k))) (es.length - m) (cap - m))) .clear _ _ ho4
  have fin : ∀ (w' : World),(Builtin.clear_ #[t] o4.type #[.slice (if cap = m then A else A.map (·.add (m * k))) (es.length - m) (cap - m)]).run P w = .ok (.tuple #[]) w' →
      RelAt w0 im0 N D bm rm (lk ((kR r,.row e k (es.take m ++ List.replicate (es.length - m) ez)) :: (kT d3,.t (.c .unk)) :: (kT d2,.t (.c (.p (.int .i64 q)))) :: (kT d1,.t (.c (.row r))) :: σ)) (a2.put (some d3) (.slice (if cap = m then A else A.map (·.add (m * k))) (es.length - m) (cap - m))) w' →
      wpOpIn (FW ro) n P #[o1,o2,o3,o4] (fun e a w => ∃ σ',Q e σ' ∧ Rel w0 im0 N D (lk σ') a w) 3 (fun a' w' => wpOpsIn (FW ro) n P #[o1,o2,o3,o4] (fun e a w => ∃ σ',Q e σ' ∧ Rel w0 im0 N D (lk σ') a w) [] a' w') (a2.put (some d3) (.slice (if cap = m then A else A.map (·.add (m * k))) (es.length - m) (cap - m))) w:=fun w' hc hR => by
    refine op_run (o:=o4) rfl hg4 (by rw [ho4];simp) (v:=.tuple #[]) (w':=w') (by
      rw [hrun]
      simp only [builtin,List.map_toArray,List.map_cons,List.map_nil,ez3,Sem.run_bind,hc,Result.andThen_ok,Sem.run_pure]) ?_
    rw [hd4]
    exact ⟨_,h,bm,rm,hR⟩
  have hlk : lk ((kR r,.row e k (es.take m ++ List.replicate (es.length - m) ez)) :: (kT d3,.t (.c .unk)) :: (kT d2,.t (.c (.p (.int .i64 q)))) :: (kT d1,.t (.c (.row r))) :: σ) =
      ovr [(kR r,.row e k (es.take m ++ List.replicate (es.length - m) ez))] (ovr [(kT d3,.t (.c .unk))] (ovr [(kT d2,.t (.c (.p (.int .i64 q))))] (ovr [(kT d1,.t (.c (.row r)))] (lk σ)))):=by rw [lk_cons,lk_cons,lk_cons,lk_cons]
  have hrow3 : ovr [(kT d3,.t (.c .unk))] (ovr [(kT d2,.t (.c (.p (.int .i64 q))))] (ovr [(kT d1,.t (.c (.row r)))] (lk σ))) (kR r) = .row e k es:=by
    rw [ovr_one,if_neg (kT_ne_kR _ _),ovr_one,if_neg (kT_ne_kR _ _),ovr_one,if_neg (kT_ne_kR _ _)];exact hr
  have himeq : imOf w0.heap.size im0 bm rm (ovr [(kT d3,.t (.c .unk))] (ovr [(kT d2,.t (.c (.p (.int .i64 q))))] (ovr [(kT d1,.t (.c (.row r)))] (lk σ)))) w = imOf w0.heap.size im0 bm rm (ovr [(kT d2,.t (.c (.p (.int .i64 q))))] (ovr [(kT d1,.t (.c (.row r)))] (lk σ))) w :=
    imOf_congr (fun q => by rw [ovr_one,if_neg (kT_ne_kB _ _)]) (fun q => by rw [ovr_one,if_neg (kT_ne_kR _ _)])
  by_cases hfull : es.length = m
  · have e0 : es.take m ++ List.replicate (es.length - m) ez = es:=by rw [hfull];simp [← hfull]
    refine fin w (by
      rw [show es.length - m = 0 by omega]
      cases hA : (if cap = m then A else A.map (·.add (m * k))) <;> simp [Builtin.clear_,run_underlying hu]) ?_
    rw [hlk,e0]
    have:=r3.setRow (d:=r) (es':=es) (w':=w) (xs:=xs) hrow3 ⟨rfl,rfl,rfl,Nat.le_refl _,fun _ _ _ => rfl⟩ (Nat.le_refl _) hown (by rw [himeq];exact hl) hkk
    exact this
  · rcases hown.2 with ⟨_,h0⟩ | ⟨g,cap',cur,hv',hbg,hgg,hcap,hmx,hcs,hcur⟩
    · omega
    rw [hv] at hv'
    cases hv'
    have hcm2 : ¬ (cap = m):=by omega
    have ezl : ∀ l : List Value,(List.replicate (es.length - m) l).flatten.length = (es.length - m) * l.length:=fun l => by simp [List.length_flatten,List.sum_replicate_nat]
    obtain ⟨zs,hzs⟩ : ∃ zs,zs = (List.replicate (es.length - m) zv.cells.toList).flatten:=⟨_,rfl⟩
    have hzsl : zs.length = (es.length - m) * k:=by rw [hzs,ezl,hzl]
    have hz1 : ∀ u ∈ zs,u.oneCell' = true:=fun u hu => by
      rw [hzs] at hu
      obtain ⟨y,hy,hu⟩:=List.mem_flatten.1 hu
      rw [List.eq_of_mem_replicate hy] at hu
      have:=(zeroOfB_run hzo w)
      obtain ⟨zv',_,_,h1c,ie',hie',hiz'⟩:=this
      rw [hie] at hie';cases hie'
      rw [hiz] at hiz';cases hiz'
      exact h1c u hu
    have hlen7 : m * k + (es.length - m) * k = es.length * k:=by rw [← Nat.add_mul];congr 1;omega
    have hcapk : es.length * k ≤ cap * k:=Nat.mul_le_mul_right _ hcap
    have hst:=run_storeCells_at P g (m * k) e zs 0 cur w hgg (by rw [hzsl,hcs];omega) hz1
    rw [Nat.add_zero] at hst
    obtain ⟨A1,hA1⟩ : ∃ A1 : Array Value,A1 = (cur.toList.take (m * k) ++ zs ++ cur.toList.drop (m * k + zs.length)).toArray:=⟨_,rfl⟩
    rw [← hA1] at hst
    have hzc : (Builtin.zeroCells zv.cells (es.length - m)).toList = zs:=by rw [hzs,← zero_flat]
    have hadd : (Addr.mk g 0 none).add (m * k) = ⟨g,m * k,none⟩:=by rw [Addr.add_lit,Nat.zero_add]
    have hclr : (Builtin.clear_ #[t] o4.type #[.slice (if cap = m then some ⟨g,0,none⟩ else (some (Addr.mk g 0 none)).map (·.add (m * k))) (es.length - m) (cap - m)]).run P w = .ok (.tuple #[]) (w.setRow g A1):=by
      rw [if_neg hcm2,Option.map_some,hadd]
      have hne0 : ¬ (es.length - m = 0):=by omega
      obtain ⟨p9,hp9⟩ : ∃ p9,es.length - m = p9 + 1:=⟨es.length - m - 1,by omega⟩
      have hzc':=hzc
      rw [hp9] at hzc' ⊢
      simp [Builtin.clear_,run_underlying hu,zeroValue,typeInfo,hie,hiz,hzc',hst]
    have hA1l : A1.size = cap * k:=by
      rw [hA1]
      simp only [List.size_toArray,List.length_append,List.length_take,List.length_drop,Array.length_toList,hzsl,hcs]
      omega
    have hg1 : (w.setRow g A1).heap[g]? = some (.cells A1 e (0,0)):=setRow_heap w g cur A1 _ _ hgg
    have hPut:=setRow_other w g
    refine fin (w.setRow g A1) hclr ?_
    rw [hlk]
    have hxt : xs.take (m * k) = cur.toList.take (m * k):=by rw [← hcur,List.take_take,Nat.min_eq_left (by omega)]
    have hlen' : (es.take m ++ List.replicate (es.length - m) ez).length = es.length:=by rw [List.length_append,List.length_take,List.length_replicate];omega
    have hfl : (es.take m).flatten.length = m * k:=by
      have : ∀ (l : List (List PV)),(∀ y ∈ l,y.length = k) → l.flatten.length = l.length * k:=fun l => by
        induction l with
        | nil => simp
        | cons z l ih => intro hz;rw [List.flatten_cons,List.length_append,hz z (by simp),ih fun y hy => hz y (by simp [hy]),List.length_cons,Nat.add_mul];omega
      rw [this _ (fun y hy => hkk.1 y (List.mem_of_mem_take hy)),List.length_take,Nat.min_eq_left (by omega)]
    have hsetg : w.grownBy (w.setRow g A1) (rm r).ownBlock:=by
      rw [hv]
      refine ⟨rfl,rfl,rfl,by simp [World.setRow],fun b hb hbn => hPut b A1 (fun e => hbn (by rw [e];rfl))⟩
    have:=r3.setRow (d:=r) (es':=es.take m ++ List.replicate (es.length - m) ez) (w':=w.setRow g A1) (xs:=xs.take (m * k) ++ zs) hrow3 hsetg hsetg.size ?_ ?_ ?_
    · exact this
    · rw [hv,hlen']
      refine ⟨by rw [List.length_append,List.length_take,hown.1,hzsl];omega,.inr ⟨g,cap,A1,rfl,hbg,hg1,hcap,hmx,hA1l,?_⟩⟩
      rw [hA1,hxt]
      simp only [List.toList_toArray]
      have : (cur.toList.take (m * k) ++ zs).length = es.length * k:=by rw [List.length_append,List.length_take,Array.length_toList,hcs,hzsl];omega
      rw [← this,List.take_left]
    · rw [himeq,List.flatten_append]
      refine RepL.append ?_ ?_
      · have ht:=hl.take (m * k)
        have : es.flatten.take (m * k) = (es.take m).flatten:=by
          have e1 : es.flatten = (es.take m).flatten ++ (es.drop m).flatten:=by rw [← List.flatten_append,List.take_append_drop]
          rw [e1,← hfl,List.take_left]
        rw [this] at ht
        exact ht
      · rw [hzs]
        have : ∀ j,RepL (imOf w0.heap.size im0 bm rm (ovr [(kT d2,.t (.c (.p (.int .i64 q))))] (ovr [(kT d1,.t (.c (.row r)))] (lk σ))) w) w (List.replicate j ez).flatten (List.replicate j zv.cells.toList).flatten:=fun j => by
          induction j with
          | zero => simp [RepL]
          | succ j ih => simp only [List.replicate_succ,List.flatten_cons];exact (hzr _ _).append ih
        exact this _
    · refine ⟨fun y hy => ?_,fun u hu => ?_⟩
      · rcases List.mem_append.1 hy with hy | hy
        · exact hkk.1 y (List.mem_of_mem_take hy)
        · rw [List.eq_of_mem_replicate hy];exact hezl
      · rcases List.mem_append.1 hu with hu | hu
        · exact hkk.2 u (List.mem_of_mem_take hu)
        · exact hz1 u hu
end
set_option maxRecDepth 100000
set_option maxHeartbeats 4000000
def lessL (s : Int) (L : List (List Int)) : List (List Int):=L.filter fun x => !isS s x
theorem lessL_take {s : Int} {L : List (List Int)} {k : Nat} (hk : k < L.length) : lessL s (L.take (k + 1)) = if isS s L[k] = true then lessL s (L.take k) else lessL s (L.take k) ++ [L[k]]:=by
  unfold lessL
  rw [take_last hk,List.filter_append]
  cases h : isS s L[k] <;> simp [List.filter,h]
theorem lessL_len (s : Int) (L : List (List Int)) : (lessL s L).length ≤ L.length:=by unfold lessL;exact List.length_filter_le ..
theorem rWithout_does {T H N : List (List Int)} (h2 : ∀ x ∈ H,x.length = 9) (h3 : ∀ x ∈ N,x.length = 7) (hT1 : T.length ≤ 1000000) (hH1 : H.length ≤ 1000000) (hN1 : N.length ≤ 1000000) (s : Int) :
    Does Tryz.prog 58 [accP T H N,.int .i64 s] (.tup [accP T (lessL s H) (lessL s N),.bool (H.any (isS s) || N.any (isS s))]):=by
  obtain ⟨V,hV⟩ : ∃ W,PV.tup [accP T (lessL s H) (lessL s N),.bool (H.any (isS s) || N.any (isS s))] = W:=⟨_,rfl⟩
  rw [hV]
  unfold accP at hV ⊢
  refine does_of (own:=inPl) Tryz.func58 rfl Tryz.ntmps58 (congrArg Array.toList Tryz.results58) (fun us w => Tryz.call58 us w) hTT mixed (Nat.le_of_ble_eq_true rfl) ?_
  intro w0 im0 D0 S Cl hS hC ar har
  have har':=har
  obtain ⟨ai,ab,nz,inr,fi,pk,ix,ln,sb,eqi,sl,fits,mn,mx,nt,be,up,fu,mg,mh,ms⟩:=ar
  have F:=facts_of har
  clear har
  obtain ⟨eT,hT⟩ : ∃ es,T.map rowP = es:=⟨_,rfl⟩
  obtain ⟨eH,hH⟩ : ∃ es,H.map rowP = es:=⟨_,rfl⟩
  obtain ⟨eN,hN⟩ : ∃ es,N.map rowP = es:=⟨_,rfl⟩
  have f1 : fits 192 [] eT = true:=F.fits _ _ _ (by rw [← hT];simp;omega)
  have hlnH : ln eH = H.length:=by rw [F.ln,← hH];simp
  have hlnN : ln eN = N.length:=by rw [F.ln,← hN];simp
  rw [hT] at hV
  rw [hT,hH,hN]
  cbv
  rw [f1];cbv
  refine hS _ _ _ (sem_mkRowB 6 1000 32 9 1 26 [CV.row 13,CV.p .nil,CV.p .nil] (by rfl) rfl (by rfl) ?_)
  refine (sem_loopR (fun x : Nat × Int × Bool × List (List PV) => [sI 1 s,sP 2 2,sP 4 4,sP 6 6,sB 7 x.2.2.1,sI 8 x.2.1,bX 2 26 [cL 24 eT,cL 9 eH,cL 7 eN],bX 4 26 [CV.p .nil,CV.p .nil,CV.p .nil],bX 6 26 [CV.row 13,CV.row 1000,CV.p .nil],rW 13 30 24 eT,rW 1000 32 9 x.2.2.2]) (fun x => x.1 ≤ H.length ∧ x.2.1 = (x.1 : Int) ∧ x.2.2.1 = (H.take x.1).any (isS s) ∧ x.2.2.2 = (lessL s (H.take x.1)).map rowP) (fun x => H.length - x.1) (0,0,false,[]) (fun t => t) ⟨by cbv,by cbv;try (repeat (first | exact rfl | exact trivial | refine ⟨?_,?_⟩))⟩ ?_ ?_)
  · exact ⟨by simp,rfl,rfl,rfl⟩
  rintro ⟨m,r,b,es⟩ ⟨hm,hr,hb,hes⟩
  dsimp only at hm hr hb hes
  have hradd : ai .add r 1 = ((m + 1 : Nat) : Int):=by rw [F.add r 1 (by omega) (by omega),hr];simp
  by_cases hlt : m < H.length
  · have hb1 : ab .lss r (ln eH) = true:=by rw [hlnH,F.lss,hr];simpa using hlt
    have hg : ix eH r = some (rowP H[m]):=by rw [F.ix _ r m hr,← hH];exact get_rows hlt
    have hnext:=lessL_take (s:=s) hlt
    have hany:=any_take (s:=s) hlt
    have hfit : ∀ x,fits 72 es [x] = true:=fun x => F.fits _ _ _ (by
      have:=lessL_len s (H.take m)
      rw [hes,List.length_map];simp only [List.length_take,List.length_singleton] at this ⊢;omega)
    obtain ⟨x0,x1,x2,x3,x4,x5,x6,x7,x8,hx⟩:=list9 (h2 _ (List.getElem_mem hlt))
    rw [hx] at hg hnext hany
    simp only [isS,List.getD_cons_zero] at hnext hany
    rw [← F.eql] at hnext hany
    have hy1 : ab .eql x0 s = true → true = (H.take (m + 1)).any (isS s):=fun h => by
      rw [h,Bool.or_true] at hany;exact hany.symm
    have hy2 : ab .eql x0 s = true → es = (lessL s (H.take (m + 1))).map rowP:=fun h => by rw [hnext,h,hes];rfl
    have hn1 : ab .eql x0 s = false → b = (H.take (m + 1)).any (isS s):=fun h => by
      rw [h,Bool.or_false] at hany;rw [hb];exact hany.symm
    have hn2 : ab .eql x0 s = false → es ++ [[PV.int .i64 x0,.int .i64 x1,.int .i64 x2,.int .i64 x3,.int .i64 x4,.int .i64 x5,.int .i64 x6,.int .i64 x7,.int .i64 x8]] = (lessL s (H.take (m + 1))).map rowP:=fun h => by rw [hnext,h,hes];simp [rowP]
    refine sem_of (X:=⟨_,TT,⟨0,67,inPl⟩⟩) har' hTT mixed ?_
    intro S1 Cl1 hS1 hC1
    cbv
    rw [hb1];cbv
    repeat (rw [hg];cbv)
    cases c1 : ab .eql x0 s
    · cbv
      repeat (rw [hg];cbv)
      rw [hfit];cbv
      exact ⟨(m + 1,ai .add r 1,b,es ++ [[PV.int .i64 x0,.int .i64 x1,.int .i64 x2,.int .i64 x3,.int .i64 x4,.int .i64 x5,.int .i64 x6,.int .i64 x7,.int .i64 x8]]),(fun t => bif Nat.beq t 1000 then 38 else t),⟨hlt,hradd,hn1 c1,hn2 c1⟩,by dsimp only;omega,⟨by cbv,by cbv;try (repeat (first | exact rfl | exact trivial | refine ⟨?_,?_⟩))⟩⟩
    · cbv
      exact ⟨(m + 1,ai .add r 1,true,es),(fun t => t),⟨hlt,hradd,hy1 c1,hy2 c1⟩,by dsimp only;omega,⟨by cbv,by cbv;try (repeat (first | exact rfl | exact trivial | refine ⟨?_,?_⟩))⟩⟩
  have hb1 : ab .lss r (ln eH) = false:=by rw [hlnH,F.lss,hr];simpa using hlt
  have hmE : m = H.length:=by omega
  have hesE : es = (lessL s H).map rowP:=by rw [hes,hmE,List.take_length]
  have hbE : b = H.any (isS s):=by rw [hb,hmE,List.take_length]
  refine sem_of (X:=⟨_,TT,⟨0,67,inPl⟩⟩) har' hTT mixed ?_
  intro S1 Cl1 hS1 hC1
  cbv
  rw [hb1];cbv
  refine hS _ _ _ (sem_mkRowB 6 1001 34 7 2 26 [CV.row 13,CV.row 1000,CV.p .nil] (by rfl) rfl (by rfl) ?_)
  refine (sem_loopR (fun x : Nat × Int × Bool × List (List PV) => [sI 1 s,sP 2 2,sP 4 4,sP 6 6,sB 7 x.2.2.1,sI 9 x.2.1,bX 2 26 [cL 24 eT,cL 9 eH,cL 7 eN],bX 4 26 [CV.p .nil,CV.p .nil,CV.p .nil],bX 6 26 [CV.row 13,CV.row 1000,CV.row 1001],rW 13 30 24 eT,rW 1000 32 9 es,rW 1001 34 7 x.2.2.2]) (fun x => x.1 ≤ N.length ∧ x.2.1 = (x.1 : Int) ∧ x.2.2.1 = Bool.or b ((N.take x.1).any (isS s)) ∧ x.2.2.2 = (lessL s (N.take x.1)).map rowP) (fun x => N.length - x.1) (0,0,b,[]) (fun t => t) ⟨by cbv,by cbv;try (repeat (first | exact rfl | exact trivial | refine ⟨?_,?_⟩))⟩ ?_ ?_)
  · exact ⟨by simp,rfl,by simp,rfl⟩
  clear hradd
  rintro ⟨m',r',b',es'⟩ ⟨hm',hr',hb',hes'⟩
  dsimp only at hm' hr' hb' hes'
  have hradd : ai .add r' 1 = ((m' + 1 : Nat) : Int):=by rw [F.add r' 1 (by omega) (by omega),hr'];simp
  by_cases hlt' : m' < N.length
  · have hb2 : ab .lss r' (ln eN) = true:=by rw [hlnN,F.lss,hr'];simpa using hlt'
    have hg : ix eN r' = some (rowP N[m']):=by rw [F.ix _ r' m' hr',← hN];exact get_rows hlt'
    have hnext:=lessL_take (s:=s) hlt'
    have hany:=any_take (s:=s) hlt'
    have hfit : ∀ x,fits 56 es' [x] = true:=fun x => F.fits _ _ _ (by
      have:=lessL_len s (N.take m')
      rw [hes',List.length_map];simp only [List.length_take,List.length_singleton] at this ⊢;omega)
    obtain ⟨x0,x1,x2,x3,x4,x5,x6,hx⟩:=list7P (h3 _ (List.getElem_mem hlt'))
    rw [hx] at hg hnext hany
    simp only [isS,List.getD_cons_zero] at hnext hany
    rw [← F.eql] at hnext hany
    have hy1 : ab .eql x0 s = true → true = (b || (N.take (m' + 1)).any (isS s)):=fun h => by
      rw [h,Bool.or_true] at hany
      have : (N.take (m' + 1)).any (isS s) = true:=hany
      rw [this,Bool.or_true]
    have hy2 : ab .eql x0 s = true → es' = (lessL s (N.take (m' + 1))).map rowP:=fun h => by rw [hnext,h,hes'];rfl
    have hn1 : ab .eql x0 s = false → b' = (b || (N.take (m' + 1)).any (isS s)):=fun h => by
      rw [h,Bool.or_false] at hany
      have : (N.take (m' + 1)).any (isS s) = (N.take m').any (isS s):=hany
      rw [hb',this]
    have hn2 : ab .eql x0 s = false → es' ++ [[PV.int .i64 x0,.int .i64 x1,.int .i64 x2,.int .i64 x3,.int .i64 x4,.int .i64 x5,.int .i64 x6]] = (lessL s (N.take (m' + 1))).map rowP:=fun h => by rw [hnext,h,hes'];simp [rowP]
    refine sem_of (X:=⟨_,TT,⟨0,67,inPl⟩⟩) har' hTT mixed ?_
    intro S2 Cl2 hS2 hC2
    cbv
    rw [hb2];cbv
    repeat (rw [hg];cbv)
    cases c1 : ab .eql x0 s
    · cbv
      repeat (rw [hg];cbv)
      rw [hfit];cbv
      exact ⟨(m' + 1,ai .add r' 1,b',es' ++ [[PV.int .i64 x0,.int .i64 x1,.int .i64 x2,.int .i64 x3,.int .i64 x4,.int .i64 x5,.int .i64 x6]]),(fun t => bif Nat.beq t 1001 then 63 else t),⟨hlt',hradd,hn1 c1,hn2 c1⟩,by dsimp only;omega,⟨by cbv,by cbv;try (repeat (first | exact rfl | exact trivial | refine ⟨?_,?_⟩))⟩⟩
    · cbv
      exact ⟨(m' + 1,ai .add r' 1,true,es'),(fun t => t),⟨hlt',hradd,hy1 c1,hy2 c1⟩,by dsimp only;omega,⟨by cbv,by cbv;try (repeat (first | exact rfl | exact trivial | refine ⟨?_,?_⟩))⟩⟩
  · have hb2 : ab .lss r' (ln eN) = false:=by rw [hlnN,F.lss,hr'];simpa using hlt'
    refine sem_of (X:=⟨_,TT,⟨0,67,inPl⟩⟩) har' hTT mixed ?_
    intro S2 Cl2 hS2 hC2
    cbv
    rw [hb2];cbv
    subst hV
    refine PLe.of_eq ?_
    rw [hesE,hes',hb',hbE,List.take_of_length_le (by omega)]
theorem findIdx_at {p : List Int → Bool} : ∀ (L : List (List Int)) (k : Nat) (hk : k < L.length),(L.take k).any p = false → p L[k] = true → L.findIdx p = k
  | [],k,hk,_,_ => by simp at hk
  | x :: L,0,_,_,h => by simp [List.findIdx_cons,show p x = true from h]
  | x :: L,k + 1,hk,h1,h2 => by
    simp only [List.take_succ_cons,List.any_cons,Bool.or_eq_false_iff] at h1
    rw [List.findIdx_cons,h1.1,findIdx_at L k (by simpa using hk) h1.2 h2]
    rfl
def fstI (p : List Int → Bool) (L : List (List Int)) : Int:=if L.any p = true then (L.findIdx p : Int) else -1
theorem less_set {s : Int} {L M : List (List Int)} {i j : Nat} (hj : j < L.length) (hl : M.length = L.length) (ht : M.take i = lessL s (L.take j)) (hi : i ≤ j) (hd : M.drop j = L.drop j) (hn : isS s L[j] = false) :
    (M.set i L[j]).take (i + 1) = lessL s (L.take (j + 1)) ∧ (M.set i L[j]).drop (j + 1) = L.drop (j + 1):=by
  have hil : i < M.length:=by omega
  refine ⟨?_,?_⟩
  · rw [lessL_take hj,hn,← ht]
    rw [List.take_succ_eq_append_getElem (by simpa using hil),List.take_set_of_le (Nat.le_refl _),List.getElem_set_self]
    rfl
  · rw [List.drop_set_of_lt (by omega)]
    have:=congrArg (List.drop 1) hd
    simpa [List.drop_drop] using this
theorem without1_does {x : List Int} (hx : x.length = 9) (s : Int) : Does Tryz.prog 142 [.agg (rowP x),.ptr [.int .i64 s]] (.bool (isS s x)):=by
  obtain ⟨x0,x1,x2,x3,x4,x5,x6,x7,x8,rfl⟩:=list9 hx
  simp only [isS,List.getD_cons_zero]
  obtain ⟨V,hV⟩ : ∃ V,(x0 == s) = V:=⟨_,rfl⟩
  rw [hV]
  refine does_of (own:=inPl) Tryz.func142 rfl Tryz.ntmps142 (congrArg Array.toList Tryz.results142) (fun us w => Tryz.call142 us w) hTT mixed (Nat.le_of_ble_eq_true rfl) ?_
  intro w0 im0 D0 S Cl hS hC ar har
  have har':=har
  obtain ⟨ai,ab,nz,inr,fi,pk,ix,ln,sb,eqi,sl,fits,mn,mx,nt,be,up,fu,mg,mh,ms⟩:=ar
  have F:=facts_of har
  clear har
  have he : ab .eql x0 s = V:=by rw [F.eql];exact hV
  cbv
  rw [he]
  exact PLe.refl _
theorem index9_does {H : List (List Int)} (h : ∀ x ∈ H,x.length = 9) (hl : H.length ≤ 100000) (s : Int) : Does Tryz.prog 155 [.list 9 (H.map rowP),.fn (.func 142) [] [.ptr [.int .i64 s]]] (.int .i64 (fstI (isS s) H)):=by
  have hw:=fun k (hk : k < H.length) => without1_does (h _ (List.getElem_mem hk)) s
  obtain ⟨p,hp⟩ : ∃ p,isS s = p:=⟨_,rfl⟩
  rw [hp] at hw ⊢
  clear hp
  have hhit : ∀ k (hk : k < H.length) (z : Int),z = (k : Int) → (H.take k).any p = false → p H[k] = true → fstI p H = z:=fun k hk z hz h1 h2 => by
    unfold fstI
    rw [if_pos (List.any_eq_true.2 ⟨_,List.getElem_mem hk,h2⟩),findIdx_at H k hk h1 h2,hz]
  have hno : H.any p = false → fstI p H = -1:=fun h1 => by
    unfold fstI
    rw [if_neg (by rw [h1];simp)]
  obtain ⟨V,hV⟩ : ∃ V,fstI p H = V:=⟨_,rfl⟩
  rw [hV] at hhit hno ⊢
  clear hV
  refine does_of (own:=inPl) Tryz.func155 rfl Tryz.ntmps155 (congrArg Array.toList Tryz.results155) (fun us w => Tryz.call155 us w) hTT mixed (Nat.le_of_ble_eq_true rfl) ?_
  intro w0 im0 D0 S Cl hS hC ar har
  have har':=har
  obtain ⟨ai,ab,nz,inr,fi,pk,ix,ln,sb,eqi,sl,fits,mn,mx,nt,be,up,fu,mg,mh,ms⟩:=ar
  have F:=facts_of har
  clear har
  obtain ⟨eH,hH⟩ : ∃ es,H.map rowP = es:=⟨_,rfl⟩
  have lH : ln eH = H.length:=by rw [F.ln,← hH];simp
  rw [hH]
  cbv
  refine hS _ _ _ (sem_loop (fun x : Nat × Int => [sL 0 9 eH,sV 1 (.fn (.func 142) [] [.ptr [.int .i64 s]]),sI 7 (ln eH),sI 8 x.2]) (fun x => x.1 ≤ H.length ∧ x.2 = (x.1 : Int) ∧ (H.take x.1).any p = false) (fun x => H.length - x.1) (fun t => t) (0,0) (fun t => t) ⟨by rfl,by cbv;try (repeat (first | exact rfl | exact trivial | refine ⟨?_,?_⟩))⟩ ?_ ?_)
  · exact ⟨by simp,rfl,rfl⟩
  rintro ⟨k,i⟩ ⟨hk,hi,hany⟩
  dsimp only at hk hi hany
  have hi : i = (k : Int):=hi
  have hadd : ai .add i 1 = ((k + 1 : Nat) : Int):=by rw [F.add i 1 (by omega) (by omega),hi];simp
  by_cases hlt : k < H.length
  · have hb : ab .lss i (ln eH) = true:=by rw [lH,F.lss,hi];simpa using hlt
    have hg : ix eH i = some (rowP H[k]):=by rw [F.ix _ i k hi,← hH];exact get_rows hlt
    have hc:=hw k hlt
    have hyes:=hhit k hlt i hi hany
    have hnx : p H[k] = false → (H.take (k + 1)).any p = false:=fun h1 => by rw [take_last hlt,List.any_append,hany];simp [h1]
    obtain ⟨x0,x1,x2,x3,x4,x5,x6,x7,x8,hx⟩:=list9 (h _ (List.getElem_mem hlt))
    rw [hx] at hg hc
    obtain ⟨cb,hcb⟩ : ∃ cb,p H[k] = cb:=⟨_,rfl⟩
    rw [hcb] at hyes hnx
    rw [hx] at hcb
    rw [hcb] at hc
    have hc : Does Tryz.prog 142 [.agg [.int .i64 x0,.int .i64 x1,.int .i64 x2,.int .i64 x3,.int .i64 x4,.int .i64 x5,.int .i64 x6,.int .i64 x7,.int .i64 x8],.ptr [.int .i64 s]] (.bool cb):=hc
    refine sem_of (X:=⟨_,TT,⟨0,19,inPl⟩⟩) har' hTT mixed ?_
    intro S1 Cl1 hS1 hC1
    cbv
    rw [hb];cbv
    repeat (rw [hg];cbv)
    refine ⟨_,hC1 _ _ _ hc,?_⟩;cbv
    cases cb
    · have hnx:=hnx rfl
      cbv
      exact ⟨(k + 1,ai .add i 1),⟨hlt,hadd,hnx⟩,by dsimp only;omega,⟨by rfl,by cbv;try (repeat (first | exact rfl | exact trivial | refine ⟨?_,?_⟩))⟩⟩
    · have hyes:=hyes rfl
      cbv
      rw [hyes];exact PLe.refl _
  · have hb : ab .lss i (ln eH) = false:=by rw [lH,F.lss,hi];simpa using hlt
    have hkE : k = H.length:=by omega
    rw [hkE,List.take_length] at hany
    have hno:=hno hany
    refine sem_of (X:=⟨_,TT,⟨0,19,inPl⟩⟩) har' hTT mixed ?_
    intro S1 Cl1 hS1 hC1
    cbv
    rw [hb];cbv
    rw [hno];exact PLe.refl _
theorem delete9_does {H : List (List Int)} (h : ∀ x ∈ H,x.length = 9) (hl : H.length ≤ 100000) (s : Int) : DoesC Tryz.prog 141 32 9 (H.map rowP) [.fn (.func 142) [] [.ptr [.int .i64 s]]] (.list 9 ((lessL s H).map rowP)):=by
  have hidx:=index9_does h hl s
  have hw:=fun k (hk : k < H.length) => without1_does (h _ (List.getElem_mem hk)) s
  have hfirst : ∀ q : Int,fstI (isS s) H = q → (q = -1 ∧ lessL s H = H) ∨ ∃ k,k < H.length ∧ q = (k : Int) ∧ (q ≠ -1 ∧ -100000 ≤ q + 1 ∧ q + 1 ≤ 100001 ∧ q + 1 = ((k + 1 : Nat) : Int)) ∧ H.take k = lessL s (H.take k) ∧ lessL s (H.take (k + 1)) = H.take k:=fun q hq => by
    unfold fstI at hq
    split at hq
    · rename_i hany
      have hlt:=List.findIdx_lt_length_of_exists (List.any_eq_true.1 hany)
      refine .inr ⟨H.findIdx (isS s),hlt,hq.symm,⟨by omega,by omega,by omega,by rw [← hq];simp⟩,?_,?_⟩
      · unfold lessL
        refine (List.filter_eq_self.2 fun x hx => ?_).symm
        obtain ⟨j,hj,rfl⟩:=List.mem_take_iff_getElem.1 hx
        have:=List.not_of_lt_findIdx (p:=isS s) (xs:=H) (i:=j) (by omega)
        simpa using this
      · rw [lessL_take hlt,List.findIdx_getElem (w:=hlt),if_pos rfl]
        unfold lessL
        refine List.filter_eq_self.2 fun x hx => ?_
        obtain ⟨j,hj,rfl⟩:=List.mem_take_iff_getElem.1 hx
        have:=List.not_of_lt_findIdx (p:=isS s) (xs:=H) (i:=j) (by omega)
        simpa using this
    · rename_i hany
      refine .inl ⟨hq.symm,?_⟩
      unfold lessL
      refine List.filter_eq_self.2 fun x hx => ?_
      simp only [Bool.not_eq_true,List.any_eq_false] at hany
      simpa using hany x hx
  obtain ⟨q,hq⟩ : ∃ q,fstI (isS s) H = q:=⟨_,rfl⟩
  have hfirst:=hfirst q hq
  rw [hq] at hidx
  clear hq
  obtain ⟨V,hV⟩ : ∃ V,PV.list 9 ((lessL s H).map rowP) = V:=⟨_,rfl⟩
  rw [hV]
  refine doesC_of (own:=inPl) Tryz.func141 rfl Tryz.ntmps141 (congrArg Array.toList Tryz.results141) (fun us w => Tryz.call141 us w) hTT mixed (Nat.le_of_ble_eq_true rfl) ?_
  intro w0 im0 D0 S Cl hS hC ar har
  have har':=har
  obtain ⟨ai,ab,nz,inr,fi,pk,ix,ln,sb,eqi,sl,fits,mn,mx,nt,be,up,fu,mg,mh,ms⟩:=ar
  have F:=facts_of har
  clear har
  obtain ⟨eH,hH⟩ : ∃ es,H.map rowP = es:=⟨_,rfl⟩
  have lH : ln eH = H.length:=by rw [F.ln,← hH];simp
  have fH : FlatL eH:=by rw [← hH];exact flat_rows H
  rw [hH] at hidx ⊢
  cbv
  refine ⟨_,hC _ _ _ hidx,?_⟩;cbv
  rcases hfirst with ⟨hq1,hself⟩ | ⟨k0,hk0,hq0,⟨hq1,hq2,hq3,hq4⟩,ht0,ht1⟩
  · have e1 : ab .eql q (-1) = true:=by rw [F.eql,hq1];rfl
    rw [e1];cbv
    refine ⟨?_,fH⟩
    rw [← hV,hself,hH]
    exact PLe.refl _
  have e1 : ab .eql q (-1) = false:=by rw [F.eql];exact beq_eq_false_iff_ne.2 hq1
  have a1 : ai .add q 1 = ((k0 + 1 : Nat) : Int):=by rw [F.add q 1 (Int.le_trans (by decide) hq2) (Int.le_trans hq3 (by decide))];exact hq4
  rw [e1];cbv
  refine hS _ _ _ (sem_loop (fun x : Nat × Nat × Int × Int × List (List Int) × List (List PV) => [sR 0 0,sV 1 (.fn (.func 142) [] [.ptr [.int .i64 s]]),sI 5 x.2.2.1,sI 6 x.2.2.2.1,rW 0 32 9 x.2.2.2.2.2]) (fun x => x.2.1 ≤ H.length ∧ x.1 < x.2.1 ∧ x.2.2.1 = (x.1 : Int) ∧ x.2.2.2.1 = (x.2.1 : Int) ∧ x.2.2.2.2.2 = x.2.2.2.2.1.map rowP ∧ x.2.2.2.2.1.length = H.length ∧ (∀ y ∈ x.2.2.2.2.1,y.length = 9) ∧ x.2.2.2.2.1.take x.1 = lessL s (H.take x.2.1) ∧ x.2.2.2.2.1.drop x.2.1 = H.drop x.2.1) (fun x => H.length - x.2.1) (fun t => t) (k0,k0 + 1,q,ai .add q 1,H,eH) (fun t => t) ⟨by rfl,by cbv;try (repeat (first | exact rfl | exact trivial | refine ⟨?_,?_⟩))⟩ ?_ ?_)
  · exact ⟨hk0,Nat.lt_succ_self _,hq0,a1,hH.symm,rfl,h,ht1.symm,rfl⟩
  rintro ⟨ki,kj,i,j,M,eM⟩ ⟨hj,hij,hi,hjj,hM,hMl,hMw,hMt,hMd⟩
  dsimp only at hj hij hi hjj hM hMl hMw hMt hMd
  have hi : i = (ki : Int):=hi
  have hjj : j = (kj : Int):=hjj
  have lM : ln eM = H.length:=by rw [F.ln,hM];simp [hMl]
  have hadd : ai .add j 1 = ((kj + 1 : Nat) : Int):=by rw [F.add j 1 (by omega) (by omega),hjj];simp
  have haddi : ai .add i 1 = ((ki + 1 : Nat) : Int):=by rw [F.add i 1 (by omega) (by omega),hi];simp
  by_cases hlt : kj < H.length
  · have hb : ab .lss j (ln eM) = true:=by rw [lM,F.lss,hjj];simpa using hlt
    have hkiM : ki < M.length:=by omega
    have hkjM : kj < M.length:=by omega
    have hMj : M[kj]'hkjM = H[kj]:=by
      have e1 : (M.drop kj)[0]? = (H.drop kj)[0]?:=by rw [hMd]
      rw [List.getElem?_drop,List.getElem?_drop,Nat.add_zero,List.getElem?_eq_getElem hkjM,List.getElem?_eq_getElem hlt] at e1
      exact Option.some.inj e1
    have hg : ix eM j = some (rowP H[kj]):=by rw [F.ix _ j kj hjj,hM,← hMj];exact get_rows hkjM
    have hgi : ix eM i = some (rowP (M[ki]'hkiM)):=by rw [F.ix _ i ki hi,hM];exact get_rows hkiM
    have hc:=hw kj hlt
    have hset : isS s H[kj] = false → (M.set ki H[kj]).take (ki + 1) = lessL s (H.take (kj + 1)) ∧ (M.set ki H[kj]).drop (kj + 1) = H.drop (kj + 1):=fun hn => less_set hlt hMl hMt (by omega) hMd hn
    have hskip : isS s H[kj] = true → M.take ki = lessL s (H.take (kj + 1)) ∧ M.drop (kj + 1) = H.drop (kj + 1):=fun hn => by
      refine ⟨by rw [lessL_take hlt,if_pos hn];exact hMt,?_⟩
      have:=congrArg (List.drop 1) hMd
      simpa [List.drop_drop] using this
    have hup : up eM i (rowP H[kj]) = (M.set ki H[kj]).map rowP:=by
      rw [F.up eM i ki _ hi,hM,List.map_set]
    have hMw' : ∀ y ∈ M.set ki H[kj],y.length = 9:=fun y hy => by
      rcases List.mem_or_eq_of_mem_set hy with hy | hy
      · exact hMw y hy
      · rw [hy];exact h _ (List.getElem_mem hlt)
    have hMl' : (M.set ki H[kj]).length = H.length:=by simp [hMl]
    obtain ⟨y0,y1,y2,y3,y4,y5,y6,y7,y8,hy⟩:=list9 (hMw _ (List.getElem_mem hkiM))
    rw [hy] at hgi
    obtain ⟨M',hM'⟩ : ∃ M',M.set ki H[kj] = M':=⟨_,rfl⟩
    rw [hM'] at hset hup hMw' hMl'
    obtain ⟨cb,hcb⟩ : ∃ cb,isS s H[kj] = cb:=⟨_,rfl⟩
    rw [hcb] at hc hset hskip
    obtain ⟨x0,x1,x2,x3,x4,x5,x6,x7,x8,hx⟩:=list9 (h _ (List.getElem_mem hlt))
    rw [hx] at hg hc hup
    have hc : Does Tryz.prog 142 [.agg [.int .i64 x0,.int .i64 x1,.int .i64 x2,.int .i64 x3,.int .i64 x4,.int .i64 x5,.int .i64 x6,.int .i64 x7,.int .i64 x8],.ptr [.int .i64 s]] (.bool cb):=hc
    have hup : up eM i [.int .i64 x0,.int .i64 x1,.int .i64 x2,.int .i64 x3,.int .i64 x4,.int .i64 x5,.int .i64 x6,.int .i64 x7,.int .i64 x8] = M'.map rowP:=hup
    refine sem_of (X:=⟨_,TT,⟨0,42,inPl⟩⟩) har' hTT mixed ?_
    intro S1 Cl1 hS1 hC1
    cbv
    rw [hb];cbv
    repeat (rw [hg];cbv)
    refine ⟨_,hC1 _ _ _ hc,?_⟩;cbv
    rw [F.nt]
    cases cb
    · obtain ⟨k1,k2⟩:=hset rfl
      simp only [Bool.not_false]
      cbv
      repeat (rw [hgi];cbv)
      exact ⟨(ki + 1,kj + 1,ai .add i 1,ai .add j 1,M',up eM i [.int .i64 x0,.int .i64 x1,.int .i64 x2,.int .i64 x3,.int .i64 x4,.int .i64 x5,.int .i64 x6,.int .i64 x7,.int .i64 x8]),⟨hlt,Nat.succ_lt_succ hij,haddi,hadd,hup,hMl',hMw',k1,k2⟩,by dsimp only;omega,⟨by rfl,by cbv;try (repeat (first | exact rfl | exact trivial | refine ⟨?_,?_⟩))⟩⟩
    · obtain ⟨k1,k2⟩:=hskip rfl
      simp only [Bool.not_true]
      cbv
      exact ⟨(ki,kj + 1,i,ai .add j 1,M,eM),⟨hlt,Nat.lt_succ_of_lt hij,hi,hadd,hM,hMl,hMw,k1,k2⟩,by dsimp only;omega,⟨by rfl,by cbv;try (repeat (first | exact rfl | exact trivial | refine ⟨?_,?_⟩))⟩⟩
  · have hb : ab .lss j (ln eM) = false:=by rw [lM,F.lss,hjj];simpa using hlt
    have hkE : kj = H.length:=by omega
    rw [hkE,List.take_length] at hMt
    have hel : eM.length = H.length:=by rw [hM];simp [hMl]
    have hme : ki ≤ eM.length:=by omega
    obtain ⟨E2,hE2⟩ : ∃ E2,eM.take ki ++ List.replicate (eM.length - ki) [.int .i64 0,.int .i64 0,.int .i64 0,.int .i64 0,.int .i64 0,.int .i64 0,.int .i64 0,.int .i64 0,.int .i64 0] = E2:=⟨_,rfl⟩
    have htk : (eM.take ki).length = ki:=by rw [List.length_take];omega
    have hsl : sl E2 0 i = some ((lessL s H).map rowP):=by
      have hE2l : ki ≤ E2.length:=by rw [← hE2,List.length_append,htk];omega
      rw [F.sl E2 0 i 0 ki rfl hi (Nat.zero_le _) hE2l]
      simp only [List.drop_zero,Nat.sub_zero]
      rw [← hE2,List.take_left' htk,hM,← List.map_take,hMt]
    obtain ⟨eR,hR⟩ : ∃ es,(lessL s H).map rowP = es:=⟨_,rfl⟩
    have fR : FlatL eR:=by rw [← hR];exact flat_rows _
    rw [hR] at hsl hV
    refine sem_of (X:=⟨_,TT,⟨0,42,inPl⟩⟩) har' hTT mixed ?_
    intro S1 Cl1 hS1 hC1
    cbv
    rw [hb];cbv
    refine hS _ _ _ (sem_clear (T:=TT) (r:=0) (m:=ki) rfl rfl rfl rfl rfl rfl rfl rfl rfl rfl rfl rfl rfl rfl rfl rfl (by decide) (by decide) (hTT 23) rfl rfl rfl rfl hi hme ?_)
    rw [hE2]
    cbv
    rw [hsl];cbv
    refine ⟨?_,fR⟩
    rw [← hV]
    exact PLe.refl _
theorem without2_does {x : List Int} (hx : x.length = 7) (s : Int) : Does Tryz.prog 144 [.agg (rowP x),.ptr [.int .i64 s]] (.bool (isS s x)):=by
  obtain ⟨x0,x1,x2,x3,x4,x5,x6,rfl⟩:=list7P hx
  simp only [isS,List.getD_cons_zero]
  obtain ⟨V,hV⟩ : ∃ V,(x0 == s) = V:=⟨_,rfl⟩
  rw [hV]
  refine does_of (own:=inPl) Tryz.func144 rfl Tryz.ntmps144 (congrArg Array.toList Tryz.results144) (fun us w => Tryz.call144 us w) hTT mixed (Nat.le_of_ble_eq_true rfl) ?_
  intro w0 im0 D0 S Cl hS hC ar har
  have har':=har
  obtain ⟨ai,ab,nz,inr,fi,pk,ix,ln,sb,eqi,sl,fits,mn,mx,nt,be,up,fu,mg,mh,ms⟩:=ar
  have F:=facts_of har
  clear har
  have he : ab .eql x0 s = V:=by rw [F.eql];exact hV
  cbv
  rw [he]
  exact PLe.refl _
theorem index7_does {H : List (List Int)} (h : ∀ x ∈ H,x.length = 7) (hl : H.length ≤ 100000) (s : Int) : Does Tryz.prog 156 [.list 7 (H.map rowP),.fn (.func 144) [] [.ptr [.int .i64 s]]] (.int .i64 (fstI (isS s) H)):=by
  have hw:=fun k (hk : k < H.length) => without2_does (h _ (List.getElem_mem hk)) s
  obtain ⟨p,hp⟩ : ∃ p,isS s = p:=⟨_,rfl⟩
  rw [hp] at hw ⊢
  clear hp
  have hhit : ∀ k (hk : k < H.length) (z : Int),z = (k : Int) → (H.take k).any p = false → p H[k] = true → fstI p H = z:=fun k hk z hz h1 h2 => by
    unfold fstI
    rw [if_pos (List.any_eq_true.2 ⟨_,List.getElem_mem hk,h2⟩),findIdx_at H k hk h1 h2,hz]
  have hno : H.any p = false → fstI p H = -1:=fun h1 => by
    unfold fstI
    rw [if_neg (by rw [h1];simp)]
  obtain ⟨V,hV⟩ : ∃ V,fstI p H = V:=⟨_,rfl⟩
  rw [hV] at hhit hno ⊢
  clear hV
  refine does_of (own:=inPl) Tryz.func156 rfl Tryz.ntmps156 (congrArg Array.toList Tryz.results156) (fun us w => Tryz.call156 us w) hTT mixed (Nat.le_of_ble_eq_true rfl) ?_
  intro w0 im0 D0 S Cl hS hC ar har
  have har':=har
  obtain ⟨ai,ab,nz,inr,fi,pk,ix,ln,sb,eqi,sl,fits,mn,mx,nt,be,up,fu,mg,mh,ms⟩:=ar
  have F:=facts_of har
  clear har
  obtain ⟨eH,hH⟩ : ∃ es,H.map rowP = es:=⟨_,rfl⟩
  have lH : ln eH = H.length:=by rw [F.ln,← hH];simp
  rw [hH]
  cbv
  refine hS _ _ _ (sem_loop (fun x : Nat × Int => [sL 0 7 eH,sV 1 (.fn (.func 144) [] [.ptr [.int .i64 s]]),sI 7 (ln eH),sI 8 x.2]) (fun x => x.1 ≤ H.length ∧ x.2 = (x.1 : Int) ∧ (H.take x.1).any p = false) (fun x => H.length - x.1) (fun t => t) (0,0) (fun t => t) ⟨by rfl,by cbv;try (repeat (first | exact rfl | exact trivial | refine ⟨?_,?_⟩))⟩ ?_ ?_)
  · exact ⟨by simp,rfl,rfl⟩
  rintro ⟨k,i⟩ ⟨hk,hi,hany⟩
  dsimp only at hk hi hany
  have hi : i = (k : Int):=hi
  have hadd : ai .add i 1 = ((k + 1 : Nat) : Int):=by rw [F.add i 1 (by omega) (by omega),hi];simp
  by_cases hlt : k < H.length
  · have hb : ab .lss i (ln eH) = true:=by rw [lH,F.lss,hi];simpa using hlt
    have hg : ix eH i = some (rowP H[k]):=by rw [F.ix _ i k hi,← hH];exact get_rows hlt
    have hc:=hw k hlt
    have hyes:=hhit k hlt i hi hany
    have hnx : p H[k] = false → (H.take (k + 1)).any p = false:=fun h1 => by rw [take_last hlt,List.any_append,hany];simp [h1]
    obtain ⟨x0,x1,x2,x3,x4,x5,x6,hx⟩:=list7P (h _ (List.getElem_mem hlt))
    rw [hx] at hg hc
    obtain ⟨cb,hcb⟩ : ∃ cb,p H[k] = cb:=⟨_,rfl⟩
    rw [hcb] at hyes hnx
    rw [hx] at hcb
    rw [hcb] at hc
    have hc : Does Tryz.prog 144 [.agg [.int .i64 x0,.int .i64 x1,.int .i64 x2,.int .i64 x3,.int .i64 x4,.int .i64 x5,.int .i64 x6],.ptr [.int .i64 s]] (.bool cb):=hc
    refine sem_of (X:=⟨_,TT,⟨0,19,inPl⟩⟩) har' hTT mixed ?_
    intro S1 Cl1 hS1 hC1
    cbv
    rw [hb];cbv
    repeat (rw [hg];cbv)
    refine ⟨_,hC1 _ _ _ hc,?_⟩;cbv
    cases cb
    · have hnx:=hnx rfl
      cbv
      exact ⟨(k + 1,ai .add i 1),⟨hlt,hadd,hnx⟩,by dsimp only;omega,⟨by rfl,by cbv;try (repeat (first | exact rfl | exact trivial | refine ⟨?_,?_⟩))⟩⟩
    · have hyes:=hyes rfl
      cbv
      rw [hyes];exact PLe.refl _
  · have hb : ab .lss i (ln eH) = false:=by rw [lH,F.lss,hi];simpa using hlt
    have hkE : k = H.length:=by omega
    rw [hkE,List.take_length] at hany
    have hno:=hno hany
    refine sem_of (X:=⟨_,TT,⟨0,19,inPl⟩⟩) har' hTT mixed ?_
    intro S1 Cl1 hS1 hC1
    cbv
    rw [hb];cbv
    rw [hno];exact PLe.refl _
theorem delete7_does {H : List (List Int)} (h : ∀ x ∈ H,x.length = 7) (hl : H.length ≤ 100000) (s : Int) : DoesC Tryz.prog 143 34 7 (H.map rowP) [.fn (.func 144) [] [.ptr [.int .i64 s]]] (.list 7 ((lessL s H).map rowP)):=by
  have hidx:=index7_does h hl s
  have hw:=fun k (hk : k < H.length) => without2_does (h _ (List.getElem_mem hk)) s
  have hfirst : ∀ q : Int,fstI (isS s) H = q → (q = -1 ∧ lessL s H = H) ∨ ∃ k,k < H.length ∧ q = (k : Int) ∧ (q ≠ -1 ∧ -100000 ≤ q + 1 ∧ q + 1 ≤ 100001 ∧ q + 1 = ((k + 1 : Nat) : Int)) ∧ H.take k = lessL s (H.take k) ∧ lessL s (H.take (k + 1)) = H.take k:=fun q hq => by
    unfold fstI at hq
    split at hq
    · rename_i hany
      have hlt:=List.findIdx_lt_length_of_exists (List.any_eq_true.1 hany)
      refine .inr ⟨H.findIdx (isS s),hlt,hq.symm,⟨by omega,by omega,by omega,by rw [← hq];simp⟩,?_,?_⟩
      · unfold lessL
        refine (List.filter_eq_self.2 fun x hx => ?_).symm
        obtain ⟨j,hj,rfl⟩:=List.mem_take_iff_getElem.1 hx
        have:=List.not_of_lt_findIdx (p:=isS s) (xs:=H) (i:=j) (by omega)
        simpa using this
      · rw [lessL_take hlt,List.findIdx_getElem (w:=hlt),if_pos rfl]
        unfold lessL
        refine List.filter_eq_self.2 fun x hx => ?_
        obtain ⟨j,hj,rfl⟩:=List.mem_take_iff_getElem.1 hx
        have:=List.not_of_lt_findIdx (p:=isS s) (xs:=H) (i:=j) (by omega)
        simpa using this
    · rename_i hany
      refine .inl ⟨hq.symm,?_⟩
      unfold lessL
      refine List.filter_eq_self.2 fun x hx => ?_
      simp only [Bool.not_eq_true,List.any_eq_false] at hany
      simpa using hany x hx
  obtain ⟨q,hq⟩ : ∃ q,fstI (isS s) H = q:=⟨_,rfl⟩
  have hfirst:=hfirst q hq
  rw [hq] at hidx
  clear hq
  obtain ⟨V,hV⟩ : ∃ V,PV.list 7 ((lessL s H).map rowP) = V:=⟨_,rfl⟩
  rw [hV]
  refine doesC_of (own:=inPl) Tryz.func143 rfl Tryz.ntmps143 (congrArg Array.toList Tryz.results143) (fun us w => Tryz.call143 us w) hTT mixed (Nat.le_of_ble_eq_true rfl) ?_
  intro w0 im0 D0 S Cl hS hC ar har
  have har':=har
  obtain ⟨ai,ab,nz,inr,fi,pk,ix,ln,sb,eqi,sl,fits,mn,mx,nt,be,up,fu,mg,mh,ms⟩:=ar
  have F:=facts_of har
  clear har
  obtain ⟨eH,hH⟩ : ∃ es,H.map rowP = es:=⟨_,rfl⟩
  have lH : ln eH = H.length:=by rw [F.ln,← hH];simp
  have fH : FlatL eH:=by rw [← hH];exact flat_rows H
  rw [hH] at hidx ⊢
  cbv
  refine ⟨_,hC _ _ _ hidx,?_⟩;cbv
  rcases hfirst with ⟨hq1,hself⟩ | ⟨k0,hk0,hq0,⟨hq1,hq2,hq3,hq4⟩,ht0,ht1⟩
  · have e1 : ab .eql q (-1) = true:=by rw [F.eql,hq1];rfl
    rw [e1];cbv
    refine ⟨?_,fH⟩
    rw [← hV,hself,hH]
    exact PLe.refl _
  have e1 : ab .eql q (-1) = false:=by rw [F.eql];exact beq_eq_false_iff_ne.2 hq1
  have a1 : ai .add q 1 = ((k0 + 1 : Nat) : Int):=by rw [F.add q 1 (Int.le_trans (by decide) hq2) (Int.le_trans hq3 (by decide))];exact hq4
  rw [e1];cbv
  refine hS _ _ _ (sem_loop (fun x : Nat × Nat × Int × Int × List (List Int) × List (List PV) => [sR 0 0,sV 1 (.fn (.func 144) [] [.ptr [.int .i64 s]]),sI 5 x.2.2.1,sI 6 x.2.2.2.1,rW 0 34 7 x.2.2.2.2.2]) (fun x => x.2.1 ≤ H.length ∧ x.1 < x.2.1 ∧ x.2.2.1 = (x.1 : Int) ∧ x.2.2.2.1 = (x.2.1 : Int) ∧ x.2.2.2.2.2 = x.2.2.2.2.1.map rowP ∧ x.2.2.2.2.1.length = H.length ∧ (∀ y ∈ x.2.2.2.2.1,y.length = 7) ∧ x.2.2.2.2.1.take x.1 = lessL s (H.take x.2.1) ∧ x.2.2.2.2.1.drop x.2.1 = H.drop x.2.1) (fun x => H.length - x.2.1) (fun t => t) (k0,k0 + 1,q,ai .add q 1,H,eH) (fun t => t) ⟨by rfl,by cbv;try (repeat (first | exact rfl | exact trivial | refine ⟨?_,?_⟩))⟩ ?_ ?_)
  · exact ⟨hk0,Nat.lt_succ_self _,hq0,a1,hH.symm,rfl,h,ht1.symm,rfl⟩
  rintro ⟨ki,kj,i,j,M,eM⟩ ⟨hj,hij,hi,hjj,hM,hMl,hMw,hMt,hMd⟩
  dsimp only at hj hij hi hjj hM hMl hMw hMt hMd
  have hi : i = (ki : Int):=hi
  have hjj : j = (kj : Int):=hjj
  have lM : ln eM = H.length:=by rw [F.ln,hM];simp [hMl]
  have hadd : ai .add j 1 = ((kj + 1 : Nat) : Int):=by rw [F.add j 1 (by omega) (by omega),hjj];simp
  have haddi : ai .add i 1 = ((ki + 1 : Nat) : Int):=by rw [F.add i 1 (by omega) (by omega),hi];simp
  by_cases hlt : kj < H.length
  · have hb : ab .lss j (ln eM) = true:=by rw [lM,F.lss,hjj];simpa using hlt
    have hkiM : ki < M.length:=by omega
    have hkjM : kj < M.length:=by omega
    have hMj : M[kj]'hkjM = H[kj]:=by
      have e1 : (M.drop kj)[0]? = (H.drop kj)[0]?:=by rw [hMd]
      rw [List.getElem?_drop,List.getElem?_drop,Nat.add_zero,List.getElem?_eq_getElem hkjM,List.getElem?_eq_getElem hlt] at e1
      exact Option.some.inj e1
    have hg : ix eM j = some (rowP H[kj]):=by rw [F.ix _ j kj hjj,hM,← hMj];exact get_rows hkjM
    have hgi : ix eM i = some (rowP (M[ki]'hkiM)):=by rw [F.ix _ i ki hi,hM];exact get_rows hkiM
    have hc:=hw kj hlt
    have hset : isS s H[kj] = false → (M.set ki H[kj]).take (ki + 1) = lessL s (H.take (kj + 1)) ∧ (M.set ki H[kj]).drop (kj + 1) = H.drop (kj + 1):=fun hn => less_set hlt hMl hMt (by omega) hMd hn
    have hskip : isS s H[kj] = true → M.take ki = lessL s (H.take (kj + 1)) ∧ M.drop (kj + 1) = H.drop (kj + 1):=fun hn => by
      refine ⟨by rw [lessL_take hlt,if_pos hn];exact hMt,?_⟩
      have:=congrArg (List.drop 1) hMd
      simpa [List.drop_drop] using this
    have hup : up eM i (rowP H[kj]) = (M.set ki H[kj]).map rowP:=by
      rw [F.up eM i ki _ hi,hM,List.map_set]
    have hMw' : ∀ y ∈ M.set ki H[kj],y.length = 7:=fun y hy => by
      rcases List.mem_or_eq_of_mem_set hy with hy | hy
      · exact hMw y hy
      · rw [hy];exact h _ (List.getElem_mem hlt)
    have hMl' : (M.set ki H[kj]).length = H.length:=by simp [hMl]
    obtain ⟨y0,y1,y2,y3,y4,y5,y6,hy⟩:=list7P (hMw _ (List.getElem_mem hkiM))
    rw [hy] at hgi
    obtain ⟨M',hM'⟩ : ∃ M',M.set ki H[kj] = M':=⟨_,rfl⟩
    rw [hM'] at hset hup hMw' hMl'
    obtain ⟨cb,hcb⟩ : ∃ cb,isS s H[kj] = cb:=⟨_,rfl⟩
    rw [hcb] at hc hset hskip
    obtain ⟨x0,x1,x2,x3,x4,x5,x6,hx⟩:=list7P (h _ (List.getElem_mem hlt))
    rw [hx] at hg hc hup
    have hc : Does Tryz.prog 144 [.agg [.int .i64 x0,.int .i64 x1,.int .i64 x2,.int .i64 x3,.int .i64 x4,.int .i64 x5,.int .i64 x6],.ptr [.int .i64 s]] (.bool cb):=hc
    have hup : up eM i [.int .i64 x0,.int .i64 x1,.int .i64 x2,.int .i64 x3,.int .i64 x4,.int .i64 x5,.int .i64 x6] = M'.map rowP:=hup
    refine sem_of (X:=⟨_,TT,⟨0,42,inPl⟩⟩) har' hTT mixed ?_
    intro S1 Cl1 hS1 hC1
    cbv
    rw [hb];cbv
    repeat (rw [hg];cbv)
    refine ⟨_,hC1 _ _ _ hc,?_⟩;cbv
    rw [F.nt]
    cases cb
    · obtain ⟨k1,k2⟩:=hset rfl
      simp only [Bool.not_false]
      cbv
      repeat (rw [hgi];cbv)
      exact ⟨(ki + 1,kj + 1,ai .add i 1,ai .add j 1,M',up eM i [.int .i64 x0,.int .i64 x1,.int .i64 x2,.int .i64 x3,.int .i64 x4,.int .i64 x5,.int .i64 x6]),⟨hlt,Nat.succ_lt_succ hij,haddi,hadd,hup,hMl',hMw',k1,k2⟩,by dsimp only;omega,⟨by rfl,by cbv;try (repeat (first | exact rfl | exact trivial | refine ⟨?_,?_⟩))⟩⟩
    · obtain ⟨k1,k2⟩:=hskip rfl
      simp only [Bool.not_true]
      cbv
      exact ⟨(ki,kj + 1,i,ai .add j 1,M,eM),⟨hlt,Nat.lt_succ_of_lt hij,hi,hadd,hM,hMl,hMw,k1,k2⟩,by dsimp only;omega,⟨by rfl,by cbv;try (repeat (first | exact rfl | exact trivial | refine ⟨?_,?_⟩))⟩⟩
  · have hb : ab .lss j (ln eM) = false:=by rw [lM,F.lss,hjj];simpa using hlt
    have hkE : kj = H.length:=by omega
    rw [hkE,List.take_length] at hMt
    have hel : eM.length = H.length:=by rw [hM];simp [hMl]
    have hme : ki ≤ eM.length:=by omega
    obtain ⟨E2,hE2⟩ : ∃ E2,eM.take ki ++ List.replicate (eM.length - ki) [.int .i64 0,.int .i64 0,.int .i64 0,.int .i64 0,.int .i64 0,.int .i64 0,.int .i64 0] = E2:=⟨_,rfl⟩
    have htk : (eM.take ki).length = ki:=by rw [List.length_take];omega
    have hsl : sl E2 0 i = some ((lessL s H).map rowP):=by
      have hE2l : ki ≤ E2.length:=by rw [← hE2,List.length_append,htk];omega
      rw [F.sl E2 0 i 0 ki rfl hi (Nat.zero_le _) hE2l]
      simp only [List.drop_zero,Nat.sub_zero]
      rw [← hE2,List.take_left' htk,hM,← List.map_take,hMt]
    obtain ⟨eR,hR⟩ : ∃ es,(lessL s H).map rowP = es:=⟨_,rfl⟩
    have fR : FlatL eR:=by rw [← hR];exact flat_rows _
    rw [hR] at hsl hV
    refine sem_of (X:=⟨_,TT,⟨0,42,inPl⟩⟩) har' hTT mixed ?_
    intro S1 Cl1 hS1 hC1
    cbv
    rw [hb];cbv
    refine hS _ _ _ (sem_clear (T:=TT) (r:=0) (m:=ki) rfl rfl rfl rfl rfl rfl rfl rfl rfl rfl rfl rfl rfl rfl rfl rfl (by decide) (by decide) (hTT 24) rfl rfl rfl rfl hi hme ?_)
    rw [hE2]
    cbv
    rw [hsl];cbv
    refine ⟨?_,fR⟩
    rw [← hV]
    exact PLe.refl _
theorem without_does {T H N : List (List Int)} (h1 : ∀ x ∈ T,x.length = 24) (h2 : ∀ x ∈ H,x.length = 9) (h3 : ∀ x ∈ N,x.length = 7) (hT : T.length ≤ 100000) (hH : H.length ≤ 100000) (hN : N.length ≤ 100000) (s : Int) :
    Does Tryz.prog 115 [accP T H N,.int .i64 s] (accP T (lessL s H) (lessL s N)):=by
  have hcl:=clone_does h1 h2 h3 hT hH hN
  have hd1:=delete9_does h2 hH s
  have hd2:=delete7_does h3 hN s
  obtain ⟨V,hV⟩ : ∃ V,accP T (lessL s H) (lessL s N) = V:=⟨_,rfl⟩
  rw [hV]
  obtain ⟨eT,hT'⟩ : ∃ es,T.map rowP = es:=⟨_,rfl⟩
  obtain ⟨eH,hH'⟩ : ∃ es,H.map rowP = es:=⟨_,rfl⟩
  obtain ⟨eN,hN'⟩ : ∃ es,N.map rowP = es:=⟨_,rfl⟩
  obtain ⟨lH,hlH⟩ : ∃ es,(lessL s H).map rowP = es:=⟨_,rfl⟩
  obtain ⟨lN,hlN⟩ : ∃ es,(lessL s N).map rowP = es:=⟨_,rfl⟩
  simp only [accP,hT',hH',hN',hlH,hlN] at hcl hd1 hd2 hV ⊢
  refine does_of (own:=inPl) Tryz.func115 rfl Tryz.ntmps115 (congrArg Array.toList Tryz.results115) (fun us w => Tryz.call115 us w) hTT mixed (Nat.le_of_ble_eq_true rfl) ?_
  intro w0 im0 D0 S Cl hS hC ar har
  have har':=har
  obtain ⟨ai,ab,nz,inr,fi,pk,ix,ln,sb,eqi,sl,fits,mn,mx,nt,be,up,fu,mg,mh,ms⟩:=ar
  have F:=facts_of har
  clear har
  cbv
  refine ⟨.agg [.own 30 24 eT,.own 32 9 eH,.own 34 7 eN],hC _ (.mark :: _) (.agg [.own 30 24 eT,.own 32 9 eH,.own 34 7 eN]) (show Can Tryz.prog _ (.mark :: _) (.agg [.own 30 24 eT,.own 32 9 eH,.own 34 7 eN]) from hcl),?_⟩;cbv
  refine ⟨.list 9 lH,hC _ (.own 32 9 eH :: _) (.list 9 lH) (show Can Tryz.prog _ (.own 32 9 eH :: _) (.list 9 lH) from hd1),?_⟩;cbv
  refine ⟨.list 7 lN,hC _ (.own 34 7 eN :: _) (.list 7 lN) (show Can Tryz.prog _ (.own 34 7 eN :: _) (.list 7 lN) from hd2),?_⟩;cbv
  rw [← hV]
  exact PLe.refl _
def mvB (T H N : List (List Int)) (s d : Int) (h : List Int) : Bool:=!(dueR T H N (h.getD 0 0) d == dueR T (lessL s H) (lessL s N) (h.getD 0 0) d)
def fndB (H N : List (List Int)) (s : Int) : Bool:=H.any (isS s) || N.any (isS s)
def movE (T H N : List (List Int)) (s d : Int) : Int:=if askE T H N d = 0 then (if fndB H N s = true then 0 else 3) else askE T H N d
def movN (T H N : List (List Int)) (s d : Int) : List Int:=if movE T H N s d = 0 then srcsN (mvB T H N s d) H else []
theorem rMoved_does {T H N : List (List Int)} (h1 : ∀ x ∈ T,x.length = 24) (h2 : ∀ x ∈ H,x.length = 9) (h3 : ∀ x ∈ N,x.length = 7) (s d : Int) :
    Does Tryz.prog 52 [accP T H N,.int .i64 s,.int .i64 d] (.tup [.list 1 (numP (movN T H N s d)),.int .i64 (movE T H N s d)]):=by
  have hA:=asked_does h1 h2 h3 d
  have hW : accOk T H N = true → Does Tryz.prog 58 [accP T H N,.int .i64 s] (.tup [accP T (lessL s H) (lessL s N),.bool (fndB H N s)]):=fun ha => by
    have:=accOk_len ha
    exact rWithout_does h2 h3 (by omega) (by omega) (by omega) s
  have hDu:=fun q => rDues_does h1 h2 h3 q d
  have hDl:=fun q => rDues_does (H:=lessL s H) (N:=lessL s N) h1 (fun x hx => h2 x (List.mem_filter.1 hx).1) (fun x hx => h3 x (List.mem_filter.1 hx).1) q d
  change ∀ q,Does Tryz.prog 37 _ (.tup [.agg (rowP (dueR T H N q d).1),.int .i64 (dueR T H N q d).2]) at hDu
  change ∀ q,Does Tryz.prog 37 _ (.tup [.agg (rowP (dueR T (lessL s H) (lessL s N) q d).1),.int .i64 (dueR T (lessL s H) (lessL s N) q d).2]) at hDl
  have hok : askE T H N d = 0 → accOk T H N = true:=fun h => (askE_ok h).1
  obtain ⟨V,hV⟩ : ∃ V,PV.tup [.list 1 (numP (movN T H N s d)),.int .i64 (movE T H N s d)] = V:=⟨_,rfl⟩
  rw [hV]
  unfold movN movE at hV
  have hmv : ∀ h,mvB T H N s d h = !(dueR T H N (h.getD 0 0) d == dueR T (lessL s H) (lessL s N) (h.getD 0 0) d):=fun _ => rfl
  have f1:=fun q => dueR_four T H N q d
  have f2:=fun q => dueR_four T (lessL s H) (lessL s N) q d
  obtain ⟨e,he⟩ : ∃ e,askE T H N d = e:=⟨_,rfl⟩
  obtain ⟨fb,hfb⟩ : ∃ e,fndB H N s = e:=⟨_,rfl⟩
  obtain ⟨mv,hmvE⟩ : ∃ e,mvB T H N s d = e:=⟨_,rfl⟩
  obtain ⟨D1,hD1⟩ : ∃ f : Int → List Int × Int,(fun q => dueR T H N q d) = f:=⟨_,rfl⟩
  obtain ⟨D2,hD2⟩ : ∃ f : Int → List Int × Int,(fun q => dueR T (lessL s H) (lessL s N) q d) = f:=⟨_,rfl⟩
  have g1 : ∀ q,dueR T H N q d = D1 q:=fun q => by rw [← hD1]
  have g2 : ∀ q,dueR T (lessL s H) (lessL s N) q d = D2 q:=fun q => by rw [← hD2]
  simp only [g1,g2] at hDu hDl hmv f1 f2
  rw [he,hfb,hmvE] at hV
  rw [he] at hA hok
  rw [hfb] at hW
  rw [hmvE] at hmv
  clear he hfb hmvE hD1 hD2 g1 g2
  refine does_of (own:=inPl) Tryz.func52 rfl Tryz.ntmps52 (congrArg Array.toList Tryz.results52) (fun us w => Tryz.call52 us w) hTT mixed (Nat.le_of_ble_eq_true rfl) ?_
  intro w0 im0 D0 S Cl hS hC ar har
  have har':=har
  obtain ⟨ai,ab,nz,inr,fi,pk,ix,ln,sb,eqi,sl,fits,mn,mx,nt,be,up,fu,mg,mh,ms⟩:=ar
  have F:=facts_of har
  clear har
  obtain ⟨eT,hT⟩ : ∃ es,T.map rowP = es:=⟨_,rfl⟩
  obtain ⟨eH,hH⟩ : ∃ es,H.map rowP = es:=⟨_,rfl⟩
  obtain ⟨eN,hN⟩ : ∃ es,N.map rowP = es:=⟨_,rfl⟩
  obtain ⟨lH,hlH⟩ : ∃ es,(lessL s H).map rowP = es:=⟨_,rfl⟩
  obtain ⟨lN,hlN⟩ : ∃ es,(lessL s N).map rowP = es:=⟨_,rfl⟩
  simp only [accP,hT,hH,hN,hlH,hlN] at hA hW hDu hDl ⊢
  have hlnH : ln eH = H.length:=by rw [F.ln,← hH];simp
  cbv
  refine ⟨_,hC _ _ _ hA,?_⟩;cbv
  cases c0 : ab .neq e 0
  rotate_left
  · have h0 : ¬ e = 0:=by rw [F.neq] at c0;simpa using c0
    rw [if_neg h0,if_neg h0] at hV
    cbv
    subst hV
    exact PLe.tup2 (PLe.nil 1) (PLe.refl _)
  have h0 : e = 0:=by rw [F.neq] at c0;simpa using c0
  rw [if_pos h0] at hV
  have hW:=hW (hok h0)
  have hH60:=(accOk_len (hok h0)).2.1
  cbv
  refine ⟨_,hC _ _ _ hW,?_⟩;cbv
  rw [F.nt]
  cases fb
  · cbv
    subst hV
    exact PLe.tup2 (PLe.nil 1) (PLe.refl _)
  simp only [if_true] at hV
  cbv
  refine hS _ _ _ (sem_mkRow 11 1000 3 1 (by rfl) (by rfl) (sem_loopR (fun x : Nat × Int × List (List PV) => [sI 2 d,sP 3 3,sP 9 9,sR 11 1000,sI 12 x.2.1,bX 3 26 [cL 24 eT,cL 9 eH,cL 7 eN],bX 9 26 [cL 24 eT,cL 9 lH,cL 7 lN],rW 1000 3 1 x.2.2]) (fun x => x.1 ≤ H.length ∧ x.2.1 = (x.1 : Int) ∧ x.2.2 = numP (srcsN mv (H.take x.1))) (fun x => H.length - x.1) (0,0,[]) (fun t => t) ⟨by rfl,by cbv;try (repeat (first | exact rfl | exact trivial | refine ⟨?_,?_⟩))⟩ ?_ ?_))
  · exact ⟨by simp,rfl,rfl⟩
  rintro ⟨k,i,es⟩ ⟨hk,hi,hes⟩
  dsimp only at hk hi hes
  have hadd : ai .add i 1 = ((k + 1 : Nat) : Int):=by rw [F.add i 1 (by omega) (by omega),hi];simp
  have hfit : ∀ x,fits 8 es [x] = true:=fun x => F.fits _ _ _ (by
    have:=srcs_len mv (H.take k)
    rw [hes,numP_len];simp only [List.length_take,List.length_singleton] at this ⊢;omega)
  by_cases hlt : k < H.length
  · have hb : ab .lss i (ln eH) = true:=by rw [hlnH,F.lss,hi];simpa using hlt
    have hg : ix eH i = some (rowP H[k]):=by rw [F.ix _ i k hi,← hH];exact get_rows hlt
    have hnext:=srcs_take (p:=mv) hlt
    obtain ⟨x0,x1,x2,x3,x4,x5,x6,x7,x8,hx⟩:=list9 (h2 _ (List.getElem_mem hlt))
    rw [hx] at hg hnext
    rw [hmv] at hnext
    simp only [List.getD_cons_zero] at hnext
    have hd1:=hDu x0
    have hd2:=hDl x0
    obtain ⟨a0,a1,a2,a3,ha⟩:=f1 x0
    obtain ⟨b0,b1,b2,b3,hb4⟩:=f2 x0
    obtain ⟨ae,hae⟩ : ∃ z,(D1 x0).2 = z:=⟨_,rfl⟩
    obtain ⟨be',hbe⟩ : ∃ z,(D2 x0).2 = z:=⟨_,rfl⟩
    rw [ha,hae] at hd1
    rw [hb4,hbe] at hd2
    have hp1 : D1 x0 = ([a0,a1,a2,a3],ae):=by rw [← ha,← hae]
    have hp2 : D2 x0 = ([b0,b1,b2,b3],be'):=by rw [← hb4,← hbe]
    obtain ⟨q,hq⟩ : ∃ q,eqi [.int .i64 a0,.int .i64 a1,.int .i64 a2,.int .i64 a3] [.int .i64 b0,.int .i64 b1,.int .i64 b2,.int .i64 b3] = q:=⟨_,rfl⟩
    have hq2 : ([a0,a1,a2,a3] == [b0,b1,b2,b3]) = q:=by rw [← hq,F.eqi];exact (eqPs_rowP (x:=[a0,a1,a2,a3]) (y:=[b0,b1,b2,b3]) rfl).symm
    have hpair : (D1 x0 == D2 x0) = (q && !ab .neq ae be'):=by
      rw [hp1,hp2,F.neq,← hq2]
      show (([a0,a1,a2,a3] == [b0,b1,b2,b3]) && (ae == be')) = _
      rw [bne,Bool.not_not]
    rw [hpair] at hnext
    have hno : q = true → ab .neq ae be' = false → es = numP (srcsN mv (H.take (k + 1))):=fun h h' => by rw [hnext,h,h',hes];rfl
    have hy1 : q = false → es ++ [[PV.int .i64 x0]] = numP (srcsN mv (H.take (k + 1))):=fun h => by rw [hnext,h,hes,← numP_snoc];rfl
    have hy2 : ab .neq ae be' = true → es ++ [[PV.int .i64 x0]] = numP (srcsN mv (H.take (k + 1))):=fun h => by rw [hnext,h,hes,← numP_snoc];simp
    refine sem_of (X:=⟨_,TT,⟨0,80,inPl⟩⟩) har' hTT mixed ?_
    intro S1 Cl1 hS1 hC1
    cbv
    rw [hb];cbv
    repeat (rw [hg];cbv)
    refine ⟨_,hC1 _ _ _ hd1,?_⟩;cbv
    repeat (rw [hg];cbv)
    refine ⟨_,hC1 _ _ _ hd2,?_⟩;cbv
    rw [hq,F.nt]
    cases q
    · have hy1:=hy1 rfl
      cbv
      repeat (rw [hg];cbv)
      rw [hfit];cbv
      exact ⟨(k + 1,ai .add i 1,es ++ [[PV.int .i64 x0]]),(fun t => bif Nat.beq t 1000 then 78 else t),⟨hlt,hadd,hy1⟩,by dsimp only;omega,⟨by rfl,by cbv;try (repeat (first | exact rfl | exact trivial | refine ⟨?_,?_⟩))⟩⟩
    · cbv
      cases c2 : ab .neq ae be'
      · have hno:=hno rfl c2
        cbv
        exact ⟨(k + 1,ai .add i 1,es),(fun t => t),⟨hlt,hadd,hno⟩,by dsimp only;omega,⟨by rfl,by cbv;try (repeat (first | exact rfl | exact trivial | refine ⟨?_,?_⟩))⟩⟩
      · have hy2:=hy2 c2
        cbv
        repeat (rw [hg];cbv)
        rw [hfit];cbv
        exact ⟨(k + 1,ai .add i 1,es ++ [[PV.int .i64 x0]]),(fun t => bif Nat.beq t 1000 then 78 else t),⟨hlt,hadd,hy2⟩,by dsimp only;omega,⟨by rfl,by cbv;try (repeat (first | exact rfl | exact trivial | refine ⟨?_,?_⟩))⟩⟩
  · have hb : ab .lss i (ln eH) = false:=by rw [hlnH,F.lss,hi];simpa using hlt
    refine sem_of (X:=⟨_,TT,⟨0,80,inPl⟩⟩) har' hTT mixed ?_
    intro S1 Cl1 hS1 hC1
    cbv
    rw [hb];cbv
    subst hV
    refine PLe.of_eq ?_
    rw [hes,List.take_of_length_le (by omega)]
theorem lsOk_pair {ok : List Int → Bool} {m : Nat} {L : List (List Int)} (h : lsOk ok m L = true) : L.Pairwise (fun a b => a.getD 0 0 < b.getD 0 0):=by
  rw [List.pairwise_iff_getElem]
  intro i j hi hj hij
  have:=ls_srt h i j hij hj
  rwa [show L.getD i [] = L[i] by simp [List.getD,hi],show L.getD j [] = L[j] by simp [List.getD,hj]] at this
theorem lsOk_of {ok : List Int → Bool} {m : Nat} {L : List (List Int)} (h1 : L.length ≤ m) (h2 : ∀ x ∈ L,ok x = true) (h3 : L.Pairwise (fun a b => a.getD 0 0 < b.getD 0 0)) : lsOk ok m L = true:=by
  unfold lsOk lsK
  rw [Bool.and_eq_true,decide_eq_true_eq,List.all_eq_true]
  refine ⟨h1,fun k hk => ?_⟩
  have hk:=List.mem_range.1 hk
  rw [lsAt_eq hk,Bool.and_eq_true,Bool.or_eq_true]
  refine ⟨h2 _ (List.getElem_mem hk),?_⟩
  cases k with
  | zero => exact .inl rfl
  | succ k =>
    refine .inr (decide_eq_true ?_)
    rw [List.pairwise_iff_getElem] at h3
    have:=h3 k (k + 1) (by omega) hk (by omega)
    rwa [show L.getD (k + 1 - 1) [] = L[k]'(by omega) by simp [List.getD,show k < L.length by omega]]
theorem lsOk_less {ok : List Int → Bool} {m : Nat} {L : List (List Int)} (h : lsOk ok m L = true) (s : Int) : lsOk ok m (lessL s L) = true :=
  lsOk_of (Nat.le_trans (lessL_len s L) (lsOk_len h)) (fun x hx => lsOk_all h x (List.mem_filter.1 hx).1) ((lsOk_pair h).filter _)
theorem ask_less {T H N : List (List Int)} {d : Int} (h : askE T H N d = 0) (s : Int) : askE T (lessL s H) (lessL s N) d = 0:=by
  obtain ⟨a,b⟩:=askE_ok h
  unfold accOk at a
  simp only [Bool.and_eq_true] at a
  unfold askE accOk
  rw [a.1,lsOk_less a.2.1,lsOk_less a.2.2,inB_iff.2 b]
  rfl
def gDue (E : List (List Int)) (q : Int) : List Int:=match E.find? (fun e => e.getD 0 0 == q) with
  | some e => e.drop 1
  | none => [0,0,0,0]
theorem mGet_dues : ∀ {E : List (List Int)} (_ : ∀ e ∈ E,e.length = 5) (q : Int),mGet 1 (E.map rowP) [.int .i64 q] [.int .i64 0,.int .i64 0,.int .i64 0,.int .i64 0] = rowP (gDue E q):=fun {E} h q => by
  have gen : ∀ (E : List (List Int)),(∀ e ∈ E,e.length = 5) → (mFind 1 (rowP [q]) (E.map rowP) = none ∧ E.find? (fun e => e.getD 0 0 == q) = none) ∨ ∃ i e,mFind 1 (rowP [q]) (E.map rowP) = some i ∧ E[i]? = some e ∧ E.find? (fun e => e.getD 0 0 == q) = some e:=fun E => by
    induction E with
    | nil => intro _;exact .inl ⟨rfl,rfl⟩
    | cons a E ih =>
      intro h
      have hq : eqPs (rowP [q]) ((rowP a).take 1) = (a.getD 0 0 == q):=by
        rw [show (rowP a).take 1 = rowP (a.take 1) by unfold rowP;rw [List.map_take],eqPs_rows]
        have:=h a (by simp)
        cases a with
        | nil => simp at this
        | cons x a =>
          show ((q == x) && true) = (x == q)
          rw [Bool.and_true];exact Bool.beq_comm
      cases hk : (a.getD 0 0 == q) with
      | true => exact .inr ⟨0,a,by simp only [List.map_cons,mFind,hq,hk,if_true],rfl,by simp only [List.find?_cons,hk]⟩
      | false =>
        rcases ih (fun e he => h e (by simp [he])) with ⟨h1,h2⟩ | ⟨i,e,h1,h2,h3⟩
        · exact .inl ⟨by simp only [List.map_cons,mFind,hq,hk,h1,Bool.false_eq_true,if_false,Option.map_none],by simp only [List.find?_cons,hk];exact h2⟩
        · exact .inr ⟨i + 1,e,by simp only [List.map_cons,mFind,hq,hk,h1,Bool.false_eq_true,if_false,Option.map_some],by simpa using h2,by simp only [List.find?_cons,hk];exact h3⟩
  show mGet 1 (E.map rowP) (rowP [q]) _ = _
  unfold mGet gDue
  rcases gen E h with ⟨h1,h2⟩ | ⟨i,e,h1,h2,h3⟩
  · rw [h1,h2];rfl
  · rw [h1,h3]
    have hi:=List.getElem?_eq_some_iff.1 h2
    obtain ⟨hi,rfl⟩:=hi
    have : (E.map rowP).getD i [] = rowP E[i]:=by simp [List.getD,hi]
    show ((E.map rowP).getD i []).drop 1 = rowP (E[i].drop 1)
    rw [this];unfold rowP;rw [List.map_drop]
theorem dueN_four (T N : List (List Int)) (h : List Int) (d : Int) : (dueN T N h d).length = 4:=by
  unfold dueN dueP;split
  · rfl
  · split <;> rfl
theorem dueE_five (T N : List (List Int)) (d : Int) (H : List (List Int)) : ∀ e ∈ H.map (dueE T N d),e.length = 5:=fun e he => by
  obtain ⟨h,_,rfl⟩:=List.mem_map.1 he
  unfold dueE
  rw [List.length_cons,dueN_four]
theorem gDue_eq {T H N : List (List Int)} {d : Int} (hq : askE T H N d = 0) (q : Int) : gDue ((H.filter (cntH d)).map (dueE T N d)) q = (dueR T H N q d).1:=by
  unfold gDue dueR stR staN
  rw [if_pos hq,List.find?_map,List.find?_filter]
  have e1 : (fun a => decide (cntH d a = true ∧ ((fun e : List Int => e.getD 0 0 == q) ∘ dueE T N d) a = true)) = staP q d:=by
    funext a
    show decide (cntH d a = true ∧ (a.getD 0 0 == q) = true) = (a.getD 0 0 == q && cntH d a)
    cases cntH d a <;> cases (a.getD 0 0 == q) <;> rfl
  rw [e1]
  cases H.find? (staP q d) with
  | none => rfl
  | some h => rfl
theorem dueN_pos {T H N : List (List Int)} {d : Int} (hq : askE T H N d = 0) (h : List Int) : (dueN T N h d).getD 0 0 ≠ 0:=by
  have ho:=lotN_own (T:=T) (accOk_N (askE_ok hq).1) h d
  unfold dueN
  split
  · exact fun h => absurd h (show ¬ (2 : Int) = 0 by decide)
  · split
    · exact fun h => absurd h (show ¬ (-1 : Int) = 0 by decide)
    · exact fun h => absurd (show (2 + (lotN T N _ d).getD 0 0 : Int) = 0 from h) (by omega)
theorem dueR_pair {T H N : List (List Int)} {d : Int} (hq : askE T H N d = 0) (q : Int) : (dueR T H N q d).2 = if (dueR T H N q d).1.getD 0 0 = 0 then 65 else 0:=by
  unfold dueR stR staN
  rw [if_pos hq]
  cases H.find? (staP q d) with
  | none => rfl
  | some h =>
    show 0 = if (dueN T N h d).getD 0 0 = 0 then 65 else 0
    rw [if_neg (dueN_pos hq h)]
theorem mvB_eq {T H N : List (List Int)} {s d : Int} (hq : askE T H N d = 0) (h : List Int) : mvB T H N s d h = !((dueR T H N (h.getD 0 0) d).1 == (dueR T (lessL s H) (lessL s N) (h.getD 0 0) d).1):=by
  have e1:=dueR_pair hq (h.getD 0 0)
  have e2:=dueR_pair (ask_less hq s) (h.getD 0 0)
  unfold mvB
  obtain ⟨⟨a,b⟩,ha⟩ : ∃ p,dueR T H N (h.getD 0 0) d = p:=⟨_,rfl⟩
  obtain ⟨⟨a',b'⟩,ha'⟩ : ∃ p,dueR T (lessL s H) (lessL s N) (h.getD 0 0) d = p:=⟨_,rfl⟩
  rw [ha] at e1 ⊢
  rw [ha'] at e2 ⊢
  show (!((a == a') && (b == b'))) = !(a == a')
  cases hc : a == a' with
  | false => rfl
  | true =>
    have : a = a':=by simpa using hc
    subst this
    rw [show b = b' from e1.trans e2.symm];simp
theorem fnd_len (H N : List (List Int)) (s : Int) : fndB H N s = !(decide ((lessL s H).length = H.length) && decide ((lessL s N).length = N.length)):=by
  have one : ∀ L : List (List Int),L.any (isS s) = !decide ((lessL s L).length = L.length):=fun L => by
    unfold lessL
    rw [show decide ((L.filter fun x => !isS s x).length = L.length) = decide (∀ a ∈ L,(!isS s a) = true) from by simp only [List.length_filter_eq_length_iff]]
    cases hc : L.any (isS s) with
    | true =>
      obtain ⟨x,hx,h⟩:=List.any_eq_true.1 hc
      rw [decide_eq_false (fun hh => by have:=hh x hx;rw [h] at this;exact absurd this (by decide))];rfl
    | false =>
      rw [decide_eq_true (fun x hx => by have:=List.any_eq_false.1 hc x hx;simpa using this)];rfl
  unfold fndB
  rw [one,one,Bool.not_and]
theorem pMoved_does {T H N : List (List Int)} (h1 : ∀ x ∈ T,x.length = 24) (h2 : ∀ x ∈ H,x.length = 9) (h3 : ∀ x ∈ N,x.length = 7) (s d : Int) :
    Does Tryz.prog 51 [accP T H N,.int .i64 s,.int .i64 d] (.tup [.list 1 (numP (movN T H N s d)),.int .i64 (movE T H N s d)]):=by
  have hCk:=pcheck_does h1 h2 h3
  have hDy:=checkDay_does d
  have hOr:=orE_does [err (accOk T H N) 63,err (inB d 0 100000) 6]
  rw [askE_or] at hOr
  have hW : askE T H N d = 0 → Does Tryz.prog 115 [accP T H N,.int .i64 s] (accP T (lessL s H) (lessL s N)):=fun h => by
    have:=accOk_len (askE_ok h).1
    exact without_does h1 h2 h3 (by omega) (by omega) (by omega) s
  have hd1:=fun (h : askE T H N d = 0) => dues_does h1 h2 h3 h
  have hd2:=fun (h : askE T H N d = 0) => dues_does (H:=lessL s H) (N:=lessL s N) h1 (fun x hx => h2 x (List.mem_filter.1 hx).1) (fun x hx => h3 x (List.mem_filter.1 hx).1) (ask_less h s)
  have hm1 : askE T H N d = 0 → ∀ q : Int,mGet 1 (((H.filter (cntH d)).map (dueE T N d)).map rowP) [.int .i64 q] [.int .i64 0,.int .i64 0,.int .i64 0,.int .i64 0] = rowP (dueR T H N q d).1:=fun h q => by
    rw [mGet_dues (dueE_five T N d _) q,gDue_eq h q]
  have hm2 : askE T H N d = 0 → ∀ q : Int,mGet 1 ((((lessL s H).filter (cntH d)).map (dueE T (lessL s N) d)).map rowP) [.int .i64 q] [.int .i64 0,.int .i64 0,.int .i64 0,.int .i64 0] = rowP (dueR T (lessL s H) (lessL s N) q d).1:=fun h q => by
    rw [mGet_dues (dueE_five T _ d _) q,gDue_eq (ask_less h s) q]
  have hmv : askE T H N d = 0 → ∀ h,mvB T H N s d h = !((dueR T H N (h.getD 0 0) d).1 == (dueR T (lessL s H) (lessL s N) (h.getD 0 0) d).1):=fun h x => mvB_eq h x
  have hfn:=fnd_len H N s
  have hlenH : askE T H N d = 0 → H.length ≤ 60:=fun h => (accOk_len (askE_ok h).1).2.1
  have f1:=fun q => dueR_four T H N q d
  have f2:=fun q => dueR_four T (lessL s H) (lessL s N) q d
  obtain ⟨V,hV⟩ : ∃ V,PV.tup [.list 1 (numP (movN T H N s d)),.int .i64 (movE T H N s d)] = V:=⟨_,rfl⟩
  rw [hV]
  unfold movN movE at hV
  obtain ⟨e,he⟩ : ∃ e,askE T H N d = e:=⟨_,rfl⟩
  obtain ⟨fb,hfb⟩ : ∃ e,fndB H N s = e:=⟨_,rfl⟩
  obtain ⟨mv,hmvE⟩ : ∃ e,mvB T H N s d = e:=⟨_,rfl⟩
  obtain ⟨D1,hD1⟩ : ∃ f : Int → List Int,(fun q => (dueR T H N q d).1) = f:=⟨_,rfl⟩
  obtain ⟨D2,hD2⟩ : ∃ f : Int → List Int,(fun q => (dueR T (lessL s H) (lessL s N) q d).1) = f:=⟨_,rfl⟩
  have g1 : ∀ q,(dueR T H N q d).1 = D1 q:=fun q => by rw [← hD1]
  have g2 : ∀ q,(dueR T (lessL s H) (lessL s N) q d).1 = D2 q:=fun q => by rw [← hD2]
  simp only [g1,g2] at hm1 hm2 hmv f1 f2
  rw [he,hfb,hmvE] at hV
  rw [hmvE] at hmv
  rw [hfb] at hfn
  rw [he] at hOr hW hd1 hd2 hm1 hm2 hmv hlenH
  generalize err (accOk T H N) 63 = e1 at *
  generalize err (inB d 0 100000) 6 = e2 at *
  clear he hfb hmvE hD1 hD2 g1 g2
  obtain ⟨E1,hE1⟩ : ∃ es,((H.filter (cntH d)).map (dueE T N d)).map rowP = es:=⟨_,rfl⟩
  obtain ⟨E2,hE2⟩ : ∃ es,(((lessL s H).filter (cntH d)).map (dueE T (lessL s N) d)).map rowP = es:=⟨_,rfl⟩
  rw [hE1] at hd1 hm1
  rw [hE2] at hd2 hm2
  obtain ⟨eT,hT⟩ : ∃ es,T.map rowP = es:=⟨_,rfl⟩
  obtain ⟨eH,hH⟩ : ∃ es,H.map rowP = es:=⟨_,rfl⟩
  obtain ⟨eN,hN⟩ : ∃ es,N.map rowP = es:=⟨_,rfl⟩
  obtain ⟨lH,hlH⟩ : ∃ es,(lessL s H).map rowP = es:=⟨_,rfl⟩
  obtain ⟨lN,hlN⟩ : ∃ es,(lessL s N).map rowP = es:=⟨_,rfl⟩
  simp only [accP,hT,hH,hN,hlH,hlN] at hCk hW hd1 hd2 ⊢
  refine does_of (own:=inPl) Tryz.func51 rfl Tryz.ntmps51 (congrArg Array.toList Tryz.results51) (fun us w => Tryz.call51 us w) hTT mixed (Nat.le_of_ble_eq_true rfl) ?_
  intro w0 im0 D0 S Cl hS hC ar har
  have har':=har
  obtain ⟨ai,ab,nz,inr,fi,pk,ix,ln,sb,eqi,sl,fits,mn,mx,nt,be,up,fu,mg,mh,ms⟩:=ar
  have F:=facts_of har
  clear har
  have hlnH : ln eH = H.length:=by rw [F.ln,← hH];simp
  have hlnN : ln eN = N.length:=by rw [F.ln,← hN];simp
  have hllH : ln lH = (lessL s H).length:=by rw [F.ln,← hlH];simp
  have hllN : ln lN = (lessL s N).length:=by rw [F.ln,← hlN];simp
  have hq1 : ab .eql (ln lH) (ln eH) = decide ((lessL s H).length = H.length):=by
    rw [F.eql,hllH,hlnH]
    by_cases hh : (lessL s H).length = H.length
    · rw [hh];simp
    · rw [decide_eq_false hh];rw [beq_eq_false_iff_ne];omega
  have hq2 : ab .eql (ln lN) (ln eN) = decide ((lessL s N).length = N.length):=by
    rw [F.eql,hllN,hlnN]
    by_cases hh : (lessL s N).length = N.length
    · rw [hh];simp
    · rw [decide_eq_false hh];rw [beq_eq_false_iff_ne];omega
  rw [← hq1,← hq2] at hfn
  clear hllH hllN hq1 hq2
  cbv
  refine ⟨_,hC _ _ _ hCk,?_⟩;cbv
  refine ⟨_,hC _ _ _ hDy,?_⟩;cbv
  refine ⟨_,hC _ _ _ hOr,?_⟩;cbv
  cases c0 : ab .neq e 0
  rotate_left
  · have h0 : ¬ e = 0:=by rw [F.neq] at c0;simpa using c0
    rw [if_neg h0,if_neg h0] at hV
    cbv
    subst hV
    exact PLe.tup2 (PLe.nil 1) (PLe.refl _)
  have h0 : e = 0:=by rw [F.neq] at c0;simpa using c0
  rw [if_pos h0] at hV
  have hW:=hW h0
  have hd1:=hd1 h0
  have hd2:=hd2 h0
  have hm1:=hm1 h0
  have hm2:=hm2 h0
  have hmv:=hmv h0
  have hH60:=hlenH h0
  cbv
  refine ⟨_,hC _ _ _ hW,?_⟩;cbv
  have hnone : fb = false → PLe (.tup [.nil,.int .i64 3]) V:=fun h => by
    rw [h] at hV;subst hV;exact PLe.tup2 (PLe.nil 1) (PLe.refl _)
  have hgo : fb = true → PV.tup [.list 1 (numP (srcsN mv H)),.int .i64 0] = V:=fun h => by rw [h] at hV;exact hV
  clear hV
  have hfb : (ab .eql (ln lH) (ln eH) = true ∧ ab .eql (ln lN) (ln eN) = true ∧ fb = false) ∨ ((ab .eql (ln lH) (ln eH) = false ∨ (ab .eql (ln lH) (ln eH) = true ∧ ab .eql (ln lN) (ln eN) = false)) ∧ fb = true):=by
    rw [hfn]
    cases ab .eql (ln lH) (ln eH) <;> cases ab .eql (ln lN) (ln eN) <;> simp
  rcases hfb with ⟨c1,c2,rfl⟩ | ⟨hor,rfl⟩
  · rw [c1];cbv
    rw [c2];cbv
    exact hnone rfl
  have hgo:=hgo rfl
  clear hfn hnone
  rcases hor with c1 | ⟨c1,c2⟩
  all_goals (rw [c1];cbv)
  rotate_left
  rw [c2];cbv
  all_goals
    refine ⟨_,hC _ _ _ hd1,?_⟩;cbv
    refine ⟨_,hC _ _ _ hd2,?_⟩;cbv
    refine hS _ _ _ (sem_mkRow 12 1000 3 1 (by rfl) (by rfl) (sem_loopR (fun x : Nat × Int × List (List PV) => [(kT 10,.t (.c (.p (.map false true [.int .i64 0] E1)))),(kT 11,.t (.c (.p (.map false true [.int .i64 0] E2)))),sR 12 1000,sL 50 9 eH,sI 51 (ln eH),sI 52 x.2.1,rW 1000 3 1 x.2.2]) (fun x => x.1 ≤ H.length ∧ x.2.1 = (x.1 : Int) ∧ x.2.2 = numP (srcsN mv (H.take x.1))) (fun x => H.length - x.1) (0,0,[]) (fun t => t) ⟨by rfl,by cbv;try (repeat (first | exact rfl | exact trivial | refine ⟨?_,?_⟩))⟩ ?_ ?_))
    · exact ⟨by simp,rfl,rfl⟩
    rintro ⟨k,i,es⟩ ⟨hk,hi,hes⟩
    dsimp only at hk hi hes
    have hadd : ai .add i 1 = ((k + 1 : Nat) : Int):=by rw [F.add i 1 (by omega) (by omega),hi];simp
    have hfit : ∀ x,fits 8 es [x] = true:=fun x => F.fits _ _ _ (by
      have:=srcs_len mv (H.take k)
      rw [hes,numP_len];simp only [List.length_take,List.length_singleton] at this ⊢;omega)
    by_cases hlt : k < H.length
    · have hb : ab .lss i (ln eH) = true:=by rw [hlnH,F.lss,hi];simpa using hlt
      have hg : ix eH i = some (rowP H[k]):=by rw [F.ix _ i k hi,← hH];exact get_rows hlt
      have hnext:=srcs_take (p:=mv) hlt
      obtain ⟨x0,x1,x2,x3,x4,x5,x6,x7,x8,hx⟩:=list9 (h2 _ (List.getElem_mem hlt))
      rw [hx] at hg hnext
      rw [hmv] at hnext
      simp only [List.getD_cons_zero] at hnext
      obtain ⟨a0,a1,a2,a3,ha⟩:=f1 x0
      obtain ⟨b0,b1,b2,b3,hb4⟩:=f2 x0
      have p1 : mg 1 E1 [.int .i64 x0] [.int .i64 0,.int .i64 0,.int .i64 0,.int .i64 0] = [.int .i64 a0,.int .i64 a1,.int .i64 a2,.int .i64 a3]:=by rw [F.mg];exact (hm1 x0).trans (congrArg rowP ha)
      have p2 : mg 1 E2 [.int .i64 x0] [.int .i64 0,.int .i64 0,.int .i64 0,.int .i64 0] = [.int .i64 b0,.int .i64 b1,.int .i64 b2,.int .i64 b3]:=by rw [F.mg];exact (hm2 x0).trans (congrArg rowP hb4)
      obtain ⟨q,hq⟩ : ∃ q,eqi [.int .i64 a0,.int .i64 a1,.int .i64 a2,.int .i64 a3] [.int .i64 b0,.int .i64 b1,.int .i64 b2,.int .i64 b3] = q:=⟨_,rfl⟩
      have hq2 : ([a0,a1,a2,a3] == [b0,b1,b2,b3]) = q:=by rw [← hq,F.eqi];exact (eqPs_rowP (x:=[a0,a1,a2,a3]) (y:=[b0,b1,b2,b3]) rfl).symm
      rw [ha,hb4,hq2] at hnext
      have hno : q = true → es = numP (srcsN mv (H.take (k + 1))):=fun h => by rw [hnext,h,hes];rfl
      have hy1 : q = false → es ++ [[PV.int .i64 x0]] = numP (srcsN mv (H.take (k + 1))):=fun h => by rw [hnext,h,hes,← numP_snoc];rfl
      refine sem_of (X:=⟨_,TT,⟨0,72,inPl⟩⟩) har' hTT mixed ?_
      intro S1 Cl1 hS1 hC1
      cbv
      rw [hb];cbv
      repeat (rw [hg];cbv)
      repeat (rw [p1];cbv)
      repeat (rw [p2];cbv)
      rw [hq,F.nt]
      cases q
      · have hy1:=hy1 rfl
        cbv
        repeat (rw [hg];cbv)
        rw [hfit];cbv
        exact ⟨(k + 1,ai .add i 1,es ++ [[PV.int .i64 x0]]),(fun t => bif Nat.beq t 1000 then 69 else t),⟨hlt,hadd,hy1⟩,by dsimp only;omega,⟨by rfl,by cbv;try (repeat (first | exact rfl | exact trivial | refine ⟨?_,?_⟩))⟩⟩
      · have hno:=hno rfl
        cbv
        exact ⟨(k + 1,ai .add i 1,es),(fun t => t),⟨hlt,hadd,hno⟩,by dsimp only;omega,⟨by rfl,by cbv;try (repeat (first | exact rfl | exact trivial | refine ⟨?_,?_⟩))⟩⟩
    · have hb : ab .lss i (ln eH) = false:=by rw [hlnH,F.lss,hi];simpa using hlt
      refine sem_of (X:=⟨_,TT,⟨0,72,inPl⟩⟩) har' hTT mixed ?_
      intro S1 Cl1 hS1 hC1
      cbv
      rw [hb];cbv
      subst hgo
      refine PLe.of_eq ?_
      rw [hes,List.take_of_length_le (by omega)]
theorem fineStays_does (hs : Does Tryz.prog 11 [] (.bool true)) {T H N : List (List Int)} (h1 : ∀ x ∈ T,x.length = 24) (h2 : ∀ x ∈ H,x.length = 9) (h3 : ∀ x ∈ N,x.length = 7) (o way s d : Int) :
    Does Tryz.prog 7 [accP T H N,.agg [.int .i64 o,.int .i64 way,.int .i64 s,.int .i64 d]] (.bool true):=by
  have a1:=pOwed_does h1 h2 h3 o d
  have a2:=rOwed_does h1 h2 h3 o d
  have b1:=pInside_does h1 h2 h3 d
  have b2:=rInside_does h1 h2 h3 d
  have c1:=pEnded_does h1 h2 h3 way d
  have c2:=rEnded_does h1 h2 h3 way d
  have d1:=pMoved_does h1 h2 h3 s d
  have d2:=rMoved_does h1 h2 h3 s d
  generalize (if askE T H N d = 0 then srcsN (insH T N d) H else []) = iv at *
  generalize endN T H N way d = ev at *
  generalize movN T H N s d = mv at *
  generalize movE T H N s d = me at *
  generalize oweN T H N o d = ow at *
  generalize thrE T H N (inB o 1 99) d = oe at *
  generalize thrE T H N (inB way 0 4) d = we at *
  generalize askE T H N d = ae at *
  have s1:=sameInts_does iv iv
  have s2:=sameInts_does ev ev
  have s3:=sameInts_does mv mv
  rw [show (iv == iv) = true by simp] at s1
  rw [show (ev == ev) = true by simp] at s2
  rw [show (mv == mv) = true by simp] at s3
  refine does_of (own:=inPl) Tryz.func7 rfl Tryz.ntmps7 (congrArg Array.toList Tryz.results7) (fun us w => Tryz.call7 us w) hTT mixed (Nat.le_of_ble_eq_true rfl) ?_
  intro w0 im0 D0 S Cl hS hC ar har
  have har':=har
  obtain ⟨ai,ab,nz,inr,fi,pk,ix,ln,sb,eqi,sl,fits,mn,mx,nt,be,up,fu,mg,mh,ms⟩:=ar
  have F:=facts_of har
  clear har
  obtain ⟨eT,hT⟩ : ∃ es,T.map rowP = es:=⟨_,rfl⟩
  obtain ⟨eH,hH⟩ : ∃ es,H.map rowP = es:=⟨_,rfl⟩
  obtain ⟨eN,hN⟩ : ∃ es,N.map rowP = es:=⟨_,rfl⟩
  obtain ⟨eI,hI⟩ : ∃ es,numP iv = es:=⟨_,rfl⟩
  obtain ⟨eE,hE⟩ : ∃ es,numP ev = es:=⟨_,rfl⟩
  obtain ⟨eM,hM⟩ : ∃ es,numP mv = es:=⟨_,rfl⟩
  simp only [accP,hT,hH,hN,hI,hE,hM] at a1 a2 b1 b2 c1 c2 d1 d2 s1 s2 s3 ⊢
  have q : ∀ x : Int,ab .eql x x = true:=fun x => by rw [F.eql];simp
  cbv
  refine ⟨_,hC _ _ _ hs,?_⟩;cbv
  refine ⟨_,hC _ _ _ a1,?_⟩;cbv
  refine ⟨_,hC _ _ _ a2,?_⟩;cbv
  refine ⟨_,hC _ _ _ b1,?_⟩;cbv
  refine ⟨_,hC _ _ _ b2,?_⟩;cbv
  refine ⟨_,hC _ _ _ c1,?_⟩;cbv
  refine ⟨_,hC _ _ _ c2,?_⟩;cbv
  refine ⟨_,hC _ _ _ d1,?_⟩;cbv
  refine ⟨_,hC _ _ _ d2,?_⟩;cbv
  refine ⟨_,hC _ _ _ s1,?_⟩;cbv
  refine ⟨_,hC _ _ _ s2,?_⟩;cbv
  refine ⟨_,hC _ _ _ s3,?_⟩;cbv
  repeat (rw [q];cbv)
  exact PLe.refl _
end Go.Proofs.YtjimjdhdnkhfnaaGreat
