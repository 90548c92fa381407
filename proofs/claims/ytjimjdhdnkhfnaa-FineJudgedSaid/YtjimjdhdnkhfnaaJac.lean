/- Contracts of functions of the program and of the reference, a calculus of states, and plain facts: a part of a proof. Own text. -/
import Derived.Test.YtjimjdhdnkhfnaaJab
import Derived.Great.BuildSlice
import Derived.Great.FillDense
import Derived.Deep.Upon
set_option linter.unusedVariables false
set_option linter.unusedSimpArgs false
set_option linter.unusedSectionVars false
set_option linter.unnecessarySimpa false
namespace Go.Proofs.Ytjimjdhdnkhfnaa
open Go Go.RowKit
def nthL {α : Type} : List α → Nat → Option α
  | [], _ => none
  | c :: _, 0 => some c
  | _ :: r, n + 1 => nthL r n
theorem nthL_eq {α : Type} : ∀ (l : List α) (n : Nat), nthL l n = l[n]?
  | [], n => by simp [nthL]
  | c :: _, 0 => by simp [nthL]
  | _ :: r, n + 1 => by simp [nthL, nthL_eq r n]
section
variable {P : Program} {w0 : World} {im0 : Nat → Prop} {N : NN} {D : Env} {bm : Nat → Nat} {rm : Nat → Value} {L : Lk} {a : Act} {w w' : World} {o : Oper} {im : Nat → Prop}
theorem fieldsB_get : ∀ {F : List Field} {fs : List (Nat × Nat × Bool)}, fieldsB P F fs = true → ∀ {i o s : Nat} {g : Bool}, fs[i]? = some (o, s, g) →
    ∃ f, F[i]? = some f ∧ f.offset = o ∧ sizeB P f.type s = true ∧ aggB P f.type g = true
  | [], [], _, i, o, s, g, h => by simp at h
  | [], _ :: _, h, _, _, _, _, _ => by simp [fieldsB] at h
  | _ :: _, [], h, _, _, _, _, _ => by simp [fieldsB] at h
  | f :: F, (o', s', g') :: fs, h, i, o, s, g, hi => by
    simp only [fieldsB, Bool.and_eq_true] at h
    obtain ⟨⟨⟨h1, h2⟩, h3⟩, h4⟩ := h
    cases i with
    | zero =>
      simp only [List.getElem?_cons_zero, Option.some.injEq, Prod.mk.injEq] at hi
      obtain ⟨rfl, rfl, rfl⟩ := hi
      exact ⟨f, rfl, by simpa using h1, h2, h3⟩
    | succ i => simpa using fieldsB_get h4 (i := i) (by simpa using hi)
theorem lay_st {t : TypeId} {cm : Bool} {fs : List (Nat × Nat × Bool)} {z : List PV} (h : LayOK P t (.st cm fs z)) : ∃ F, P.underlying t = some (.struct F) ∧ fieldsB P F.toList fs = true := by
  unfold LayOK layB at h
  simp only [Bool.and_eq_true] at h
  cases hu : P.underlying t with
  | none => simp [hu] at h
  | some d => cases d <;> simp_all
theorem lay_arr {t : TypeId} {cm : Bool} {len esz : Nat} {eagg : Bool} {z : List PV} (h : LayOK P t (.arr cm len esz eagg z)) : ∃ e, P.underlying t = some (.array len e) ∧ sizeB P e esz = true ∧ aggB P e eagg = true := by
  unfold LayOK layB at h
  simp only [Bool.and_eq_true] at h
  cases hu : P.underlying t with
  | none => simp [hu] at h
  | some d => cases d <;> simp_all
theorem lay_sl {t e : TypeId} {esz bytes : Nat} {eagg : Bool} {ez : List PV} (h : LayOK P t (.sl e esz bytes eagg ez)) :
    P.underlying t = some (.slice e) ∧ sizeB P e esz = true ∧ aggB P e eagg = true ∧ zeroOfB P e ez = true ∧ ez.length = esz ∧ ∃ i, P.info? e = some i ∧ i.bytes = bytes := by
  unfold LayOK layB at h
  simp only [Bool.and_eq_true] at h
  obtain ⟨⟨⟨⟨⟨⟨⟨h1, h2⟩, h3⟩, h4⟩, h5⟩, h6⟩, h7⟩, h8⟩ := h
  cases hu : P.underlying t with
  | none => simp [hu] at h1
  | some d =>
    cases d <;> simp [hu] at h1
    subst h1
    refine ⟨rfl, h4, h5, h6, by simpa using h7, ?_⟩
    cases hi : P.info? _ with
    | none => simp [hi] at h8
    | some i => exact ⟨i, rfl, by simpa [hi] using h8⟩
def evFieldAddr (T : TypeId → Lay) (N : NN) (o : Oper) (s : TypeId) (x : Operand) (f : Nat) : Ask := match T s with
  | .st _ fs _ => match nthL fs f with
    | some (fo, sz, _) => bif Nat.blt 0 sz then (opd x fun p => match p with
      | .c (.ptr k off) => putA N o.dst (.c (.ptr k (off + fo))) []
      | .c (.p (.ptr cs)) => putA N o.dst (.c (.p (.ptr (cs.drop fo)))) []
      | .c (.rptr r q i off) => putA N o.dst (.c (.rptr r q i (off + fo))) []
      | _ => .fail) else .fail
    | none => .fail
  | _ => .fail
theorem evFieldAddr_ok {T : TypeId → Lay} (hT : ∀ t, LayOK P t (T t)) (h : RelAt w0 im0 N D bm rm L a w) {s : TypeId} {x : Operand} {f : Nat} {R : List Nat} {z : Deed} (hr : (evFieldAddr T N o s x f).run L R = some z) (ho : o.op = .fieldAddr s x f) : Res P w0 im0 N D o a w (ovr z.1 L) := by
  unfold evFieldAddr at hr
  split at hr
  · rename_i cm fs zs hlay
    have hs := hT s
    rw [hlay] at hs
    obtain ⟨F, hu, hF⟩ := lay_st hs
    split at hr
    · rename_i fo sz g hf
      rw [nthL_eq] at hf
      obtain ⟨fd, hfd, hoff, hsz, _⟩ := fieldsB_get hF hf
      have hfd' : F[f]? = some fd := by simpa using hfd
      have hrun : ∀ b o', (Instr.fieldAt s (.pointer (some ⟨b, o', none⟩)) f).run P w = (if sz = 0 then (partAt ⟨b, o', none⟩ fd.offset fd.byteOffset >>= fun x => pure (Value.pointer (some x))).run P w else .ok (.pointer (some ⟨b, o' + fo, none⟩)) w) := by
        intro b o'
        simp only [Instr.fieldAt, Sem.run_bind, run_underlying hu w, Result.andThen_ok, hfd', Instr.sureAddr, Sem.run_pure, fieldPlace, sizeB_run hsz w, Sem.run_ite]
        split
        · simp
        · simp [Addr.add_mid, hoff]
      cases hg : Nat.blt 0 sz with
      | false => rw [hg] at hr; simp [AskR.run] at hr
      | true =>
        rw [hg] at hr
        simp only [cond_true] at hr
        have hne : sz ≠ 0 := by simp [Nat.blt_eq] at hg; omega
        simp only [hne, if_false] at hrun
        replace hr := opd_inv h hr; obtain ⟨p, R1, hp, hr⟩ := hr
        split at hr
        · rename_i k off
          have hx : a.eval x = .pointer (some ⟨bm k, off, none⟩) := hp.rep
          refine res_put (v := .c (.ptr k (off + fo))) (u := .pointer (some ⟨bm k, off + fo, none⟩)) h ⟨rfl, by simpa [TV.boxes, CV.boxes] using hp.wb, by simp [TV.rows, CV.rows]⟩ hr ?_
          simp [execOp, ho, hx, hrun]
        · rename_i cs
          obtain ⟨b, o', us, hx, hb, hrg, hrep⟩ : ∃ b o' us, a.eval x = .pointer (some ⟨b, o', none⟩) ∧ _ ∧ w.rangeAt b o' us ∧ RepL _ w cs us := by have := hp.rep; simpa only [RepT, RepV, RepP] using this
          refine res_put (u := .pointer (some ⟨b, o' + fo, none⟩)) h (holds_pv ?_) hr ?_
          · simp only [RepP]
            exact ⟨b, o' + fo, us.drop fo, rfl, hb, rangeAt_drop hrg, hrep.drop fo⟩
          · simp [execOp, ho, hx, hrun]
        · rename_i r q i off
          obtain ⟨b, hb, hi, hx⟩ : ∃ b, (rm r).ownBlock = some b ∧ 0 ≤ i ∧ a.eval x = .pointer (some ⟨b, i.toNat * q + off, none⟩) := hp.rep
          refine res_put (v := .c (.rptr r q i (off + fo))) (u := .pointer (some ⟨b, i.toNat * q + (off + fo), none⟩)) h ⟨⟨b, hb, hi, rfl⟩, by simp [TV.boxes, CV.boxes], by simpa [TV.rows, CV.rows] using hp.wr⟩ hr ?_
          simp [execOp, ho, hx, hrun, Nat.add_assoc]
        · simp [AskR.run] at hr
    · simp [AskR.run] at hr
  · simp [AskR.run] at hr
def partC (cs : List CV) (off sz : Nat) (g : Bool) : Option TV :=
  bif g then (bif Nat.ble (off + sz) cs.length then some (.agg ((cs.drop off).take sz)) else none) else match nthC cs off with | some c => some (.c c) | none => none
theorem part_run {t : TypeId} {cs : List CV} {us : List Value} {off sz : Nat} {g : Bool} {v : TV} (hs : sizeB P t sz = true) (hg : aggB P t g = true) (hv : RepVs bm rm im w cs us) (h : partC cs off sz g = some v) :
    ∃ u, (part t us.toArray off).run P w = .ok u w ∧ RepT bm rm im w v u ∧ (∀ k ∈ v.boxes, k ∈ cs.flatMap CV.boxes) ∧ (∀ k ∈ v.rows, k ∈ cs.flatMap CV.rows) := by
  unfold partC at h
  obtain ⟨hagg, _⟩ := aggB_run hg w
  have hsz := sizeB_run hs w
  cases g with
  | true =>
    simp only [cond_true] at h
    cases hle : Nat.ble (off + sz) cs.length with
    | false => simp [hle] at h
    | true =>
      simp only [hle, cond_true, Option.some.injEq] at h
      subst h
      refine ⟨.agg ((us.drop off).take sz).toArray, ?_, ⟨_, rfl, (hv.drop off).take sz⟩, flat_sub fun c hc => List.mem_of_mem_drop (List.mem_of_mem_take hc), flat_sub fun c hc => List.mem_of_mem_drop (List.mem_of_mem_take hc)⟩
      simp [part, hagg, hsz]
  | false =>
    simp only [cond_false, nthC_eq] at h
    cases hc : cs[off]? with
    | none => simp [hc] at h
    | some c =>
      simp only [hc, Option.some.injEq] at h
      subst h
      obtain ⟨u, hu', hrep⟩ := hv.get hc
      refine ⟨u, ?_, hrep, fun k hk => List.mem_flatMap.2 ⟨c, List.mem_of_getElem? hc, hk⟩, fun k hk => List.mem_flatMap.2 ⟨c, List.mem_of_getElem? hc, hk⟩⟩
      simp [part, hagg, hu']
theorem holds_sub {cs : List CV} {v : TV} {u x : Value} (hx : Holds w0 im0 bm rm L w (.agg cs) x) (hrep : RepT bm rm (imOf w0.heap.size im0 bm rm L w) w v u) (hb : ∀ k ∈ v.boxes, k ∈ cs.flatMap CV.boxes) (hr : ∀ k ∈ v.rows, k ∈ cs.flatMap CV.rows) : Holds w0 im0 bm rm L w v u :=
  ⟨hrep, fun k hk => hx.wb k (hb k hk), fun k hk => hx.wr k (hr k hk)⟩
def evField (T : TypeId → Lay) (N : NN) (o : Oper) (s : TypeId) (x : Operand) (f : Nat) : Ask := match T s with
  | .st _ fs _ => match nthL fs f with
    | some (fo, sz, g) => opd x fun p => match p with
      | .agg cs => match partC cs fo sz g with
        | some v => putA N o.dst v []
        | none => .fail
      | _ => .fail
    | none => .fail
  | _ => .fail
theorem evField_ok {T : TypeId → Lay} (hT : ∀ t, LayOK P t (T t)) (h : RelAt w0 im0 N D bm rm L a w) {s : TypeId} {x : Operand} {f : Nat} {R : List Nat} {z : Deed} (hr : (evField T N o s x f).run L R = some z) (ho : o.op = .field s x f) : Res P w0 im0 N D o a w (ovr z.1 L) := by
  unfold evField at hr
  split at hr
  · rename_i cm fs zs hlay
    have hs := hT s
    rw [hlay] at hs
    obtain ⟨F, hu, hF⟩ := lay_st hs
    split at hr
    · rename_i fo sz g hf
      rw [nthL_eq] at hf
      obtain ⟨fd, hfd, hoff, hsz, hag⟩ := fieldsB_get hF hf
      have hfd' : F[f]? = some fd := by simpa using hfd
      replace hr := opd_inv h hr; obtain ⟨p, R1, hp, hr⟩ := hr
      split at hr
      · rename_i cs
        obtain ⟨us, hx, hrep⟩ := hp.rep
        split at hr
        · rename_i v hv
          obtain ⟨u, hrun, hur, hub, huw⟩ := part_run hsz hag hrep hv
          refine res_put h (holds_sub hp hur hub huw) hr ?_
          simp [execOp, ho, hx, Instr.field, run_underlying hu, hfd', asAgg, hoff, hrun]
        · simp [AskR.run] at hr
      · simp [AskR.run] at hr
    · simp [AskR.run] at hr
  · simp [AskR.run] at hr
def cix : Operand → Option Nat
  | .const (.int .i64 (.ofNat m)) => some m
  | _ => none
theorem cix_eval {x : Operand} {n : Nat} (h : cix x = some n) : a.eval x = .int .i64 n := by
  unfold cix at h
  split at h
  · cases h; rfl
  · cases h
def evIndexAddr (ar : Ar) (T : TypeId → Lay) (N : NN) (o : Oper) (t : TypeId) (x ix : Operand) : Ask := match T t with
  | .sl _ esz _ _ _ => opd x fun p => opd ix fun q => match p, q with
    | .c (.p (.list k es)), .c (.p (.int .i64 i)) => bif Nat.beq k esz then (match ar.ix es i with
      | some e => putA N o.dst (.c (.p (.ptr e))) []
      | none => .fail) else .fail
    | .c (.row r), .c (.p (.int .i64 i)) => .get (kR r) fun c => match c with
      | .row _ k es => bif Nat.beq k esz then (match ar.ix es i with
        | some _ => putA N o.dst (.c (.rptr r k i 0)) []
        | none => .fail) else .fail
      | _ => .fail
    | _, _ => .fail
  | .arr _ len esz _ _ => match cix ix with
    | some n => bif Nat.blt n len then (opd x fun p => match p with
      | .c (.ptr k off) => putA N o.dst (.c (.ptr k (off + n * esz))) []
      | .c (.p (.ptr cs)) => putA N o.dst (.c (.p (.ptr (cs.drop (n * esz))))) []
      | .c (.rptr r q i off) => putA N o.dst (.c (.rptr r q i (off + n * esz))) []
      | _ => .fail) else .fail
    | none => bif Nat.beq esz 1 then (opd x fun p => opd ix fun q => match p, q with
      | .c (.ptr k off), .c (.p (.int .i64 i)) => bif ar.inr len i then putA N o.dst (.c (.aptr k off len i)) [] else .fail
      | .c (.p (.ptr cs)), .c (.p (.int .i64 i)) => bif Nat.ble len cs.length && ar.inr len i then (match asInts ((cs.take len).map .p) with
        | some xs => putA N o.dst (.c (.p (.ptr [.int .i64 (ar.fi xs i)]))) []
        | none => .fail) else .fail
      | _, _ => .fail) else .fail
  | _ => .fail
theorem indexAt_arr {t e : TypeId} {len esz : Nat} (hu : P.underlying t = some (.array len e)) (hs : sizeB P e esz = true) (b o' : Nat) (i : Int) (h0 : 0 ≤ i) (h1 : i < len) :
    (Instr.indexAt t (.pointer (some ⟨b, o', none⟩)) (.int .i64 i)).run P w = .ok (.pointer (some ⟨b, o' + i.toNat * esz, none⟩)) w := by
  have hsz := sizeB_run hs w
  simp [Instr.indexAt, asIntOf, run_underlying hu, Instr.sureAddr, hsz, h0, h1, Addr.add_mid]
theorem indexAt_sl {t e : TypeId} {esz : Nat} (hu : P.underlying t = some (.slice e)) (hs : sizeB P e esz = true) (b o' n c : Nat) (i : Int) (h0 : 0 ≤ i) (h1 : i < n) :
    (Instr.indexAt t (.slice (some ⟨b, o', none⟩) n c) (.int .i64 i)).run P w = .ok (.pointer (some ⟨b, o' + i.toNat * esz, none⟩)) w := by
  have hsz := sizeB_run hs w
  simp [Instr.indexAt, asIntOf, run_underlying hu, hsz, h0, h1, Addr.add_mid]
theorem evIndexAddr_ok {ar : Ar} (har : ar = Ar.std) {T : TypeId → Lay} (hT : ∀ t, LayOK P t (T t)) (h : RelAt w0 im0 N D bm rm L a w) {t : TypeId} {x ix : Operand} {R : List Nat} {z : Deed} (hr : (evIndexAddr ar T N o t x ix).run L R = some z) (ho : o.op = .indexAddr t x ix) : Res P w0 im0 N D o a w (ovr z.1 L) := by
  subst har
  have hs := hT t
  unfold evIndexAddr at hr
  split at hr
  · rename_i e esz bytes eagg ez hlay
    rw [hlay] at hs
    obtain ⟨hu, hsz, _⟩ := lay_sl hs
    replace hr := opd_inv h hr; obtain ⟨p, R1, hp, hr⟩ := hr
    replace hr := opd_inv h hr; obtain ⟨q, R1, hq, hr⟩ := hr
    split at hr
    · rename_i k es i
      have hix : a.eval ix = .int .i64 i := hq.rep
      cases hk : Nat.beq k esz with
      | false => rw [hk] at hr; simp [AskR.run] at hr
      | true =>
        rw [hk] at hr
        have := Nat.eq_of_beq_eq_true hk; subst this
        simp only [cond_true] at hr
        split at hr
        · rename_i el hel
          obtain ⟨A, n, c, hx, hn, hnc, _, hor⟩ : ∃ A n c, a.eval x = .slice A n c ∧ n = es.length ∧ n ≤ c ∧ _ ∧ _ := by have := hp.rep; simpa only [RepT, RepV, RepP] using this
          have hi0 : 0 ≤ i := by
            by_cases h0 : 0 ≤ i
            · exact h0
            · simp [Ar.std, h0] at hel
          have hel' : es[i.toNat]? = some el := by simpa [Ar.std, hi0] using hel
          have hlt := (List.getElem?_eq_some_iff.1 hel').1
          rcases hor with rfl | ⟨b, o', rfl, him, hE⟩
          · simp at hlt
          · obtain ⟨us, hul, _, hur, hurep⟩ := hE.get hel'
            refine res_put (u := .pointer (some ⟨b, o' + i.toNat * k, none⟩)) h (holds_pv ?_) hr ?_
            · simp only [RepP]
              exact ⟨b, _, us, rfl, him, hur, hurep⟩
            · simp [execOp, ho, hx, hix, indexAt_sl hu hsz b o' n c i hi0 (by omega)]
        · simp [AskR.run] at hr
    · rename_i r i
      have hix : a.eval ix = .int .i64 i := hq.rep
      simp only [AskR.run] at hr
      split at hr
      · rename_i e' k es hc
        cases hk : Nat.beq k esz with
        | false => rw [hk] at hr; simp [AskR.run] at hr
        | true =>
          rw [hk] at hr
          have := Nat.eq_of_beq_eq_true hk; subst this
          simp only [cond_true] at hr
          split at hr
          · rename_i el hel
            obtain ⟨hx, _⟩ : a.eval x = rm r ∧ _ := hp.rep
            obtain ⟨xs, hown, hl, hkk⟩ := h.rows r e' k es hc
            have hi0 : 0 ≤ i := by
              by_cases h0 : 0 ≤ i
              · exact h0
              · simp [Ar.std, h0] at hel
            have hel' : es[i.toNat]? = some el := by simpa [Ar.std, hi0] using hel
            have hlt := (List.getElem?_eq_some_iff.1 hel').1
            rcases hown.2 with ⟨_, h0⟩ | ⟨g, cap, cur, hv, _, _, _, _, _, _⟩
            · omega
            · refine res_put (v := .c (.rptr r k i 0)) (u := .pointer (some ⟨g, i.toNat * k + 0, none⟩)) h ⟨⟨g, by rw [hv]; rfl, hi0, rfl⟩, by simp [TV.boxes, CV.boxes], by simpa [TV.rows, CV.rows] using hp.wr⟩ hr ?_
              have := indexAt_sl (P := P) (w := w) hu hsz g 0 es.length cap i hi0 (by omega)
              simp [execOp, ho, hx, hv, hix, this]
          · simp [AskR.run] at hr
      · simp [AskR.run] at hr
    · simp [AskR.run] at hr
  · rename_i cm len esz eagg zs hlay
    rw [hlay] at hs
    obtain ⟨e, hu, hsz, _⟩ := lay_arr hs
    split at hr
    · rename_i n hn
      have hix : a.eval ix = .int .i64 n := cix_eval hn
      cases hlt : Nat.blt n len with
      | false => rw [hlt] at hr; simp [AskR.run] at hr
      | true =>
        rw [hlt] at hr
        simp only [cond_true] at hr
        have hlt : n < len := by simpa [Nat.blt_eq] using hlt
        have hrun : ∀ b o', (Instr.indexAt t (.pointer (some ⟨b, o', none⟩)) (.int .i64 n)).run P w = .ok (.pointer (some ⟨b, o' + n * esz, none⟩)) w := fun b o' => by
          have := indexAt_arr (P := P) (w := w) hu hsz b o' (n : Int) (by omega) (by omega)
          simpa using this
        replace hr := opd_inv h hr; obtain ⟨p, R1, hp, hr⟩ := hr
        split at hr
        · rename_i k off
          have hx : a.eval x = .pointer (some ⟨bm k, off, none⟩) := hp.rep
          refine res_put (v := .c (.ptr k (off + n * esz))) (u := .pointer (some ⟨bm k, off + n * esz, none⟩)) h ⟨rfl, by simpa [TV.boxes, CV.boxes] using hp.wb, by simp [TV.rows, CV.rows]⟩ hr ?_
          simp [execOp, ho, hx, hix, hrun]
        · rename_i cs
          obtain ⟨b, o', us, hx, hb, hrg, hrep⟩ : ∃ b o' us, a.eval x = .pointer (some ⟨b, o', none⟩) ∧ _ ∧ w.rangeAt b o' us ∧ RepL _ w cs us := by have := hp.rep; simpa only [RepT, RepV, RepP] using this
          refine res_put (u := .pointer (some ⟨b, o' + n * esz, none⟩)) h (holds_pv ?_) hr ?_
          · simp only [RepP]
            exact ⟨b, _, us.drop (n * esz), rfl, hb, rangeAt_drop hrg, hrep.drop _⟩
          · simp [execOp, ho, hx, hix, hrun]
        · rename_i r q i off
          obtain ⟨b, hb, hi, hx⟩ : ∃ b, (rm r).ownBlock = some b ∧ 0 ≤ i ∧ a.eval x = .pointer (some ⟨b, i.toNat * q + off, none⟩) := hp.rep
          refine res_put (v := .c (.rptr r q i (off + n * esz))) (u := .pointer (some ⟨b, i.toNat * q + (off + n * esz), none⟩)) h ⟨⟨b, hb, hi, rfl⟩, by simp [TV.boxes, CV.boxes], by simpa [TV.rows, CV.rows] using hp.wr⟩ hr ?_
          simp [execOp, ho, hx, hix, hrun, Nat.add_assoc]
        · simp [AskR.run] at hr
    · cases h1 : Nat.beq esz 1 with
      | false => rw [h1] at hr; simp [AskR.run] at hr
      | true =>
        rw [h1] at hr
        have := Nat.eq_of_beq_eq_true h1; subst this
        simp only [cond_true] at hr
        replace hr := opd_inv h hr; obtain ⟨p, R1, hp, hr⟩ := hr
        replace hr := opd_inv h hr; obtain ⟨q, R1, hq, hr⟩ := hr
        split at hr
        · rename_i k off i
          have hix : a.eval ix = .int .i64 i := hq.rep
          have hx : a.eval x = .pointer (some ⟨bm k, off, none⟩) := hp.rep
          cases hin : Ar.std.inr len i with
          | false => rw [hin] at hr; simp [AskR.run] at hr
          | true =>
            rw [hin] at hr
            have hin : 0 ≤ i ∧ i < len := by simpa [Ar.std] using hin
            refine res_put (v := .c (.aptr k off len i)) (u := .pointer (some ⟨bm k, off + i.toNat, none⟩)) h ⟨⟨hin.1, hin.2, rfl⟩, by simpa [TV.boxes, CV.boxes] using hp.wb, by simp [TV.rows, CV.rows]⟩ hr ?_
            have := indexAt_arr (P := P) (w := w) hu hsz (bm k) off i hin.1 hin.2
            simp [execOp, ho, hx, hix, this]
        · rename_i cs i
          have hix : a.eval ix = .int .i64 i := hq.rep
          cases hin : Nat.ble len cs.length && Ar.std.inr len i with
          | false => rw [hin] at hr; simp [AskR.run] at hr
          | true =>
            rw [hin] at hr
            simp only [cond_true] at hr
            simp only [Bool.and_eq_true, Nat.ble_eq] at hin
            have hle := hin.1
            have hin : 0 ≤ i ∧ i < len := by simpa [Ar.std] using hin.2
            obtain ⟨b, o', us, hx, hb, hrg, hrep⟩ : ∃ b o' us, a.eval x = .pointer (some ⟨b, o', none⟩) ∧ _ ∧ w.rangeAt b o' us ∧ RepL _ w cs us := by have := hp.rep; simpa only [RepT, RepV, RepP] using this
            split at hr
            · rename_i xs hxs
              obtain ⟨hxl, hxg⟩ := asInts_get hxs
              have hlen : xs.length = len := by rw [hxl]; simp; omega
              have hlt : i.toNat < xs.length := by omega
              have hcx := hxg i.toNat xs[i.toNat] (List.getElem?_eq_getElem hlt)
              rw [List.getElem?_map, List.getElem?_take_of_lt (by omega)] at hcx
              have hpc : cs[i.toNat]? = some (.int .i64 xs[i.toNat]) := by
                cases hc' : cs[i.toNat]? with
                | none => simp [hc'] at hcx
                | some pv => simpa [hc'] using hcx
              obtain ⟨y', hy', hrepy⟩ := hrep.get hpc
              have hy2 : y' = .int .i64 xs[i.toNat] := hrepy
              subst hy2
              refine res_put (u := .pointer (some ⟨b, o' + i.toNat, none⟩)) h (holds_pv ?_) hr ?_
              · simp only [RepP]
                refine ⟨b, _, [.int .i64 xs[i.toNat]], rfl, hb, fun j v hv => ?_, ?_⟩
                · cases j with
                  | zero => simp at hv; subst hv; exact hrg _ _ hy'
                  | succ j => simp at hv
                · simp [RepL, RepP, Ar.std, List.getD, List.getElem?_eq_getElem hlt]
              · have := indexAt_arr (P := P) (w := w) hu hsz b o' i hin.1 hin.2
                simp [execOp, ho, hx, hix, this]
            · simp [AskR.run] at hr
        · simp [AskR.run] at hr
  · simp [AskR.run] at hr
def evIndex (ar : Ar) (T : TypeId → Lay) (N : NN) (o : Oper) (t : TypeId) (x ix : Operand) : Ask := match T t with
  | .arr _ len esz eagg _ => match cix ix with
    | some n => bif Nat.blt n len then (opd x fun p => match p with
      | .agg cs => match partC cs (n * esz) esz eagg with
        | some v => putA N o.dst v []
        | none => .fail
      | _ => .fail) else .fail
    | none => bif Nat.beq esz 1 && !eagg then (opd x fun p => opd ix fun q => match p, q with
      | .agg cs, .c (.p (.int .i64 i)) => bif Nat.beq cs.length len && ar.inr len i then (match asInts cs with
        | some xs => putA N o.dst (.c (.p (.int .i64 (ar.fi xs i)))) []
        | none => match ar.pk cs i with
          | some c => putA N o.dst (.c c) []
          | none => .fail) else .fail
      | _, _ => .fail) else .fail
  | _ => .fail
theorem evIndex_ok {ar : Ar} (har : ar = Ar.std) {T : TypeId → Lay} (hT : ∀ t, LayOK P t (T t)) (h : RelAt w0 im0 N D bm rm L a w) {t : TypeId} {x ix : Operand} {R : List Nat} {z : Deed} (hr : (evIndex ar T N o t x ix).run L R = some z) (ho : o.op = .index t x ix) : Res P w0 im0 N D o a w (ovr z.1 L) := by
  subst har
  have hs := hT t
  unfold evIndex at hr
  split at hr
  · rename_i cm len esz eagg zs hlay
    rw [hlay] at hs
    obtain ⟨e, hu, hsz, hag⟩ := lay_arr hs
    split at hr
    · rename_i n hn
      have hix : a.eval ix = .int .i64 n := cix_eval hn
      cases hlt : Nat.blt n len with
      | false => rw [hlt] at hr; simp [AskR.run] at hr
      | true =>
        rw [hlt] at hr
        simp only [cond_true] at hr
        have hlt : n < len := by simpa [Nat.blt_eq] using hlt
        replace hr := opd_inv h hr; obtain ⟨p, R1, hp, hr⟩ := hr
        split at hr
        · rename_i cs
          obtain ⟨us, hx, hrep⟩ := hp.rep
          split at hr
          · rename_i v hv
            obtain ⟨u, hrun, hur, hub, huw⟩ := part_run hsz hag hrep hv
            refine res_put h (holds_sub hp hur hub huw) hr ?_
            have hs2 := sizeB_run hsz w
            simp [execOp, ho, hx, hix, Instr.index, asIntOf, run_underlying hu, hs2, hlt, hrun]
          · simp [AskR.run] at hr
        · simp [AskR.run] at hr
    · cases h1 : Nat.beq esz 1 && !eagg with
      | false => rw [h1] at hr; simp [AskR.run] at hr
      | true =>
        rw [h1] at hr
        simp only [Bool.and_eq_true, Bool.not_eq_true'] at h1
        obtain ⟨h1, hea⟩ := h1
        have := Nat.eq_of_beq_eq_true h1; subst this
        subst hea
        simp only [cond_true] at hr
        replace hr := opd_inv h hr; obtain ⟨p, R1, hp, hr⟩ := hr
        replace hr := opd_inv h hr; obtain ⟨q, R1, hq, hr⟩ := hr
        split at hr
        · rename_i cs i
          have hix : a.eval ix = .int .i64 i := hq.rep
          obtain ⟨us, hx, hrep⟩ := hp.rep
          cases hin : Nat.beq cs.length len && Ar.std.inr len i with
          | false => rw [hin] at hr; simp [AskR.run] at hr
          | true =>
            rw [hin] at hr
            simp only [cond_true] at hr
            simp only [Bool.and_eq_true] at hin
            have hcl := Nat.eq_of_beq_eq_true hin.1
            have hin : 0 ≤ i ∧ i < len := by simpa [Ar.std] using hin.2
            have hs2 := sizeB_run hsz w
            have hrun : ∀ u, us[i.toNat]? = some u → (execOp a.eval o).run P w = .ok (.value u) w := fun u hu' => by
              obtain ⟨hagg, _⟩ := aggB_run hag w
              simp [execOp, ho, hx, hix, Instr.index, asIntOf, run_underlying hu, hs2, hin.1, hin.2, part, hagg, hu']
            split at hr
            · rename_i xs hxs
              have hus := ints_of_asInts hxs hrep
              have hxl := (asInts_get hxs).1
              have hlt : i.toNat < xs.length := by omega
              refine res_put (u := .int .i64 xs[i.toNat]) h (holds_pv (by simp [RepP, Ar.std, List.getD, List.getElem?_eq_getElem hlt])) hr (hrun _ ?_)
              rw [hus]; simp [hlt]
            · split at hr
              · rename_i c hc
                have hc' : cs[i.toNat]? = some c := by simpa [Ar.std, hin.1] using hc
                obtain ⟨u, hu', hur⟩ := hrep.get hc'
                exact res_put h (holds_sub (v := .c c) hp hur (fun k hk => List.mem_flatMap.2 ⟨c, List.mem_of_getElem? hc', hk⟩) (fun k hk => List.mem_flatMap.2 ⟨c, List.mem_of_getElem? hc', hk⟩)) hr (hrun u hu')
              · simp [AskR.run] at hr
        · simp [AskR.run] at hr
  · simp [AskR.run] at hr
def optI {β : Type} (x : Option Operand) (d : Int) (f : Int → AskR β) : AskR β := match x with
  | none => f d
  | some y => opd y fun v => match v with
    | .c (.p (.int .i64 n)) => f n
    | _ => .fail
theorem optI_inv {β : Type} (h : RelAt w0 im0 N D bm rm L a w) {x : Option Operand} {d : Int} {f : Int → AskR β} {R : List Nat} {y : β × List Nat} (hr : (optI x d f).run L R = some y) :
    ∃ n R', (match x with | none => n = d | some y => a.eval y = .int .i64 n) ∧ (f n).run L R' = some y := by
  cases x with
  | none => exact ⟨d, R, rfl, hr⟩
  | some x =>
    simp only [optI] at hr
    replace hr := opd_inv h hr; obtain ⟨v, R1, hv, hr⟩ := hr
    split at hr
    · exact ⟨_, R1, hv.rep, hr⟩
    · simp [AskR.run] at hr
theorem RelAt.freeze (h : RelAt w0 im0 N D bm rm L a w) {r k : Nat} {e : TypeId} {es : List (List PV)} (hr : L (kR r) = .row e k es) :
    RelAt w0 im0 N D bm rm (ovr [(kR r, .dead)] L) a w ∧ RepP (imOf w0.heap.size im0 bm rm (ovr [(kR r, .dead)] L) w) w (.list k es) (rm r) := by
  refine ⟨h.kill r, ?_⟩
  have iB : ∀ k, isBox (ovr [(kR r, .dead)] L) k = isBox L k := fun k => by simp only [isBox, ovrR_B]
  have iR : ∀ k, isRow (ovr [(kR r, .dead)] L) k → isRow L k ∧ k ≠ r := fun k ⟨e, q, es, he⟩ => by
    rw [ovrR_R] at he
    split at he
    · cases he
    · rename_i hne; exact ⟨⟨e, q, es, he⟩, Ne.symm hne⟩
  have hkeep : Keeps (imOf w0.heap.size im0 bm rm L w) w (imOf w0.heap.size im0 bm rm (ovr [(kR r, .dead)] L) w) w := fun b hb =>
    ⟨⟨hb.1, hb.2.1, fun k hk => hb.2.2.1 k (by rw [iB] at hk; exact hk), fun t' ht => hb.2.2.2 t' (iR t' ht).1⟩, rfl⟩
  obtain ⟨xs, hown, hl, hk⟩ := h.rows r e k es hr
  simp only [RepP]
  rcases hown.2 with ⟨hv, h0⟩ | ⟨g, cap, cur, hv, hbg, hgg, hcap, hm, _, _⟩
  · exact ⟨none, 0, 0, hv, h0.symm, by simp, by simp, .inl (List.eq_nil_of_length_eq_zero h0)⟩
  · have hob : (rm r).ownBlock = some g := by rw [hv]; rfl
    refine ⟨_, _, cap, hv, rfl, hcap, hm, .inr ⟨g, 0, rfl, ⟨plain_of hgg rfl, .inr hbg, fun k' hb' he => h.br k' r (by rw [iB] at hb'; exact hb') ⟨e, k, es, hr⟩ (by rw [hob, he]), fun t' ht he => (iR t' ht).2 (h.rr t' r g (iR t' ht).1 ⟨e, k, es, hr⟩ he hob)⟩, ?_⟩⟩
    refine RepE.of_flat hk.1 (fun j v hv' => ?_) hk.2 (RepL.keep hkeep _ _ hl)
    have := hown.cells (g := g) (by rw [hv]; rfl) j v hv'
    rwa [Addr.add_mid] at this
theorem putA_extra {v : TV} {α : List (Nat × Cont)} {dst : Option Nat} {L0 : Lk} {R : List Nat} {z : Deed} (h : (putA N dst v α).run L0 R = some z) : ∃ x : Deed, (putA N dst v []).run L0 R = some x ∧ z.1 = x.1 ++ α := by
  cases dst with
  | none => simp only [putA, AskR.run, Option.some.injEq] at h ⊢; subst h; exact ⟨_, rfl, rfl⟩
  | some d =>
    simp only [putA] at h ⊢
    cases hb : okS N d with
    | false => simp [hb, AskR.run] at h
    | true => simp only [hb, cond_true, AskR.run, Option.some.injEq] at h ⊢; subst h; exact ⟨_, rfl, rfl⟩
def keepD (lo hi : Option Operand) (dst : Option Nat) : Option Nat := match lo, hi, dst with
  | none, some _, some d => some d
  | _, _, _ => none
def evSlice (ar : Ar) (T : TypeId → Lay) (N : NN) (o : Oper) (t : TypeId) (x : Operand) (lo hi mx : Option Operand) : Ask := match T t, mx with
  | .sl e esz _ _ _, none => opd x fun p => match p with
    | .c (.p (.list k es)) => bif Nat.beq k esz then (optI lo 0 fun i => optI hi (ar.ln es) fun j => match ar.sl es i j with
      | some es' => putA N o.dst (.c (.p (.list k es'))) []
      | none => .fail) else .fail
    | .c (.row r) => .get (kR r) fun c => match c with
      | .row e' k es => bif Nat.beq k esz then (match keepD lo hi o.dst with
        | some d => bif okS N d && Nat.beq e' e then .get (kR d) fun cd => (match cd with
          | .none => optI hi (ar.ln es) fun j => match ar.sl es 0 j with
            | some es' => .done [(kT d, .t (.c (.row d))), (kR d, .row e k es'), (kR r, .dead)]
            | none => .fail
          | _ => .fail) else .fail
        | none => (optI lo 0 fun i => optI hi (ar.ln es) fun j => match ar.sl es i j with
          | some es' => putA N o.dst (.c (.p (.list k es'))) [(kR r, .dead)]
          | none => .fail)) else .fail
      | _ => .fail
    | _ => .fail
  | _, _ => .fail
theorem bounds_run {n c : Nat} {i j : Int} (lo hi : Option Value) (hlo : match lo with | none => i = 0 | some v => v = .int .i64 i) (hhi : match hi with | none => j = n | some v => v = .int .i64 j) (h0 : 0 ≤ i) (hij : i ≤ j) (hjn : j ≤ n) (hnc : n ≤ c) :
    (Instr.sliceBounds true n c lo hi none).run P w = .ok (i.toNat, j.toNat, c) w := by
  have hb : ∀ (q : Int) (m : Nat) (code : BoundsCode), 0 ≤ q → q ≤ m → (Instr.sliceBound (.int .i64 q) m code).run P w = .ok q.toNat w := fun q m code h1 h2 => by
    simp [Instr.sliceBound, asIntOf, h1, h2]
  have e1 := fun code => hb j c code (by omega) (by omega)
  have e2 := fun code => hb i j.toNat code h0 (by omega)
  cases lo with
  | none =>
    simp only at hlo
    subst hlo
    cases hi with
    | none => simp only at hhi; subst hhi; simp [Instr.sliceBounds]
    | some v => simp only at hhi; subst hhi; simp [Instr.sliceBounds, e1]
  | some u =>
    simp only at hlo
    subst hlo
    cases hi with
    | none =>
      simp only at hhi
      subst hhi
      simp only [Int.toNat_natCast] at e2
      simp [Instr.sliceBounds, e2]
    | some v => simp only at hhi; subst hhi; simp [Instr.sliceBounds, e1, e2]
theorem slice_core {t e : TypeId} {k : Nat} {bytes : Nat} {eagg : Bool} {im : Nat → Prop} {x : Operand} {lo hi : Option Operand} {es es' : List (List PV)} {i j : Int}
    (hu : P.underlying t = some (.slice e)) (hsz : sizeB P e k = true) (hp : RepP im w (.list k es) (a.eval x))
    (hlo : match lo.map a.eval with | none => i = 0 | some v => v = .int .i64 i) (hhi : match hi.map a.eval with | none => j = es.length | some v => v = .int .i64 j)
    (hes : Ar.std.sl es i j = some es') (ho : o.op = .slice t x lo hi none) : ∃ u, (execOp a.eval o).run P w = .ok (.value u) w ∧ RepP im w (.list k es') u := by
  obtain ⟨A, n, c, hx, hn, hnc, hm, hor⟩ : ∃ A n c, a.eval x = .slice A n c ∧ n = es.length ∧ n ≤ c ∧ c ≤ maxLen ∧ _ := by simpa only [RepP] using hp
  simp only [Ar.std] at hes
  split at hes
  · rename_i hb
    simp only [Option.some.injEq] at hes
    subst hes
    obtain ⟨h0, hij, hjl⟩ := hb
    have hsb := bounds_run (P := P) (w := w) (n := n) (c := c) (i := i) (j := j) (lo.map a.eval) (hi.map a.eval) hlo (by cases hi <;> simpa [hn] using hhi) h0 hij (by omega) hnc
    refine ⟨.slice (if c = i.toNat then A else A.map (·.add (i.toNat * k))) (j.toNat - i.toNat) (c - i.toNat), ?_, ?_⟩
    · have hs2 := sizeB_run hsz w
      simp only [execOp, ho, hx, Instr.sliceAt, Sem.run_bind, run_underlying hu w, Result.andThen_ok, Instr.slice, Option.map_none, hsb, hs2, Sem.run_pure]
    · simp only [RepP]
      refine ⟨_, _, _, rfl, by simp; omega, by omega, by omega, ?_⟩
      rcases hor with rfl | ⟨b, o', rfl, him, hE⟩
      · exact .inl (by simp)
      · by_cases hz : c = i.toNat
        · refine .inl ?_
          apply List.eq_nil_of_length_eq_zero
          simp; omega
        · refine .inr ⟨b, o' + i.toNat * k, ?_, him, (hE.drop i.toNat).take _⟩
          rw [if_neg hz]; simp [Addr.add_mid]
  · cases hes
theorem slice_row {t e : TypeId} {k : Nat} {im : Nat → Prop} {x hx : Operand} {es es' : List (List PV)} {xs : List Value} {n0 : Nat} {j : Int}
    (hu : P.underlying t = some (.slice e)) (hsz : sizeB P e k = true) (hown : w.ownsRow n0 e k (a.eval x) es.length xs) (hl : RepL im w es.flatten xs) (hk : (∀ y ∈ es, y.length = k) ∧ ∀ u ∈ xs, u.oneCell' = true)
    (hhi : a.eval hx = .int .i64 j) (hes : Ar.std.sl es 0 j = some es') (ho : o.op = .slice t x none (some hx) none) :
    ∃ u ys, (execOp a.eval o).run P w = .ok (.value u) w ∧ w.ownsRow n0 e k u es'.length ys ∧ u.ownBlock = (a.eval x).ownBlock ∧ RepL im w es'.flatten ys ∧ ((∀ y ∈ es', y.length = k) ∧ ∀ u ∈ ys, u.oneCell' = true) := by
  simp only [Ar.std] at hes
  split at hes
  · rename_i hb
    simp only [Option.some.injEq, Int.toNat_zero, List.drop_zero, Nat.sub_zero] at hes
    subst hes
    obtain ⟨h0, hij, hjl⟩ := hb
    have hjn : j.toNat ≤ es.length := by omega
    have hlen : (es.take j.toNat).length = j.toNat := by rw [List.length_take]; omega
    have hs2 := sizeB_run hsz w
    have hflat : ∀ (m : Nat) (l : List (List PV)), (∀ y ∈ l, y.length = k) → (l.take m).flatten = l.flatten.take (m * k) := fun m l => by
      induction l generalizing m with
      | nil => simp
      | cons z l ih =>
        intro hz
        cases m with
        | zero => simp
        | succ m =>
          have h1 := hz z (by simp)
          rw [List.take_succ_cons, List.flatten_cons, List.flatten_cons, ih m fun y hy => hz y (by simp [hy]), Nat.add_mul, Nat.one_mul, Nat.add_comm, ← h1, List.take_length_add_append]
    have hlt : ∀ (m : Nat) (ps : List PV) (us : List Value), RepL im w ps us → RepL im w (ps.take m) (us.take m) := fun m ps => by
      induction ps generalizing m with
      | nil => intro us h; simp only [RepL] at h; subst h; simp [RepL]
      | cons p ps ih =>
        intro us h
        simp only [RepL] at h
        obtain ⟨y, ys, rfl, h1, h2⟩ := h
        cases m with
        | zero => simp [RepL]
        | succ m =>
          simp only [List.take_succ_cons, RepL]
          exact ⟨y, _, rfl, h1, ih m _ h2⟩
    have hrep : RepL im w (es.take j.toNat).flatten (xs.take (j.toNat * k)) := by rw [hflat _ _ hk.1]; exact hlt _ _ _ hl
    have hk' : (∀ y ∈ es.take j.toNat, y.length = k) ∧ ∀ u ∈ xs.take (j.toNat * k), u.oneCell' = true := ⟨fun y hy => hk.1 y (List.mem_of_mem_take hy), fun u hu => hk.2 u (List.mem_of_mem_take hu)⟩
    have hxl : (xs.take (j.toNat * k)).length = j.toNat * k := by
      rw [List.length_take, hown.1]
      exact Nat.min_eq_left (Nat.mul_le_mul_right _ hjn)
    rcases hown.2 with ⟨hv, hn0⟩ | ⟨g, cap, cur, hv, hbg, hgg, hcap, hm, hcs, hcur⟩
    · have hj0 : j.toNat = 0 := by omega
      have hsb := bounds_run (P := P) (w := w) (n := 0) (c := 0) (i := 0) (j := j) none (some (a.eval hx)) rfl (by simpa using hhi) (by omega) (by omega) (by omega) (by omega)
      refine ⟨.slice none 0 0, xs.take (j.toNat * k), ?_, ?_, by rw [hv], hrep, hk'⟩
      · simp only [execOp, ho, hv, Instr.sliceAt, Sem.run_bind, run_underlying hu w, Result.andThen_ok, Instr.slice, Option.map_none, Option.map_some, hsb, hs2, Sem.run_pure, hj0]
        simp
      · rw [hlen, hj0]
        exact ⟨by rw [hj0] at hxl; simpa using hxl, .inl ⟨rfl, rfl⟩⟩
    · have hsb := bounds_run (P := P) (w := w) (n := es.length) (c := cap) (i := 0) (j := j) none (some (a.eval hx)) rfl (by simpa using hhi) (by omega) (by omega) (by omega) hcap
      refine ⟨.slice (some ⟨g, 0, none⟩) j.toNat cap, xs.take (j.toNat * k), ?_, ?_, by rw [hv]; rfl, hrep, hk'⟩
      · simp only [execOp, ho, hv, Instr.sliceAt, Sem.run_bind, run_underlying hu w, Result.andThen_ok, Instr.slice, Option.map_none, Option.map_some, hsb, hs2, Sem.run_pure]
        simp [Addr.add]
      · rw [hlen]
        refine ⟨hxl, .inr ⟨g, cap, cur, rfl, hbg, hgg, by omega, hm, hcs, ?_⟩⟩
        rw [← hcur, List.take_take, Nat.min_eq_left (Nat.mul_le_mul_right _ hjn)]
  · cases hes
theorem evSlice_ok {ar : Ar} (har : ar = Ar.std) {T : TypeId → Lay} (hT : ∀ t, LayOK P t (T t)) (h : RelAt w0 im0 N D bm rm L a w) {t : TypeId} {x : Operand} {lo hi mx : Option Operand} {R : List Nat} {z : Deed} (hr : (evSlice ar T N o t x lo hi mx).run L R = some z) (ho : o.op = .slice t x lo hi mx) : Res P w0 im0 N D o a w (ovr z.1 L) := by
  subst har
  have hs := hT t
  unfold evSlice at hr
  split at hr
  · rename_i e esz bytes eagg ez hlay
    rw [hlay] at hs
    obtain ⟨hu, hsz, _⟩ := lay_sl hs
    replace hr := opd_inv h hr; obtain ⟨p, R1, hp, hr⟩ := hr
    split at hr
    · rename_i k es
      cases hk : Nat.beq k esz with
      | false => rw [hk] at hr; simp [AskR.run] at hr
      | true =>
        rw [hk] at hr
        have := Nat.eq_of_beq_eq_true hk; subst this
        simp only [cond_true] at hr
        replace hr := optI_inv h hr; obtain ⟨i, R2, hlo, hr⟩ := hr
        replace hr := optI_inv h hr; obtain ⟨j, R3, hhi, hr⟩ := hr
        split at hr
        · rename_i es' hes
          obtain ⟨u, h1, h2⟩ := slice_core (bytes := bytes) (eagg := eagg) (x := x) hu hsz hp.rep (by cases lo <;> simpa using hlo) (by cases hi <;> simpa [Ar.std] using hhi) hes ho
          exact res_put h (holds_pv h2) hr h1
        · simp [AskR.run] at hr
    · rename_i r
      simp only [AskR.run] at hr
      split at hr
      · rename_i e' k es hc
        cases hk : Nat.beq k esz with
        | false => rw [hk] at hr; simp [AskR.run] at hr
        | true =>
          rw [hk] at hr
          have := Nat.eq_of_beq_eq_true hk; subst this
          simp only [cond_true] at hr
          split at hr
          · rename_i d hkd
            obtain ⟨rfl, hxo, rfl, hdst⟩ : lo = none ∧ ∃ hx, hi = some hx ∧ o.dst = some d := by
              unfold keepD at hkd
              split at hkd
              · rename_i hx d' hd
                simp only [Option.some.injEq] at hkd
                subst hkd
                exact ⟨rfl, hx, rfl, hd⟩
              · cases hkd
            cases hok : okS N d && Nat.beq e' e with
            | false => rw [hok] at hr; simp [AskR.run] at hr
            | true =>
              rw [hok] at hr
              simp only [Bool.and_eq_true] at hok
              have he := Nat.eq_of_beq_eq_true hok.2
              subst he
              simp only [cond_true, AskR.run] at hr
              split at hr
              · rename_i hdn
                replace hr := optI_inv h hr; obtain ⟨j, R3, hhi, hr⟩ := hr
                split at hr
                · rename_i es' hes
                  simp only [AskR.run, Option.some.injEq] at hr
                  subst hr
                  have hx : a.eval x = rm r := by
                    obtain ⟨hx, _⟩ : a.eval x = rm r ∧ _ := hp.rep
                    exact hx
                  obtain ⟨xs, hown, hl, hkk⟩ := h.rows r e' k es hc
                  obtain ⟨u, ys, h1, h2, h3, h4, h5⟩ := slice_row (P := P) (o := o) (a := a) (x := x) (hx := hxo) (im := imOf w0.heap.size im0 bm rm L w) hu hsz (by rw [hx]; exact hown) hl hkk (by simpa using hhi) hes ho
                  rw [hx] at h3
                  have hir : isRow L r := ⟨e', k, es, hc⟩
                  have hnew := h.newRow (d := d) (r := r) (e := e') (k := k) (es := es') (v := u) (xs := ys) (w' := w) (row := (rm r).ownBlock) hdn ⟨rfl, rfl, rfl, Nat.le_refl _, fun _ _ _ => rfl⟩
                    (fun g hg => ⟨(hown.lt g hg).1, fun q hq e => h.br q r hq hir (by rw [hg, e]), fun t ht hne e => hne (h.rr t r g ht hir e hg), fun hi => hi.2.2.2 r hir hg, owns_not_mach hown hg⟩)
                    h2 (fun g hg => .inl (by rw [← h3, hg])) h4 h5
                  refine ⟨w, .inl ⟨u, h1, ?_⟩⟩
                  rw [ovr_cons, hdst]
                  obtain ⟨A', n', c', hv'⟩ : ∃ A n c, u = .slice A n c := by
                    rcases h2.2 with ⟨hv, _⟩ | ⟨g, cap, cur, hv, _⟩
                    · exact ⟨_, _, _, hv⟩
                    · exact ⟨_, _, _, hv⟩
                  refine ⟨_, _, hnew.put hok.1 ⟨by rw [updN_same], A', n', c', hv'⟩ (by simp [TV.boxes, CV.boxes]) (fun t ht => ?_)⟩
                  simp only [TV.rows, CV.rows, List.mem_singleton] at ht
                  subst ht
                  rw [ovr_cons, ovrR_R, if_pos rfl]; simp
                · simp [AskR.run] at hr
              · simp [AskR.run] at hr
          replace hr := optI_inv h hr; obtain ⟨i, R2, hlo, hr⟩ := hr
          replace hr := optI_inv h hr; obtain ⟨j, R3, hhi, hr⟩ := hr
          split at hr
          · rename_i es' hes
            obtain ⟨hf, hrep⟩ := h.freeze hc
            have hx : a.eval x = rm r := by
              obtain ⟨hx, _⟩ : a.eval x = rm r ∧ _ := hp.rep
              exact hx
            obtain ⟨u, h1, h2⟩ := slice_core (bytes := bytes) (eagg := eagg) (x := x) hu hsz (by rw [hx]; exact hrep) (by cases lo <;> simpa using hlo) (by cases hi <;> simpa [Ar.std] using hhi) hes ho
            obtain ⟨y, hy, he⟩ := putA_extra hr
            have := res_put hf (holds_pv h2) hy h1
            rw [he, ovr_append]
            exact this
          · simp [AskR.run] at hr
      · simp [AskR.run] at hr
    · simp [AskR.run] at hr
  · simp [AskR.run] at hr
end
def opds : List (Nat × Operand) → List (Nat × List CV) → (List (Nat × List CV) → Ask) → Ask
  | [], acc, f => f acc.reverse
  | (i, x) :: r, acc, f => opd x fun v => match v.cells with
    | some cs => opds r ((i, cs) :: acc) f
    | none => .fail
def fillC (pl : Nat → Option (Nat × Nat)) : List CV → List (Nat × List CV) → Option (List CV)
  | cells, [] => some cells
  | cells, (i, v) :: r => match pl i with
    | none => none
    | some (off, sz) => bif Nat.beq v.length sz && Nat.ble (off + v.length) cells.length then fillC pl (cells.take off ++ v ++ cells.drop (off + v.length)) r else none
def placesC : Lay → Nat → Option (Nat × Nat)
  | .st _ fs _, i => match nthL fs i with
    | some (o, s, _) => some (o, s)
    | none => none
  | .arr _ _ esz _ _, i => some (i * esz, esz)
  | _, _ => none
def evBuild (T : TypeId → Lay) (N : NN) (o : Oper) (t : TypeId) (ps : List (Nat × Operand)) : Ask := bif (T t).isAgg then
    opds ps [] fun vs => match fillC (placesC (T t)) ((T t).zero.map .p) vs with
      | some cs => putA N o.dst (.agg cs) []
      | none => .fail
  else .fail
def seqB : List (Nat × Operand) → Nat → Bool
  | [], _ => true
  | (i, _) :: r, n => Nat.beq i n && seqB r (n + 1)
def rowsOf (k : Nat) : List (Nat × List CV) → Option (List (List PV))
  | [] => some []
  | (_, v) :: r => match asPs v with
    | some e => bif Nat.beq e.length k then (rowsOf k r).map (e :: ·) else none
    | none => none
def evBuildSlice (T : TypeId → Lay) (N : NN) (o : Oper) (t : TypeId) (len : Nat) (ps : List (Nat × Operand)) : Ask := match T t, o.dst with
  | .sl e esz _ _ _, some d => bif okS N d && Nat.blt 0 esz && seqB ps 0 && Nat.beq ps.length len && Nat.ble (len * esz) 16777216 then .get (kR d) fun c => match c with
      | .none => opds ps [] fun vs => match rowsOf esz vs with
        | some es => .done [(kT d, .t (.c (.row d))), (kR d, .row e esz es), (kR d, .dead)]
        | none => .fail
      | _ => .fail
    else .fail
  | _, _ => .fail
section
variable {P : Program} {w0 : World} {im0 : Nat → Prop} {N : NN} {D : Env} {bm : Nat → Nat} {rm : Nat → Value} {L : Lk} {a : Act} {w w' : World} {o : Oper} {im : Nat → Prop}
def PartsOK (w0 : World) (im0 : Nat → Prop) (bm : Nat → Nat) (rm : Nat → Value) (L : Lk) (w : World) (a : Act) : List (Nat × Operand) → List (Nat × List CV) → Prop
  | [], [] => True
  | (i, x) :: ps, (j, cs) :: vs => i = j ∧ RepVs bm rm (imOf w0.heap.size im0 bm rm L w) w cs (a.eval x).cells.toList ∧ (∀ u ∈ (a.eval x).cells.toList, u.oneCell' = true) ∧
      (∀ k ∈ cs.flatMap CV.boxes, L (kB k) ≠ .none) ∧ (∀ t ∈ cs.flatMap CV.rows, L (kR t) ≠ .none) ∧ PartsOK w0 im0 bm rm L w a ps vs
  | _, _ => False
theorem opds_inv (h : RelAt w0 im0 N D bm rm L a w) : ∀ {ps : List (Nat × Operand)} {acc : List (Nat × List CV)} {f : List (Nat × List CV) → Ask} {R : List Nat} {y : Deed}, (opds ps acc f).run L R = some y →
    ∃ vs R', PartsOK w0 im0 bm rm L w a ps vs ∧ (f (acc.reverse ++ vs)).run L R' = some y
  | [], acc, f, R, y, hr => ⟨[], R, trivial, by simpa [opds] using hr⟩
  | (i, x) :: ps, acc, f, R, y, hr => by
    simp only [opds] at hr
    replace hr := opd_inv h hr; obtain ⟨v, R1, hv, hr⟩ := hr
    split at hr
    · rename_i cs hcs
      obtain ⟨h1, h2, h3, h4⟩ := TV.cells_rep hcs hv.rep
      obtain ⟨vs, R', hp, hr⟩ := opds_inv h hr
      exact ⟨(i, cs) :: vs, R', ⟨rfl, h1, h2, by rw [h3]; exact hv.wb, by rw [h4]; exact hv.wr, hp⟩, by simpa using hr⟩
    · simp [AskR.run] at hr
theorem fold_set (off : Nat) : ∀ (vs : List Value) (j : Nat) (cells : Array Value), off + j + vs.length ≤ cells.size →
    (vs.zipIdx j).foldl (fun cs x => cs.setIfInBounds (off + x.2) x.1) cells = (cells.toList.take (off + j) ++ vs ++ cells.toList.drop (off + j + vs.length)).toArray
  | [], j, cells, _ => by simp
  | v :: vs, j, cells, h => by
    simp only [List.length_cons] at h
    simp only [List.zipIdx_cons, List.foldl_cons]
    rw [fold_set off vs (j + 1) _ (by simp; omega)]
    apply Array.ext'
    simp only [Array.toList_setIfInBounds]
    have e1 : (cells.toList.set (off + j) v).take (off + (j + 1)) = cells.toList.take (off + j) ++ [v] := by
      rw [show off + (j + 1) = off + j + 1 by omega, List.take_succ_eq_append_getElem (by simp; omega)]
      simp [List.take_set_of_le]
    have e2 : (cells.toList.set (off + j) v).drop (off + (j + 1) + vs.length) = cells.toList.drop (off + j + (v :: vs).length) := by
      rw [List.drop_set_of_lt (by omega)]
      congr 1
      simp; omega
    rw [e1, e2]
    simp
theorem fill_ok {pl : Nat → Option (Nat × Nat)} : ∀ {ps : List (Nat × Operand)} {vs : List (Nat × List CV)} {cs out : List CV} {cells : Array Value}, PartsOK w0 im0 bm rm L w a ps vs →
    RepVs bm rm (imOf w0.heap.size im0 bm rm L w) w cs cells.toList → (∀ k ∈ cs.flatMap CV.boxes, L (kB k) ≠ .none) → (∀ t ∈ cs.flatMap CV.rows, L (kR t) ≠ .none) → fillC pl cs vs = some out →
    ∃ r, Instr.fill pl cells (ps.map fun (i, x) => (i, a.eval x)) = some r ∧ RepVs bm rm (imOf w0.heap.size im0 bm rm L w) w out r.toList ∧ (∀ k ∈ out.flatMap CV.boxes, L (kB k) ≠ .none) ∧ (∀ t ∈ out.flatMap CV.rows, L (kR t) ≠ .none)
  | [], [], cs, out, cells, _, hc, hb, hr, hf => by
    simp only [fillC, Option.some.injEq] at hf
    subst hf
    exact ⟨cells, rfl, hc, hb, hr⟩
  | [], _ :: _, _, _, _, hp, _, _, _, _ => hp.elim
  | _ :: _, [], _, _, _, hp, _, _, _, _ => by simp [PartsOK] at hp
  | (i, x) :: ps, (j, v) :: vs, cs, out, cells, hp, hc, hb, hr, hf => by
    obtain ⟨rfl, h1, h2, h3, h4, hp⟩ := hp
    simp only [fillC] at hf
    split at hf
    · cases hf
    · rename_i off sz hpl
      cases hg : Nat.beq v.length sz && Nat.ble (off + v.length) cs.length with
      | false => rw [hg] at hf; simp at hf
      | true =>
        rw [hg] at hf
        simp only [cond_true] at hf
        simp only [Bool.and_eq_true, Nat.ble_eq] at hg
        have hsz := Nat.eq_of_beq_eq_true hg.1
        have hl1 := h1.len
        have hl2 := hc.len
        simp only [Array.length_toList] at hl1 hl2
        have hstep := fold_set off (a.eval x).cells.toList 0 cells (by simp; omega)
        simp only [Nat.add_zero] at hstep
        obtain ⟨r, hr1, hr2⟩ := fill_ok (pl := pl) (cs := cs.take off ++ v ++ cs.drop (off + v.length)) (cells := (cells.toList.take off ++ (a.eval x).cells.toList ++ cells.toList.drop (off + (a.eval x).cells.toList.length)).toArray) hp
          (by
            simp only [Array.length_toList, hl1]
            exact ((hc.take off).append h1).append (hc.drop _))
          (by
            intro k hk
            simp only [List.flatMap_append, List.mem_append] at hk
            rcases hk with (hk | hk) | hk
            · exact hb k (flat_sub (fun c hc => List.mem_of_mem_take hc) k hk)
            · exact h3 k hk
            · exact hb k (flat_sub (fun c hc => List.mem_of_mem_drop hc) k hk))
          (by
            intro k hk
            simp only [List.flatMap_append, List.mem_append] at hk
            rcases hk with (hk | hk) | hk
            · exact hr k (flat_sub (fun c hc => List.mem_of_mem_take hc) k hk)
            · exact h4 k hk
            · exact hr k (flat_sub (fun c hc => List.mem_of_mem_drop hc) k hk)) hf
        refine ⟨r, ?_, hr2⟩
        simp only [List.map_cons, Instr.fill, hpl]
        rw [if_neg (by simp; omega)]
        rw [← hr1, ← hstep]
        congr 1
        rw [← Array.foldl_toList]
        simp
theorem places_mapM : ∀ {F : List Field} {fs : List (Nat × Nat × Bool)}, fieldsB P F fs = true → F.mapM (fun f => (P.info? f.type).map fun i => (f.offset, i.size)) = some (fs.map fun x => (x.1, x.2.1))
  | [], [], _ => rfl
  | [], _ :: _, h => by simp [fieldsB] at h
  | _ :: _, [], h => by simp [fieldsB] at h
  | f :: F, (o', s', g') :: fs, h => by
    simp only [fieldsB, Bool.and_eq_true] at h
    obtain ⟨⟨⟨h1, h2⟩, h3⟩, h4⟩ := h
    obtain ⟨i, hi, hs⟩ := sizeB_info h2
    simp only [List.mapM_cons, hi, Option.map_some, Option.bind_eq_bind, Option.bind_some, places_mapM h4, Option.pure_def, List.map_cons, hs]
    simp at h1
    simp [h1]
theorem zero_info {t : TypeId} {l : Lay} (h : LayOK P t l) (hk : l.known = true) (hg : l.isAgg = true) (w : World) : ∃ i v, P.info? t = some i ∧ i.zero = some v ∧ RepL im w l.zero v.cells.toList := by
  obtain ⟨v, _, hrep, _, i, hi, hz⟩ := zeroOfB_run (lay_zero h hk) w
  exact ⟨i, v, hi, hz, hrep _ _⟩
theorem evBuild_ok {T : TypeId → Lay} (hT : ∀ t, LayOK P t (T t)) (h : RelAt w0 im0 N D bm rm L a w) {t : TypeId} {ps : Array (Nat × Operand)} {R : List Nat} {z : Deed} (hr : (evBuild T N o t ps.toList).run L R = some z) (ho : o.op = .build t ps) : Res P w0 im0 N D o a w (ovr z.1 L) := by
  unfold evBuild at hr
  cases hg : (T t).isAgg with
  | false => rw [hg] at hr; simp [AskR.run] at hr
  | true =>
    rw [hg] at hr
    simp only [cond_true] at hr
    have hk : (T t).known = true := by cases ht : T t <;> simp_all [Lay.isAgg, Lay.known]
    replace hr := opds_inv h hr; obtain ⟨vs, R', hp, hr⟩ := hr
    simp only [List.reverse_nil, List.nil_append] at hr
    split at hr
    · rename_i cs hcs
      obtain ⟨i, v, hi, hz, hrep⟩ := zero_info (im := imOf w0.heap.size im0 bm rm L w) (hT t) hk hg w
      obtain ⟨r, hr1, hr2, hr3, hr4⟩ := fill_ok hp (RepVs.pure (bm := bm) (rm := rm) hrep) (by simp [CV.boxes, List.flatMap_map]) (by simp [CV.rows, List.flatMap_map]) hcs
      refine res_put (v := .agg cs) (u := .agg r) h ⟨⟨r.toList, rfl, hr2⟩, hr3, hr4⟩ hr ?_
      have hb : P.built t (ps.toList.map fun (i, x) => (i, a.eval x)) = some r := by
        unfold Program.built
        cases hl : T t with
        | no => rw [hl] at hg; simp [Lay.isAgg] at hg
        | sc z => rw [hl] at hg; simp [Lay.isAgg] at hg
        | sl => rw [hl] at hg; simp [Lay.isAgg] at hg
        | mp => rw [hl] at hg; simp [Lay.isAgg] at hg
        | st cm fs zz =>
          have hs := hT t
          rw [hl] at hs hr1
          obtain ⟨F, hu, hF⟩ := lay_st hs
          simp only [hi, hu, hz, places_mapM hF]
          have : (fun x => ((fs.map fun x => (x.1, x.2.1)).toArray[x]? : Option (Nat × Nat))) = placesC (.st cm fs zz) := by
            funext q
            simp only [placesC, nthL_eq, List.getElem?_toArray, List.getElem?_map]
            cases fs[q]? <;> rfl
          rw [this]; exact hr1
        | arr cm len esz eagg zz =>
          have hs := hT t
          rw [hl] at hs hr1
          obtain ⟨e, hu, hsz, _⟩ := lay_arr hs
          obtain ⟨ie, hie, his⟩ := sizeB_info hsz
          simp only [hi, hu, hz, hie, his]
          exact hr1
      have hrun := run_build (P := P) w t (ps.map fun (i, x) => (i, a.eval x)) r (by simpa using hb)
      simp only [execOp, ho, Sem.run_bind, hrun, Result.andThen_ok, Sem.run_pure]
    · simp [AskR.run] at hr
theorem flatten_len {k : Nat} : ∀ {es : List (List PV)}, (∀ e ∈ es, e.length = k) → es.flatten.length = es.length * k
  | [], _ => by simp
  | e :: es, h => by
    have := flatten_len (es := es) fun x hx => h x (by simp [hx])
    have he := h e (by simp)
    simp only [List.flatten_cons, List.length_append, List.length_cons, this, he, Nat.add_mul]
    omega
theorem rowsOf_ok {k : Nat} : ∀ {ps : List (Nat × Operand)} {vs : List (Nat × List CV)} {es : List (List PV)} {n : Nat}, PartsOK w0 im0 bm rm L w a ps vs → rowsOf k vs = some es → seqB ps n = true →
    es.length = ps.length ∧ (∀ e ∈ es, e.length = k) ∧ (ps.map fun (i, x) => (i, a.eval x)) = ((ps.map fun x => a.eval x.2).zipIdx n).map (fun x => (x.2, x.1)) ∧
    (∀ v ∈ ps.map (fun x => a.eval x.2), v.cells.size = k ∧ ∀ u ∈ v.cells.toList, u.oneCell' = true) ∧ RepL (imOf w0.heap.size im0 bm rm L w) w es.flatten ((ps.map fun x => a.eval x.2).flatMap fun v => v.cells.toList)
  | [], [], es, n, _, h, _ => by simp [rowsOf] at h; subst h; simp [RepL]
  | [], _ :: _, _, _, hp, _, _ => hp.elim
  | _ :: _, [], _, _, hp, _, _ => by simp [PartsOK] at hp
  | (i, x) :: ps, (j, v) :: vs, es, n, hp, h, hs => by
    obtain ⟨rfl, h1, h2, h3, h4, hp⟩ := hp
    simp only [rowsOf] at h
    split at h
    · rename_i e he
      cases hk : Nat.beq e.length k with
      | false => rw [hk] at h; simp at h
      | true =>
        rw [hk] at h
        simp only [cond_true] at h
        have hk := Nat.eq_of_beq_eq_true hk
        cases hr : rowsOf k vs with
        | none => rw [hr] at h; simp at h
        | some rs =>
          rw [hr] at h
          simp only [Option.map_some, Option.some.injEq] at h
          subst h
          simp only [seqB, Bool.and_eq_true] at hs
          have hin := Nat.eq_of_beq_eq_true hs.1
          subst hin
          obtain ⟨a1, a2, a3, a4, a5⟩ := rowsOf_ok hp hr hs.2
          have hv := asPs_get he
          subst hv
          have hp1 := pure_back h1
          have hlen := hp1.len
          simp only [Array.length_toList] at hlen
          refine ⟨by simp [a1], ?_, by simp only [List.map_cons, List.zipIdx_cons, a3], ?_, ?_⟩
          · intro y hy
            rcases List.mem_cons.1 hy with rfl | hy
            · exact hk
            · exact a2 y hy
          · intro y hy
            simp only [List.map_cons] at hy
            rcases List.mem_cons.1 hy with rfl | hy
            · exact ⟨by omega, h2⟩
            · exact a4 y hy
          · simp only [List.flatten_cons, List.map_cons, List.flatMap_cons]
            exact hp1.append a5
    · cases h
theorem evBuildSlice_ok {T : TypeId → Lay} (hT : ∀ t, LayOK P t (T t)) (h : RelAt w0 im0 N D bm rm L a w) {t : TypeId} {len : Nat} {ps : Array (Nat × Operand)} {R : List Nat} {z : Deed} (hr : (evBuildSlice T N o t len ps.toList).run L R = some z) (ho : o.op = .buildSlice t len ps) : Res P w0 im0 N D o a w (ovr z.1 L) := by
  unfold evBuildSlice at hr
  split at hr
  · rename_i e esz bytes eagg ez d hlay hd
    have hs := hT t
    rw [hlay] at hs
    obtain ⟨hu, hsz, _, hzo, hezl, _⟩ := lay_sl hs
    obtain ⟨ie, hie, hiesz⟩ := sizeB_info hsz
    obtain ⟨zv, _, hzr, _, ie', hie', hiz⟩ := zeroOfB_run hzo w
    rw [hie] at hie'; cases hie'
    cases hg : okS N d && Nat.blt 0 esz && seqB ps.toList 0 && Nat.beq ps.toList.length len && Nat.ble (len * esz) 16777216 with
    | false => rw [hg] at hr; simp [AskR.run] at hr
    | true =>
      rw [hg] at hr
      simp only [cond_true, AskR.run] at hr
      simp only [Bool.and_eq_true, Nat.ble_eq] at hg
      obtain ⟨⟨⟨⟨g1, g2⟩, g3⟩, g4⟩, g5⟩ := hg
      have g4 := Nat.eq_of_beq_eq_true g4
      have hpos : 0 < esz := by simpa [Nat.blt_eq] using g2
      split at hr
      · rename_i hc
        replace hr := opds_inv h hr; obtain ⟨vs, R', hp, hr⟩ := hr
        simp only [List.reverse_nil, List.nil_append] at hr
        split at hr
        · rename_i es hes
          simp only [AskR.run, Option.some.injEq] at hr
          subst hr
          obtain ⟨b1, b2, b3, b4, b5⟩ := rowsOf_ok hp hes g3
          have hfl : ((ps.toList.map fun x => a.eval x.2).flatMap fun v => v.cells.toList).length = len * esz := by
            have := b5.len
            rw [this, flatten_len b2, b1, g4]
          have hrun : (Instr.buildSlice t len (ps.map fun (i, x) => (i, a.eval x))).run P w = .ok (.slice (some ⟨w.heap.size, 0, none⟩) len len) (w.alloc (.cells ((ps.toList.map fun x => a.eval x.2).flatMap fun v => v.cells.toList).toArray e)) := by
            by_cases h0 : len = 0
            · subst h0
              have hp0 : ps.toList = [] := List.eq_nil_of_length_eq_zero g4
              have hp1 : ps = #[] := by simpa using hp0
              subst hp1
              simp [Instr.buildSlice, run_underlying hu, sizeOf, typeInfo, hie, Instr.fill, newRow]
              exact congrArg (fun c => w.alloc (Obj.cells c e)) (Array.eq_empty_of_size_eq_zero (by simp))
            · refine run_buildSlice w t e len _ _ ie zv hu hie hiz (by rw [hiesz]; omega) (by rw [hiesz]; exact Nat.mul_ne_zero h0 (by omega)) ?_
              simp only [Array.toList_map]
              rw [show (ps.toList.map fun x => (x.1, a.eval x.2)) = (ps.toList.map fun (i, x) => (i, a.eval x)) from rfl, b3, hiesz]
              exact Go.Great.fill_whole hpos _ _ (fun v hv => (b4 v hv).1) (by simp [g4])
          have hown : (w.alloc (.cells ((ps.toList.map fun x => a.eval x.2).flatMap fun v => v.cells.toList).toArray e)).ownsRow w0.heap.size e esz (.slice (some ⟨w.heap.size, 0, none⟩) len len) es.length ((ps.toList.map fun x => a.eval x.2).flatMap fun v => v.cells.toList) := by
            refine ⟨by rw [hfl, b1, g4], .inr ⟨w.heap.size, len, _, by rw [b1, g4], h.base.size, heap_alloc_new w _, by omega, ?_, by simpa using hfl, ?_⟩⟩
            · have : len ≤ len * esz := Nat.le_mul_of_pos_right len hpos
              simp only [maxLen]; omega
            · rw [b1, g4]; exact List.take_of_length_le (Nat.le_of_eq hfl)
          have hnew := h.newRow (d := d) (r := d) (row := none) hc (World.grownBy_alloc w _ none) (by simp) hown (fun g hg => by simp [Value.ownBlock] at hg; omega) b5 ⟨b2, fun u hu => by
            obtain ⟨v, hv, hu⟩ := List.mem_flatMap.1 hu
            exact (b4 v hv).2 u hu⟩
          refine ⟨w.alloc (.cells ((ps.toList.map fun x => a.eval x.2).flatMap fun v => v.cells.toList).toArray e), .inl ⟨.slice (some ⟨w.heap.size, 0, none⟩) len len, ?_, ?_⟩⟩
          · simp only [execOp, ho, Sem.run_bind, hrun, Result.andThen_ok, Sem.run_pure]
          · rw [ovr_cons, hd]
            refine ⟨_, _, hnew.put (by simpa [Nat.blt_eq] using g1) ⟨by rw [updN_same], _, _, _, rfl⟩ (by simp [TV.boxes, CV.boxes]) (fun t ht => ?_)⟩
            simp only [TV.rows, CV.rows, List.mem_singleton] at ht
            subst ht
            rw [ovr_cons, ovrR_R, if_pos rfl]; simp
        · simp [AskR.run] at hr
      · simp [AskR.run] at hr
  · simp [AskR.run] at hr
end
section
variable {P : Program} {w0 : World} {im0 : Nat → Prop} {N : NN} {D : Env} {bm : Nat → Nat} {rm : Nat → Value} {L : Lk} {a : Act} {w w' : World} {o : Oper} {im : Nat → Prop}
theorem run_builtin (b : Builtin) (args : Array Operand) (ats : Array TypeId) (ho : o.op = .call { callee := .builtin b, args := args, argTypes := ats }) :
    ∃ cs, (execOp a.eval o).run P w = (builtin b ats o.type cs (args.map a.eval)).run P w := by
  simp only [execOp, ho, resolve, invoke, Sem.run_bind, Sem.run_pure, Result.andThen_ok]
  exact ⟨_, rfl⟩
def evLen (ar : Ar) (T : TypeId → Lay) (N : NN) (o : Oper) (t : TypeId) (x : Operand) : Ask := match T t with
  | .sl .. => opd x fun p => match p with
    | .c (.p (.list _ es)) => putA N o.dst (.c (.p (.int .i64 (ar.ln es)))) []
    | .c (.p .nil) => putA N o.dst (.c (.p (.int .i64 0))) []
    | .c (.row r) => .get (kR r) fun c => match c with
      | .row _ _ es => putA N o.dst (.c (.p (.int .i64 (ar.ln es)))) []
      | _ => .fail
    | _ => .fail
  | .arr _ n _ _ _ => opd x fun _ => putA N o.dst (.c (.p (.int .i64 n))) []
  | _ => .fail
theorem ownsRow_val {e : TypeId} {k n : Nat} {v : Value} {xs : List Value} (h : w.ownsRow w0.heap.size e k v n xs) : ∃ A c, v = .slice A n c ∧ n ≤ c ∧ c ≤ maxLen := by
  rcases h.2 with ⟨rfl, rfl⟩ | ⟨g, cap, cur, rfl, _, _, hc, hm, _, _⟩
  · exact ⟨none, 0, rfl, by simp, by simp⟩
  · exact ⟨_, cap, rfl, hc, hm⟩
theorem evLen_ok {ar : Ar} (har : ar = Ar.std) {T : TypeId → Lay} (hT : ∀ t, LayOK P t (T t)) (h : RelAt w0 im0 N D bm rm L a w) {t : TypeId} {x : Operand} {R : List Nat} {z : Deed} (hr : (evLen ar T N o t x).run L R = some z)
    (ho : o.op = .call { callee := .builtin .len, args := #[x], argTypes := #[t] }) : Res P w0 im0 N D o a w (ovr z.1 L) := by
  subst har
  have hs := hT t
  unfold evLen at hr
  obtain ⟨cs9, hrun⟩ := run_builtin (P := P) (w := w) (a := a) .len _ _ ho
  split at hr
  · rename_i e esz bytes eagg ez hlay
    rw [hlay] at hs
    obtain ⟨hu, _⟩ := lay_sl hs
    have hl : ∀ A n c, a.eval x = .slice A n c → (execOp a.eval o).run P w = .ok (.value (.int .i64 n)) w := fun A n c hx => by
      rw [hrun]
      simp [builtin, Builtin.len_, hx, run_underlying hu, goInt]
    replace hr := opd_inv h hr; obtain ⟨p, R1, hp, hr⟩ := hr
    split at hr
    · rename_i k es
      obtain ⟨A, n, c, hx, hn, _⟩ : ∃ A n c, a.eval x = .slice A n c ∧ n = es.length ∧ _ := by have := hp.rep; simpa only [RepT, RepV, RepP] using this
      exact res_put h (holds_pv (by simp [RepP, Ar.std, hn])) hr (hl A n c hx)
    · have hx : a.eval x = .slice none 0 0 := hp.rep
      exact res_put h (holds_pv (by simp [RepP])) hr (hl none 0 0 hx)
    · rename_i r
      simp only [AskR.run] at hr
      split at hr
      · rename_i e' k es hc
        obtain ⟨hx, _⟩ : a.eval x = rm r ∧ _ := hp.rep
        obtain ⟨xs, hown, _⟩ := h.rows r e' k es hc
        obtain ⟨A, c, hv, _⟩ := ownsRow_val hown
        exact res_put (u := .int .i64 es.length) h (holds_pv (by simp [RepP, Ar.std])) hr (hl A _ c (by rw [hx, hv]))
      · simp [AskR.run] at hr
    · simp [AskR.run] at hr
  · rename_i cm n esz eagg zs hlay
    rw [hlay] at hs
    obtain ⟨e, hu, _⟩ := lay_arr hs
    replace hr := opd_inv h hr; obtain ⟨p, R1, hp, hr⟩ := hr
    refine res_put (u := .int .i64 n) h (holds_pv (by simp [RepP])) hr ?_
    rw [hrun]
    simp [builtin, Builtin.len_, run_underlying hu, goInt]
  · simp [AskR.run] at hr
def evMin (f : Int → Int → Int) (N : NN) (o : Oper) (x y : Operand) : Ask := opd x fun u => opd y fun v => match u, v with
  | .c (.p (.int .i64 m)), .c (.p (.int .i64 n)) => putA N o.dst (.c (.p (.int .i64 (f m n)))) []
  | _, _ => .fail
theorem evMin_ok (h : RelAt w0 im0 N D bm rm L a w) {x y : Operand} {ats : Array TypeId} {R : List Nat} {z : Deed} (hr : (evMin Ar.std.mn N o x y).run L R = some z)
    (ho : o.op = .call { callee := .builtin .min, args := #[x, y], argTypes := ats }) : Res P w0 im0 N D o a w (ovr z.1 L) := by
  obtain ⟨cs9, hrun⟩ := run_builtin (P := P) (w := w) (a := a) .min _ _ ho
  replace hr := opd_inv h hr; obtain ⟨u, R1, hu, hr⟩ := hr
  replace hr := opd_inv h hr; obtain ⟨v, R1, hv, hr⟩ := hr
  split at hr
  · rename_i m n
    have hx : a.eval x = .int .i64 m := hu.rep
    have hy : a.eval y = .int .i64 n := hv.rep
    refine res_put (u := .int .i64 (if n < m then n else m)) h (holds_pv (by simp [RepP, Ar.std])) hr ?_
    rw [hrun]
    simp [builtin, Builtin.min_, Builtin.min2, hx, hy]
  · simp [AskR.run] at hr
theorem evMax_ok (h : RelAt w0 im0 N D bm rm L a w) {x y : Operand} {ats : Array TypeId} {R : List Nat} {z : Deed} (hr : (evMin Ar.std.mx N o x y).run L R = some z)
    (ho : o.op = .call { callee := .builtin .max, args := #[x, y], argTypes := ats }) : Res P w0 im0 N D o a w (ovr z.1 L) := by
  obtain ⟨cs9, hrun⟩ := run_builtin (P := P) (w := w) (a := a) .max _ _ ho
  replace hr := opd_inv h hr; obtain ⟨u, R1, hu, hr⟩ := hr
  replace hr := opd_inv h hr; obtain ⟨v, R1, hv, hr⟩ := hr
  split at hr
  · rename_i m n
    have hx : a.eval x = .int .i64 m := hu.rep
    have hy : a.eval y = .int .i64 n := hv.rep
    refine res_put (u := .int .i64 (if n > m then n else m)) h (holds_pv (by simp [RepP, Ar.std])) hr ?_
    rw [hrun]
    simp [builtin, Builtin.max_, Builtin.max2, hx, hy]
  · simp [AskR.run] at hr
theorem append_fresh (base : Nat) (t ty e : TypeId) (i : TypeInfo) (z : Value) (size bytes : Nat) (ht : P.underlying t = some (.slice e)) (hi : P.info? e = some i) (hz : i.zero = some z)
    (hsize : i.size = size) (hby : i.bytes = bytes) (hzs : z.cells.size = size) (hsz : 0 < size)
    (v : Value) (n : Nat) (xs : List Value) (hown : w.ownsRow base e size v n xs)
    (A : Option Addr) (m c : Nat) (news : List Value) (hl : news.length = m * size) (hnews : m = 0 ∨ ∃ b, A = some b ∧ ∀ (j : Nat) u, news[j]? = some u → w.cell? (b.add j) = some u) (h1 : ∀ u ∈ news, u.oneCell' = true)
    (h63 : n + m ≤ maxLen) (hbytes : (n + m) * bytes ≤ 140737488355328) (hbase : base ≤ w.heap.size) :
    ∃ v' w', (Builtin.append_ #[t, t] ty #[v, .slice A m c]).run P w = .ok v' w' ∧ w'.ownsRow base e size v' (n + m) (xs ++ news) ∧ w.grownBy w' v.ownBlock ∧ (∀ g, v'.ownBlock = some g → v.ownBlock = some g ∨ w.heap.size ≤ g) := by
  by_cases hm0 : m = 0
  · subst hm0
    have hnil : news = [] := List.eq_nil_of_length_eq_zero (by simpa using hl)
    subst hnil
    obtain ⟨A', c', hv, hc, _⟩ : ∃ A' c', v = .slice A' n c' ∧ n ≤ c' ∧ c' ≤ maxLen := by
      rcases hown.2 with ⟨rfl, rfl⟩ | ⟨g, cap, cur, rfl, _, _, hc, hm, _, _⟩
      · exact ⟨none, 0, rfl, by simp, by simp⟩
      · exact ⟨_, cap, rfl, hc, hm⟩
    refine ⟨v, w, ?_, by simpa using hown, ⟨rfl, rfl, rfl, Nat.le_refl _, fun _ _ _ => rfl⟩, fun g hg => .inl hg⟩
    subst hv
    cases A <;> cases A' <;> simp [Builtin.append_, run_underlying ht, sizeOf, typeInfo, hi, Builtin.lenOf, hc, Builtin.firstCells, loadCells, loadCellsFrom, storeCells]
  · rcases hnews with hnews | ⟨b, rfl, hnews⟩
    · exact absurd hnews hm0
    · obtain ⟨v', w', hr, h2, h3, h4⟩ := run_append_own (P := P) w base t ty e i z size bytes ht hi hz hsize hby hzs hsz v n xs hown b m c news hl hnews h1 h63 hbytes hbase
      refine ⟨v', w', hr, h2, h3, fun g hg => ?_⟩
      subst hsize
      subst hby
      rcases hown.2 with ⟨rfl, rfl⟩ | ⟨g', cap, cur, rfl, hbg, hgg, hnc, hcm, hcs, htake⟩
      · have hr2 := run_append_nil (P := P) w t ty e i z ht hi hz b m c news hl hnews (by omega) (by simp only [maxLen] at h63; omega) (by simp only [Nat.zero_add] at hbytes; omega)
        rw [hr2] at hr
        cases hr
        simp only [Value.ownBlock, Option.some.injEq] at hg
        exact .inr (by omega)
      · by_cases hroom : n + m ≤ cap
        · have hfit : n * i.size + news.length ≤ cur.size := by rw [hl, hcs, ← Nat.add_mul]; exact Nat.mul_le_mul_right _ hroom
          have hr2 := run_append_room (P := P) w t ty e i ht hi g' n cap cur hgg b m c news hl hnews h1 hroom hfit
          rw [hr2] at hr
          cases hr
          exact .inl hg
        · have holds : ∀ j u, xs[j]? = some u → w.cell? ((⟨g', 0, none⟩ : Addr).add j) = some u := hown.cells (g := g') rfl
          have hr2 := run_append_grow (P := P) w t ty e i z ht hi hz ⟨g', 0, none⟩ n cap xs hown.1 holds b m c news hl hnews (by omega) (by simp only [maxLen] at h63; omega) (growslice_fits (by omega) hbytes)
          rw [hr2] at hr
          cases hr
          simp only [Value.ownBlock, Option.some.injEq] at hg
          exact .inr (by omega)
def rowsOfV (v : TV) (f : Nat → List (List PV) → Ask) : Ask := match v with
  | .c (.p (.list k es)) => f k es
  | .c (.row r) => .get (kR r) fun c => match c with
    | .row _ k es => f k es
    | _ => .fail
  | _ => .fail
theorem rowsOfV_ok (h : RelAt w0 im0 N D bm rm L a w) {v : TV} {u : Value} {f : Nat → List (List PV) → Ask} {R : List Nat} {y : Deed} (hv : Holds w0 im0 bm rm L w v u) (hr : (rowsOfV v f).run L R = some y) :
    ∃ k es R' A c xs, u = .slice A es.length c ∧ xs.length = es.length * k ∧ (es.length = 0 ∨ ∃ b, A = some b ∧ ∀ (j : Nat) x, xs[j]? = some x → w.cell? (b.add j) = some x) ∧
      RepL (imOf w0.heap.size im0 bm rm L w) w es.flatten xs ∧ (∀ e ∈ es, e.length = k) ∧ (∀ u ∈ xs, u.oneCell' = true) ∧ (f k es).run L R' = some y := by
  unfold rowsOfV at hr
  split at hr
  · rename_i k es
    obtain ⟨A, n, c, hu, hn, hnc, _, hor⟩ : ∃ A n c, u = .slice A n c ∧ n = es.length ∧ n ≤ c ∧ _ ∧ _ := by have := hv.rep; simpa only [RepT, RepV, RepP] using this
    subst hn
    rcases hor with rfl | ⟨b, o', rfl, him, hE⟩
    · exact ⟨k, [], R, A, c, [], hu, by simp, .inl rfl, by simp [RepL], by simp, by simp, hr⟩
    · obtain ⟨xs, hl, hone, hrg, hrep⟩ := hE.flat
      refine ⟨k, es, R, _, c, xs, hu, hl, .inr ⟨_, rfl, fun j x hx => ?_⟩, hrep, fun e he => ?_, hone, hr⟩
      · rw [Addr.add_mid]; exact hrg j x hx
      · obtain ⟨i, hi⟩ := List.getElem?_of_mem he
        obtain ⟨us, hul, _, _, hur⟩ := hE.get hi
        rw [← hul]; exact (hur.len).symm
  · rename_i r
    simp only [AskR.run] at hr
    split at hr
    · rename_i e k es hc
      obtain ⟨hx, _⟩ : u = rm r ∧ _ := hv.rep
      obtain ⟨xs, hown, hl, hk⟩ := h.rows r e k es hc
      have hxl := hown.1
      rcases hown.2 with ⟨hv, h0⟩ | ⟨g, cap, cur, hv, _, _, _, _, _, _⟩
      · exact ⟨k, es, _, none, 0, xs, by rw [hx, hv, h0], hxl, .inl h0, hl, hk.1, hk.2, hr⟩
      · refine ⟨k, es, _, _, cap, xs, by rw [hx, hv], hxl, .inr ⟨⟨g, 0, none⟩, rfl, ?_⟩, hl, hk.1, hk.2, hr⟩
        exact hown.cells (g := g) (by rw [hv]; rfl)
    · simp [AskR.run] at hr
  · simp [AskR.run] at hr
def cellsP : List PV → Bool
  | [] => true
  | p :: r => (CV.p p).isCell && cellsP r
def evAppend (ar : Ar) (T : TypeId → Lay) (N : NN) (o : Oper) (t : TypeId) (x y : Operand) : Ask := match T t, o.dst with
  | .sl e esz bytes _ ez, some d => bif okS N d && Nat.blt 0 esz && cellsP ez then .get (kR d) fun cd => match cd with
      | .none => opd x fun p => opd y fun q => match p with
        | .c (.row r) => .get (kR r) fun c => match c with
          | .row e' k es => bif Nat.beq e' e && Nat.beq k esz then (match q with
              | .c (.p .nil) => bif ar.fits bytes es [] then .done [(kT d, .t (.c (.row d))), (kR d, .row e esz es), (kR r, .dead)] else .fail
              | _ => rowsOfV q fun k' es' => bif Nat.beq k' esz && ar.fits bytes es es' then .done [(kT d, .t (.c (.row d))), (kR d, .row e esz (es ++ es')), (kR r, .dead)] else .fail)
            else .fail
          | _ => .fail
        | .c (.p .nil) => (match q with
            | .c (.p .nil) => .done [(kT d, .t (.c (.row d))), (kR d, .row e esz []), (kR d, .dead)]
            | _ => rowsOfV q fun k' es' => bif Nat.beq k' esz && ar.fits bytes [] es' then .done [(kT d, .t (.c (.row d))), (kR d, .row e esz es'), (kR d, .dead)] else .fail)
        | _ => .fail
      | _ => .fail
    else .fail
  | _, _ => .fail
theorem cellsP_one : ∀ {ps : List PV} {us : List Value}, cellsP ps = true → RepL im w ps us → ∀ u ∈ us, u.oneCell' = true
  | [], us, _, h, u, hu => by simp only [RepL] at h; subst h; simp at hu
  | p :: ps, us, hc, h, u, hu => by
    simp only [RepL] at h
    obtain ⟨x, xs, rfl, h1, h2⟩ := h
    simp only [cellsP, Bool.and_eq_true] at hc
    rcases List.mem_cons.1 hu with rfl | hu
    · exact (isCell_one (bm := fun _ => 0) (rm := fun _ => .nilFunc) (im := im) (w := w) hc.1 h1).1
    · exact cellsP_one hc.2 h2 u hu
theorem evAppend_core {T : TypeId → Lay} (hT : ∀ t, LayOK P t (T t)) (h : RelAt w0 im0 N D bm rm L a w) {t e : TypeId} {esz bytes : Nat} {eagg : Bool} {ez : List PV} {d r : Nat} {x y : Operand} (hlay : T t = .sl e esz bytes eagg ez) (hd : o.dst = some d) (hN : okS N d = true) (hpos : 0 < esz)
    (ho : o.op = .call { callee := .builtin .append, args := #[x, y], argTypes := #[t, t] }) (hn : L (kR d) = .none) {v : Value} {es es' : List (List PV)} {xs : List Value} (hx : a.eval x = v) (hown : w.ownsRow w0.heap.size e esz v es.length xs)
    (hl : RepL (imOf w0.heap.size im0 bm rm L w) w es.flatten xs) (hk : (∀ z ∈ es, z.length = esz) ∧ ∀ u ∈ xs, u.oneCell' = true)
    (hrow : ∀ g, v.ownBlock = some g → w0.heap.size ≤ g ∧ (∀ k, isBox L k → bm k ≠ g) ∧ (∀ t, isRow L t → t ≠ r → (rm t).ownBlock ≠ some g) ∧ ¬ imOf w0.heap.size im0 bm rm L w g ∧ Obj.machB w.heap[g]? = false)
    {A : Option Addr} {c : Nat} {news : List Value} (hy : a.eval y = .slice A es'.length c) (hnl : news.length = es'.length * esz) (hnews : es'.length = 0 ∨ ∃ b, A = some b ∧ ∀ (j : Nat) u, news[j]? = some u → w.cell? (b.add j) = some u)
    (hnr : RepL (imOf w0.heap.size im0 bm rm L w) w es'.flatten news) (hnk : (∀ z ∈ es', z.length = esz) ∧ ∀ u ∈ news, u.oneCell' = true) (hfit : Ar.std.fits bytes es es' = true) :
    Res P w0 im0 N D o a w (ovr [(kT d, .t (.c (.row d))), (kR d, .row e esz (es ++ es')), (kR r, .dead)] L) := by
  have hs := hT t
  rw [hlay] at hs
  obtain ⟨hu, hsz, _, hzo, hezl, ib, hib, hbytes⟩ := lay_sl hs
  obtain ⟨ie, hie, hiesz⟩ := sizeB_info hsz
  rw [hie] at hib; cases hib
  obtain ⟨zv, _, hzr, _, ie', hie', hiz⟩ := zeroOfB_run hzo w
  rw [hie] at hie'; cases hie'
  have hfit : (es.length + es'.length) * (bytes + 1) ≤ 1000000000000 := by simpa [Ar.std] using hfit
  rw [Nat.mul_add, Nat.mul_one] at hfit
  have hzs : zv.cells.size = esz := by have := (hzr (fun _ => True) w).len; simpa [hezl] using this
  obtain ⟨v', w', hr, hown', hg, hfr⟩ := append_fresh (P := P) (w := w) w0.heap.size t o.type e ib zv esz bytes hu hie hiz hiesz hbytes hzs hpos v es.length xs hown A es'.length c news hnl hnews hnk.2 (by simp only [maxLen]; omega) (by omega) h.base.size
  obtain ⟨cs9, hrun⟩ := run_builtin (P := P) (w := w) (a := a) .append _ _ ho
  have hflat : (es ++ es').flatten = es.flatten ++ es'.flatten := by simp
  have hnew := h.newRow (d := d) (r := r) (e := e) (k := esz) (es := es ++ es') (v := v') (xs := xs ++ news) hn hg hrow (by rw [List.length_append]; exact hown') hfr (by rw [hflat]; exact hl.append hnr)
    ⟨fun z hz => (List.mem_append.1 hz).elim (hk.1 z) (hnk.1 z), fun u hu => (List.mem_append.1 hu).elim (hk.2 u) (hnk.2 u)⟩
  refine ⟨w', .inl ⟨v', ?_, ?_⟩⟩
  · rw [hrun]
    simp only [builtin, List.map_toArray, List.map_cons, List.map_nil, hx, hy, Sem.run_bind, hr, Result.andThen_ok, Sem.run_pure]
  · rw [ovr_cons, hd]
    obtain ⟨A', c', hv', _⟩ := ownsRow_val hown'
    refine ⟨_, _, hnew.put hN ⟨by rw [updN_same], A', _, c', hv'⟩ (by simp [TV.boxes, CV.boxes]) (fun t ht => ?_)⟩
    simp only [TV.rows, CV.rows, List.mem_singleton] at ht
    subst ht
    rw [ovr_cons, ovrR_R, if_pos rfl]; simp
theorem evAppend_ok {ar : Ar} (har : ar = Ar.std) {T : TypeId → Lay} (hT : ∀ t, LayOK P t (T t)) (h : RelAt w0 im0 N D bm rm L a w) {t : TypeId} {x y : Operand} {R : List Nat} {z : Deed} (hr : (evAppend ar T N o t x y).run L R = some z)
    (ho : o.op = .call { callee := .builtin .append, args := #[x, y], argTypes := #[t, t] }) : Res P w0 im0 N D o a w (ovr z.1 L) := by
  subst har
  unfold evAppend at hr
  split at hr
  · rename_i e esz bytes eagg ez d hlay hd
    cases hg : okS N d && Nat.blt 0 esz && cellsP ez with
    | false => rw [hg] at hr; simp [AskR.run] at hr
    | true =>
      rw [hg] at hr
      simp only [cond_true, AskR.run] at hr
      simp only [Bool.and_eq_true, Nat.blt_eq] at hg
      obtain ⟨⟨hN, hpos⟩, _⟩ := hg
      split at hr
      · rename_i hn
        replace hr := opd_inv h hr; obtain ⟨p, R1, hp, hr⟩ := hr
        replace hr := opd_inv h hr; obtain ⟨q, R2, hq, hr⟩ := hr
        split at hr
        · rename_i r
          simp only [AskR.run] at hr
          split at hr
          · rename_i e' k es hc
            cases hek : Nat.beq e' e && Nat.beq k esz with
            | false => rw [hek] at hr; simp [AskR.run] at hr
            | true =>
              rw [hek] at hr
              simp only [cond_true] at hr
              simp only [Bool.and_eq_true] at hek
              have h1 := Nat.eq_of_beq_eq_true hek.1; subst h1
              have h2 := Nat.eq_of_beq_eq_true hek.2; subst h2
              obtain ⟨hx, _⟩ : a.eval x = rm r ∧ _ := hp.rep
              obtain ⟨xs, hown, hl, hk⟩ := h.rows r e' k es hc
              have hir : isRow L r := ⟨e', k, es, hc⟩
              have hrow : ∀ g, (rm r).ownBlock = some g → w0.heap.size ≤ g ∧ (∀ k, isBox L k → bm k ≠ g) ∧ (∀ t, isRow L t → t ≠ r → (rm t).ownBlock ≠ some g) ∧ ¬ imOf w0.heap.size im0 bm rm L w g ∧ Obj.machB w.heap[g]? = false := fun g hg =>
                ⟨(hown.lt g hg).1, fun k hk e => h.br k r hk hir (by rw [hg, e]), fun t ht hne e => hne (h.rr t r g ht hir e hg), fun hi => hi.2.2.2 r hir hg, owns_not_mach hown hg⟩
              split at hr
              · have hy : a.eval y = .slice none 0 0 := hq.rep
                cases hf : Ar.std.fits bytes es [] with
                | false => rw [hf] at hr; simp [AskR.run] at hr
                | true =>
                  rw [hf] at hr
                  simp only [cond_true, AskR.run, Option.some.injEq] at hr
                  subst hr
                  have := evAppend_core (r := r) (es' := []) hT h hlay hd hN hpos ho hn hx hown hl hk hrow hy (news := []) (by simp) (.inl rfl) (by simp [RepL]) (by simp) hf
                  simpa using this
              · obtain ⟨k', es', R', A, c, news, hy, hnl, hnews, hnr, hnk, hone, hr⟩ := rowsOfV_ok h hq hr
                cases hf : Nat.beq k' k && Ar.std.fits bytes es es' with
                | false => rw [hf] at hr; simp [AskR.run] at hr
                | true =>
                  rw [hf] at hr
                  simp only [cond_true, AskR.run, Option.some.injEq] at hr
                  subst hr
                  simp only [Bool.and_eq_true] at hf
                  have h3 := Nat.eq_of_beq_eq_true hf.1; subst h3
                  exact evAppend_core hT h hlay hd hN hpos ho hn hx hown hl hk hrow hy hnl hnews hnr ⟨hnk, hone⟩ hf.2
          · simp [AskR.run] at hr
        · have hx : a.eval x = .slice none 0 0 := hp.rep
          have hown := World.ownsRow_nil w w0.heap.size e esz
          have hrow : ∀ g, (Value.slice none 0 0).ownBlock = some g → w0.heap.size ≤ g ∧ (∀ k, isBox L k → bm k ≠ g) ∧ (∀ t, isRow L t → t ≠ d → (rm t).ownBlock ≠ some g) ∧ ¬ imOf w0.heap.size im0 bm rm L w g ∧ Obj.machB w.heap[g]? = false := fun g hg => by simp [Value.ownBlock] at hg
          split at hr
          · have hy : a.eval y = .slice none 0 0 := hq.rep
            simp only [AskR.run, Option.some.injEq] at hr
            subst hr
            exact evAppend_core (r := d) (es := []) (es' := []) hT h hlay hd hN hpos ho hn hx hown (by simp [RepL]) (by simp) hrow hy (news := []) (by simp) (.inl rfl) (by simp [RepL]) (by simp) (by simp [Ar.std])
          · obtain ⟨k', es', R', A, c, news, hy, hnl, hnews, hnr, hnk, hone, hr⟩ := rowsOfV_ok h hq hr
            cases hf : Nat.beq k' esz && Ar.std.fits bytes [] es' with
            | false => rw [hf] at hr; simp [AskR.run] at hr
            | true =>
              rw [hf] at hr
              simp only [cond_true, AskR.run, Option.some.injEq] at hr
              subst hr
              simp only [Bool.and_eq_true] at hf
              have h3 := Nat.eq_of_beq_eq_true hf.1; subst h3
              exact evAppend_core (r := d) (es := []) hT h hlay hd hN hpos ho hn hx hown (by simp [RepL]) (by simp) hrow hy hnl hnews hnr ⟨hnk, hone⟩ hf.2
        · simp [AskR.run] at hr
      · simp [AskR.run] at hr
  · simp [AskR.run] at hr
end
section
variable {w0 : World} {im0 : Nat → Prop} {N : NN} {D : Env} {bm : Nat → Nat} {rm : Nat → Value} {L : Lk} {a : Act} {w w' : World}
theorem RelAt.newRows (h : RelAt w0 im0 N D bm rm L a w) {L' : Lk} {rm' : Nat → Value} (hg : Below w.heap.size w w')
    (oT : ∀ k, L' (kT k) = L (kT k)) (oB : ∀ k, L' (kB k) = L (kB k)) (oI : ∀ i, (∃ e k es, L' i = .row e k es) ∨ L' i = L i)
    (oR : ∀ t, (∃ e k es xs, L' (kR t) = .row e k es ∧ L (kR t) = .none ∧ w'.ownsRow w.heap.size e k (rm' t) es.length xs ∧ RepL (fun _ => False) w' es.flatten xs ∧ ((∀ x ∈ es, x.length = k) ∧ ∀ u ∈ xs, u.oneCell' = true)) ∨ L' (kR t) = L (kR t))
    (hag : ∀ t, L (kR t) ≠ .none → rm' t = rm t)
    (hdis : ∀ t t' g, L (kR t) = .none → L (kR t') = .none → isRow L' t → isRow L' t' → (rm' t).ownBlock = some g → (rm' t').ownBlock = some g → t = t') :
    RelAt w0 im0 N D bm rm' L' a w' := by
  have hblk : ∀ b, b < w.heap.size → w'.heap[b]? = w.heap[b]? := fun b hb => hg.block b hb
  have iB' : ∀ k', isBox L' k' = isBox L k' := fun k' => by simp only [isBox, oB]
  have iR : ∀ t, isRow L' t → (L (kR t) = .none ∧ ∀ g, (rm' t).ownBlock = some g → w.heap.size ≤ g) ∨ (isRow L t ∧ rm' t = rm t) := fun t ht => by
    rcases oR t with ⟨e, k, es, xs, h1, h2, h3, h4, h5⟩ | h1
    · exact .inl ⟨h2, fun g hg => (h3.lt g hg).1⟩
    · obtain ⟨e, k, es, he⟩ := ht
      rw [h1] at he
      exact .inr ⟨⟨e, k, es, he⟩, hag t (by rw [he]; simp)⟩
  have agree : ∀ {c : Cont} {i : Nat}, L i = c → ∀ t ∈ c.rows, rm' t = rm t := by
    rintro c i rfl t ht
    exact hag t (h.wfr i t ht)
  have hk1 : Keeps (imOf w0.heap.size im0 bm rm L w) w (imOf w0.heap.size im0 bm rm' L' w') w' := by
    intro b hb
    refine ⟨⟨hb.1.keep hg.size (hblk b hb.1.1), hb.2.1, fun k' hk' => hb.2.2.1 k' (by rw [iB'] at hk'; exact hk'), fun t ht e => ?_⟩, hblk b hb.1.1⟩
    rcases iR t ht with ⟨_, h2⟩ | ⟨h1, h2⟩
    · have := h2 b e; have := hb.1.1; omega
    · rw [h2] at e; exact hb.2.2.2 t h1 e
  have hbase : Below w0.heap.size w0 w' := ⟨hg.os.trans h.base.os, hg.tape.trans h.base.tape, hg.output.trans h.base.output, Nat.le_trans h.base.size hg.size, fun b hb => by
    rw [hblk b (Nat.lt_of_lt_of_le hb h.base.size)]; exact h.base.block b hb⟩
  refine ⟨hbase, h.size, h.defs.keep (by first | exact Nat.le_refl _ | exact hg.size | exact hbel.size | exact hw.size | exact hs | (simp; done) | omega) hk1 (fun b hb => hblk b (mach_lt hb)), fun d' v' hv' => ?_, fun k' ty' cs' hc => ?_, fun k' o hc => ?_, fun t e' k' es' ht => ?_, fun k1 k2 => by rw [iB', iB']; exact h.bb k1 k2, fun k' t hk' ht => ?_, fun t t' g ht ht' hg1 hg2 => ?_, fun i k' hk' => ?_, fun i t ht => ?_⟩
  · rw [oT] at hv'
    exact (h.slots d' v' hv').keep hk1 (fun _ _ => rfl) (agree hv')
  · rw [oB] at hc
    obtain ⟨us, hu, hr, hn'⟩ := h.boxes k' ty' cs' hc
    exact ⟨us, by rw [hblk _ (h.boxlt (.inl ⟨ty', cs', hc⟩))]; exact hu, hr.keep hk1 (fun _ _ => rfl) (agree (c := .box ty' cs') hc), hn'⟩
  · rw [oB] at hc
    obtain ⟨O, hu, hr, hn'⟩ := h.objs k' o hc
    exact ⟨O, by rw [hblk _ (h.boxlt (.inr ⟨o, hc⟩))]; exact hu, hr.keep hk1, hn'⟩
  · rcases oR t with ⟨e, k, es, xs, h1, h2, h3, h4, h5⟩ | h1
    · rw [h1] at ht
      cases ht
      exact ⟨xs, ⟨h3.1, h3.2.imp id (by rintro ⟨g, cap, cur, hv, hbg, hr⟩; exact ⟨g, cap, cur, hv, Nat.le_trans h.base.size hbg, hr⟩)⟩, RepL.keep (fun _ hf => hf.elim) _ _ h4, h5⟩
    · rw [h1] at ht
      obtain ⟨xs', hx', hl', hr'⟩ := h.rows t e' k' es' ht
      rw [hag t (by rw [ht]; simp)]
      refine ⟨xs', ?_, hl'.keep hk1, hr'⟩
      refine hx'.kept (row := none) ⟨hg.os, hg.tape, hg.output, hg.size, fun b hb _ => hblk b hb⟩ ?_
      cases (rm t).ownBlock <;> simp
  · rw [iB'] at hk'
    intro e
    rcases iR t ht with ⟨_, h2⟩ | ⟨h1, h2⟩
    · have := h2 _ e; have := h.boxlt hk'; omega
    · rw [h2] at e; exact h.br k' t hk' h1 e
  · rcases iR t ht with ⟨h1, h2⟩ | ⟨h1, h2⟩
    · rcases iR t' ht' with ⟨h3, h4⟩ | ⟨h3, h4⟩
      · exact hdis t t' g h1 h3 ht ht' hg1 hg2
      · rw [h4] at hg2
        have := h.rowlt h3 hg2; have := h2 g hg1; omega
    · rcases iR t' ht' with ⟨h3, h4⟩ | ⟨h3, h4⟩
      · rw [h2] at hg1
        have := h.rowlt h1 hg1; have := h4 g hg2; omega
      · rw [h2] at hg1; rw [h4] at hg2
        exact h.rr t t' g h1 h3 hg1 hg2
  · rw [oB]
    rcases oI i with ⟨e, k, es, he⟩ | he
    · rw [he] at hk'; simp [Cont.boxes] at hk'
    · rw [he] at hk'; exact h.wfb i k' hk'
  · have key : L (kR t) ≠ .none := by
      rcases oI i with ⟨e, k, es, he⟩ | he
      · rw [he] at ht; simp [Cont.rows] at ht
      · rw [he] at ht; exact h.wfr i t ht
    rcases oR t with ⟨e, k, es, xs, h1, h2, _⟩ | h1
    · rw [h1]; simp
    · rw [h1]; exact key
end
abbrev RowT := TypeId × Nat × List (List PV)
def ownCells : List PV → Option (List RowT)
  | [] => some []
  | p :: r => match p with
    | .own e k es => match ownCells r with
      | some l => some ((e, k, es) :: l)
      | none => none
    | _ => none
def ownV : PV → Option (Bool × List RowT)
  | .own e k es => some (false, [(e, k, es)])
  | .agg (p :: ps) => match ownCells (p :: ps) with
    | some l => some (true, l)
    | none => none
  | _ => none
def rowN (d j : Nat) : Nat := 2000 + 16 * d + j
def rowsA (d : Nat) : Nat → List RowT → List (Nat × Cont)
  | _, [] => []
  | j, r :: l => (kR (rowN d j), .row r.1 r.2.1 r.2.2) :: rowsA d (j + 1) l
def rowsC (d : Nat) : Nat → List RowT → List CV
  | _, [] => []
  | j, _ :: l => .row (rowN d j) :: rowsC d (j + 1) l
def chkR {β : Type} (d : Nat) : Nat → List RowT → AskR β → AskR β
  | _, [], f => f
  | j, _ :: l, f => .get (kR (rowN d j)) fun c => match c with
    | .none => chkR d (j + 1) l f
    | _ => .fail
def putN (N : NN) (dst : Option Nat) (b : Bool) (rs : List RowT) : Ask := match dst with
  | some d => chkR d 0 rs (putA N (some d) (bif b then .agg (rowsC d 0 rs) else .c (.row (rowN d 0))) (rowsA d 0 rs))
  | none => .fail
theorem chkR_run {β : Type} {L : Lk} {d : Nat} : ∀ (rs : List RowT) (j : Nat) (f : AskR β) (R : List Nat) (y : β × List Nat), (chkR d j rs f).run L R = some y → (∀ q, q < rs.length → L (kR (rowN d (j + q))) = .none) ∧ ∃ R', f.run L R' = some y
  | [], j, f, R, y, h => ⟨fun q hq => absurd hq (Nat.not_lt_zero q), R, h⟩
  | r :: l, j, f, R, y, h => by
    simp only [chkR, AskR.run] at h
    split at h
    · rename_i hc
      obtain ⟨h1, R', h2⟩ := chkR_run l (j + 1) f _ y h
      refine ⟨fun q hq => ?_, R', h2⟩
      cases q with
      | zero => exact hc
      | succ q => have := h1 q (by simpa using hq); rwa [show j + 1 + q = j + (q + 1) by omega] at this
    · simp [AskR.run] at h
theorem rowsA_at {L : Lk} {d : Nat} (i : Nat) : ∀ (rs : List RowT) (j : Nat), (∃ q r, rs[q]? = some r ∧ i = kR (rowN d (j + q)) ∧ ovr (rowsA d j rs) L i = .row r.1 r.2.1 r.2.2) ∨ ((∀ q, q < rs.length → i ≠ kR (rowN d (j + q))) ∧ ovr (rowsA d j rs) L i = L i)
  | [], j => .inr ⟨fun q hq => absurd hq (Nat.not_lt_zero q), rfl⟩
  | r :: l, j => by
    simp only [rowsA, ovr]
    cases hb : Nat.beq (kR (rowN d j)) i with
    | true => exact .inl ⟨0, r, rfl, (Nat.eq_of_beq_eq_true hb).symm, rfl⟩
    | false =>
      have hne := Nat.ne_of_beq_eq_false hb
      rcases rowsA_at i l (j + 1) with ⟨q, r', h1, h2, h3⟩ | ⟨h1, h2⟩
      · exact .inl ⟨q + 1, r', by simpa using h1, by rw [h2, show j + 1 + q = j + (q + 1) by omega], h3⟩
      · refine .inr ⟨fun q hq => ?_, h2⟩
        cases q with
        | zero => exact fun e => hne e.symm
        | succ q => have := h1 q (by simpa using hq); rwa [show j + 1 + q = j + (q + 1) by omega] at this
structure RepN (n0 : Nat) (w : World) (rs : List RowT) (us : List Value) : Prop where
  len : us.length = rs.length
  own : ∀ (j : Nat) (r : RowT) (x : Value), rs[j]? = some r → us[j]? = some x → ∃ xs, w.ownsRow n0 r.1 r.2.1 x r.2.2.length xs ∧ RepL (fun _ => False) w r.2.2.flatten xs ∧ ((∀ y ∈ r.2.2, y.length = r.2.1) ∧ ∀ u ∈ xs, u.oneCell' = true)
  dis : ∀ (i j : Nat) (x y : Value) (g : Nat), us[i]? = some x → us[j]? = some y → x.ownBlock = some g → y.ownBlock = some g → i = j
section
variable {P : Program} {w0 : World} {im0 : Nat → Prop} {N : NN} {D : Env} {bm : Nat → Nat} {rm : Nat → Value} {L : Lk} {a : Act} {w w' : World}
theorem ownsRow_isSlice {n0 : Nat} {e : TypeId} {k n : Nat} {v : Value} {xs : List Value} (h : w.ownsRow n0 e k v n xs) : ∃ A n c, v = .slice A n c := by
  rcases h.2 with ⟨hv, _⟩ | ⟨g, cap, cur, hv, _⟩
  · exact ⟨_, _, _, hv⟩
  · exact ⟨_, _, _, hv⟩
theorem rowsC_rep {bm : Nat → Nat} {rm : Nat → Value} {im : Nat → Prop} {d : Nat} : ∀ (rs : List RowT) (j : Nat) (us : List Value), us.length = rs.length → (∀ (q : Nat) (x : Value), us[q]? = some x → rm (rowN d (j + q)) = x ∧ ∃ A n c, x = .slice A n c) → RepVs bm rm im w (rowsC d j rs) us
  | [], j, us, hl, h => by
    obtain rfl : us = [] := List.eq_nil_of_length_eq_zero hl
    rfl
  | r :: l, j, [], hl, h => by simp at hl
  | r :: l, j, u :: us, hl, h => by
    have h0 := h 0 u rfl
    refine ⟨u, us, rfl, ⟨h0.1.symm, h0.2⟩, rowsC_rep l (j + 1) us (by simpa using hl) fun q x hx => ?_⟩
    have := h (q + 1) x (by simpa using hx)
    rwa [show j + 1 + q = j + (q + 1) by omega]
theorem rowsC_boxes {d : Nat} : ∀ (rs : List RowT) (j : Nat), (rowsC d j rs).flatMap CV.boxes = []
  | [], _ => rfl
  | r :: l, j => by simp only [rowsC, List.flatMap_cons, rowsC_boxes l]; rfl
theorem rowsC_rows {d : Nat} : ∀ (rs : List RowT) (j t : Nat), t ∈ (rowsC d j rs).flatMap CV.rows → ∃ q, q < rs.length ∧ t = rowN d (j + q)
  | [], _, t, h => by simp [rowsC] at h
  | r :: l, j, t, h => by
    simp only [rowsC, List.flatMap_cons, List.mem_append, CV.rows, List.mem_singleton] at h
    rcases h with h | h
    · exact ⟨0, by simp, h⟩
    · obtain ⟨q, h1, h2⟩ := rowsC_rows l (j + 1) t h
      exact ⟨q + 1, by simpa using h1, by rw [h2, show j + 1 + q = j + (q + 1) by omega]⟩
theorem putN_rel0 {d : Nat} (h : RelAt w0 im0 N D bm rm L a w) (hb : Below w.heap.size w w') {b : Bool} {rs : List RowT} {us : List Value} {u : Value} (hn : RepN w.heap.size w' rs us) (hu : bif b then u = .agg us.toArray else us = [u])
    (hnone : ∀ q, q < rs.length → L (kR (rowN d q)) = .none) : ∃ rm', RelAt w0 im0 N D bm rm' (ovr (rowsA d 0 rs) L) a w' ∧ Holds w0 im0 bm rm' (ovr (rowsA d 0 rs) L) w' (bif b then .agg (rowsC d 0 rs) else .c (.row (rowN d 0))) u := by
    obtain ⟨rm', hrm⟩ : ∃ rm' : Nat → Value, rm' = fun t => if 2000 + 16 * d ≤ t ∧ t < 2000 + 16 * d + us.length then us.getD (t - (2000 + 16 * d)) undef else rm t := ⟨_, rfl⟩
    have hat : ∀ (q : Nat) (y : Value), us[q]? = some y → rm' (rowN d q) = y := fun q y hy => by
      have hq := (List.getElem?_eq_some_iff.1 hy).1
      have key : ∀ t, t = 2000 + 16 * d + q → (if 2000 + 16 * d ≤ t ∧ t < 2000 + 16 * d + us.length then us.getD (t - (2000 + 16 * d)) undef else rm t) = y := by
        rintro _ rfl
        rw [if_pos (by omega), show 2000 + 16 * d + q - (2000 + 16 * d) = q by omega, List.getD_eq_getElem?_getD, hy]
        rfl
      rw [hrm]
      exact key _ rfl
    have hout : ∀ t, (∀ q, q < rs.length → t ≠ rowN d q) → rm' t = rm t := fun t ht => by
      rw [hrm]
      simp only
      rw [if_neg]
      rintro ⟨h1, h2⟩
      exact ht (t - (2000 + 16 * d)) (by have := hn.len; omega) (by unfold rowN; omega)
    have hrel : RelAt w0 im0 N D bm rm' (ovr (rowsA d 0 rs) L) a w' := by
      refine h.newRows hb (fun k => ?_) (fun k => ?_) (fun i => ?_) (fun t => ?_) (fun t ht => ?_) (fun t t' g h1 h2 ht ht' hg hg' => ?_)
      · rcases rowsA_at (L := L) (d := d) (kT k) rs 0 with ⟨q, r, _, h2, _⟩ | ⟨_, h2⟩
        · exact (kT_ne_kR _ _ h2).elim
        · exact h2
      · rcases rowsA_at (L := L) (d := d) (kB k) rs 0 with ⟨q, r, _, h2, _⟩ | ⟨_, h2⟩
        · exact (kB_ne_kR _ _ h2).elim
        · exact h2
      · rcases rowsA_at (L := L) (d := d) i rs 0 with ⟨q, r, _, _, h3⟩ | ⟨_, h2⟩
        · exact .inl ⟨_, _, _, h3⟩
        · exact .inr h2
      · rcases rowsA_at (L := L) (d := d) (kR t) rs 0 with ⟨q, r, h1, h2, h3⟩ | ⟨_, h2⟩
        · have ht := kR_inj h2
          rw [Nat.zero_add] at ht
          subst ht
          have hq := (List.getElem?_eq_some_iff.1 h1).1
          obtain ⟨y, hy⟩ : ∃ y, us[q]? = some y := ⟨_, List.getElem?_eq_getElem (by rw [hn.len]; exact hq)⟩
          obtain ⟨xs, k1, k2, k3⟩ := hn.own q r y h1 hy
          exact .inl ⟨_, _, _, xs, h3, hnone q hq, by rw [hat q y hy]; exact k1, k2, k3⟩
        · exact .inr h2
      · refine hout t fun q hq e => ht ?_
        rw [e]; exact hnone q hq
      · have key : ∀ t, L (kR t) = .none → isRow (ovr (rowsA d 0 rs) L) t → ∃ q y, us[q]? = some y ∧ t = rowN d q := fun t h1 ht => by
          rcases rowsA_at (L := L) (d := d) (kR t) rs 0 with ⟨q, r, k1, h2, h3⟩ | ⟨_, h2⟩
          · have ht := kR_inj h2
            rw [Nat.zero_add] at ht
            exact ⟨q, _, List.getElem?_eq_getElem (by rw [hn.len]; exact (List.getElem?_eq_some_iff.1 k1).1), ht⟩
          · obtain ⟨e, k, es, he⟩ := ht
            rw [h2, h1] at he; cases he
        obtain ⟨q, y, hy, rfl⟩ := key t h1 ht
        obtain ⟨q', y', hy', rfl⟩ := key t' h2 ht'
        rw [hat q y hy] at hg
        rw [hat q' y' hy'] at hg'
        rw [hn.dis q q' y y' g hy hy' hg hg']
    have hslice : ∀ (q : Nat) (y : Value), us[q]? = some y → rm' (rowN d (0 + q)) = y ∧ ∃ A n c, y = .slice A n c := fun q y hy => by
      rw [Nat.zero_add]
      have hq := (List.getElem?_eq_some_iff.1 hy).1
      obtain ⟨r, hrq⟩ : ∃ r, rs[q]? = some r := ⟨_, List.getElem?_eq_getElem (by rw [← hn.len]; exact hq)⟩
      obtain ⟨xs, k1, _⟩ := hn.own q r y hrq hy
      exact ⟨hat q y hy, ownsRow_isSlice k1⟩
    have hrows : ∀ q, q < rs.length → ovr (rowsA d 0 rs) L (kR (rowN d (0 + q))) ≠ .none := fun q hq e => by
      rcases rowsA_at (L := L) (d := d) (kR (rowN d (0 + q))) rs 0 with ⟨q', r, k1, h2, h3⟩ | ⟨h1, _⟩
      · rw [h3] at e; cases e
      · exact h1 q hq rfl
    refine ⟨rm', hrel, ?_⟩
    cases b with
    | true =>
      have hu : u = .agg us.toArray := hu
      refine ⟨⟨us, hu, rowsC_rep rs 0 us hn.len hslice⟩, fun k hk => ?_, fun t ht => ?_⟩
      · have hk : k ∈ (rowsC d 0 rs).flatMap CV.boxes := hk
        rw [rowsC_boxes] at hk; simp at hk
      · obtain ⟨q, hq, rfl⟩ := rowsC_rows rs 0 t ht
        exact hrows q hq
    | false =>
      obtain rfl : us = [u] := hu
      have hl : 0 < rs.length := by rw [← hn.len]; simp
      have := hslice 0 u rfl
      refine ⟨⟨this.1.symm, this.2⟩, fun k hk => by simp [TV.boxes, CV.boxes] at hk, fun t ht => ?_⟩
      obtain rfl : t = rowN d 0 := by simpa [TV.rows, CV.rows] using ht
      exact hrows 0 hl
theorem putN_rel {o : Oper} (h : RelAt w0 im0 N D bm rm L a w) (hb : Below w.heap.size w w') {b : Bool} {rs : List RowT} {us : List Value} {u : Value} (hn : RepN w.heap.size w' rs us) (hu : bif b then u = .agg us.toArray else us = [u])
    {R : List Nat} {x : Deed} (hr : (putN N o.dst b rs).run L R = some x) : Rel w0 im0 N D (ovr x.1 L) (a.put o.dst u) w' := by
  cases hd : o.dst with
  | none => rw [hd] at hr; simp [putN, AskR.run] at hr
  | some d =>
    rw [hd] at hr
    simp only [putN] at hr
    obtain ⟨hnone, R', hput⟩ := chkR_run rs 0 _ R x hr
    simp only [Nat.zero_add] at hnone
    obtain ⟨rm', h1, h2⟩ := putN_rel0 (d := d) h hb hn hu hnone
    exact fin_put (w' := w') (o := { o with dst := some d }) (α := rowsA d 0 rs) (v := bif b then .agg (rowsC d 0 rs) else .c (.row (rowN d 0))) h1 h2 hput
end
end Go.Proofs.Ytjimjdhdnkhfnaa
