/- Contracts of functions of the program and of the reference, a calculus of states, and plain facts: a part of a proof. Own text. -/
import Derived.Test.YtjimjdhdnkhfnaaGreatJab
import Derived.Deep.Upon
import Derived.MapKept
import Derived.Laws.IdiomRangeMap
set_option linter.unusedVariables false
set_option linter.unusedSimpArgs false
set_option linter.unusedSectionVars false
set_option linter.unnecessarySimpa false
namespace Go.Proofs.YtjimjdhdnkhfnaaGreat
open Go Go.RowKit
def opds : List (Nat × Operand) → List (Nat × List CV) → (List (Nat × List CV) → Ask) → Ask
  | [], acc, f => f acc.reverse
  | (i, x) :: r, acc, f => opd x fun v => match v.cells with
    | some cs => opds r ((i, cs) :: acc) f
    | none => .fail
def fillC (pl : Nat → Option (Nat × Nat)) : List CV → List (Nat × List CV) → Option (List CV)
  | cells, [] => some cells
  | cells, (i, v) :: r => match pl i with
    | none => none
    | some (off, sz) => bif Nat.beq v.length sz && Nat.ble (off + v.length) cells.length then fillC pl (cells.take off ++ v ++ cells.drop (off + v.length)) r else none
def placesC : Lay → Nat → Option (Nat × Nat)
  | .st _ fs _, i => match nthL fs i with
    | some (o, s, _) => some (o, s)
    | none => none
  | .arr _ _ esz _ _, i => some (i * esz, esz)
  | _, _ => none
def evBuild (T : TypeId → Lay) (N : NN) (o : Oper) (t : TypeId) (ps : List (Nat × Operand)) : Ask := bif (T t).isAgg then
    opds ps [] fun vs => match fillC (placesC (T t)) ((T t).zero.map .p) vs with
      | some cs => putA N o.dst (.agg cs) []
      | none => .fail
  else .fail
def seqB : List (Nat × Operand) → Nat → Bool
  | [], _ => true
  | (i, _) :: r, n => Nat.beq i n && seqB r (n + 1)
def rowsOf (k : Nat) : List (Nat × List CV) → Option (List (List PV))
  | [] => some []
  | (_, v) :: r => match asPs v with
    | some e => bif Nat.beq e.length k then (rowsOf k r).map (e :: ·) else none
    | none => none
def evBuildSlice (T : TypeId → Lay) (N : NN) (o : Oper) (t : TypeId) (len : Nat) (ps : List (Nat × Operand)) : Ask := match T t, o.dst with
  | .sl e esz _ _ _, some d => bif okS N d && Nat.blt 0 esz && seqB ps 0 && Nat.beq ps.length len && Nat.ble (len * esz) 16777216 then .get (kR d) fun c => match c with
      | .none => opds ps [] fun vs => match rowsOf esz vs with
        | some es => .done [(kT d, .t (.c (.row d))), (kR d, .row e esz es), (kR d, .dead)]
        | none => .fail
      | _ => .fail
    else .fail
  | _, _ => .fail
section
variable {P : Program} {w0 : World} {im0 : Nat → Prop} {N : NN} {D : Env} {bm : Nat → Nat} {rm : Nat → Value} {L : Lk} {a : Act} {w w' : World} {o : Oper} {im : Nat → Prop}
def PartsOK (w0 : World) (im0 : Nat → Prop) (bm : Nat → Nat) (rm : Nat → Value) (L : Lk) (w : World) (a : Act) : List (Nat × Operand) → List (Nat × List CV) → Prop
  | [], [] => True
  | (i, x) :: ps, (j, cs) :: vs => i = j ∧ RepVs bm rm (imOf w0.heap.size im0 bm rm L w) w cs (a.eval x).cells.toList ∧ (∀ u ∈ (a.eval x).cells.toList, u.oneCell' = true) ∧
      (∀ k ∈ cs.flatMap CV.boxes, L (kB k) ≠ .none) ∧ (∀ t ∈ cs.flatMap CV.rows, L (kR t) ≠ .none) ∧ PartsOK w0 im0 bm rm L w a ps vs
  | _, _ => False
theorem opds_inv (h : RelAt w0 im0 N D bm rm L a w) : ∀ {ps : List (Nat × Operand)} {acc : List (Nat × List CV)} {f : List (Nat × List CV) → Ask} {R : List Nat} {y : Deed}, (opds ps acc f).run L R = some y →
    ∃ vs R', PartsOK w0 im0 bm rm L w a ps vs ∧ (f (acc.reverse ++ vs)).run L R' = some y
  | [], acc, f, R, y, hr => ⟨[], R, trivial, by simpa [opds] using hr⟩
  | (i, x) :: ps, acc, f, R, y, hr => by
    simp only [opds] at hr
    replace hr := opd_inv h hr; obtain ⟨v, R1, hv, hr⟩ := hr
    split at hr
    · rename_i cs hcs
      obtain ⟨h1, h2, h3, h4⟩ := TV.cells_rep hcs hv.rep
      obtain ⟨vs, R', hp, hr⟩ := opds_inv h hr
      exact ⟨(i, cs) :: vs, R', ⟨rfl, h1, h2, by rw [h3]; exact hv.wb, by rw [h4]; exact hv.wr, hp⟩, by simpa using hr⟩
    · simp [AskR.run] at hr
theorem fold_set (off : Nat) : ∀ (vs : List Value) (j : Nat) (cells : Array Value), off + j + vs.length ≤ cells.size →
    (vs.zipIdx j).foldl (fun cs x => cs.setIfInBounds (off + x.2) x.1) cells = (cells.toList.take (off + j) ++ vs ++ cells.toList.drop (off + j + vs.length)).toArray
  | [], j, cells, _ => by simp
  | v :: vs, j, cells, h => by
    simp only [List.length_cons] at h
    simp only [List.zipIdx_cons, List.foldl_cons]
    rw [fold_set off vs (j + 1) _ (by simp; omega)]
    apply Array.ext'
    simp only [Array.toList_setIfInBounds]
    have e1 : (cells.toList.set (off + j) v).take (off + (j + 1)) = cells.toList.take (off + j) ++ [v] := by
      rw [show off + (j + 1) = off + j + 1 by omega, List.take_succ_eq_append_getElem (by simp; omega)]
      simp [List.take_set_of_le]
    have e2 : (cells.toList.set (off + j) v).drop (off + (j + 1) + vs.length) = cells.toList.drop (off + j + (v :: vs).length) := by
      rw [List.drop_set_of_lt (by omega)]
      congr 1
      simp; omega
    rw [e1, e2]
    simp
theorem fill_ok {pl : Nat → Option (Nat × Nat)} : ∀ {ps : List (Nat × Operand)} {vs : List (Nat × List CV)} {cs out : List CV} {cells : Array Value}, PartsOK w0 im0 bm rm L w a ps vs →
    RepVs bm rm (imOf w0.heap.size im0 bm rm L w) w cs cells.toList → (∀ k ∈ cs.flatMap CV.boxes, L (kB k) ≠ .none) → (∀ t ∈ cs.flatMap CV.rows, L (kR t) ≠ .none) → fillC pl cs vs = some out →
    ∃ r, Instr.fill pl cells (ps.map fun (i, x) => (i, a.eval x)) = some r ∧ RepVs bm rm (imOf w0.heap.size im0 bm rm L w) w out r.toList ∧ (∀ k ∈ out.flatMap CV.boxes, L (kB k) ≠ .none) ∧ (∀ t ∈ out.flatMap CV.rows, L (kR t) ≠ .none)
  | [], [], cs, out, cells, _, hc, hb, hr, hf => by
    simp only [fillC, Option.some.injEq] at hf
    subst hf
    exact ⟨cells, rfl, hc, hb, hr⟩
  | [], _ :: _, _, _, _, hp, _, _, _, _ => hp.elim
  | _ :: _, [], _, _, _, hp, _, _, _, _ => by simp [PartsOK] at hp
  | (i, x) :: ps, (j, v) :: vs, cs, out, cells, hp, hc, hb, hr, hf => by
    obtain ⟨rfl, h1, h2, h3, h4, hp⟩ := hp
    simp only [fillC] at hf
    split at hf
    · cases hf
    · rename_i off sz hpl
      cases hg : Nat.beq v.length sz && Nat.ble (off + v.length) cs.length with
      | false => rw [hg] at hf; simp at hf
      | true =>
        rw [hg] at hf
        simp only [cond_true] at hf
        simp only [Bool.and_eq_true, Nat.ble_eq] at hg
        have hsz := Nat.eq_of_beq_eq_true hg.1
        have hl1 := h1.len
        have hl2 := hc.len
        simp only [Array.length_toList] at hl1 hl2
        have hstep := fold_set off (a.eval x).cells.toList 0 cells (by simp; omega)
        simp only [Nat.add_zero] at hstep
        obtain ⟨r, hr1, hr2⟩ := fill_ok (pl := pl) (cs := cs.take off ++ v ++ cs.drop (off + v.length)) (cells := (cells.toList.take off ++ (a.eval x).cells.toList ++ cells.toList.drop (off + (a.eval x).cells.toList.length)).toArray) hp
          (by
            simp only [Array.length_toList, hl1]
            exact ((hc.take off).append h1).append (hc.drop _))
          (by
            intro k hk
            simp only [List.flatMap_append, List.mem_append] at hk
            rcases hk with (hk | hk) | hk
            · exact hb k (flat_sub (fun c hc => List.mem_of_mem_take hc) k hk)
            · exact h3 k hk
            · exact hb k (flat_sub (fun c hc => List.mem_of_mem_drop hc) k hk))
          (by
            intro k hk
            simp only [List.flatMap_append, List.mem_append] at hk
            rcases hk with (hk | hk) | hk
            · exact hr k (flat_sub (fun c hc => List.mem_of_mem_take hc) k hk)
            · exact h4 k hk
            · exact hr k (flat_sub (fun c hc => List.mem_of_mem_drop hc) k hk)) hf
        refine ⟨r, ?_, hr2⟩
        simp only [List.map_cons, Instr.fill, hpl]
        rw [if_neg (by simp; omega)]
        rw [← hr1, ← hstep]
        congr 1
        rw [← Array.foldl_toList]
        simp
theorem places_mapM : ∀ {F : List Field} {fs : List (Nat × Nat × Bool)}, fieldsB P F fs = true → F.mapM (fun f => (P.info? f.type).map fun i => (f.offset, i.size)) = some (fs.map fun x => (x.1, x.2.1))
  | [], [], _ => rfl
  | [], _ :: _, h => by simp [fieldsB] at h
  | _ :: _, [], h => by simp [fieldsB] at h
  | f :: F, (o', s', g') :: fs, h => by
    simp only [fieldsB, Bool.and_eq_true] at h
    obtain ⟨⟨⟨h1, h2⟩, h3⟩, h4⟩ := h
    obtain ⟨i, hi, hs⟩ := sizeB_info h2
    simp only [List.mapM_cons, hi, Option.map_some, Option.bind_eq_bind, Option.bind_some, places_mapM h4, Option.pure_def, List.map_cons, hs]
    simp at h1
    simp [h1]
theorem zero_info {t : TypeId} {l : Lay} (h : LayOK P t l) (hk : l.known = true) (hg : l.isAgg = true) (w : World) : ∃ i v, P.info? t = some i ∧ i.zero = some v ∧ RepL im w l.zero v.cells.toList := by
  obtain ⟨v, _, hrep, _, i, hi, hz⟩ := zeroOfB_run (lay_zero h hk) w
  exact ⟨i, v, hi, hz, hrep _ _⟩
theorem evBuild_ok {T : TypeId → Lay} (hT : ∀ t, LayOK P t (T t)) (h : RelAt w0 im0 N D bm rm L a w) {t : TypeId} {ps : Array (Nat × Operand)} {R : List Nat} {z : Deed} (hr : (evBuild T N o t ps.toList).run L R = some z) (ho : o.op = .build t ps) : Res P w0 im0 N D o a w (ovr z.1 L) := by
  unfold evBuild at hr
  cases hg : (T t).isAgg with
  | false => rw [hg] at hr; simp [AskR.run] at hr
  | true =>
    rw [hg] at hr
    simp only [cond_true] at hr
    have hk : (T t).known = true := by cases ht : T t <;> simp_all [Lay.isAgg, Lay.known]
    replace hr := opds_inv h hr; obtain ⟨vs, R', hp, hr⟩ := hr
    simp only [List.reverse_nil, List.nil_append] at hr
    split at hr
    · rename_i cs hcs
      obtain ⟨i, v, hi, hz, hrep⟩ := zero_info (im := imOf w0.heap.size im0 bm rm L w) (hT t) hk hg w
      obtain ⟨r, hr1, hr2, hr3, hr4⟩ := fill_ok hp (RepVs.pure (bm := bm) (rm := rm) hrep) (by simp [CV.boxes, List.flatMap_map]) (by simp [CV.rows, List.flatMap_map]) hcs
      refine res_put (v := .agg cs) (u := .agg r) h ⟨⟨r.toList, rfl, hr2⟩, hr3, hr4⟩ hr ?_
      have hb : P.built t (ps.toList.map fun (i, x) => (i, a.eval x)) = some r := by
        unfold Program.built
        cases hl : T t with
        | no => rw [hl] at hg; simp [Lay.isAgg] at hg
        | sc z => rw [hl] at hg; simp [Lay.isAgg] at hg
        | sl => rw [hl] at hg; simp [Lay.isAgg] at hg
        | mp => rw [hl] at hg; simp [Lay.isAgg] at hg
        | st cm fs zz =>
          have hs := hT t
          rw [hl] at hs hr1
          obtain ⟨F, hu, hF⟩ := lay_st hs
          simp only [hi, hu, hz, places_mapM hF]
          have : (fun x => ((fs.map fun x => (x.1, x.2.1)).toArray[x]? : Option (Nat × Nat))) = placesC (.st cm fs zz) := by
            funext q
            simp only [placesC, nthL_eq, List.getElem?_toArray, List.getElem?_map]
            cases fs[q]? <;> rfl
          rw [this]; exact hr1
        | arr cm len esz eagg zz =>
          have hs := hT t
          rw [hl] at hs hr1
          obtain ⟨e, hu, hsz, _⟩ := lay_arr hs
          obtain ⟨ie, hie, his⟩ := sizeB_info hsz
          simp only [hi, hu, hz, hie, his]
          exact hr1
      have hrun := run_build (P := P) w t (ps.map fun (i, x) => (i, a.eval x)) r (by simpa using hb)
      simp only [execOp, ho, Sem.run_bind, hrun, Result.andThen_ok, Sem.run_pure]
    · simp [AskR.run] at hr
theorem flatten_len {k : Nat} : ∀ {es : List (List PV)}, (∀ e ∈ es, e.length = k) → es.flatten.length = es.length * k
  | [], _ => by simp
  | e :: es, h => by
    have := flatten_len (es := es) fun x hx => h x (by simp [hx])
    have he := h e (by simp)
    simp only [List.flatten_cons, List.length_append, List.length_cons, this, he, Nat.add_mul]
    omega
theorem rowsOf_ok {k : Nat} : ∀ {ps : List (Nat × Operand)} {vs : List (Nat × List CV)} {es : List (List PV)} {n : Nat}, PartsOK w0 im0 bm rm L w a ps vs → rowsOf k vs = some es → seqB ps n = true →
    es.length = ps.length ∧ (∀ e ∈ es, e.length = k) ∧ (ps.map fun (i, x) => (i, a.eval x)) = ((ps.map fun x => a.eval x.2).zipIdx n).map (fun x => (x.2, x.1)) ∧
    (∀ v ∈ ps.map (fun x => a.eval x.2), v.cells.size = k ∧ ∀ u ∈ v.cells.toList, u.oneCell' = true) ∧ RepL (imOf w0.heap.size im0 bm rm L w) w es.flatten ((ps.map fun x => a.eval x.2).flatMap fun v => v.cells.toList)
  | [], [], es, n, _, h, _ => by simp [rowsOf] at h; subst h; simp [RepL]
  | [], _ :: _, _, _, hp, _, _ => hp.elim
  | _ :: _, [], _, _, hp, _, _ => by simp [PartsOK] at hp
  | (i, x) :: ps, (j, v) :: vs, es, n, hp, h, hs => by
    obtain ⟨rfl, h1, h2, h3, h4, hp⟩ := hp
    simp only [rowsOf] at h
    split at h
    · rename_i e he
      cases hk : Nat.beq e.length k with
      | false => rw [hk] at h; simp at h
      | true =>
        rw [hk] at h
        simp only [cond_true] at h
        have hk := Nat.eq_of_beq_eq_true hk
        cases hr : rowsOf k vs with
        | none => rw [hr] at h; simp at h
        | some rs =>
          rw [hr] at h
          simp only [Option.map_some, Option.some.injEq] at h
          subst h
          simp only [seqB, Bool.and_eq_true] at hs
          have hin := Nat.eq_of_beq_eq_true hs.1
          subst hin
          obtain ⟨a1, a2, a3, a4, a5⟩ := rowsOf_ok hp hr hs.2
          have hv := asPs_get he
          subst hv
          have hp1 := pure_back h1
          have hlen := hp1.len
          simp only [Array.length_toList] at hlen
          refine ⟨by simp [a1], ?_, by simp only [List.map_cons, List.zipIdx_cons, a3], ?_, ?_⟩
          · intro y hy
            rcases List.mem_cons.1 hy with rfl | hy
            · exact hk
            · exact a2 y hy
          · intro y hy
            simp only [List.map_cons] at hy
            rcases List.mem_cons.1 hy with rfl | hy
            · exact ⟨by omega, h2⟩
            · exact a4 y hy
          · simp only [List.flatten_cons, List.map_cons, List.flatMap_cons]
            exact hp1.append a5
    · cases h
theorem evBuildSlice_ok {T : TypeId → Lay} (hT : ∀ t, LayOK P t (T t)) (h : RelAt w0 im0 N D bm rm L a w) {t : TypeId} {len : Nat} {ps : Array (Nat × Operand)} {R : List Nat} {z : Deed} (hr : (evBuildSlice T N o t len ps.toList).run L R = some z) (ho : o.op = .buildSlice t len ps) : Res P w0 im0 N D o a w (ovr z.1 L) := by
  unfold evBuildSlice at hr
  split at hr
  · rename_i e esz bytes eagg ez d hlay hd
    have hs := hT t
    rw [hlay] at hs
    obtain ⟨hu, hsz, _, hzo, hezl, _⟩ := lay_sl hs
    obtain ⟨ie, hie, hiesz⟩ := sizeB_info hsz
    obtain ⟨zv, _, hzr, _, ie', hie', hiz⟩ := zeroOfB_run hzo w
    rw [hie] at hie'; cases hie'
    cases hg : okS N d && Nat.blt 0 esz && seqB ps.toList 0 && Nat.beq ps.toList.length len && Nat.ble (len * esz) 16777216 with
    | false => rw [hg] at hr; simp [AskR.run] at hr
    | true =>
      rw [hg] at hr
      simp only [cond_true, AskR.run] at hr
      simp only [Bool.and_eq_true, Nat.ble_eq] at hg
      obtain ⟨⟨⟨⟨g1, g2⟩, g3⟩, g4⟩, g5⟩ := hg
      have g4 := Nat.eq_of_beq_eq_true g4
      have hpos : 0 < esz := by simpa [Nat.blt_eq] using g2
      split at hr
      · rename_i hc
        replace hr := opds_inv h hr; obtain ⟨vs, R', hp, hr⟩ := hr
        simp only [List.reverse_nil, List.nil_append] at hr
        split at hr
        · rename_i es hes
          simp only [AskR.run, Option.some.injEq] at hr
          subst hr
          obtain ⟨b1, b2, b3, b4, b5⟩ := rowsOf_ok hp hes g3
          have hfl : ((ps.toList.map fun x => a.eval x.2).flatMap fun v => v.cells.toList).length = len * esz := by
            have := b5.len
            rw [this, flatten_len b2, b1, g4]
          have hrun : (Instr.buildSlice t len (ps.map fun (i, x) => (i, a.eval x))).run P w = .ok (.slice (some ⟨w.heap.size, 0, none⟩) len len) (w.alloc (.cells ((ps.toList.map fun x => a.eval x.2).flatMap fun v => v.cells.toList).toArray e)) := by
            by_cases h0 : len = 0
            · subst h0
              have hp0 : ps.toList = [] := List.eq_nil_of_length_eq_zero g4
              have hp1 : ps = #[] := by simpa using hp0
              subst hp1
              simp [Instr.buildSlice, run_underlying hu, sizeOf, typeInfo, hie, Instr.fill, newRow]
              exact congrArg (fun c => w.alloc (Obj.cells c e)) (Array.eq_empty_of_size_eq_zero (by simp))
            · refine run_buildSlice w t e len _ _ ie zv hu hie hiz (by rw [hiesz]; omega) (by rw [hiesz]; exact Nat.mul_ne_zero h0 (by omega)) ?_
              simp only [Array.toList_map]
              rw [show (ps.toList.map fun x => (x.1, a.eval x.2)) = (ps.toList.map fun (i, x) => (i, a.eval x)) from rfl, b3, hiesz]
              exact Go.Great.fill_whole hpos _ _ (fun v hv => (b4 v hv).1) (by simp [g4])
          have hown : (w.alloc (.cells ((ps.toList.map fun x => a.eval x.2).flatMap fun v => v.cells.toList).toArray e)).ownsRow w0.heap.size e esz (.slice (some ⟨w.heap.size, 0, none⟩) len len) es.length ((ps.toList.map fun x => a.eval x.2).flatMap fun v => v.cells.toList) := by
            refine ⟨by rw [hfl, b1, g4], .inr ⟨w.heap.size, len, _, by rw [b1, g4], h.base.size, heap_alloc_new w _, by omega, ?_, by simpa using hfl, ?_⟩⟩
            · have : len ≤ len * esz := Nat.le_mul_of_pos_right len hpos
              simp only [maxLen]; omega
            · rw [b1, g4]; exact List.take_of_length_le (Nat.le_of_eq hfl)
          have hnew := h.newRow (d := d) (r := d) (row := none) hc (World.grownBy_alloc w _ none) (by simp) hown (fun g hg => by simp [Value.ownBlock] at hg; omega) b5 ⟨b2, fun u hu => by
            obtain ⟨v, hv, hu⟩ := List.mem_flatMap.1 hu
            exact (b4 v hv).2 u hu⟩
          refine ⟨w.alloc (.cells ((ps.toList.map fun x => a.eval x.2).flatMap fun v => v.cells.toList).toArray e), .inl ⟨.slice (some ⟨w.heap.size, 0, none⟩) len len, ?_, ?_⟩⟩
          · simp only [execOp, ho, Sem.run_bind, hrun, Result.andThen_ok, Sem.run_pure]
          · rw [ovr_cons, hd]
            refine ⟨_, _, hnew.put (by simpa [Nat.blt_eq] using g1) ⟨by rw [updN_same], _, _, _, rfl⟩ (by simp [TV.boxes, CV.boxes]) (fun t ht => ?_)⟩
            simp only [TV.rows, CV.rows, List.mem_singleton] at ht
            subst ht
            rw [ovr_cons, ovrR_R, if_pos rfl]; simp
        · simp [AskR.run] at hr
      · simp [AskR.run] at hr
  · simp [AskR.run] at hr
end
section
variable {P : Program} {w0 : World} {im0 : Nat → Prop} {N : NN} {D : Env} {bm : Nat → Nat} {rm : Nat → Value} {L : Lk} {a : Act} {w w' : World} {o : Oper} {im : Nat → Prop}
theorem run_builtin (b : Builtin) (args : Array Operand) (ats : Array TypeId) (ho : o.op = .call { callee := .builtin b, args := args, argTypes := ats }) :
    ∃ cs, (execOp a.eval o).run P w = (builtin b ats o.type cs (args.map a.eval)).run P w := by
  simp only [execOp, ho, resolve, invoke, Sem.run_bind, Sem.run_pure, Result.andThen_ok]
  exact ⟨_, rfl⟩
def evLen (ar : Ar) (T : TypeId → Lay) (N : NN) (o : Oper) (t : TypeId) (x : Operand) : Ask := match T t with
  | .sl .. => opd x fun p => match p with
    | .c (.p (.list _ es)) => putA N o.dst (.c (.p (.int .i64 (ar.ln es)))) []
    | .c (.p .nil) => putA N o.dst (.c (.p (.int .i64 0))) []
    | .c (.row r) => .get (kR r) fun c => match c with
      | .row _ _ es => putA N o.dst (.c (.p (.int .i64 (ar.ln es)))) []
      | _ => .fail
    | _ => .fail
  | .arr _ n _ _ _ => opd x fun _ => putA N o.dst (.c (.p (.int .i64 n))) []
  | _ => .fail
theorem ownsRow_val {e : TypeId} {k n : Nat} {v : Value} {xs : List Value} (h : w.ownsRow w0.heap.size e k v n xs) : ∃ A c, v = .slice A n c ∧ n ≤ c ∧ c ≤ maxLen := by
  rcases h.2 with ⟨rfl, rfl⟩ | ⟨g, cap, cur, rfl, _, _, hc, hm, _, _⟩
  · exact ⟨none, 0, rfl, by simp, by simp⟩
  · exact ⟨_, cap, rfl, hc, hm⟩
theorem evLen_ok {ar : Ar} (har : ar = Ar.std) {T : TypeId → Lay} (hT : ∀ t, LayOK P t (T t)) (h : RelAt w0 im0 N D bm rm L a w) {t : TypeId} {x : Operand} {R : List Nat} {z : Deed} (hr : (evLen ar T N o t x).run L R = some z)
    (ho : o.op = .call { callee := .builtin .len, args := #[x], argTypes := #[t] }) : Res P w0 im0 N D o a w (ovr z.1 L) := by
  subst har
  have hs := hT t
  unfold evLen at hr
  obtain ⟨cs9, hrun⟩ := run_builtin (P := P) (w := w) (a := a) .len _ _ ho
  split at hr
  · rename_i e esz bytes eagg ez hlay
    rw [hlay] at hs
    obtain ⟨hu, _⟩ := lay_sl hs
    have hl : ∀ A n c, a.eval x = .slice A n c → (execOp a.eval o).run P w = .ok (.value (.int .i64 n)) w := fun A n c hx => by
      rw [hrun]
      simp [builtin, Builtin.len_, hx, run_underlying hu, goInt]
    replace hr := opd_inv h hr; obtain ⟨p, R1, hp, hr⟩ := hr
    split at hr
    · rename_i k es
      obtain ⟨A, n, c, hx, hn, _⟩ : ∃ A n c, a.eval x = .slice A n c ∧ n = es.length ∧ _ := by have := hp.rep; simpa only [RepT, RepV, RepP] using this
      exact res_put h (holds_pv (by simp [RepP, Ar.std, hn])) hr (hl A n c hx)
    · have hx : a.eval x = .slice none 0 0 := hp.rep
      exact res_put h (holds_pv (by simp [RepP])) hr (hl none 0 0 hx)
    · rename_i r
      simp only [AskR.run] at hr
      split at hr
      · rename_i e' k es hc
        obtain ⟨hx, _⟩ : a.eval x = rm r ∧ _ := hp.rep
        obtain ⟨xs, hown, _⟩ := h.rows r e' k es hc
        obtain ⟨A, c, hv, _⟩ := ownsRow_val hown
        exact res_put (u := .int .i64 es.length) h (holds_pv (by simp [RepP, Ar.std])) hr (hl A _ c (by rw [hx, hv]))
      · simp [AskR.run] at hr
    · simp [AskR.run] at hr
  · rename_i cm n esz eagg zs hlay
    rw [hlay] at hs
    obtain ⟨e, hu, _⟩ := lay_arr hs
    replace hr := opd_inv h hr; obtain ⟨p, R1, hp, hr⟩ := hr
    refine res_put (u := .int .i64 n) h (holds_pv (by simp [RepP])) hr ?_
    rw [hrun]
    simp [builtin, Builtin.len_, run_underlying hu, goInt]
  · simp [AskR.run] at hr
def evMin (f : Int → Int → Int) (N : NN) (o : Oper) (x y : Operand) : Ask := opd x fun u => opd y fun v => match u, v with
  | .c (.p (.int .i64 m)), .c (.p (.int .i64 n)) => putA N o.dst (.c (.p (.int .i64 (f m n)))) []
  | _, _ => .fail
theorem evMin_ok (h : RelAt w0 im0 N D bm rm L a w) {x y : Operand} {ats : Array TypeId} {R : List Nat} {z : Deed} (hr : (evMin Ar.std.mn N o x y).run L R = some z)
    (ho : o.op = .call { callee := .builtin .min, args := #[x, y], argTypes := ats }) : Res P w0 im0 N D o a w (ovr z.1 L) := by
  obtain ⟨cs9, hrun⟩ := run_builtin (P := P) (w := w) (a := a) .min _ _ ho
  replace hr := opd_inv h hr; obtain ⟨u, R1, hu, hr⟩ := hr
  replace hr := opd_inv h hr; obtain ⟨v, R1, hv, hr⟩ := hr
  split at hr
  · rename_i m n
    have hx : a.eval x = .int .i64 m := hu.rep
    have hy : a.eval y = .int .i64 n := hv.rep
    refine res_put (u := .int .i64 (if n < m then n else m)) h (holds_pv (by simp [RepP, Ar.std])) hr ?_
    rw [hrun]
    simp [builtin, Builtin.min_, Builtin.min2, hx, hy]
  · simp [AskR.run] at hr
theorem evMax_ok (h : RelAt w0 im0 N D bm rm L a w) {x y : Operand} {ats : Array TypeId} {R : List Nat} {z : Deed} (hr : (evMin Ar.std.mx N o x y).run L R = some z)
    (ho : o.op = .call { callee := .builtin .max, args := #[x, y], argTypes := ats }) : Res P w0 im0 N D o a w (ovr z.1 L) := by
  obtain ⟨cs9, hrun⟩ := run_builtin (P := P) (w := w) (a := a) .max _ _ ho
  replace hr := opd_inv h hr; obtain ⟨u, R1, hu, hr⟩ := hr
  replace hr := opd_inv h hr; obtain ⟨v, R1, hv, hr⟩ := hr
  split at hr
  · rename_i m n
    have hx : a.eval x = .int .i64 m := hu.rep
    have hy : a.eval y = .int .i64 n := hv.rep
    refine res_put (u := .int .i64 (if n > m then n else m)) h (holds_pv (by simp [RepP, Ar.std])) hr ?_
    rw [hrun]
    simp [builtin, Builtin.max_, Builtin.max2, hx, hy]
  · simp [AskR.run] at hr
theorem append_fresh (base : Nat) (t ty e : TypeId) (i : TypeInfo) (z : Value) (size bytes : Nat) (ht : P.underlying t = some (.slice e)) (hi : P.info? e = some i) (hz : i.zero = some z)
    (hsize : i.size = size) (hby : i.bytes = bytes) (hzs : z.cells.size = size) (hsz : 0 < size)
    (v : Value) (n : Nat) (xs : List Value) (hown : w.ownsRow base e size v n xs)
    (A : Option Addr) (m c : Nat) (news : List Value) (hl : news.length = m * size) (hnews : m = 0 ∨ ∃ b, A = some b ∧ ∀ (j : Nat) u, news[j]? = some u → w.cell? (b.add j) = some u) (h1 : ∀ u ∈ news, u.oneCell' = true)
    (h63 : n + m ≤ maxLen) (hbytes : (n + m) * bytes ≤ 140737488355328) (hbase : base ≤ w.heap.size) :
    ∃ v' w', (Builtin.append_ #[t, t] ty #[v, .slice A m c]).run P w = .ok v' w' ∧ w'.ownsRow base e size v' (n + m) (xs ++ news) ∧ w.grownBy w' v.ownBlock ∧ (∀ g, v'.ownBlock = some g → v.ownBlock = some g ∨ w.heap.size ≤ g) := by
  by_cases hm0 : m = 0
  · subst hm0
    have hnil : news = [] := List.eq_nil_of_length_eq_zero (by simpa using hl)
    subst hnil
    obtain ⟨A', c', hv, hc, _⟩ : ∃ A' c', v = .slice A' n c' ∧ n ≤ c' ∧ c' ≤ maxLen := by
      rcases hown.2 with ⟨rfl, rfl⟩ | ⟨g, cap, cur, rfl, _, _, hc, hm, _, _⟩
      · exact ⟨none, 0, rfl, by simp, by simp⟩
      · exact ⟨_, cap, rfl, hc, hm⟩
    refine ⟨v, w, ?_, by simpa using hown, ⟨rfl, rfl, rfl, Nat.le_refl _, fun _ _ _ => rfl⟩, fun g hg => .inl hg⟩
    subst hv
    cases A <;> cases A' <;> simp [Builtin.append_, run_underlying ht, sizeOf, typeInfo, hi, Builtin.lenOf, hc, Builtin.firstCells, loadCells, loadCellsFrom, storeCells]
  · rcases hnews with hnews | ⟨b, rfl, hnews⟩
    · exact absurd hnews hm0
    · obtain ⟨v', w', hr, h2, h3, h4⟩ := run_append_own (P := P) w base t ty e i z size bytes ht hi hz hsize hby hzs hsz v n xs hown b m c news hl hnews h1 h63 hbytes hbase
      refine ⟨v', w', hr, h2, h3, fun g hg => ?_⟩
      subst hsize
      subst hby
      rcases hown.2 with ⟨rfl, rfl⟩ | ⟨g', cap, cur, rfl, hbg, hgg, hnc, hcm, hcs, htake⟩
      · have hr2 := run_append_nil (P := P) w t ty e i z ht hi hz b m c news hl hnews (by omega) (by simp only [maxLen] at h63; omega) (by simp only [Nat.zero_add] at hbytes; omega)
        rw [hr2] at hr
        cases hr
        simp only [Value.ownBlock, Option.some.injEq] at hg
        exact .inr (by omega)
      · by_cases hroom : n + m ≤ cap
        · have hfit : n * i.size + news.length ≤ cur.size := by rw [hl, hcs, ← Nat.add_mul]; exact Nat.mul_le_mul_right _ hroom
          have hr2 := run_append_room (P := P) w t ty e i ht hi g' n cap cur hgg b m c news hl hnews h1 hroom hfit
          rw [hr2] at hr
          cases hr
          exact .inl hg
        · have holds : ∀ j u, xs[j]? = some u → w.cell? ((⟨g', 0, none⟩ : Addr).add j) = some u := hown.cells (g := g') rfl
          have hr2 := run_append_grow (P := P) w t ty e i z ht hi hz ⟨g', 0, none⟩ n cap xs hown.1 holds b m c news hl hnews (by omega) (by simp only [maxLen] at h63; omega) (growslice_fits (by omega) hbytes)
          rw [hr2] at hr
          cases hr
          simp only [Value.ownBlock, Option.some.injEq] at hg
          exact .inr (by omega)
def rowsOfV (v : TV) (f : Nat → List (List PV) → Ask) : Ask := match v with
  | .c (.p (.list k es)) => f k es
  | .c (.row r) => .get (kR r) fun c => match c with
    | .row _ k es => f k es
    | _ => .fail
  | _ => .fail
theorem rowsOfV_ok (h : RelAt w0 im0 N D bm rm L a w) {v : TV} {u : Value} {f : Nat → List (List PV) → Ask} {R : List Nat} {y : Deed} (hv : Holds w0 im0 bm rm L w v u) (hr : (rowsOfV v f).run L R = some y) :
    ∃ k es R' A c xs, u = .slice A es.length c ∧ xs.length = es.length * k ∧ (es.length = 0 ∨ ∃ b, A = some b ∧ ∀ (j : Nat) x, xs[j]? = some x → w.cell? (b.add j) = some x) ∧
      RepL (imOf w0.heap.size im0 bm rm L w) w es.flatten xs ∧ (∀ e ∈ es, e.length = k) ∧ (∀ u ∈ xs, u.oneCell' = true) ∧ (f k es).run L R' = some y := by
  unfold rowsOfV at hr
  split at hr
  · rename_i k es
    obtain ⟨A, n, c, hu, hn, hnc, _, hor⟩ : ∃ A n c, u = .slice A n c ∧ n = es.length ∧ n ≤ c ∧ _ ∧ _ := by have := hv.rep; simpa only [RepT, RepV, RepP] using this
    subst hn
    rcases hor with rfl | ⟨b, o', rfl, him, hE⟩
    · exact ⟨k, [], R, A, c, [], hu, by simp, .inl rfl, by simp [RepL], by simp, by simp, hr⟩
    · obtain ⟨xs, hl, hone, hrg, hrep⟩ := hE.flat
      refine ⟨k, es, R, _, c, xs, hu, hl, .inr ⟨_, rfl, fun j x hx => ?_⟩, hrep, fun e he => ?_, hone, hr⟩
      · rw [Addr.add_mid]; exact hrg j x hx
      · obtain ⟨i, hi⟩ := List.getElem?_of_mem he
        obtain ⟨us, hul, _, _, hur⟩ := hE.get hi
        rw [← hul]; exact (hur.len).symm
  · rename_i r
    simp only [AskR.run] at hr
    split at hr
    · rename_i e k es hc
      obtain ⟨hx, _⟩ : u = rm r ∧ _ := hv.rep
      obtain ⟨xs, hown, hl, hk⟩ := h.rows r e k es hc
      have hxl := hown.1
      rcases hown.2 with ⟨hv, h0⟩ | ⟨g, cap, cur, hv, _, _, _, _, _, _⟩
      · exact ⟨k, es, _, none, 0, xs, by rw [hx, hv, h0], hxl, .inl h0, hl, hk.1, hk.2, hr⟩
      · refine ⟨k, es, _, _, cap, xs, by rw [hx, hv], hxl, .inr ⟨⟨g, 0, none⟩, rfl, ?_⟩, hl, hk.1, hk.2, hr⟩
        exact hown.cells (g := g) (by rw [hv]; rfl)
    · simp [AskR.run] at hr
  · simp [AskR.run] at hr
def cellsP : List PV → Bool
  | [] => true
  | p :: r => (CV.p p).isCell && cellsP r
def evAppend (ar : Ar) (T : TypeId → Lay) (N : NN) (o : Oper) (t : TypeId) (x y : Operand) : Ask := match T t, o.dst with
  | .sl e esz bytes _ ez, some d => bif okS N d && Nat.blt 0 esz && cellsP ez then .get (kR d) fun cd => match cd with
      | .none => opd x fun p => opd y fun q => match p with
        | .c (.row r) => .get (kR r) fun c => match c with
          | .row e' k es => bif Nat.beq e' e && Nat.beq k esz then (match q with
              | .c (.p .nil) => bif ar.fits bytes es [] then .done [(kT d, .t (.c (.row d))), (kR d, .row e esz es), (kR r, .dead)] else .fail
              | _ => rowsOfV q fun k' es' => bif Nat.beq k' esz && ar.fits bytes es es' then .done [(kT d, .t (.c (.row d))), (kR d, .row e esz (es ++ es')), (kR r, .dead)] else .fail)
            else .fail
          | _ => .fail
        | .c (.p .nil) => (match q with
            | .c (.p .nil) => .done [(kT d, .t (.c (.row d))), (kR d, .row e esz []), (kR d, .dead)]
            | _ => rowsOfV q fun k' es' => bif Nat.beq k' esz && ar.fits bytes [] es' then .done [(kT d, .t (.c (.row d))), (kR d, .row e esz es'), (kR d, .dead)] else .fail)
        | _ => .fail
      | _ => .fail
    else .fail
  | _, _ => .fail
theorem cellsP_one : ∀ {ps : List PV} {us : List Value}, cellsP ps = true → RepL im w ps us → ∀ u ∈ us, u.oneCell' = true
  | [], us, _, h, u, hu => by simp only [RepL] at h; subst h; simp at hu
  | p :: ps, us, hc, h, u, hu => by
    simp only [RepL] at h
    obtain ⟨x, xs, rfl, h1, h2⟩ := h
    simp only [cellsP, Bool.and_eq_true] at hc
    rcases List.mem_cons.1 hu with rfl | hu
    · exact (isCell_one (bm := fun _ => 0) (rm := fun _ => .nilFunc) (im := im) (w := w) hc.1 h1).1
    · exact cellsP_one hc.2 h2 u hu
theorem evAppend_core {T : TypeId → Lay} (hT : ∀ t, LayOK P t (T t)) (h : RelAt w0 im0 N D bm rm L a w) {t e : TypeId} {esz bytes : Nat} {eagg : Bool} {ez : List PV} {d r : Nat} {x y : Operand} (hlay : T t = .sl e esz bytes eagg ez) (hd : o.dst = some d) (hN : okS N d = true) (hpos : 0 < esz)
    (ho : o.op = .call { callee := .builtin .append, args := #[x, y], argTypes := #[t, t] }) (hn : L (kR d) = .none) {v : Value} {es es' : List (List PV)} {xs : List Value} (hx : a.eval x = v) (hown : w.ownsRow w0.heap.size e esz v es.length xs)
    (hl : RepL (imOf w0.heap.size im0 bm rm L w) w es.flatten xs) (hk : (∀ z ∈ es, z.length = esz) ∧ ∀ u ∈ xs, u.oneCell' = true)
    (hrow : ∀ g, v.ownBlock = some g → w0.heap.size ≤ g ∧ (∀ k, isBox L k → bm k ≠ g) ∧ (∀ t, isRow L t → t ≠ r → (rm t).ownBlock ≠ some g) ∧ ¬ imOf w0.heap.size im0 bm rm L w g ∧ Obj.machB w.heap[g]? = false)
    {A : Option Addr} {c : Nat} {news : List Value} (hy : a.eval y = .slice A es'.length c) (hnl : news.length = es'.length * esz) (hnews : es'.length = 0 ∨ ∃ b, A = some b ∧ ∀ (j : Nat) u, news[j]? = some u → w.cell? (b.add j) = some u)
    (hnr : RepL (imOf w0.heap.size im0 bm rm L w) w es'.flatten news) (hnk : (∀ z ∈ es', z.length = esz) ∧ ∀ u ∈ news, u.oneCell' = true) (hfit : Ar.std.fits bytes es es' = true) :
    Res P w0 im0 N D o a w (ovr [(kT d, .t (.c (.row d))), (kR d, .row e esz (es ++ es')), (kR r, .dead)] L) := by
  have hs := hT t
  rw [hlay] at hs
  obtain ⟨hu, hsz, _, hzo, hezl, ib, hib, hbytes⟩ := lay_sl hs
  obtain ⟨ie, hie, hiesz⟩ := sizeB_info hsz
  rw [hie] at hib; cases hib
  obtain ⟨zv, _, hzr, _, ie', hie', hiz⟩ := zeroOfB_run hzo w
  rw [hie] at hie'; cases hie'
  have hfit : (es.length + es'.length) * (bytes + 1) ≤ 1000000000000 := by simpa [Ar.std] using hfit
  rw [Nat.mul_add, Nat.mul_one] at hfit
  have hzs : zv.cells.size = esz := by have := (hzr (fun _ => True) w).len; simpa [hezl] using this
  obtain ⟨v', w', hr, hown', hg, hfr⟩ := append_fresh (P := P) (w := w) w0.heap.size t o.type e ib zv esz bytes hu hie hiz hiesz hbytes hzs hpos v es.length xs hown A es'.length c news hnl hnews hnk.2 (by simp only [maxLen]; omega) (by omega) h.base.size
  obtain ⟨cs9, hrun⟩ := run_builtin (P := P) (w := w) (a := a) .append _ _ ho
  have hflat : (es ++ es').flatten = es.flatten ++ es'.flatten := by simp
  have hnew := h.newRow (d := d) (r := r) (e := e) (k := esz) (es := es ++ es') (v := v') (xs := xs ++ news) hn hg hrow (by rw [List.length_append]; exact hown') hfr (by rw [hflat]; exact hl.append hnr)
    ⟨fun z hz => (List.mem_append.1 hz).elim (hk.1 z) (hnk.1 z), fun u hu => (List.mem_append.1 hu).elim (hk.2 u) (hnk.2 u)⟩
  refine ⟨w', .inl ⟨v', ?_, ?_⟩⟩
  · rw [hrun]
    simp only [builtin, List.map_toArray, List.map_cons, List.map_nil, hx, hy, Sem.run_bind, hr, Result.andThen_ok, Sem.run_pure]
  · rw [ovr_cons, hd]
    obtain ⟨A', c', hv', _⟩ := ownsRow_val hown'
    refine ⟨_, _, hnew.put hN ⟨by rw [updN_same], A', _, c', hv'⟩ (by simp [TV.boxes, CV.boxes]) (fun t ht => ?_)⟩
    simp only [TV.rows, CV.rows, List.mem_singleton] at ht
    subst ht
    rw [ovr_cons, ovrR_R, if_pos rfl]; simp
theorem evAppend_ok {ar : Ar} (har : ar = Ar.std) {T : TypeId → Lay} (hT : ∀ t, LayOK P t (T t)) (h : RelAt w0 im0 N D bm rm L a w) {t : TypeId} {x y : Operand} {R : List Nat} {z : Deed} (hr : (evAppend ar T N o t x y).run L R = some z)
    (ho : o.op = .call { callee := .builtin .append, args := #[x, y], argTypes := #[t, t] }) : Res P w0 im0 N D o a w (ovr z.1 L) := by
  subst har
  unfold evAppend at hr
  split at hr
  · rename_i e esz bytes eagg ez d hlay hd
    cases hg : okS N d && Nat.blt 0 esz && cellsP ez with
    | false => rw [hg] at hr; simp [AskR.run] at hr
    | true =>
      rw [hg] at hr
      simp only [cond_true, AskR.run] at hr
      simp only [Bool.and_eq_true, Nat.blt_eq] at hg
      obtain ⟨⟨hN, hpos⟩, _⟩ := hg
      split at hr
      · rename_i hn
        replace hr := opd_inv h hr; obtain ⟨p, R1, hp, hr⟩ := hr
        replace hr := opd_inv h hr; obtain ⟨q, R2, hq, hr⟩ := hr
        split at hr
        · rename_i r
          simp only [AskR.run] at hr
          split at hr
          · rename_i e' k es hc
            cases hek : Nat.beq e' e && Nat.beq k esz with
            | false => rw [hek] at hr; simp [AskR.run] at hr
            | true =>
              rw [hek] at hr
              simp only [cond_true] at hr
              simp only [Bool.and_eq_true] at hek
              have h1 := Nat.eq_of_beq_eq_true hek.1; subst h1
              have h2 := Nat.eq_of_beq_eq_true hek.2; subst h2
              obtain ⟨hx, _⟩ : a.eval x = rm r ∧ _ := hp.rep
              obtain ⟨xs, hown, hl, hk⟩ := h.rows r e' k es hc
              have hir : isRow L r := ⟨e', k, es, hc⟩
              have hrow : ∀ g, (rm r).ownBlock = some g → w0.heap.size ≤ g ∧ (∀ k, isBox L k → bm k ≠ g) ∧ (∀ t, isRow L t → t ≠ r → (rm t).ownBlock ≠ some g) ∧ ¬ imOf w0.heap.size im0 bm rm L w g ∧ Obj.machB w.heap[g]? = false := fun g hg =>
                ⟨(hown.lt g hg).1, fun k hk e => h.br k r hk hir (by rw [hg, e]), fun t ht hne e => hne (h.rr t r g ht hir e hg), fun hi => hi.2.2.2 r hir hg, owns_not_mach hown hg⟩
              split at hr
              · have hy : a.eval y = .slice none 0 0 := hq.rep
                cases hf : Ar.std.fits bytes es [] with
                | false => rw [hf] at hr; simp [AskR.run] at hr
                | true =>
                  rw [hf] at hr
                  simp only [cond_true, AskR.run, Option.some.injEq] at hr
                  subst hr
                  have := evAppend_core (r := r) (es' := []) hT h hlay hd hN hpos ho hn hx hown hl hk hrow hy (news := []) (by simp) (.inl rfl) (by simp [RepL]) (by simp) hf
                  simpa using this
              · obtain ⟨k', es', R', A, c, news, hy, hnl, hnews, hnr, hnk, hone, hr⟩ := rowsOfV_ok h hq hr
                cases hf : Nat.beq k' k && Ar.std.fits bytes es es' with
                | false => rw [hf] at hr; simp [AskR.run] at hr
                | true =>
                  rw [hf] at hr
                  simp only [cond_true, AskR.run, Option.some.injEq] at hr
                  subst hr
                  simp only [Bool.and_eq_true] at hf
                  have h3 := Nat.eq_of_beq_eq_true hf.1; subst h3
                  exact evAppend_core hT h hlay hd hN hpos ho hn hx hown hl hk hrow hy hnl hnews hnr ⟨hnk, hone⟩ hf.2
          · simp [AskR.run] at hr
        · have hx : a.eval x = .slice none 0 0 := hp.rep
          have hown := World.ownsRow_nil w w0.heap.size e esz
          have hrow : ∀ g, (Value.slice none 0 0).ownBlock = some g → w0.heap.size ≤ g ∧ (∀ k, isBox L k → bm k ≠ g) ∧ (∀ t, isRow L t → t ≠ d → (rm t).ownBlock ≠ some g) ∧ ¬ imOf w0.heap.size im0 bm rm L w g ∧ Obj.machB w.heap[g]? = false := fun g hg => by simp [Value.ownBlock] at hg
          split at hr
          · have hy : a.eval y = .slice none 0 0 := hq.rep
            simp only [AskR.run, Option.some.injEq] at hr
            subst hr
            exact evAppend_core (r := d) (es := []) (es' := []) hT h hlay hd hN hpos ho hn hx hown (by simp [RepL]) (by simp) hrow hy (news := []) (by simp) (.inl rfl) (by simp [RepL]) (by simp) (by simp [Ar.std])
          · obtain ⟨k', es', R', A, c, news, hy, hnl, hnews, hnr, hnk, hone, hr⟩ := rowsOfV_ok h hq hr
            cases hf : Nat.beq k' esz && Ar.std.fits bytes [] es' with
            | false => rw [hf] at hr; simp [AskR.run] at hr
            | true =>
              rw [hf] at hr
              simp only [cond_true, AskR.run, Option.some.injEq] at hr
              subst hr
              simp only [Bool.and_eq_true] at hf
              have h3 := Nat.eq_of_beq_eq_true hf.1; subst h3
              exact evAppend_core (r := d) (es := []) hT h hlay hd hN hpos ho hn hx hown (by simp [RepL]) (by simp) hrow hy hnl hnews hnr ⟨hnk, hone⟩ hf.2
        · simp [AskR.run] at hr
      · simp [AskR.run] at hr
  · simp [AskR.run] at hr
end
section
variable {P : Program} {w0 : World} {im0 : Nat → Prop} {N : NN} {D : Env} {bm : Nat → Nat} {rm : Nat → Value} {L : Lk} {a : Act} {w w' : World} {o : Oper} {im im' : Nat → Prop}
theorem checkKey_run {t : TypeId} {z ps : List PV} {us : List Value} {x : Value} (em : Bool) (hf : flatKeyB P t = true) (hE : eqTB P 8 t z = true) (hk : kindsB z ps = true) (hr : RepL im w ps us) (hx : ValOf P t us x) :
    (Instr.checkKey em 10000 t x).run P w = .ok () w := by
  have scal : ∀ (n : Nat) (t : TypeId) (v : Value), scalB P t = true → (Instr.checkKey em (n + 1) t v).run P w = .ok () w := fun n t v h => by
    unfold scalB at h
    cases hu : P.underlying t with
    | none => simp [hu] at h
    | some d =>
      cases d <;> simp [hu] at h <;> simp [Instr.checkKey, Sem.run_bind, run_underlying hu]
  obtain ⟨d, hu, hx⟩ := hx
  cases hd : d with
  | struct fs =>
    subst hd
    obtain ⟨_, rfl⟩ := hx.resolve_right (by simp)
    unfold eqTB at hE
    simp only [hu, Bool.and_eq_true, Bool.not_eq_true'] at hE
    obtain ⟨_, hF⟩ := hE
    unfold flatKeyB at hf
    simp only [hu, List.all_eq_true] at hf
    rw [show (10000 : Nat) = 9999 + 1 from rfl, Instr.checkKey]
    simp only [Sem.run_bind, run_underlying hu, Result.andThen_ok]
    rw [← Array.forIn_toList]
    have hl := hr.len
    have hlz := kindsB_len hk
    have hL : ∀ f ∈ fs.toList, scalB P f.type = true := hf
    generalize fs.toList = L at hF hL
    generalize (0 : Nat) = off at hF
    clear hf hu
    induction L generalizing off with
    | nil => simp
    | cons f L ih =>
      simp only [eqFs, Bool.and_eq_true, bne_iff_ne, ne_eq, beq_iff_eq] at hF
      obtain ⟨⟨ho, hn⟩, hb⟩ := hF
      cases hi : P.info? f.type with
      | none => simp [hi] at hb
      | some i =>
        simp only [hi, Bool.and_eq_true, Nat.ble_eq] at hb
        obtain ⟨⟨hb1, hb2⟩, hb3⟩ := hb
        obtain ⟨e, hue, hone⟩ := eqTB_info hb1
        have h1 : e.isRow = false → i.size = 1 := fun hr => by have := hone hr; simp at this; omega
        obtain ⟨a, pa, va⟩ := part_val (P := P) (us := us) (off := off) hue hi (by omega) h1 w
        have hc := scal 9998 f.type a (hL f (by simp))
        subst ho
        simp only [List.forIn_cons, ne_eq, hn, not_false_eq_true, if_true, Sem.run_bind, pa, hc, Result.andThen_ok, Sem.run_pure]
        exact ih (fun g hg => hL g (by simp [hg])) _ hb3
  | _ =>
    subst hd
    refine scal 9999 t x ?_
    unfold flatKeyB at hf
    unfold scalB
    first | (rw [hu]; done) | (rw [hu] at hf ⊢; exact hf)
theorem eqPs_same {w1 w2 : World} : ∀ {z ps qs : List PV} {us vs : List Value}, kindsB z ps = true → kindsB z qs = true → eqPs ps qs = true → RepL im w1 ps us → RepL im' w2 qs vs → us = vs ∧ ps = qs
  | [], [], [], us, vs, _, _, _, h1, h2 => by simp only [RepL] at h1 h2; subst h1; subst h2; exact ⟨rfl, rfl⟩
  | [], _ :: _, _, _, _, h, _, _, _, _ => by simp [kindsB] at h
  | [], [], _ :: _, _, _, _, h, _, _, _ => by simp [kindsB] at h
  | _ :: _, [], _, _, _, h, _, _, _, _ => by simp [kindsB] at h
  | _ :: _, _ :: _, [], _, _, _, h, _, _, _ => by simp [kindsB] at h
  | z :: zs, p :: ps, q :: qs, us, vs, hp, hq, he, h1, h2 => by
    simp only [kindsB, Bool.and_eq_true] at hp hq
    simp only [eqPs, Bool.and_eq_true] at he
    simp only [RepL] at h1 h2
    obtain ⟨x, xs, rfl, hx, h1⟩ := h1
    obtain ⟨y, ys, rfl, hy, h2⟩ := h2
    obtain ⟨rfl, rfl⟩ := eqPs_same hp.2 hq.2 he.2 h1 h2
    have hp1 := hp.1
    have hq1 := hq.1
    have he1 := he.1
    have : x = y ∧ p = q := by
      unfold kindB at hp1
      split at hp1
      · unfold kindB at hq1
        split at hq1
        · simp only [RepP] at hx hy
          simp only [eqS, beq_iff_eq] at he1
          subst he1; subst hx; subst hy; exact ⟨rfl, rfl⟩
        · rename_i h8; cases h8
        · rename_i h8; cases h8
        · cases hq1
      · unfold kindB at hq1
        split at hq1
        · rename_i h8; cases h8
        · simp only [RepP] at hx hy
          simp only [eqS, beq_iff_eq] at he1
          subst he1; subst hx; subst hy; exact ⟨rfl, rfl⟩
        · rename_i h8; cases h8
        · cases hq1
      · unfold kindB at hq1
        split at hq1
        · rename_i h8; cases h8
        · rename_i h8; cases h8
        · simp only [RepP] at hx hy
          simp only [eqS, beq_iff_eq] at he1
          have h9 : ∀ b c : ByteArray, b.toList = c.toList → b = c := fun b c h => by
            rw [ByteArray.toList_eq, ByteArray.toList_eq] at h
            exact ByteArray.ext (Array.toList_inj.1 h)
          have h8 := h9 _ _ he1
          subst h8; subst hx; subst hy; exact ⟨rfl, rfl⟩
        · cases hq1
      · cases hp1
    exact ⟨by rw [this.1], by rw [this.2]⟩
theorem kinds_one : ∀ {z ps : List PV} {us : List Value}, kindsB z ps = true → RepL im w ps us → ∀ u ∈ us, u.oneCell' = true
  | [], [], us, _, h, u, hu => by simp only [RepL] at h; subst h; simp at hu
  | [], _ :: _, _, h, _, _, _ => by simp [kindsB] at h
  | _ :: _, [], _, h, _, _, _ => by simp [kindsB] at h
  | q :: z, p :: ps, us, hk, h, u, hu => by
    simp only [kindsB, Bool.and_eq_true] at hk
    simp only [RepL] at h
    obtain ⟨x, xs, rfl, hp, h⟩ := h
    rcases List.mem_cons.1 hu with rfl | hu
    · have hk1 := hk.1
      unfold kindB at hk1
      split at hk1
      · simp only [RepP] at hp; subst hp; rfl
      · simp only [RepP] at hp; subst hp; rfl
      · simp only [RepP] at hp; subst hp; rfl
      · cases hk1
    · exact kinds_one hk.2 h u hu
def mRes (kn : Nat) (key : List PV) : List (List PV) → List MapEntry → Nat → Option (Nat × Value)
  | e :: es, m :: ms, i => if eqPs key (e.take kn) then some (i, m.val) else mRes kn key es ms (i + 1)
  | _, _, _ => none
theorem valOf_val {t : TypeId} {g : Bool} {us : List Value} (h : aggB P t g = true) (hl : g = false → us.length = 1) : ValOf P t us (valOf g us) := by
  obtain ⟨_, d, hu, hd⟩ := aggB_run h default
  refine ⟨d, hu, ?_⟩
  cases g with
  | true => exact .inl ⟨hd, rfl⟩
  | false =>
    refine .inr ⟨hd, ?_⟩
    match us, hl rfl with
    | [x], _ => rfl
theorem eqTB_len {t : TypeId} {z : List PV} {d : TypeDesc} (h : eqTB P 8 t z = true) (hu : P.underlying t = some d) (hd : d.isRow = false) : z.length = 1 := by
  obtain ⟨e, he, h1⟩ := eqTB_info h
  rw [hu] at he; cases he
  exact h1 hd
theorem findAsking_run {t : TypeId} {ka va : Bool} {kz ps : List PV} {us : List Value} {x : Value} (hE : eqTB P 8 t kz = true) (hA : aggB P t ka = true) (hk : kindsB kz ps = true) (hr : RepL im w ps us) (hx : ValOf P t us x) :
    ∀ (es : List (List PV)) (ms : List MapEntry) (i : Nat), RepM im' w' ka va kz es ms → (Instr.findAsking t x ms i).run P w = .ok (mRes kz.length ps es ms i) w
  | [], ms, i, h => by simp only [RepM] at h; subst h; simp [Instr.findAsking, mRes]
  | e :: es, ms, i, h => by
    simp only [RepM] at h
    obtain ⟨m, r, vs, rfl, h1, _, h3, h4, h5, h6⟩ := h
    have hlz := kindsB_len h3
    have hlen := (h1.take kz.length).len
    have hv : ValOf P t (vs.take kz.length) m.key := by
      rw [h4]
      refine valOf_val hA fun hg => ?_
      obtain ⟨_, d, hu, hd⟩ := aggB_run hA default
      rw [hlen, hlz]; exact eqTB_len hE hu (by rw [hd, hg])
    have he : (Op.equal t x m.key).run P w = .ok (eqPs ps (e.take kz.length)) w := equal_run 8 t kz hE 10000 (by decide) _ _ _ _ _ _ hk h3 hr (h1.take _) hx hv w
    have ih := findAsking_run hE hA hk hr hx es r (i + 1) h6
    simp only [Instr.findAsking, Sem.run_bind, he, Result.andThen_ok, mRes]
    cases eqPs ps (e.take kz.length)
    · simpa using ih
    · simp
theorem findKey_run {t : TypeId} {ka va : Bool} {kz ps : List PV} {us : List Value} {x : Value} (hE : eqTB P 8 t kz = true) (hA : aggB P t ka = true) (hk : kindsB kz ps = true) (hr : RepL im w ps us) (hx : ValOf P t us x)
    {es : List (List PV)} {ms : List MapEntry} (h : RepM im' w' ka va kz es ms) : (Instr.findKey t x ms).run P w = .ok (mRes kz.length ps es ms 0) w := by
  have hask := findAsking_run (im' := im') (w' := w') (va := va) hE hA hk hr hx es ms 0 h
  obtain ⟨d, hu, hx'⟩ := hx
  have now : (Instr.findNow d x ms 0 = none) ∨ Instr.findNow d x ms 0 = some (mRes kz.length ps es ms 0) := by
    have gen : ∀ (es : List (List PV)) (ms : List MapEntry) (i : Nat), RepM im' w' ka va kz es ms → (Instr.findNow d x ms i = none) ∨ Instr.findNow d x ms i = some (mRes kz.length ps es ms i) := by
      intro es
      induction es with
      | nil => intro ms i h; simp only [RepM] at h; subst h; exact .inr (by simp [Instr.findNow, mRes])
      | cons e es ih =>
        intro ms i h
        simp only [RepM] at h
        obtain ⟨m, r, vs, rfl, h1, _, h3, h4, h5, h6⟩ := h
        have hlz := kindsB_len h3
        have hlen := (h1.take kz.length).len
        obtain ⟨_, d', hu', hd'⟩ := aggB_run hA default
        rw [hu] at hu'; cases hu'
        simp only [Instr.findNow, mRes]
        cases hs : Instr.sameNow d x m.key with
        | none => exact .inl rfl
        | some b =>
          have hb : b = eqPs ps (e.take kz.length) := by
            have hv : ValOf P t (vs.take kz.length) m.key := by
              rw [h4]
              refine valOf_val hA fun hg => ?_
              rw [hlen, hlz]; exact eqTB_len hE hu (by rw [hd', hg])
            have he : (Op.equalIn 10000 t x m.key).run P w = .ok (eqPs ps (e.take kz.length)) w := equal_run 8 t kz hE 10000 (by decide) _ _ _ _ _ _ hk h3 hr (h1.take _) ⟨d, hu, hx'⟩ hv w
            have e1 : ∀ (D : Nat) (q : IntKind) (k : IntKind) (a b : Int), d = .int q → (Op.equalIn (D + 1) t (.int k a) (.int k b)).run P w = .ok (a == b) w := fun D q k a b hd => by
              subst hd; simp [Op.equalIn, run_underlying hu]
            have e2 : ∀ (D : Nat) (a b : ByteArray), d = .string → (Op.equalIn (D + 1) t (.string a) (.string b)).run P w = .ok (a.toList == b.toList) w := fun D a b hd => by
              subst hd; exact run_equalIn_string _ _ _ _ _ hu
            have e3 : ∀ (D : Nat) (a b : Bool), d = .bool → (Op.equalIn (D + 1) t (.bool a) (.bool b)).run P w = .ok (a == b) w := fun D a b hd => by
              subst hd; simp [Op.equalIn, run_underlying hu]
            have inj : ∀ {b c : Bool}, (Result.ok b w : Result Bool) = .ok c w → b = c := fun h => by cases h; rfl
            rw [show (10000 : Nat) = 9999 + 1 from rfl] at he
            generalize (9999 : Nat) = D at he
            unfold Instr.sameNow at hs
            split at hs
            · rename_i hx1 hx2
              split at hs
              · rename_i hkk
                subst hkk
                rw [hx2, e1 D _ _ _ _ rfl] at he
                simp only [Option.some.injEq] at hs
                rw [← hs]; exact inj he
              · cases hs
            · rename_i hx1 hx2
              rw [hx2, e2 D _ _ rfl] at he
              simp only [Option.some.injEq] at hs
              rw [← hs, beq_toListBytes]; exact inj he
            · rename_i hx1 hx2
              rw [hx2, e3 D _ _ rfl] at he
              simp only [Option.some.injEq] at hs
              rw [← hs]; exact inj he
            · cases hs
          subst hb
          cases hq : eqPs ps (e.take kz.length) with
          | true => exact .inr (by simp)
          | false => simpa using ih r (i + 1) h6
    exact gen es ms 0 h
  unfold Instr.findKey
  simp only [Sem.run_bind, run_underlying hu, Result.andThen_ok]
  rcases now with hn | hn
  · simp only [hn]; exact hask
  · simp only [hn, Sem.run_pure]
theorem mRes_find (kn : Nat) (key : List PV) {ka va : Bool} {kz : List PV} : ∀ (es : List (List PV)) (ms : List MapEntry) (i : Nat), RepM im w ka va kz es ms →
    match mFind kn key es with
    | none => mRes kn key es ms i = none
    | some j => ∃ m e, ms[j]? = some m ∧ es[j]? = some e ∧ eqPs key (e.take kn) = true ∧ mRes kn key es ms i = some (i + j, m.val)
  | [], ms, i, h => by simp [mFind, mRes]
  | e :: es, ms, i, h => by
    simp only [RepM] at h
    obtain ⟨m, r, vs, rfl, h1, _, h3, h4, h5, h6⟩ := h
    simp only [mFind, mRes]
    cases hq : eqPs key (e.take kn) with
    | true => exact ⟨m, e, rfl, rfl, hq, by simp⟩
    | false =>
      have ih := mRes_find kn key es r (i + 1) h6
      simp only [Bool.false_eq_true, if_false]
      cases hf : mFind kn key es with
      | none => rw [hf] at ih; simpa using ih
      | some j =>
        rw [hf] at ih
        obtain ⟨m', e', a1, a2, a3, a4⟩ := ih
        exact ⟨m', e', by simpa using a1, by simpa using a2, a3, by rw [a4]; simp; omega⟩
theorem repM_get {ka va : Bool} {kz : List PV} : ∀ {es : List (List PV)} {ms : List MapEntry}, RepM im w ka va kz es ms → ∀ {j : Nat} {m : MapEntry} {e : List PV}, ms[j]? = some m → es[j]? = some e →
    ∃ us : List Value, RepL im w e us ∧ (∀ u ∈ us, u.oneCell' = true) ∧ kindsB kz (e.take kz.length) = true ∧ m.key = valOf ka (us.take kz.length) ∧ m.val = valOf va (us.drop kz.length)
  | [], ms, h, j, m, e, hm, he => by simp at he
  | x :: es, ms, h, j, m, e, hm, he => by
    simp only [RepM] at h
    obtain ⟨m', r, vs, rfl, h1, h2, h3, h4, h5, h6⟩ := h
    cases j with
    | zero => simp at hm he; subst hm; subst he; exact ⟨vs, h1, h2, h3, h4, h5⟩
    | succ j => exact repM_get h6 (by simpa using hm) (by simpa using he)
theorem repM_len {ka va : Bool} {kz : List PV} : ∀ {es : List (List PV)} {ms : List MapEntry}, RepM im w ka va kz es ms → ms.length = es.length
  | [], ms, h => by simp only [RepM] at h; subst h; rfl
  | x :: es, ms, h => by
    simp only [RepM] at h
    obtain ⟨m', r, vs, rfl, _, _, _, _, _, h6⟩ := h
    simp [repM_len h6]
theorem repM_push {ka va : Bool} {kz : List PV} {m : MapEntry} {e : List PV} (hm : RepM im w ka va kz [e] [m]) : ∀ {es : List (List PV)} {ms : List MapEntry}, RepM im w ka va kz es ms → RepM im w ka va kz (es ++ [e]) (ms ++ [m])
  | [], ms, h => by simp only [RepM] at h; subst h; simpa using hm
  | x :: es, ms, h => by
    simp only [RepM] at h
    obtain ⟨m', r, vs, rfl, h1, h2, h3, h4, h5, h6⟩ := h
    simp only [List.cons_append]
    rw [RepM]
    exact ⟨m', _, vs, rfl, h1, h2, h3, h4, h5, repM_push hm h6⟩
theorem repM_set {ka va : Bool} {kz : List PV} {f : MapEntry → MapEntry} {e : List PV} : ∀ {es : List (List PV)} {ms : List MapEntry} {j : Nat}, RepM im w ka va kz es ms → (∀ m, ms[j]? = some m → RepM im w ka va kz [e] [f m]) → RepM im w ka va kz (es.set j e) (ms.modify j f)
  | [], ms, j, h, _ => by simp only [RepM] at h; subst h; simp [RepM]
  | x :: es, ms, j, h, hf => by
    simp only [RepM] at h
    obtain ⟨m', r, vs, rfl, h1, h2, h3, h4, h5, h6⟩ := h
    cases j with
    | zero =>
      have h9 := hf m' rfl
      simp only [List.set_cons_zero, List.modify_zero_cons]
      rw [RepM] at h9 ⊢
      obtain ⟨m2, r2, vs2, he, g1, g2, g3, g4, g5, g6⟩ := h9
      cases he
      exact ⟨_, _, vs2, rfl, g1, g2, g3, g4, g5, h6⟩
    | succ j =>
      simp only [List.set_cons_succ, List.modify_succ_cons]
      rw [RepM]
      exact ⟨m', _, vs, rfl, h1, h2, h3, h4, h5, repM_set h6 (fun m hm => hf m (by simpa using hm))⟩
theorem sameBits_valOf {z ps : List PV} {us : List Value} (g : Bool) (hk : kindsB z ps = true) (h : RepL im w ps us) (h1 : g = false → us.length = 1) : Instr.sameBits 10000 (valOf g us) (valOf g us) = true := by
  have one : ∀ (n : Nat) (p q : PV) (u : Value), kindB q p = true → RepP im w p u → Instr.sameBits (n + 1) u u = true := fun n p q u hk h => by
    unfold kindB at hk
    split at hk
    · simp only [RepP] at h; subst h; simp [Instr.sameBits]
    · simp only [RepP] at h; subst h; simp [Instr.sameBits]
    · simp only [RepP] at h; subst h
      have : ∀ b : ByteArray, (b == b) = true := fun b => by rw [beq_toListBytes]; simp
      simp [Instr.sameBits, this]
    · cases hk
  cases g with
  | false =>
    match us, h1 rfl with
    | [u], _ =>
      match ps, h with
      | [p], h =>
        simp only [RepL] at h
        obtain ⟨x, xs, he, hp, rfl⟩ := h
        cases he
        have hz := kindsB_len hk
        match z, hk, hz with
        | [q], hk, _ =>
          simp only [kindsB, Bool.and_true] at hk
          exact one 9999 p q u hk hp
      | p :: q :: r, h =>
        simp only [RepL] at h
        obtain ⟨x, xs, he, _, y, ys, he2, _⟩ := h
        cases he; cases he2
      | [], h => simp [RepL] at h
  | true =>
    have all : ∀ (z ps : List PV) (us : List Value), kindsB z ps = true → RepL im w ps us → (us.zip us).all (fun (x, y) => Instr.sameBits 9999 x y) = true := by
      intro z
      induction z with
      | nil =>
        intro ps us hk h
        cases ps with
        | nil => simp only [RepL] at h; subst h; rfl
        | cons p ps => simp [kindsB] at hk
      | cons q z ih =>
        intro ps us hk h
        cases ps with
        | nil => simp [kindsB] at hk
        | cons p ps =>
          simp only [kindsB, Bool.and_eq_true] at hk
          simp only [RepL] at h
          obtain ⟨x, xs, rfl, hp, h⟩ := h
          simp only [List.zip_cons_cons, List.all_cons, Bool.and_eq_true]
          exact ⟨one 9998 p q x hk.1 hp, ih ps xs hk.2 h⟩
    simp only [valOf]
    rw [show (10000 : Nat) = 9999 + 1 from rfl]
    unfold Instr.sameBits
    simp only [List.size_toArray, beq_self_eq_true, Bool.true_and]
    simpa using all z ps us hk h
def pvOf : Bool → List PV → PV
  | true, cs => .agg cs
  | false, cs => cs.headD .nil
theorem lay_mp {t kt et : TypeId} {ka va : Bool} {kz vz : List PV} (h : LayOK P t (.mp kt et ka va kz vz)) :
    P.underlying t = some (.map kt et) ∧ eqTB P 8 kt kz = true ∧ flatKeyB P kt = true ∧ aggB P kt ka = true ∧ aggB P et va = true ∧ zeroOfB P et vz = true ∧ (va = false → vz.length = 1) ∧ zshapeB P et va = true := by
  unfold LayOK layB at h
  simp only [Bool.and_eq_true] at h
  obtain ⟨⟨⟨⟨⟨⟨⟨⟨⟨h1, _⟩, _⟩, h2⟩, h3⟩, h4⟩, h5⟩, h6⟩, h7⟩, h8⟩ := h
  refine ⟨?_, h2, h3, h4, h5, h6, fun hv => ?_, h8⟩
  · split at h1
    · rename_i k e hu
      simp only [Bool.and_eq_true, beq_iff_eq] at h1
      obtain ⟨rfl, rfl⟩ := h1
      exact hu
    · cases h1
  · subst hv
    simpa using h7
theorem pvOf_rep {g : Bool} {ps : List PV} {us : List Value} (h : RepL im w ps us) (h1 : g = false → us.length = 1) : RepP im w (pvOf g ps) (valOf g us) := by
  cases g with
  | true => simp only [pvOf, valOf, RepP]; exact ⟨us, rfl, h⟩
  | false =>
    match us, h1 rfl with
    | [u], _ =>
      match ps, h with
      | [p], h =>
        simp only [RepL] at h
        obtain ⟨x, xs, he, hp, rfl⟩ := h
        cases he
        exact hp
      | p :: q :: r, h =>
        simp only [RepL] at h
        obtain ⟨x, xs, he, _, y, ys, he2, _⟩ := h
        cases he; cases he2
      | [], h => simp [RepL] at h
def keyA {β : Type} (ka : Bool) (kz : List PV) (x : Operand) (f : List PV → AskR β) : AskR β := opd x fun v => match ka, v with
  | true, .agg cs => (match asPs cs with
    | some ps => bif kindsB kz ps then f ps else .fail
    | none => .fail)
  | false, .c (.p p) => bif kindsB kz [p] then f [p] else .fail
  | _, _ => .fail
theorem keyA_ok {β : Type} (h : RelAt w0 im0 N D bm rm L a w) {kt : TypeId} {ka : Bool} {kz : List PV} (hA : aggB P kt ka = true) {x : Operand} {f : List PV → AskR β} {R : List Nat} {y : β × List Nat} (hr : (keyA ka kz x f).run L R = some y) :
    ∃ ps us R', kindsB kz ps = true ∧ RepL (imOf w0.heap.size im0 bm rm L w) w ps us ∧ a.eval x = valOf ka us ∧ (ka = false → us.length = 1) ∧ ValOf P kt us (a.eval x) ∧ (f ps).run L R' = some y := by
  replace hr := opd_inv h hr; obtain ⟨v, R1, hv, hr⟩ := hr
  obtain ⟨hisA, d, hu, hd⟩ := aggB_run hA w
  clear hisA
  split at hr
  · rename_i cs
    split at hr
    · rename_i ps hps
      cases hk : kindsB kz ps with
      | false => rw [hk] at hr; simp [AskR.run] at hr
      | true =>
        rw [hk] at hr
        obtain ⟨us, hx, hrep⟩ := hv.rep
        have := asPs_get hps
        subst this
        exact ⟨ps, us, R1, hk, pure_back hrep, hx, (fun h => by cases h), ⟨d, hu, .inl ⟨hd, hx⟩⟩, hr⟩
    · simp [AskR.run] at hr
  · rename_i p
    cases hk : kindsB kz [p] with
    | false => rw [hk] at hr; simp [AskR.run] at hr
    | true =>
      rw [hk] at hr
      have hp : RepP _ w p (a.eval x) := hv.rep
      exact ⟨[p], [a.eval x], R1, hk, ⟨_, [], rfl, hp, rfl⟩, rfl, fun _ => rfl, ⟨d, hu, .inr ⟨hd, rfl⟩⟩, hr⟩
  · simp [AskR.run] at hr
def mapA {β : Type} (x : Operand) (ka va : Bool) (kz : List PV) (f : List (List PV) → AskR β) : AskR β := opd x fun v => match v with
  | .c (.p .nilm) => f []
  | .c (.p (.map ka' va' kz' es)) => bif (ka' == ka) && (va' == va) && kindsB kz kz' then f es else .fail
  | .c (.mp k) => .get (kB k) fun c => match c with
    | .obj (.map ka' va' kz' es) => bif (ka' == ka) && (va' == va) && kindsB kz kz' then f es else .fail
    | _ => .fail
  | _ => .fail
theorem kindB_trans {x y z : PV} (h : kindB x y = true) (k : kindB y z = true) : kindB x z = true := by
  unfold kindB at h
  split at h
  · unfold kindB at k
    split at k
    · rfl
    · rename_i h8; cases h8
    · rename_i h8; cases h8
    · cases k
  · unfold kindB at k
    split at k
    · rename_i h8; cases h8
    · rfl
    · rename_i h8; cases h8
    · cases k
  · unfold kindB at k
    split at k
    · rename_i h8; cases h8
    · rename_i h8; cases h8
    · rfl
    · cases k
  · cases h
theorem kindsB_trans : ∀ {x y z : List PV}, kindsB x y = true → kindsB y z = true → kindsB x z = true
  | [], [], [], _, _ => rfl
  | [], [], _ :: _, _, k => by simp [kindsB] at k
  | [], _ :: _, _, h, _ => by simp [kindsB] at h
  | _ :: _, [], _, h, _ => by simp [kindsB] at h
  | _ :: _, _ :: _, [], _, k => by simp [kindsB] at k
  | a :: x, b :: y, c :: z, h, k => by
    simp only [kindsB, Bool.and_eq_true] at h k ⊢
    exact ⟨kindB_trans h.1 k.1, kindsB_trans h.2 k.2⟩
theorem repM_kz {ka va : Bool} {kz kz' : List PV} (hk : kindsB kz kz' = true) : ∀ {es : List (List PV)} {ms : List MapEntry}, RepM im w ka va kz' es ms → RepM im w ka va kz es ms
  | [], ms, h => by simpa only [RepM] using h
  | e :: es, ms, h => by
    simp only [RepM] at h ⊢
    obtain ⟨m, r, us, rfl, h1, h2, h3, h4, h5, h6⟩ := h
    have hl := kindsB_len hk
    rw [hl] at h3 h4 h5
    exact ⟨m, r, us, rfl, h1, h2, kindsB_trans hk h3, h4, h5, repM_kz hk h6⟩
theorem mapA_ok {β : Type} (h : RelAt w0 im0 N D bm rm L a w) {ka va : Bool} {kz : List PV} {x : Operand} {f : List (List PV) → AskR β} {R : List Nat} {y : β × List Nat} (hr : (mapA x ka va kz f).run L R = some y) :
    ∃ es R', ((a.eval x = .map none ∧ es = []) ∨ ∃ b ms clock, a.eval x = .map (some b) ∧ w.heap[b]? = some (.map ms clock) ∧ MapOK ms.toList clock ∧ RepM (imOf w0.heap.size im0 bm rm L w) w ka va kz es ms.toList) ∧ (f es).run L R' = some y := by
  replace hr := opd_inv h hr; obtain ⟨v, R1, hv, hr⟩ := hr
  split at hr
  · have hx : a.eval x = .map none := hv.rep
    exact ⟨[], R1, .inl ⟨hx, rfl⟩, hr⟩
  · rename_i ka' va' kz' es
    cases hg : (ka' == ka) && (va' == va) && kindsB kz kz' with
    | false => rw [hg] at hr; simp [AskR.run] at hr
    | true =>
      rw [hg] at hr
      simp only [Bool.and_eq_true, beq_iff_eq] at hg
      obtain ⟨⟨rfl, rfl⟩, hk⟩ := hg
      obtain ⟨b, ms, clock, hx, _, hb, hok, hm⟩ : ∃ b ms clock, a.eval x = .map (some b) ∧ imOf w0.heap.size im0 bm rm L w b ∧ w.heap[b]? = some (.map ms clock) ∧ MapOK ms.toList clock ∧ RepM _ w ka' va' kz' es ms.toList := by have := hv.rep; simpa only [RepT, RepV, RepP] using this
      exact ⟨es, R1, .inr ⟨b, ms, clock, hx, hb, hok, repM_kz hk hm⟩, hr⟩
  · rename_i k
    simp only [AskR.run] at hr
    split at hr
    · rename_i ka' va' kz' es hc
      cases hg : (ka' == ka) && (va' == va) && kindsB kz kz' with
      | false => rw [hg] at hr; simp [AskR.run] at hr
      | true =>
        rw [hg] at hr
        simp only [Bool.and_eq_true, beq_iff_eq] at hg
        obtain ⟨⟨rfl, rfl⟩, hk⟩ := hg
        have hx : a.eval x = .map (some (bm k)) := hv.rep
        obtain ⟨O, hO, hrep, _⟩ := h.objs k _ hc
        obtain ⟨ms, clock, rfl, hok, hm⟩ := hrep
        exact ⟨es, _, .inr ⟨bm k, ms, clock, hx, hO, hok, repM_kz hk hm⟩, hr⟩
    · simp [AskR.run] at hr
  · simp [AskR.run] at hr
def evMakeMap (T : TypeId → Lay) (N : NN) (o : Oper) (t : TypeId) : Ask := match T t, o.dst with
  | .mp _ _ ka va kz _, some d => .get (kB d) fun c => match c with
    | .none => bif okS N d then .done [(kT d, .t (.c (.mp d))), (kB d, .obj (.map ka va kz []))] else .fail
    | _ => .fail
  | _, _ => .fail
theorem evMakeMap_ok {T : TypeId → Lay} (h : RelAt w0 im0 N D bm rm L a w) {t : TypeId} {R : List Nat} {z : Deed} (hr : (evMakeMap T N o t).run L R = some z) (ho : o.op = .makeMap t none) : Res P w0 im0 N D o a w (ovr z.1 L) := by
  unfold evMakeMap at hr
  split at hr
  · rename_i ka va kz vz d hlay hd
    simp only [AskR.run] at hr
    split at hr
    · rename_i hc
      cases hg : okS N d with
      | false => rw [hg] at hr; simp [AskR.run] at hr
      | true =>
        rw [hg] at hr
        simp only [cond_true, AskR.run, Option.some.injEq] at hr
        subst hr
        have hn := h.newObj (o := .map ka va kz []) (O := .map #[] 0) hc ⟨#[], 0, rfl, ⟨by simp, by simp⟩, by simp [RepM]⟩
        refine ⟨w.alloc (.map #[] 0), .inl ⟨.map (some w.heap.size), ?_, ?_⟩⟩
        · simp [execOp, ho, Instr.makeMap, go_sem]
        · rw [ovr_cons, hd]
          refine ⟨_, _, hn.put hg (v := .c (.mp d)) (by simp [RepT, RepV, updN_same]) (fun k hk => ?_) (by simp [TV.rows, CV.rows])⟩
          simp only [TV.boxes, CV.boxes, List.mem_singleton] at hk
          subst hk
          rw [ovrB_B, if_pos rfl]; simp
    · simp [AskR.run] at hr
  · simp [AskR.run] at hr
def evLookup (ar : Ar) (T : TypeId → Lay) (N : NN) (o : Oper) (t : TypeId) (x ix : Operand) (ok : Bool) : Ask := match T t with
  | .mp _ _ ka va kz vz => mapA x ka va kz fun es => keyA ka kz ix fun ps => match va, ok, ar.mg kz.length es ps vz with
    | true, false, vs => putA N o.dst (.agg (vs.map .p)) []
    | false, false, [p] => putA N o.dst (TV.ofPV p) []
    | true, true, vs => putA N o.dst (.c (.p (.tup [.agg vs, .bool (ar.mh kz.length es ps)]))) []
    | false, true, [p] => putA N o.dst (.c (.p (.tup [p, .bool (ar.mh kz.length es ps)]))) []
    | _, _, _ => .fail
  | _ => .fail
theorem lookup_run {t kt et : TypeId} {ka va : Bool} {kz vz : List PV} (hl : LayOK P t (.mp kt et ka va kz vz)) {x key : Value} {es : List (List PV)} {ps : List PV} {us : List Value}
    (hx : (x = .map none ∧ es = []) ∨ ∃ b ms clock, x = .map (some b) ∧ w.heap[b]? = some (.map ms clock) ∧ MapOK ms.toList clock ∧ RepM im w ka va kz es ms.toList)
    (hk : kindsB kz ps = true) (hr : RepL im w ps us) (hkey : key = valOf ka us) (hv : ValOf P kt us key) (ok : Bool) :
    ∃ vs : List Value, RepL im w (mGet kz.length es ps vz) vs ∧ (va = false → (mGet kz.length es ps vz).length = 1 → vs.length = 1) ∧
      (Instr.lookup t x key ok).run P w = .ok (if ok then .tuple #[valOf va vs, .bool (mFind kz.length ps es).isSome] else valOf va vs) w := by
  obtain ⟨hu, hE, hF, hA, hB, hZ, hlen, hzs⟩ := lay_mp hl
  obtain ⟨zv, hz, hzr, _, i, hi, hiz⟩ := zeroOfB_run hZ w
  have hzval : zv = valOf va zv.cells.toList := by
    unfold zshapeB at hzs
    simp only [hi, hiz] at hzs
    cases zv <;> simp only [Bool.not_eq_true'] at hzs <;> first | (subst hzs; rfl) | cases hzs
  unfold Instr.lookup
  rcases hx with ⟨rfl, rfl⟩ | ⟨b, ms, clock, rfl, hb, _, hm⟩
  · have hck := checkKey_run (w := w) (#[] : Array MapEntry).isEmpty hF hE hk hr hv
    have hm : RepM im w ka va kz [] ([] : List MapEntry) := by simp [RepM]
    have hfk := findKey_run (w := w) hE hA hk hr hv hm
    obtain ⟨es, hes⟩ : ∃ es : List (List PV), es = [] := ⟨_, rfl⟩
    rw [← hes] at hm hfk ⊢
    have hmf := mRes_find kz.length ps es [] 0 hm
    cases hf : mFind kz.length ps es with
    | none =>
      rw [hf] at hmf
      have hmf : mRes kz.length ps es [] 0 = none := hmf
      refine ⟨zv.cells.toList, by unfold mGet; rw [hf]; exact hzr _ _, fun _ h9 => ?_, ?_⟩
      · unfold mGet at h9; rw [hf] at h9
        rw [(hzr (fun _ => True) w).len]; exact h9
      · simp only [Sem.run_bind, run_underlying hu, Result.andThen_ok, Sem.run_pure,  hck, hfk, hmf, hz, ← hzval, Option.isSome_none]
    | some j =>
      rw [hf] at hmf
      obtain ⟨m, e, a1, a2, a3, a4⟩ := hmf
      obtain ⟨us', b1, b2, b3, b4, b5⟩ := repM_get hm a1 a2
      have hd : mGet kz.length es ps vz = e.drop kz.length := by unfold mGet; rw [hf]; simp only [List.getD_eq_getElem?_getD, a2, Option.getD_some]
      refine ⟨us'.drop kz.length, by rw [hd]; exact b1.drop _, fun _ h9 => by rw [hd] at h9; rw [(b1.drop kz.length).len]; exact h9, ?_⟩
      simp only [Sem.run_bind, run_underlying hu, Result.andThen_ok, Sem.run_pure,  hck, hfk, a4, ← b5, Option.isSome_some]
  · have hck := checkKey_run (w := w) ms.isEmpty hF hE hk hr hv
    have hfk := findKey_run (w := w) hE hA hk hr hv hm
    have hmf := mRes_find kz.length ps es ms.toList 0 hm
    cases hf : mFind kz.length ps es with
    | none =>
      rw [hf] at hmf
      have hmf : mRes kz.length ps es ms.toList 0 = none := hmf
      refine ⟨zv.cells.toList, by unfold mGet; rw [hf]; exact hzr _ _, fun _ h9 => ?_, ?_⟩
      · unfold mGet at h9; rw [hf] at h9
        rw [(hzr (fun _ => True) w).len]; exact h9
      · simp only [Sem.run_bind, run_underlying hu, Result.andThen_ok, Sem.run_pure, MapKept.run_getObj_map hb, hck, hfk, hmf, hz, ← hzval, Option.isSome_none]
    | some j =>
      rw [hf] at hmf
      obtain ⟨m, e, a1, a2, a3, a4⟩ := hmf
      obtain ⟨us', b1, b2, b3, b4, b5⟩ := repM_get hm a1 a2
      have hd : mGet kz.length es ps vz = e.drop kz.length := by unfold mGet; rw [hf]; simp only [List.getD_eq_getElem?_getD, a2, Option.getD_some]
      refine ⟨us'.drop kz.length, by rw [hd]; exact b1.drop _, fun _ h9 => by rw [hd] at h9; rw [(b1.drop kz.length).len]; exact h9, ?_⟩
      simp only [Sem.run_bind, run_underlying hu, Result.andThen_ok, Sem.run_pure, MapKept.run_getObj_map hb, hck, hfk, a4, ← b5, Option.isSome_some]
theorem evLookup_ok {ar : Ar} (har : ar = Ar.std) {T : TypeId → Lay} (hT : ∀ t, LayOK P t (T t)) (h : RelAt w0 im0 N D bm rm L a w) {t : TypeId} {x ix : Operand} {ok : Bool} {R : List Nat} {z : Deed} (hr : (evLookup ar T N o t x ix ok).run L R = some z) (ho : o.op = .lookup t x ix ok) : Res P w0 im0 N D o a w (ovr z.1 L) := by
  subst har
  unfold evLookup at hr
  split at hr
  · rename_i kt et ka va kz vz hlay
    have hl := hT t
    rw [hlay] at hl
    obtain ⟨hu, hE, hF, hA, hB, hZ, hlen, hzs⟩ := lay_mp hl
    replace hr := mapA_ok h hr; obtain ⟨es, R1, hx, hr⟩ := hr
    replace hr := keyA_ok h hA hr; obtain ⟨ps, us, R2, hk, hrep, hkey, hone, hv, hr⟩ := hr
    obtain ⟨vs, h1, h2, h3⟩ := lookup_run hl hx hk hrep hkey hv ok
    have he : ∀ v, (Instr.lookup t (a.eval x) (a.eval ix) ok).run P w = .ok v w → (execOp a.eval o).run P w = .ok (.value v) w := fun v hv => by
      simp only [execOp, ho, Sem.run_bind, hv, Result.andThen_ok, Sem.run_pure]
    have hml : Ar.std.mg kz.length es ps vz = mGet kz.length es ps vz := rfl
    split at hr
    · exact res_put (v := .agg _) (u := .agg vs.toArray) h ⟨⟨vs, rfl, RepVs.pure (by rw [hml]; exact h1)⟩, by simp [TV.boxes, CV.boxes, List.flatMap_map], by simp [TV.rows, CV.rows, List.flatMap_map]⟩ hr (he _ h3)
    · rename_i p hp
      rw [hml] at hp
      have := h2 rfl (by rw [hp]; rfl)
      rw [hp] at h1
      exact res_put h (holds_of (pvOf_rep (g := false) h1 fun _ => this)) hr (he _ h3)
    · refine res_put h (holds_pv ?_) hr (he _ h3)
      simp only [RepP, RepL]
      exact ⟨[_, _], rfl, _, _, rfl, ⟨vs, rfl, by rw [hml]; exact h1⟩, _, _, rfl, rfl, rfl⟩
    · rename_i p hp
      rw [hml] at hp
      have h9 := h2 rfl (by rw [hp]; rfl)
      rw [hp] at h1
      refine res_put h (holds_pv ?_) hr (he _ h3)
      simp only [RepP, RepL]
      exact ⟨[_, _], rfl, _, _, rfl, pvOf_rep (g := false) h1 fun _ => h9, _, _, rfl, rfl, rfl⟩
    · simp [AskR.run] at hr
  · simp [AskR.run] at hr
def valA {β : Type} (va : Bool) (x : Operand) (f : List PV → AskR β) : AskR β := opd x fun v => match va, v with
  | true, .agg cs => (match asPs cs with
    | some ps => bif cellsP ps then f ps else .fail
    | none => .fail)
  | false, .c (.p p) => bif cellsP [p] then f [p] else .fail
  | _, _ => .fail
theorem valA_ok {β : Type} (h : RelAt w0 im0 N D bm rm L a w) {va : Bool} {x : Operand} {f : List PV → AskR β} {R : List Nat} {y : β × List Nat} (hr : (valA va x f).run L R = some y) :
    ∃ ps us R', RepL (imOf w0.heap.size im0 bm rm L w) w ps us ∧ (∀ u ∈ us, u.oneCell' = true) ∧ a.eval x = valOf va us ∧ (f ps).run L R' = some y := by
  replace hr := opd_inv h hr; obtain ⟨v, R1, hv, hr⟩ := hr
  split at hr
  · rename_i cs
    split at hr
    · rename_i ps hps
      cases hk : cellsP ps with
      | false => rw [hk] at hr; simp [AskR.run] at hr
      | true =>
        rw [hk] at hr
        obtain ⟨us, hx, hrep⟩ := hv.rep
        have := asPs_get hps
        subst this
        exact ⟨ps, us, R1, pure_back hrep, cellsP_one hk (pure_back hrep), hx, hr⟩
    · simp [AskR.run] at hr
  · rename_i p
    cases hk : cellsP [p] with
    | false => rw [hk] at hr; simp [AskR.run] at hr
    | true =>
      rw [hk] at hr
      have hp : RepP _ w p (a.eval x) := hv.rep
      have hl : RepL (imOf w0.heap.size im0 bm rm L w) w [p] [a.eval x] := ⟨_, [], rfl, hp, rfl⟩
      exact ⟨[p], [a.eval x], R1, hl, cellsP_one hk hl, rfl, hr⟩
  · simp [AskR.run] at hr
def evMapUpdate (ar : Ar) (T : TypeId → Lay) (o : Oper) (t : TypeId) (x ix y : Operand) : Ask := match T t, o.dst with
  | .mp _ _ ka va kz _, none => opd x fun v => match v with
    | .c (.mp k) => .get (kB k) fun c => match c with
      | .obj (.map ka' va' kz' es) => bif (ka' == ka) && (va' == va) && kindsB kz kz' then (keyA ka kz ix fun ps => valA va y fun vs => .done [(kB k, .obj (.map ka va kz (ar.ms kz.length es ps vs)))]) else .fail
      | _ => .fail
    | _ => .fail
  | _, _ => .fail
theorem mapOK_push {ms : List MapEntry} {clock : Nat} (h : MapOK ms clock) (k v : Value) : MapOK (ms ++ [{ key := k, val := v, born := clock }]) (clock + 1) := by
  refine ⟨fun m hm => ?_, ?_⟩
  · rcases List.mem_append.1 hm with hm | hm
    · have := h.lt m hm; omega
    · simp only [List.mem_singleton] at hm; subst hm; simp
  · rw [List.map_append, List.map_cons, List.map_nil]
    refine List.nodup_append.2 ⟨h.nd, by simp, fun x hx y hy => ?_⟩
    simp only [List.mem_singleton] at hy
    obtain ⟨m, hm, rfl⟩ := List.mem_map.1 hx
    have := h.lt m hm; omega
theorem map_modify_born {f : MapEntry → MapEntry} (hf : ∀ m, (f m).born = m.born) : ∀ (ms : List MapEntry) (j : Nat), (ms.modify j f).map (·.born) = ms.map (·.born)
  | [], j => by simp
  | m :: ms, 0 => by simp [hf]
  | m :: ms, j + 1 => by simp [map_modify_born hf ms j]
theorem mapOK_modify {ms : List MapEntry} {clock : Nat} {f : MapEntry → MapEntry} (hf : ∀ m, (f m).born = m.born) (h : MapOK ms clock) (j : Nat) : MapOK (ms.modify j f) clock := by
  have hb := map_modify_born hf ms j
  refine ⟨fun m hm => ?_, by rw [hb]; exact h.nd⟩
  have : m.born ∈ (ms.modify j f).map (·.born) := List.mem_map.2 ⟨m, hm, rfl⟩
  rw [hb] at this
  obtain ⟨m', hm', he⟩ := List.mem_map.1 this
  rw [← he]; exact h.lt m' hm'
theorem mapUpdate_run {t kt et : TypeId} {ka va : Bool} {kz vz : List PV} (hl : LayOK P t (.mp kt et ka va kz vz)) {b clock : Nat} {ms : Array MapEntry} {key val : Value} {es : List (List PV)} {ps vs : List PV} {us ws : List Value}
    (hb : w.heap[b]? = some (.map ms clock)) (hok : MapOK ms.toList clock) (hm : RepM im w ka va kz es ms.toList)
    (hk : kindsB kz ps = true) (hr : RepL im w ps us) (hkey : key = valOf ka us) (hone : ka = false → us.length = 1) (hv : ValOf P kt us key) (hvr : RepL im w vs ws) (hv1 : ∀ u ∈ ws, u.oneCell' = true) (hval : val = valOf va ws) :
    ∃ ms' clock', (Instr.mapUpdate t (.map (some b)) key val).run P w = .ok () { w with heap := w.heap.setIfInBounds b (.map ms' clock') } ∧ MapOK ms'.toList clock' ∧ RepM im w ka va kz (mSet kz.length es ps vs) ms'.toList := by
  obtain ⟨hu, hE, hF, hA, hB, hZ, hlen, hzs⟩ := lay_mp hl
  have hck := checkKey_run (w := w) false hF hE hk hr hv
  have hfk := findKey_run (w := w) hE hA hk hr hv hm
  have hmf := mRes_find kz.length ps es ms.toList 0 hm
  have hlz := kindsB_len hk
  have hus := hr.len
  have hone1 : ∀ m : MapEntry, m.key = key → m.val = val → RepM im w ka va kz [ps ++ vs] [m] := fun m h1 h2 => by
    rw [RepM]
    refine ⟨m, [], us ++ ws, rfl, hr.append hvr, fun u hu' => ?_, ?_, ?_, ?_, rfl⟩
    · rcases List.mem_append.1 hu' with hu' | hu'
      · exact kinds_one hk hr u hu'
      · exact hv1 u hu'
    · rw [List.take_left' (by omega)]; exact hk
    · rw [h1, hkey, List.take_left' (by omega)]
    · rw [h2, hval, List.drop_left' (by omega)]
  unfold Instr.mapUpdate
  cases hf : mFind kz.length ps es with
  | none =>
    rw [hf] at hmf
    have hmf : mRes kz.length ps es ms.toList 0 = none := hmf
    refine ⟨ms.push { key := key, val := val, born := clock }, clock + 1, ?_, by simpa using mapOK_push hok key val, ?_⟩
    · simp only [Sem.run_bind, run_underlying hu, Result.andThen_ok, MapKept.run_getObj_map hb, hck, hfk, hmf, MapKept.run_setObj_map _ hb]
    · unfold mSet; rw [hf]
      simpa using repM_push (hone1 { key := key, val := val, born := clock } rfl rfl) hm
  | some j =>
    rw [hf] at hmf
    obtain ⟨m, e, a1, a2, a3, a4⟩ := hmf
    obtain ⟨us', b1, b2, b3, b4, b5⟩ := repM_get hm a1 a2
    obtain ⟨hsame, _⟩ := eqPs_same hk b3 a3 hr (b1.take kz.length)
    have hkk : m.key = key := by rw [b4, hkey, hsame]
    have hst : (Instr.keyThatStays m.key key).run P w = .ok key w := by
      unfold Instr.keyThatStays
      rw [hkk, hkey, sameBits_valOf ka hk hr hone]
      simp
    refine ⟨ms.modify j fun e => { e with key := key, val := val }, clock, ?_, ?_, ?_⟩
    · have hj : ms[j]? = some m := by simpa using a1
      simp only [Sem.run_bind, run_underlying hu, Result.andThen_ok, MapKept.run_getObj_map hb, hck, hfk, a4, hj, Option.map_some, Option.getD_some, hst, MapKept.run_setObj_map _ hb, Nat.zero_add]
    · rw [Array.toList_modify]
      exact mapOK_modify (f := fun e => { e with key := key, val := val }) (fun _ => rfl) hok j
    · unfold mSet; rw [hf, Array.toList_modify]
      exact repM_set hm fun m' _ => hone1 _ rfl rfl
theorem evMapUpdate_ok {ar : Ar} (har : ar = Ar.std) {T : TypeId → Lay} (hT : ∀ t, LayOK P t (T t)) (h : RelAt w0 im0 N D bm rm L a w) {t : TypeId} {x ix y : Operand} {R : List Nat} {z : Deed} (hr : (evMapUpdate ar T o t x ix y).run L R = some z) (ho : o.op = .mapUpdate t x ix y) : Res P w0 im0 N D o a w (ovr z.1 L) := by
  subst har
  unfold evMapUpdate at hr
  split at hr
  · rename_i kt et ka va kz vz hlay hd
    have hl := hT t
    rw [hlay] at hl
    obtain ⟨hu, hE, hF, hA, hB, hZ, hlen, hzs⟩ := lay_mp hl
    replace hr := opd_inv h hr; obtain ⟨v, R1, hv, hr⟩ := hr
    split at hr
    · rename_i k
      have hx : a.eval x = .map (some (bm k)) := hv.rep
      simp only [AskR.run] at hr
      split at hr
      · rename_i ka' va' kz' es hc
        cases hg : (ka' == ka) && (va' == va) && kindsB kz kz' with
        | false => rw [hg] at hr; simp [AskR.run] at hr
        | true =>
          rw [hg] at hr
          simp only [Bool.and_eq_true, beq_iff_eq] at hg
          obtain ⟨⟨rfl, rfl⟩, hkz⟩ := hg
          replace hr := keyA_ok h hA hr; obtain ⟨ps, us, R2, hk, hrep, hkey, hone, hv2, hr⟩ := hr
          replace hr := valA_ok h hr; obtain ⟨vs, ws, R3, hvr, hv1, hval, hr⟩ := hr
          simp only [AskR.run, Option.some.injEq] at hr
          subst hr
          obtain ⟨O, hO, hrepO, hn⟩ := h.objs k _ hc
          obtain ⟨ms, clock, rfl, hok, hm⟩ := hrepO
          obtain ⟨ms', clock', hrun, hok', hm'⟩ := mapUpdate_run hl hO hok (repM_kz hkz hm) hk hrep hkey hone hv2 hvr hv1 hval
          have hlt : bm k < w.heap.size := (Array.getElem?_eq_some_iff.1 hO).1
          refine ⟨{ w with heap := w.heap.setIfInBounds (bm k) (.map ms' clock') }, .inr ⟨?_, ?_⟩⟩
          · simp only [execOp, ho, hx, Sem.run_bind, hrun, Result.andThen_ok, Sem.run_pure]
          · rw [hd]
            refine ⟨bm, rm, ?_⟩
            refine h.setObj hc (o' := .map ka' va' kz (Ar.std.ms kz.length es ps vs)) (O := .map ms' clock') ⟨ms', clock', rfl, hok', hm'⟩ rfl rfl rfl (by simp) ?_ ?_
            · simp [hlt]
            · intro b hb
              simp [Array.getElem?_setIfInBounds_ne (Ne.symm hb)]
      · simp [AskR.run] at hr
    · simp [AskR.run] at hr
  · simp [AskR.run] at hr
theorem repM_one {ka va : Bool} {kz : List PV} : ∀ {es : List (List PV)} {ms : List MapEntry}, RepM im w ka va kz es ms → ∀ {j : Nat} {m : MapEntry} {e : List PV}, ms[j]? = some m → es[j]? = some e → RepM im w ka va kz [e] [m]
  | [], ms, h, j, m, e, hm, he => by simp at he
  | x :: es, ms, h, j, m, e, hm, he => by
    simp only [RepM] at h
    obtain ⟨m', r, vs, rfl, h1, h2, h3, h4, h5, h6⟩ := h
    cases j with
    | zero => simp at hm he; subst hm; subst he; simp only [RepM]; exact ⟨_, _, vs, rfl, h1, h2, h3, h4, h5, rfl⟩
    | succ j => exact repM_one h6 (by simpa using hm) (by simpa using he)
theorem repM_erase {ka va : Bool} {kz : List PV} : ∀ {es : List (List PV)} {ms : List MapEntry}, RepM im w ka va kz es ms → ∀ (j : Nat), RepM im w ka va kz (es.eraseIdx j) (ms.eraseIdx j)
  | [], ms, h, j => by simp only [RepM] at h; subst h; simp [RepM]
  | x :: es, ms, h, j => by
    simp only [RepM] at h
    obtain ⟨m', r, vs, rfl, h1, h2, h3, h4, h5, h6⟩ := h
    cases j with
    | zero => simpa using h6
    | succ j =>
      simp only [List.eraseIdx_cons_succ]
      rw [RepM]
      exact ⟨m', _, vs, rfl, h1, h2, h3, h4, h5, repM_erase h6 j⟩
theorem filter_erase : ∀ (l : List MapEntry) (j : Nat) (hj : j < l.length), (l.map (·.born)).Nodup → l.filter (fun e => !(e.born == l[j].born)) = l.eraseIdx j
  | [], j, hj, _ => by simp at hj
  | x :: l, 0, _, h => by
    have h' : x.born ∉ l.map (·.born) ∧ (l.map (·.born)).Nodup := List.nodup_cons.1 h
    simp only [List.getElem_cons_zero, List.filter_cons, beq_self_eq_true, Bool.not_true, Bool.false_eq_true, if_false, List.eraseIdx_cons_zero]
    refine List.filter_eq_self.2 fun e he => ?_
    simp only [Bool.not_eq_true', beq_eq_false_iff_ne, ne_eq]
    intro hh
    exact h'.1 (List.mem_map.2 ⟨e, he, hh⟩)
  | x :: l, j + 1, hj, h => by
    have h' : x.born ∉ l.map (·.born) ∧ (l.map (·.born)).Nodup := List.nodup_cons.1 h
    have hj' : j < l.length := by simpa using hj
    have hx : (x.born == l[j].born) = false := by
      simp only [beq_eq_false_iff_ne, ne_eq]
      intro hh
      exact h'.1 (List.mem_map.2 ⟨l[j], List.getElem_mem _, hh.symm⟩)
    simp only [List.getElem_cons_succ, List.filter_cons, hx, Bool.not_false, if_true, List.eraseIdx_cons_succ]
    rw [filter_erase l j hj' h'.2]
def evRange (T : TypeId → Lay) (N : NN) (o : Oper) (t : TypeId) (x : Operand) : Ask := match T t, o.dst with
  | .mp _ _ ka va kz _, some d => .get (kB d) fun c => match c with
    | .none => opd x fun v => match v with
      | .c (.p .nilm) => bif okS N d then .done [(kT d, .t (.c (.ptr d 0))), (kB d, .obj (.iter ka va kz [] []))] else .fail
      | .c (.p (.map ka' va' kz' es)) => bif okS N d && (ka' == ka) && (va' == va) && kindsB kz kz' then .done [(kT d, .t (.c (.ptr d 0))), (kB d, .obj (.iter ka va kz es []))] else .fail
      | _ => .fail
    | _ => .fail
  | _, _ => .fail
theorem new_iter (h : RelAt w0 im0 N D bm rm L a w) {d : Nat} {O : Obj} {ob : ObV} (hd : o.dst = some d) (hN : okS N d = true) (hn : L (kB d) = .none) (hO : RepO (imOf w0.heap.size im0 bm rm L w) w ob O)
    (hrun : (execOp a.eval o).run P w = .ok (.value (.pointer (some ⟨w.heap.size, 0, none⟩))) (w.alloc O)) : Res P w0 im0 N D o a w (ovr [(kT d, .t (.c (.ptr d 0))), (kB d, .obj ob)] L) := by
  have hn := h.newObj hn hO
  refine ⟨w.alloc O, .inl ⟨_, hrun, ?_⟩⟩
  rw [ovr_cons, hd]
  refine ⟨_, _, hn.put hN (v := .c (.ptr d 0)) (by simp [RepT, RepV, updN_same]) (fun k hk => ?_) (by simp [TV.rows, CV.rows])⟩
  simp only [TV.boxes, CV.boxes, List.mem_singleton] at hk
  subst hk
  rw [ovrB_B, if_pos rfl]; simp
theorem evRange_ok {T : TypeId → Lay} (hT : ∀ t, LayOK P t (T t)) (h : RelAt w0 im0 N D bm rm L a w) {t : TypeId} {x : Operand} {R : List Nat} {z : Deed} (hr : (evRange T N o t x).run L R = some z) (ho : o.op = .range t x) : Res P w0 im0 N D o a w (ovr z.1 L) := by
  unfold evRange at hr
  split at hr
  · rename_i kt et ka va kz vz d hlay hd
    have hl := hT t
    rw [hlay] at hl
    obtain ⟨hu, _⟩ := lay_mp hl
    simp only [AskR.run] at hr
    split at hr
    · rename_i hc
      replace hr := opd_inv h hr; obtain ⟨v, R1, hv, hr⟩ := hr
      split at hr
      · have hx : a.eval x = .map none := hv.rep
        cases hg : okS N d with
        | false => rw [hg] at hr; simp [AskR.run] at hr
        | true =>
          rw [hg] at hr
          simp only [cond_true, AskR.run, Option.some.injEq] at hr
          subst hr
          refine new_iter h hd hg hc (O := .mapIter none 0 #[] 0) (.inl ⟨rfl, rfl, rfl⟩) ?_
          simp only [execOp, ho, hx, Sem.run_bind, run_range_nilMap w t kt et hu, Result.andThen_ok, Sem.run_pure]
      · rename_i ka' va' kz' es
        cases hg : okS N d && (ka' == ka) && (va' == va) && kindsB kz kz' with
        | false => rw [hg] at hr; simp [AskR.run] at hr
        | true =>
          rw [hg] at hr
          simp only [Bool.and_eq_true, beq_iff_eq] at hg
          obtain ⟨⟨⟨hN, rfl⟩, rfl⟩, hk⟩ := hg
          simp only [cond_true, AskR.run, Option.some.injEq] at hr
          subst hr
          obtain ⟨b, ms, clock, hx, him, hb, hok, hm⟩ : ∃ b ms clock, a.eval x = .map (some b) ∧ imOf w0.heap.size im0 bm rm L w b ∧ w.heap[b]? = some (.map ms clock) ∧ MapOK ms.toList clock ∧ RepM _ w ka' va' kz' es ms.toList := by have := hv.rep; simpa only [RepT, RepV, RepP] using this
          refine new_iter h hd hN hc (O := .mapIter (some b) clock #[] clock) (.inr ⟨b, ms, clock, #[], rfl, him, hb, hok, ?_, .inl rfl⟩) ?_
          · have : (ms.filter fun e => !(#[] : Array Nat).contains e.born) = ms := by simp
            rw [this]; exact repM_kz hk hm
          · simp only [execOp, ho, hx, Sem.run_bind, run_range_map w t kt et b ms clock hu hb, Result.andThen_ok, Sem.run_pure]
      · simp [AskR.run] at hr
    · simp [AskR.run] at hr
  · simp [AskR.run] at hr
def evEntry (N : NN) (o : Oper) (x : Operand) : Ask := opd x fun v => match v with
  | .c (.ptr k 0) => .get (kB k) fun c => match c with
    | .obj (.iter ka va kz _ [e]) => bif (ka || Nat.beq kz.length 1) && (va || Nat.beq e.length (kz.length + 1)) then putA N o.dst (.c (.p (.tup [pvOf ka (e.take kz.length), pvOf va (e.drop kz.length)]))) [] else .fail
    | _ => .fail
  | _ => .fail
theorem evEntry_ok (h : RelAt w0 im0 N D bm rm L a w) {x : Operand} {R : List Nat} {z : Deed} (hr : (evEntry N o x).run L R = some z) (ho : o.op = .entry x) : Res P w0 im0 N D o a w (ovr z.1 L) := by
  replace hr := opd_inv h hr; obtain ⟨v, R1, hv, hr⟩ := hr
  split at hr
  · rename_i k
    have hx : a.eval x = .pointer (some ⟨bm k, 0, none⟩) := hv.rep
    simp only [AskR.run] at hr
    split at hr
    · rename_i ka va kz left e hc
      cases hg : (ka || Nat.beq kz.length 1) && (va || Nat.beq e.length (kz.length + 1)) with
      | false => rw [hg] at hr; simp [AskR.run] at hr
      | true =>
        rw [hg] at hr
        simp only [Bool.and_eq_true, Bool.or_eq_true] at hg
        obtain ⟨O, hO, hrep, _⟩ := h.objs k _ hc
        rcases hrep with ⟨_, _, hcur⟩ | ⟨b, ms, clock, seen, rfl, him, hb, hok, hleft, hcur⟩
        · cases hcur
        · obtain ⟨m, hm, hs, hr1⟩ := hcur.resolve_left (by simp)
          obtain ⟨us, g1, g2, g3, g4, g5⟩ := repM_get hr1 (j := 0) rfl rfl
          have hlz := kindsB_len g3
          have hlu := g1.len
          have hf : ms.find? (·.born == m.born) = some m := by rw [← Array.find?_toList]; exact find_born m ms.toList hok.nd hm
          refine res_put (u := .tuple #[m.key, m.val]) h (holds_pv ?_) hr ?_
          · simp only [RepP, RepL]
            refine ⟨[m.key, m.val], rfl, _, _, rfl, ?_, _, _, rfl, ?_, rfl⟩
            · rw [g4]
              refine pvOf_rep (g1.take _) fun hka => ?_
              subst hka
              have := Nat.eq_of_beq_eq_true (hg.1.resolve_left (by simp))
              rw [(g1.take kz.length).len, hlz, this]
            · rw [g5]
              refine pvOf_rep (g1.drop _) fun hva => ?_
              subst hva
              have := Nat.eq_of_beq_eq_true (hg.2.resolve_left (by simp))
              rw [(g1.drop kz.length).len, List.length_drop, this]; omega
          · simp only [execOp, ho, hx, Instr.entry, Sem.run_bind]
            simp only [show (getObj (bm k)).run P w = .ok (.mapIter (some b) clock seen clock) w by simp [getObj, Sem.run, hO], Result.andThen_ok, hs, Sem.run_bind, MapKept.run_getObj_map hb, bne_self_eq_false, Bool.false_eq_true, if_false, hf, Sem.run_pure]
    · simp [AskR.run] at hr
  · simp [AskR.run] at hr
theorem next_run (h : RelAt w0 im0 N D bm rm L a w) {k : Nat} {ka va : Bool} {kz : List PV} {left cur : List (List PV)} (hc : L (kB k) = .obj (.iter ka va kz left cur)) (ty : TypeId) :
    (left = [] ∧ (Instr.next (.pointer (some ⟨bm k, 0, none⟩)) false ty).run P w = .ok (.tuple #[.bool false]) w) ∨
    ∃ (i : Nat) (e : List PV) (v1 v2 : Value) (w' : World), left[i]? = some e ∧ (Instr.next (.pointer (some ⟨bm k, 0, none⟩)) false ty).run P w = .ok (.tuple #[.bool true, v1, v2]) w' ∧
      RelAt w0 im0 N D bm rm (ovr [(kB k, .obj (.iter ka va kz (left.eraseIdx i) [e]))] L) a w' := by
  obtain ⟨O, hO, hrep, hn⟩ := h.objs k _ hc
  have hlt : bm k < w.heap.size := (Array.getElem?_eq_some_iff.1 hO).1
  rcases hrep with ⟨rfl, rfl, _⟩ | ⟨b, ms, clock, seen, rfl, him, hb, hok, hleft, hcur⟩
  · refine .inl ⟨rfl, ?_⟩
    have hg : (getObj (bm k)).run P w = .ok (.mapIter none 0 #[] 0) w := by simp [getObj, Sem.run, hO]
    simp only [Instr.next, Sem.run_bind, hg, Result.andThen_ok, Sem.run_pure]
  · have hg : (getObj (bm k)).run P w = .ok (.mapIter (some b) clock seen clock) w := by simp [getObj, Sem.run, hO]
    have hall : ∀ x ∈ ms.toList, x.born < clock := hok.lt
    have hlen := repM_len hleft
    have hmem : ∀ x ∈ (Array.filter (fun e => !seen.contains e.born) ms).toList, x.born < clock := fun x hx => hall x (by simp at hx ⊢; exact hx.1)
    obtain ⟨Lf, hLf⟩ : ∃ Lf, Array.filter (fun e => !seen.contains e.born) ms = Lf := ⟨_, rfl⟩
    have e1 : Lf.filter (fun x => decide (x.born < clock)) = Lf := by
      rw [hLf] at hmem
      exact Array.filter_eq_self.2 (fun x hx => by simpa using hmem x (by simpa using hx))
    have e2 : Lf.filter (fun x => decide (x.born ≥ clock)) = #[] := by
      rw [hLf] at hmem
      rw [Array.filter_eq_empty_iff]
      intro x hx
      have := hmem x (by simpa using hx)
      simp
      omega
    rw [hLf] at hleft hlen
    by_cases h0 : Lf.size = 0
    · have hL0 : Lf = #[] := Array.eq_empty_of_size_eq_zero h0
      subst hL0
      refine .inl ⟨?_, ?_⟩
      · cases left with
        | nil => rfl
        | cons x l => simp at hlen
      · simp only [Instr.next, Sem.run_bind, hg, Result.andThen_ok, MapKept.run_getObj_map hb, next_test_false seen ms clock clock hall (Nat.le_refl _), Bool.false_eq_true, if_false, hLf, e1, e2, Array.append_empty]
        simp [choose, Sem.run, Question.forced]
    · have hne : Lf.isEmpty = false := by simp [Array.isEmpty, h0]
      have hch : ∃ (j : Nat) (w1 : World), j < Lf.size ∧ w1.heap = w.heap ∧ w1.os = w.os ∧ w1.tape = w.tape ∧ w1.output = w.output ∧ (choose (Question.mapNext Lf.size)).run P w = .ok j w1 := by
        by_cases hf : Lf.size ≤ 1
        · exact ⟨0, w, by omega, rfl, rfl, rfl, rfl, by simp [choose, Sem.run, Question.forced, hf]⟩
        · exact ⟨_, w.drew, Nat.mod_lt _ (by omega), rfl, rfl, rfl, rfl, by
            simp only [choose, Sem.run, Question.forced, decide_eq_true_eq, hf, if_false, Question.cut]
            rfl⟩
      obtain ⟨j, w1, hj, a1, a2, a3, a4, hch⟩ := hch
      have hset : (setObj (bm k) (.mapIter (some b) clock (seen.push Lf[j].born) clock)).run P w1 = .ok () { w1 with heap := w1.heap.setIfInBounds (bm k) (.mapIter (some b) clock (seen.push Lf[j].born) clock) } := by
        have : w1.heap[bm k]? = some (.mapIter (some b) clock seen clock) := by rw [a1]; exact hO
        simp [setObj, Sem.run, this]
      have hrun : (Instr.next (.pointer (some ⟨bm k, 0, none⟩)) false ty).run P w = .ok (.tuple #[.bool true, Lf[j].key, Lf[j].val]) { w1 with heap := w1.heap.setIfInBounds (bm k) (.mapIter (some b) clock (seen.push Lf[j].born) clock) } := by
        simp only [Instr.next, Sem.run_bind, hg, Result.andThen_ok, MapKept.run_getObj_map hb, next_test_false seen ms clock clock hall (Nat.le_refl _), Bool.false_eq_true, if_false, hLf, e1, e2, Array.append_empty, hne, Array.empty_append, Array.size_map, hch, Array.getElem?_map, Array.getElem?_eq_getElem hj, Option.map_some, hset, Sem.run_pure]
      have hjl : j < left.length := by rw [← hlen]; simpa using hj
      have hmj : Lf[j] ∈ ms.toList := by
        have : Lf[j] ∈ Array.filter (fun e => !seen.contains e.born) ms := by rw [hLf]; exact Array.getElem_mem hj
        simp at this ⊢; exact this.1
      refine .inr ⟨j, left[j], _, _, _, List.getElem?_eq_getElem hjl, hrun, ?_⟩
      refine RelAt.setObj (o := .iter ka va kz left cur) (o' := .iter ka va kz (left.eraseIdx j) [left[j]]) (O := .mapIter (some b) clock (seen.push Lf[j].born) clock) h hc ?_ a2 a3 a4 (by simp [a1]) (by simp [a1, hlt]) (fun b' hb' => by simp [a1, Array.getElem?_setIfInBounds_ne (Ne.symm hb')])
      refine .inr ⟨b, ms, clock, _, rfl, him, hb, hok, ?_, .inr ⟨Lf[j], hmj, by simp, ?_⟩⟩
      · have hfil : (ms.filter fun e => !(seen.push Lf[j].born).contains e.born).toList = Lf.toList.eraseIdx j := by
          have hnd : (Lf.toList.map (·.born)).Nodup := by
            rw [← hLf, Array.toList_filter]
            exact (List.filter_sublist.map _).nodup hok.nd
          have e3 : (ms.filter fun e => !(seen.push Lf[j].born).contains e.born).toList = Lf.toList.filter fun e => !(e.born == Lf[j].born) := by
            generalize Lf[j].born = q
            rw [← hLf, Array.toList_filter, Array.toList_filter, List.filter_filter]
            congr 1
            funext e
            simp only [Array.contains_push]
            cases seen.contains e.born <;> cases h9 : (e.born == Lf[j].born) <;> simp_all
          rw [e3]
          exact filter_erase _ j (by simpa using hj) hnd
        rw [hfil]
        exact repM_erase hleft j
      · exact repM_one hleft (j := j) (by simp [hj]) (List.getElem?_eq_getElem hjl)
end
section
variable {P : Program} {w0 : World} {im0 : Nat → Prop} {N : NN} {D : Env} {bm : Nat → Nat} {rm : Nat → Value} {L : Lk} {a : Act} {w w' : World} {o : Oper}
def evShr (ar : Ar) (N : NN) (o : Oper) (x y : Operand) : Ask := match y with
  | .const (.int _ c) => bif decide (0 ≤ c) then opd x fun u => (match u with
    | .c (.p (.int .u64 m)) => putA N o.dst (.c (.p (.int .u64 (ar.ai .shr m c)))) []
    | _ => .fail) else .fail
  | _ => .fail
theorem evShr_ok {ar : Ar} (har : ar = Ar.std) (h : RelAt w0 im0 N D bm rm L a w) {t yt : TypeId} {x y : Operand} {R : List Nat} {z : Deed} (hr : (evShr ar N o x y).run L R = some z) (ho : o.op = .binOp .shr t x y yt) :
    Res P w0 im0 N D o a w (ovr z.1 L) := by
  subst har
  unfold evShr at hr
  split at hr
  · rename_i k c
    cases hc : decide (0 ≤ c) with
    | false => rw [hc] at hr; simp [AskR.run] at hr
    | true =>
      rw [hc] at hr
      simp only [cond_true] at hr
      have h0 := of_decide_eq_true hc
      replace hr := opd_inv h hr; obtain ⟨u, R1, hu, hr⟩ := hr
      split at hr
      · rename_i m
        have hx : a.eval x = .int .u64 m := hu.rep
        refine res_put (u := .int .u64 (Ar.std.ai .shr m c)) h (holds_pv (by simp [RepP])) hr ?_
        have hn : ¬ c < 0 := by omega
        have e1 : binOp .shr t (.int .u64 m) (.int k c) = Op.shift .shr .u64 m k c := rfl
        have e2 : (Op.shift .shr .u64 m k c).run P w = .ok (.int .u64 (Ar.std.ai .shr m c)) w := by
          simp only [Op.shift, if_neg hn]
          rfl
        have hy : a.eval (.const (.int k c)) = .int k c := rfl
        simp only [execOp, ho, hx, hy, eqGuard, Sem.run_bind, e1]
        simp [e2]
      · simp [AskR.run] at hr
  · simp [AskR.run] at hr
def evConv (ar : Ar) (T : TypeId → Lay) (N : NN) (o : Oper) (s d : TypeId) (x : Operand) : Ask := match T s, T d with
  | .sc _, .sc (.int k _) => opd x fun u => (match u with
    | .c (.p (.int _ n)) => (match k with
      | .u64 => putA N o.dst (.c (.p (.int .u64 (ar.ai .andNot n 0)))) []
      | .i64 => putA N o.dst (.c (.p (.int .i64 (ar.ai .xor n 0)))) []
      | _ => .fail)
    | _ => .fail)
  | _, _ => .fail
theorem evConv_ok {ar : Ar} (har : ar = Ar.std) {T : TypeId → Lay} (hT : ∀ t, LayOK P t (T t)) (h : RelAt w0 im0 N D bm rm L a w) {s d : TypeId} {x : Operand} {R : List Nat} {z : Deed} (hr : (evConv ar T N o s d x).run L R = some z) (ho : o.op = .convert s d x) :
    Res P w0 im0 N D o a w (ovr z.1 L) := by
  subst har
  unfold evConv at hr
  split at hr
  · rename_i z1 k z2 hs hd
    have h1 := hT s
    have h2 := hT d
    rw [hs] at h1
    rw [hd] at h2
    obtain ⟨us, hus⟩ : ∃ u, P.underlying s = some u := by
      unfold LayOK layB at h1
      simp only [Bool.and_eq_true] at h1
      have := h1.1.1.2
      unfold aggB at this
      split at this
      · exact ⟨_, ‹_›⟩
      · cases this
    have hud : P.underlying d = some (.int k) := by
      unfold LayOK layB at h2
      simp only [Bool.and_eq_true] at h2
      have h3 := h2.1.1.1
      cases hu : P.underlying d with
      | none => rw [hu] at h3; simp at h3
      | some u =>
        rw [hu] at h3
        cases u <;> simp_all
    replace hr := opd_inv h hr; obtain ⟨u, R1, hu, hr⟩ := hr
    split at hr
    · rename_i k0 n
      have hx : a.eval x = .int k0 n := hu.rep
      split at hr
      · refine res_put (u := .int .u64 (Ar.std.ai .andNot n 0)) h (holds_pv (by simp [RepP])) hr ?_
        simp only [execOp, ho, hx, convert, Sem.run_bind, run_underlying hus, run_underlying hud]
        cases us <;> simp [Conv.intToInt, Ar.std, Result.andThen]
      · refine res_put (u := .int .i64 (Ar.std.ai .xor n 0)) h (holds_pv (by simp [RepP])) hr ?_
        simp only [execOp, ho, hx, convert, Sem.run_bind, run_underlying hus, run_underlying hud]
        cases us <;> simp [Conv.intToInt, Ar.std, Result.andThen]
      · simp [AskR.run] at hr
    · simp [AskR.run] at hr
  · simp [AskR.run] at hr
end
end Go.Proofs.YtjimjdhdnkhfnaaGreat
