/- Contracts of functions of the program and of the reference, a calculus of states, and plain facts: a part of a proof. Own text. -/
import Derived.Test.YtjimjdhdnkhfnaaJaa
import Derived.Laws.StructEq
set_option linter.unusedVariables false
set_option linter.unusedSimpArgs false
set_option linter.unusedSectionVars false
set_option linter.unnecessarySimpa false
namespace Go.Proofs.Ytjimjdhdnkhfnaa
open Go Go.RowKit
theorem kindsB_len : ∀ {z ps : List PV}, kindsB z ps = true → ps.length = z.length
  | [], [], _ => rfl
  | [], _ :: _, h => by simp [kindsB] at h
  | _ :: _, [], h => by simp [kindsB] at h
  | z :: zs, p :: ps, h => by
    simp only [kindsB, Bool.and_eq_true] at h
    simp [kindsB_len h.2]
theorem kindsB_drop : ∀ {z ps : List PV} (n : Nat), kindsB z ps = true → kindsB (z.drop n) (ps.drop n) = true
  | z, ps, 0, h => by simpa using h
  | [], [], n + 1, _ => by simp [kindsB]
  | [], _ :: _, _, h => by simp [kindsB] at h
  | _ :: _, [], _, h => by simp [kindsB] at h
  | z :: zs, p :: ps, n + 1, h => by
    simp only [kindsB, Bool.and_eq_true] at h
    simpa using kindsB_drop n h.2
theorem kindsB_take : ∀ {z ps : List PV} (n : Nat), kindsB z ps = true → kindsB (z.take n) (ps.take n) = true
  | z, ps, 0, h => by simp [kindsB]
  | [], [], n + 1, _ => by simp [kindsB]
  | [], _ :: _, _, h => by simp [kindsB] at h
  | _ :: _, [], _, h => by simp [kindsB] at h
  | z :: zs, p :: ps, n + 1, h => by
    simp only [kindsB, Bool.and_eq_true] at h
    simp [kindsB, h.1, kindsB_take n h.2]
theorem eqPs_append : ∀ {a b c d : List PV}, a.length = b.length → eqPs (a ++ c) (b ++ d) = (eqPs a b && eqPs c d)
  | [], [], c, d, _ => by simp [eqPs]
  | [], _ :: _, _, _, h => by simp at h
  | _ :: _, [], _, _, h => by simp at h
  | x :: a, y :: b, c, d, h => by
    simp only [List.cons_append, eqPs, eqPs_append (a := a) (b := b) (by simpa using h), Bool.and_assoc]
section
variable {P : Program} {im im' : Nat → Prop} {w1 w2 : World}
def ValOf (P : Program) (t : TypeId) (us : List Value) (x : Value) : Prop := ∃ d, P.underlying t = some d ∧ ((d.isRow = true ∧ x = .agg us.toArray) ∨ (d.isRow = false ∧ us = [x]))
theorem part_val {t : TypeId} {i : TypeInfo} {us : List Value} {off : Nat} {d : TypeDesc} (hu : P.underlying t = some d) (hi : P.info? t = some i) (hle : off + i.size ≤ us.length) (h1 : d.isRow = false → i.size = 1) (w : World) :
    ∃ x, (part t us.toArray off).run P w = .ok x w ∧ ValOf P t ((us.drop off).take i.size) x := by
  cases hr : d.isRow with
  | true =>
    have ha : (isAgg t).run P w = .ok true w := by
      unfold isAgg; rw [Sem.run_bind, run_underlying hu w]; cases d <;> simp_all
    refine ⟨.agg ((us.drop off).take i.size).toArray, ?_, d, hu, .inl ⟨hr, rfl⟩⟩
    simp [part, ha, sizeOf, typeInfo, hi]
  | false =>
    have ha : (isAgg t).run P w = .ok false w := by
      unfold isAgg; rw [Sem.run_bind, run_underlying hu w]; cases d <;> simp_all
    have hs := h1 hr
    have hlt : off < us.length := by omega
    refine ⟨us[off], ?_, d, hu, .inr ⟨hr, ?_⟩⟩
    · simp [part, ha, hlt]
    · rw [hs, List.drop_eq_getElem_cons hlt]; rfl
theorem eqTB_info {d : Nat} {t : TypeId} {z : List PV} (h : eqTB P d t z = true) : ∃ e, P.underlying t = some e ∧ (e.isRow = false → z.length = 1) := by
  cases d with
  | zero => simp [eqTB] at h
  | succ d =>
    unfold eqTB at h
    split at h
    · rename_i hu; exact ⟨_, hu, fun _ => rfl⟩
    · rename_i hu; exact ⟨_, hu, fun _ => rfl⟩
    · rename_i hu; exact ⟨_, hu, fun _ => rfl⟩
    · rename_i hu; exact ⟨_, hu, fun h => by cases h⟩
    · rename_i hu; exact ⟨_, hu, fun h => by cases h⟩
    · cases h
theorem equal_run : ∀ (d : Nat) (t : TypeId) (z : List PV), eqTB P d t z = true → ∀ (D : Nat), d ≤ D → ∀ (ps qs : List PV) (us vs : List Value) (x y : Value), kindsB z ps = true → kindsB z qs = true → RepL im w1 ps us → RepL im' w2 qs vs →
    ValOf P t us x → ValOf P t vs y → ∀ w, (Op.equalIn D t x y).run P w = .ok (eqPs ps qs) w
  | 0, _, _, h, _, _, _, _, _, _, _, _, _, _, _, _, _, _, _ => by simp [eqTB] at h
  | d + 1, t, z, h, 0, hD, _, _, _, _, _, _, _, _, _, _, _, _, _ => by omega
  | d + 1, t, z, h, D + 1, hD, ps, qs, us, vs, x, y, hp, hq, hu, hv, hx, hy, w => by
    obtain ⟨dx, ux, hx⟩ := hx
    obtain ⟨dy, uy, hy⟩ := hy
    have e1 : dx = dy := by rw [ux] at uy; exact Option.some.inj uy
    subst e1
    unfold eqTB at h
    split at h
    · rename_i z0 hun
      rw [ux] at hun; cases hun
      obtain ⟨_, rfl⟩ := hx.resolve_left (by simp)
      obtain ⟨_, rfl⟩ := hy.resolve_left (by simp)
      match ps, qs, hp, hq with
      | [p], [q], hp, hq =>
        simp only [kindsB, Bool.and_true] at hp hq
        cases p <;> simp only [kindB] at hp <;> try cases hp
        cases q <;> simp only [kindB] at hq <;> try cases hq
        rename_i k a k' b
        cases k <;> simp only at hp <;> try cases hp
        cases k' <;> simp only at hq <;> try cases hq
        simp only [RepL, RepP, List.cons.injEq] at hu hv
        obtain ⟨_, _, ⟨rfl, rfl⟩, rfl, _⟩ := hu
        obtain ⟨_, _, ⟨rfl, rfl⟩, rfl, _⟩ := hv
        simp [Op.equalIn, run_underlying ux, eqPs, eqS]
    · rename_i z0 hun
      rw [ux] at hun; cases hun
      obtain ⟨_, rfl⟩ := hx.resolve_left (by simp)
      obtain ⟨_, rfl⟩ := hy.resolve_left (by simp)
      match ps, qs, hp, hq with
      | [p], [q], hp, hq =>
        simp only [kindsB, Bool.and_true] at hp hq
        cases p <;> simp only [kindB] at hp <;> try cases hp
        cases q <;> simp only [kindB] at hq <;> try cases hq
        simp only [RepL, RepP, List.cons.injEq] at hu hv
        obtain ⟨_, _, ⟨rfl, rfl⟩, rfl, _⟩ := hu
        obtain ⟨_, _, ⟨rfl, rfl⟩, rfl, _⟩ := hv
        simp [Op.equalIn, run_underlying ux, eqPs, eqS]
    · rename_i z0 hun
      rw [ux] at hun; cases hun
      obtain ⟨_, rfl⟩ := hx.resolve_left (by simp)
      obtain ⟨_, rfl⟩ := hy.resolve_left (by simp)
      match ps, qs, hp, hq with
      | [p], [q], hp, hq =>
        simp only [kindsB, Bool.and_true] at hp hq
        cases p <;> simp only [kindB] at hp <;> try cases hp
        cases q <;> simp only [kindB] at hq <;> try cases hq
        simp only [RepL, RepP, List.cons.injEq] at hu hv
        obtain ⟨_, _, ⟨rfl, rfl⟩, rfl, _⟩ := hu
        obtain ⟨_, _, ⟨rfl, rfl⟩, rfl, _⟩ := hv
        simp [Op.equalIn, run_underlying ux, eqPs, eqS, beq_toListBytes]
    · rename_i z9 xo z8 F hun
      rw [ux] at hun; cases hun
      obtain ⟨_, rfl⟩ := hx.resolve_right (by simp)
      obtain ⟨_, rfl⟩ := hy.resolve_right (by simp)
      simp only [Bool.and_eq_true, Bool.not_eq_true'] at h
      obtain ⟨⟨hs, _⟩, hF⟩ := h
      have hfo : P.fieldsOf t = F := by simp [Program.fieldsOf, ux]
      rw [run_equalIn_struct w D t _ _ (by rw [hfo]; exact ux) hs, hfo]
      have hlp := kindsB_len hp
      have hlq := kindsB_len hq
      have hlu := hu.len
      have hlv := hv.len
      have key : ∀ (fs : List Field) (off : Nat), eqFs P (eqTB P d) fs off z9 = true → (Op.eqFields D us.toArray vs.toArray fs).run P w = .ok (eqPs (ps.drop off) (qs.drop off)) w := by
        intro fs
        induction fs with
        | nil =>
          intro off hb
          simp only [eqFs] at hb
          have := Nat.eq_of_beq_eq_true hb
          rw [List.drop_eq_nil_of_le (by omega), List.drop_eq_nil_of_le (by omega)]
          simp [Op.eqFields, eqPs]
        | cons f fs ih =>
          intro off hb
          simp only [eqFs, Bool.and_eq_true, bne_iff_ne, ne_eq, beq_iff_eq] at hb
          obtain ⟨⟨ho, hn⟩, hb⟩ := hb
          cases hi : P.info? f.type with
          | none => simp [hi] at hb
          | some i =>
            simp only [hi, Bool.and_eq_true, Nat.ble_eq] at hb
            obtain ⟨⟨hb1, hb2⟩, hb3⟩ := hb
            obtain ⟨e, hue, hone⟩ := eqTB_info hb1
            have h1 : e.isRow = false → i.size = 1 := fun hr => by have := hone hr; simp at this; omega
            obtain ⟨a, pa, va⟩ := part_val (P := P) (us := us) (off := off) hue hi (by omega) h1 w
            obtain ⟨b, pb, vb⟩ := part_val (P := P) (us := vs) (off := off) hue hi (by omega) h1 w
            have hr := equal_run d f.type _ hb1 D (by omega) ((ps.drop off).take i.size) ((qs.drop off).take i.size) _ _ a b (kindsB_take _ (kindsB_drop _ hp)) (kindsB_take _ (kindsB_drop _ hq)) ((hu.drop off).take i.size) ((hv.drop off).take i.size) va vb w
            have hsplit : eqPs (ps.drop off) (qs.drop off) = (eqPs ((ps.drop off).take i.size) ((qs.drop off).take i.size) && eqPs (ps.drop (off + i.size)) (qs.drop (off + i.size))) := by
              rw [← eqPs_append (by simp; omega)]
              congr 1
              · rw [← List.drop_drop, List.take_append_drop]
              · rw [← List.drop_drop, List.take_append_drop]
            subst ho
            simp only [Op.eqFields, ne_eq, hn, not_false_eq_true, if_true, Sem.run_bind, pa, pb, hr, Result.andThen_ok, hsplit]
            cases eqPs ((ps.drop f.offset).take i.size) ((qs.drop f.offset).take i.size)
            · simp
            · simpa using ih _ hb3
      have := key F.toList 0 hF
      simpa using this
    · rename_i z9 xo z8 n e hun
      rw [ux] at hun; cases hun
      obtain ⟨_, rfl⟩ := hx.resolve_right (by simp)
      obtain ⟨_, rfl⟩ := hy.resolve_right (by simp)
      simp only [Bool.and_eq_true, Bool.not_eq_true'] at h
      obtain ⟨_, h⟩ := h
      cases hi : P.info? e with
      | none => simp [hi] at h
      | some i =>
        simp only [hi, Bool.and_eq_true, List.all_eq_true, List.mem_range] at h
        obtain ⟨hl, hall⟩ := h
        have hl := Nat.eq_of_beq_eq_true hl
        have hlp := kindsB_len hp
        have hlq := kindsB_len hq
        have hlu := hu.len
        have hlv := hv.len
        rw [run_equalIn_array w D _ _ ux hi]
        have hc : P.cellsOf e = i.size := by simp [Program.cellsOf, hi]
        rw [hc]
        have key : ∀ k j, j + k = n → (Op.eqItems D e i.size us.toArray vs.toArray (List.range' j k)).run P w = .ok (eqPs (ps.drop (j * i.size)) (qs.drop (j * i.size))) w := by
          intro k
          induction k with
          | zero =>
            intro j hj
            have : j = n := by omega
            subst this
            rw [List.drop_eq_nil_of_le (by omega), List.drop_eq_nil_of_le (by omega)]
            simp [Op.eqItems, eqPs]
          | succ k ih =>
            intro j hj
            have hb1 := hall j (by omega)
            obtain ⟨e', hue, hone⟩ := eqTB_info hb1
            have hle : j * i.size + i.size ≤ n * i.size := by rw [← Nat.succ_mul]; exact Nat.mul_le_mul_right _ (by omega)
            have h1 : e'.isRow = false → i.size = 1 := fun hr => by have := hone hr; simp at this; omega
            obtain ⟨a, pa, va⟩ := part_val (P := P) (us := us) (off := j * i.size) hue hi (by omega) h1 w
            obtain ⟨b, pb, vb⟩ := part_val (P := P) (us := vs) (off := j * i.size) hue hi (by omega) h1 w
            have hr := equal_run d e _ hb1 D (by omega) ((ps.drop (j * i.size)).take i.size) ((qs.drop (j * i.size)).take i.size) _ _ a b (kindsB_take _ (kindsB_drop _ hp)) (kindsB_take _ (kindsB_drop _ hq)) ((hu.drop _).take i.size) ((hv.drop _).take i.size) va vb w
            have hsplit : eqPs (ps.drop (j * i.size)) (qs.drop (j * i.size)) = (eqPs ((ps.drop (j * i.size)).take i.size) ((qs.drop (j * i.size)).take i.size) && eqPs (ps.drop ((j + 1) * i.size)) (qs.drop ((j + 1) * i.size))) := by
              rw [← eqPs_append (by simp; omega), Nat.succ_mul]
              congr 1
              · rw [← List.drop_drop, List.take_append_drop]
              · rw [← List.drop_drop, List.take_append_drop]
            simp only [List.range'_succ, Op.eqItems, Sem.run_bind, pa, pb, hr, Result.andThen_ok, hsplit]
            cases eqPs ((ps.drop (j * i.size)).take i.size) ((qs.drop (j * i.size)).take i.size)
            · simp
            · simpa using ih (j + 1) (by omega)
        have := key n 0 (by omega)
        rw [List.range_eq_range']
        simpa using this
    · cases h
end
structure Ar where
  ai : BinOp → Int → Int → Int
  ab : BinOp → Int → Int → Bool
  nz : Int → Bool
  inr : Nat → Int → Bool
  fi : List Int → Int → Int
  pk : List CV → Int → Option CV
  ix : List (List PV) → Int → Option (List PV)
  ln : List (List PV) → Int
  sb : BinOp → ByteArray → ByteArray → Bool
  eqi : List PV → List PV → Bool
  sl : List (List PV) → Int → Int → Option (List (List PV))
  fits : Nat → List (List PV) → List (List PV) → Bool
  mn : Int → Int → Int
  mx : Int → Int → Int
  nt : Bool → Bool
  be : BinOp → Bool → Bool → Bool
  up : List (List PV) → Int → List PV → List (List PV)
  fu : Int → Nat → Int → Int → Int
  mg : Nat → List (List PV) → List PV → List PV → List PV
  mh : Nat → List (List PV) → List PV → Bool
  ms : Nat → List (List PV) → List PV → List PV → List (List PV)
def mFind (kn : Nat) (key : List PV) : List (List PV) → Option Nat
  | [] => none
  | e :: es => if eqPs key (e.take kn) then some 0 else (mFind kn key es).map (· + 1)
def mSet (kn : Nat) (es : List (List PV)) (key v : List PV) : List (List PV) := match mFind kn key es with
  | some i => es.set i (key ++ v)
  | none => es ++ [key ++ v]
def mGet (kn : Nat) (es : List (List PV)) (key vz : List PV) : List PV := match mFind kn key es with
  | some i => (es.getD i []).drop kn
  | none => vz
def Ar.std : Ar where
  ai op x y := match op with
    | .add => IntKind.i64.wrap (x + y)
    | .sub => IntKind.i64.wrap (x - y)
    | .mul => IntKind.i64.wrap (x * y)
    | .quo => IntKind.i64.wrap (x.tdiv y)
    | .rem => x.tmod y
    | .shr => x.fdiv (2 ^ (min y.toNat 64))
    | .andNot => IntKind.u64.wrap x
    | .xor => IntKind.i64.wrap x
    | _ => 0
  ab op x y := match op with
    | .eql => x == y
    | .neq => x != y
    | .lss => x < y
    | .leq => x ≤ y
    | .gtr => x > y
    | .geq => x ≥ y
    | _ => false
  nz x := !(x == 0)
  inr n i := decide (0 ≤ i ∧ i < n)
  fi l i := l.getD i.toNat 0
  pk l i := if 0 ≤ i then l[i.toNat]? else none
  ix l i := if 0 ≤ i then l[i.toNat]? else none
  ln l := l.length
  sb op x y := match op with
    | .eql => x.toList == y.toList
    | .neq => !(x.toList == y.toList)
    | .lss => Op.bytesLess x.toList y.toList
    | .leq => Op.bytesLess x.toList y.toList || x.toList == y.toList
    | .gtr => !(Op.bytesLess x.toList y.toList || x.toList == y.toList)
    | .geq => !(Op.bytesLess x.toList y.toList)
    | _ => false
  eqi x y := eqPs x y
  sl l i j := if 0 ≤ i ∧ i ≤ j ∧ j ≤ l.length then some ((l.drop i.toNat).take (j.toNat - i.toNat)) else none
  fits b x y := decide ((x.length + y.length) * (b + 1) ≤ 1000000000000)
  mn x y := if y < x then y else x
  mx x y := if y > x then y else x
  nt b := !b
  be op x y := match op with
    | .eql => x == y
    | .neq => !(x == y)
    | _ => false
  up l i e := l.set i.toNat e
  fu i j x y := if i = j then x else y
  mg kn es key vz := mGet kn es key vz
  mh kn es key := (mFind kn key es).isSome
  ms kn es key v := mSet kn es key v
def putA (N : NN) (dst : Option Nat) (v : TV) (α : List (Nat × Cont)) : Ask := match dst with
  | some d => bif okS N d then .done ((kT d, .t v) :: α) else .fail
  | none => .done α
section
variable {P : Program} {w0 : World} {im0 : Nat → Prop} {N : NN} {D : Env} {bm : Nat → Nat} {rm : Nat → Value} {L : Lk} {a : Act} {w w' : World} {o : Oper}
def Res (P : Program) (w0 : World) (im0 : Nat → Prop) (N : NN) (D : Env) (o : Oper) (a : Act) (w : World) (L' : Lk) : Prop :=
  ∃ w', (∃ v, (execOp a.eval o).run P w = .ok (.value v) w' ∧ Rel w0 im0 N D L' (a.put o.dst v) w') ∨ ((execOp a.eval o).run P w = .ok .skip w' ∧ Rel w0 im0 N D L' (a.put o.dst undef) w')
theorem fin_put {α : List (Nat × Cont)} {bm' : Nat → Nat} {rm' : Nat → Value} {v : TV} {u : Value} {L0 : Lk} {R : List Nat} {x : Deed} (h' : RelAt w0 im0 N D bm' rm' (ovr α L) a w') (hv : Holds w0 im0 bm' rm' (ovr α L) w' v u)
    (hr : (putA N o.dst v α).run L0 R = some x) : Rel w0 im0 N D (ovr x.1 L) (a.put o.dst u) w' := by
  cases hd : o.dst with
  | none =>
    rw [hd] at hr
    simp only [putA, AskR.run, Option.some.injEq] at hr
    subst hr
    exact ⟨bm', rm', h'⟩
  | some d =>
    rw [hd] at hr
    simp only [putA] at hr
    cases hb : okS N d with
    | false => simp [hb, AskR.run] at hr
    | true =>
      simp only [hb, cond_true, AskR.run, Option.some.injEq] at hr
      subst hr
      rw [ovr_cons]
      exact ⟨bm', rm', h'.put (by simpa [Nat.blt_eq] using hb) hv.rep hv.wb hv.wr⟩
theorem res_put {v : TV} {u : Value} {L0 : Lk} {R : List Nat} {x : Deed} (h : RelAt w0 im0 N D bm rm L a w) (hv : Holds w0 im0 bm rm L w v u)
    (hr : (putA N o.dst v []).run L0 R = some x) (he : (execOp a.eval o).run P w = .ok (.value u) w) : Res P w0 im0 N D o a w (ovr x.1 L) :=
  ⟨w, .inl ⟨u, he, fin_put (α := []) h hv hr⟩⟩
theorem holds_pv {p : PV} {u : Value} (h : RepP (imOf w0.heap.size im0 bm rm L w) w p u) : Holds w0 im0 bm rm L w (.c (.p p)) u := ⟨h, by simp [TV.boxes, CV.boxes], by simp [TV.rows, CV.rows]⟩
theorem holds_of {p : PV} {u : Value} (h : RepP (imOf w0.heap.size im0 bm rm L w) w p u) : Holds w0 im0 bm rm L w (TV.ofPV p) u := ⟨TV.ofPV_rep h, by simp [TV.ofPV_boxes], by simp [TV.ofPV_rows]⟩
def evMove (N : NN) (o : Oper) (x : Operand) : Ask := opd x fun v => putA N o.dst v []
theorem evMove_ok (h : RelAt w0 im0 N D bm rm L a w) {x : Operand} {R : List Nat} {y : Deed} (hr : (evMove N o x).run L R = some y) (ho : o.op = .move x ∨ o.op = .assign x) : Res P w0 im0 N D o a w (ovr y.1 L) := by
  replace hr := opd_inv h hr; obtain ⟨v, R', hv, hr⟩ := hr
  refine res_put h hv hr ?_
  rcases ho with ho | ho <;> simp [execOp, ho]
def evPick (N : NN) (o : Oper) (c x y : Operand) : Ask := opd c fun b => match b with
  | .c (.p (.bool true)) => opd x fun v => putA N o.dst v []
  | .c (.p (.bool false)) => opd y fun v => putA N o.dst v []
  | _ => .fail
theorem evPick_ok (h : RelAt w0 im0 N D bm rm L a w) {c x y : Operand} {R : List Nat} {z : Deed} (hr : (evPick N o c x y).run L R = some z) (ho : o.op = .pick c x y) : Res P w0 im0 N D o a w (ovr z.1 L) := by
  replace hr := opd_inv h hr; obtain ⟨b, R', hb, hr⟩ := hr
  split at hr
  · have hbu : a.eval c = .bool true := hb.rep
    replace hr := opd_inv h hr; obtain ⟨v, R', hv, hr⟩ := hr
    exact res_put h hv hr (by simp [execOp, ho, hbu, asBool])
  · have hbu : a.eval c = .bool false := hb.rep
    replace hr := opd_inv h hr; obtain ⟨v, R', hv, hr⟩ := hr
    exact res_put h hv hr (by simp [execOp, ho, hbu, asBool])
  · simp [AskR.run] at hr
def bcls : BinOp → Nat
  | .add | .sub | .mul => 0
  | .quo | .rem => 1
  | .eql | .neq | .lss | .leq | .gtr | .geq => 2
  | _ => 3
def nzC : Operand → Bool
  | .const (.int _ c) => decide (c ≠ 0)
  | _ => false
def asInts : List CV → Option (List Int)
  | [] => some []
  | .p (.int .i64 n) :: r => (asInts r).map (n :: ·)
  | _ => none
def asPs : List CV → Option (List PV)
  | [] => some []
  | .p v :: r => (asPs r).map (v :: ·)
  | _ => none
theorem asPs_get : ∀ {cs : List CV} {ps : List PV}, asPs cs = some ps → cs = ps.map .p
  | [], ps, h => by simp [asPs] at h; subst h; rfl
  | c :: cs, ps, h => by
    unfold asPs at h
    split at h
    · rename_i heq; cases heq
    · rename_i v r heq
      cases heq
      cases hr : asPs cs with
      | none => rw [hr] at h; simp at h
      | some qs =>
        rw [hr] at h
        simp only [Option.map_some, Option.some.injEq] at h
        subst h
        rw [asPs_get hr]; rfl
    · cases h
theorem pure_back {bm : Nat → Nat} {rm : Nat → Value} {im : Nat → Prop} {w : World} : ∀ {ps : List PV} {us : List Value}, RepVs bm rm im w (ps.map .p) us → RepL im w ps us
  | [], us, h => h
  | p :: ps, us, h => by
    simp only [List.map_cons, RepVs, RepV] at h
    obtain ⟨x, xs, rfl, h1, h2⟩ := h
    exact ⟨x, xs, rfl, h1, pure_back h2⟩
def Lay.cmp : Lay → Bool
  | .st cm _ _ => cm
  | .arr cm _ _ _ _ => cm
  | _ => false
def Lay.isBool : Lay → Bool
  | .sc (.bool _) => true
  | _ => false
def evBin (ar : Ar) (T : TypeId → Lay) (N : NN) (o : Oper) (op : BinOp) (t : TypeId) (x y : Operand) : Ask := opd x fun u => opd y fun v => match u, v with
  | .c (.p (.int .i64 m)), .c (.p (.int .i64 n)) => match bcls op with
    | 0 => putA N o.dst (.c (.p (.int .i64 (ar.ai op m n)))) []
    | 1 => bif nzC y || ar.nz n then putA N o.dst (.c (.p (.int .i64 (ar.ai op m n)))) [] else .fail
    | 2 => putA N o.dst (.c (.p (.bool (ar.ab op m n)))) []
    | _ => .fail
  | .c (.p (.str s)), .c (.p (.str t)) => match bcls op with
    | 2 => putA N o.dst (.c (.p (.bool (ar.sb op s t)))) []
    | _ => .fail
  | .c (.p (.bool b)), .c (.p (.bool c)) => bif (T t).isBool then (match op with
    | .eql => putA N o.dst (.c (.p (.bool (ar.be .eql b c)))) []
    | .neq => putA N o.dst (.c (.p (.bool (ar.be .neq b c)))) []
    | _ => .fail) else .fail
  | .agg xs, .agg ys => match asPs xs, asPs ys with
    | some ps, some qs => bif (T t).cmp && kindsB (T t).zero ps && kindsB (T t).zero qs then (match op with
      | .eql => putA N o.dst (.c (.p (.bool (ar.eqi ps qs)))) []
      | .neq => putA N o.dst (.c (.p (.bool (ar.nt (ar.eqi ps qs))))) []
      | _ => .fail) else .fail
    | _, _ => .fail
  | _, _ => .fail
theorem cmp_eqTB {t : TypeId} {l : Lay} (h : LayOK P t l) (hc : l.cmp = true) : eqTB P 8 t l.zero = true := by
  unfold LayOK layB at h
  cases l with
  | st cm fs z => simp only [Lay.cmp] at hc; subst hc; simp only [Bool.and_eq_true, Bool.not_true, Bool.false_or] at h; exact h.1.1.1
  | arr cm len esz eagg z => simp only [Lay.cmp] at hc; subst hc; simp only [Bool.and_eq_true, Bool.not_true, Bool.false_or] at h; exact h.1.1.1.1
  | _ => simp [Lay.cmp] at hc
theorem cmp_guard {t : TypeId} {l : Lay} (h : LayOK P t l) (hc : l.cmp = true) : P.eqGuardType P.depth t = false ∧ ∃ d, P.underlying t = some d ∧ d.isRow = true := by
  have h8 := cmp_eqTB h hc
  have hk : l.known = true := by cases l <;> simp_all [Lay.cmp, Lay.known]
  have ha : l.isAgg = true := by cases l <;> simp_all [Lay.cmp, Lay.isAgg]
  have hagg := lay_agg h hk
  rw [ha] at hagg
  obtain ⟨_, d, hu, hd⟩ := aggB_run hagg default
  refine ⟨?_, d, hu, hd⟩
  unfold eqTB at h8
  rw [hu] at h8
  cases d <;> simp_all
theorem run_cmp {t : TypeId} {l : Lay} (hl : LayOK P t l) (hc : l.cmp = true) {ps qs : List PV} {us vs : List Value} {im : Nat → Prop} (hp : kindsB l.zero ps = true) (hq : kindsB l.zero qs = true) (h1 : RepL im w ps us) (h2 : RepL im w qs vs) {x y : Operand} {yt : TypeId}
    (hx : a.eval x = .agg us.toArray) (hy : a.eval y = .agg vs.toArray) :
    (o.op = .binOp .eql t x y yt → (execOp a.eval o).run P w = .ok (.value (.bool (eqPs ps qs))) w) ∧ (o.op = .binOp .neq t x y yt → (execOp a.eval o).run P w = .ok (.value (.bool (!(eqPs ps qs)))) w) := by
  obtain ⟨hg, d, hu, hd⟩ := cmp_guard hl hc
  have he : (Op.equal t (.agg us.toArray) (.agg vs.toArray)).run P w = .ok (eqPs ps qs) w := equal_run 8 t _ (cmp_eqTB hl hc) 10000 (by decide) ps qs us vs _ _ hp hq h1 h2 ⟨d, hu, .inl ⟨hd, rfl⟩⟩ ⟨d, hu, .inl ⟨hd, rfl⟩⟩ w
  constructor <;> intro ho <;> simp only [execOp, ho, hx, hy, eqGuard, binOp, Sem.run_bind] <;> simp [hg, he]
theorem equal_bool {t : TypeId} (hu : P.underlying t = some .bool) (b c : Bool) : (Op.equal t (.bool b) (.bool c)).run P w = .ok (b == c) w := by
  have : ∀ d, (Op.equalIn (d + 1) t (.bool b) (.bool c)).run P w = .ok (b == c) w := fun d => by simp [Op.equalIn, run_underlying hu]
  exact this 9999
theorem run_binOp_i64 (op : BinOp) (t : TypeId) (x y : Operand) (yt : TypeId) (m n : Int) (ho : o.op = .binOp op t x y yt) (hx : a.eval x = .int .i64 m) (hy : a.eval y = .int .i64 n) :
    (bcls op = 0 → (execOp a.eval o).run P w = .ok (.value (.int .i64 (Ar.std.ai op m n))) w) ∧
    (bcls op = 1 → n ≠ 0 → (execOp a.eval o).run P w = .ok (.value (.int .i64 (Ar.std.ai op m n))) w) ∧
    (bcls op = 2 → (execOp a.eval o).run P w = .ok (.value (.bool (Ar.std.ab op m n))) w) := by
  refine ⟨fun hb => ?_, fun hb hn => ?_, fun hb => ?_⟩ <;> cases op <;> simp only [bcls] at hb <;> first
    | (exfalso; revert hb; decide)
    | simp_all [execOp, eqGuard, binOp, Op.intArith, Op.intDiv, Op.intCmp, Ar.std]
theorem run_binOp_str (op : BinOp) (t : TypeId) (x y : Operand) (yt : TypeId) (m n : ByteArray) (ho : o.op = .binOp op t x y yt) (hx : a.eval x = .string m) (hy : a.eval y = .string n) (hb : bcls op = 2) :
    (execOp a.eval o).run P w = .ok (.value (.bool (Ar.std.sb op m n))) w := by
  cases op <;> simp only [bcls] at hb <;> first
    | (exfalso; revert hb; decide)
    | simp_all [execOp, eqGuard, binOp, Op.stringOp, Ar.std]
theorem evBin_ok {ar : Ar} (har : ar = Ar.std) (h : RelAt w0 im0 N D bm rm L a w) {op : BinOp} {t yt : TypeId} {x y : Operand} {R : List Nat} {z : Deed} {T : TypeId → Lay} (hT : ∀ t, LayOK P t (T t)) (hr : (evBin ar T N o op t x y).run L R = some z) (ho : o.op = .binOp op t x y yt) :
    Res P w0 im0 N D o a w (ovr z.1 L) := by
  subst har
  replace hr := opd_inv h hr; obtain ⟨u, R1, hu, hr⟩ := hr
  replace hr := opd_inv h hr; obtain ⟨v, R2, hv, hr⟩ := hr
  split at hr
  · rename_i m n
    have hx : a.eval x = .int .i64 m := hu.rep
    have hy : a.eval y = .int .i64 n := hv.rep
    obtain ⟨h0, h1, h2⟩ := run_binOp_i64 (P := P) (w := w) op t x y yt m n ho hx hy
    split at hr
    · rename_i hb
      exact res_put h (holds_pv (by simp [RepP])) hr (h0 hb)
    · rename_i hb
      cases hn : nzC y || Ar.std.nz n with
      | false => rw [hn] at hr; simp [AskR.run] at hr
      | true =>
        rw [hn] at hr
        refine res_put h (holds_pv (by simp [RepP])) hr (h1 hb ?_)
        simp only [Bool.or_eq_true] at hn
        rcases hn with hn | hn
        · cases y <;> simp only [nzC] at hn <;> try cases hn
          rename_i c
          simp only [Act.eval] at hy
          subst hy
          simpa [nzC] using hn
        · simpa [Ar.std] using hn
    · rename_i hb
      exact res_put h (holds_pv (by simp [RepP])) hr (h2 hb)
    · simp [AskR.run] at hr
  · rename_i m n
    have hx : a.eval x = .string m := hu.rep
    have hy : a.eval y = .string n := hv.rep
    split at hr
    · rename_i hb
      exact res_put h (holds_pv (by simp [RepP])) hr (run_binOp_str op t x y yt m n ho hx hy hb)
    · simp [AskR.run] at hr
  · rename_i b c
    have hx : a.eval x = .bool b := hu.rep
    have hy : a.eval y = .bool c := hv.rep
    cases hg : (T t).isBool with
    | false => rw [hg] at hr; simp [AskR.run] at hr
    | true =>
      rw [hg] at hr
      simp only [cond_true] at hr
      have hub : P.underlying t = some .bool := by
        have hl := hT t
        unfold LayOK layB at hl
        cases hTt : T t with
        | sc z =>
          rw [hTt] at hg hl
          cases z <;> simp only [Lay.isBool] at hg <;> try cases hg
          simp only [Bool.and_eq_true] at hl
          have h3 := hl.1.1.1
          cases hu : P.underlying t with
          | none => rw [hu] at h3; cases h3
          | some u => rw [hu] at h3; cases u <;> first | rfl | cases h3
        | _ => rw [hTt] at hg; simp [Lay.isBool] at hg
      split at hr
      · refine res_put (u := .bool (b == c)) h (holds_pv (by simp [RepP, Ar.std])) hr ?_
        simp only [execOp, ho, hx, hy, eqGuard, binOp, Sem.run_bind]
        simp [equal_bool hub]
      · refine res_put (u := .bool (!(b == c))) h (holds_pv (by simp [RepP, Ar.std])) hr ?_
        simp only [execOp, ho, hx, hy, eqGuard, binOp, Sem.run_bind]
        simp [equal_bool hub]
      · simp [AskR.run] at hr
  · rename_i xs ys
    obtain ⟨us, hx, hur⟩ := hu.rep
    obtain ⟨vs, hy, hvr⟩ := hv.rep
    split at hr
    · rename_i ps qs hps hqs
      have h1 := asPs_get hps
      have h2 := asPs_get hqs
      subst h1; subst h2
      cases hg : (T t).cmp && kindsB (T t).zero ps && kindsB (T t).zero qs with
      | false => rw [hg] at hr; simp [AskR.run] at hr
      | true =>
        rw [hg] at hr
        simp only [cond_true] at hr
        simp only [Bool.and_eq_true] at hg
        obtain ⟨r1, r2⟩ := run_cmp (o := o) (a := a) (yt := yt) (hT t) hg.1.1 hg.1.2 hg.2 (pure_back hur) (pure_back hvr) hx hy
        split at hr
        · exact res_put (u := .bool (eqPs ps qs)) h (holds_pv (by simp [RepP, Ar.std])) hr (r1 ho)
        · exact res_put (u := .bool (!(eqPs ps qs))) h (holds_pv (by simp [RepP, Ar.std])) hr (r2 ho)
        · simp [AskR.run] at hr
    · simp [AskR.run] at hr
  · simp [AskR.run] at hr
def evUn (ar : Ar) (N : NN) (o : Oper) (op : UnOp) (x : Operand) : Ask := opd x fun u => match op, u with
  | .not, .c (.p (.bool b)) => putA N o.dst (.c (.p (.bool (ar.nt b)))) []
  | .neg, .c (.p (.int .i64 n)) => putA N o.dst (.c (.p (.int .i64 (ar.ai .sub 0 n)))) []
  | _, _ => .fail
theorem evUn_ok {ar : Ar} (har : ar = Ar.std) (h : RelAt w0 im0 N D bm rm L a w) {op : UnOp} {t : TypeId} {x : Operand} {R : List Nat} {z : Deed} (hr : (evUn ar N o op x).run L R = some z) (ho : o.op = .unOp op t x) :
    Res P w0 im0 N D o a w (ovr z.1 L) := by
  subst har
  replace hr := opd_inv h hr; obtain ⟨u, R1, hu, hr⟩ := hr
  split at hr
  · rename_i b
    have hx : a.eval x = .bool b := hu.rep
    exact res_put (u := .bool (!b)) h (holds_pv (by simp [RepP, Ar.std])) hr (by simp [execOp, ho, hx, Op.unary])
  · rename_i n
    have hx : a.eval x = .int .i64 n := hu.rep
    exact res_put (u := .int .i64 (Ar.std.ai .sub 0 n)) h (holds_pv (by simp [RepP])) hr (by simp [execOp, ho, hx, Op.unary, Op.intArith, Ar.std])
  · simp [AskR.run] at hr
def evExtract (N : NN) (o : Oper) (x : Operand) (i : Nat) : Ask := opd x fun u => match u with
  | .c (.p (.tup vs)) => match vs[i]? with
    | some p => putA N o.dst (TV.ofPV p) []
    | none => .fail
  | _ => .fail
theorem evExtract_ok (h : RelAt w0 im0 N D bm rm L a w) {i : Nat} {x : Operand} {R : List Nat} {z : Deed} (hr : (evExtract N o x i).run L R = some z) (ho : o.op = .extract x i) : Res P w0 im0 N D o a w (ovr z.1 L) := by
  replace hr := opd_inv h hr; obtain ⟨u, R1, hu, hr⟩ := hr
  split at hr
  · rename_i vs
    obtain ⟨us, hx, hl⟩ : ∃ us : List Value, a.eval x = .tuple us.toArray ∧ RepL _ w vs us := by have := hu.rep; simpa only [RepT, RepV, RepP] using this
    split at hr
    · rename_i p hp
      obtain ⟨q, hq, hrep⟩ := hl.get hp
      refine res_put h (holds_of hrep) hr ?_
      simp [execOp, ho, hx, Instr.extract, hq]
    · simp [AskR.run] at hr
  · simp [AskR.run] at hr
def evMakeFunc (N : NN) (o : Oper) (f : Fn) (first captured : List Operand) : Ask := match first, captured with
  | [], [] => putA N o.dst (.c (.p (.fn f [] []))) []
  | [], [x] => opd x fun u => match u with
    | .c (.ptr k 0) => putA N o.dst (.c (.clo f [k])) []
    | .c (.p p) => bif (CV.p p).isCell then putA N o.dst (.c (.p (.fn f [] [p]))) [] else .fail
    | _ => .fail
  | [], [x, y] => opd x fun u => opd y fun v => match u, v with
    | .c (.ptr k 0), .c (.ptr l 0) => putA N o.dst (.c (.clo f [k, l])) []
    | _, _ => .fail
  | [], [x, y, z] => opd x fun u => opd y fun v => opd z fun t => match u, v, t with
    | .c (.ptr k 0), .c (.ptr l 0), .c (.ptr m 0) => putA N o.dst (.c (.clo f [k, l, m])) []
    | _, _, _ => .fail
  | [x], [] => opd x fun u => match u with
    | .agg cs => (match asPs cs with
      | some ps => putA N o.dst (.c (.p (.fn f [.agg ps] []))) []
      | none => .fail)
    | .c (.p p) => bif (CV.p p).isCell then putA N o.dst (.c (.p (.fn f [p] []))) [] else .fail
    | _ => .fail
  | _, _ => .fail
theorem evMakeFunc_ok (h : RelAt w0 im0 N D bm rm L a w) {f : Fn} {fi ca : Array Operand} {R : List Nat} {z : Deed} (hr : (evMakeFunc N o f fi.toList ca.toList).run L R = some z) (ho : o.op = .makeFunc f fi ca) : Res P w0 im0 N D o a w (ovr z.1 L) := by
  obtain ⟨fi⟩ := fi
  obtain ⟨ca⟩ := ca
  simp only at hr
  unfold evMakeFunc at hr
  split at hr
  · refine res_put h (holds_pv (u := .func f #[] #[]) (by simp [RepP, RepL])) hr ?_
    simp [execOp, ho, Instr.makeFunc]
  · rename_i x
    replace hr := opd_inv h hr; obtain ⟨u, R1, hu, hr⟩ := hr
    split at hr
    · rename_i k
      have hx : a.eval x = .pointer (some ⟨bm k, 0, none⟩) := hu.rep
      refine res_put (u := .func f #[] #[.pointer (some ⟨bm k, 0, none⟩)]) h ⟨by simp [RepT, RepV], by simpa [TV.boxes, CV.boxes] using hu.wb, by simp [TV.rows, CV.rows]⟩ hr ?_
      simp [execOp, ho, Instr.makeFunc, hx]
    · rename_i p
      cases hc : (CV.p p).isCell with
      | false => rw [hc] at hr; simp [AskR.run] at hr
      | true =>
        rw [hc] at hr
        refine res_put (u := .func f #[] #[a.eval x]) h (holds_pv ?_) hr ?_
        · simp only [RepP, RepL]
          exact ⟨[], [a.eval x], rfl, rfl, a.eval x, [], rfl, hu.rep, rfl⟩
        · simp [execOp, ho, Instr.makeFunc]
    · simp [AskR.run] at hr
  · rename_i x y
    replace hr := opd_inv h hr; obtain ⟨u, R1, hu, hr⟩ := hr
    replace hr := opd_inv h hr; obtain ⟨v, R1, hv, hr⟩ := hr
    split at hr
    · rename_i k l
      have hx : a.eval x = .pointer (some ⟨bm k, 0, none⟩) := hu.rep
      have hy : a.eval y = .pointer (some ⟨bm l, 0, none⟩) := hv.rep
      refine res_put (u := .func f #[] #[.pointer (some ⟨bm k, 0, none⟩), .pointer (some ⟨bm l, 0, none⟩)]) h ⟨by simp [RepT, RepV], ?_, by simp [TV.rows, CV.rows]⟩ hr ?_
      · have h1 := hu.wb; have h2 := hv.wb
        simp only [TV.boxes, CV.boxes, List.mem_singleton, forall_eq, List.mem_cons, List.not_mem_nil, or_false] at h1 h2 ⊢
        rintro q (rfl | rfl) <;> assumption
      · simp [execOp, ho, Instr.makeFunc, hx, hy]
    · simp [AskR.run] at hr
  · rename_i x y q
    replace hr := opd_inv h hr; obtain ⟨u, R1, hu, hr⟩ := hr
    replace hr := opd_inv h hr; obtain ⟨v, R1, hv, hr⟩ := hr
    replace hr := opd_inv h hr; obtain ⟨t, R1, ht, hr⟩ := hr
    split at hr
    · rename_i k l m
      have hx : a.eval x = .pointer (some ⟨bm k, 0, none⟩) := hu.rep
      have hy : a.eval y = .pointer (some ⟨bm l, 0, none⟩) := hv.rep
      have hz : a.eval q = .pointer (some ⟨bm m, 0, none⟩) := ht.rep
      refine res_put (u := .func f #[] #[.pointer (some ⟨bm k, 0, none⟩), .pointer (some ⟨bm l, 0, none⟩), .pointer (some ⟨bm m, 0, none⟩)]) h ⟨by simp [RepT, RepV], ?_, by simp [TV.rows, CV.rows]⟩ hr ?_
      · have h1 := hu.wb; have h2 := hv.wb; have h3 := ht.wb
        simp only [TV.boxes, CV.boxes, List.mem_singleton, forall_eq, List.mem_cons, List.not_mem_nil, or_false] at h1 h2 h3 ⊢
        rintro q (rfl | rfl | rfl) <;> assumption
      · simp [execOp, ho, Instr.makeFunc, hx, hy, hz]
    · simp [AskR.run] at hr
  · rename_i x
    replace hr := opd_inv h hr; obtain ⟨u, R1, hu, hr⟩ := hr
    split at hr
    · rename_i cs
      obtain ⟨us, hx, hrep⟩ := hu.rep
      split at hr
      · rename_i ps hps
        have := asPs_get hps
        subst this
        refine res_put (u := .func f #[.agg us.toArray] #[]) h (holds_pv ?_) hr ?_
        · simp only [RepP, RepL]
          exact ⟨[.agg us.toArray], [], rfl, ⟨_, _, rfl, ⟨us, rfl, pure_back hrep⟩, rfl⟩, rfl⟩
        · simp [execOp, ho, Instr.makeFunc, hx]
      · simp [AskR.run] at hr
    · rename_i p
      cases hc : (CV.p p).isCell with
      | false => rw [hc] at hr; simp [AskR.run] at hr
      | true =>
        rw [hc] at hr
        refine res_put (u := .func f #[a.eval x] #[]) h (holds_pv ?_) hr ?_
        · simp only [RepP, RepL]
          exact ⟨[a.eval x], [], rfl, ⟨a.eval x, [], rfl, hu.rep, rfl⟩, rfl⟩
        · simp [execOp, ho, Instr.makeFunc]
    · simp [AskR.run] at hr
  · simp [AskR.run] at hr
end
def nthC : List CV → Nat → Option CV
  | [], _ => none
  | c :: _, 0 => some c
  | _ :: r, n + 1 => nthC r n
theorem nthC_eq : ∀ (l : List CV) (n : Nat), nthC l n = l[n]?
  | [], n => by simp [nthC]
  | c :: _, 0 => by simp [nthC]
  | _ :: r, n + 1 => by simp [nthC, nthC_eq r n]
def loadCs (l : Lay) (cs : List CV) (off : Nat) : Option TV :=
  bif l.known then
    (bif l.isAgg then (bif Nat.ble (off + l.size) cs.length then some (.agg ((cs.drop off).take l.size)) else none)
     else match nthC cs off with | some c => some (.c c) | none => none)
  else none
section
variable {P : Program} {w0 : World} {im0 : Nat → Prop} {N : NN} {D : Env} {bm : Nat → Nat} {rm : Nat → Value} {L : Lk} {a : Act} {w w' : World} {o : Oper} {im : Nat → Prop}
theorem rangeAt_row {b : Nat} {us : List Value} {ty : TypeId} {fr : Nat × Nat} (h : w.heap[b]? = some (.cells us.toArray ty fr)) : w.rangeAt b 0 us := fun j v hv => by
  rw [Nat.zero_add, cell_of_row w b j _ ty fr h]; simpa using hv
theorem rangeAt_drop {b o n : Nat} {us : List Value} (h : w.rangeAt b o us) : w.rangeAt b (o + n) (us.drop n) := fun j v hv => by
  rw [List.getElem?_drop] at hv
  have := h (n + j) v hv
  rwa [← Nat.add_assoc] at this
theorem rangeAt_take {b o n : Nat} {us : List Value} (h : w.rangeAt b o us) : w.rangeAt b o (us.take n) := fun j v hv => by
  rw [List.getElem?_take] at hv
  split at hv
  · exact h j v hv
  · cases hv
theorem flat_sub {α : Type} {f : CV → List α} {l l' : List CV} (h : ∀ c ∈ l', c ∈ l) : ∀ k ∈ l'.flatMap f, k ∈ l.flatMap f := fun k hk => by
  obtain ⟨c, hc, hk⟩ := List.mem_flatMap.1 hk
  exact List.mem_flatMap.2 ⟨c, h c hc, hk⟩
theorem load_run {t : TypeId} {l : Lay} (hl : LayOK P t l) {b o' off : Nat} {us : List Value} {cs : List CV} {v : TV} (hr : w.rangeAt b o' us) (hv : RepVs bm rm im w cs us) (h : loadCs l cs off = some v) :
    ∃ u, (loadVar t ⟨b, o' + off, none⟩).run P w = .ok u w ∧ RepT bm rm im w v u ∧ (∀ k ∈ v.boxes, k ∈ cs.flatMap CV.boxes) ∧ (∀ k ∈ v.rows, k ∈ cs.flatMap CV.rows) := by
  unfold loadCs at h
  cases hk : l.known with
  | false => simp [hk] at h
  | true =>
    simp only [hk, cond_true] at h
    obtain ⟨hagg, d, hu, hd⟩ := aggB_run (lay_agg hl hk) w
    obtain ⟨i, hi, hs⟩ := sizeB_info (lay_size hl hk)
    cases hg : l.isAgg with
    | true =>
      simp only [hg, cond_true] at h
      cases hle : Nat.ble (off + l.size) cs.length with
      | false => simp [hle] at h
      | true =>
        simp only [hle, cond_true, Option.some.injEq] at h
        subst h
        have hle : off + l.size ≤ cs.length := by simpa [Nat.ble_eq] using hle
        have hlen := hv.len
        have hsz : ((us.drop off).take l.size).length = l.size := by simp; omega
        have := run_loadVar_mid (P := P) w b (o' + off) t ((us.drop off).take l.size) d (rangeAt_take (rangeAt_drop hr)) hu (by rw [hd, hg]) (by simp [hi, hs, hsz])
        refine ⟨_, this, ⟨_, rfl, (hv.drop off).take l.size⟩, ?_, ?_⟩
        · exact flat_sub fun c hc => List.mem_of_mem_drop (List.mem_of_mem_take hc)
        · exact flat_sub fun c hc => List.mem_of_mem_drop (List.mem_of_mem_take hc)
    | false =>
      simp only [hg, cond_false, nthC_eq] at h
      cases hc : cs[off]? with
      | none => simp [hc] at h
      | some c =>
        simp only [hc, Option.some.injEq] at h
        subst h
        obtain ⟨u, hu', hrep⟩ := hv.get hc
        have hcell := hr off u hu'
        refine ⟨u, ?_, hrep, ?_, ?_⟩
        · rw [hg] at hagg
          simp [loadVar, hagg, hcell]
        · exact fun k hk => List.mem_flatMap.2 ⟨c, List.mem_of_getElem? hc, hk⟩
        · exact fun k hk => List.mem_flatMap.2 ⟨c, List.mem_of_getElem? hc, hk⟩
def behind {β : Type} (ar : Ar) (v : TV) (l : Lay) (f : TV → AskR β) : AskR β := match v with
  | .c (.ptr k off) => .get (kB k) fun c => match c with
    | .box _ cs => match loadCs l cs off with
      | some v => f v
      | none => .fail
    | _ => .fail
  | .c (.p (.ptr cs)) => match loadCs l (cs.map .p) 0 with
    | some v => f v
    | none => .fail
  | .c (.rptr r q i off) => .get (kR r) fun c => match c with
    | .row _ k es => bif Nat.beq q k then (match ar.ix es i with
      | some e => match loadCs l (e.map .p) off with
        | some v => f v
        | none => .fail
      | none => .fail) else .fail
    | _ => .fail
  | .c (.aptr k off len i) => .get (kB k) fun c => match c with
    | .box _ cs => bif l.known && !l.isAgg && Nat.ble (off + len) cs.length then (match asInts ((cs.drop off).take len) with
      | some xs => f (.c (.p (.int .i64 (ar.fi xs i))))
      | none => .fail) else .fail
    | _ => .fail
  | _ => .fail
def evLoad (ar : Ar) (T : TypeId → Lay) (N : NN) (o : Oper) (t : TypeId) (x : Operand) : Ask := opd x fun p => behind ar p (T t) fun v => putA N o.dst v []
theorem asInts_get : ∀ {cs : List CV} {xs : List Int}, asInts cs = some xs → xs.length = cs.length ∧ ∀ (i : Nat) (x : Int), xs[i]? = some x → cs[i]? = some (CV.p (.int .i64 x))
  | [], xs, h => by simp [asInts] at h; subst h; simp
  | c :: cs, xs, h => by
    unfold asInts at h
    split at h
    · rename_i heq; cases heq
    · rename_i n r heq
      cases heq
      cases hr : asInts cs with
      | none => rw [hr] at h; simp at h
      | some ys =>
        rw [hr] at h
        simp only [Option.map_some, Option.some.injEq] at h
        subst h
        obtain ⟨h1, h2⟩ := asInts_get hr
        refine ⟨by simp [h1], fun i x hx => ?_⟩
        cases i with
        | zero => simp at hx; subst hx; rfl
        | succ i => simpa using h2 i x (by simpa using hx)
    · cases h
theorem behind_ok {β : Type} {ar : Ar} (har : ar = Ar.std) {T : TypeId → Lay} {t : TypeId} (hT : LayOK P t (T t)) (h : RelAt w0 im0 N D bm rm L a w) {p : TV} {u : Value} {f : TV → AskR β} {R : List Nat} {y : β × List Nat} (hp : Holds w0 im0 bm rm L w p u)
    (hr : (behind ar p (T t) f).run L R = some y) : ∃ v x R', (Instr.loadAt t u).run P w = .ok x w ∧ Holds w0 im0 bm rm L w v x ∧ (f v).run L R' = some y := by
  subst har
  unfold behind at hr
  split at hr
  · rename_i k off
    have hu : u = .pointer (some ⟨bm k, off, none⟩) := hp.rep
    simp only [AskR.run] at hr
    split at hr
    · rename_i ty cs hc
      split at hr
      · rename_i v hv
        obtain ⟨us, hus, hrep, _⟩ := h.boxes k ty cs hc
        obtain ⟨x, hx, hxr, hb, hrw⟩ := load_run hT (rangeAt_row hus) hrep hv
        refine ⟨v, x, _, ?_, ⟨hxr, fun q hq => h.wfb (kB k) q (by rw [hc]; exact hb q hq), fun q hq => h.wfr (kB k) q (by rw [hc]; exact hrw q hq)⟩, hr⟩
        subst hu
        simpa [Instr.loadAt, Instr.sureAddr] using hx
      · simp [AskR.run] at hr
    · simp [AskR.run] at hr
  · rename_i cs
    obtain ⟨b, o', us, hu, hb, hrg, hrep⟩ : ∃ b o' us, u = .pointer (some ⟨b, o', none⟩) ∧ _ ∧ w.rangeAt b o' us ∧ RepL _ w cs us := by have := hp.rep; simpa only [RepT, RepV, RepP] using this
    split at hr
    · rename_i v hv
      obtain ⟨x, hx, hxr, hb, hrw⟩ := load_run (bm := bm) (rm := rm) hT hrg (RepVs.pure hrep) hv
      refine ⟨v, x, _, ?_, ⟨hxr, fun q hq => ?_, fun q hq => ?_⟩, hr⟩
      · subst hu
        simpa [Instr.loadAt, Instr.sureAddr] using hx
      · have := hb q hq; simp [CV.boxes, List.flatMap_map] at this
      · have := hrw q hq; simp [CV.rows, List.flatMap_map] at this
    · simp [AskR.run] at hr
  · rename_i r q i off
    obtain ⟨b, hb, hi, hu⟩ : ∃ b, (rm r).ownBlock = some b ∧ 0 ≤ i ∧ u = .pointer (some ⟨b, i.toNat * q + off, none⟩) := hp.rep
    simp only [AskR.run] at hr
    split at hr
    · rename_i e k es hc
      cases hq : Nat.beq q k with
      | false => simp [hq, AskR.run] at hr
      | true =>
        have := Nat.eq_of_beq_eq_true hq
        subst this
        simp only [hq, cond_true] at hr
        split at hr
        · rename_i el hel
          split at hr
          · rename_i v hv
            obtain ⟨xs, hx, hl, hk⟩ := h.rows r e q es hc
            have hcells := hx.cells hb
            have hrg : w.rangeAt b 0 xs := fun j v hv => by
              have := hcells j v hv
              rwa [Addr.add_mid] at this
            have hE := RepE.of_flat hk.1 hrg hk.2 hl
            have hel' : es[i.toNat]? = some el := by simpa [Ar.std, hi] using hel
            obtain ⟨us, hul, _, hur, hurep⟩ := hE.get hel'
            rw [Nat.zero_add] at hur
            obtain ⟨x, hx', hxr, hb', hrw⟩ := load_run (bm := bm) (rm := rm) hT hur (RepVs.pure hurep) hv
            refine ⟨v, x, _, ?_, ⟨hxr, fun q hq => ?_, fun q hq => ?_⟩, hr⟩
            · subst hu
              simpa [Instr.loadAt, Instr.sureAddr] using hx'
            · have := hb' q hq; simp [CV.boxes, List.flatMap_map] at this
            · have := hrw q hq; simp [CV.rows, List.flatMap_map] at this
          · simp [AskR.run] at hr
        · simp [AskR.run] at hr
    · simp [AskR.run] at hr
  · rename_i k off len i
    obtain ⟨hi0, hil, hu⟩ : 0 ≤ i ∧ i < len ∧ u = .pointer (some ⟨bm k, off + i.toNat, none⟩) := hp.rep
    simp only [AskR.run] at hr
    split at hr
    · rename_i ty cs hc
      cases hg : (T t).known && !(T t).isAgg && Nat.ble (off + len) cs.length with
      | false => rw [hg] at hr; simp [AskR.run] at hr
      | true =>
        rw [hg] at hr
        simp only [cond_true] at hr
        simp only [Bool.and_eq_true, Bool.not_eq_true', Nat.ble_eq] at hg
        obtain ⟨⟨hk, hna⟩, hle⟩ := hg
        split at hr
        · rename_i xs hxs
          obtain ⟨us, hus, hrep, _⟩ := h.boxes k ty cs hc
          obtain ⟨hxl, hxg⟩ := asInts_get hxs
          have hlen : xs.length = len := by rw [hxl]; simp; omega
          have hin : i.toNat < xs.length := by omega
          have hcx := hxg i.toNat xs[i.toNat] (List.getElem?_eq_getElem hin)
          rw [List.getElem?_take_of_lt (by omega), List.getElem?_drop] at hcx
          obtain ⟨y', hy', hrepy⟩ := hrep.get hcx
          have hy2 : y' = .int .i64 xs[i.toNat] := hrepy
          subst hy2
          have hcell := rangeAt_row hus (off + i.toNat) _ hy'
          obtain ⟨hagg, _⟩ := aggB_run (lay_agg hT hk) w
          rw [hna] at hagg
          refine ⟨_, .int .i64 xs[i.toNat], _, ?_, holds_pv (by simp [RepP, Ar.std, List.getD, List.getElem?_eq_getElem hin]), hr⟩
          subst hu
          rw [Nat.zero_add] at hcell
          simp [Instr.loadAt, Instr.sureAddr, loadVar, hagg, hcell]
        · simp [AskR.run] at hr
    · simp [AskR.run] at hr
  · simp [AskR.run] at hr
theorem evLoad_ok {ar : Ar} (har : ar = Ar.std) {T : TypeId → Lay} (hT : ∀ t, LayOK P t (T t)) (h : RelAt w0 im0 N D bm rm L a w) {t : TypeId} {x : Operand} {R : List Nat} {y : Deed} (hr : (evLoad ar T N o t x).run L R = some y) (ho : o.op = .load t x) : Res P w0 im0 N D o a w (ovr y.1 L) := by
  replace hr := opd_inv h hr; obtain ⟨p, R1, hp, hr⟩ := hr
  obtain ⟨v, u, R2, hrun, hv, hr⟩ := behind_ok har (hT t) h hp hr
  exact res_put h hv hr (by simp [execOp, ho, hrun])
def evAlloc (T : TypeId → Lay) (N : NN) (o : Oper) (e : TypeId) : Ask := match o.dst with
  | some d => .get (kB d) fun c => match c with
    | .none => bif (T e).known && okS N d then .done [(kT d, .t (.c (.ptr d 0))), (kB d, .box e ((T e).zero.map .p))] else .fail
    | _ => .fail
  | none => .fail
theorem new_var (h : RelAt w0 im0 N D bm rm L a w) {d : Nat} {e : TypeId} {cs : List CV} {us : List Value} (hd : o.dst = some d) (hN : okS N d = true) (hn : L (kB d) = .none)
    (hv : RepVs bm rm (imOf w0.heap.size im0 bm rm L w) w cs us) (hb : ∀ k ∈ cs.flatMap CV.boxes, L (kB k) ≠ .none) (hr : ∀ t ∈ cs.flatMap CV.rows, L (kR t) ≠ .none)
    (he : (execOp a.eval o).run P w = .ok (.value (.pointer (some ⟨w.heap.size, 0, none⟩))) (w.alloc (.cells us.toArray e))) : Res P w0 im0 N D o a w (ovr [(kT d, .t (.c (.ptr d 0))), (kB d, .box e cs)] L) := by
  have h' := h.newBox (ty := e) hn hv hb hr
  refine ⟨_, .inl ⟨_, he, ?_⟩⟩
  rw [ovr_cons, hd]
  exact ⟨_, _, h'.put hN (by simp [RepT, RepV, updN_same]) (fun k hk => by simp only [TV.boxes, CV.boxes, List.mem_singleton] at hk; subst hk; rw [ovrB_B, if_pos rfl]; simp) (by simp [TV.rows, CV.rows])⟩
theorem evAlloc_ok {T : TypeId → Lay} (hT : ∀ t, LayOK P t (T t)) (h : RelAt w0 im0 N D bm rm L a w) {e : TypeId} {R : List Nat} {y : Deed} (hr : (evAlloc T N o e).run L R = some y) (ho : o.op = .alloc e) : Res P w0 im0 N D o a w (ovr y.1 L) := by
  unfold evAlloc at hr
  split at hr
  · rename_i d hd
    simp only [AskR.run] at hr
    split at hr
    · rename_i hc
      cases hg : (T e).known && okS N d with
      | false => rw [hg] at hr; simp [AskR.run] at hr
      | true =>
        rw [hg] at hr
        simp only [cond_true, AskR.run, Option.some.injEq] at hr
        subst hr
        simp only [Bool.and_eq_true] at hg
        obtain ⟨v, hz, hrep, hone, i, hi, hiz⟩ := zeroOfB_run (lay_zero (hT e) hg.1) w
        refine new_var (us := v.cells.toList) h hd (by simpa [Nat.blt_eq] using hg.2) hc (RepVs.pure (hrep _ _)) (by simp [CV.boxes, List.flatMap_map]) (by simp [CV.rows, List.flatMap_map]) ?_
        simp [execOp, ho, Instr.alloc, hz, newVar, newRow]
    · simp [AskR.run] at hr
  · simp [AskR.run] at hr
def evBox (N : NN) (o : Oper) (e : TypeId) (x : Operand) : Ask := match o.dst with
  | some d => .get (kB d) fun c => match c with
    | .none => bif okS N d then (opd x fun v => match v.cells with
      | some cs => .done [(kT d, .t (.c (.ptr d 0))), (kB d, .box e cs)]
      | none => .fail) else .fail
    | _ => .fail
  | none => .fail
theorem evBox_ok (h : RelAt w0 im0 N D bm rm L a w) {e : TypeId} {x : Operand} {R : List Nat} {y : Deed} (hr : (evBox N o e x).run L R = some y) (ho : o.op = .box e x) : Res P w0 im0 N D o a w (ovr y.1 L) := by
  unfold evBox at hr
  split at hr
  · rename_i d hd
    simp only [AskR.run] at hr
    split at hr
    · rename_i hc
      cases hg : okS N d with
      | false => rw [hg] at hr; simp [AskR.run] at hr
      | true =>
        rw [hg] at hr
        simp only [cond_true] at hr
        replace hr := opd_inv h hr; obtain ⟨v, R1, hv, hr⟩ := hr
        split at hr
        · rename_i cs hcs
          simp only [AskR.run, Option.some.injEq] at hr
          subst hr
          obtain ⟨h1, h2, h3, h4⟩ := TV.cells_rep hcs hv.rep
          refine new_var h hd (by simpa [Nat.blt_eq] using hg) hc h1 (by rw [h3]; exact hv.wb) (by rw [h4]; exact hv.wr) ?_
          simp [execOp, ho, Instr.box, newVar, newRow]
        · simp [AskR.run] at hr
    · simp [AskR.run] at hr
  · simp [AskR.run] at hr
def updC (fu : Int → Nat → Int → Int → Int) (i x : Int) : Nat → List Int → List CV
  | _, [] => []
  | j, y :: r => .p (.int .i64 (fu i j x y)) :: updC fu i x (j + 1) r
def evStore (ar : Ar) (T : TypeId → Lay) (o : Oper) (t : TypeId) (x y : Operand) : Ask := opd x fun p => opd y fun v => match o.dst, p, v.cells with
  | none, .c (.rptr r q i off), some vs => .get (kR r) fun c => match c with
    | .row e k es => match ar.ix es i, asPs vs with
      | some el, some ps => bif (T t).known && Nat.beq q k && Nat.beq vs.length (T t).size && Nat.ble (off + ps.length) k then .done [(kR r, .row e k (ar.up es i (el.take off ++ ps ++ el.drop (off + ps.length))))] else .fail
      | _, _ => .fail
    | _ => .fail
  | none, .c (.aptr k off len i), some [.p (.int .i64 n)] => .get (kB k) fun c => match c with
    | .box ty cs => bif (T t).known && Nat.beq 1 (T t).size && Nat.ble (off + len) cs.length then (match asInts ((cs.drop off).take len) with
      | some xs => .done [(kB k, .box ty (cs.take off ++ updC ar.fu i n 0 xs ++ cs.drop (off + len)))]
      | none => .fail) else .fail
    | _ => .fail
  | none, .c (.ptr k off), some vs => .get (kB k) fun c => match c with
    | .box ty cs => bif (T t).known && Nat.beq vs.length (T t).size && Nat.ble (off + vs.length) cs.length then .done [(kB k, .box ty (cs.take off ++ vs ++ cs.drop (off + vs.length)))] else .fail
    | _ => .fail
  | _, _, _ => .fail
theorem vflat_set {k : Nat} : ∀ {es : List (List PV)} {i : Nat} {el el' : List PV}, (∀ z ∈ es, z.length = k) → es[i]? = some el → el'.length = k →
    (es.set i el').flatten = es.flatten.take (i * k) ++ el' ++ es.flatten.drop (i * k + k)
  | [], i, el, el', _, h, _ => by simp at h
  | e :: es, 0, el, el', hk, h, hl => by
    have he := hk e (by simp)
    simp [← he]
  | e :: es, i + 1, el, el', hk, h, hl => by
    have he := hk e (by simp)
    have := vflat_set (es := es) (i := i) (fun z hz => hk z (by simp [hz])) (by simpa using h) hl
    simp only [List.set_cons_succ, List.flatten_cons, this]
    have e1 : (i + 1) * k = e.length + i * k := by rw [he, Nat.add_mul]; omega
    rw [e1, List.take_length_add_append, Nat.add_assoc, List.drop_length_add_append]
    simp [List.append_assoc]
theorem vflat_at {k : Nat} : ∀ {es : List (List PV)} {i : Nat} {el : List PV}, (∀ z ∈ es, z.length = k) → es[i]? = some el → (es.flatten.drop (i * k)).take k = el
  | [], i, el, _, h => by simp at h
  | e :: es, 0, el, hk, h => by
    have he := hk e (by simp)
    simp at h
    subst h
    simp [← he]
  | e :: es, i + 1, el, hk, h => by
    have he := hk e (by simp)
    have := vflat_at (es := es) (i := i) (fun z hz => hk z (by simp [hz])) (by simpa using h)
    have e1 : (i + 1) * k = e.length + i * k := by rw [he, Nat.add_mul]; omega
    simp only [List.flatten_cons]
    rw [e1, List.drop_length_add_append]
    exact this
theorem vflat_len {k : Nat} : ∀ {es : List (List PV)}, (∀ e ∈ es, e.length = k) → es.flatten.length = es.length * k
  | [], _ => by simp
  | e :: es, h => by
    have := vflat_len (es := es) fun x hx => h x (by simp [hx])
    have he := h e (by simp)
    simp only [List.flatten_cons, List.length_append, List.length_cons, this, he, Nat.add_mul]
    omega
theorem res_setRow (h : RelAt w0 im0 N D bm rm L a w) {t : TypeId} {x y : Operand} {r q off b : Nat} {i : Int} {e : TypeId} {es : List (List PV)} {el ps : List PV} {xs : List Value} {s : Nat} (hd : o.dst = none) (ho : o.op = .store t x y) (hc : L (kR r) = .row e q es) (hb : (rm r).ownBlock = some b)
    (hx : a.eval x = .pointer (some ⟨b, i.toNat * q + off, none⟩)) (hel : es[i.toNat]? = some el) (hown : w.ownsRow w0.heap.size e q (rm r) es.length xs) (hl : RepL (imOf w0.heap.size im0 bm rm L w) w es.flatten xs) (hkk : ∀ z ∈ es, z.length = q) (hone : ∀ u ∈ xs, u.oneCell' = true)
    (hlv : (a.eval y).cells.toList.length = s) (hle : off + ps.length ≤ q) (h1 : RepL (imOf w0.heap.size im0 bm rm L w) w ps (a.eval y).cells.toList) (h2 : ∀ u ∈ (a.eval y).cells.toList, u.oneCell' = true) (hsz : sizeB P t s = true) (hps : ps.length = s) :
    Res P w0 im0 N D o a w (ovr [(kR r, .row e q (Ar.std.up es i (el.take off ++ ps ++ el.drop (off + ps.length))))] L) := by
  obtain ⟨hxl, hor⟩ := hown
  rcases hor with ⟨hv, h0⟩ | ⟨g, cap, cur, hv, hbg, hgg, hcap, hm, hcs, htake⟩
  · rw [hv] at hb; simp [Value.ownBlock] at hb
  · have hbg' : b = g := by rw [hv] at hb; simpa [Value.ownBlock] using hb.symm
    subst hbg'
    have hilt := (List.getElem?_eq_some_iff.1 hel).1
    have hell := hkk el (List.mem_of_getElem? hel)
    have hrow : i.toNat * q + q ≤ es.length * q := by rw [← Nat.succ_mul]; exact Nat.mul_le_mul_right _ hilt
    have hcapq : es.length * q ≤ cap * q := Nat.mul_le_mul_right _ hcap
    have hst := run_storeCells_at P b (i.toNat * q + off) e (a.eval y).cells.toList 0 cur w hgg (by rw [hcs]; omega) h2
    simp only [Nat.add_zero] at hst
    have hrun : (execOp a.eval o).run P w = .ok .skip (w.setRow b (cur.toList.take (i.toNat * q + off) ++ (a.eval y).cells.toList ++ cur.toList.drop (i.toNat * q + off + (a.eval y).cells.toList.length)).toArray) := by
      have hs := sizeB_run hsz w
      have hne : (a.eval y).cells.size = s := by rw [← hlv]; simp
      simp only [execOp, ho, hx, Instr.storeAt, Instr.sureAddr, storeVar, Sem.run_bind, Sem.run_pure, Result.andThen_ok, hs, hne]
      simp [hst]
    refine ⟨_, .inr ⟨hrun, bm, rm, ?_⟩⟩
    rw [hd]
    have hup : Ar.std.up es i (el.take off ++ ps ++ el.drop (off + ps.length)) = es.set i.toNat (el.take off ++ ps ++ el.drop (off + ps.length)) := rfl
    have hnl : (el.take off ++ ps ++ el.drop (off + ps.length)).length = q := by simp; omega
    have hflat := vflat_set hkk hel hnl
    have hfa := vflat_at hkk hel
    have hfl := vflat_len hkk
    rw [hup]
    have hcl : cur.toList.length = cap * q := by simpa using hcs
    refine h.setRow (xs := xs.take (i.toNat * q + off) ++ (a.eval y).cells.toList ++ xs.drop (i.toNat * q + off + s)) hc ⟨rfl, rfl, rfl, by simp, fun k hk hne => setRow_other w b k _ (fun e => hne (by rw [hb, e]))⟩ (by simp) ?_ ?_ ⟨?_, ?_⟩
    · refine ⟨?_, .inr ⟨b, cap, _, by simpa using hv, hbg, setRow_heap w b _ _ e _ hgg, by simpa using hcap, hm, ?_, ?_⟩⟩
      · simp only [List.length_set, List.length_append, List.length_take, List.length_drop, hlv, hxl]; omega
      · simp only [List.size_toArray, List.length_append, List.length_take, List.length_drop, hlv, hcl]; omega
      · simp only [List.length_set, hlv]
        rw [← htake, List.take_append, List.take_append, List.take_take, List.drop_take, List.take_take]
        simp only [List.length_append, List.length_take, hlv, hcl]
        rw [show min (es.length * q) (i.toNat * q + off) = i.toNat * q + off by omega, show min (i.toNat * q + off) (cap * q) = i.toNat * q + off by omega, List.take_of_length_le (l := (a.eval y).cells.toList) (by rw [hlv]; omega)]
        congr 1
        rw [show min (i.toNat * q + off) (es.length * q) = i.toNat * q + off by omega]
    · rw [hflat]
      have e1 : es.flatten.take (i.toNat * q) ++ (el.take off ++ ps ++ el.drop (off + ps.length)) ++ es.flatten.drop (i.toNat * q + q) = es.flatten.take (i.toNat * q + off) ++ ps ++ es.flatten.drop (i.toNat * q + off + s) := by
        have a1 : es.flatten.take (i.toNat * q + off) = es.flatten.take (i.toNat * q) ++ el.take off := by
          rw [List.take_add, ← hfa, List.take_take, show min off q = off by omega]
        have a2 : es.flatten.drop (i.toNat * q + off + s) = el.drop (off + ps.length) ++ es.flatten.drop (i.toNat * q + q) := by
          rw [← hfa, hps, List.drop_take, List.drop_drop, ← Nat.add_assoc]
          have : es.flatten.drop (i.toNat * q + q) = (es.flatten.drop (i.toNat * q + off + s)).drop (q - (off + s)) := by rw [List.drop_drop]; congr 1; omega
          rw [this, List.take_append_drop]
        rw [a1, a2]; simp [List.append_assoc]
      rw [e1]
      exact ((hl.take _).append h1).append (hl.drop _)
    · intro z hz
      rcases List.mem_or_eq_of_mem_set hz with hz | rfl
      · exact hkk z hz
      · exact hnl
    · intro u hu
      simp only [List.mem_append] at hu
      rcases hu with (hu | hu) | hu
      · exact hone u (List.mem_of_mem_take hu)
      · exact h2 u hu
      · exact hone u (List.mem_of_mem_drop hu)
theorem updC_rep {fu : Int → Nat → Int → Int → Int} (hfu : ∀ i j x y, fu i j x y = if i = (j : Int) then x else y) {i n : Int} : ∀ (xs : List Int) (j : Nat), (j : Int) ≤ i → i < j + xs.length →
    RepVs bm rm im w (updC fu i n j xs) ((xs.map (Value.int .i64)).take (i.toNat - j) ++ [.int .i64 n] ++ (xs.map (Value.int .i64)).drop (i.toNat - j + 1)) ∧ (updC fu i n j xs).flatMap CV.boxes = [] ∧ (updC fu i n j xs).flatMap CV.rows = []
  | [], j, h1, h2 => by simp at h2; omega
  | y :: xs, j, h1, h2 => by
    have rest : ∀ (xs : List Int) (j : Nat), i < (j : Int) → RepVs bm rm im w (updC fu i n j xs) (xs.map (Value.int .i64)) ∧ (updC fu i n j xs).flatMap CV.boxes = [] ∧ (updC fu i n j xs).flatMap CV.rows = [] := by
      intro xs
      induction xs with
      | nil => intro j _; simp [updC, RepVs]
      | cons y xs ih =>
        intro j hj
        obtain ⟨a1, a2, a3⟩ := ih (j + 1) (by omega)
        refine ⟨⟨_, _, rfl, ?_, a1⟩, by simp [updC, CV.boxes, a2], by simp [updC, CV.rows, a3]⟩
        simp only [RepV, RepP]; rw [hfu, if_neg (by omega)]
    by_cases hij : i = (j : Int)
    · obtain ⟨a1, a2, a3⟩ := rest xs (j + 1) (by omega)
      have : i.toNat - j = 0 := by omega
      rw [this]
      refine ⟨?_, by simp [updC, CV.boxes, a2], by simp [updC, CV.rows, a3]⟩
      simp only [updC, List.map_cons, List.take_zero, List.nil_append, Nat.zero_add, List.drop_succ_cons, List.drop_zero, List.singleton_append]
      exact ⟨_, _, rfl, by simp only [RepV, RepP]; rw [hfu, if_pos hij], a1⟩
    · obtain ⟨a1, a2, a3⟩ := updC_rep hfu (i := i) (n := n) xs (j + 1) (by omega) (by simp at h2; omega)
      have : i.toNat - j = (i.toNat - (j + 1)) + 1 := by omega
      rw [this]
      refine ⟨?_, by simp [updC, CV.boxes, a2], by simp [updC, CV.rows, a3]⟩
      simp only [updC, List.map_cons, List.take_succ_cons, List.drop_succ_cons, List.cons_append]
      exact ⟨_, _, rfl, by simp only [RepV, RepP]; rw [hfu, if_neg (by omega)], a1⟩
theorem ints_of_asInts : ∀ {cs : List CV} {us : List Value} {xs : List Int}, asInts cs = some xs → RepVs bm rm im w cs us → us = xs.map (Value.int .i64)
  | [], us, xs, h, hv => by simp [asInts] at h; subst h; simpa [RepVs] using hv
  | c :: cs, us, xs, h, hv => by
    unfold asInts at h
    split at h
    · rename_i heq; cases heq
    · rename_i n r heq
      cases heq
      cases hr : asInts cs with
      | none => rw [hr] at h; simp at h
      | some ys =>
        rw [hr] at h
        simp only [Option.map_some, Option.some.injEq] at h
        subst h
        obtain ⟨x, r, rfl, h1, h2⟩ := hv
        simp only [RepV, RepP] at h1
        rw [h1, ints_of_asInts hr h2]; rfl
    · cases h
theorem res_setArr (h : RelAt w0 im0 N D bm rm L a w) {t : TypeId} {x y : Operand} {k off len : Nat} {i n : Int} {ty : TypeId} {cs : List CV} {xs : List Int} {s : Nat} {v : TV} (hd : o.dst = none) (ho : o.op = .store t x y) (hc : L (kB k) = .box ty cs) (hi0 : 0 ≤ i) (hil : i < len)
    (hx : a.eval x = .pointer (some ⟨bm k, off + i.toNat, none⟩)) (hle : off + len ≤ cs.length) (hints : asInts ((cs.drop off).take len) = some xs) (hvs : v.cells = some [.p (.int .i64 n)]) (hv : Holds w0 im0 bm rm L w v (a.eval y)) (hsz : sizeB P t s = true) (hs1 : 1 = s) :
    Res P w0 im0 N D o a w (ovr [(kB k, .box ty (cs.take off ++ updC Ar.std.fu i n 0 xs ++ cs.drop (off + len)))] L) := by
  obtain ⟨us, hus, hrep, hn⟩ := h.boxes k ty cs hc
  obtain ⟨h1, h2, _, _⟩ := TV.cells_rep hvs hv.rep
  have hyv : (a.eval y).cells.toList = [.int .i64 n] := by
    obtain ⟨u, r, hu, hr, hr2⟩ := h1
    simp only [RepV, RepP] at hr
    simp only [RepVs] at hr2
    rw [hu, hr, hr2]
  have hlu := hrep.len
  have hxs := ints_of_asInts hints ((hrep.drop off).take len)
  have hxl : xs.length = len := by have := (asInts_get hints).1; simp at this; omega
  have hst := run_storeCells_at P (bm k) (off + i.toNat) ty (a.eval y).cells.toList 0 us.toArray w hus (by rw [hyv]; simp; omega) h2
  simp only [Nat.add_zero] at hst
  have hrun : (execOp a.eval o).run P w = .ok .skip (w.setRow (bm k) (us.take (off + i.toNat) ++ (a.eval y).cells.toList ++ us.drop (off + i.toNat + (a.eval y).cells.toList.length)).toArray) := by
    have hs := sizeB_run hsz w
    have hne : (a.eval y).cells.size = s := by rw [← hs1]; have := congrArg List.length hyv; simpa using this
    simp only [execOp, ho, hx, Instr.storeAt, Instr.sureAddr, storeVar, Sem.run_bind, Sem.run_pure, Result.andThen_ok, hs, hne]
    simp [hst]
  obtain ⟨u1, u2, u3⟩ := updC_rep (bm := bm) (rm := rm) (im := imOf w0.heap.size im0 bm rm L w) (w := w) (fu := Ar.std.fu) (fun _ _ _ _ => rfl) (i := i) (n := n) xs 0 hi0 (by rw [hxl]; omega)
  refine ⟨_, .inr ⟨hrun, bm, rm, ?_⟩⟩
  rw [hd]
  refine h.setBox hc ?_ ?_ ?_ rfl rfl rfl (by simp) (setRow_heap w (bm k) _ _ ty _ hus) (fun b hb => setRow_other w (bm k) b _ hb)
  · rw [hyv]
    have e1 : us.take (off + i.toNat) ++ [Value.int .i64 n] ++ us.drop (off + i.toNat + [Value.int .i64 n].length) = us.take off ++ ((xs.map (Value.int .i64)).take (i.toNat - 0) ++ [.int .i64 n] ++ (xs.map (Value.int .i64)).drop (i.toNat - 0 + 1)) ++ us.drop (off + len) := by
      rw [← hxs, Nat.sub_zero, List.take_take, show min i.toNat len = i.toNat by omega, List.take_add, List.drop_take, List.drop_drop]
      have : us.drop (off + len) = (us.drop (off + (i.toNat + 1))).drop (len - (i.toNat + 1)) := by rw [List.drop_drop]; congr 1; omega
      rw [this]
      simp only [List.append_assoc, List.take_append_drop, List.length_singleton, Nat.add_assoc]
    rw [e1]
    exact ((hrep.take off).append u1).append (hrep.drop _)
  · intro q hq
    simp only [List.flatMap_append, List.mem_append, u2] at hq
    rcases hq with (hq | hq) | hq
    · exact h.wfb (kB k) q (by rw [hc]; exact flat_sub (fun c hc => List.mem_of_mem_take hc) q hq)
    · cases hq
    · exact h.wfb (kB k) q (by rw [hc]; exact flat_sub (fun c hc => List.mem_of_mem_drop hc) q hq)
  · intro q hq
    simp only [List.flatMap_append, List.mem_append, u3] at hq
    rcases hq with (hq | hq) | hq
    · exact h.wfr (kB k) q (by rw [hc]; exact flat_sub (fun c hc => List.mem_of_mem_take hc) q hq)
    · cases hq
    · exact h.wfr (kB k) q (by rw [hc]; exact flat_sub (fun c hc => List.mem_of_mem_drop hc) q hq)
theorem evStore_ok {ar : Ar} (har : ar = Ar.std) {T : TypeId → Lay} (hT : ∀ t, LayOK P t (T t)) (h : RelAt w0 im0 N D bm rm L a w) {t : TypeId} {x y : Operand} {R : List Nat} {z : Deed} (hr : (evStore ar T o t x y).run L R = some z) (ho : o.op = .store t x y) : Res P w0 im0 N D o a w (ovr z.1 L) := by
  replace hr := opd_inv h hr; obtain ⟨p, R1, hp, hr⟩ := hr
  replace hr := opd_inv h hr; obtain ⟨v, R2, hv, hr⟩ := hr
  subst har
  split at hr
  · rename_i r q i off vs hd hvs
    obtain ⟨b, hb, hi, hx⟩ : ∃ b, (rm r).ownBlock = some b ∧ 0 ≤ i ∧ a.eval x = .pointer (some ⟨b, i.toNat * q + off, none⟩) := hp.rep
    simp only [AskR.run] at hr
    split at hr
    · rename_i e k es hc
      split at hr
      · rename_i el ps hel hps
        cases hg : (T t).known && Nat.beq q k && Nat.beq vs.length (T t).size && Nat.ble (off + ps.length) k with
        | false => rw [hg] at hr; simp [AskR.run] at hr
        | true =>
          rw [hg] at hr
          simp only [cond_true, AskR.run, Option.some.injEq] at hr
          subst hr
          simp only [Bool.and_eq_true, Nat.ble_eq] at hg
          obtain ⟨⟨⟨hk, hq⟩, hsz⟩, hle⟩ := hg
          have hq := Nat.eq_of_beq_eq_true hq
          subst hq
          have hsz := Nat.eq_of_beq_eq_true hsz
          have hel : es[i.toNat]? = some el := by simpa [Ar.std, hi] using hel
          have hpv := asPs_get hps
          subst hpv
          obtain ⟨h1, h2, _, _⟩ := TV.cells_rep hvs hv.rep
          have h1 := pure_back h1
          have hlv := h1.len
          simp only [List.length_map] at hsz
          obtain ⟨xs, hown, hl, hkk, hone⟩ := h.rows r e q es hc
          exact res_setRow h hd ho hc hb hx hel hown hl hkk hone (hlv.trans hsz) hle h1 h2 (lay_size (hT t) hk) hsz
      · simp [AskR.run] at hr
    · simp [AskR.run] at hr
  · rename_i k off len i n hd hvs
    obtain ⟨hi0, hil, hx⟩ : 0 ≤ i ∧ i < len ∧ a.eval x = .pointer (some ⟨bm k, off + i.toNat, none⟩) := hp.rep
    simp only [AskR.run] at hr
    split at hr
    · rename_i ty cs hc
      cases hg : (T t).known && Nat.beq 1 (T t).size && Nat.ble (off + len) cs.length with
      | false => rw [hg] at hr; simp [AskR.run] at hr
      | true =>
        rw [hg] at hr
        simp only [cond_true] at hr
        simp only [Bool.and_eq_true, Nat.ble_eq] at hg
        obtain ⟨⟨hk, hsz⟩, hle⟩ := hg
        have hsz := Nat.eq_of_beq_eq_true hsz
        split at hr
        · rename_i ints hints
          simp only [AskR.run, Option.some.injEq] at hr
          subst hr
          exact res_setArr h hd ho hc hi0 hil hx hle hints hvs hv (lay_size (hT t) hk) hsz
        · simp [AskR.run] at hr
    · simp [AskR.run] at hr
  · rename_i k off vs hd hvs
    have hx : a.eval x = .pointer (some ⟨bm k, off, none⟩) := hp.rep
    simp only [AskR.run] at hr
    split at hr
    · rename_i ty cs hc
      cases hg : (T t).known && Nat.beq vs.length (T t).size && Nat.ble (off + vs.length) cs.length with
      | false => rw [hg] at hr; simp [AskR.run] at hr
      | true =>
        rw [hg] at hr
        simp only [cond_true, AskR.run, Option.some.injEq] at hr
        subst hr
        simp only [Bool.and_eq_true, Nat.ble_eq] at hg
        obtain ⟨⟨hk, hsz⟩, hle⟩ := hg
        have hsz := Nat.eq_of_beq_eq_true hsz
        obtain ⟨us, hus, hrep, hn⟩ := h.boxes k ty cs hc
        obtain ⟨h1, h2, h3, h4⟩ := TV.cells_rep hvs hv.rep
        have hlu := hrep.len
        have hlv := h1.len
        have hst := run_storeCells_at P (bm k) off ty (a.eval y).cells.toList 0 us.toArray w hus (by simp only [List.size_toArray]; omega) h2
        simp only [Nat.add_zero] at hst
        have hrun : (execOp a.eval o).run P w = .ok .skip (w.setRow (bm k) (us.take off ++ (a.eval y).cells.toList ++ us.drop (off + (a.eval y).cells.toList.length)).toArray) := by
          have hs := sizeB_run (lay_size (hT t) hk) w
          have hne : (a.eval y).cells.size = (T t).size := by rw [← hsz, ← hlv]; simp
          simp only [execOp, ho, hx, Instr.storeAt, Instr.sureAddr, storeVar, Sem.run_bind, Sem.run_pure, Result.andThen_ok, hs, hne]
          simp [hst]
        refine ⟨_, .inr ⟨hrun, bm, rm, ?_⟩⟩
        rw [hd]
        refine h.setBox hc ?_ ?_ ?_ rfl rfl rfl (by simp) (setRow_heap w (bm k) _ _ ty _ hus) (fun b hb => setRow_other w (bm k) b _ hb)
        · have := ((hrep.take off).append h1).append (hrep.drop (off + vs.length))
          simp only [hlv]
          exact this
        · intro q hq
          simp only [List.flatMap_append, List.mem_append] at hq
          rcases hq with (hq | hq) | hq
          · exact h.wfb (kB k) q (by rw [hc]; exact flat_sub (fun c hc => List.mem_of_mem_take hc) q hq)
          · exact hv.wb q (by rw [← h3]; exact hq)
          · exact h.wfb (kB k) q (by rw [hc]; exact flat_sub (fun c hc => List.mem_of_mem_drop hc) q hq)
        · intro q hq
          simp only [List.flatMap_append, List.mem_append] at hq
          rcases hq with (hq | hq) | hq
          · exact h.wfr (kB k) q (by rw [hc]; exact flat_sub (fun c hc => List.mem_of_mem_take hc) q hq)
          · exact hv.wr q (by rw [← h4]; exact hq)
          · exact h.wfr (kB k) q (by rw [hc]; exact flat_sub (fun c hc => List.mem_of_mem_drop hc) q hq)
    · simp [AskR.run] at hr
  · simp [AskR.run] at hr
end
section
variable {P : Program} {w0 : World} {im0 : Nat → Prop} {N : NN} {D : Env} {bm : Nat → Nat} {rm : Nat → Value} {L : Lk} {a : Act} {w w' : World} {o : Oper}
def evShr (ar : Ar) (N : NN) (o : Oper) (x y : Operand) : Ask := match y with
  | .const (.int _ c) => bif decide (0 ≤ c) then opd x fun u => (match u with
    | .c (.p (.int .u64 m)) => putA N o.dst (.c (.p (.int .u64 (ar.ai .shr m c)))) []
    | _ => .fail) else .fail
  | _ => .fail
theorem evShr_ok {ar : Ar} (har : ar = Ar.std) (h : RelAt w0 im0 N D bm rm L a w) {t yt : TypeId} {x y : Operand} {R : List Nat} {z : Deed} (hr : (evShr ar N o x y).run L R = some z) (ho : o.op = .binOp .shr t x y yt) :
    Res P w0 im0 N D o a w (ovr z.1 L) := by
  subst har
  unfold evShr at hr
  split at hr
  · rename_i k c
    cases hc : decide (0 ≤ c) with
    | false => rw [hc] at hr; simp [AskR.run] at hr
    | true =>
      rw [hc] at hr
      simp only [cond_true] at hr
      have h0 := of_decide_eq_true hc
      replace hr := opd_inv h hr; obtain ⟨u, R1, hu, hr⟩ := hr
      split at hr
      · rename_i m
        have hx : a.eval x = .int .u64 m := hu.rep
        refine res_put (u := .int .u64 (Ar.std.ai .shr m c)) h (holds_pv (by simp [RepP])) hr ?_
        have hn : ¬ c < 0 := by omega
        have e1 : binOp .shr t (.int .u64 m) (.int k c) = Op.shift .shr .u64 m k c := rfl
        have e2 : (Op.shift .shr .u64 m k c).run P w = .ok (.int .u64 (Ar.std.ai .shr m c)) w := by
          simp only [Op.shift, if_neg hn]
          rfl
        have hy : a.eval (.const (.int k c)) = .int k c := rfl
        simp only [execOp, ho, hx, hy, eqGuard, Sem.run_bind, e1]
        simp [e2]
      · simp [AskR.run] at hr
  · simp [AskR.run] at hr
def evConv (ar : Ar) (T : TypeId → Lay) (N : NN) (o : Oper) (s d : TypeId) (x : Operand) : Ask := match T s, T d with
  | .sc _, .sc (.int k _) => opd x fun u => (match u with
    | .c (.p (.int _ n)) => (match k with
      | .u64 => putA N o.dst (.c (.p (.int .u64 (ar.ai .andNot n 0)))) []
      | .i64 => putA N o.dst (.c (.p (.int .i64 (ar.ai .xor n 0)))) []
      | _ => .fail)
    | _ => .fail)
  | _, _ => .fail
theorem evConv_ok {ar : Ar} (har : ar = Ar.std) {T : TypeId → Lay} (hT : ∀ t, LayOK P t (T t)) (h : RelAt w0 im0 N D bm rm L a w) {s d : TypeId} {x : Operand} {R : List Nat} {z : Deed} (hr : (evConv ar T N o s d x).run L R = some z) (ho : o.op = .convert s d x) :
    Res P w0 im0 N D o a w (ovr z.1 L) := by
  subst har
  unfold evConv at hr
  split at hr
  · rename_i z1 k z2 hs hd
    have h1 := hT s
    have h2 := hT d
    rw [hs] at h1
    rw [hd] at h2
    obtain ⟨us, hus⟩ : ∃ u, P.underlying s = some u := by
      unfold LayOK layB at h1
      simp only [Bool.and_eq_true] at h1
      have := h1.1.1.2
      unfold aggB at this
      split at this
      · exact ⟨_, ‹_›⟩
      · cases this
    have hud : P.underlying d = some (.int k) := by
      unfold LayOK layB at h2
      simp only [Bool.and_eq_true] at h2
      have h3 := h2.1.1.1
      cases hu : P.underlying d with
      | none => rw [hu] at h3; simp at h3
      | some u =>
        rw [hu] at h3
        cases u <;> simp_all
    replace hr := opd_inv h hr; obtain ⟨u, R1, hu, hr⟩ := hr
    split at hr
    · rename_i k0 n
      have hx : a.eval x = .int k0 n := hu.rep
      split at hr
      · refine res_put (u := .int .u64 (Ar.std.ai .andNot n 0)) h (holds_pv (by simp [RepP])) hr ?_
        simp only [execOp, ho, hx, convert, Sem.run_bind, run_underlying hus, run_underlying hud]
        cases us <;> simp [Conv.intToInt, Ar.std, Result.andThen]
      · refine res_put (u := .int .i64 (Ar.std.ai .xor n 0)) h (holds_pv (by simp [RepP])) hr ?_
        simp only [execOp, ho, hx, convert, Sem.run_bind, run_underlying hus, run_underlying hud]
        cases us <;> simp [Conv.intToInt, Ar.std, Result.andThen]
      · simp [AskR.run] at hr
    · simp [AskR.run] at hr
  · simp [AskR.run] at hr
end
def bitsR : List Nat → Nat
  | [] => 0
  | k :: r => (1 <<< k) ||| bitsR r
def bitsW : List (Nat × Cont) → Nat
  | [] => 0
  | p :: r => (1 <<< p.1) ||| bitsW r
def ancM (az : List Nat) : List Edge → Nat
  | [] => 0
  | e :: r => bif Region.binds .any e then ((1 <<< e.on) ||| az.getD e.on 0) ||| ancM az r else ancM az r
def pastB (A W R : Nat) : Nat → List (Nat × Nat) → Bool
  | _, [] => true
  | i, p :: l => (Nat.beq (((W ||| R) &&& p.1) ||| (p.2 &&& W)) 0 || Nat.testBit A i) && pastB A W R (i + 1) l
def edgesB (j : Nat) : List Edge → Bool
  | [] => true
  | e :: r => (!Region.binds .any e || Nat.blt e.on j) && edgesB j r
def ordStep (f : Nat → Nat → Nat → Bool) (A W R : Nat) (past : List (Nat × Nat)) : Bool := pastB A W R 0 past && f A W R
def ordGo : List Oper → List Deed → Nat → List Nat → List (Nat × Nat) → Bool
  | [], _, _, _, _ => true
  | o :: os, ts, j, az, past => match ts with
    | [] => false
    | t :: ts => edgesB j o.after.toList && ordStep (fun A W R => ordGo os ts (j + 1) (az ++ [A]) (past ++ [(W, R)])) (ancM az o.after.toList) (bitsW t.1) (bitsR t.2) past
def ordM (ops : Array Oper) (ts : List Deed) : Bool := ordGo ops.toList ts 0 [] []
theorem bit_one (k q : Nat) : (1 <<< k).testBit q = decide (k = q) := by
  rw [Nat.one_shiftLeft, Nat.testBit_two_pow]
theorem bit_or (x y q : Nat) : (x ||| y).testBit q = (x.testBit q || y.testBit q) := Nat.testBit_or x y q
theorem bit_and (x y q : Nat) : (x &&& y).testBit q = (x.testBit q && y.testBit q) := Nat.testBit_and x y q
theorem dec_beq (k q : Nat) : decide (k = q) = Nat.beq k q := by
  cases h : Nat.beq k q with
  | true => exact decide_eq_true (Nat.eq_of_beq_eq_true h)
  | false => exact decide_eq_false (Nat.ne_of_beq_eq_false h)
theorem bitsR_mem : ∀ (ks : List Nat) (q : Nat), (bitsR ks).testBit q = ks.any fun k => Nat.beq k q
  | [], q => by simp [bitsR]
  | k :: r, q => by
    rw [bitsR, bit_or, bit_one, bitsR_mem r q, List.any_cons]
    congr 1
    exact dec_beq _ _
theorem bitsW_mem : ∀ (ks : List (Nat × Cont)) (q : Nat), (bitsW ks).testBit q = wr ks q
  | [], q => by simp [bitsW, wr]
  | k :: r, q => by
    have ih := bitsW_mem r q
    unfold wr at ih ⊢
    rw [bitsW, bit_or, bit_one, ih, List.any_cons]
    congr 1
    exact dec_beq _ _
theorem edgesB_all {j : Nat} : ∀ {es : List Edge}, edgesB j es = true → (es.all fun e => !Region.binds .any e || Nat.blt e.on j) = true
  | [], _ => rfl
  | e :: r, h => by
    simp only [edgesB, Bool.and_eq_true] at h
    rw [List.all_cons, h.1, edgesB_all h.2]
    rfl
theorem ancM_mem {az : List Nat} {q : Nat} : ∀ {es : List Edge}, (ancM az es).testBit q = true → ∃ e ∈ es, Region.binds .any e = true ∧ (e.on = q ∨ (az.getD e.on 0).testBit q = true)
  | [], h => by simp [ancM] at h
  | e :: r, h => by
    unfold ancM at h
    cases hb : Region.binds .any e with
    | false =>
      rw [hb] at h
      obtain ⟨e', h1, h2⟩ := ancM_mem h
      exact ⟨e', List.mem_cons_of_mem _ h1, h2⟩
    | true =>
      rw [hb] at h
      simp only [cond_true, bit_or, bit_one, Bool.or_eq_true, decide_eq_true_eq] at h
      rcases h with (h | h) | h
      · exact ⟨e, List.mem_cons_self .., hb, .inl h⟩
      · exact ⟨e, List.mem_cons_self .., hb, .inr h⟩
      · obtain ⟨e', h1, h2⟩ := ancM_mem h
        exact ⟨e', List.mem_cons_of_mem _ h1, h2⟩
theorem pastB_at {A W R : Nat} : ∀ {l : List (Nat × Nat)} {i : Nat}, pastB A W R i l = true → ∀ (q : Nat) p, l[q]? = some p → (((W ||| R) &&& p.1) ||| (p.2 &&& W)) ≠ 0 → A.testBit (i + q) = true
  | [], i, _, q, p, hp, _ => by simp at hp
  | p0 :: l, i, h, q, p, hp, hne => by
    simp only [pastB, Bool.and_eq_true, Bool.or_eq_true] at h
    cases q with
    | zero =>
      simp only [List.getElem?_cons_zero, Option.some.injEq] at hp
      subst hp
      rcases h.1 with h1 | h1
      · exact absurd (Nat.eq_of_beq_eq_true h1) hne
      · exact h1
    | succ q =>
      have := pastB_at h.2 q p (by simpa using hp) hne
      rwa [show i + 1 + q = i + (q + 1) by omega] at this
theorem confl_bits {x y : Deed} (h : confl x y = true) : (((bitsW y.1 ||| bitsR y.2) &&& bitsW x.1) ||| (bitsR x.2 &&& bitsW y.1)) ≠ 0 := by
  have key : ∀ k, (((bitsW y.1 ||| bitsR y.2) &&& bitsW x.1) ||| (bitsR x.2 &&& bitsW y.1)).testBit k = true → (((bitsW y.1 ||| bitsR y.2) &&& bitsW x.1) ||| (bitsR x.2 &&& bitsW y.1)) ≠ 0 := fun k hk e => by
    rw [e] at hk; simp at hk
  have hwr : ∀ (ks : List (Nat × Cont)) p, p ∈ ks → wr ks p.1 = true := fun ks p hp => List.any_eq_true.2 ⟨p, hp, Nat.beq_refl _⟩
  simp only [confl, Bool.or_eq_true, List.any_eq_true] at h
  rcases h with ⟨p, hp, hq | hq⟩ | ⟨p, hp, q, hq, hk⟩
  · obtain ⟨q, hq, hk⟩ := hq
    refine key p.1 ?_
    rw [bit_or, bit_and, bit_or, bitsW_mem x.1, hwr _ _ hp, bitsR_mem y.2, List.any_eq_true.2 ⟨q, hq, by rw [Nat.eq_of_beq_eq_true hk]; exact Nat.beq_refl _⟩]
    simp
  · refine key p.1 ?_
    rw [bit_or, bit_and, bit_or, bitsW_mem x.1, hwr _ _ hp, bitsW_mem y.1, hq]
    simp
  · refine key p.1 ?_
    rw [bit_or, bit_and, bit_and, bitsW_mem y.1, hwr _ _ hp, bitsR_mem x.2, List.any_eq_true.2 ⟨q, hq, by rw [Nat.eq_of_beq_eq_true hk]; exact Nat.beq_refl _⟩]
    simp
theorem ordGo_ok {ops : Array Oper} {ts : List Deed} : ∀ (os : List Oper) (tl : List Deed) (j : Nat) (az : List Nat) (past : List (Nat × Nat)), ordGo os tl j az past = true → os = ops.toList.drop j → tl = ts.drop j → az.length = j → past.length = j →
    (∀ i (A : Nat), az[i]? = some A → ∀ q, A.testBit q = true → ∀ f, i < f → anc ops q f i = true) → (∀ (i : Nat) p, past[i]? = some p → ∃ x, ts[i]? = some x ∧ p = (bitsW x.1, bitsR x.2)) →
    ∀ m, j ≤ m → m < ops.size → (∀ o, ops[m]? = some o → (o.after.toList.all fun e => !Region.binds .any e || Nat.blt e.on m) = true) ∧ ∀ i, i < m → ∀ x y, ts[i]? = some x → ts[m]? = some y → confl x y = true → anc ops i ops.size m = true
  | [], tl, j, az, past, _, ho, _, _, _, _, _, m, hj, hm => by
    have : (ops.toList.drop j).length = 0 := by rw [← ho]; rfl
    rw [List.length_drop, Array.length_toList] at this
    omega
  | o :: os, [], j, az, past, h, _, _, _, _, _, _, m, hj, hm => by simp [ordGo] at h
  | o :: os, t :: tl, j, az, past, h, ho, ht, hl, hp, ha, hpp, m, hj, hm => by
    simp only [ordGo, ordStep, Bool.and_eq_true] at h
    obtain ⟨h1, h2, h3⟩ := h
    have hoj : ops[j]? = some o := by
      have : (ops.toList.drop j)[0]? = some o := by rw [← ho]; rfl
      simpa using this
    have htj : ts[j]? = some t := by
      have : (ts.drop j)[0]? = some t := by rw [← ht]; rfl
      simpa using this
    have hos : os = ops.toList.drop (j + 1) := by
      have : (ops.toList.drop j).drop 1 = os := by rw [← ho]; rfl
      rw [← this, List.drop_drop]
    have htl : tl = ts.drop (j + 1) := by
      have : (ts.drop j).drop 1 = tl := by rw [← ht]; rfl
      rw [← this, List.drop_drop]
    have hA : ∀ q, (ancM az o.after.toList).testBit q = true → ∀ f, j < f → anc ops q f j = true := fun q hq f hf => by
      obtain ⟨e, he, hb, hor⟩ := ancM_mem hq
      have hlt : e.on < j := by
        have := List.all_eq_true.1 (edgesB_all h1) e he
        rw [hb] at this
        simpa [Nat.blt_eq] using this
      cases f with
      | zero => omega
      | succ f =>
        simp only [anc, hoj, List.any_eq_true]
        refine ⟨e, he, ?_⟩
        rw [hb, Bool.true_and, Bool.or_eq_true]
        rcases hor with rfl | hor
        · exact .inl (Nat.beq_refl _)
        · refine .inr (ha e.on _ ?_ q hor f (by omega))
          rw [List.getD_eq_getElem?_getD, List.getElem?_eq_getElem (by omega)]
          rfl
    rcases Nat.lt_or_ge j m with hjm | hjm
    · refine ordGo_ok os tl (j + 1) _ _ h3 hos htl (by simp [hl]) (by simp [hp]) (fun i A hi q hq f hf => ?_) (fun i p hi => ?_) m hjm hm
      · rw [List.getElem?_append] at hi
        split at hi
        · exact ha i A hi q hq f hf
        · have : i = j := by
            have := (List.getElem?_eq_some_iff.1 hi).1
            simp at this; omega
          subst this
          have : A = ancM az o.after.toList := by
            rw [hl, Nat.sub_self] at hi; simpa using hi.symm
          subst this
          exact hA q hq f hf
      · rw [List.getElem?_append] at hi
        split at hi
        · exact hpp i p hi
        · have : i = j := by
            have := (List.getElem?_eq_some_iff.1 hi).1
            simp at this; omega
          subst this
          refine ⟨t, htj, ?_⟩
          rw [hp, Nat.sub_self] at hi; simpa using hi.symm
    · have : m = j := by omega
      subst this
      refine ⟨fun o' ho' => ?_, fun i hi x y hx hy hc => ?_⟩
      · rw [hoj] at ho'; cases ho'
        exact edgesB_all h1
      · rw [htj] at hy; cases hy
        obtain ⟨p, hpi⟩ : ∃ p, past[i]? = some p := ⟨_, List.getElem?_eq_getElem (by omega)⟩
        obtain ⟨x', hx', rfl⟩ := hpp i p hpi
        rw [hx] at hx'; cases hx'
        have := pastB_at h2 i _ hpi (confl_bits hc)
        rw [Nat.zero_add] at this
        exact hA i this ops.size hm
theorem ordM_ok {ops : Array Oper} {ts : List Deed} (h : ordM ops ts = true) : ordB ops ts = true := by
  have key := ordGo_ok (ops := ops) (ts := ts) ops.toList ts 0 [] [] h (by simp) (by simp) rfl rfl (fun i A hi => by simp at hi) (fun i p hi => by simp at hi)
  unfold ordB
  rw [List.all_eq_true]
  intro m hm
  have hm := List.mem_range.1 hm
  obtain ⟨h1, h2⟩ := key m (Nat.zero_le _) hm
  rw [Bool.and_eq_true]
  refine ⟨?_, ?_⟩
  · cases ho : ops[m]? with
    | none => rfl
    | some o => exact h1 o ho
  · rw [List.all_eq_true]
    intro i hi
    have hi := List.mem_range.1 hi
    cases hx : ts[i]? with
    | none => rfl
    | some x => cases hy : ts[m]? with
      | none => rfl
      | some y =>
        simp only [Bool.or_eq_true, Bool.not_eq_true']
        cases hc : confl x y with
        | false => exact .inl rfl
        | true => exact .inr (h2 i hi x y hx hy hc)
end Go.Proofs.Ytjimjdhdnkhfnaa
