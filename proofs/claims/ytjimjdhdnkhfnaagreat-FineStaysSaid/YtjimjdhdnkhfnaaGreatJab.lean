/- Contracts of functions of the program and of the reference, a calculus of states, and plain facts: a part of a proof. Own text. -/
import Derived.Test.YtjimjdhdnkhfnaaGreatJaa
import Derived.Laws.StructEq
import Derived.Great.BuildSlice
import Derived.Great.FillDense
set_option linter.unusedVariables false
set_option linter.unusedSimpArgs false
set_option linter.unusedSectionVars false
set_option linter.unnecessarySimpa false
namespace Go.Proofs.YtjimjdhdnkhfnaaGreat
open Go Go.RowKit
theorem kindsB_len : ∀ {z ps : List PV}, kindsB z ps = true → ps.length = z.length
  | [], [], _ => rfl
  | [], _ :: _, h => by simp [kindsB] at h
  | _ :: _, [], h => by simp [kindsB] at h
  | z :: zs, p :: ps, h => by
    simp only [kindsB, Bool.and_eq_true] at h
    simp [kindsB_len h.2]
theorem kindsB_drop : ∀ {z ps : List PV} (n : Nat), kindsB z ps = true → kindsB (z.drop n) (ps.drop n) = true
  | z, ps, 0, h => by simpa using h
  | [], [], n + 1, _ => by simp [kindsB]
  | [], _ :: _, _, h => by simp [kindsB] at h
  | _ :: _, [], _, h => by simp [kindsB] at h
  | z :: zs, p :: ps, n + 1, h => by
    simp only [kindsB, Bool.and_eq_true] at h
    simpa using kindsB_drop n h.2
theorem kindsB_take : ∀ {z ps : List PV} (n : Nat), kindsB z ps = true → kindsB (z.take n) (ps.take n) = true
  | z, ps, 0, h => by simp [kindsB]
  | [], [], n + 1, _ => by simp [kindsB]
  | [], _ :: _, _, h => by simp [kindsB] at h
  | _ :: _, [], _, h => by simp [kindsB] at h
  | z :: zs, p :: ps, n + 1, h => by
    simp only [kindsB, Bool.and_eq_true] at h
    simp [kindsB, h.1, kindsB_take n h.2]
theorem eqPs_append : ∀ {a b c d : List PV}, a.length = b.length → eqPs (a ++ c) (b ++ d) = (eqPs a b && eqPs c d)
  | [], [], c, d, _ => by simp [eqPs]
  | [], _ :: _, _, _, h => by simp at h
  | _ :: _, [], _, _, h => by simp at h
  | x :: a, y :: b, c, d, h => by
    simp only [List.cons_append, eqPs, eqPs_append (a := a) (b := b) (by simpa using h), Bool.and_assoc]
section
variable {P : Program} {im im' : Nat → Prop} {w1 w2 : World}
def ValOf (P : Program) (t : TypeId) (us : List Value) (x : Value) : Prop := ∃ d, P.underlying t = some d ∧ ((d.isRow = true ∧ x = .agg us.toArray) ∨ (d.isRow = false ∧ us = [x]))
theorem part_val {t : TypeId} {i : TypeInfo} {us : List Value} {off : Nat} {d : TypeDesc} (hu : P.underlying t = some d) (hi : P.info? t = some i) (hle : off + i.size ≤ us.length) (h1 : d.isRow = false → i.size = 1) (w : World) :
    ∃ x, (part t us.toArray off).run P w = .ok x w ∧ ValOf P t ((us.drop off).take i.size) x := by
  cases hr : d.isRow with
  | true =>
    have ha : (isAgg t).run P w = .ok true w := by
      unfold isAgg; rw [Sem.run_bind, run_underlying hu w]; cases d <;> simp_all
    refine ⟨.agg ((us.drop off).take i.size).toArray, ?_, d, hu, .inl ⟨hr, rfl⟩⟩
    simp [part, ha, sizeOf, typeInfo, hi]
  | false =>
    have ha : (isAgg t).run P w = .ok false w := by
      unfold isAgg; rw [Sem.run_bind, run_underlying hu w]; cases d <;> simp_all
    have hs := h1 hr
    have hlt : off < us.length := by omega
    refine ⟨us[off], ?_, d, hu, .inr ⟨hr, ?_⟩⟩
    · simp [part, ha, hlt]
    · rw [hs, List.drop_eq_getElem_cons hlt]; rfl
theorem eqTB_info {d : Nat} {t : TypeId} {z : List PV} (h : eqTB P d t z = true) : ∃ e, P.underlying t = some e ∧ (e.isRow = false → z.length = 1) := by
  cases d with
  | zero => simp [eqTB] at h
  | succ d =>
    unfold eqTB at h
    split at h
    · rename_i hu; exact ⟨_, hu, fun _ => rfl⟩
    · rename_i hu; exact ⟨_, hu, fun _ => rfl⟩
    · rename_i hu; exact ⟨_, hu, fun _ => rfl⟩
    · rename_i hu; exact ⟨_, hu, fun h => by cases h⟩
    · rename_i hu; exact ⟨_, hu, fun h => by cases h⟩
    · cases h
theorem equal_run : ∀ (d : Nat) (t : TypeId) (z : List PV), eqTB P d t z = true → ∀ (D : Nat), d ≤ D → ∀ (ps qs : List PV) (us vs : List Value) (x y : Value), kindsB z ps = true → kindsB z qs = true → RepL im w1 ps us → RepL im' w2 qs vs →
    ValOf P t us x → ValOf P t vs y → ∀ w, (Op.equalIn D t x y).run P w = .ok (eqPs ps qs) w
  | 0, _, _, h, _, _, _, _, _, _, _, _, _, _, _, _, _, _, _ => by simp [eqTB] at h
  | d + 1, t, z, h, 0, hD, _, _, _, _, _, _, _, _, _, _, _, _, _ => by omega
  | d + 1, t, z, h, D + 1, hD, ps, qs, us, vs, x, y, hp, hq, hu, hv, hx, hy, w => by
    obtain ⟨dx, ux, hx⟩ := hx
    obtain ⟨dy, uy, hy⟩ := hy
    have e1 : dx = dy := by rw [ux] at uy; exact Option.some.inj uy
    subst e1
    unfold eqTB at h
    split at h
    · rename_i z0 hun
      rw [ux] at hun; cases hun
      obtain ⟨_, rfl⟩ := hx.resolve_left (by simp)
      obtain ⟨_, rfl⟩ := hy.resolve_left (by simp)
      match ps, qs, hp, hq with
      | [p], [q], hp, hq =>
        simp only [kindsB, Bool.and_true] at hp hq
        cases p <;> simp only [kindB] at hp <;> try cases hp
        cases q <;> simp only [kindB] at hq <;> try cases hq
        rename_i k a k' b
        cases k <;> simp only at hp <;> try cases hp
        cases k' <;> simp only at hq <;> try cases hq
        simp only [RepL, RepP, List.cons.injEq] at hu hv
        obtain ⟨_, _, ⟨rfl, rfl⟩, rfl, _⟩ := hu
        obtain ⟨_, _, ⟨rfl, rfl⟩, rfl, _⟩ := hv
        simp [Op.equalIn, run_underlying ux, eqPs, eqS]
    · rename_i z0 hun
      rw [ux] at hun; cases hun
      obtain ⟨_, rfl⟩ := hx.resolve_left (by simp)
      obtain ⟨_, rfl⟩ := hy.resolve_left (by simp)
      match ps, qs, hp, hq with
      | [p], [q], hp, hq =>
        simp only [kindsB, Bool.and_true] at hp hq
        cases p <;> simp only [kindB] at hp <;> try cases hp
        cases q <;> simp only [kindB] at hq <;> try cases hq
        simp only [RepL, RepP, List.cons.injEq] at hu hv
        obtain ⟨_, _, ⟨rfl, rfl⟩, rfl, _⟩ := hu
        obtain ⟨_, _, ⟨rfl, rfl⟩, rfl, _⟩ := hv
        simp [Op.equalIn, run_underlying ux, eqPs, eqS]
    · rename_i z0 hun
      rw [ux] at hun; cases hun
      obtain ⟨_, rfl⟩ := hx.resolve_left (by simp)
      obtain ⟨_, rfl⟩ := hy.resolve_left (by simp)
      match ps, qs, hp, hq with
      | [p], [q], hp, hq =>
        simp only [kindsB, Bool.and_true] at hp hq
        cases p <;> simp only [kindB] at hp <;> try cases hp
        cases q <;> simp only [kindB] at hq <;> try cases hq
        simp only [RepL, RepP, List.cons.injEq] at hu hv
        obtain ⟨_, _, ⟨rfl, rfl⟩, rfl, _⟩ := hu
        obtain ⟨_, _, ⟨rfl, rfl⟩, rfl, _⟩ := hv
        simp [Op.equalIn, run_underlying ux, eqPs, eqS, beq_toListBytes]
    · rename_i z9 xo z8 F hun
      rw [ux] at hun; cases hun
      obtain ⟨_, rfl⟩ := hx.resolve_right (by simp)
      obtain ⟨_, rfl⟩ := hy.resolve_right (by simp)
      simp only [Bool.and_eq_true, Bool.not_eq_true'] at h
      obtain ⟨⟨hs, _⟩, hF⟩ := h
      have hfo : P.fieldsOf t = F := by simp [Program.fieldsOf, ux]
      rw [run_equalIn_struct w D t _ _ (by rw [hfo]; exact ux) hs, hfo]
      have hlp := kindsB_len hp
      have hlq := kindsB_len hq
      have hlu := hu.len
      have hlv := hv.len
      have key : ∀ (fs : List Field) (off : Nat), eqFs P (eqTB P d) fs off z9 = true → (Op.eqFields D us.toArray vs.toArray fs).run P w = .ok (eqPs (ps.drop off) (qs.drop off)) w := by
        intro fs
        induction fs with
        | nil =>
          intro off hb
          simp only [eqFs] at hb
          have := Nat.eq_of_beq_eq_true hb
          rw [List.drop_eq_nil_of_le (by omega), List.drop_eq_nil_of_le (by omega)]
          simp [Op.eqFields, eqPs]
        | cons f fs ih =>
          intro off hb
          simp only [eqFs, Bool.and_eq_true, bne_iff_ne, ne_eq, beq_iff_eq] at hb
          obtain ⟨⟨ho, hn⟩, hb⟩ := hb
          cases hi : P.info? f.type with
          | none => simp [hi] at hb
          | some i =>
            simp only [hi, Bool.and_eq_true, Nat.ble_eq] at hb
            obtain ⟨⟨hb1, hb2⟩, hb3⟩ := hb
            obtain ⟨e, hue, hone⟩ := eqTB_info hb1
            have h1 : e.isRow = false → i.size = 1 := fun hr => by have := hone hr; simp at this; omega
            obtain ⟨a, pa, va⟩ := part_val (P := P) (us := us) (off := off) hue hi (by omega) h1 w
            obtain ⟨b, pb, vb⟩ := part_val (P := P) (us := vs) (off := off) hue hi (by omega) h1 w
            have hr := equal_run d f.type _ hb1 D (by omega) ((ps.drop off).take i.size) ((qs.drop off).take i.size) _ _ a b (kindsB_take _ (kindsB_drop _ hp)) (kindsB_take _ (kindsB_drop _ hq)) ((hu.drop off).take i.size) ((hv.drop off).take i.size) va vb w
            have hsplit : eqPs (ps.drop off) (qs.drop off) = (eqPs ((ps.drop off).take i.size) ((qs.drop off).take i.size) && eqPs (ps.drop (off + i.size)) (qs.drop (off + i.size))) := by
              rw [← eqPs_append (by simp; omega)]
              congr 1
              · rw [← List.drop_drop, List.take_append_drop]
              · rw [← List.drop_drop, List.take_append_drop]
            subst ho
            simp only [Op.eqFields, ne_eq, hn, not_false_eq_true, if_true, Sem.run_bind, pa, pb, hr, Result.andThen_ok, hsplit]
            cases eqPs ((ps.drop f.offset).take i.size) ((qs.drop f.offset).take i.size)
            · simp
            · simpa using ih _ hb3
      have := key F.toList 0 hF
      simpa using this
    · rename_i z9 xo z8 n e hun
      rw [ux] at hun; cases hun
      obtain ⟨_, rfl⟩ := hx.resolve_right (by simp)
      obtain ⟨_, rfl⟩ := hy.resolve_right (by simp)
      simp only [Bool.and_eq_true, Bool.not_eq_true'] at h
      obtain ⟨_, h⟩ := h
      cases hi : P.info? e with
      | none => simp [hi] at h
      | some i =>
        simp only [hi, Bool.and_eq_true, List.all_eq_true, List.mem_range] at h
        obtain ⟨hl, hall⟩ := h
        have hl := Nat.eq_of_beq_eq_true hl
        have hlp := kindsB_len hp
        have hlq := kindsB_len hq
        have hlu := hu.len
        have hlv := hv.len
        rw [run_equalIn_array w D _ _ ux hi]
        have hc : P.cellsOf e = i.size := by simp [Program.cellsOf, hi]
        rw [hc]
        have key : ∀ k j, j + k = n → (Op.eqItems D e i.size us.toArray vs.toArray (List.range' j k)).run P w = .ok (eqPs (ps.drop (j * i.size)) (qs.drop (j * i.size))) w := by
          intro k
          induction k with
          | zero =>
            intro j hj
            have : j = n := by omega
            subst this
            rw [List.drop_eq_nil_of_le (by omega), List.drop_eq_nil_of_le (by omega)]
            simp [Op.eqItems, eqPs]
          | succ k ih =>
            intro j hj
            have hb1 := hall j (by omega)
            obtain ⟨e', hue, hone⟩ := eqTB_info hb1
            have hle : j * i.size + i.size ≤ n * i.size := by rw [← Nat.succ_mul]; exact Nat.mul_le_mul_right _ (by omega)
            have h1 : e'.isRow = false → i.size = 1 := fun hr => by have := hone hr; simp at this; omega
            obtain ⟨a, pa, va⟩ := part_val (P := P) (us := us) (off := j * i.size) hue hi (by omega) h1 w
            obtain ⟨b, pb, vb⟩ := part_val (P := P) (us := vs) (off := j * i.size) hue hi (by omega) h1 w
            have hr := equal_run d e _ hb1 D (by omega) ((ps.drop (j * i.size)).take i.size) ((qs.drop (j * i.size)).take i.size) _ _ a b (kindsB_take _ (kindsB_drop _ hp)) (kindsB_take _ (kindsB_drop _ hq)) ((hu.drop _).take i.size) ((hv.drop _).take i.size) va vb w
            have hsplit : eqPs (ps.drop (j * i.size)) (qs.drop (j * i.size)) = (eqPs ((ps.drop (j * i.size)).take i.size) ((qs.drop (j * i.size)).take i.size) && eqPs (ps.drop ((j + 1) * i.size)) (qs.drop ((j + 1) * i.size))) := by
              rw [← eqPs_append (by simp; omega), Nat.succ_mul]
              congr 1
              · rw [← List.drop_drop, List.take_append_drop]
              · rw [← List.drop_drop, List.take_append_drop]
            simp only [List.range'_succ, Op.eqItems, Sem.run_bind, pa, pb, hr, Result.andThen_ok, hsplit]
            cases eqPs ((ps.drop (j * i.size)).take i.size) ((qs.drop (j * i.size)).take i.size)
            · simp
            · simpa using ih (j + 1) (by omega)
        have := key n 0 (by omega)
        rw [List.range_eq_range']
        simpa using this
    · cases h
end
structure Ar where
  ai : BinOp → Int → Int → Int
  ab : BinOp → Int → Int → Bool
  nz : Int → Bool
  inr : Nat → Int → Bool
  fi : List Int → Int → Int
  pk : List CV → Int → Option CV
  ix : List (List PV) → Int → Option (List PV)
  ln : List (List PV) → Int
  sb : BinOp → ByteArray → ByteArray → Bool
  eqi : List PV → List PV → Bool
  sl : List (List PV) → Int → Int → Option (List (List PV))
  fits : Nat → List (List PV) → List (List PV) → Bool
  mn : Int → Int → Int
  mx : Int → Int → Int
  nt : Bool → Bool
  be : BinOp → Bool → Bool → Bool
  up : List (List PV) → Int → List PV → List (List PV)
  fu : Int → Nat → Int → Int → Int
  mg : Nat → List (List PV) → List PV → List PV → List PV
  mh : Nat → List (List PV) → List PV → Bool
  ms : Nat → List (List PV) → List PV → List PV → List (List PV)
def mFind (kn : Nat) (key : List PV) : List (List PV) → Option Nat
  | [] => none
  | e :: es => if eqPs key (e.take kn) then some 0 else (mFind kn key es).map (· + 1)
def mSet (kn : Nat) (es : List (List PV)) (key v : List PV) : List (List PV) := match mFind kn key es with
  | some i => es.set i (key ++ v)
  | none => es ++ [key ++ v]
def mGet (kn : Nat) (es : List (List PV)) (key vz : List PV) : List PV := match mFind kn key es with
  | some i => (es.getD i []).drop kn
  | none => vz
def Ar.std : Ar where
  ai op x y := match op with
    | .add => IntKind.i64.wrap (x + y)
    | .sub => IntKind.i64.wrap (x - y)
    | .mul => IntKind.i64.wrap (x * y)
    | .quo => IntKind.i64.wrap (x.tdiv y)
    | .rem => x.tmod y
    | .shr => x.fdiv (2 ^ (min y.toNat 64))
    | .andNot => IntKind.u64.wrap x
    | .xor => IntKind.i64.wrap x
    | _ => 0
  ab op x y := match op with
    | .eql => x == y
    | .neq => x != y
    | .lss => x < y
    | .leq => x ≤ y
    | .gtr => x > y
    | .geq => x ≥ y
    | _ => false
  nz x := !(x == 0)
  inr n i := decide (0 ≤ i ∧ i < n)
  fi l i := l.getD i.toNat 0
  pk l i := if 0 ≤ i then l[i.toNat]? else none
  ix l i := if 0 ≤ i then l[i.toNat]? else none
  ln l := l.length
  sb op x y := match op with
    | .eql => x.toList == y.toList
    | .neq => !(x.toList == y.toList)
    | .lss => Op.bytesLess x.toList y.toList
    | .leq => Op.bytesLess x.toList y.toList || x.toList == y.toList
    | .gtr => !(Op.bytesLess x.toList y.toList || x.toList == y.toList)
    | .geq => !(Op.bytesLess x.toList y.toList)
    | _ => false
  eqi x y := eqPs x y
  sl l i j := if 0 ≤ i ∧ i ≤ j ∧ j ≤ l.length then some ((l.drop i.toNat).take (j.toNat - i.toNat)) else none
  fits b x y := decide ((x.length + y.length) * (b + 1) ≤ 1000000000000)
  mn x y := if y < x then y else x
  mx x y := if y > x then y else x
  nt b := !b
  be op x y := match op with
    | .eql => x == y
    | .neq => !(x == y)
    | _ => false
  up l i e := l.set i.toNat e
  fu i j x y := if i = j then x else y
  mg kn es key vz := mGet kn es key vz
  mh kn es key := (mFind kn key es).isSome
  ms kn es key v := mSet kn es key v
def putA (N : NN) (dst : Option Nat) (v : TV) (α : List (Nat × Cont)) : Ask := match dst with
  | some d => bif okS N d then .done ((kT d, .t v) :: α) else .fail
  | none => .done α
section
variable {P : Program} {w0 : World} {im0 : Nat → Prop} {N : NN} {D : Env} {bm : Nat → Nat} {rm : Nat → Value} {L : Lk} {a : Act} {w w' : World} {o : Oper}
def Res (P : Program) (w0 : World) (im0 : Nat → Prop) (N : NN) (D : Env) (o : Oper) (a : Act) (w : World) (L' : Lk) : Prop :=
  ∃ w', (∃ v, (execOp a.eval o).run P w = .ok (.value v) w' ∧ Rel w0 im0 N D L' (a.put o.dst v) w') ∨ ((execOp a.eval o).run P w = .ok .skip w' ∧ Rel w0 im0 N D L' (a.put o.dst undef) w')
theorem fin_put {α : List (Nat × Cont)} {bm' : Nat → Nat} {rm' : Nat → Value} {v : TV} {u : Value} {L0 : Lk} {R : List Nat} {x : Deed} (h' : RelAt w0 im0 N D bm' rm' (ovr α L) a w') (hv : Holds w0 im0 bm' rm' (ovr α L) w' v u)
    (hr : (putA N o.dst v α).run L0 R = some x) : Rel w0 im0 N D (ovr x.1 L) (a.put o.dst u) w' := by
  cases hd : o.dst with
  | none =>
    rw [hd] at hr
    simp only [putA, AskR.run, Option.some.injEq] at hr
    subst hr
    exact ⟨bm', rm', h'⟩
  | some d =>
    rw [hd] at hr
    simp only [putA] at hr
    cases hb : okS N d with
    | false => simp [hb, AskR.run] at hr
    | true =>
      simp only [hb, cond_true, AskR.run, Option.some.injEq] at hr
      subst hr
      rw [ovr_cons]
      exact ⟨bm', rm', h'.put (by simpa [Nat.blt_eq] using hb) hv.rep hv.wb hv.wr⟩
theorem res_put {v : TV} {u : Value} {L0 : Lk} {R : List Nat} {x : Deed} (h : RelAt w0 im0 N D bm rm L a w) (hv : Holds w0 im0 bm rm L w v u)
    (hr : (putA N o.dst v []).run L0 R = some x) (he : (execOp a.eval o).run P w = .ok (.value u) w) : Res P w0 im0 N D o a w (ovr x.1 L) :=
  ⟨w, .inl ⟨u, he, fin_put (α := []) h hv hr⟩⟩
theorem holds_pv {p : PV} {u : Value} (h : RepP (imOf w0.heap.size im0 bm rm L w) w p u) : Holds w0 im0 bm rm L w (.c (.p p)) u := ⟨h, by simp [TV.boxes, CV.boxes], by simp [TV.rows, CV.rows]⟩
theorem holds_of {p : PV} {u : Value} (h : RepP (imOf w0.heap.size im0 bm rm L w) w p u) : Holds w0 im0 bm rm L w (TV.ofPV p) u := ⟨TV.ofPV_rep h, by simp [TV.ofPV_boxes], by simp [TV.ofPV_rows]⟩
def evMove (N : NN) (o : Oper) (x : Operand) : Ask := opd x fun v => putA N o.dst v []
theorem evMove_ok (h : RelAt w0 im0 N D bm rm L a w) {x : Operand} {R : List Nat} {y : Deed} (hr : (evMove N o x).run L R = some y) (ho : o.op = .move x ∨ o.op = .assign x) : Res P w0 im0 N D o a w (ovr y.1 L) := by
  replace hr := opd_inv h hr; obtain ⟨v, R', hv, hr⟩ := hr
  refine res_put h hv hr ?_
  rcases ho with ho | ho <;> simp [execOp, ho]
def evPick (N : NN) (o : Oper) (c x y : Operand) : Ask := opd c fun b => match b with
  | .c (.p (.bool true)) => opd x fun v => putA N o.dst v []
  | .c (.p (.bool false)) => opd y fun v => putA N o.dst v []
  | _ => .fail
theorem evPick_ok (h : RelAt w0 im0 N D bm rm L a w) {c x y : Operand} {R : List Nat} {z : Deed} (hr : (evPick N o c x y).run L R = some z) (ho : o.op = .pick c x y) : Res P w0 im0 N D o a w (ovr z.1 L) := by
  replace hr := opd_inv h hr; obtain ⟨b, R', hb, hr⟩ := hr
  split at hr
  · have hbu : a.eval c = .bool true := hb.rep
    replace hr := opd_inv h hr; obtain ⟨v, R', hv, hr⟩ := hr
    exact res_put h hv hr (by simp [execOp, ho, hbu, asBool])
  · have hbu : a.eval c = .bool false := hb.rep
    replace hr := opd_inv h hr; obtain ⟨v, R', hv, hr⟩ := hr
    exact res_put h hv hr (by simp [execOp, ho, hbu, asBool])
  · simp [AskR.run] at hr
def bcls : BinOp → Nat
  | .add | .sub | .mul => 0
  | .quo | .rem => 1
  | .eql | .neq | .lss | .leq | .gtr | .geq => 2
  | _ => 3
def nzC : Operand → Bool
  | .const (.int _ c) => decide (c ≠ 0)
  | _ => false
def asInts : List CV → Option (List Int)
  | [] => some []
  | .p (.int .i64 n) :: r => (asInts r).map (n :: ·)
  | _ => none
def asPs : List CV → Option (List PV)
  | [] => some []
  | .p v :: r => (asPs r).map (v :: ·)
  | _ => none
theorem asPs_get : ∀ {cs : List CV} {ps : List PV}, asPs cs = some ps → cs = ps.map .p
  | [], ps, h => by simp [asPs] at h; subst h; rfl
  | c :: cs, ps, h => by
    unfold asPs at h
    split at h
    · rename_i heq; cases heq
    · rename_i v r heq
      cases heq
      cases hr : asPs cs with
      | none => rw [hr] at h; simp at h
      | some qs =>
        rw [hr] at h
        simp only [Option.map_some, Option.some.injEq] at h
        subst h
        rw [asPs_get hr]; rfl
    · cases h
theorem pure_back {bm : Nat → Nat} {rm : Nat → Value} {im : Nat → Prop} {w : World} : ∀ {ps : List PV} {us : List Value}, RepVs bm rm im w (ps.map .p) us → RepL im w ps us
  | [], us, h => h
  | p :: ps, us, h => by
    simp only [List.map_cons, RepVs, RepV] at h
    obtain ⟨x, xs, rfl, h1, h2⟩ := h
    exact ⟨x, xs, rfl, h1, pure_back h2⟩
def Lay.cmp : Lay → Bool
  | .st cm _ _ => cm
  | .arr cm _ _ _ _ => cm
  | _ => false
def Lay.isBool : Lay → Bool
  | .sc (.bool _) => true
  | _ => false
def evBin (ar : Ar) (T : TypeId → Lay) (N : NN) (o : Oper) (op : BinOp) (t : TypeId) (x y : Operand) : Ask := opd x fun u => opd y fun v => match u, v with
  | .c (.p (.int .i64 m)), .c (.p (.int .i64 n)) => match bcls op with
    | 0 => putA N o.dst (.c (.p (.int .i64 (ar.ai op m n)))) []
    | 1 => bif nzC y || ar.nz n then putA N o.dst (.c (.p (.int .i64 (ar.ai op m n)))) [] else .fail
    | 2 => putA N o.dst (.c (.p (.bool (ar.ab op m n)))) []
    | _ => .fail
  | .c (.p (.str s)), .c (.p (.str t)) => match bcls op with
    | 2 => putA N o.dst (.c (.p (.bool (ar.sb op s t)))) []
    | _ => .fail
  | .c (.p (.bool b)), .c (.p (.bool c)) => bif (T t).isBool then (match op with
    | .eql => putA N o.dst (.c (.p (.bool (ar.be .eql b c)))) []
    | .neq => putA N o.dst (.c (.p (.bool (ar.be .neq b c)))) []
    | _ => .fail) else .fail
  | .agg xs, .agg ys => match asPs xs, asPs ys with
    | some ps, some qs => bif (T t).cmp && kindsB (T t).zero ps && kindsB (T t).zero qs then (match op with
      | .eql => putA N o.dst (.c (.p (.bool (ar.eqi ps qs)))) []
      | .neq => putA N o.dst (.c (.p (.bool (ar.nt (ar.eqi ps qs))))) []
      | _ => .fail) else .fail
    | _, _ => .fail
  | _, _ => .fail
theorem cmp_eqTB {t : TypeId} {l : Lay} (h : LayOK P t l) (hc : l.cmp = true) : eqTB P 8 t l.zero = true := by
  unfold LayOK layB at h
  cases l with
  | st cm fs z => simp only [Lay.cmp] at hc; subst hc; simp only [Bool.and_eq_true, Bool.not_true, Bool.false_or] at h; exact h.1.1.1
  | arr cm len esz eagg z => simp only [Lay.cmp] at hc; subst hc; simp only [Bool.and_eq_true, Bool.not_true, Bool.false_or] at h; exact h.1.1.1.1
  | _ => simp [Lay.cmp] at hc
theorem cmp_guard {t : TypeId} {l : Lay} (h : LayOK P t l) (hc : l.cmp = true) : P.eqGuardType P.depth t = false ∧ ∃ d, P.underlying t = some d ∧ d.isRow = true := by
  have h8 := cmp_eqTB h hc
  have hk : l.known = true := by cases l <;> simp_all [Lay.cmp, Lay.known]
  have ha : l.isAgg = true := by cases l <;> simp_all [Lay.cmp, Lay.isAgg]
  have hagg := lay_agg h hk
  rw [ha] at hagg
  obtain ⟨_, d, hu, hd⟩ := aggB_run hagg default
  refine ⟨?_, d, hu, hd⟩
  unfold eqTB at h8
  rw [hu] at h8
  cases d <;> simp_all
theorem run_cmp {t : TypeId} {l : Lay} (hl : LayOK P t l) (hc : l.cmp = true) {ps qs : List PV} {us vs : List Value} {im : Nat → Prop} (hp : kindsB l.zero ps = true) (hq : kindsB l.zero qs = true) (h1 : RepL im w ps us) (h2 : RepL im w qs vs) {x y : Operand} {yt : TypeId}
    (hx : a.eval x = .agg us.toArray) (hy : a.eval y = .agg vs.toArray) :
    (o.op = .binOp .eql t x y yt → (execOp a.eval o).run P w = .ok (.value (.bool (eqPs ps qs))) w) ∧ (o.op = .binOp .neq t x y yt → (execOp a.eval o).run P w = .ok (.value (.bool (!(eqPs ps qs)))) w) := by
  obtain ⟨hg, d, hu, hd⟩ := cmp_guard hl hc
  have he : (Op.equal t (.agg us.toArray) (.agg vs.toArray)).run P w = .ok (eqPs ps qs) w := equal_run 8 t _ (cmp_eqTB hl hc) 10000 (by decide) ps qs us vs _ _ hp hq h1 h2 ⟨d, hu, .inl ⟨hd, rfl⟩⟩ ⟨d, hu, .inl ⟨hd, rfl⟩⟩ w
  constructor <;> intro ho <;> simp only [execOp, ho, hx, hy, eqGuard, binOp, Sem.run_bind] <;> simp [hg, he]
theorem equal_bool {t : TypeId} (hu : P.underlying t = some .bool) (b c : Bool) : (Op.equal t (.bool b) (.bool c)).run P w = .ok (b == c) w := by
  have : ∀ d, (Op.equalIn (d + 1) t (.bool b) (.bool c)).run P w = .ok (b == c) w := fun d => by simp [Op.equalIn, run_underlying hu]
  exact this 9999
theorem run_binOp_i64 (op : BinOp) (t : TypeId) (x y : Operand) (yt : TypeId) (m n : Int) (ho : o.op = .binOp op t x y yt) (hx : a.eval x = .int .i64 m) (hy : a.eval y = .int .i64 n) :
    (bcls op = 0 → (execOp a.eval o).run P w = .ok (.value (.int .i64 (Ar.std.ai op m n))) w) ∧
    (bcls op = 1 → n ≠ 0 → (execOp a.eval o).run P w = .ok (.value (.int .i64 (Ar.std.ai op m n))) w) ∧
    (bcls op = 2 → (execOp a.eval o).run P w = .ok (.value (.bool (Ar.std.ab op m n))) w) := by
  refine ⟨fun hb => ?_, fun hb hn => ?_, fun hb => ?_⟩ <;> cases op <;> simp only [bcls] at hb <;> first
    | (exfalso; revert hb; decide)
    | simp_all [execOp, eqGuard, binOp, Op.intArith, Op.intDiv, Op.intCmp, Ar.std]
theorem run_binOp_str (op : BinOp) (t : TypeId) (x y : Operand) (yt : TypeId) (m n : ByteArray) (ho : o.op = .binOp op t x y yt) (hx : a.eval x = .string m) (hy : a.eval y = .string n) (hb : bcls op = 2) :
    (execOp a.eval o).run P w = .ok (.value (.bool (Ar.std.sb op m n))) w := by
  cases op <;> simp only [bcls] at hb <;> first
    | (exfalso; revert hb; decide)
    | simp_all [execOp, eqGuard, binOp, Op.stringOp, Ar.std]
theorem evBin_ok {ar : Ar} (har : ar = Ar.std) (h : RelAt w0 im0 N D bm rm L a w) {op : BinOp} {t yt : TypeId} {x y : Operand} {R : List Nat} {z : Deed} {T : TypeId → Lay} (hT : ∀ t, LayOK P t (T t)) (hr : (evBin ar T N o op t x y).run L R = some z) (ho : o.op = .binOp op t x y yt) :
    Res P w0 im0 N D o a w (ovr z.1 L) := by
  subst har
  replace hr := opd_inv h hr; obtain ⟨u, R1, hu, hr⟩ := hr
  replace hr := opd_inv h hr; obtain ⟨v, R2, hv, hr⟩ := hr
  split at hr
  · rename_i m n
    have hx : a.eval x = .int .i64 m := hu.rep
    have hy : a.eval y = .int .i64 n := hv.rep
    obtain ⟨h0, h1, h2⟩ := run_binOp_i64 (P := P) (w := w) op t x y yt m n ho hx hy
    split at hr
    · rename_i hb
      exact res_put h (holds_pv (by simp [RepP])) hr (h0 hb)
    · rename_i hb
      cases hn : nzC y || Ar.std.nz n with
      | false => rw [hn] at hr; simp [AskR.run] at hr
      | true =>
        rw [hn] at hr
        refine res_put h (holds_pv (by simp [RepP])) hr (h1 hb ?_)
        simp only [Bool.or_eq_true] at hn
        rcases hn with hn | hn
        · cases y <;> simp only [nzC] at hn <;> try cases hn
          rename_i c
          simp only [Act.eval] at hy
          subst hy
          simpa [nzC] using hn
        · simpa [Ar.std] using hn
    · rename_i hb
      exact res_put h (holds_pv (by simp [RepP])) hr (h2 hb)
    · simp [AskR.run] at hr
  · rename_i m n
    have hx : a.eval x = .string m := hu.rep
    have hy : a.eval y = .string n := hv.rep
    split at hr
    · rename_i hb
      exact res_put h (holds_pv (by simp [RepP])) hr (run_binOp_str op t x y yt m n ho hx hy hb)
    · simp [AskR.run] at hr
  · rename_i b c
    have hx : a.eval x = .bool b := hu.rep
    have hy : a.eval y = .bool c := hv.rep
    cases hg : (T t).isBool with
    | false => rw [hg] at hr; simp [AskR.run] at hr
    | true =>
      rw [hg] at hr
      simp only [cond_true] at hr
      have hub : P.underlying t = some .bool := by
        have hl := hT t
        unfold LayOK layB at hl
        cases hTt : T t with
        | sc z =>
          rw [hTt] at hg hl
          cases z <;> simp only [Lay.isBool] at hg <;> try cases hg
          simp only [Bool.and_eq_true] at hl
          have h3 := hl.1.1.1
          cases hu : P.underlying t with
          | none => rw [hu] at h3; cases h3
          | some u => rw [hu] at h3; cases u <;> first | rfl | cases h3
        | _ => rw [hTt] at hg; simp [Lay.isBool] at hg
      split at hr
      · refine res_put (u := .bool (b == c)) h (holds_pv (by simp [RepP, Ar.std])) hr ?_
        simp only [execOp, ho, hx, hy, eqGuard, binOp, Sem.run_bind]
        simp [equal_bool hub]
      · refine res_put (u := .bool (!(b == c))) h (holds_pv (by simp [RepP, Ar.std])) hr ?_
        simp only [execOp, ho, hx, hy, eqGuard, binOp, Sem.run_bind]
        simp [equal_bool hub]
      · simp [AskR.run] at hr
  · rename_i xs ys
    obtain ⟨us, hx, hur⟩ := hu.rep
    obtain ⟨vs, hy, hvr⟩ := hv.rep
    split at hr
    · rename_i ps qs hps hqs
      have h1 := asPs_get hps
      have h2 := asPs_get hqs
      subst h1; subst h2
      cases hg : (T t).cmp && kindsB (T t).zero ps && kindsB (T t).zero qs with
      | false => rw [hg] at hr; simp [AskR.run] at hr
      | true =>
        rw [hg] at hr
        simp only [cond_true] at hr
        simp only [Bool.and_eq_true] at hg
        obtain ⟨r1, r2⟩ := run_cmp (o := o) (a := a) (yt := yt) (hT t) hg.1.1 hg.1.2 hg.2 (pure_back hur) (pure_back hvr) hx hy
        split at hr
        · exact res_put (u := .bool (eqPs ps qs)) h (holds_pv (by simp [RepP, Ar.std])) hr (r1 ho)
        · exact res_put (u := .bool (!(eqPs ps qs))) h (holds_pv (by simp [RepP, Ar.std])) hr (r2 ho)
        · simp [AskR.run] at hr
    · simp [AskR.run] at hr
  · simp [AskR.run] at hr
def evUn (ar : Ar) (N : NN) (o : Oper) (op : UnOp) (x : Operand) : Ask := opd x fun u => match op, u with
  | .not, .c (.p (.bool b)) => putA N o.dst (.c (.p (.bool (ar.nt b)))) []
  | .neg, .c (.p (.int .i64 n)) => putA N o.dst (.c (.p (.int .i64 (ar.ai .sub 0 n)))) []
  | _, _ => .fail
theorem evUn_ok {ar : Ar} (har : ar = Ar.std) (h : RelAt w0 im0 N D bm rm L a w) {op : UnOp} {t : TypeId} {x : Operand} {R : List Nat} {z : Deed} (hr : (evUn ar N o op x).run L R = some z) (ho : o.op = .unOp op t x) :
    Res P w0 im0 N D o a w (ovr z.1 L) := by
  subst har
  replace hr := opd_inv h hr; obtain ⟨u, R1, hu, hr⟩ := hr
  split at hr
  · rename_i b
    have hx : a.eval x = .bool b := hu.rep
    exact res_put (u := .bool (!b)) h (holds_pv (by simp [RepP, Ar.std])) hr (by simp [execOp, ho, hx, Op.unary])
  · rename_i n
    have hx : a.eval x = .int .i64 n := hu.rep
    exact res_put (u := .int .i64 (Ar.std.ai .sub 0 n)) h (holds_pv (by simp [RepP])) hr (by simp [execOp, ho, hx, Op.unary, Op.intArith, Ar.std])
  · simp [AskR.run] at hr
def evExtract (N : NN) (o : Oper) (x : Operand) (i : Nat) : Ask := opd x fun u => match u with
  | .c (.p (.tup vs)) => match vs[i]? with
    | some p => putA N o.dst (TV.ofPV p) []
    | none => .fail
  | _ => .fail
theorem evExtract_ok (h : RelAt w0 im0 N D bm rm L a w) {i : Nat} {x : Operand} {R : List Nat} {z : Deed} (hr : (evExtract N o x i).run L R = some z) (ho : o.op = .extract x i) : Res P w0 im0 N D o a w (ovr z.1 L) := by
  replace hr := opd_inv h hr; obtain ⟨u, R1, hu, hr⟩ := hr
  split at hr
  · rename_i vs
    obtain ⟨us, hx, hl⟩ : ∃ us : List Value, a.eval x = .tuple us.toArray ∧ RepL _ w vs us := by have := hu.rep; simpa only [RepT, RepV, RepP] using this
    split at hr
    · rename_i p hp
      obtain ⟨q, hq, hrep⟩ := hl.get hp
      refine res_put h (holds_of hrep) hr ?_
      simp [execOp, ho, hx, Instr.extract, hq]
    · simp [AskR.run] at hr
  · simp [AskR.run] at hr
def evMakeFunc (N : NN) (o : Oper) (f : Fn) (first captured : List Operand) : Ask := match first, captured with
  | [], [] => putA N o.dst (.c (.p (.fn f [] []))) []
  | [], [x] => opd x fun u => match u with
    | .c (.ptr k 0) => putA N o.dst (.c (.clo f [k])) []
    | .c (.p p) => bif (CV.p p).isCell then putA N o.dst (.c (.p (.fn f [] [p]))) [] else .fail
    | _ => .fail
  | [], [x, y] => opd x fun u => opd y fun v => match u, v with
    | .c (.ptr k 0), .c (.ptr l 0) => putA N o.dst (.c (.clo f [k, l])) []
    | _, _ => .fail
  | [], [x, y, z] => opd x fun u => opd y fun v => opd z fun t => match u, v, t with
    | .c (.ptr k 0), .c (.ptr l 0), .c (.ptr m 0) => putA N o.dst (.c (.clo f [k, l, m])) []
    | _, _, _ => .fail
  | [x], [] => opd x fun u => match u with
    | .agg cs => (match asPs cs with
      | some ps => putA N o.dst (.c (.p (.fn f [.agg ps] []))) []
      | none => .fail)
    | .c (.p p) => bif (CV.p p).isCell then putA N o.dst (.c (.p (.fn f [p] []))) [] else .fail
    | _ => .fail
  | _, _ => .fail
theorem evMakeFunc_ok (h : RelAt w0 im0 N D bm rm L a w) {f : Fn} {fi ca : Array Operand} {R : List Nat} {z : Deed} (hr : (evMakeFunc N o f fi.toList ca.toList).run L R = some z) (ho : o.op = .makeFunc f fi ca) : Res P w0 im0 N D o a w (ovr z.1 L) := by
  obtain ⟨fi⟩ := fi
  obtain ⟨ca⟩ := ca
  simp only at hr
  unfold evMakeFunc at hr
  split at hr
  · refine res_put h (holds_pv (u := .func f #[] #[]) (by simp [RepP, RepL])) hr ?_
    simp [execOp, ho, Instr.makeFunc]
  · rename_i x
    replace hr := opd_inv h hr; obtain ⟨u, R1, hu, hr⟩ := hr
    split at hr
    · rename_i k
      have hx : a.eval x = .pointer (some ⟨bm k, 0, none⟩) := hu.rep
      refine res_put (u := .func f #[] #[.pointer (some ⟨bm k, 0, none⟩)]) h ⟨by simp [RepT, RepV], by simpa [TV.boxes, CV.boxes] using hu.wb, by simp [TV.rows, CV.rows]⟩ hr ?_
      simp [execOp, ho, Instr.makeFunc, hx]
    · rename_i p
      cases hc : (CV.p p).isCell with
      | false => rw [hc] at hr; simp [AskR.run] at hr
      | true =>
        rw [hc] at hr
        refine res_put (u := .func f #[] #[a.eval x]) h (holds_pv ?_) hr ?_
        · simp only [RepP, RepL]
          exact ⟨[], [a.eval x], rfl, rfl, a.eval x, [], rfl, hu.rep, rfl⟩
        · simp [execOp, ho, Instr.makeFunc]
    · simp [AskR.run] at hr
  · rename_i x y
    replace hr := opd_inv h hr; obtain ⟨u, R1, hu, hr⟩ := hr
    replace hr := opd_inv h hr; obtain ⟨v, R1, hv, hr⟩ := hr
    split at hr
    · rename_i k l
      have hx : a.eval x = .pointer (some ⟨bm k, 0, none⟩) := hu.rep
      have hy : a.eval y = .pointer (some ⟨bm l, 0, none⟩) := hv.rep
      refine res_put (u := .func f #[] #[.pointer (some ⟨bm k, 0, none⟩), .pointer (some ⟨bm l, 0, none⟩)]) h ⟨by simp [RepT, RepV], ?_, by simp [TV.rows, CV.rows]⟩ hr ?_
      · have h1 := hu.wb; have h2 := hv.wb
        simp only [TV.boxes, CV.boxes, List.mem_singleton, forall_eq, List.mem_cons, List.not_mem_nil, or_false] at h1 h2 ⊢
        rintro q (rfl | rfl) <;> assumption
      · simp [execOp, ho, Instr.makeFunc, hx, hy]
    · simp [AskR.run] at hr
  · rename_i x y q
    replace hr := opd_inv h hr; obtain ⟨u, R1, hu, hr⟩ := hr
    replace hr := opd_inv h hr; obtain ⟨v, R1, hv, hr⟩ := hr
    replace hr := opd_inv h hr; obtain ⟨t, R1, ht, hr⟩ := hr
    split at hr
    · rename_i k l m
      have hx : a.eval x = .pointer (some ⟨bm k, 0, none⟩) := hu.rep
      have hy : a.eval y = .pointer (some ⟨bm l, 0, none⟩) := hv.rep
      have hz : a.eval q = .pointer (some ⟨bm m, 0, none⟩) := ht.rep
      refine res_put (u := .func f #[] #[.pointer (some ⟨bm k, 0, none⟩), .pointer (some ⟨bm l, 0, none⟩), .pointer (some ⟨bm m, 0, none⟩)]) h ⟨by simp [RepT, RepV], ?_, by simp [TV.rows, CV.rows]⟩ hr ?_
      · have h1 := hu.wb; have h2 := hv.wb; have h3 := ht.wb
        simp only [TV.boxes, CV.boxes, List.mem_singleton, forall_eq, List.mem_cons, List.not_mem_nil, or_false] at h1 h2 h3 ⊢
        rintro q (rfl | rfl | rfl) <;> assumption
      · simp [execOp, ho, Instr.makeFunc, hx, hy, hz]
    · simp [AskR.run] at hr
  · rename_i x
    replace hr := opd_inv h hr; obtain ⟨u, R1, hu, hr⟩ := hr
    split at hr
    · rename_i cs
      obtain ⟨us, hx, hrep⟩ := hu.rep
      split at hr
      · rename_i ps hps
        have := asPs_get hps
        subst this
        refine res_put (u := .func f #[.agg us.toArray] #[]) h (holds_pv ?_) hr ?_
        · simp only [RepP, RepL]
          exact ⟨[.agg us.toArray], [], rfl, ⟨_, _, rfl, ⟨us, rfl, pure_back hrep⟩, rfl⟩, rfl⟩
        · simp [execOp, ho, Instr.makeFunc, hx]
      · simp [AskR.run] at hr
    · rename_i p
      cases hc : (CV.p p).isCell with
      | false => rw [hc] at hr; simp [AskR.run] at hr
      | true =>
        rw [hc] at hr
        refine res_put (u := .func f #[a.eval x] #[]) h (holds_pv ?_) hr ?_
        · simp only [RepP, RepL]
          exact ⟨[a.eval x], [], rfl, ⟨a.eval x, [], rfl, hu.rep, rfl⟩, rfl⟩
        · simp [execOp, ho, Instr.makeFunc]
    · simp [AskR.run] at hr
  · simp [AskR.run] at hr
end
def nthC : List CV → Nat → Option CV
  | [], _ => none
  | c :: _, 0 => some c
  | _ :: r, n + 1 => nthC r n
theorem nthC_eq : ∀ (l : List CV) (n : Nat), nthC l n = l[n]?
  | [], n => by simp [nthC]
  | c :: _, 0 => by simp [nthC]
  | _ :: r, n + 1 => by simp [nthC, nthC_eq r n]
def loadCs (l : Lay) (cs : List CV) (off : Nat) : Option TV :=
  bif l.known then
    (bif l.isAgg then (bif Nat.ble (off + l.size) cs.length then some (.agg ((cs.drop off).take l.size)) else none)
     else match nthC cs off with | some c => some (.c c) | none => none)
  else none
section
variable {P : Program} {w0 : World} {im0 : Nat → Prop} {N : NN} {D : Env} {bm : Nat → Nat} {rm : Nat → Value} {L : Lk} {a : Act} {w w' : World} {o : Oper} {im : Nat → Prop}
theorem rangeAt_row {b : Nat} {us : List Value} {ty : TypeId} {fr : Nat × Nat} (h : w.heap[b]? = some (.cells us.toArray ty fr)) : w.rangeAt b 0 us := fun j v hv => by
  rw [Nat.zero_add, cell_of_row w b j _ ty fr h]; simpa using hv
theorem rangeAt_drop {b o n : Nat} {us : List Value} (h : w.rangeAt b o us) : w.rangeAt b (o + n) (us.drop n) := fun j v hv => by
  rw [List.getElem?_drop] at hv
  have := h (n + j) v hv
  rwa [← Nat.add_assoc] at this
theorem rangeAt_take {b o n : Nat} {us : List Value} (h : w.rangeAt b o us) : w.rangeAt b o (us.take n) := fun j v hv => by
  rw [List.getElem?_take] at hv
  split at hv
  · exact h j v hv
  · cases hv
theorem flat_sub {α : Type} {f : CV → List α} {l l' : List CV} (h : ∀ c ∈ l', c ∈ l) : ∀ k ∈ l'.flatMap f, k ∈ l.flatMap f := fun k hk => by
  obtain ⟨c, hc, hk⟩ := List.mem_flatMap.1 hk
  exact List.mem_flatMap.2 ⟨c, h c hc, hk⟩
theorem load_run {t : TypeId} {l : Lay} (hl : LayOK P t l) {b o' off : Nat} {us : List Value} {cs : List CV} {v : TV} (hr : w.rangeAt b o' us) (hv : RepVs bm rm im w cs us) (h : loadCs l cs off = some v) :
    ∃ u, (loadVar t ⟨b, o' + off, none⟩).run P w = .ok u w ∧ RepT bm rm im w v u ∧ (∀ k ∈ v.boxes, k ∈ cs.flatMap CV.boxes) ∧ (∀ k ∈ v.rows, k ∈ cs.flatMap CV.rows) := by
  unfold loadCs at h
  cases hk : l.known with
  | false => simp [hk] at h
  | true =>
    simp only [hk, cond_true] at h
    obtain ⟨hagg, d, hu, hd⟩ := aggB_run (lay_agg hl hk) w
    obtain ⟨i, hi, hs⟩ := sizeB_info (lay_size hl hk)
    cases hg : l.isAgg with
    | true =>
      simp only [hg, cond_true] at h
      cases hle : Nat.ble (off + l.size) cs.length with
      | false => simp [hle] at h
      | true =>
        simp only [hle, cond_true, Option.some.injEq] at h
        subst h
        have hle : off + l.size ≤ cs.length := by simpa [Nat.ble_eq] using hle
        have hlen := hv.len
        have hsz : ((us.drop off).take l.size).length = l.size := by simp; omega
        have := run_loadVar_mid (P := P) w b (o' + off) t ((us.drop off).take l.size) d (rangeAt_take (rangeAt_drop hr)) hu (by rw [hd, hg]) (by simp [hi, hs, hsz])
        refine ⟨_, this, ⟨_, rfl, (hv.drop off).take l.size⟩, ?_, ?_⟩
        · exact flat_sub fun c hc => List.mem_of_mem_drop (List.mem_of_mem_take hc)
        · exact flat_sub fun c hc => List.mem_of_mem_drop (List.mem_of_mem_take hc)
    | false =>
      simp only [hg, cond_false, nthC_eq] at h
      cases hc : cs[off]? with
      | none => simp [hc] at h
      | some c =>
        simp only [hc, Option.some.injEq] at h
        subst h
        obtain ⟨u, hu', hrep⟩ := hv.get hc
        have hcell := hr off u hu'
        refine ⟨u, ?_, hrep, ?_, ?_⟩
        · rw [hg] at hagg
          simp [loadVar, hagg, hcell]
        · exact fun k hk => List.mem_flatMap.2 ⟨c, List.mem_of_getElem? hc, hk⟩
        · exact fun k hk => List.mem_flatMap.2 ⟨c, List.mem_of_getElem? hc, hk⟩
def behind {β : Type} (ar : Ar) (v : TV) (l : Lay) (f : TV → AskR β) : AskR β := match v with
  | .c (.ptr k off) => .get (kB k) fun c => match c with
    | .box _ cs => match loadCs l cs off with
      | some v => f v
      | none => .fail
    | _ => .fail
  | .c (.p (.ptr cs)) => match loadCs l (cs.map .p) 0 with
    | some v => f v
    | none => .fail
  | .c (.rptr r q i off) => .get (kR r) fun c => match c with
    | .row _ k es => bif Nat.beq q k then (match ar.ix es i with
      | some e => match loadCs l (e.map .p) off with
        | some v => f v
        | none => .fail
      | none => .fail) else .fail
    | _ => .fail
  | .c (.aptr k off len i) => .get (kB k) fun c => match c with
    | .box _ cs => bif l.known && !l.isAgg && Nat.ble (off + len) cs.length then (match asInts ((cs.drop off).take len) with
      | some xs => f (.c (.p (.int .i64 (ar.fi xs i))))
      | none => .fail) else .fail
    | _ => .fail
  | _ => .fail
def evLoad (ar : Ar) (T : TypeId → Lay) (N : NN) (o : Oper) (t : TypeId) (x : Operand) : Ask := opd x fun p => behind ar p (T t) fun v => putA N o.dst v []
theorem asInts_get : ∀ {cs : List CV} {xs : List Int}, asInts cs = some xs → xs.length = cs.length ∧ ∀ (i : Nat) (x : Int), xs[i]? = some x → cs[i]? = some (CV.p (.int .i64 x))
  | [], xs, h => by simp [asInts] at h; subst h; simp
  | c :: cs, xs, h => by
    unfold asInts at h
    split at h
    · rename_i heq; cases heq
    · rename_i n r heq
      cases heq
      cases hr : asInts cs with
      | none => rw [hr] at h; simp at h
      | some ys =>
        rw [hr] at h
        simp only [Option.map_some, Option.some.injEq] at h
        subst h
        obtain ⟨h1, h2⟩ := asInts_get hr
        refine ⟨by simp [h1], fun i x hx => ?_⟩
        cases i with
        | zero => simp at hx; subst hx; rfl
        | succ i => simpa using h2 i x (by simpa using hx)
    · cases h
theorem behind_ok {β : Type} {ar : Ar} (har : ar = Ar.std) {T : TypeId → Lay} {t : TypeId} (hT : LayOK P t (T t)) (h : RelAt w0 im0 N D bm rm L a w) {p : TV} {u : Value} {f : TV → AskR β} {R : List Nat} {y : β × List Nat} (hp : Holds w0 im0 bm rm L w p u)
    (hr : (behind ar p (T t) f).run L R = some y) : ∃ v x R', (Instr.loadAt t u).run P w = .ok x w ∧ Holds w0 im0 bm rm L w v x ∧ (f v).run L R' = some y := by
  subst har
  unfold behind at hr
  split at hr
  · rename_i k off
    have hu : u = .pointer (some ⟨bm k, off, none⟩) := hp.rep
    simp only [AskR.run] at hr
    split at hr
    · rename_i ty cs hc
      split at hr
      · rename_i v hv
        obtain ⟨us, hus, hrep, _⟩ := h.boxes k ty cs hc
        obtain ⟨x, hx, hxr, hb, hrw⟩ := load_run hT (rangeAt_row hus) hrep hv
        refine ⟨v, x, _, ?_, ⟨hxr, fun q hq => h.wfb (kB k) q (by rw [hc]; exact hb q hq), fun q hq => h.wfr (kB k) q (by rw [hc]; exact hrw q hq)⟩, hr⟩
        subst hu
        simpa [Instr.loadAt, Instr.sureAddr] using hx
      · simp [AskR.run] at hr
    · simp [AskR.run] at hr
  · rename_i cs
    obtain ⟨b, o', us, hu, hb, hrg, hrep⟩ : ∃ b o' us, u = .pointer (some ⟨b, o', none⟩) ∧ _ ∧ w.rangeAt b o' us ∧ RepL _ w cs us := by have := hp.rep; simpa only [RepT, RepV, RepP] using this
    split at hr
    · rename_i v hv
      obtain ⟨x, hx, hxr, hb, hrw⟩ := load_run (bm := bm) (rm := rm) hT hrg (RepVs.pure hrep) hv
      refine ⟨v, x, _, ?_, ⟨hxr, fun q hq => ?_, fun q hq => ?_⟩, hr⟩
      · subst hu
        simpa [Instr.loadAt, Instr.sureAddr] using hx
      · have := hb q hq; simp [CV.boxes, List.flatMap_map] at this
      · have := hrw q hq; simp [CV.rows, List.flatMap_map] at this
    · simp [AskR.run] at hr
  · rename_i r q i off
    obtain ⟨b, hb, hi, hu⟩ : ∃ b, (rm r).ownBlock = some b ∧ 0 ≤ i ∧ u = .pointer (some ⟨b, i.toNat * q + off, none⟩) := hp.rep
    simp only [AskR.run] at hr
    split at hr
    · rename_i e k es hc
      cases hq : Nat.beq q k with
      | false => simp [hq, AskR.run] at hr
      | true =>
        have := Nat.eq_of_beq_eq_true hq
        subst this
        simp only [hq, cond_true] at hr
        split at hr
        · rename_i el hel
          split at hr
          · rename_i v hv
            obtain ⟨xs, hx, hl, hk⟩ := h.rows r e q es hc
            have hcells := hx.cells hb
            have hrg : w.rangeAt b 0 xs := fun j v hv => by
              have := hcells j v hv
              rwa [Addr.add_mid] at this
            have hE := RepE.of_flat hk.1 hrg hk.2 hl
            have hel' : es[i.toNat]? = some el := by simpa [Ar.std, hi] using hel
            obtain ⟨us, hul, _, hur, hurep⟩ := hE.get hel'
            rw [Nat.zero_add] at hur
            obtain ⟨x, hx', hxr, hb', hrw⟩ := load_run (bm := bm) (rm := rm) hT hur (RepVs.pure hurep) hv
            refine ⟨v, x, _, ?_, ⟨hxr, fun q hq => ?_, fun q hq => ?_⟩, hr⟩
            · subst hu
              simpa [Instr.loadAt, Instr.sureAddr] using hx'
            · have := hb' q hq; simp [CV.boxes, List.flatMap_map] at this
            · have := hrw q hq; simp [CV.rows, List.flatMap_map] at this
          · simp [AskR.run] at hr
        · simp [AskR.run] at hr
    · simp [AskR.run] at hr
  · rename_i k off len i
    obtain ⟨hi0, hil, hu⟩ : 0 ≤ i ∧ i < len ∧ u = .pointer (some ⟨bm k, off + i.toNat, none⟩) := hp.rep
    simp only [AskR.run] at hr
    split at hr
    · rename_i ty cs hc
      cases hg : (T t).known && !(T t).isAgg && Nat.ble (off + len) cs.length with
      | false => rw [hg] at hr; simp [AskR.run] at hr
      | true =>
        rw [hg] at hr
        simp only [cond_true] at hr
        simp only [Bool.and_eq_true, Bool.not_eq_true', Nat.ble_eq] at hg
        obtain ⟨⟨hk, hna⟩, hle⟩ := hg
        split at hr
        · rename_i xs hxs
          obtain ⟨us, hus, hrep, _⟩ := h.boxes k ty cs hc
          obtain ⟨hxl, hxg⟩ := asInts_get hxs
          have hlen : xs.length = len := by rw [hxl]; simp; omega
          have hin : i.toNat < xs.length := by omega
          have hcx := hxg i.toNat xs[i.toNat] (List.getElem?_eq_getElem hin)
          rw [List.getElem?_take_of_lt (by omega), List.getElem?_drop] at hcx
          obtain ⟨y', hy', hrepy⟩ := hrep.get hcx
          have hy2 : y' = .int .i64 xs[i.toNat] := hrepy
          subst hy2
          have hcell := rangeAt_row hus (off + i.toNat) _ hy'
          obtain ⟨hagg, _⟩ := aggB_run (lay_agg hT hk) w
          rw [hna] at hagg
          refine ⟨_, .int .i64 xs[i.toNat], _, ?_, holds_pv (by simp [RepP, Ar.std, List.getD, List.getElem?_eq_getElem hin]), hr⟩
          subst hu
          rw [Nat.zero_add] at hcell
          simp [Instr.loadAt, Instr.sureAddr, loadVar, hagg, hcell]
        · simp [AskR.run] at hr
    · simp [AskR.run] at hr
  · simp [AskR.run] at hr
theorem evLoad_ok {ar : Ar} (har : ar = Ar.std) {T : TypeId → Lay} (hT : ∀ t, LayOK P t (T t)) (h : RelAt w0 im0 N D bm rm L a w) {t : TypeId} {x : Operand} {R : List Nat} {y : Deed} (hr : (evLoad ar T N o t x).run L R = some y) (ho : o.op = .load t x) : Res P w0 im0 N D o a w (ovr y.1 L) := by
  replace hr := opd_inv h hr; obtain ⟨p, R1, hp, hr⟩ := hr
  obtain ⟨v, u, R2, hrun, hv, hr⟩ := behind_ok har (hT t) h hp hr
  exact res_put h hv hr (by simp [execOp, ho, hrun])
def evAlloc (T : TypeId → Lay) (N : NN) (o : Oper) (e : TypeId) : Ask := match o.dst with
  | some d => .get (kB d) fun c => match c with
    | .none => bif (T e).known && okS N d then .done [(kT d, .t (.c (.ptr d 0))), (kB d, .box e ((T e).zero.map .p))] else .fail
    | _ => .fail
  | none => .fail
theorem new_var (h : RelAt w0 im0 N D bm rm L a w) {d : Nat} {e : TypeId} {cs : List CV} {us : List Value} (hd : o.dst = some d) (hN : okS N d = true) (hn : L (kB d) = .none)
    (hv : RepVs bm rm (imOf w0.heap.size im0 bm rm L w) w cs us) (hb : ∀ k ∈ cs.flatMap CV.boxes, L (kB k) ≠ .none) (hr : ∀ t ∈ cs.flatMap CV.rows, L (kR t) ≠ .none)
    (he : (execOp a.eval o).run P w = .ok (.value (.pointer (some ⟨w.heap.size, 0, none⟩))) (w.alloc (.cells us.toArray e))) : Res P w0 im0 N D o a w (ovr [(kT d, .t (.c (.ptr d 0))), (kB d, .box e cs)] L) := by
  have h' := h.newBox (ty := e) hn hv hb hr
  refine ⟨_, .inl ⟨_, he, ?_⟩⟩
  rw [ovr_cons, hd]
  exact ⟨_, _, h'.put hN (by simp [RepT, RepV, updN_same]) (fun k hk => by simp only [TV.boxes, CV.boxes, List.mem_singleton] at hk; subst hk; rw [ovrB_B, if_pos rfl]; simp) (by simp [TV.rows, CV.rows])⟩
theorem evAlloc_ok {T : TypeId → Lay} (hT : ∀ t, LayOK P t (T t)) (h : RelAt w0 im0 N D bm rm L a w) {e : TypeId} {R : List Nat} {y : Deed} (hr : (evAlloc T N o e).run L R = some y) (ho : o.op = .alloc e) : Res P w0 im0 N D o a w (ovr y.1 L) := by
  unfold evAlloc at hr
  split at hr
  · rename_i d hd
    simp only [AskR.run] at hr
    split at hr
    · rename_i hc
      cases hg : (T e).known && okS N d with
      | false => rw [hg] at hr; simp [AskR.run] at hr
      | true =>
        rw [hg] at hr
        simp only [cond_true, AskR.run, Option.some.injEq] at hr
        subst hr
        simp only [Bool.and_eq_true] at hg
        obtain ⟨v, hz, hrep, hone, i, hi, hiz⟩ := zeroOfB_run (lay_zero (hT e) hg.1) w
        refine new_var (us := v.cells.toList) h hd (by simpa [Nat.blt_eq] using hg.2) hc (RepVs.pure (hrep _ _)) (by simp [CV.boxes, List.flatMap_map]) (by simp [CV.rows, List.flatMap_map]) ?_
        simp [execOp, ho, Instr.alloc, hz, newVar, newRow]
    · simp [AskR.run] at hr
  · simp [AskR.run] at hr
def evBox (N : NN) (o : Oper) (e : TypeId) (x : Operand) : Ask := match o.dst with
  | some d => .get (kB d) fun c => match c with
    | .none => bif okS N d then (opd x fun v => match v.cells with
      | some cs => .done [(kT d, .t (.c (.ptr d 0))), (kB d, .box e cs)]
      | none => .fail) else .fail
    | _ => .fail
  | none => .fail
theorem evBox_ok (h : RelAt w0 im0 N D bm rm L a w) {e : TypeId} {x : Operand} {R : List Nat} {y : Deed} (hr : (evBox N o e x).run L R = some y) (ho : o.op = .box e x) : Res P w0 im0 N D o a w (ovr y.1 L) := by
  unfold evBox at hr
  split at hr
  · rename_i d hd
    simp only [AskR.run] at hr
    split at hr
    · rename_i hc
      cases hg : okS N d with
      | false => rw [hg] at hr; simp [AskR.run] at hr
      | true =>
        rw [hg] at hr
        simp only [cond_true] at hr
        replace hr := opd_inv h hr; obtain ⟨v, R1, hv, hr⟩ := hr
        split at hr
        · rename_i cs hcs
          simp only [AskR.run, Option.some.injEq] at hr
          subst hr
          obtain ⟨h1, h2, h3, h4⟩ := TV.cells_rep hcs hv.rep
          refine new_var h hd (by simpa [Nat.blt_eq] using hg) hc h1 (by rw [h3]; exact hv.wb) (by rw [h4]; exact hv.wr) ?_
          simp [execOp, ho, Instr.box, newVar, newRow]
        · simp [AskR.run] at hr
    · simp [AskR.run] at hr
  · simp [AskR.run] at hr
def updC (fu : Int → Nat → Int → Int → Int) (i x : Int) : Nat → List Int → List CV
  | _, [] => []
  | j, y :: r => .p (.int .i64 (fu i j x y)) :: updC fu i x (j + 1) r
def evStore (ar : Ar) (T : TypeId → Lay) (o : Oper) (t : TypeId) (x y : Operand) : Ask := opd x fun p => opd y fun v => match o.dst, p, v.cells with
  | none, .c (.rptr r q i off), some vs => .get (kR r) fun c => match c with
    | .row e k es => match ar.ix es i, asPs vs with
      | some el, some ps => bif (T t).known && Nat.beq q k && Nat.beq vs.length (T t).size && Nat.ble (off + ps.length) k then .done [(kR r, .row e k (ar.up es i (el.take off ++ ps ++ el.drop (off + ps.length))))] else .fail
      | _, _ => .fail
    | _ => .fail
  | none, .c (.aptr k off len i), some [.p (.int .i64 n)] => .get (kB k) fun c => match c with
    | .box ty cs => bif (T t).known && Nat.beq 1 (T t).size && Nat.ble (off + len) cs.length then (match asInts ((cs.drop off).take len) with
      | some xs => .done [(kB k, .box ty (cs.take off ++ updC ar.fu i n 0 xs ++ cs.drop (off + len)))]
      | none => .fail) else .fail
    | _ => .fail
  | none, .c (.ptr k off), some vs => .get (kB k) fun c => match c with
    | .box ty cs => bif (T t).known && Nat.beq vs.length (T t).size && Nat.ble (off + vs.length) cs.length then .done [(kB k, .box ty (cs.take off ++ vs ++ cs.drop (off + vs.length)))] else .fail
    | _ => .fail
  | _, _, _ => .fail
theorem vflat_set {k : Nat} : ∀ {es : List (List PV)} {i : Nat} {el el' : List PV}, (∀ z ∈ es, z.length = k) → es[i]? = some el → el'.length = k →
    (es.set i el').flatten = es.flatten.take (i * k) ++ el' ++ es.flatten.drop (i * k + k)
  | [], i, el, el', _, h, _ => by simp at h
  | e :: es, 0, el, el', hk, h, hl => by
    have he := hk e (by simp)
    simp [← he]
  | e :: es, i + 1, el, el', hk, h, hl => by
    have he := hk e (by simp)
    have := vflat_set (es := es) (i := i) (fun z hz => hk z (by simp [hz])) (by simpa using h) hl
    simp only [List.set_cons_succ, List.flatten_cons, this]
    have e1 : (i + 1) * k = e.length + i * k := by rw [he, Nat.add_mul]; omega
    rw [e1, List.take_length_add_append, Nat.add_assoc, List.drop_length_add_append]
    simp [List.append_assoc]
theorem vflat_at {k : Nat} : ∀ {es : List (List PV)} {i : Nat} {el : List PV}, (∀ z ∈ es, z.length = k) → es[i]? = some el → (es.flatten.drop (i * k)).take k = el
  | [], i, el, _, h => by simp at h
  | e :: es, 0, el, hk, h => by
    have he := hk e (by simp)
    simp at h
    subst h
    simp [← he]
  | e :: es, i + 1, el, hk, h => by
    have he := hk e (by simp)
    have := vflat_at (es := es) (i := i) (fun z hz => hk z (by simp [hz])) (by simpa using h)
    have e1 : (i + 1) * k = e.length + i * k := by rw [he, Nat.add_mul]; omega
    simp only [List.flatten_cons]
    rw [e1, List.drop_length_add_append]
    exact this
theorem vflat_len {k : Nat} : ∀ {es : List (List PV)}, (∀ e ∈ es, e.length = k) → es.flatten.length = es.length * k
  | [], _ => by simp
  | e :: es, h => by
    have := vflat_len (es := es) fun x hx => h x (by simp [hx])
    have he := h e (by simp)
    simp only [List.flatten_cons, List.length_append, List.length_cons, this, he, Nat.add_mul]
    omega
theorem res_setRow (h : RelAt w0 im0 N D bm rm L a w) {t : TypeId} {x y : Operand} {r q off b : Nat} {i : Int} {e : TypeId} {es : List (List PV)} {el ps : List PV} {xs : List Value} {s : Nat} (hd : o.dst = none) (ho : o.op = .store t x y) (hc : L (kR r) = .row e q es) (hb : (rm r).ownBlock = some b)
    (hx : a.eval x = .pointer (some ⟨b, i.toNat * q + off, none⟩)) (hel : es[i.toNat]? = some el) (hown : w.ownsRow w0.heap.size e q (rm r) es.length xs) (hl : RepL (imOf w0.heap.size im0 bm rm L w) w es.flatten xs) (hkk : ∀ z ∈ es, z.length = q) (hone : ∀ u ∈ xs, u.oneCell' = true)
    (hlv : (a.eval y).cells.toList.length = s) (hle : off + ps.length ≤ q) (h1 : RepL (imOf w0.heap.size im0 bm rm L w) w ps (a.eval y).cells.toList) (h2 : ∀ u ∈ (a.eval y).cells.toList, u.oneCell' = true) (hsz : sizeB P t s = true) (hps : ps.length = s) :
    Res P w0 im0 N D o a w (ovr [(kR r, .row e q (Ar.std.up es i (el.take off ++ ps ++ el.drop (off + ps.length))))] L) := by
  obtain ⟨hxl, hor⟩ := hown
  rcases hor with ⟨hv, h0⟩ | ⟨g, cap, cur, hv, hbg, hgg, hcap, hm, hcs, htake⟩
  · rw [hv] at hb; simp [Value.ownBlock] at hb
  · have hbg' : b = g := by rw [hv] at hb; simpa [Value.ownBlock] using hb.symm
    subst hbg'
    have hilt := (List.getElem?_eq_some_iff.1 hel).1
    have hell := hkk el (List.mem_of_getElem? hel)
    have hrow : i.toNat * q + q ≤ es.length * q := by rw [← Nat.succ_mul]; exact Nat.mul_le_mul_right _ hilt
    have hcapq : es.length * q ≤ cap * q := Nat.mul_le_mul_right _ hcap
    have hst := run_storeCells_at P b (i.toNat * q + off) e (a.eval y).cells.toList 0 cur w hgg (by rw [hcs]; omega) h2
    simp only [Nat.add_zero] at hst
    have hrun : (execOp a.eval o).run P w = .ok .skip (w.setRow b (cur.toList.take (i.toNat * q + off) ++ (a.eval y).cells.toList ++ cur.toList.drop (i.toNat * q + off + (a.eval y).cells.toList.length)).toArray) := by
      have hs := sizeB_run hsz w
      have hne : (a.eval y).cells.size = s := by rw [← hlv]; simp
      simp only [execOp, ho, hx, Instr.storeAt, Instr.sureAddr, storeVar, Sem.run_bind, Sem.run_pure, Result.andThen_ok, hs, hne]
      simp [hst]
    refine ⟨_, .inr ⟨hrun, bm, rm, ?_⟩⟩
    rw [hd]
    have hup : Ar.std.up es i (el.take off ++ ps ++ el.drop (off + ps.length)) = es.set i.toNat (el.take off ++ ps ++ el.drop (off + ps.length)) := rfl
    have hnl : (el.take off ++ ps ++ el.drop (off + ps.length)).length = q := by simp; omega
    have hflat := vflat_set hkk hel hnl
    have hfa := vflat_at hkk hel
    have hfl := vflat_len hkk
    rw [hup]
    have hcl : cur.toList.length = cap * q := by simpa using hcs
    refine h.setRow (xs := xs.take (i.toNat * q + off) ++ (a.eval y).cells.toList ++ xs.drop (i.toNat * q + off + s)) hc ⟨rfl, rfl, rfl, by simp, fun k hk hne => setRow_other w b k _ (fun e => hne (by rw [hb, e]))⟩ (by simp) ?_ ?_ ⟨?_, ?_⟩
    · refine ⟨?_, .inr ⟨b, cap, _, by simpa using hv, hbg, setRow_heap w b _ _ e _ hgg, by simpa using hcap, hm, ?_, ?_⟩⟩
      · simp only [List.length_set, List.length_append, List.length_take, List.length_drop, hlv, hxl]; omega
      · simp only [List.size_toArray, List.length_append, List.length_take, List.length_drop, hlv, hcl]; omega
      · simp only [List.length_set, hlv]
        rw [← htake, List.take_append, List.take_append, List.take_take, List.drop_take, List.take_take]
        simp only [List.length_append, List.length_take, hlv, hcl]
        rw [show min (es.length * q) (i.toNat * q + off) = i.toNat * q + off by omega, show min (i.toNat * q + off) (cap * q) = i.toNat * q + off by omega, List.take_of_length_le (l := (a.eval y).cells.toList) (by rw [hlv]; omega)]
        congr 1
        rw [show min (i.toNat * q + off) (es.length * q) = i.toNat * q + off by omega]
    · rw [hflat]
      have e1 : es.flatten.take (i.toNat * q) ++ (el.take off ++ ps ++ el.drop (off + ps.length)) ++ es.flatten.drop (i.toNat * q + q) = es.flatten.take (i.toNat * q + off) ++ ps ++ es.flatten.drop (i.toNat * q + off + s) := by
        have a1 : es.flatten.take (i.toNat * q + off) = es.flatten.take (i.toNat * q) ++ el.take off := by
          rw [List.take_add, ← hfa, List.take_take, show min off q = off by omega]
        have a2 : es.flatten.drop (i.toNat * q + off + s) = el.drop (off + ps.length) ++ es.flatten.drop (i.toNat * q + q) := by
          rw [← hfa, hps, List.drop_take, List.drop_drop, ← Nat.add_assoc]
          have : es.flatten.drop (i.toNat * q + q) = (es.flatten.drop (i.toNat * q + off + s)).drop (q - (off + s)) := by rw [List.drop_drop]; congr 1; omega
          rw [this, List.take_append_drop]
        rw [a1, a2]; simp [List.append_assoc]
      rw [e1]
      exact ((hl.take _).append h1).append (hl.drop _)
    · intro z hz
      rcases List.mem_or_eq_of_mem_set hz with hz | rfl
      · exact hkk z hz
      · exact hnl
    · intro u hu
      simp only [List.mem_append] at hu
      rcases hu with (hu | hu) | hu
      · exact hone u (List.mem_of_mem_take hu)
      · exact h2 u hu
      · exact hone u (List.mem_of_mem_drop hu)
theorem updC_rep {fu : Int → Nat → Int → Int → Int} (hfu : ∀ i j x y, fu i j x y = if i = (j : Int) then x else y) {i n : Int} : ∀ (xs : List Int) (j : Nat), (j : Int) ≤ i → i < j + xs.length →
    RepVs bm rm im w (updC fu i n j xs) ((xs.map (Value.int .i64)).take (i.toNat - j) ++ [.int .i64 n] ++ (xs.map (Value.int .i64)).drop (i.toNat - j + 1)) ∧ (updC fu i n j xs).flatMap CV.boxes = [] ∧ (updC fu i n j xs).flatMap CV.rows = []
  | [], j, h1, h2 => by simp at h2; omega
  | y :: xs, j, h1, h2 => by
    have rest : ∀ (xs : List Int) (j : Nat), i < (j : Int) → RepVs bm rm im w (updC fu i n j xs) (xs.map (Value.int .i64)) ∧ (updC fu i n j xs).flatMap CV.boxes = [] ∧ (updC fu i n j xs).flatMap CV.rows = [] := by
      intro xs
      induction xs with
      | nil => intro j _; simp [updC, RepVs]
      | cons y xs ih =>
        intro j hj
        obtain ⟨a1, a2, a3⟩ := ih (j + 1) (by omega)
        refine ⟨⟨_, _, rfl, ?_, a1⟩, by simp [updC, CV.boxes, a2], by simp [updC, CV.rows, a3]⟩
        simp only [RepV, RepP]; rw [hfu, if_neg (by omega)]
    by_cases hij : i = (j : Int)
    · obtain ⟨a1, a2, a3⟩ := rest xs (j + 1) (by omega)
      have : i.toNat - j = 0 := by omega
      rw [this]
      refine ⟨?_, by simp [updC, CV.boxes, a2], by simp [updC, CV.rows, a3]⟩
      simp only [updC, List.map_cons, List.take_zero, List.nil_append, Nat.zero_add, List.drop_succ_cons, List.drop_zero, List.singleton_append]
      exact ⟨_, _, rfl, by simp only [RepV, RepP]; rw [hfu, if_pos hij], a1⟩
    · obtain ⟨a1, a2, a3⟩ := updC_rep hfu (i := i) (n := n) xs (j + 1) (by omega) (by simp at h2; omega)
      have : i.toNat - j = (i.toNat - (j + 1)) + 1 := by omega
      rw [this]
      refine ⟨?_, by simp [updC, CV.boxes, a2], by simp [updC, CV.rows, a3]⟩
      simp only [updC, List.map_cons, List.take_succ_cons, List.drop_succ_cons, List.cons_append]
      exact ⟨_, _, rfl, by simp only [RepV, RepP]; rw [hfu, if_neg (by omega)], a1⟩
theorem ints_of_asInts : ∀ {cs : List CV} {us : List Value} {xs : List Int}, asInts cs = some xs → RepVs bm rm im w cs us → us = xs.map (Value.int .i64)
  | [], us, xs, h, hv => by simp [asInts] at h; subst h; simpa [RepVs] using hv
  | c :: cs, us, xs, h, hv => by
    unfold asInts at h
    split at h
    · rename_i heq; cases heq
    · rename_i n r heq
      cases heq
      cases hr : asInts cs with
      | none => rw [hr] at h; simp at h
      | some ys =>
        rw [hr] at h
        simp only [Option.map_some, Option.some.injEq] at h
        subst h
        obtain ⟨x, r, rfl, h1, h2⟩ := hv
        simp only [RepV, RepP] at h1
        rw [h1, ints_of_asInts hr h2]; rfl
    · cases h
theorem res_setArr (h : RelAt w0 im0 N D bm rm L a w) {t : TypeId} {x y : Operand} {k off len : Nat} {i n : Int} {ty : TypeId} {cs : List CV} {xs : List Int} {s : Nat} {v : TV} (hd : o.dst = none) (ho : o.op = .store t x y) (hc : L (kB k) = .box ty cs) (hi0 : 0 ≤ i) (hil : i < len)
    (hx : a.eval x = .pointer (some ⟨bm k, off + i.toNat, none⟩)) (hle : off + len ≤ cs.length) (hints : asInts ((cs.drop off).take len) = some xs) (hvs : v.cells = some [.p (.int .i64 n)]) (hv : Holds w0 im0 bm rm L w v (a.eval y)) (hsz : sizeB P t s = true) (hs1 : 1 = s) :
    Res P w0 im0 N D o a w (ovr [(kB k, .box ty (cs.take off ++ updC Ar.std.fu i n 0 xs ++ cs.drop (off + len)))] L) := by
  obtain ⟨us, hus, hrep, hn⟩ := h.boxes k ty cs hc
  obtain ⟨h1, h2, _, _⟩ := TV.cells_rep hvs hv.rep
  have hyv : (a.eval y).cells.toList = [.int .i64 n] := by
    obtain ⟨u, r, hu, hr, hr2⟩ := h1
    simp only [RepV, RepP] at hr
    simp only [RepVs] at hr2
    rw [hu, hr, hr2]
  have hlu := hrep.len
  have hxs := ints_of_asInts hints ((hrep.drop off).take len)
  have hxl : xs.length = len := by have := (asInts_get hints).1; simp at this; omega
  have hst := run_storeCells_at P (bm k) (off + i.toNat) ty (a.eval y).cells.toList 0 us.toArray w hus (by rw [hyv]; simp; omega) h2
  simp only [Nat.add_zero] at hst
  have hrun : (execOp a.eval o).run P w = .ok .skip (w.setRow (bm k) (us.take (off + i.toNat) ++ (a.eval y).cells.toList ++ us.drop (off + i.toNat + (a.eval y).cells.toList.length)).toArray) := by
    have hs := sizeB_run hsz w
    have hne : (a.eval y).cells.size = s := by rw [← hs1]; have := congrArg List.length hyv; simpa using this
    simp only [execOp, ho, hx, Instr.storeAt, Instr.sureAddr, storeVar, Sem.run_bind, Sem.run_pure, Result.andThen_ok, hs, hne]
    simp [hst]
  obtain ⟨u1, u2, u3⟩ := updC_rep (bm := bm) (rm := rm) (im := imOf w0.heap.size im0 bm rm L w) (w := w) (fu := Ar.std.fu) (fun _ _ _ _ => rfl) (i := i) (n := n) xs 0 hi0 (by rw [hxl]; omega)
  refine ⟨_, .inr ⟨hrun, bm, rm, ?_⟩⟩
  rw [hd]
  refine h.setBox hc ?_ ?_ ?_ rfl rfl rfl (by simp) (setRow_heap w (bm k) _ _ ty _ hus) (fun b hb => setRow_other w (bm k) b _ hb)
  · rw [hyv]
    have e1 : us.take (off + i.toNat) ++ [Value.int .i64 n] ++ us.drop (off + i.toNat + [Value.int .i64 n].length) = us.take off ++ ((xs.map (Value.int .i64)).take (i.toNat - 0) ++ [.int .i64 n] ++ (xs.map (Value.int .i64)).drop (i.toNat - 0 + 1)) ++ us.drop (off + len) := by
      rw [← hxs, Nat.sub_zero, List.take_take, show min i.toNat len = i.toNat by omega, List.take_add, List.drop_take, List.drop_drop]
      have : us.drop (off + len) = (us.drop (off + (i.toNat + 1))).drop (len - (i.toNat + 1)) := by rw [List.drop_drop]; congr 1; omega
      rw [this]
      simp only [List.append_assoc, List.take_append_drop, List.length_singleton, Nat.add_assoc]
    rw [e1]
    exact ((hrep.take off).append u1).append (hrep.drop _)
  · intro q hq
    simp only [List.flatMap_append, List.mem_append, u2] at hq
    rcases hq with (hq | hq) | hq
    · exact h.wfb (kB k) q (by rw [hc]; exact flat_sub (fun c hc => List.mem_of_mem_take hc) q hq)
    · cases hq
    · exact h.wfb (kB k) q (by rw [hc]; exact flat_sub (fun c hc => List.mem_of_mem_drop hc) q hq)
  · intro q hq
    simp only [List.flatMap_append, List.mem_append, u3] at hq
    rcases hq with (hq | hq) | hq
    · exact h.wfr (kB k) q (by rw [hc]; exact flat_sub (fun c hc => List.mem_of_mem_take hc) q hq)
    · cases hq
    · exact h.wfr (kB k) q (by rw [hc]; exact flat_sub (fun c hc => List.mem_of_mem_drop hc) q hq)
theorem evStore_ok {ar : Ar} (har : ar = Ar.std) {T : TypeId → Lay} (hT : ∀ t, LayOK P t (T t)) (h : RelAt w0 im0 N D bm rm L a w) {t : TypeId} {x y : Operand} {R : List Nat} {z : Deed} (hr : (evStore ar T o t x y).run L R = some z) (ho : o.op = .store t x y) : Res P w0 im0 N D o a w (ovr z.1 L) := by
  replace hr := opd_inv h hr; obtain ⟨p, R1, hp, hr⟩ := hr
  replace hr := opd_inv h hr; obtain ⟨v, R2, hv, hr⟩ := hr
  subst har
  split at hr
  · rename_i r q i off vs hd hvs
    obtain ⟨b, hb, hi, hx⟩ : ∃ b, (rm r).ownBlock = some b ∧ 0 ≤ i ∧ a.eval x = .pointer (some ⟨b, i.toNat * q + off, none⟩) := hp.rep
    simp only [AskR.run] at hr
    split at hr
    · rename_i e k es hc
      split at hr
      · rename_i el ps hel hps
        cases hg : (T t).known && Nat.beq q k && Nat.beq vs.length (T t).size && Nat.ble (off + ps.length) k with
        | false => rw [hg] at hr; simp [AskR.run] at hr
        | true =>
          rw [hg] at hr
          simp only [cond_true, AskR.run, Option.some.injEq] at hr
          subst hr
          simp only [Bool.and_eq_true, Nat.ble_eq] at hg
          obtain ⟨⟨⟨hk, hq⟩, hsz⟩, hle⟩ := hg
          have hq := Nat.eq_of_beq_eq_true hq
          subst hq
          have hsz := Nat.eq_of_beq_eq_true hsz
          have hel : es[i.toNat]? = some el := by simpa [Ar.std, hi] using hel
          have hpv := asPs_get hps
          subst hpv
          obtain ⟨h1, h2, _, _⟩ := TV.cells_rep hvs hv.rep
          have h1 := pure_back h1
          have hlv := h1.len
          simp only [List.length_map] at hsz
          obtain ⟨xs, hown, hl, hkk, hone⟩ := h.rows r e q es hc
          exact res_setRow h hd ho hc hb hx hel hown hl hkk hone (hlv.trans hsz) hle h1 h2 (lay_size (hT t) hk) hsz
      · simp [AskR.run] at hr
    · simp [AskR.run] at hr
  · rename_i k off len i n hd hvs
    obtain ⟨hi0, hil, hx⟩ : 0 ≤ i ∧ i < len ∧ a.eval x = .pointer (some ⟨bm k, off + i.toNat, none⟩) := hp.rep
    simp only [AskR.run] at hr
    split at hr
    · rename_i ty cs hc
      cases hg : (T t).known && Nat.beq 1 (T t).size && Nat.ble (off + len) cs.length with
      | false => rw [hg] at hr; simp [AskR.run] at hr
      | true =>
        rw [hg] at hr
        simp only [cond_true] at hr
        simp only [Bool.and_eq_true, Nat.ble_eq] at hg
        obtain ⟨⟨hk, hsz⟩, hle⟩ := hg
        have hsz := Nat.eq_of_beq_eq_true hsz
        split at hr
        · rename_i ints hints
          simp only [AskR.run, Option.some.injEq] at hr
          subst hr
          exact res_setArr h hd ho hc hi0 hil hx hle hints hvs hv (lay_size (hT t) hk) hsz
        · simp [AskR.run] at hr
    · simp [AskR.run] at hr
  · rename_i k off vs hd hvs
    have hx : a.eval x = .pointer (some ⟨bm k, off, none⟩) := hp.rep
    simp only [AskR.run] at hr
    split at hr
    · rename_i ty cs hc
      cases hg : (T t).known && Nat.beq vs.length (T t).size && Nat.ble (off + vs.length) cs.length with
      | false => rw [hg] at hr; simp [AskR.run] at hr
      | true =>
        rw [hg] at hr
        simp only [cond_true, AskR.run, Option.some.injEq] at hr
        subst hr
        simp only [Bool.and_eq_true, Nat.ble_eq] at hg
        obtain ⟨⟨hk, hsz⟩, hle⟩ := hg
        have hsz := Nat.eq_of_beq_eq_true hsz
        obtain ⟨us, hus, hrep, hn⟩ := h.boxes k ty cs hc
        obtain ⟨h1, h2, h3, h4⟩ := TV.cells_rep hvs hv.rep
        have hlu := hrep.len
        have hlv := h1.len
        have hst := run_storeCells_at P (bm k) off ty (a.eval y).cells.toList 0 us.toArray w hus (by simp only [List.size_toArray]; omega) h2
        simp only [Nat.add_zero] at hst
        have hrun : (execOp a.eval o).run P w = .ok .skip (w.setRow (bm k) (us.take off ++ (a.eval y).cells.toList ++ us.drop (off + (a.eval y).cells.toList.length)).toArray) := by
          have hs := sizeB_run (lay_size (hT t) hk) w
          have hne : (a.eval y).cells.size = (T t).size := by rw [← hsz, ← hlv]; simp
          simp only [execOp, ho, hx, Instr.storeAt, Instr.sureAddr, storeVar, Sem.run_bind, Sem.run_pure, Result.andThen_ok, hs, hne]
          simp [hst]
        refine ⟨_, .inr ⟨hrun, bm, rm, ?_⟩⟩
        rw [hd]
        refine h.setBox hc ?_ ?_ ?_ rfl rfl rfl (by simp) (setRow_heap w (bm k) _ _ ty _ hus) (fun b hb => setRow_other w (bm k) b _ hb)
        · have := ((hrep.take off).append h1).append (hrep.drop (off + vs.length))
          simp only [hlv]
          exact this
        · intro q hq
          simp only [List.flatMap_append, List.mem_append] at hq
          rcases hq with (hq | hq) | hq
          · exact h.wfb (kB k) q (by rw [hc]; exact flat_sub (fun c hc => List.mem_of_mem_take hc) q hq)
          · exact hv.wb q (by rw [← h3]; exact hq)
          · exact h.wfb (kB k) q (by rw [hc]; exact flat_sub (fun c hc => List.mem_of_mem_drop hc) q hq)
        · intro q hq
          simp only [List.flatMap_append, List.mem_append] at hq
          rcases hq with (hq | hq) | hq
          · exact h.wfr (kB k) q (by rw [hc]; exact flat_sub (fun c hc => List.mem_of_mem_take hc) q hq)
          · exact hv.wr q (by rw [← h4]; exact hq)
          · exact h.wfr (kB k) q (by rw [hc]; exact flat_sub (fun c hc => List.mem_of_mem_drop hc) q hq)
    · simp [AskR.run] at hr
  · simp [AskR.run] at hr
end
def nthL {α : Type} : List α → Nat → Option α
  | [], _ => none
  | c :: _, 0 => some c
  | _ :: r, n + 1 => nthL r n
theorem nthL_eq {α : Type} : ∀ (l : List α) (n : Nat), nthL l n = l[n]?
  | [], n => by simp [nthL]
  | c :: _, 0 => by simp [nthL]
  | _ :: r, n + 1 => by simp [nthL, nthL_eq r n]
section
variable {P : Program} {w0 : World} {im0 : Nat → Prop} {N : NN} {D : Env} {bm : Nat → Nat} {rm : Nat → Value} {L : Lk} {a : Act} {w w' : World} {o : Oper} {im : Nat → Prop}
theorem fieldsB_get : ∀ {F : List Field} {fs : List (Nat × Nat × Bool)}, fieldsB P F fs = true → ∀ {i o s : Nat} {g : Bool}, fs[i]? = some (o, s, g) →
    ∃ f, F[i]? = some f ∧ f.offset = o ∧ sizeB P f.type s = true ∧ aggB P f.type g = true
  | [], [], _, i, o, s, g, h => by simp at h
  | [], _ :: _, h, _, _, _, _, _ => by simp [fieldsB] at h
  | _ :: _, [], h, _, _, _, _, _ => by simp [fieldsB] at h
  | f :: F, (o', s', g') :: fs, h, i, o, s, g, hi => by
    simp only [fieldsB, Bool.and_eq_true] at h
    obtain ⟨⟨⟨h1, h2⟩, h3⟩, h4⟩ := h
    cases i with
    | zero =>
      simp only [List.getElem?_cons_zero, Option.some.injEq, Prod.mk.injEq] at hi
      obtain ⟨rfl, rfl, rfl⟩ := hi
      exact ⟨f, rfl, by simpa using h1, h2, h3⟩
    | succ i => simpa using fieldsB_get h4 (i := i) (by simpa using hi)
theorem lay_st {t : TypeId} {cm : Bool} {fs : List (Nat × Nat × Bool)} {z : List PV} (h : LayOK P t (.st cm fs z)) : ∃ F, P.underlying t = some (.struct F) ∧ fieldsB P F.toList fs = true := by
  unfold LayOK layB at h
  simp only [Bool.and_eq_true] at h
  cases hu : P.underlying t with
  | none => simp [hu] at h
  | some d => cases d <;> simp_all
theorem lay_arr {t : TypeId} {cm : Bool} {len esz : Nat} {eagg : Bool} {z : List PV} (h : LayOK P t (.arr cm len esz eagg z)) : ∃ e, P.underlying t = some (.array len e) ∧ sizeB P e esz = true ∧ aggB P e eagg = true := by
  unfold LayOK layB at h
  simp only [Bool.and_eq_true] at h
  cases hu : P.underlying t with
  | none => simp [hu] at h
  | some d => cases d <;> simp_all
theorem lay_sl {t e : TypeId} {esz bytes : Nat} {eagg : Bool} {ez : List PV} (h : LayOK P t (.sl e esz bytes eagg ez)) :
    P.underlying t = some (.slice e) ∧ sizeB P e esz = true ∧ aggB P e eagg = true ∧ zeroOfB P e ez = true ∧ ez.length = esz ∧ ∃ i, P.info? e = some i ∧ i.bytes = bytes := by
  unfold LayOK layB at h
  simp only [Bool.and_eq_true] at h
  obtain ⟨⟨⟨⟨⟨⟨⟨h1, h2⟩, h3⟩, h4⟩, h5⟩, h6⟩, h7⟩, h8⟩ := h
  cases hu : P.underlying t with
  | none => simp [hu] at h1
  | some d =>
    cases d <;> simp [hu] at h1
    subst h1
    refine ⟨rfl, h4, h5, h6, by simpa using h7, ?_⟩
    cases hi : P.info? _ with
    | none => simp [hi] at h8
    | some i => exact ⟨i, rfl, by simpa [hi] using h8⟩
def evFieldAddr (T : TypeId → Lay) (N : NN) (o : Oper) (s : TypeId) (x : Operand) (f : Nat) : Ask := match T s with
  | .st _ fs _ => match nthL fs f with
    | some (fo, sz, _) => bif Nat.blt 0 sz then (opd x fun p => match p with
      | .c (.ptr k off) => putA N o.dst (.c (.ptr k (off + fo))) []
      | .c (.p (.ptr cs)) => putA N o.dst (.c (.p (.ptr (cs.drop fo)))) []
      | .c (.rptr r q i off) => putA N o.dst (.c (.rptr r q i (off + fo))) []
      | _ => .fail) else .fail
    | none => .fail
  | _ => .fail
theorem evFieldAddr_ok {T : TypeId → Lay} (hT : ∀ t, LayOK P t (T t)) (h : RelAt w0 im0 N D bm rm L a w) {s : TypeId} {x : Operand} {f : Nat} {R : List Nat} {z : Deed} (hr : (evFieldAddr T N o s x f).run L R = some z) (ho : o.op = .fieldAddr s x f) : Res P w0 im0 N D o a w (ovr z.1 L) := by
  unfold evFieldAddr at hr
  split at hr
  · rename_i cm fs zs hlay
    have hs := hT s
    rw [hlay] at hs
    obtain ⟨F, hu, hF⟩ := lay_st hs
    split at hr
    · rename_i fo sz g hf
      rw [nthL_eq] at hf
      obtain ⟨fd, hfd, hoff, hsz, _⟩ := fieldsB_get hF hf
      have hfd' : F[f]? = some fd := by simpa using hfd
      have hrun : ∀ b o', (Instr.fieldAt s (.pointer (some ⟨b, o', none⟩)) f).run P w = (if sz = 0 then (partAt ⟨b, o', none⟩ fd.offset fd.byteOffset >>= fun x => pure (Value.pointer (some x))).run P w else .ok (.pointer (some ⟨b, o' + fo, none⟩)) w) := by
        intro b o'
        simp only [Instr.fieldAt, Sem.run_bind, run_underlying hu w, Result.andThen_ok, hfd', Instr.sureAddr, Sem.run_pure, fieldPlace, sizeB_run hsz w, Sem.run_ite]
        split
        · simp
        · simp [Addr.add_mid, hoff]
      cases hg : Nat.blt 0 sz with
      | false => rw [hg] at hr; simp [AskR.run] at hr
      | true =>
        rw [hg] at hr
        simp only [cond_true] at hr
        have hne : sz ≠ 0 := by simp [Nat.blt_eq] at hg; omega
        simp only [hne, if_false] at hrun
        replace hr := opd_inv h hr; obtain ⟨p, R1, hp, hr⟩ := hr
        split at hr
        · rename_i k off
          have hx : a.eval x = .pointer (some ⟨bm k, off, none⟩) := hp.rep
          refine res_put (v := .c (.ptr k (off + fo))) (u := .pointer (some ⟨bm k, off + fo, none⟩)) h ⟨rfl, by simpa [TV.boxes, CV.boxes] using hp.wb, by simp [TV.rows, CV.rows]⟩ hr ?_
          simp [execOp, ho, hx, hrun]
        · rename_i cs
          obtain ⟨b, o', us, hx, hb, hrg, hrep⟩ : ∃ b o' us, a.eval x = .pointer (some ⟨b, o', none⟩) ∧ _ ∧ w.rangeAt b o' us ∧ RepL _ w cs us := by have := hp.rep; simpa only [RepT, RepV, RepP] using this
          refine res_put (u := .pointer (some ⟨b, o' + fo, none⟩)) h (holds_pv ?_) hr ?_
          · simp only [RepP]
            exact ⟨b, o' + fo, us.drop fo, rfl, hb, rangeAt_drop hrg, hrep.drop fo⟩
          · simp [execOp, ho, hx, hrun]
        · rename_i r q i off
          obtain ⟨b, hb, hi, hx⟩ : ∃ b, (rm r).ownBlock = some b ∧ 0 ≤ i ∧ a.eval x = .pointer (some ⟨b, i.toNat * q + off, none⟩) := hp.rep
          refine res_put (v := .c (.rptr r q i (off + fo))) (u := .pointer (some ⟨b, i.toNat * q + (off + fo), none⟩)) h ⟨⟨b, hb, hi, rfl⟩, by simp [TV.boxes, CV.boxes], by simpa [TV.rows, CV.rows] using hp.wr⟩ hr ?_
          simp [execOp, ho, hx, hrun, Nat.add_assoc]
        · simp [AskR.run] at hr
    · simp [AskR.run] at hr
  · simp [AskR.run] at hr
def partC (cs : List CV) (off sz : Nat) (g : Bool) : Option TV :=
  bif g then (bif Nat.ble (off + sz) cs.length then some (.agg ((cs.drop off).take sz)) else none) else match nthC cs off with | some c => some (.c c) | none => none
theorem part_run {t : TypeId} {cs : List CV} {us : List Value} {off sz : Nat} {g : Bool} {v : TV} (hs : sizeB P t sz = true) (hg : aggB P t g = true) (hv : RepVs bm rm im w cs us) (h : partC cs off sz g = some v) :
    ∃ u, (part t us.toArray off).run P w = .ok u w ∧ RepT bm rm im w v u ∧ (∀ k ∈ v.boxes, k ∈ cs.flatMap CV.boxes) ∧ (∀ k ∈ v.rows, k ∈ cs.flatMap CV.rows) := by
  unfold partC at h
  obtain ⟨hagg, _⟩ := aggB_run hg w
  have hsz := sizeB_run hs w
  cases g with
  | true =>
    simp only [cond_true] at h
    cases hle : Nat.ble (off + sz) cs.length with
    | false => simp [hle] at h
    | true =>
      simp only [hle, cond_true, Option.some.injEq] at h
      subst h
      refine ⟨.agg ((us.drop off).take sz).toArray, ?_, ⟨_, rfl, (hv.drop off).take sz⟩, flat_sub fun c hc => List.mem_of_mem_drop (List.mem_of_mem_take hc), flat_sub fun c hc => List.mem_of_mem_drop (List.mem_of_mem_take hc)⟩
      simp [part, hagg, hsz]
  | false =>
    simp only [cond_false, nthC_eq] at h
    cases hc : cs[off]? with
    | none => simp [hc] at h
    | some c =>
      simp only [hc, Option.some.injEq] at h
      subst h
      obtain ⟨u, hu', hrep⟩ := hv.get hc
      refine ⟨u, ?_, hrep, fun k hk => List.mem_flatMap.2 ⟨c, List.mem_of_getElem? hc, hk⟩, fun k hk => List.mem_flatMap.2 ⟨c, List.mem_of_getElem? hc, hk⟩⟩
      simp [part, hagg, hu']
theorem holds_sub {cs : List CV} {v : TV} {u x : Value} (hx : Holds w0 im0 bm rm L w (.agg cs) x) (hrep : RepT bm rm (imOf w0.heap.size im0 bm rm L w) w v u) (hb : ∀ k ∈ v.boxes, k ∈ cs.flatMap CV.boxes) (hr : ∀ k ∈ v.rows, k ∈ cs.flatMap CV.rows) : Holds w0 im0 bm rm L w v u :=
  ⟨hrep, fun k hk => hx.wb k (hb k hk), fun k hk => hx.wr k (hr k hk)⟩
def evField (T : TypeId → Lay) (N : NN) (o : Oper) (s : TypeId) (x : Operand) (f : Nat) : Ask := match T s with
  | .st _ fs _ => match nthL fs f with
    | some (fo, sz, g) => opd x fun p => match p with
      | .agg cs => match partC cs fo sz g with
        | some v => putA N o.dst v []
        | none => .fail
      | _ => .fail
    | none => .fail
  | _ => .fail
theorem evField_ok {T : TypeId → Lay} (hT : ∀ t, LayOK P t (T t)) (h : RelAt w0 im0 N D bm rm L a w) {s : TypeId} {x : Operand} {f : Nat} {R : List Nat} {z : Deed} (hr : (evField T N o s x f).run L R = some z) (ho : o.op = .field s x f) : Res P w0 im0 N D o a w (ovr z.1 L) := by
  unfold evField at hr
  split at hr
  · rename_i cm fs zs hlay
    have hs := hT s
    rw [hlay] at hs
    obtain ⟨F, hu, hF⟩ := lay_st hs
    split at hr
    · rename_i fo sz g hf
      rw [nthL_eq] at hf
      obtain ⟨fd, hfd, hoff, hsz, hag⟩ := fieldsB_get hF hf
      have hfd' : F[f]? = some fd := by simpa using hfd
      replace hr := opd_inv h hr; obtain ⟨p, R1, hp, hr⟩ := hr
      split at hr
      · rename_i cs
        obtain ⟨us, hx, hrep⟩ := hp.rep
        split at hr
        · rename_i v hv
          obtain ⟨u, hrun, hur, hub, huw⟩ := part_run hsz hag hrep hv
          refine res_put h (holds_sub hp hur hub huw) hr ?_
          simp [execOp, ho, hx, Instr.field, run_underlying hu, hfd', asAgg, hoff, hrun]
        · simp [AskR.run] at hr
      · simp [AskR.run] at hr
    · simp [AskR.run] at hr
  · simp [AskR.run] at hr
def cix : Operand → Option Nat
  | .const (.int .i64 (.ofNat m)) => some m
  | _ => none
theorem cix_eval {x : Operand} {n : Nat} (h : cix x = some n) : a.eval x = .int .i64 n := by
  unfold cix at h
  split at h
  · cases h; rfl
  · cases h
def evIndexAddr (ar : Ar) (T : TypeId → Lay) (N : NN) (o : Oper) (t : TypeId) (x ix : Operand) : Ask := match T t with
  | .sl _ esz _ _ _ => opd x fun p => opd ix fun q => match p, q with
    | .c (.p (.list k es)), .c (.p (.int .i64 i)) => bif Nat.beq k esz then (match ar.ix es i with
      | some e => putA N o.dst (.c (.p (.ptr e))) []
      | none => .fail) else .fail
    | .c (.row r), .c (.p (.int .i64 i)) => .get (kR r) fun c => match c with
      | .row _ k es => bif Nat.beq k esz then (match ar.ix es i with
        | some _ => putA N o.dst (.c (.rptr r k i 0)) []
        | none => .fail) else .fail
      | _ => .fail
    | _, _ => .fail
  | .arr _ len esz _ _ => match cix ix with
    | some n => bif Nat.blt n len then (opd x fun p => match p with
      | .c (.ptr k off) => putA N o.dst (.c (.ptr k (off + n * esz))) []
      | .c (.p (.ptr cs)) => putA N o.dst (.c (.p (.ptr (cs.drop (n * esz))))) []
      | .c (.rptr r q i off) => putA N o.dst (.c (.rptr r q i (off + n * esz))) []
      | _ => .fail) else .fail
    | none => bif Nat.beq esz 1 then (opd x fun p => opd ix fun q => match p, q with
      | .c (.ptr k off), .c (.p (.int .i64 i)) => bif ar.inr len i then putA N o.dst (.c (.aptr k off len i)) [] else .fail
      | .c (.p (.ptr cs)), .c (.p (.int .i64 i)) => bif Nat.ble len cs.length && ar.inr len i then (match asInts ((cs.take len).map .p) with
        | some xs => putA N o.dst (.c (.p (.ptr [.int .i64 (ar.fi xs i)]))) []
        | none => .fail) else .fail
      | _, _ => .fail) else .fail
  | _ => .fail
theorem indexAt_arr {t e : TypeId} {len esz : Nat} (hu : P.underlying t = some (.array len e)) (hs : sizeB P e esz = true) (b o' : Nat) (i : Int) (h0 : 0 ≤ i) (h1 : i < len) :
    (Instr.indexAt t (.pointer (some ⟨b, o', none⟩)) (.int .i64 i)).run P w = .ok (.pointer (some ⟨b, o' + i.toNat * esz, none⟩)) w := by
  have hsz := sizeB_run hs w
  simp [Instr.indexAt, asIntOf, run_underlying hu, Instr.sureAddr, hsz, h0, h1, Addr.add_mid]
theorem indexAt_sl {t e : TypeId} {esz : Nat} (hu : P.underlying t = some (.slice e)) (hs : sizeB P e esz = true) (b o' n c : Nat) (i : Int) (h0 : 0 ≤ i) (h1 : i < n) :
    (Instr.indexAt t (.slice (some ⟨b, o', none⟩) n c) (.int .i64 i)).run P w = .ok (.pointer (some ⟨b, o' + i.toNat * esz, none⟩)) w := by
  have hsz := sizeB_run hs w
  simp [Instr.indexAt, asIntOf, run_underlying hu, hsz, h0, h1, Addr.add_mid]
theorem evIndexAddr_ok {ar : Ar} (har : ar = Ar.std) {T : TypeId → Lay} (hT : ∀ t, LayOK P t (T t)) (h : RelAt w0 im0 N D bm rm L a w) {t : TypeId} {x ix : Operand} {R : List Nat} {z : Deed} (hr : (evIndexAddr ar T N o t x ix).run L R = some z) (ho : o.op = .indexAddr t x ix) : Res P w0 im0 N D o a w (ovr z.1 L) := by
  subst har
  have hs := hT t
  unfold evIndexAddr at hr
  split at hr
  · rename_i e esz bytes eagg ez hlay
    rw [hlay] at hs
    obtain ⟨hu, hsz, _⟩ := lay_sl hs
    replace hr := opd_inv h hr; obtain ⟨p, R1, hp, hr⟩ := hr
    replace hr := opd_inv h hr; obtain ⟨q, R1, hq, hr⟩ := hr
    split at hr
    · rename_i k es i
      have hix : a.eval ix = .int .i64 i := hq.rep
      cases hk : Nat.beq k esz with
      | false => rw [hk] at hr; simp [AskR.run] at hr
      | true =>
        rw [hk] at hr
        have := Nat.eq_of_beq_eq_true hk; subst this
        simp only [cond_true] at hr
        split at hr
        · rename_i el hel
          obtain ⟨A, n, c, hx, hn, hnc, _, hor⟩ : ∃ A n c, a.eval x = .slice A n c ∧ n = es.length ∧ n ≤ c ∧ _ ∧ _ := by have := hp.rep; simpa only [RepT, RepV, RepP] using this
          have hi0 : 0 ≤ i := by
            by_cases h0 : 0 ≤ i
            · exact h0
            · simp [Ar.std, h0] at hel
          have hel' : es[i.toNat]? = some el := by simpa [Ar.std, hi0] using hel
          have hlt := (List.getElem?_eq_some_iff.1 hel').1
          rcases hor with rfl | ⟨b, o', rfl, him, hE⟩
          · simp at hlt
          · obtain ⟨us, hul, _, hur, hurep⟩ := hE.get hel'
            refine res_put (u := .pointer (some ⟨b, o' + i.toNat * k, none⟩)) h (holds_pv ?_) hr ?_
            · simp only [RepP]
              exact ⟨b, _, us, rfl, him, hur, hurep⟩
            · simp [execOp, ho, hx, hix, indexAt_sl hu hsz b o' n c i hi0 (by omega)]
        · simp [AskR.run] at hr
    · rename_i r i
      have hix : a.eval ix = .int .i64 i := hq.rep
      simp only [AskR.run] at hr
      split at hr
      · rename_i e' k es hc
        cases hk : Nat.beq k esz with
        | false => rw [hk] at hr; simp [AskR.run] at hr
        | true =>
          rw [hk] at hr
          have := Nat.eq_of_beq_eq_true hk; subst this
          simp only [cond_true] at hr
          split at hr
          · rename_i el hel
            obtain ⟨hx, _⟩ : a.eval x = rm r ∧ _ := hp.rep
            obtain ⟨xs, hown, hl, hkk⟩ := h.rows r e' k es hc
            have hi0 : 0 ≤ i := by
              by_cases h0 : 0 ≤ i
              · exact h0
              · simp [Ar.std, h0] at hel
            have hel' : es[i.toNat]? = some el := by simpa [Ar.std, hi0] using hel
            have hlt := (List.getElem?_eq_some_iff.1 hel').1
            rcases hown.2 with ⟨_, h0⟩ | ⟨g, cap, cur, hv, _, _, _, _, _, _⟩
            · omega
            · refine res_put (v := .c (.rptr r k i 0)) (u := .pointer (some ⟨g, i.toNat * k + 0, none⟩)) h ⟨⟨g, by rw [hv]; rfl, hi0, rfl⟩, by simp [TV.boxes, CV.boxes], by simpa [TV.rows, CV.rows] using hp.wr⟩ hr ?_
              have := indexAt_sl (P := P) (w := w) hu hsz g 0 es.length cap i hi0 (by omega)
              simp [execOp, ho, hx, hv, hix, this]
          · simp [AskR.run] at hr
      · simp [AskR.run] at hr
    · simp [AskR.run] at hr
  · rename_i cm len esz eagg zs hlay
    rw [hlay] at hs
    obtain ⟨e, hu, hsz, _⟩ := lay_arr hs
    split at hr
    · rename_i n hn
      have hix : a.eval ix = .int .i64 n := cix_eval hn
      cases hlt : Nat.blt n len with
      | false => rw [hlt] at hr; simp [AskR.run] at hr
      | true =>
        rw [hlt] at hr
        simp only [cond_true] at hr
        have hlt : n < len := by simpa [Nat.blt_eq] using hlt
        have hrun : ∀ b o', (Instr.indexAt t (.pointer (some ⟨b, o', none⟩)) (.int .i64 n)).run P w = .ok (.pointer (some ⟨b, o' + n * esz, none⟩)) w := fun b o' => by
          have := indexAt_arr (P := P) (w := w) hu hsz b o' (n : Int) (by omega) (by omega)
          simpa using this
        replace hr := opd_inv h hr; obtain ⟨p, R1, hp, hr⟩ := hr
        split at hr
        · rename_i k off
          have hx : a.eval x = .pointer (some ⟨bm k, off, none⟩) := hp.rep
          refine res_put (v := .c (.ptr k (off + n * esz))) (u := .pointer (some ⟨bm k, off + n * esz, none⟩)) h ⟨rfl, by simpa [TV.boxes, CV.boxes] using hp.wb, by simp [TV.rows, CV.rows]⟩ hr ?_
          simp [execOp, ho, hx, hix, hrun]
        · rename_i cs
          obtain ⟨b, o', us, hx, hb, hrg, hrep⟩ : ∃ b o' us, a.eval x = .pointer (some ⟨b, o', none⟩) ∧ _ ∧ w.rangeAt b o' us ∧ RepL _ w cs us := by have := hp.rep; simpa only [RepT, RepV, RepP] using this
          refine res_put (u := .pointer (some ⟨b, o' + n * esz, none⟩)) h (holds_pv ?_) hr ?_
          · simp only [RepP]
            exact ⟨b, _, us.drop (n * esz), rfl, hb, rangeAt_drop hrg, hrep.drop _⟩
          · simp [execOp, ho, hx, hix, hrun]
        · rename_i r q i off
          obtain ⟨b, hb, hi, hx⟩ : ∃ b, (rm r).ownBlock = some b ∧ 0 ≤ i ∧ a.eval x = .pointer (some ⟨b, i.toNat * q + off, none⟩) := hp.rep
          refine res_put (v := .c (.rptr r q i (off + n * esz))) (u := .pointer (some ⟨b, i.toNat * q + (off + n * esz), none⟩)) h ⟨⟨b, hb, hi, rfl⟩, by simp [TV.boxes, CV.boxes], by simpa [TV.rows, CV.rows] using hp.wr⟩ hr ?_
          simp [execOp, ho, hx, hix, hrun, Nat.add_assoc]
        · simp [AskR.run] at hr
    · cases h1 : Nat.beq esz 1 with
      | false => rw [h1] at hr; simp [AskR.run] at hr
      | true =>
        rw [h1] at hr
        have := Nat.eq_of_beq_eq_true h1; subst this
        simp only [cond_true] at hr
        replace hr := opd_inv h hr; obtain ⟨p, R1, hp, hr⟩ := hr
        replace hr := opd_inv h hr; obtain ⟨q, R1, hq, hr⟩ := hr
        split at hr
        · rename_i k off i
          have hix : a.eval ix = .int .i64 i := hq.rep
          have hx : a.eval x = .pointer (some ⟨bm k, off, none⟩) := hp.rep
          cases hin : Ar.std.inr len i with
          | false => rw [hin] at hr; simp [AskR.run] at hr
          | true =>
            rw [hin] at hr
            have hin : 0 ≤ i ∧ i < len := by simpa [Ar.std] using hin
            refine res_put (v := .c (.aptr k off len i)) (u := .pointer (some ⟨bm k, off + i.toNat, none⟩)) h ⟨⟨hin.1, hin.2, rfl⟩, by simpa [TV.boxes, CV.boxes] using hp.wb, by simp [TV.rows, CV.rows]⟩ hr ?_
            have := indexAt_arr (P := P) (w := w) hu hsz (bm k) off i hin.1 hin.2
            simp [execOp, ho, hx, hix, this]
        · rename_i cs i
          have hix : a.eval ix = .int .i64 i := hq.rep
          cases hin : Nat.ble len cs.length && Ar.std.inr len i with
          | false => rw [hin] at hr; simp [AskR.run] at hr
          | true =>
            rw [hin] at hr
            simp only [cond_true] at hr
            simp only [Bool.and_eq_true, Nat.ble_eq] at hin
            have hle := hin.1
            have hin : 0 ≤ i ∧ i < len := by simpa [Ar.std] using hin.2
            obtain ⟨b, o', us, hx, hb, hrg, hrep⟩ : ∃ b o' us, a.eval x = .pointer (some ⟨b, o', none⟩) ∧ _ ∧ w.rangeAt b o' us ∧ RepL _ w cs us := by have := hp.rep; simpa only [RepT, RepV, RepP] using this
            split at hr
            · rename_i xs hxs
              obtain ⟨hxl, hxg⟩ := asInts_get hxs
              have hlen : xs.length = len := by rw [hxl]; simp; omega
              have hlt : i.toNat < xs.length := by omega
              have hcx := hxg i.toNat xs[i.toNat] (List.getElem?_eq_getElem hlt)
              rw [List.getElem?_map, List.getElem?_take_of_lt (by omega)] at hcx
              have hpc : cs[i.toNat]? = some (.int .i64 xs[i.toNat]) := by
                cases hc' : cs[i.toNat]? with
                | none => simp [hc'] at hcx
                | some pv => simpa [hc'] using hcx
              obtain ⟨y', hy', hrepy⟩ := hrep.get hpc
              have hy2 : y' = .int .i64 xs[i.toNat] := hrepy
              subst hy2
              refine res_put (u := .pointer (some ⟨b, o' + i.toNat, none⟩)) h (holds_pv ?_) hr ?_
              · simp only [RepP]
                refine ⟨b, _, [.int .i64 xs[i.toNat]], rfl, hb, fun j v hv => ?_, ?_⟩
                · cases j with
                  | zero => simp at hv; subst hv; exact hrg _ _ hy'
                  | succ j => simp at hv
                · simp [RepL, RepP, Ar.std, List.getD, List.getElem?_eq_getElem hlt]
              · have := indexAt_arr (P := P) (w := w) hu hsz b o' i hin.1 hin.2
                simp [execOp, ho, hx, hix, this]
            · simp [AskR.run] at hr
        · simp [AskR.run] at hr
  · simp [AskR.run] at hr
def evIndex (ar : Ar) (T : TypeId → Lay) (N : NN) (o : Oper) (t : TypeId) (x ix : Operand) : Ask := match T t with
  | .arr _ len esz eagg _ => match cix ix with
    | some n => bif Nat.blt n len then (opd x fun p => match p with
      | .agg cs => match partC cs (n * esz) esz eagg with
        | some v => putA N o.dst v []
        | none => .fail
      | _ => .fail) else .fail
    | none => bif Nat.beq esz 1 && !eagg then (opd x fun p => opd ix fun q => match p, q with
      | .agg cs, .c (.p (.int .i64 i)) => bif Nat.beq cs.length len && ar.inr len i then (match asInts cs with
        | some xs => putA N o.dst (.c (.p (.int .i64 (ar.fi xs i)))) []
        | none => match ar.pk cs i with
          | some c => putA N o.dst (.c c) []
          | none => .fail) else .fail
      | _, _ => .fail) else .fail
  | _ => .fail
theorem evIndex_ok {ar : Ar} (har : ar = Ar.std) {T : TypeId → Lay} (hT : ∀ t, LayOK P t (T t)) (h : RelAt w0 im0 N D bm rm L a w) {t : TypeId} {x ix : Operand} {R : List Nat} {z : Deed} (hr : (evIndex ar T N o t x ix).run L R = some z) (ho : o.op = .index t x ix) : Res P w0 im0 N D o a w (ovr z.1 L) := by
  subst har
  have hs := hT t
  unfold evIndex at hr
  split at hr
  · rename_i cm len esz eagg zs hlay
    rw [hlay] at hs
    obtain ⟨e, hu, hsz, hag⟩ := lay_arr hs
    split at hr
    · rename_i n hn
      have hix : a.eval ix = .int .i64 n := cix_eval hn
      cases hlt : Nat.blt n len with
      | false => rw [hlt] at hr; simp [AskR.run] at hr
      | true =>
        rw [hlt] at hr
        simp only [cond_true] at hr
        have hlt : n < len := by simpa [Nat.blt_eq] using hlt
        replace hr := opd_inv h hr; obtain ⟨p, R1, hp, hr⟩ := hr
        split at hr
        · rename_i cs
          obtain ⟨us, hx, hrep⟩ := hp.rep
          split at hr
          · rename_i v hv
            obtain ⟨u, hrun, hur, hub, huw⟩ := part_run hsz hag hrep hv
            refine res_put h (holds_sub hp hur hub huw) hr ?_
            have hs2 := sizeB_run hsz w
            simp [execOp, ho, hx, hix, Instr.index, asIntOf, run_underlying hu, hs2, hlt, hrun]
          · simp [AskR.run] at hr
        · simp [AskR.run] at hr
    · cases h1 : Nat.beq esz 1 && !eagg with
      | false => rw [h1] at hr; simp [AskR.run] at hr
      | true =>
        rw [h1] at hr
        simp only [Bool.and_eq_true, Bool.not_eq_true'] at h1
        obtain ⟨h1, hea⟩ := h1
        have := Nat.eq_of_beq_eq_true h1; subst this
        subst hea
        simp only [cond_true] at hr
        replace hr := opd_inv h hr; obtain ⟨p, R1, hp, hr⟩ := hr
        replace hr := opd_inv h hr; obtain ⟨q, R1, hq, hr⟩ := hr
        split at hr
        · rename_i cs i
          have hix : a.eval ix = .int .i64 i := hq.rep
          obtain ⟨us, hx, hrep⟩ := hp.rep
          cases hin : Nat.beq cs.length len && Ar.std.inr len i with
          | false => rw [hin] at hr; simp [AskR.run] at hr
          | true =>
            rw [hin] at hr
            simp only [cond_true] at hr
            simp only [Bool.and_eq_true] at hin
            have hcl := Nat.eq_of_beq_eq_true hin.1
            have hin : 0 ≤ i ∧ i < len := by simpa [Ar.std] using hin.2
            have hs2 := sizeB_run hsz w
            have hrun : ∀ u, us[i.toNat]? = some u → (execOp a.eval o).run P w = .ok (.value u) w := fun u hu' => by
              obtain ⟨hagg, _⟩ := aggB_run hag w
              simp [execOp, ho, hx, hix, Instr.index, asIntOf, run_underlying hu, hs2, hin.1, hin.2, part, hagg, hu']
            split at hr
            · rename_i xs hxs
              have hus := ints_of_asInts hxs hrep
              have hxl := (asInts_get hxs).1
              have hlt : i.toNat < xs.length := by omega
              refine res_put (u := .int .i64 xs[i.toNat]) h (holds_pv (by simp [RepP, Ar.std, List.getD, List.getElem?_eq_getElem hlt])) hr (hrun _ ?_)
              rw [hus]; simp [hlt]
            · split at hr
              · rename_i c hc
                have hc' : cs[i.toNat]? = some c := by simpa [Ar.std, hin.1] using hc
                obtain ⟨u, hu', hur⟩ := hrep.get hc'
                exact res_put h (holds_sub (v := .c c) hp hur (fun k hk => List.mem_flatMap.2 ⟨c, List.mem_of_getElem? hc', hk⟩) (fun k hk => List.mem_flatMap.2 ⟨c, List.mem_of_getElem? hc', hk⟩)) hr (hrun u hu')
              · simp [AskR.run] at hr
        · simp [AskR.run] at hr
  · simp [AskR.run] at hr
def optI {β : Type} (x : Option Operand) (d : Int) (f : Int → AskR β) : AskR β := match x with
  | none => f d
  | some y => opd y fun v => match v with
    | .c (.p (.int .i64 n)) => f n
    | _ => .fail
theorem optI_inv {β : Type} (h : RelAt w0 im0 N D bm rm L a w) {x : Option Operand} {d : Int} {f : Int → AskR β} {R : List Nat} {y : β × List Nat} (hr : (optI x d f).run L R = some y) :
    ∃ n R', (match x with | none => n = d | some y => a.eval y = .int .i64 n) ∧ (f n).run L R' = some y := by
  cases x with
  | none => exact ⟨d, R, rfl, hr⟩
  | some x =>
    simp only [optI] at hr
    replace hr := opd_inv h hr; obtain ⟨v, R1, hv, hr⟩ := hr
    split at hr
    · exact ⟨_, R1, hv.rep, hr⟩
    · simp [AskR.run] at hr
theorem RelAt.freeze (h : RelAt w0 im0 N D bm rm L a w) {r k : Nat} {e : TypeId} {es : List (List PV)} (hr : L (kR r) = .row e k es) :
    RelAt w0 im0 N D bm rm (ovr [(kR r, .dead)] L) a w ∧ RepP (imOf w0.heap.size im0 bm rm (ovr [(kR r, .dead)] L) w) w (.list k es) (rm r) := by
  refine ⟨h.kill r, ?_⟩
  have iB : ∀ k, isBox (ovr [(kR r, .dead)] L) k = isBox L k := fun k => by simp only [isBox, ovrR_B]
  have iR : ∀ k, isRow (ovr [(kR r, .dead)] L) k → isRow L k ∧ k ≠ r := fun k ⟨e, q, es, he⟩ => by
    rw [ovrR_R] at he
    split at he
    · cases he
    · rename_i hne; exact ⟨⟨e, q, es, he⟩, Ne.symm hne⟩
  have hkeep : Keeps (imOf w0.heap.size im0 bm rm L w) w (imOf w0.heap.size im0 bm rm (ovr [(kR r, .dead)] L) w) w := fun b hb =>
    ⟨⟨hb.1, hb.2.1, fun k hk => hb.2.2.1 k (by rw [iB] at hk; exact hk), fun t' ht => hb.2.2.2 t' (iR t' ht).1⟩, rfl⟩
  obtain ⟨xs, hown, hl, hk⟩ := h.rows r e k es hr
  simp only [RepP]
  rcases hown.2 with ⟨hv, h0⟩ | ⟨g, cap, cur, hv, hbg, hgg, hcap, hm, _, _⟩
  · exact ⟨none, 0, 0, hv, h0.symm, by simp, by simp, .inl (List.eq_nil_of_length_eq_zero h0)⟩
  · have hob : (rm r).ownBlock = some g := by rw [hv]; rfl
    refine ⟨_, _, cap, hv, rfl, hcap, hm, .inr ⟨g, 0, rfl, ⟨plain_of hgg rfl, .inr hbg, fun k' hb' he => h.br k' r (by rw [iB] at hb'; exact hb') ⟨e, k, es, hr⟩ (by rw [hob, he]), fun t' ht he => (iR t' ht).2 (h.rr t' r g (iR t' ht).1 ⟨e, k, es, hr⟩ he hob)⟩, ?_⟩⟩
    refine RepE.of_flat hk.1 (fun j v hv' => ?_) hk.2 (RepL.keep hkeep _ _ hl)
    have := hown.cells (g := g) (by rw [hv]; rfl) j v hv'
    rwa [Addr.add_mid] at this
theorem putA_extra {v : TV} {α : List (Nat × Cont)} {dst : Option Nat} {L0 : Lk} {R : List Nat} {z : Deed} (h : (putA N dst v α).run L0 R = some z) : ∃ x : Deed, (putA N dst v []).run L0 R = some x ∧ z.1 = x.1 ++ α := by
  cases dst with
  | none => simp only [putA, AskR.run, Option.some.injEq] at h ⊢; subst h; exact ⟨_, rfl, rfl⟩
  | some d =>
    simp only [putA] at h ⊢
    cases hb : okS N d with
    | false => simp [hb, AskR.run] at h
    | true => simp only [hb, cond_true, AskR.run, Option.some.injEq] at h ⊢; subst h; exact ⟨_, rfl, rfl⟩
def keepD (lo hi : Option Operand) (dst : Option Nat) : Option Nat := match lo, hi, dst with
  | none, some _, some d => some d
  | _, _, _ => none
def evSlice (ar : Ar) (T : TypeId → Lay) (N : NN) (o : Oper) (t : TypeId) (x : Operand) (lo hi mx : Option Operand) : Ask := match T t, mx with
  | .sl e esz _ _ _, none => opd x fun p => match p with
    | .c (.p (.list k es)) => bif Nat.beq k esz then (optI lo 0 fun i => optI hi (ar.ln es) fun j => match ar.sl es i j with
      | some es' => putA N o.dst (.c (.p (.list k es'))) []
      | none => .fail) else .fail
    | .c (.row r) => .get (kR r) fun c => match c with
      | .row e' k es => bif Nat.beq k esz then (match keepD lo hi o.dst with
        | some d => bif okS N d && Nat.beq e' e then .get (kR d) fun cd => (match cd with
          | .none => optI hi (ar.ln es) fun j => match ar.sl es 0 j with
            | some es' => .done [(kT d, .t (.c (.row d))), (kR d, .row e k es'), (kR r, .dead)]
            | none => .fail
          | _ => .fail) else .fail
        | none => (optI lo 0 fun i => optI hi (ar.ln es) fun j => match ar.sl es i j with
          | some es' => putA N o.dst (.c (.p (.list k es'))) [(kR r, .dead)]
          | none => .fail)) else .fail
      | _ => .fail
    | _ => .fail
  | _, _ => .fail
theorem bounds_run {n c : Nat} {i j : Int} (lo hi : Option Value) (hlo : match lo with | none => i = 0 | some v => v = .int .i64 i) (hhi : match hi with | none => j = n | some v => v = .int .i64 j) (h0 : 0 ≤ i) (hij : i ≤ j) (hjn : j ≤ n) (hnc : n ≤ c) :
    (Instr.sliceBounds true n c lo hi none).run P w = .ok (i.toNat, j.toNat, c) w := by
  have hb : ∀ (q : Int) (m : Nat) (code : BoundsCode), 0 ≤ q → q ≤ m → (Instr.sliceBound (.int .i64 q) m code).run P w = .ok q.toNat w := fun q m code h1 h2 => by
    simp [Instr.sliceBound, asIntOf, h1, h2]
  have e1 := fun code => hb j c code (by omega) (by omega)
  have e2 := fun code => hb i j.toNat code h0 (by omega)
  cases lo with
  | none =>
    simp only at hlo
    subst hlo
    cases hi with
    | none => simp only at hhi; subst hhi; simp [Instr.sliceBounds]
    | some v => simp only at hhi; subst hhi; simp [Instr.sliceBounds, e1]
  | some u =>
    simp only at hlo
    subst hlo
    cases hi with
    | none =>
      simp only at hhi
      subst hhi
      simp only [Int.toNat_natCast] at e2
      simp [Instr.sliceBounds, e2]
    | some v => simp only at hhi; subst hhi; simp [Instr.sliceBounds, e1, e2]
theorem slice_core {t e : TypeId} {k : Nat} {bytes : Nat} {eagg : Bool} {im : Nat → Prop} {x : Operand} {lo hi : Option Operand} {es es' : List (List PV)} {i j : Int}
    (hu : P.underlying t = some (.slice e)) (hsz : sizeB P e k = true) (hp : RepP im w (.list k es) (a.eval x))
    (hlo : match lo.map a.eval with | none => i = 0 | some v => v = .int .i64 i) (hhi : match hi.map a.eval with | none => j = es.length | some v => v = .int .i64 j)
    (hes : Ar.std.sl es i j = some es') (ho : o.op = .slice t x lo hi none) : ∃ u, (execOp a.eval o).run P w = .ok (.value u) w ∧ RepP im w (.list k es') u := by
  obtain ⟨A, n, c, hx, hn, hnc, hm, hor⟩ : ∃ A n c, a.eval x = .slice A n c ∧ n = es.length ∧ n ≤ c ∧ c ≤ maxLen ∧ _ := by simpa only [RepP] using hp
  simp only [Ar.std] at hes
  split at hes
  · rename_i hb
    simp only [Option.some.injEq] at hes
    subst hes
    obtain ⟨h0, hij, hjl⟩ := hb
    have hsb := bounds_run (P := P) (w := w) (n := n) (c := c) (i := i) (j := j) (lo.map a.eval) (hi.map a.eval) hlo (by cases hi <;> simpa [hn] using hhi) h0 hij (by omega) hnc
    refine ⟨.slice (if c = i.toNat then A else A.map (·.add (i.toNat * k))) (j.toNat - i.toNat) (c - i.toNat), ?_, ?_⟩
    · have hs2 := sizeB_run hsz w
      simp only [execOp, ho, hx, Instr.sliceAt, Sem.run_bind, run_underlying hu w, Result.andThen_ok, Instr.slice, Option.map_none, hsb, hs2, Sem.run_pure]
    · simp only [RepP]
      refine ⟨_, _, _, rfl, by simp; omega, by omega, by omega, ?_⟩
      rcases hor with rfl | ⟨b, o', rfl, him, hE⟩
      · exact .inl (by simp)
      · by_cases hz : c = i.toNat
        · refine .inl ?_
          apply List.eq_nil_of_length_eq_zero
          simp; omega
        · refine .inr ⟨b, o' + i.toNat * k, ?_, him, (hE.drop i.toNat).take _⟩
          rw [if_neg hz]; simp [Addr.add_mid]
  · cases hes
theorem slice_row {t e : TypeId} {k : Nat} {im : Nat → Prop} {x hx : Operand} {es es' : List (List PV)} {xs : List Value} {n0 : Nat} {j : Int}
    (hu : P.underlying t = some (.slice e)) (hsz : sizeB P e k = true) (hown : w.ownsRow n0 e k (a.eval x) es.length xs) (hl : RepL im w es.flatten xs) (hk : (∀ y ∈ es, y.length = k) ∧ ∀ u ∈ xs, u.oneCell' = true)
    (hhi : a.eval hx = .int .i64 j) (hes : Ar.std.sl es 0 j = some es') (ho : o.op = .slice t x none (some hx) none) :
    ∃ u ys, (execOp a.eval o).run P w = .ok (.value u) w ∧ w.ownsRow n0 e k u es'.length ys ∧ u.ownBlock = (a.eval x).ownBlock ∧ RepL im w es'.flatten ys ∧ ((∀ y ∈ es', y.length = k) ∧ ∀ u ∈ ys, u.oneCell' = true) := by
  simp only [Ar.std] at hes
  split at hes
  · rename_i hb
    simp only [Option.some.injEq, Int.toNat_zero, List.drop_zero, Nat.sub_zero] at hes
    subst hes
    obtain ⟨h0, hij, hjl⟩ := hb
    have hjn : j.toNat ≤ es.length := by omega
    have hlen : (es.take j.toNat).length = j.toNat := by rw [List.length_take]; omega
    have hs2 := sizeB_run hsz w
    have hflat : ∀ (m : Nat) (l : List (List PV)), (∀ y ∈ l, y.length = k) → (l.take m).flatten = l.flatten.take (m * k) := fun m l => by
      induction l generalizing m with
      | nil => simp
      | cons z l ih =>
        intro hz
        cases m with
        | zero => simp
        | succ m =>
          have h1 := hz z (by simp)
          rw [List.take_succ_cons, List.flatten_cons, List.flatten_cons, ih m fun y hy => hz y (by simp [hy]), Nat.add_mul, Nat.one_mul, Nat.add_comm, ← h1, List.take_length_add_append]
    have hlt : ∀ (m : Nat) (ps : List PV) (us : List Value), RepL im w ps us → RepL im w (ps.take m) (us.take m) := fun m ps => by
      induction ps generalizing m with
      | nil => intro us h; simp only [RepL] at h; subst h; simp [RepL]
      | cons p ps ih =>
        intro us h
        simp only [RepL] at h
        obtain ⟨y, ys, rfl, h1, h2⟩ := h
        cases m with
        | zero => simp [RepL]
        | succ m =>
          simp only [List.take_succ_cons, RepL]
          exact ⟨y, _, rfl, h1, ih m _ h2⟩
    have hrep : RepL im w (es.take j.toNat).flatten (xs.take (j.toNat * k)) := by rw [hflat _ _ hk.1]; exact hlt _ _ _ hl
    have hk' : (∀ y ∈ es.take j.toNat, y.length = k) ∧ ∀ u ∈ xs.take (j.toNat * k), u.oneCell' = true := ⟨fun y hy => hk.1 y (List.mem_of_mem_take hy), fun u hu => hk.2 u (List.mem_of_mem_take hu)⟩
    have hxl : (xs.take (j.toNat * k)).length = j.toNat * k := by
      rw [List.length_take, hown.1]
      exact Nat.min_eq_left (Nat.mul_le_mul_right _ hjn)
    rcases hown.2 with ⟨hv, hn0⟩ | ⟨g, cap, cur, hv, hbg, hgg, hcap, hm, hcs, hcur⟩
    · have hj0 : j.toNat = 0 := by omega
      have hsb := bounds_run (P := P) (w := w) (n := 0) (c := 0) (i := 0) (j := j) none (some (a.eval hx)) rfl (by simpa using hhi) (by omega) (by omega) (by omega) (by omega)
      refine ⟨.slice none 0 0, xs.take (j.toNat * k), ?_, ?_, by rw [hv], hrep, hk'⟩
      · simp only [execOp, ho, hv, Instr.sliceAt, Sem.run_bind, run_underlying hu w, Result.andThen_ok, Instr.slice, Option.map_none, Option.map_some, hsb, hs2, Sem.run_pure, hj0]
        simp
      · rw [hlen, hj0]
        exact ⟨by rw [hj0] at hxl; simpa using hxl, .inl ⟨rfl, rfl⟩⟩
    · have hsb := bounds_run (P := P) (w := w) (n := es.length) (c := cap) (i := 0) (j := j) none (some (a.eval hx)) rfl (by simpa using hhi) (by omega) (by omega) (by omega) hcap
      refine ⟨.slice (some ⟨g, 0, none⟩) j.toNat cap, xs.take (j.toNat * k), ?_, ?_, by rw [hv]; rfl, hrep, hk'⟩
      · simp only [execOp, ho, hv, Instr.sliceAt, Sem.run_bind, run_underlying hu w, Result.andThen_ok, Instr.slice, Option.map_none, Option.map_some, hsb, hs2, Sem.run_pure]
        simp [Addr.add]
      · rw [hlen]
        refine ⟨hxl, .inr ⟨g, cap, cur, rfl, hbg, hgg, by omega, hm, hcs, ?_⟩⟩
        rw [← hcur, List.take_take, Nat.min_eq_left (Nat.mul_le_mul_right _ hjn)]
  · cases hes
theorem evSlice_ok {ar : Ar} (har : ar = Ar.std) {T : TypeId → Lay} (hT : ∀ t, LayOK P t (T t)) (h : RelAt w0 im0 N D bm rm L a w) {t : TypeId} {x : Operand} {lo hi mx : Option Operand} {R : List Nat} {z : Deed} (hr : (evSlice ar T N o t x lo hi mx).run L R = some z) (ho : o.op = .slice t x lo hi mx) : Res P w0 im0 N D o a w (ovr z.1 L) := by
  subst har
  have hs := hT t
  unfold evSlice at hr
  split at hr
  · rename_i e esz bytes eagg ez hlay
    rw [hlay] at hs
    obtain ⟨hu, hsz, _⟩ := lay_sl hs
    replace hr := opd_inv h hr; obtain ⟨p, R1, hp, hr⟩ := hr
    split at hr
    · rename_i k es
      cases hk : Nat.beq k esz with
      | false => rw [hk] at hr; simp [AskR.run] at hr
      | true =>
        rw [hk] at hr
        have := Nat.eq_of_beq_eq_true hk; subst this
        simp only [cond_true] at hr
        replace hr := optI_inv h hr; obtain ⟨i, R2, hlo, hr⟩ := hr
        replace hr := optI_inv h hr; obtain ⟨j, R3, hhi, hr⟩ := hr
        split at hr
        · rename_i es' hes
          obtain ⟨u, h1, h2⟩ := slice_core (bytes := bytes) (eagg := eagg) (x := x) hu hsz hp.rep (by cases lo <;> simpa using hlo) (by cases hi <;> simpa [Ar.std] using hhi) hes ho
          exact res_put h (holds_pv h2) hr h1
        · simp [AskR.run] at hr
    · rename_i r
      simp only [AskR.run] at hr
      split at hr
      · rename_i e' k es hc
        cases hk : Nat.beq k esz with
        | false => rw [hk] at hr; simp [AskR.run] at hr
        | true =>
          rw [hk] at hr
          have := Nat.eq_of_beq_eq_true hk; subst this
          simp only [cond_true] at hr
          split at hr
          · rename_i d hkd
            obtain ⟨rfl, hxo, rfl, hdst⟩ : lo = none ∧ ∃ hx, hi = some hx ∧ o.dst = some d := by
              unfold keepD at hkd
              split at hkd
              · rename_i hx d' hd
                simp only [Option.some.injEq] at hkd
                subst hkd
                exact ⟨rfl, hx, rfl, hd⟩
              · cases hkd
            cases hok : okS N d && Nat.beq e' e with
            | false => rw [hok] at hr; simp [AskR.run] at hr
            | true =>
              rw [hok] at hr
              simp only [Bool.and_eq_true] at hok
              have he := Nat.eq_of_beq_eq_true hok.2
              subst he
              simp only [cond_true, AskR.run] at hr
              split at hr
              · rename_i hdn
                replace hr := optI_inv h hr; obtain ⟨j, R3, hhi, hr⟩ := hr
                split at hr
                · rename_i es' hes
                  simp only [AskR.run, Option.some.injEq] at hr
                  subst hr
                  have hx : a.eval x = rm r := by
                    obtain ⟨hx, _⟩ : a.eval x = rm r ∧ _ := hp.rep
                    exact hx
                  obtain ⟨xs, hown, hl, hkk⟩ := h.rows r e' k es hc
                  obtain ⟨u, ys, h1, h2, h3, h4, h5⟩ := slice_row (P := P) (o := o) (a := a) (x := x) (hx := hxo) (im := imOf w0.heap.size im0 bm rm L w) hu hsz (by rw [hx]; exact hown) hl hkk (by simpa using hhi) hes ho
                  rw [hx] at h3
                  have hir : isRow L r := ⟨e', k, es, hc⟩
                  have hnew := h.newRow (d := d) (r := r) (e := e') (k := k) (es := es') (v := u) (xs := ys) (w' := w) (row := (rm r).ownBlock) hdn ⟨rfl, rfl, rfl, Nat.le_refl _, fun _ _ _ => rfl⟩
                    (fun g hg => ⟨(hown.lt g hg).1, fun q hq e => h.br q r hq hir (by rw [hg, e]), fun t ht hne e => hne (h.rr t r g ht hir e hg), fun hi => hi.2.2.2 r hir hg, owns_not_mach hown hg⟩)
                    h2 (fun g hg => .inl (by rw [← h3, hg])) h4 h5
                  refine ⟨w, .inl ⟨u, h1, ?_⟩⟩
                  rw [ovr_cons, hdst]
                  obtain ⟨A', n', c', hv'⟩ : ∃ A n c, u = .slice A n c := by
                    rcases h2.2 with ⟨hv, _⟩ | ⟨g, cap, cur, hv, _⟩
                    · exact ⟨_, _, _, hv⟩
                    · exact ⟨_, _, _, hv⟩
                  refine ⟨_, _, hnew.put hok.1 ⟨by rw [updN_same], A', n', c', hv'⟩ (by simp [TV.boxes, CV.boxes]) (fun t ht => ?_)⟩
                  simp only [TV.rows, CV.rows, List.mem_singleton] at ht
                  subst ht
                  rw [ovr_cons, ovrR_R, if_pos rfl]; simp
                · simp [AskR.run] at hr
              · simp [AskR.run] at hr
          replace hr := optI_inv h hr; obtain ⟨i, R2, hlo, hr⟩ := hr
          replace hr := optI_inv h hr; obtain ⟨j, R3, hhi, hr⟩ := hr
          split at hr
          · rename_i es' hes
            obtain ⟨hf, hrep⟩ := h.freeze hc
            have hx : a.eval x = rm r := by
              obtain ⟨hx, _⟩ : a.eval x = rm r ∧ _ := hp.rep
              exact hx
            obtain ⟨u, h1, h2⟩ := slice_core (bytes := bytes) (eagg := eagg) (x := x) hu hsz (by rw [hx]; exact hrep) (by cases lo <;> simpa using hlo) (by cases hi <;> simpa [Ar.std] using hhi) hes ho
            obtain ⟨y, hy, he⟩ := putA_extra hr
            have := res_put hf (holds_pv h2) hy h1
            rw [he, ovr_append]
            exact this
          · simp [AskR.run] at hr
      · simp [AskR.run] at hr
    · simp [AskR.run] at hr
  · simp [AskR.run] at hr
end
end Go.Proofs.YtjimjdhdnkhfnaaGreat
