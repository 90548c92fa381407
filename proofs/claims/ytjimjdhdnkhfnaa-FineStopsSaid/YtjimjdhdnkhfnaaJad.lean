/- Contracts of functions of the program and of the reference, a calculus of states, and plain facts: a part of a proof. Own text. -/
import Derived.Test.YtjimjdhdnkhfnaaJab
import Derived.Test.YtjimjdhdnkhfnaaJac
import Derived.MapKept
import Derived.Laws.IdiomRangeMap
set_option linter.unusedVariables false
set_option linter.unusedSimpArgs false
set_option linter.unusedSectionVars false
set_option linter.unnecessarySimpa false
namespace Go.Proofs.Ytjimjdhdnkhfnaa
open Go Go.RowKit
section
variable {P : Program} {w0 : World} {im0 : Nat → Prop} {N : NN} {D : Env} {bm : Nat → Nat} {rm : Nat → Value} {L : Lk} {a : Act} {w w' : World} {o : Oper} {im im' : Nat → Prop}
theorem checkKey_run {t : TypeId} {z ps : List PV} {us : List Value} {x : Value} (em : Bool) (hf : flatKeyB P t = true) (hE : eqTB P 8 t z = true) (hk : kindsB z ps = true) (hr : RepL im w ps us) (hx : ValOf P t us x) :
    (Instr.checkKey em 10000 t x).run P w = .ok () w := by
  have scal : ∀ (n : Nat) (t : TypeId) (v : Value), scalB P t = true → (Instr.checkKey em (n + 1) t v).run P w = .ok () w := fun n t v h => by
    unfold scalB at h
    cases hu : P.underlying t with
    | none => simp [hu] at h
    | some d =>
      cases d <;> simp [hu] at h <;> simp [Instr.checkKey, Sem.run_bind, run_underlying hu]
  obtain ⟨d, hu, hx⟩ := hx
  cases hd : d with
  | struct fs =>
    subst hd
    obtain ⟨_, rfl⟩ := hx.resolve_right (by simp)
    unfold eqTB at hE
    simp only [hu, Bool.and_eq_true, Bool.not_eq_true'] at hE
    obtain ⟨_, hF⟩ := hE
    unfold flatKeyB at hf
    simp only [hu, List.all_eq_true] at hf
    rw [show (10000 : Nat) = 9999 + 1 from rfl, Instr.checkKey]
    simp only [Sem.run_bind, run_underlying hu, Result.andThen_ok]
    rw [← Array.forIn_toList]
    have hl := hr.len
    have hlz := kindsB_len hk
    have hL : ∀ f ∈ fs.toList, scalB P f.type = true := hf
    generalize fs.toList = L at hF hL
    generalize (0 : Nat) = off at hF
    clear hf hu
    induction L generalizing off with
    | nil => simp
    | cons f L ih =>
      simp only [eqFs, Bool.and_eq_true, bne_iff_ne, ne_eq, beq_iff_eq] at hF
      obtain ⟨⟨ho, hn⟩, hb⟩ := hF
      cases hi : P.info? f.type with
      | none => simp [hi] at hb
      | some i =>
        simp only [hi, Bool.and_eq_true, Nat.ble_eq] at hb
        obtain ⟨⟨hb1, hb2⟩, hb3⟩ := hb
        obtain ⟨e, hue, hone⟩ := eqTB_info hb1
        have h1 : e.isRow = false → i.size = 1 := fun hr => by have := hone hr; simp at this; omega
        obtain ⟨a, pa, va⟩ := part_val (P := P) (us := us) (off := off) hue hi (by omega) h1 w
        have hc := scal 9998 f.type a (hL f (by simp))
        subst ho
        simp only [List.forIn_cons, ne_eq, hn, not_false_eq_true, if_true, Sem.run_bind, pa, hc, Result.andThen_ok, Sem.run_pure]
        exact ih (fun g hg => hL g (by simp [hg])) _ hb3
  | _ =>
    subst hd
    refine scal 9999 t x ?_
    unfold flatKeyB at hf
    unfold scalB
    first | (rw [hu]; done) | (rw [hu] at hf ⊢; exact hf)
theorem eqPs_same {w1 w2 : World} : ∀ {z ps qs : List PV} {us vs : List Value}, kindsB z ps = true → kindsB z qs = true → eqPs ps qs = true → RepL im w1 ps us → RepL im' w2 qs vs → us = vs ∧ ps = qs
  | [], [], [], us, vs, _, _, _, h1, h2 => by simp only [RepL] at h1 h2; subst h1; subst h2; exact ⟨rfl, rfl⟩
  | [], _ :: _, _, _, _, h, _, _, _, _ => by simp [kindsB] at h
  | [], [], _ :: _, _, _, _, h, _, _, _ => by simp [kindsB] at h
  | _ :: _, [], _, _, _, h, _, _, _, _ => by simp [kindsB] at h
  | _ :: _, _ :: _, [], _, _, _, h, _, _, _ => by simp [kindsB] at h
  | z :: zs, p :: ps, q :: qs, us, vs, hp, hq, he, h1, h2 => by
    simp only [kindsB, Bool.and_eq_true] at hp hq
    simp only [eqPs, Bool.and_eq_true] at he
    simp only [RepL] at h1 h2
    obtain ⟨x, xs, rfl, hx, h1⟩ := h1
    obtain ⟨y, ys, rfl, hy, h2⟩ := h2
    obtain ⟨rfl, rfl⟩ := eqPs_same hp.2 hq.2 he.2 h1 h2
    have hp1 := hp.1
    have hq1 := hq.1
    have he1 := he.1
    have : x = y ∧ p = q := by
      unfold kindB at hp1
      split at hp1
      · unfold kindB at hq1
        split at hq1
        · simp only [RepP] at hx hy
          simp only [eqS, beq_iff_eq] at he1
          subst he1; subst hx; subst hy; exact ⟨rfl, rfl⟩
        · rename_i h8; cases h8
        · rename_i h8; cases h8
        · cases hq1
      · unfold kindB at hq1
        split at hq1
        · rename_i h8; cases h8
        · simp only [RepP] at hx hy
          simp only [eqS, beq_iff_eq] at he1
          subst he1; subst hx; subst hy; exact ⟨rfl, rfl⟩
        · rename_i h8; cases h8
        · cases hq1
      · unfold kindB at hq1
        split at hq1
        · rename_i h8; cases h8
        · rename_i h8; cases h8
        · simp only [RepP] at hx hy
          simp only [eqS, beq_iff_eq] at he1
          have h9 : ∀ b c : ByteArray, b.toList = c.toList → b = c := fun b c h => by
            rw [ByteArray.toList_eq, ByteArray.toList_eq] at h
            exact ByteArray.ext (Array.toList_inj.1 h)
          have h8 := h9 _ _ he1
          subst h8; subst hx; subst hy; exact ⟨rfl, rfl⟩
        · cases hq1
      · cases hp1
    exact ⟨by rw [this.1], by rw [this.2]⟩
theorem kinds_one : ∀ {z ps : List PV} {us : List Value}, kindsB z ps = true → RepL im w ps us → ∀ u ∈ us, u.oneCell' = true
  | [], [], us, _, h, u, hu => by simp only [RepL] at h; subst h; simp at hu
  | [], _ :: _, _, h, _, _, _ => by simp [kindsB] at h
  | _ :: _, [], _, h, _, _, _ => by simp [kindsB] at h
  | q :: z, p :: ps, us, hk, h, u, hu => by
    simp only [kindsB, Bool.and_eq_true] at hk
    simp only [RepL] at h
    obtain ⟨x, xs, rfl, hp, h⟩ := h
    rcases List.mem_cons.1 hu with rfl | hu
    · have hk1 := hk.1
      unfold kindB at hk1
      split at hk1
      · simp only [RepP] at hp; subst hp; rfl
      · simp only [RepP] at hp; subst hp; rfl
      · simp only [RepP] at hp; subst hp; rfl
      · cases hk1
    · exact kinds_one hk.2 h u hu
def mRes (kn : Nat) (key : List PV) : List (List PV) → List MapEntry → Nat → Option (Nat × Value)
  | e :: es, m :: ms, i => if eqPs key (e.take kn) then some (i, m.val) else mRes kn key es ms (i + 1)
  | _, _, _ => none
theorem valOf_val {t : TypeId} {g : Bool} {us : List Value} (h : aggB P t g = true) (hl : g = false → us.length = 1) : ValOf P t us (valOf g us) := by
  obtain ⟨_, d, hu, hd⟩ := aggB_run h default
  refine ⟨d, hu, ?_⟩
  cases g with
  | true => exact .inl ⟨hd, rfl⟩
  | false =>
    refine .inr ⟨hd, ?_⟩
    match us, hl rfl with
    | [x], _ => rfl
theorem eqTB_len {t : TypeId} {z : List PV} {d : TypeDesc} (h : eqTB P 8 t z = true) (hu : P.underlying t = some d) (hd : d.isRow = false) : z.length = 1 := by
  obtain ⟨e, he, h1⟩ := eqTB_info h
  rw [hu] at he; cases he
  exact h1 hd
theorem findAsking_run {t : TypeId} {ka va : Bool} {kz ps : List PV} {us : List Value} {x : Value} (hE : eqTB P 8 t kz = true) (hA : aggB P t ka = true) (hk : kindsB kz ps = true) (hr : RepL im w ps us) (hx : ValOf P t us x) :
    ∀ (es : List (List PV)) (ms : List MapEntry) (i : Nat), RepM im' w' ka va kz es ms → (Instr.findAsking t x ms i).run P w = .ok (mRes kz.length ps es ms i) w
  | [], ms, i, h => by simp only [RepM] at h; subst h; simp [Instr.findAsking, mRes]
  | e :: es, ms, i, h => by
    simp only [RepM] at h
    obtain ⟨m, r, vs, rfl, h1, _, h3, h4, h5, h6⟩ := h
    have hlz := kindsB_len h3
    have hlen := (h1.take kz.length).len
    have hv : ValOf P t (vs.take kz.length) m.key := by
      rw [h4]
      refine valOf_val hA fun hg => ?_
      obtain ⟨_, d, hu, hd⟩ := aggB_run hA default
      rw [hlen, hlz]; exact eqTB_len hE hu (by rw [hd, hg])
    have he : (Op.equal t x m.key).run P w = .ok (eqPs ps (e.take kz.length)) w := equal_run 8 t kz hE 10000 (by decide) _ _ _ _ _ _ hk h3 hr (h1.take _) hx hv w
    have ih := findAsking_run hE hA hk hr hx es r (i + 1) h6
    simp only [Instr.findAsking, Sem.run_bind, he, Result.andThen_ok, mRes]
    cases eqPs ps (e.take kz.length)
    · simpa using ih
    · simp
theorem findKey_run {t : TypeId} {ka va : Bool} {kz ps : List PV} {us : List Value} {x : Value} (hE : eqTB P 8 t kz = true) (hA : aggB P t ka = true) (hk : kindsB kz ps = true) (hr : RepL im w ps us) (hx : ValOf P t us x)
    {es : List (List PV)} {ms : List MapEntry} (h : RepM im' w' ka va kz es ms) : (Instr.findKey t x ms).run P w = .ok (mRes kz.length ps es ms 0) w := by
  have hask := findAsking_run (im' := im') (w' := w') (va := va) hE hA hk hr hx es ms 0 h
  obtain ⟨d, hu, hx'⟩ := hx
  have now : (Instr.findNow d x ms 0 = none) ∨ Instr.findNow d x ms 0 = some (mRes kz.length ps es ms 0) := by
    have gen : ∀ (es : List (List PV)) (ms : List MapEntry) (i : Nat), RepM im' w' ka va kz es ms → (Instr.findNow d x ms i = none) ∨ Instr.findNow d x ms i = some (mRes kz.length ps es ms i) := by
      intro es
      induction es with
      | nil => intro ms i h; simp only [RepM] at h; subst h; exact .inr (by simp [Instr.findNow, mRes])
      | cons e es ih =>
        intro ms i h
        simp only [RepM] at h
        obtain ⟨m, r, vs, rfl, h1, _, h3, h4, h5, h6⟩ := h
        have hlz := kindsB_len h3
        have hlen := (h1.take kz.length).len
        obtain ⟨_, d', hu', hd'⟩ := aggB_run hA default
        rw [hu] at hu'; cases hu'
        simp only [Instr.findNow, mRes]
        cases hs : Instr.sameNow d x m.key with
        | none => exact .inl rfl
        | some b =>
          have hb : b = eqPs ps (e.take kz.length) := by
            have hv : ValOf P t (vs.take kz.length) m.key := by
              rw [h4]
              refine valOf_val hA fun hg => ?_
              rw [hlen, hlz]; exact eqTB_len hE hu (by rw [hd', hg])
            have he : (Op.equalIn 10000 t x m.key).run P w = .ok (eqPs ps (e.take kz.length)) w := equal_run 8 t kz hE 10000 (by decide) _ _ _ _ _ _ hk h3 hr (h1.take _) ⟨d, hu, hx'⟩ hv w
            have e1 : ∀ (D : Nat) (q : IntKind) (k : IntKind) (a b : Int), d = .int q → (Op.equalIn (D + 1) t (.int k a) (.int k b)).run P w = .ok (a == b) w := fun D q k a b hd => by
              subst hd; simp [Op.equalIn, run_underlying hu]
            have e2 : ∀ (D : Nat) (a b : ByteArray), d = .string → (Op.equalIn (D + 1) t (.string a) (.string b)).run P w = .ok (a.toList == b.toList) w := fun D a b hd => by
              subst hd; exact run_equalIn_string _ _ _ _ _ hu
            have e3 : ∀ (D : Nat) (a b : Bool), d = .bool → (Op.equalIn (D + 1) t (.bool a) (.bool b)).run P w = .ok (a == b) w := fun D a b hd => by
              subst hd; simp [Op.equalIn, run_underlying hu]
            have inj : ∀ {b c : Bool}, (Result.ok b w : Result Bool) = .ok c w → b = c := fun h => by cases h; rfl
            rw [show (10000 : Nat) = 9999 + 1 from rfl] at he
            generalize (9999 : Nat) = D at he
            unfold Instr.sameNow at hs
            split at hs
            · rename_i hx1 hx2
              split at hs
              · rename_i hkk
                subst hkk
                rw [hx2, e1 D _ _ _ _ rfl] at he
                simp only [Option.some.injEq] at hs
                rw [← hs]; exact inj he
              · cases hs
            · rename_i hx1 hx2
              rw [hx2, e2 D _ _ rfl] at he
              simp only [Option.some.injEq] at hs
              rw [← hs, beq_toListBytes]; exact inj he
            · rename_i hx1 hx2
              rw [hx2, e3 D _ _ rfl] at he
              simp only [Option.some.injEq] at hs
              rw [← hs]; exact inj he
            · cases hs
          subst hb
          cases hq : eqPs ps (e.take kz.length) with
          | true => exact .inr (by simp)
          | false => simpa using ih r (i + 1) h6
    exact gen es ms 0 h
  unfold Instr.findKey
  simp only [Sem.run_bind, run_underlying hu, Result.andThen_ok]
  rcases now with hn | hn
  · simp only [hn]; exact hask
  · simp only [hn, Sem.run_pure]
theorem mRes_find (kn : Nat) (key : List PV) {ka va : Bool} {kz : List PV} : ∀ (es : List (List PV)) (ms : List MapEntry) (i : Nat), RepM im w ka va kz es ms →
    match mFind kn key es with
    | none => mRes kn key es ms i = none
    | some j => ∃ m e, ms[j]? = some m ∧ es[j]? = some e ∧ eqPs key (e.take kn) = true ∧ mRes kn key es ms i = some (i + j, m.val)
  | [], ms, i, h => by simp [mFind, mRes]
  | e :: es, ms, i, h => by
    simp only [RepM] at h
    obtain ⟨m, r, vs, rfl, h1, _, h3, h4, h5, h6⟩ := h
    simp only [mFind, mRes]
    cases hq : eqPs key (e.take kn) with
    | true => exact ⟨m, e, rfl, rfl, hq, by simp⟩
    | false =>
      have ih := mRes_find kn key es r (i + 1) h6
      simp only [Bool.false_eq_true, if_false]
      cases hf : mFind kn key es with
      | none => rw [hf] at ih; simpa using ih
      | some j =>
        rw [hf] at ih
        obtain ⟨m', e', a1, a2, a3, a4⟩ := ih
        exact ⟨m', e', by simpa using a1, by simpa using a2, a3, by rw [a4]; simp; omega⟩
theorem repM_get {ka va : Bool} {kz : List PV} : ∀ {es : List (List PV)} {ms : List MapEntry}, RepM im w ka va kz es ms → ∀ {j : Nat} {m : MapEntry} {e : List PV}, ms[j]? = some m → es[j]? = some e →
    ∃ us : List Value, RepL im w e us ∧ (∀ u ∈ us, u.oneCell' = true) ∧ kindsB kz (e.take kz.length) = true ∧ m.key = valOf ka (us.take kz.length) ∧ m.val = valOf va (us.drop kz.length)
  | [], ms, h, j, m, e, hm, he => by simp at he
  | x :: es, ms, h, j, m, e, hm, he => by
    simp only [RepM] at h
    obtain ⟨m', r, vs, rfl, h1, h2, h3, h4, h5, h6⟩ := h
    cases j with
    | zero => simp at hm he; subst hm; subst he; exact ⟨vs, h1, h2, h3, h4, h5⟩
    | succ j => exact repM_get h6 (by simpa using hm) (by simpa using he)
theorem repM_len {ka va : Bool} {kz : List PV} : ∀ {es : List (List PV)} {ms : List MapEntry}, RepM im w ka va kz es ms → ms.length = es.length
  | [], ms, h => by simp only [RepM] at h; subst h; rfl
  | x :: es, ms, h => by
    simp only [RepM] at h
    obtain ⟨m', r, vs, rfl, _, _, _, _, _, h6⟩ := h
    simp [repM_len h6]
theorem repM_push {ka va : Bool} {kz : List PV} {m : MapEntry} {e : List PV} (hm : RepM im w ka va kz [e] [m]) : ∀ {es : List (List PV)} {ms : List MapEntry}, RepM im w ka va kz es ms → RepM im w ka va kz (es ++ [e]) (ms ++ [m])
  | [], ms, h => by simp only [RepM] at h; subst h; simpa using hm
  | x :: es, ms, h => by
    simp only [RepM] at h
    obtain ⟨m', r, vs, rfl, h1, h2, h3, h4, h5, h6⟩ := h
    simp only [List.cons_append]
    rw [RepM]
    exact ⟨m', _, vs, rfl, h1, h2, h3, h4, h5, repM_push hm h6⟩
theorem repM_set {ka va : Bool} {kz : List PV} {f : MapEntry → MapEntry} {e : List PV} : ∀ {es : List (List PV)} {ms : List MapEntry} {j : Nat}, RepM im w ka va kz es ms → (∀ m, ms[j]? = some m → RepM im w ka va kz [e] [f m]) → RepM im w ka va kz (es.set j e) (ms.modify j f)
  | [], ms, j, h, _ => by simp only [RepM] at h; subst h; simp [RepM]
  | x :: es, ms, j, h, hf => by
    simp only [RepM] at h
    obtain ⟨m', r, vs, rfl, h1, h2, h3, h4, h5, h6⟩ := h
    cases j with
    | zero =>
      have h9 := hf m' rfl
      simp only [List.set_cons_zero, List.modify_zero_cons]
      rw [RepM] at h9 ⊢
      obtain ⟨m2, r2, vs2, he, g1, g2, g3, g4, g5, g6⟩ := h9
      cases he
      exact ⟨_, _, vs2, rfl, g1, g2, g3, g4, g5, h6⟩
    | succ j =>
      simp only [List.set_cons_succ, List.modify_succ_cons]
      rw [RepM]
      exact ⟨m', _, vs, rfl, h1, h2, h3, h4, h5, repM_set h6 (fun m hm => hf m (by simpa using hm))⟩
theorem sameBits_valOf {z ps : List PV} {us : List Value} (g : Bool) (hk : kindsB z ps = true) (h : RepL im w ps us) (h1 : g = false → us.length = 1) : Instr.sameBits 10000 (valOf g us) (valOf g us) = true := by
  have one : ∀ (n : Nat) (p q : PV) (u : Value), kindB q p = true → RepP im w p u → Instr.sameBits (n + 1) u u = true := fun n p q u hk h => by
    unfold kindB at hk
    split at hk
    · simp only [RepP] at h; subst h; simp [Instr.sameBits]
    · simp only [RepP] at h; subst h; simp [Instr.sameBits]
    · simp only [RepP] at h; subst h
      have : ∀ b : ByteArray, (b == b) = true := fun b => by rw [beq_toListBytes]; simp
      simp [Instr.sameBits, this]
    · cases hk
  cases g with
  | false =>
    match us, h1 rfl with
    | [u], _ =>
      match ps, h with
      | [p], h =>
        simp only [RepL] at h
        obtain ⟨x, xs, he, hp, rfl⟩ := h
        cases he
        have hz := kindsB_len hk
        match z, hk, hz with
        | [q], hk, _ =>
          simp only [kindsB, Bool.and_true] at hk
          exact one 9999 p q u hk hp
      | p :: q :: r, h =>
        simp only [RepL] at h
        obtain ⟨x, xs, he, _, y, ys, he2, _⟩ := h
        cases he; cases he2
      | [], h => simp [RepL] at h
  | true =>
    have all : ∀ (z ps : List PV) (us : List Value), kindsB z ps = true → RepL im w ps us → (us.zip us).all (fun (x, y) => Instr.sameBits 9999 x y) = true := by
      intro z
      induction z with
      | nil =>
        intro ps us hk h
        cases ps with
        | nil => simp only [RepL] at h; subst h; rfl
        | cons p ps => simp [kindsB] at hk
      | cons q z ih =>
        intro ps us hk h
        cases ps with
        | nil => simp [kindsB] at hk
        | cons p ps =>
          simp only [kindsB, Bool.and_eq_true] at hk
          simp only [RepL] at h
          obtain ⟨x, xs, rfl, hp, h⟩ := h
          simp only [List.zip_cons_cons, List.all_cons, Bool.and_eq_true]
          exact ⟨one 9998 p q x hk.1 hp, ih ps xs hk.2 h⟩
    simp only [valOf]
    rw [show (10000 : Nat) = 9999 + 1 from rfl]
    unfold Instr.sameBits
    simp only [List.size_toArray, beq_self_eq_true, Bool.true_and]
    simpa using all z ps us hk h
def pvOf : Bool → List PV → PV
  | true, cs => .agg cs
  | false, cs => cs.headD .nil
theorem lay_mp {t kt et : TypeId} {ka va : Bool} {kz vz : List PV} (h : LayOK P t (.mp kt et ka va kz vz)) :
    P.underlying t = some (.map kt et) ∧ eqTB P 8 kt kz = true ∧ flatKeyB P kt = true ∧ aggB P kt ka = true ∧ aggB P et va = true ∧ zeroOfB P et vz = true ∧ (va = false → vz.length = 1) ∧ zshapeB P et va = true := by
  unfold LayOK layB at h
  simp only [Bool.and_eq_true] at h
  obtain ⟨⟨⟨⟨⟨⟨⟨⟨⟨h1, _⟩, _⟩, h2⟩, h3⟩, h4⟩, h5⟩, h6⟩, h7⟩, h8⟩ := h
  refine ⟨?_, h2, h3, h4, h5, h6, fun hv => ?_, h8⟩
  · split at h1
    · rename_i k e hu
      simp only [Bool.and_eq_true, beq_iff_eq] at h1
      obtain ⟨rfl, rfl⟩ := h1
      exact hu
    · cases h1
  · subst hv
    simpa using h7
theorem pvOf_rep {g : Bool} {ps : List PV} {us : List Value} (h : RepL im w ps us) (h1 : g = false → us.length = 1) : RepP im w (pvOf g ps) (valOf g us) := by
  cases g with
  | true => simp only [pvOf, valOf, RepP]; exact ⟨us, rfl, h⟩
  | false =>
    match us, h1 rfl with
    | [u], _ =>
      match ps, h with
      | [p], h =>
        simp only [RepL] at h
        obtain ⟨x, xs, he, hp, rfl⟩ := h
        cases he
        exact hp
      | p :: q :: r, h =>
        simp only [RepL] at h
        obtain ⟨x, xs, he, _, y, ys, he2, _⟩ := h
        cases he; cases he2
      | [], h => simp [RepL] at h
def keyA {β : Type} (ka : Bool) (kz : List PV) (x : Operand) (f : List PV → AskR β) : AskR β := opd x fun v => match ka, v with
  | true, .agg cs => (match asPs cs with
    | some ps => bif kindsB kz ps then f ps else .fail
    | none => .fail)
  | false, .c (.p p) => bif kindsB kz [p] then f [p] else .fail
  | _, _ => .fail
theorem keyA_ok {β : Type} (h : RelAt w0 im0 N D bm rm L a w) {kt : TypeId} {ka : Bool} {kz : List PV} (hA : aggB P kt ka = true) {x : Operand} {f : List PV → AskR β} {R : List Nat} {y : β × List Nat} (hr : (keyA ka kz x f).run L R = some y) :
    ∃ ps us R', kindsB kz ps = true ∧ RepL (imOf w0.heap.size im0 bm rm L w) w ps us ∧ a.eval x = valOf ka us ∧ (ka = false → us.length = 1) ∧ ValOf P kt us (a.eval x) ∧ (f ps).run L R' = some y := by
  replace hr := opd_inv h hr; obtain ⟨v, R1, hv, hr⟩ := hr
  obtain ⟨hisA, d, hu, hd⟩ := aggB_run hA w
  clear hisA
  split at hr
  · rename_i cs
    split at hr
    · rename_i ps hps
      cases hk : kindsB kz ps with
      | false => rw [hk] at hr; simp [AskR.run] at hr
      | true =>
        rw [hk] at hr
        obtain ⟨us, hx, hrep⟩ := hv.rep
        have := asPs_get hps
        subst this
        exact ⟨ps, us, R1, hk, pure_back hrep, hx, (fun h => by cases h), ⟨d, hu, .inl ⟨hd, hx⟩⟩, hr⟩
    · simp [AskR.run] at hr
  · rename_i p
    cases hk : kindsB kz [p] with
    | false => rw [hk] at hr; simp [AskR.run] at hr
    | true =>
      rw [hk] at hr
      have hp : RepP _ w p (a.eval x) := hv.rep
      exact ⟨[p], [a.eval x], R1, hk, ⟨_, [], rfl, hp, rfl⟩, rfl, fun _ => rfl, ⟨d, hu, .inr ⟨hd, rfl⟩⟩, hr⟩
  · simp [AskR.run] at hr
def mapA {β : Type} (x : Operand) (ka va : Bool) (kz : List PV) (f : List (List PV) → AskR β) : AskR β := opd x fun v => match v with
  | .c (.p .nilm) => f []
  | .c (.p (.map ka' va' kz' es)) => bif (ka' == ka) && (va' == va) && kindsB kz kz' then f es else .fail
  | .c (.mp k) => .get (kB k) fun c => match c with
    | .obj (.map ka' va' kz' es) => bif (ka' == ka) && (va' == va) && kindsB kz kz' then f es else .fail
    | _ => .fail
  | _ => .fail
theorem kindB_trans {x y z : PV} (h : kindB x y = true) (k : kindB y z = true) : kindB x z = true := by
  unfold kindB at h
  split at h
  · unfold kindB at k
    split at k
    · rfl
    · rename_i h8; cases h8
    · rename_i h8; cases h8
    · cases k
  · unfold kindB at k
    split at k
    · rename_i h8; cases h8
    · rfl
    · rename_i h8; cases h8
    · cases k
  · unfold kindB at k
    split at k
    · rename_i h8; cases h8
    · rename_i h8; cases h8
    · rfl
    · cases k
  · cases h
theorem kindsB_trans : ∀ {x y z : List PV}, kindsB x y = true → kindsB y z = true → kindsB x z = true
  | [], [], [], _, _ => rfl
  | [], [], _ :: _, _, k => by simp [kindsB] at k
  | [], _ :: _, _, h, _ => by simp [kindsB] at h
  | _ :: _, [], _, h, _ => by simp [kindsB] at h
  | _ :: _, _ :: _, [], _, k => by simp [kindsB] at k
  | a :: x, b :: y, c :: z, h, k => by
    simp only [kindsB, Bool.and_eq_true] at h k ⊢
    exact ⟨kindB_trans h.1 k.1, kindsB_trans h.2 k.2⟩
theorem repM_kz {ka va : Bool} {kz kz' : List PV} (hk : kindsB kz kz' = true) : ∀ {es : List (List PV)} {ms : List MapEntry}, RepM im w ka va kz' es ms → RepM im w ka va kz es ms
  | [], ms, h => by simpa only [RepM] using h
  | e :: es, ms, h => by
    simp only [RepM] at h ⊢
    obtain ⟨m, r, us, rfl, h1, h2, h3, h4, h5, h6⟩ := h
    have hl := kindsB_len hk
    rw [hl] at h3 h4 h5
    exact ⟨m, r, us, rfl, h1, h2, kindsB_trans hk h3, h4, h5, repM_kz hk h6⟩
theorem mapA_ok {β : Type} (h : RelAt w0 im0 N D bm rm L a w) {ka va : Bool} {kz : List PV} {x : Operand} {f : List (List PV) → AskR β} {R : List Nat} {y : β × List Nat} (hr : (mapA x ka va kz f).run L R = some y) :
    ∃ es R', ((a.eval x = .map none ∧ es = []) ∨ ∃ b ms clock, a.eval x = .map (some b) ∧ w.heap[b]? = some (.map ms clock) ∧ MapOK ms.toList clock ∧ RepM (imOf w0.heap.size im0 bm rm L w) w ka va kz es ms.toList) ∧ (f es).run L R' = some y := by
  replace hr := opd_inv h hr; obtain ⟨v, R1, hv, hr⟩ := hr
  split at hr
  · have hx : a.eval x = .map none := hv.rep
    exact ⟨[], R1, .inl ⟨hx, rfl⟩, hr⟩
  · rename_i ka' va' kz' es
    cases hg : (ka' == ka) && (va' == va) && kindsB kz kz' with
    | false => rw [hg] at hr; simp [AskR.run] at hr
    | true =>
      rw [hg] at hr
      simp only [Bool.and_eq_true, beq_iff_eq] at hg
      obtain ⟨⟨rfl, rfl⟩, hk⟩ := hg
      obtain ⟨b, ms, clock, hx, _, hb, hok, hm⟩ : ∃ b ms clock, a.eval x = .map (some b) ∧ imOf w0.heap.size im0 bm rm L w b ∧ w.heap[b]? = some (.map ms clock) ∧ MapOK ms.toList clock ∧ RepM _ w ka' va' kz' es ms.toList := by have := hv.rep; simpa only [RepT, RepV, RepP] using this
      exact ⟨es, R1, .inr ⟨b, ms, clock, hx, hb, hok, repM_kz hk hm⟩, hr⟩
  · rename_i k
    simp only [AskR.run] at hr
    split at hr
    · rename_i ka' va' kz' es hc
      cases hg : (ka' == ka) && (va' == va) && kindsB kz kz' with
      | false => rw [hg] at hr; simp [AskR.run] at hr
      | true =>
        rw [hg] at hr
        simp only [Bool.and_eq_true, beq_iff_eq] at hg
        obtain ⟨⟨rfl, rfl⟩, hk⟩ := hg
        have hx : a.eval x = .map (some (bm k)) := hv.rep
        obtain ⟨O, hO, hrep, _⟩ := h.objs k _ hc
        obtain ⟨ms, clock, rfl, hok, hm⟩ := hrep
        exact ⟨es, _, .inr ⟨bm k, ms, clock, hx, hO, hok, repM_kz hk hm⟩, hr⟩
    · simp [AskR.run] at hr
  · simp [AskR.run] at hr
def evMakeMap (T : TypeId → Lay) (N : NN) (o : Oper) (t : TypeId) : Ask := match T t, o.dst with
  | .mp _ _ ka va kz _, some d => .get (kB d) fun c => match c with
    | .none => bif okS N d then .done [(kT d, .t (.c (.mp d))), (kB d, .obj (.map ka va kz []))] else .fail
    | _ => .fail
  | _, _ => .fail
theorem evMakeMap_ok {T : TypeId → Lay} (h : RelAt w0 im0 N D bm rm L a w) {t : TypeId} {R : List Nat} {z : Deed} (hr : (evMakeMap T N o t).run L R = some z) (ho : o.op = .makeMap t none) : Res P w0 im0 N D o a w (ovr z.1 L) := by
  unfold evMakeMap at hr
  split at hr
  · rename_i ka va kz vz d hlay hd
    simp only [AskR.run] at hr
    split at hr
    · rename_i hc
      cases hg : okS N d with
      | false => rw [hg] at hr; simp [AskR.run] at hr
      | true =>
        rw [hg] at hr
        simp only [cond_true, AskR.run, Option.some.injEq] at hr
        subst hr
        have hn := h.newObj (o := .map ka va kz []) (O := .map #[] 0) hc ⟨#[], 0, rfl, ⟨by simp, by simp⟩, by simp [RepM]⟩
        refine ⟨w.alloc (.map #[] 0), .inl ⟨.map (some w.heap.size), ?_, ?_⟩⟩
        · simp [execOp, ho, Instr.makeMap, go_sem]
        · rw [ovr_cons, hd]
          refine ⟨_, _, hn.put hg (v := .c (.mp d)) (by simp [RepT, RepV, updN_same]) (fun k hk => ?_) (by simp [TV.rows, CV.rows])⟩
          simp only [TV.boxes, CV.boxes, List.mem_singleton] at hk
          subst hk
          rw [ovrB_B, if_pos rfl]; simp
    · simp [AskR.run] at hr
  · simp [AskR.run] at hr
def evLookup (ar : Ar) (T : TypeId → Lay) (N : NN) (o : Oper) (t : TypeId) (x ix : Operand) (ok : Bool) : Ask := match T t with
  | .mp _ _ ka va kz vz => mapA x ka va kz fun es => keyA ka kz ix fun ps => match va, ok, ar.mg kz.length es ps vz with
    | true, false, vs => putA N o.dst (.agg (vs.map .p)) []
    | false, false, [p] => putA N o.dst (TV.ofPV p) []
    | true, true, vs => putA N o.dst (.c (.p (.tup [.agg vs, .bool (ar.mh kz.length es ps)]))) []
    | false, true, [p] => putA N o.dst (.c (.p (.tup [p, .bool (ar.mh kz.length es ps)]))) []
    | _, _, _ => .fail
  | _ => .fail
theorem lookup_run {t kt et : TypeId} {ka va : Bool} {kz vz : List PV} (hl : LayOK P t (.mp kt et ka va kz vz)) {x key : Value} {es : List (List PV)} {ps : List PV} {us : List Value}
    (hx : (x = .map none ∧ es = []) ∨ ∃ b ms clock, x = .map (some b) ∧ w.heap[b]? = some (.map ms clock) ∧ MapOK ms.toList clock ∧ RepM im w ka va kz es ms.toList)
    (hk : kindsB kz ps = true) (hr : RepL im w ps us) (hkey : key = valOf ka us) (hv : ValOf P kt us key) (ok : Bool) :
    ∃ vs : List Value, RepL im w (mGet kz.length es ps vz) vs ∧ (va = false → (mGet kz.length es ps vz).length = 1 → vs.length = 1) ∧
      (Instr.lookup t x key ok).run P w = .ok (if ok then .tuple #[valOf va vs, .bool (mFind kz.length ps es).isSome] else valOf va vs) w := by
  obtain ⟨hu, hE, hF, hA, hB, hZ, hlen, hzs⟩ := lay_mp hl
  obtain ⟨zv, hz, hzr, _, i, hi, hiz⟩ := zeroOfB_run hZ w
  have hzval : zv = valOf va zv.cells.toList := by
    unfold zshapeB at hzs
    simp only [hi, hiz] at hzs
    cases zv <;> simp only [Bool.not_eq_true'] at hzs <;> first | (subst hzs; rfl) | cases hzs
  unfold Instr.lookup
  rcases hx with ⟨rfl, rfl⟩ | ⟨b, ms, clock, rfl, hb, _, hm⟩
  · have hck := checkKey_run (w := w) (#[] : Array MapEntry).isEmpty hF hE hk hr hv
    have hm : RepM im w ka va kz [] ([] : List MapEntry) := by simp [RepM]
    have hfk := findKey_run (w := w) hE hA hk hr hv hm
    obtain ⟨es, hes⟩ : ∃ es : List (List PV), es = [] := ⟨_, rfl⟩
    rw [← hes] at hm hfk ⊢
    have hmf := mRes_find kz.length ps es [] 0 hm
    cases hf : mFind kz.length ps es with
    | none =>
      rw [hf] at hmf
      have hmf : mRes kz.length ps es [] 0 = none := hmf
      refine ⟨zv.cells.toList, by unfold mGet; rw [hf]; exact hzr _ _, fun _ h9 => ?_, ?_⟩
      · unfold mGet at h9; rw [hf] at h9
        rw [(hzr (fun _ => True) w).len]; exact h9
      · simp only [Sem.run_bind, run_underlying hu, Result.andThen_ok, Sem.run_pure,  hck, hfk, hmf, hz, ← hzval, Option.isSome_none]
    | some j =>
      rw [hf] at hmf
      obtain ⟨m, e, a1, a2, a3, a4⟩ := hmf
      obtain ⟨us', b1, b2, b3, b4, b5⟩ := repM_get hm a1 a2
      have hd : mGet kz.length es ps vz = e.drop kz.length := by unfold mGet; rw [hf]; simp only [List.getD_eq_getElem?_getD, a2, Option.getD_some]
      refine ⟨us'.drop kz.length, by rw [hd]; exact b1.drop _, fun _ h9 => by rw [hd] at h9; rw [(b1.drop kz.length).len]; exact h9, ?_⟩
      simp only [Sem.run_bind, run_underlying hu, Result.andThen_ok, Sem.run_pure,  hck, hfk, a4, ← b5, Option.isSome_some]
  · have hck := checkKey_run (w := w) ms.isEmpty hF hE hk hr hv
    have hfk := findKey_run (w := w) hE hA hk hr hv hm
    have hmf := mRes_find kz.length ps es ms.toList 0 hm
    cases hf : mFind kz.length ps es with
    | none =>
      rw [hf] at hmf
      have hmf : mRes kz.length ps es ms.toList 0 = none := hmf
      refine ⟨zv.cells.toList, by unfold mGet; rw [hf]; exact hzr _ _, fun _ h9 => ?_, ?_⟩
      · unfold mGet at h9; rw [hf] at h9
        rw [(hzr (fun _ => True) w).len]; exact h9
      · simp only [Sem.run_bind, run_underlying hu, Result.andThen_ok, Sem.run_pure, MapKept.run_getObj_map hb, hck, hfk, hmf, hz, ← hzval, Option.isSome_none]
    | some j =>
      rw [hf] at hmf
      obtain ⟨m, e, a1, a2, a3, a4⟩ := hmf
      obtain ⟨us', b1, b2, b3, b4, b5⟩ := repM_get hm a1 a2
      have hd : mGet kz.length es ps vz = e.drop kz.length := by unfold mGet; rw [hf]; simp only [List.getD_eq_getElem?_getD, a2, Option.getD_some]
      refine ⟨us'.drop kz.length, by rw [hd]; exact b1.drop _, fun _ h9 => by rw [hd] at h9; rw [(b1.drop kz.length).len]; exact h9, ?_⟩
      simp only [Sem.run_bind, run_underlying hu, Result.andThen_ok, Sem.run_pure, MapKept.run_getObj_map hb, hck, hfk, a4, ← b5, Option.isSome_some]
theorem evLookup_ok {ar : Ar} (har : ar = Ar.std) {T : TypeId → Lay} (hT : ∀ t, LayOK P t (T t)) (h : RelAt w0 im0 N D bm rm L a w) {t : TypeId} {x ix : Operand} {ok : Bool} {R : List Nat} {z : Deed} (hr : (evLookup ar T N o t x ix ok).run L R = some z) (ho : o.op = .lookup t x ix ok) : Res P w0 im0 N D o a w (ovr z.1 L) := by
  subst har
  unfold evLookup at hr
  split at hr
  · rename_i kt et ka va kz vz hlay
    have hl := hT t
    rw [hlay] at hl
    obtain ⟨hu, hE, hF, hA, hB, hZ, hlen, hzs⟩ := lay_mp hl
    replace hr := mapA_ok h hr; obtain ⟨es, R1, hx, hr⟩ := hr
    replace hr := keyA_ok h hA hr; obtain ⟨ps, us, R2, hk, hrep, hkey, hone, hv, hr⟩ := hr
    obtain ⟨vs, h1, h2, h3⟩ := lookup_run hl hx hk hrep hkey hv ok
    have he : ∀ v, (Instr.lookup t (a.eval x) (a.eval ix) ok).run P w = .ok v w → (execOp a.eval o).run P w = .ok (.value v) w := fun v hv => by
      simp only [execOp, ho, Sem.run_bind, hv, Result.andThen_ok, Sem.run_pure]
    have hml : Ar.std.mg kz.length es ps vz = mGet kz.length es ps vz := rfl
    split at hr
    · exact res_put (v := .agg _) (u := .agg vs.toArray) h ⟨⟨vs, rfl, RepVs.pure (by rw [hml]; exact h1)⟩, by simp [TV.boxes, CV.boxes, List.flatMap_map], by simp [TV.rows, CV.rows, List.flatMap_map]⟩ hr (he _ h3)
    · rename_i p hp
      rw [hml] at hp
      have := h2 rfl (by rw [hp]; rfl)
      rw [hp] at h1
      exact res_put h (holds_of (pvOf_rep (g := false) h1 fun _ => this)) hr (he _ h3)
    · refine res_put h (holds_pv ?_) hr (he _ h3)
      simp only [RepP, RepL]
      exact ⟨[_, _], rfl, _, _, rfl, ⟨vs, rfl, by rw [hml]; exact h1⟩, _, _, rfl, rfl, rfl⟩
    · rename_i p hp
      rw [hml] at hp
      have h9 := h2 rfl (by rw [hp]; rfl)
      rw [hp] at h1
      refine res_put h (holds_pv ?_) hr (he _ h3)
      simp only [RepP, RepL]
      exact ⟨[_, _], rfl, _, _, rfl, pvOf_rep (g := false) h1 fun _ => h9, _, _, rfl, rfl, rfl⟩
    · simp [AskR.run] at hr
  · simp [AskR.run] at hr
def valA {β : Type} (va : Bool) (x : Operand) (f : List PV → AskR β) : AskR β := opd x fun v => match va, v with
  | true, .agg cs => (match asPs cs with
    | some ps => bif cellsP ps then f ps else .fail
    | none => .fail)
  | false, .c (.p p) => bif cellsP [p] then f [p] else .fail
  | _, _ => .fail
theorem valA_ok {β : Type} (h : RelAt w0 im0 N D bm rm L a w) {va : Bool} {x : Operand} {f : List PV → AskR β} {R : List Nat} {y : β × List Nat} (hr : (valA va x f).run L R = some y) :
    ∃ ps us R', RepL (imOf w0.heap.size im0 bm rm L w) w ps us ∧ (∀ u ∈ us, u.oneCell' = true) ∧ a.eval x = valOf va us ∧ (f ps).run L R' = some y := by
  replace hr := opd_inv h hr; obtain ⟨v, R1, hv, hr⟩ := hr
  split at hr
  · rename_i cs
    split at hr
    · rename_i ps hps
      cases hk : cellsP ps with
      | false => rw [hk] at hr; simp [AskR.run] at hr
      | true =>
        rw [hk] at hr
        obtain ⟨us, hx, hrep⟩ := hv.rep
        have := asPs_get hps
        subst this
        exact ⟨ps, us, R1, pure_back hrep, cellsP_one hk (pure_back hrep), hx, hr⟩
    · simp [AskR.run] at hr
  · rename_i p
    cases hk : cellsP [p] with
    | false => rw [hk] at hr; simp [AskR.run] at hr
    | true =>
      rw [hk] at hr
      have hp : RepP _ w p (a.eval x) := hv.rep
      have hl : RepL (imOf w0.heap.size im0 bm rm L w) w [p] [a.eval x] := ⟨_, [], rfl, hp, rfl⟩
      exact ⟨[p], [a.eval x], R1, hl, cellsP_one hk hl, rfl, hr⟩
  · simp [AskR.run] at hr
def evMapUpdate (ar : Ar) (T : TypeId → Lay) (o : Oper) (t : TypeId) (x ix y : Operand) : Ask := match T t, o.dst with
  | .mp _ _ ka va kz _, none => opd x fun v => match v with
    | .c (.mp k) => .get (kB k) fun c => match c with
      | .obj (.map ka' va' kz' es) => bif (ka' == ka) && (va' == va) && kindsB kz kz' then (keyA ka kz ix fun ps => valA va y fun vs => .done [(kB k, .obj (.map ka va kz (ar.ms kz.length es ps vs)))]) else .fail
      | _ => .fail
    | _ => .fail
  | _, _ => .fail
theorem mapOK_push {ms : List MapEntry} {clock : Nat} (h : MapOK ms clock) (k v : Value) : MapOK (ms ++ [{ key := k, val := v, born := clock }]) (clock + 1) := by
  refine ⟨fun m hm => ?_, ?_⟩
  · rcases List.mem_append.1 hm with hm | hm
    · have := h.lt m hm; omega
    · simp only [List.mem_singleton] at hm; subst hm; simp
  · rw [List.map_append, List.map_cons, List.map_nil]
    refine List.nodup_append.2 ⟨h.nd, by simp, fun x hx y hy => ?_⟩
    simp only [List.mem_singleton] at hy
    obtain ⟨m, hm, rfl⟩ := List.mem_map.1 hx
    have := h.lt m hm; omega
theorem map_modify_born {f : MapEntry → MapEntry} (hf : ∀ m, (f m).born = m.born) : ∀ (ms : List MapEntry) (j : Nat), (ms.modify j f).map (·.born) = ms.map (·.born)
  | [], j => by simp
  | m :: ms, 0 => by simp [hf]
  | m :: ms, j + 1 => by simp [map_modify_born hf ms j]
theorem mapOK_modify {ms : List MapEntry} {clock : Nat} {f : MapEntry → MapEntry} (hf : ∀ m, (f m).born = m.born) (h : MapOK ms clock) (j : Nat) : MapOK (ms.modify j f) clock := by
  have hb := map_modify_born hf ms j
  refine ⟨fun m hm => ?_, by rw [hb]; exact h.nd⟩
  have : m.born ∈ (ms.modify j f).map (·.born) := List.mem_map.2 ⟨m, hm, rfl⟩
  rw [hb] at this
  obtain ⟨m', hm', he⟩ := List.mem_map.1 this
  rw [← he]; exact h.lt m' hm'
theorem mapUpdate_run {t kt et : TypeId} {ka va : Bool} {kz vz : List PV} (hl : LayOK P t (.mp kt et ka va kz vz)) {b clock : Nat} {ms : Array MapEntry} {key val : Value} {es : List (List PV)} {ps vs : List PV} {us ws : List Value}
    (hb : w.heap[b]? = some (.map ms clock)) (hok : MapOK ms.toList clock) (hm : RepM im w ka va kz es ms.toList)
    (hk : kindsB kz ps = true) (hr : RepL im w ps us) (hkey : key = valOf ka us) (hone : ka = false → us.length = 1) (hv : ValOf P kt us key) (hvr : RepL im w vs ws) (hv1 : ∀ u ∈ ws, u.oneCell' = true) (hval : val = valOf va ws) :
    ∃ ms' clock', (Instr.mapUpdate t (.map (some b)) key val).run P w = .ok () { w with heap := w.heap.setIfInBounds b (.map ms' clock') } ∧ MapOK ms'.toList clock' ∧ RepM im w ka va kz (mSet kz.length es ps vs) ms'.toList := by
  obtain ⟨hu, hE, hF, hA, hB, hZ, hlen, hzs⟩ := lay_mp hl
  have hck := checkKey_run (w := w) false hF hE hk hr hv
  have hfk := findKey_run (w := w) hE hA hk hr hv hm
  have hmf := mRes_find kz.length ps es ms.toList 0 hm
  have hlz := kindsB_len hk
  have hus := hr.len
  have hone1 : ∀ m : MapEntry, m.key = key → m.val = val → RepM im w ka va kz [ps ++ vs] [m] := fun m h1 h2 => by
    rw [RepM]
    refine ⟨m, [], us ++ ws, rfl, hr.append hvr, fun u hu' => ?_, ?_, ?_, ?_, rfl⟩
    · rcases List.mem_append.1 hu' with hu' | hu'
      · exact kinds_one hk hr u hu'
      · exact hv1 u hu'
    · rw [List.take_left' (by omega)]; exact hk
    · rw [h1, hkey, List.take_left' (by omega)]
    · rw [h2, hval, List.drop_left' (by omega)]
  unfold Instr.mapUpdate
  cases hf : mFind kz.length ps es with
  | none =>
    rw [hf] at hmf
    have hmf : mRes kz.length ps es ms.toList 0 = none := hmf
    refine ⟨ms.push { key := key, val := val, born := clock }, clock + 1, ?_, by simpa using mapOK_push hok key val, ?_⟩
    · simp only [Sem.run_bind, run_underlying hu, Result.andThen_ok, MapKept.run_getObj_map hb, hck, hfk, hmf, MapKept.run_setObj_map _ hb]
    · unfold mSet; rw [hf]
      simpa using repM_push (hone1 { key := key, val := val, born := clock } rfl rfl) hm
  | some j =>
    rw [hf] at hmf
    obtain ⟨m, e, a1, a2, a3, a4⟩ := hmf
    obtain ⟨us', b1, b2, b3, b4, b5⟩ := repM_get hm a1 a2
    obtain ⟨hsame, _⟩ := eqPs_same hk b3 a3 hr (b1.take kz.length)
    have hkk : m.key = key := by rw [b4, hkey, hsame]
    have hst : (Instr.keyThatStays m.key key).run P w = .ok key w := by
      unfold Instr.keyThatStays
      rw [hkk, hkey, sameBits_valOf ka hk hr hone]
      simp
    refine ⟨ms.modify j fun e => { e with key := key, val := val }, clock, ?_, ?_, ?_⟩
    · have hj : ms[j]? = some m := by simpa using a1
      simp only [Sem.run_bind, run_underlying hu, Result.andThen_ok, MapKept.run_getObj_map hb, hck, hfk, a4, hj, Option.map_some, Option.getD_some, hst, MapKept.run_setObj_map _ hb, Nat.zero_add]
    · rw [Array.toList_modify]
      exact mapOK_modify (f := fun e => { e with key := key, val := val }) (fun _ => rfl) hok j
    · unfold mSet; rw [hf, Array.toList_modify]
      exact repM_set hm fun m' _ => hone1 _ rfl rfl
theorem evMapUpdate_ok {ar : Ar} (har : ar = Ar.std) {T : TypeId → Lay} (hT : ∀ t, LayOK P t (T t)) (h : RelAt w0 im0 N D bm rm L a w) {t : TypeId} {x ix y : Operand} {R : List Nat} {z : Deed} (hr : (evMapUpdate ar T o t x ix y).run L R = some z) (ho : o.op = .mapUpdate t x ix y) : Res P w0 im0 N D o a w (ovr z.1 L) := by
  subst har
  unfold evMapUpdate at hr
  split at hr
  · rename_i kt et ka va kz vz hlay hd
    have hl := hT t
    rw [hlay] at hl
    obtain ⟨hu, hE, hF, hA, hB, hZ, hlen, hzs⟩ := lay_mp hl
    replace hr := opd_inv h hr; obtain ⟨v, R1, hv, hr⟩ := hr
    split at hr
    · rename_i k
      have hx : a.eval x = .map (some (bm k)) := hv.rep
      simp only [AskR.run] at hr
      split at hr
      · rename_i ka' va' kz' es hc
        cases hg : (ka' == ka) && (va' == va) && kindsB kz kz' with
        | false => rw [hg] at hr; simp [AskR.run] at hr
        | true =>
          rw [hg] at hr
          simp only [Bool.and_eq_true, beq_iff_eq] at hg
          obtain ⟨⟨rfl, rfl⟩, hkz⟩ := hg
          replace hr := keyA_ok h hA hr; obtain ⟨ps, us, R2, hk, hrep, hkey, hone, hv2, hr⟩ := hr
          replace hr := valA_ok h hr; obtain ⟨vs, ws, R3, hvr, hv1, hval, hr⟩ := hr
          simp only [AskR.run, Option.some.injEq] at hr
          subst hr
          obtain ⟨O, hO, hrepO, hn⟩ := h.objs k _ hc
          obtain ⟨ms, clock, rfl, hok, hm⟩ := hrepO
          obtain ⟨ms', clock', hrun, hok', hm'⟩ := mapUpdate_run hl hO hok (repM_kz hkz hm) hk hrep hkey hone hv2 hvr hv1 hval
          have hlt : bm k < w.heap.size := (Array.getElem?_eq_some_iff.1 hO).1
          refine ⟨{ w with heap := w.heap.setIfInBounds (bm k) (.map ms' clock') }, .inr ⟨?_, ?_⟩⟩
          · simp only [execOp, ho, hx, Sem.run_bind, hrun, Result.andThen_ok, Sem.run_pure]
          · rw [hd]
            refine ⟨bm, rm, ?_⟩
            refine h.setObj hc (o' := .map ka' va' kz (Ar.std.ms kz.length es ps vs)) (O := .map ms' clock') ⟨ms', clock', rfl, hok', hm'⟩ rfl rfl rfl (by simp) ?_ ?_
            · simp [hlt]
            · intro b hb
              simp [Array.getElem?_setIfInBounds_ne (Ne.symm hb)]
      · simp [AskR.run] at hr
    · simp [AskR.run] at hr
  · simp [AskR.run] at hr
theorem repM_one {ka va : Bool} {kz : List PV} : ∀ {es : List (List PV)} {ms : List MapEntry}, RepM im w ka va kz es ms → ∀ {j : Nat} {m : MapEntry} {e : List PV}, ms[j]? = some m → es[j]? = some e → RepM im w ka va kz [e] [m]
  | [], ms, h, j, m, e, hm, he => by simp at he
  | x :: es, ms, h, j, m, e, hm, he => by
    simp only [RepM] at h
    obtain ⟨m', r, vs, rfl, h1, h2, h3, h4, h5, h6⟩ := h
    cases j with
    | zero => simp at hm he; subst hm; subst he; simp only [RepM]; exact ⟨_, _, vs, rfl, h1, h2, h3, h4, h5, rfl⟩
    | succ j => exact repM_one h6 (by simpa using hm) (by simpa using he)
theorem repM_erase {ka va : Bool} {kz : List PV} : ∀ {es : List (List PV)} {ms : List MapEntry}, RepM im w ka va kz es ms → ∀ (j : Nat), RepM im w ka va kz (es.eraseIdx j) (ms.eraseIdx j)
  | [], ms, h, j => by simp only [RepM] at h; subst h; simp [RepM]
  | x :: es, ms, h, j => by
    simp only [RepM] at h
    obtain ⟨m', r, vs, rfl, h1, h2, h3, h4, h5, h6⟩ := h
    cases j with
    | zero => simpa using h6
    | succ j =>
      simp only [List.eraseIdx_cons_succ]
      rw [RepM]
      exact ⟨m', _, vs, rfl, h1, h2, h3, h4, h5, repM_erase h6 j⟩
theorem filter_erase : ∀ (l : List MapEntry) (j : Nat) (hj : j < l.length), (l.map (·.born)).Nodup → l.filter (fun e => !(e.born == l[j].born)) = l.eraseIdx j
  | [], j, hj, _ => by simp at hj
  | x :: l, 0, _, h => by
    have h' : x.born ∉ l.map (·.born) ∧ (l.map (·.born)).Nodup := List.nodup_cons.1 h
    simp only [List.getElem_cons_zero, List.filter_cons, beq_self_eq_true, Bool.not_true, Bool.false_eq_true, if_false, List.eraseIdx_cons_zero]
    refine List.filter_eq_self.2 fun e he => ?_
    simp only [Bool.not_eq_true', beq_eq_false_iff_ne, ne_eq]
    intro hh
    exact h'.1 (List.mem_map.2 ⟨e, he, hh⟩)
  | x :: l, j + 1, hj, h => by
    have h' : x.born ∉ l.map (·.born) ∧ (l.map (·.born)).Nodup := List.nodup_cons.1 h
    have hj' : j < l.length := by simpa using hj
    have hx : (x.born == l[j].born) = false := by
      simp only [beq_eq_false_iff_ne, ne_eq]
      intro hh
      exact h'.1 (List.mem_map.2 ⟨l[j], List.getElem_mem _, hh.symm⟩)
    simp only [List.getElem_cons_succ, List.filter_cons, hx, Bool.not_false, if_true, List.eraseIdx_cons_succ]
    rw [filter_erase l j hj' h'.2]
def evRange (T : TypeId → Lay) (N : NN) (o : Oper) (t : TypeId) (x : Operand) : Ask := match T t, o.dst with
  | .mp _ _ ka va kz _, some d => .get (kB d) fun c => match c with
    | .none => opd x fun v => match v with
      | .c (.p .nilm) => bif okS N d then .done [(kT d, .t (.c (.ptr d 0))), (kB d, .obj (.iter ka va kz [] []))] else .fail
      | .c (.p (.map ka' va' kz' es)) => bif okS N d && (ka' == ka) && (va' == va) && kindsB kz kz' then .done [(kT d, .t (.c (.ptr d 0))), (kB d, .obj (.iter ka va kz es []))] else .fail
      | _ => .fail
    | _ => .fail
  | _, _ => .fail
theorem new_iter (h : RelAt w0 im0 N D bm rm L a w) {d : Nat} {O : Obj} {ob : ObV} (hd : o.dst = some d) (hN : okS N d = true) (hn : L (kB d) = .none) (hO : RepO (imOf w0.heap.size im0 bm rm L w) w ob O)
    (hrun : (execOp a.eval o).run P w = .ok (.value (.pointer (some ⟨w.heap.size, 0, none⟩))) (w.alloc O)) : Res P w0 im0 N D o a w (ovr [(kT d, .t (.c (.ptr d 0))), (kB d, .obj ob)] L) := by
  have hn := h.newObj hn hO
  refine ⟨w.alloc O, .inl ⟨_, hrun, ?_⟩⟩
  rw [ovr_cons, hd]
  refine ⟨_, _, hn.put hN (v := .c (.ptr d 0)) (by simp [RepT, RepV, updN_same]) (fun k hk => ?_) (by simp [TV.rows, CV.rows])⟩
  simp only [TV.boxes, CV.boxes, List.mem_singleton] at hk
  subst hk
  rw [ovrB_B, if_pos rfl]; simp
theorem evRange_ok {T : TypeId → Lay} (hT : ∀ t, LayOK P t (T t)) (h : RelAt w0 im0 N D bm rm L a w) {t : TypeId} {x : Operand} {R : List Nat} {z : Deed} (hr : (evRange T N o t x).run L R = some z) (ho : o.op = .range t x) : Res P w0 im0 N D o a w (ovr z.1 L) := by
  unfold evRange at hr
  split at hr
  · rename_i kt et ka va kz vz d hlay hd
    have hl := hT t
    rw [hlay] at hl
    obtain ⟨hu, _⟩ := lay_mp hl
    simp only [AskR.run] at hr
    split at hr
    · rename_i hc
      replace hr := opd_inv h hr; obtain ⟨v, R1, hv, hr⟩ := hr
      split at hr
      · have hx : a.eval x = .map none := hv.rep
        cases hg : okS N d with
        | false => rw [hg] at hr; simp [AskR.run] at hr
        | true =>
          rw [hg] at hr
          simp only [cond_true, AskR.run, Option.some.injEq] at hr
          subst hr
          refine new_iter h hd hg hc (O := .mapIter none 0 #[] 0) (.inl ⟨rfl, rfl, rfl⟩) ?_
          simp only [execOp, ho, hx, Sem.run_bind, run_range_nilMap w t kt et hu, Result.andThen_ok, Sem.run_pure]
      · rename_i ka' va' kz' es
        cases hg : okS N d && (ka' == ka) && (va' == va) && kindsB kz kz' with
        | false => rw [hg] at hr; simp [AskR.run] at hr
        | true =>
          rw [hg] at hr
          simp only [Bool.and_eq_true, beq_iff_eq] at hg
          obtain ⟨⟨⟨hN, rfl⟩, rfl⟩, hk⟩ := hg
          simp only [cond_true, AskR.run, Option.some.injEq] at hr
          subst hr
          obtain ⟨b, ms, clock, hx, him, hb, hok, hm⟩ : ∃ b ms clock, a.eval x = .map (some b) ∧ imOf w0.heap.size im0 bm rm L w b ∧ w.heap[b]? = some (.map ms clock) ∧ MapOK ms.toList clock ∧ RepM _ w ka' va' kz' es ms.toList := by have := hv.rep; simpa only [RepT, RepV, RepP] using this
          refine new_iter h hd hN hc (O := .mapIter (some b) clock #[] clock) (.inr ⟨b, ms, clock, #[], rfl, him, hb, hok, ?_, .inl rfl⟩) ?_
          · have : (ms.filter fun e => !(#[] : Array Nat).contains e.born) = ms := by simp
            rw [this]; exact repM_kz hk hm
          · simp only [execOp, ho, hx, Sem.run_bind, run_range_map w t kt et b ms clock hu hb, Result.andThen_ok, Sem.run_pure]
      · simp [AskR.run] at hr
    · simp [AskR.run] at hr
  · simp [AskR.run] at hr
def evEntry (N : NN) (o : Oper) (x : Operand) : Ask := opd x fun v => match v with
  | .c (.ptr k 0) => .get (kB k) fun c => match c with
    | .obj (.iter ka va kz _ [e]) => bif (ka || Nat.beq kz.length 1) && (va || Nat.beq e.length (kz.length + 1)) then putA N o.dst (.c (.p (.tup [pvOf ka (e.take kz.length), pvOf va (e.drop kz.length)]))) [] else .fail
    | _ => .fail
  | _ => .fail
theorem evEntry_ok (h : RelAt w0 im0 N D bm rm L a w) {x : Operand} {R : List Nat} {z : Deed} (hr : (evEntry N o x).run L R = some z) (ho : o.op = .entry x) : Res P w0 im0 N D o a w (ovr z.1 L) := by
  replace hr := opd_inv h hr; obtain ⟨v, R1, hv, hr⟩ := hr
  split at hr
  · rename_i k
    have hx : a.eval x = .pointer (some ⟨bm k, 0, none⟩) := hv.rep
    simp only [AskR.run] at hr
    split at hr
    · rename_i ka va kz left e hc
      cases hg : (ka || Nat.beq kz.length 1) && (va || Nat.beq e.length (kz.length + 1)) with
      | false => rw [hg] at hr; simp [AskR.run] at hr
      | true =>
        rw [hg] at hr
        simp only [Bool.and_eq_true, Bool.or_eq_true] at hg
        obtain ⟨O, hO, hrep, _⟩ := h.objs k _ hc
        rcases hrep with ⟨_, _, hcur⟩ | ⟨b, ms, clock, seen, rfl, him, hb, hok, hleft, hcur⟩
        · cases hcur
        · obtain ⟨m, hm, hs, hr1⟩ := hcur.resolve_left (by simp)
          obtain ⟨us, g1, g2, g3, g4, g5⟩ := repM_get hr1 (j := 0) rfl rfl
          have hlz := kindsB_len g3
          have hlu := g1.len
          have hf : ms.find? (·.born == m.born) = some m := by rw [← Array.find?_toList]; exact find_born m ms.toList hok.nd hm
          refine res_put (u := .tuple #[m.key, m.val]) h (holds_pv ?_) hr ?_
          · simp only [RepP, RepL]
            refine ⟨[m.key, m.val], rfl, _, _, rfl, ?_, _, _, rfl, ?_, rfl⟩
            · rw [g4]
              refine pvOf_rep (g1.take _) fun hka => ?_
              subst hka
              have := Nat.eq_of_beq_eq_true (hg.1.resolve_left (by simp))
              rw [(g1.take kz.length).len, hlz, this]
            · rw [g5]
              refine pvOf_rep (g1.drop _) fun hva => ?_
              subst hva
              have := Nat.eq_of_beq_eq_true (hg.2.resolve_left (by simp))
              rw [(g1.drop kz.length).len, List.length_drop, this]; omega
          · simp only [execOp, ho, hx, Instr.entry, Sem.run_bind]
            simp only [show (getObj (bm k)).run P w = .ok (.mapIter (some b) clock seen clock) w by simp [getObj, Sem.run, hO], Result.andThen_ok, hs, Sem.run_bind, MapKept.run_getObj_map hb, bne_self_eq_false, Bool.false_eq_true, if_false, hf, Sem.run_pure]
    · simp [AskR.run] at hr
  · simp [AskR.run] at hr
theorem next_run (h : RelAt w0 im0 N D bm rm L a w) {k : Nat} {ka va : Bool} {kz : List PV} {left cur : List (List PV)} (hc : L (kB k) = .obj (.iter ka va kz left cur)) (ty : TypeId) :
    (left = [] ∧ (Instr.next (.pointer (some ⟨bm k, 0, none⟩)) false ty).run P w = .ok (.tuple #[.bool false]) w) ∨
    ∃ (i : Nat) (e : List PV) (v1 v2 : Value) (w' : World), left[i]? = some e ∧ (Instr.next (.pointer (some ⟨bm k, 0, none⟩)) false ty).run P w = .ok (.tuple #[.bool true, v1, v2]) w' ∧
      RelAt w0 im0 N D bm rm (ovr [(kB k, .obj (.iter ka va kz (left.eraseIdx i) [e]))] L) a w' := by
  obtain ⟨O, hO, hrep, hn⟩ := h.objs k _ hc
  have hlt : bm k < w.heap.size := (Array.getElem?_eq_some_iff.1 hO).1
  rcases hrep with ⟨rfl, rfl, _⟩ | ⟨b, ms, clock, seen, rfl, him, hb, hok, hleft, hcur⟩
  · refine .inl ⟨rfl, ?_⟩
    have hg : (getObj (bm k)).run P w = .ok (.mapIter none 0 #[] 0) w := by simp [getObj, Sem.run, hO]
    simp only [Instr.next, Sem.run_bind, hg, Result.andThen_ok, Sem.run_pure]
  · have hg : (getObj (bm k)).run P w = .ok (.mapIter (some b) clock seen clock) w := by simp [getObj, Sem.run, hO]
    have hall : ∀ x ∈ ms.toList, x.born < clock := hok.lt
    have hlen := repM_len hleft
    have hmem : ∀ x ∈ (Array.filter (fun e => !seen.contains e.born) ms).toList, x.born < clock := fun x hx => hall x (by simp at hx ⊢; exact hx.1)
    obtain ⟨Lf, hLf⟩ : ∃ Lf, Array.filter (fun e => !seen.contains e.born) ms = Lf := ⟨_, rfl⟩
    have e1 : Lf.filter (fun x => decide (x.born < clock)) = Lf := by
      rw [hLf] at hmem
      exact Array.filter_eq_self.2 (fun x hx => by simpa using hmem x (by simpa using hx))
    have e2 : Lf.filter (fun x => decide (x.born ≥ clock)) = #[] := by
      rw [hLf] at hmem
      rw [Array.filter_eq_empty_iff]
      intro x hx
      have := hmem x (by simpa using hx)
      simp
      omega
    rw [hLf] at hleft hlen
    by_cases h0 : Lf.size = 0
    · have hL0 : Lf = #[] := Array.eq_empty_of_size_eq_zero h0
      subst hL0
      refine .inl ⟨?_, ?_⟩
      · cases left with
        | nil => rfl
        | cons x l => simp at hlen
      · simp only [Instr.next, Sem.run_bind, hg, Result.andThen_ok, MapKept.run_getObj_map hb, next_test_false seen ms clock clock hall (Nat.le_refl _), Bool.false_eq_true, if_false, hLf, e1, e2, Array.append_empty]
        simp [choose, Sem.run, Question.forced]
    · have hne : Lf.isEmpty = false := by simp [Array.isEmpty, h0]
      have hch : ∃ (j : Nat) (w1 : World), j < Lf.size ∧ w1.heap = w.heap ∧ w1.os = w.os ∧ w1.tape = w.tape ∧ w1.output = w.output ∧ (choose (Question.mapNext Lf.size)).run P w = .ok j w1 := by
        by_cases hf : Lf.size ≤ 1
        · exact ⟨0, w, by omega, rfl, rfl, rfl, rfl, by simp [choose, Sem.run, Question.forced, hf]⟩
        · exact ⟨_, w.drew, Nat.mod_lt _ (by omega), rfl, rfl, rfl, rfl, by
            simp only [choose, Sem.run, Question.forced, decide_eq_true_eq, hf, if_false, Question.cut]
            rfl⟩
      obtain ⟨j, w1, hj, a1, a2, a3, a4, hch⟩ := hch
      have hset : (setObj (bm k) (.mapIter (some b) clock (seen.push Lf[j].born) clock)).run P w1 = .ok () { w1 with heap := w1.heap.setIfInBounds (bm k) (.mapIter (some b) clock (seen.push Lf[j].born) clock) } := by
        have : w1.heap[bm k]? = some (.mapIter (some b) clock seen clock) := by rw [a1]; exact hO
        simp [setObj, Sem.run, this]
      have hrun : (Instr.next (.pointer (some ⟨bm k, 0, none⟩)) false ty).run P w = .ok (.tuple #[.bool true, Lf[j].key, Lf[j].val]) { w1 with heap := w1.heap.setIfInBounds (bm k) (.mapIter (some b) clock (seen.push Lf[j].born) clock) } := by
        simp only [Instr.next, Sem.run_bind, hg, Result.andThen_ok, MapKept.run_getObj_map hb, next_test_false seen ms clock clock hall (Nat.le_refl _), Bool.false_eq_true, if_false, hLf, e1, e2, Array.append_empty, hne, Array.empty_append, Array.size_map, hch, Array.getElem?_map, Array.getElem?_eq_getElem hj, Option.map_some, hset, Sem.run_pure]
      have hjl : j < left.length := by rw [← hlen]; simpa using hj
      have hmj : Lf[j] ∈ ms.toList := by
        have : Lf[j] ∈ Array.filter (fun e => !seen.contains e.born) ms := by rw [hLf]; exact Array.getElem_mem hj
        simp at this ⊢; exact this.1
      refine .inr ⟨j, left[j], _, _, _, List.getElem?_eq_getElem hjl, hrun, ?_⟩
      refine RelAt.setObj (o := .iter ka va kz left cur) (o' := .iter ka va kz (left.eraseIdx j) [left[j]]) (O := .mapIter (some b) clock (seen.push Lf[j].born) clock) h hc ?_ a2 a3 a4 (by simp [a1]) (by simp [a1, hlt]) (fun b' hb' => by simp [a1, Array.getElem?_setIfInBounds_ne (Ne.symm hb')])
      refine .inr ⟨b, ms, clock, _, rfl, him, hb, hok, ?_, .inr ⟨Lf[j], hmj, by simp, ?_⟩⟩
      · have hfil : (ms.filter fun e => !(seen.push Lf[j].born).contains e.born).toList = Lf.toList.eraseIdx j := by
          have hnd : (Lf.toList.map (·.born)).Nodup := by
            rw [← hLf, Array.toList_filter]
            exact (List.filter_sublist.map _).nodup hok.nd
          have e3 : (ms.filter fun e => !(seen.push Lf[j].born).contains e.born).toList = Lf.toList.filter fun e => !(e.born == Lf[j].born) := by
            generalize Lf[j].born = q
            rw [← hLf, Array.toList_filter, Array.toList_filter, List.filter_filter]
            congr 1
            funext e
            simp only [Array.contains_push]
            cases seen.contains e.born <;> cases h9 : (e.born == Lf[j].born) <;> simp_all
          rw [e3]
          exact filter_erase _ j (by simpa using hj) hnd
        rw [hfil]
        exact repM_erase hleft j
      · exact repM_one hleft (j := j) (by simp [hj]) (List.getElem?_eq_getElem hjl)
end
def evOp (ar : Ar) (T : TypeId → Lay) (N : NN) (o : Oper) : Ask := match o.op with
  | .move x => evMove N o x
  | .assign x => evMove N o x
  | .pick c x y => evPick N o c x y
  | .alloc e => evAlloc T N o e
  | .box e x => evBox N o e x
  | .build t ps => evBuild T N o t ps.toList
  | .buildSlice t len ps => evBuildSlice T N o t len ps.toList
  | .load t x => evLoad ar T N o t x
  | .store t x y => evStore ar T o t x y
  | .binOp op t x y _ => (match op with
    | .shr => evShr ar N o x y
    | _ => evBin ar T N o op t x y)
  | .convert s d x => evConv ar T N o s d x
  | .unOp op _ x => evUn ar N o op x
  | .makeFunc f fi ca => evMakeFunc N o f fi.toList ca.toList
  | .fieldAddr s x f => evFieldAddr T N o s x f
  | .field s x f => evField T N o s x f
  | .indexAddr t x ix => evIndexAddr ar T N o t x ix
  | .extract x i => evExtract N o x i
  | .index t x ix => evIndex ar T N o t x ix
  | .slice t x lo hi mx => evSlice ar T N o t x lo hi mx
  | .makeMap t none => evMakeMap T N o t
  | .lookup t x ix ok => evLookup ar T N o t x ix ok
  | .mapUpdate t x ix y => evMapUpdate ar T o t x ix y
  | .range t x => evRange T N o t x
  | .entry x => evEntry N o x
  | .call c => match c.callee, c.args.toList, c.argTypes.toList with
    | .builtin .len, [x], [t] => evLen ar T N o t x
    | .builtin .append, [x, y], [t, t'] => bif Nat.beq t t' then evAppend ar T N o t x y else .fail
    | .builtin .min, [x, y], _ => evMin ar.mn N o x y
    | .builtin .max, [x, y], _ => evMin ar.mx N o x y
    | _, _, _ => .fail
  | _ => .fail
section
variable {P : Program} {w0 : World} {im0 : Nat → Prop} {N : NN} {D : Env} {bm : Nat → Nat} {rm : Nat → Value} {L : Lk} {a : Act} {w w' : World} {o : Oper} {im : Nat → Prop}
theorem evOp_ok {ar : Ar} (har : ar = Ar.std) {T : TypeId → Lay} (hT : ∀ t, LayOK P t (T t)) (h : RelAt w0 im0 N D bm rm L a w) {R : List Nat} {z : Deed} (hr : (evOp ar T N o).run L R = some z) : Res P w0 im0 N D o a w (ovr z.1 L) := by
  unfold evOp at hr
  split at hr
  · exact evMove_ok h hr (.inl ‹_›)
  · exact evMove_ok h hr (.inr ‹_›)
  · exact evPick_ok h hr ‹_›
  · exact evAlloc_ok hT h hr ‹_›
  · exact evBox_ok h hr ‹_›
  · exact evBuild_ok hT h hr ‹_›
  · exact evBuildSlice_ok hT h hr ‹_›
  · exact evLoad_ok har hT h hr ‹_›
  · exact evStore_ok har hT h hr ‹_›
  · rename_i op t x y yt ho
    split at hr
    · exact evShr_ok har h hr ho
    · exact evBin_ok har h hT hr ho
  · exact evConv_ok har hT h hr ‹_›
  · exact evUn_ok har h hr ‹_›
  · exact evMakeFunc_ok h hr ‹_›
  · exact evFieldAddr_ok hT h hr ‹_›
  · exact evField_ok hT h hr ‹_›
  · exact evIndexAddr_ok har hT h hr ‹_›
  · exact evExtract_ok h hr ‹_›
  · exact evIndex_ok har hT h hr ‹_›
  · exact evSlice_ok har hT h hr ‹_›
  · exact evMakeMap_ok h hr ‹_›
  · exact evLookup_ok har hT h hr ‹_›
  · exact evMapUpdate_ok har hT h hr ‹_›
  · exact evRange_ok hT h hr ‹_›
  · exact evEntry_ok h hr ‹_›
  · rename_i c ho
    obtain ⟨cal, args, ats⟩ := c
    split at hr
    · rename_i x t h1 h2 h3
      simp only at h1 h2 h3
      have e2 : args = #[x] := by apply Array.ext'; simpa using h2
      have e3 : ats = #[t] := by apply Array.ext'; simpa using h3
      subst h1; subst e2; subst e3
      exact evLen_ok har hT h hr ho
    · rename_i x y t t' h1 h2 h3
      simp only at h1 h2 h3
      have e2 : args = #[x, y] := by apply Array.ext'; simpa using h2
      have e3 : ats = #[t, t'] := by apply Array.ext'; simpa using h3
      cases hb : Nat.beq t t' with
      | false => rw [hb] at hr; simp [AskR.run] at hr
      | true =>
        rw [hb] at hr
        have := Nat.eq_of_beq_eq_true hb
        subst h1; subst e2; subst e3; subst this
        exact evAppend_ok har hT h hr ho
    · rename_i x y h1 h2
      simp only at h1 h2
      have e2 : args = #[x, y] := by apply Array.ext'; simpa using h2
      subst h1; subst e2; subst har
      exact evMin_ok h hr ho
    · rename_i x y h1 h2
      simp only at h1 h2
      have e2 : args = #[x, y] := by apply Array.ext'; simpa using h2
      subst h1; subst e2; subst har
      exact evMax_ok h hr ho
    · simp [AskR.run] at hr
  · simp [AskR.run] at hr
theorem fenceW_about (ro : Option Nat) (o : Oper) (w : World) (a : Act) : ∀ f, o.about P w a.eval = some f → (FW ro).fn f := fun _ _ => trivial
theorem res_wpIn {ro : Option Nat} {n : Nat} {Q : Exit → Act → World → Prop} {K : Act → World → Prop} {L' : Lk} (hnd : ∀ c, o.op ≠ .defer c) (hres : Res P w0 im0 N D o a w L') (hK : ∀ a' w', Rel w0 im0 N D L' a' w' → K a' w') :
    o.wpIn (FW ro) n P a w K Q := by
  refine ⟨fenceW_about ro o w a, ?_⟩
  rw [Oper.semAt_eq _ _ _ hnd]
  obtain ⟨w', ⟨v, hr, hrel⟩ | ⟨hr, hrel⟩⟩ := hres
  · rw [hr]; exact hK _ _ hrel
  · rw [hr]; exact hK _ _ hrel
theorem evOp_defer {ar : Ar} {T : TypeId → Lay} {R : List Nat} {z : Deed} (hr : (evOp ar T N o).run L R = some z) : ∀ c, o.op ≠ .defer c := by
  intro c hc
  unfold evOp at hr
  rw [hc] at hr
  simp [AskR.run] at hr
def foldA {β : Type} (g : CV → (PV → AskR β) → AskR β) : List CV → List PV → (List PV → AskR β) → AskR β
  | [], acc, f => f acc.reverse
  | c :: r, acc, f => g c fun p => foldA g r (p :: acc) f
def frzC {β : Type} : Nat → CV → (PV → AskR β) → AskR β
  | 0, c, f => match c with
    | .p v => f v
    | _ => .fail
  | n + 1, c, f => match c with
    | .p v => f v
    | .row r => .get (kR r) fun c => match c with
      | .row _ k es => f (.list k es)
      | _ => .fail
    | .ptr k off => .get (kB k) fun c => match c with
      | .box _ cs => foldA (frzC n) (cs.drop off) [] fun ps => f (.ptr ps)
      | _ => .fail
    | .clo g ks => foldA (frzC n) (ks.map fun k => .ptr k 0) [] fun ps => f (.fn g [] ps)
    | .mp k => .get (kB k) fun c => match c with
      | .obj (.map ka va kz es) => f (.map ka va kz es)
      | _ => .fail
    | _ => .fail
def frzT {β : Type} (v : TV) (f : PV → AskR β) : AskR β := match v with
  | .c c => frzC 3 c f
  | .agg cs => foldA (frzC 3) cs [] fun ps => f (.agg ps)
def imAll (w0 : World) (im0 : Nat → Prop) (w : World) (b : Nat) : Prop := Plain w b ∧ (im0 b ∨ w0.heap.size ≤ b)
theorem imAll_of {b : Nat} (h : imOf w0.heap.size im0 bm rm L w b) : imAll w0 im0 w b := ⟨h.1, h.2.1⟩
theorem keeps_all : Keeps (imOf w0.heap.size im0 bm rm L w) w (imAll w0 im0 w) w := fun _ h => ⟨imAll_of h, rfl⟩
theorem foldA_ok {β : Type} {g : CV → (PV → AskR β) → AskR β}
    (hg : ∀ (c : CV) (u : Value) (f : PV → AskR β) (R : List Nat) (y : β × List Nat), RepV bm rm (imOf w0.heap.size im0 bm rm L w) w c u → (g c f).run L R = some y → ∃ p R', RepP (imAll w0 im0 w) w p u ∧ ((∃ v, c = .p v) → RepP (imOf w0.heap.size im0 bm rm L w) w p u) ∧ (f p).run L R' = some y) :
    ∀ (cs : List CV) (us : List Value) (acc : List PV) (f : List PV → AskR β) (R : List Nat) (y : β × List Nat), RepVs bm rm (imOf w0.heap.size im0 bm rm L w) w cs us → (foldA g cs acc f).run L R = some y →
      ∃ ps R', RepL (imAll w0 im0 w) w ps us ∧ ((∀ c ∈ cs, ∃ v, c = .p v) → RepL (imOf w0.heap.size im0 bm rm L w) w ps us) ∧ (f (acc.reverse ++ ps)).run L R' = some y
  | [], us, acc, f, R, y, hv, hr => ⟨[], R, hv, fun _ => hv, by simpa [foldA] using hr⟩
  | c :: cs, us, acc, f, R, y, hv, hr => by
    simp only [RepVs] at hv
    obtain ⟨x, xs, rfl, h1, h2⟩ := hv
    simp only [foldA] at hr
    obtain ⟨p, R1, hp, hp', hr⟩ := hg c x _ R y h1 hr
    obtain ⟨ps, R2, hps, hps', hr⟩ := foldA_ok hg cs xs (p :: acc) f R1 y h2 hr
    exact ⟨p :: ps, R2, ⟨x, xs, rfl, hp, hps⟩, fun hc => ⟨x, xs, rfl, hp' (hc c (by simp)), hps' fun d hd => hc d (by simp [hd])⟩, by simpa using hr⟩
theorem RepE.of_flat' {k : Nat} {es : List (List PV)} {b o' : Nat} {us : List Value} (hk : (∀ e ∈ es, e.length = k) ∧ ∀ u ∈ us, u.oneCell' = true) (hr : w.rangeAt b o' us) (hl : RepL im w es.flatten us) : RepE im w k es b o' := RepE.of_flat hk.1 hr hk.2 hl
theorem frzC_ok {β : Type} (h : RelAt w0 im0 N D bm rm L a w) : ∀ (n : Nat) (c : CV) (u : Value) (f : PV → AskR β) (R : List Nat) (y : β × List Nat), RepV bm rm (imOf w0.heap.size im0 bm rm L w) w c u → (frzC n c f).run L R = some y →
    ∃ p R', RepP (imAll w0 im0 w) w p u ∧ ((∃ v, c = .p v) → RepP (imOf w0.heap.size im0 bm rm L w) w p u) ∧ (f p).run L R' = some y
  | 0, c, u, f, R, y, hv, hr => by
    simp only [frzC] at hr
    split at hr
    · exact ⟨_, R, RepP.keep keeps_all _ _ hv, fun _ => hv, hr⟩
    · simp [AskR.run] at hr
  | n + 1, c, u, f, R, y, hv, hr => by
    simp only [frzC] at hr
    split at hr
    · exact ⟨_, R, RepP.keep keeps_all _ _ hv, fun _ => hv, hr⟩
    · rename_i r
      simp only [AskR.run] at hr
      split at hr
      · rename_i e k es hc
        obtain ⟨hx, _⟩ : u = rm r ∧ _ := hv
        obtain ⟨xs, hown, hl, hk⟩ := h.rows r e k es hc
        refine ⟨_, _, ?_, (by rintro ⟨v, hv⟩; cases hv), hr⟩
        simp only [RepP]
        rcases hown.2 with ⟨hv, h0⟩ | ⟨g, cap, cur, hv, hbg, hgg, hcap, hm, _, _⟩
        · exact ⟨none, 0, 0, by rw [hx, hv], h0.symm, by simp, by simp, .inl (List.eq_nil_of_length_eq_zero h0)⟩
        · refine ⟨_, _, cap, by rw [hx, hv], rfl, hcap, hm, .inr ⟨g, 0, rfl, ⟨plain_of hgg rfl, .inr hbg⟩, ?_⟩⟩
          refine RepE.of_flat' hk (fun j v hv' => ?_) (RepL.keep keeps_all _ _ hl)
          have := hown.cells (g := g) (by rw [hv]; rfl) j v hv'
          rwa [Addr.add_mid] at this
      · simp [AskR.run] at hr
    · rename_i k off
      simp only [AskR.run] at hr
      split at hr
      · rename_i ty cs hc
        have hx : u = .pointer (some ⟨bm k, off, none⟩) := hv
        obtain ⟨us, hus, hrep, hn⟩ := h.boxes k ty cs hc
        obtain ⟨ps, R', hps, _, hr⟩ := foldA_ok (fun c u f R y => frzC_ok h n c u f R y) (cs.drop off) (us.drop off) [] _ _ y (hrep.drop off) hr
        refine ⟨_, R', ?_, (by rintro ⟨v, hv⟩; cases hv), by simpa using hr⟩
        simp only [RepP]
        refine ⟨bm k, off, us.drop off, hx, ⟨plain_of hus rfl, .inr hn⟩, ?_, by simpa using hps⟩
        have := rangeAt_drop (n := off) (rangeAt_row hus)
        rwa [Nat.zero_add] at this
      · simp [AskR.run] at hr
    · rename_i g ks
      have hx : u = .func g #[] (ks.map fun k => Value.pointer (some ⟨bm k, 0, none⟩)).toArray := hv
      have hvs : ∀ ks : List Nat, RepVs bm rm (imOf w0.heap.size im0 bm rm L w) w (ks.map fun k => CV.ptr k 0) (ks.map fun k => Value.pointer (some ⟨bm k, 0, none⟩)) := fun ks => by
        induction ks with
        | nil => simp [RepVs]
        | cons k ks ih => exact ⟨_, _, rfl, rfl, ih⟩
      obtain ⟨ps, R', hps, _, hr⟩ := foldA_ok (fun c u f R y => frzC_ok h n c u f R y) _ _ [] _ _ y (hvs ks) hr
      refine ⟨_, R', ?_, (by rintro ⟨v, hv⟩; cases hv), hr⟩
      simp only [RepP]
      exact ⟨[], _, hx, by simp [RepL], by simpa using hps⟩
    · rename_i k
      simp only [AskR.run] at hr
      split at hr
      · rename_i ka va kz es hc
        have hx : u = .map (some (bm k)) := hv
        obtain ⟨O, hO, hrep, hn⟩ := h.objs k _ hc
        obtain ⟨ms, clock, rfl, hok, hm⟩ := hrep
        refine ⟨_, _, ?_, (by rintro ⟨v, hv⟩; cases hv), hr⟩
        simp only [RepP]
        exact ⟨bm k, ms, clock, hx, ⟨plain_of hO rfl, .inr hn⟩, hO, hok, RepM.keep keeps_all _ _ _ _ _ hm⟩
      · simp [AskR.run] at hr
    · simp [AskR.run] at hr
def CV.isP : CV → Bool
  | .p _ => true
  | _ => false
def pureT : TV → Bool
  | .c c => c.isP
  | .agg cs => cs.all CV.isP
theorem isP_ex {c : CV} (h : c.isP = true) : ∃ v, c = .p v := by cases c <;> first | exact ⟨_, rfl⟩ | cases h
theorem frzT_ok {β : Type} (h : RelAt w0 im0 N D bm rm L a w) {v : TV} {u : Value} {f : PV → AskR β} {R : List Nat} {y : β × List Nat} (hv : RepT bm rm (imOf w0.heap.size im0 bm rm L w) w v u) (hr : (frzT v f).run L R = some y) :
    ∃ p R', RepP (imAll w0 im0 w) w p u ∧ (pureT v = true → RepP (imOf w0.heap.size im0 bm rm L w) w p u) ∧ (f p).run L R' = some y := by
  cases v with
  | c c =>
    obtain ⟨p, R', h1, h2, h3⟩ := frzC_ok h 3 c u f R y hv hr
    exact ⟨p, R', h1, fun hp => h2 (isP_ex hp), h3⟩
  | agg cs =>
    obtain ⟨us, rfl, hv⟩ := hv
    simp only [frzT] at hr
    obtain ⟨ps, R', hps, hps', hr⟩ := foldA_ok (fun c u f R y => frzC_ok h 3 c u f R y) cs us [] _ R y hv hr
    refine ⟨.agg ps, R', by simp only [RepP]; exact ⟨us, rfl, hps⟩, fun hp => ?_, by simpa using hr⟩
    simp only [RepP]
    simp only [pureT, List.all_eq_true] at hp
    exact ⟨us, rfl, hps' fun c hc => isP_ex (hp c hc)⟩
def flatP : Nat → PV → Bool
  | 0, _ => false
  | n + 1, p => match p with
    | .int _ _ | .bool _ | .str _ | .nil | .nilp | .nilf => true
    | .agg cs => cs.all (flatP n)
    | .tup cs => cs.all (flatP n)
    | _ => false
theorem flatL {im im' : Nat → Prop} {w w' : World} {g : PV → Bool} (hg : ∀ p u, g p = true → RepP im w p u → RepP im' w' p u) : ∀ {ps : List PV} {us : List Value}, ps.all g = true → RepL im w ps us → RepL im' w' ps us
  | [], _, _, h => h
  | p :: ps, us, ha, h => by
    simp only [List.all_cons, Bool.and_eq_true] at ha
    simp only [RepL] at h ⊢
    obtain ⟨x, xs, rfl, h1, h2⟩ := h
    exact ⟨x, xs, rfl, hg p x ha.1 h1, flatL hg ha.2 h2⟩
theorem flatP_rep {im im' : Nat → Prop} {w w' : World} : ∀ (n : Nat) (p : PV) (u : Value), flatP n p = true → RepP im w p u → RepP im' w' p u
  | 0, _, _, h, _ => by simp [flatP] at h
  | n + 1, p, u, h, hr => by
    unfold flatP at h
    split at h <;> first | exact hr | skip
    · simp only [RepP] at hr ⊢
      obtain ⟨us, rfl, hr⟩ := hr
      exact ⟨us, rfl, flatL (flatP_rep n) h hr⟩
    · simp only [RepP] at hr ⊢
      obtain ⟨us, rfl, hr⟩ := hr
      exact ⟨us, rfl, flatL (flatP_rep n) h hr⟩
    · cases h
def Does (P : Program) (f : FuncId) (args : List PV) (v : PV) : Prop :=
  (∀ us w, (callFunc f us).run P w = .ok (.enter f us) w) ∧
  ∀ (w : World) (im : Nat → Prop) (us : List Value), (∀ b, im b → Plain w b) → RepL im w args us →
    Calls P f us.toArray w fun e w' => ∃ u, e = .returned u ∧ RepP (fun b => im b ∨ (w.heap.size ≤ b ∧ Plain w' b)) w' v u ∧ Below w.heap.size w w'
def DoesF (P : Program) (f : FuncId) (args : List PV) (v : PV) : Prop :=
  (∀ us w, (callFunc f us).run P w = .ok (.enter f us) w) ∧
  ∀ (w : World) (im : Nat → Prop) (us : List Value), (∀ b, im b → Plain w b) → RepL im w args us →
    Calls P f us.toArray w fun e w' => ∃ u, e = .returned u ∧ RepP (fun b => w.heap.size ≤ b ∧ Plain w' b) w' v u ∧ Below w.heap.size w w'
def DoesC (P : Program) (f : FuncId) (e : TypeId) (k : Nat) (es : List (List PV)) (args : List PV) (v : PV) : Prop :=
  (∀ us w, (callFunc f us).run P w = .ok (.enter f us) w) ∧
  ∀ (w : World) (im imA : Nat → Prop) (base : Nat) (x : Value) (xs us : List Value), (∀ b, im b → Plain w b) → (∀ b, imA b → Plain w b) → base ≤ w.heap.size → w.ownsRow base e k x es.length xs →
    RepL im w es.flatten xs → ((∀ y ∈ es, y.length = k) ∧ ∀ u ∈ xs, u.oneCell' = true) → (∀ g, x.ownBlock = some g → ¬ im g ∧ ¬ imA g) → RepL imA w args us →
    Calls P f (x :: us).toArray w fun e' w' => ∃ u, e' = .returned u ∧ RepP (fun b => im b ∨ ((x.ownBlock = some b ∨ w.heap.size ≤ b) ∧ Plain w' b)) w' v u ∧ w.grownBy w' x.ownBlock
def DoesW (P : Program) (f : FuncId) (e : TypeId) (k : Nat) (es es' : List (List PV)) (args : List PV) : Prop :=
  (∀ us w, (callFunc f us).run P w = .ok (.enter f us) w) ∧
  ∀ (w : World) (im imA : Nat → Prop) (base : Nat) (x : Value) (xs us : List Value), (∀ b, im b → Plain w b) → (∀ b, imA b → Plain w b) → base ≤ w.heap.size → w.ownsRow base e k x es.length xs →
    RepL im w es.flatten xs → ((∀ y ∈ es, y.length = k) ∧ ∀ u ∈ xs, u.oneCell' = true) → (∀ g, x.ownBlock = some g → ¬ im g ∧ ¬ imA g) → RepL imA w args us →
    Calls P f (x :: us).toArray w fun e' w' => ∃ u xs', e' = .returned u ∧ w'.ownsRow base e k x es'.length xs' ∧ RepL im w es'.flatten xs' ∧ ((∀ y ∈ es', y.length = k) ∧ ∀ u ∈ xs', u.oneCell' = true) ∧ w.grownBy w' x.ownBlock
def DoesO (P : Program) (f : FuncId) (args : List PV) (b : Bool) (rs : List RowT) : Prop :=
  (∀ us w, (callFunc f us).run P w = .ok (.enter f us) w) ∧
  ∀ (w : World) (im : Nat → Prop) (us : List Value), (∀ b, im b → Plain w b) → RepL im w args us →
    Calls P f us.toArray w fun e w' => ∃ u vs, e = .returned u ∧ (bif b then u = .agg vs.toArray else vs = [u]) ∧ RepN w.heap.size w' rs vs ∧ Below w.heap.size w w'
def Can (P : Program) (f : FuncId) (args : List PV) (v : PV) : Prop := match args with
  | .own e k es :: r => match v with
    | .own e' k' es' => e' = e ∧ k' = k ∧ DoesW P f e k es es' r
    | _ => DoesC P f e k es r v
  | .mark :: r => match ownV v with
    | some (b, rs) => DoesO P f r b rs
    | none => DoesF P f r v
  | _ => Does P f args v
theorem can_does {f : FuncId} {args : List PV} {v : PV} {im : Nat → Prop} {w : World} {us : List Value} (h : Can P f args v) (hr : RepL im w args us) : Does P f args v := by
  unfold Can at h
  split at h
  · obtain ⟨x, xs, _, h1, _⟩ : ∃ x xs, us = x :: xs ∧ RepP im w (.own _ _ _) x ∧ _ := by simpa only [RepL] using hr
    simp only [RepP] at h1
  · obtain ⟨x, xs, _, h1, _⟩ : ∃ x xs, us = x :: xs ∧ RepP im w .mark x ∧ _ := by simpa only [RepL] using hr
    simp only [RepP] at h1
  · exact h
def boxP {β : Type} : List Nat → List PV → (List PV → AskR β) → AskR β
  | [], acc, f => f acc.reverse
  | k :: ks, acc, f => .get (kB k) fun c => match c with
    | .box _ cs => match asPs cs with
      | some ps => boxP ks (.ptr ps :: acc) f
      | none => .fail
    | _ => .fail
def otherB (q : Option Nat) (t : Nat) : Bool := match q with
  | some q => !Nat.beq q t
  | none => true
def simT {β : Type} (q : Option Nat) (v : TV) (f : PV → AskR β) : AskR β := match v with
  | .c (.p p) => f p
  | .c (.row t) => bif otherB q t then .get (kR t) fun c => (match c with
    | .row _ k es => f (.list k es)
    | _ => .fail) else .fail
  | .c (.clo g ks) => boxP ks [] fun ps => f (.fn g [] ps)
  | .agg cs => match asPs cs with
    | some ps => f (.agg ps)
    | none => .fail
  | _ => .fail
def simArgs {β : Type} (q : Option Nat) : List Operand → List PV → (List PV → AskR β) → AskR β
  | [], acc, f => f acc.reverse
  | x :: r, acc, f => opd x fun v => simT q v fun p => simArgs q r (p :: acc) f
structure CallS where
  f : FuncId
  args : List PV
  eat : List (Nat × Cont)
def memF (f : FuncId) : List FuncId → Bool
  | [] => false
  | g :: r => Nat.beq f g || memF f r
def callS (sp : List FuncId) (o : Oper) : AskR CallS := match o.op with
  | .call c => match c.callee, c.args.toList with
    | .value x, y :: r => opd x fun fv => match fv with
      | .c (.p (.fn (.func g) [] [])) => bif memF g sp then (opd y fun v => match v with
        | .c (.row q) => .get (kR q) fun cc => match cc with
          | .row e k es => simArgs (some q) r [] fun ps => .done ⟨g, .own e k es :: ps, [(kR q, .dead)]⟩
          | _ => .fail
        | _ => simArgs none (y :: r) [] fun ps => .done ⟨g, .mark :: ps, []⟩) else .fail
      | _ => .fail
    | _, _ => .fail
  | _ => .fail
def imBox (q : Option Nat) (w0 : World) (im0 : Nat → Prop) (bm : Nat → Nat) (rm : Nat → Value) (L : Lk) (w : World) (b : Nat) : Prop := imOf w0.heap.size im0 bm rm L w b ∨ (∃ k ty cs, L (kB k) = .box ty cs ∧ bm k = b) ∨ ∃ t, isRow L t ∧ otherB q t = true ∧ (rm t).ownBlock = some b
theorem keeps_box {q : Option Nat} : Keeps (imOf w0.heap.size im0 bm rm L w) w (imBox q w0 im0 bm rm L w) w := fun _ h => ⟨.inl h, rfl⟩
theorem boxP_ok {β : Type} (q : Option Nat) (h : RelAt w0 im0 N D bm rm L a w) : ∀ (ks : List Nat) (acc : List PV) (f : List PV → AskR β) (R : List Nat) (y : β × List Nat), (boxP ks acc f).run L R = some y →
    ∃ ps R', RepL (imBox q w0 im0 bm rm L w) w ps (ks.map fun k => Value.pointer (some ⟨bm k, 0, none⟩)) ∧ (f (acc.reverse ++ ps)).run L R' = some y
  | [], acc, f, R, y, hr => ⟨[], R, rfl, by simpa [boxP] using hr⟩
  | k :: ks, acc, f, R, y, hr => by
    simp only [boxP, AskR.run] at hr
    split at hr
    · rename_i ty cs hc
      split at hr
      · rename_i ps hps
        have := asPs_get hps
        subst this
        obtain ⟨us, hus, hrep, hn⟩ := h.boxes k ty _ hc
        obtain ⟨qs, R', hq, hr⟩ := boxP_ok q h ks (.ptr ps :: acc) f _ y hr
        refine ⟨.ptr ps :: qs, R', ⟨_, _, rfl, ?_, hq⟩, by simpa using hr⟩
        simp only [RepP]
        exact ⟨bm k, 0, us, rfl, .inr (.inl ⟨k, ty, _, hc, rfl⟩), rangeAt_row hus, RepL.keep keeps_box _ _ (pure_back hrep)⟩
      · simp [AskR.run] at hr
    · simp [AskR.run] at hr
theorem simT_ok {β : Type} {q : Option Nat} (h : RelAt w0 im0 N D bm rm L a w) {v : TV} {u : Value} {f : PV → AskR β} {R : List Nat} {y : β × List Nat} (hv : RepT bm rm (imOf w0.heap.size im0 bm rm L w) w v u) (hr : (simT q v f).run L R = some y) :
    ∃ p R', RepP (imBox q w0 im0 bm rm L w) w p u ∧ (f p).run L R' = some y := by
  unfold simT at hr
  split at hr
  · exact ⟨_, R, RepP.keep keeps_box _ _ hv, hr⟩
  · rename_i t
    cases hot : otherB q t with
    | false => rw [hot] at hr; simp [AskR.run] at hr
    | true =>
      rw [hot] at hr
      simp only [cond_true, AskR.run] at hr
      split at hr
      · rename_i e k es hc
        obtain ⟨hx, _⟩ : u = rm t ∧ _ := hv
        obtain ⟨xs, hown, hl, hk⟩ := h.rows t e k es hc
        refine ⟨_, _, ?_, hr⟩
        simp only [RepP]
        rcases hown.2 with ⟨hv, h0⟩ | ⟨g, cap, cur, hv, hbg, hgg, hcap, hm, _, _⟩
        · exact ⟨none, 0, 0, by rw [hx, hv], h0.symm, by simp, by simp, .inl (List.eq_nil_of_length_eq_zero h0)⟩
        · refine ⟨_, _, cap, by rw [hx, hv], rfl, hcap, hm, .inr ⟨g, 0, rfl, .inr (.inr ⟨t, ⟨e, k, es, hc⟩, hot, by rw [hv]; rfl⟩), ?_⟩⟩
          refine RepE.of_flat' hk (fun j v hv' => ?_) (RepL.keep keeps_box _ _ hl)
          have := hown.cells (g := g) (by rw [hv]; rfl) j v hv'
          rwa [Addr.add_mid] at this
      · simp [AskR.run] at hr
  · rename_i g ks
    have hx : u = .func g #[] (ks.map fun k => Value.pointer (some ⟨bm k, 0, none⟩)).toArray := hv
    obtain ⟨ps, R', hp, hr⟩ := boxP_ok q h ks [] _ R y hr
    refine ⟨_, R', ?_, hr⟩
    simp only [RepP]
    exact ⟨[], _, hx, by simp [RepL], by simpa using hp⟩
  · split at hr
    · rename_i ps hps
      have := asPs_get hps
      subst this
      obtain ⟨us, rfl, hrep⟩ := hv
      refine ⟨_, R, ?_, hr⟩
      simp only [RepP]
      exact ⟨us, rfl, RepL.keep keeps_box _ _ (pure_back hrep)⟩
    · simp [AskR.run] at hr
  · simp [AskR.run] at hr
theorem simArgs_ok {β : Type} (q : Option Nat) (h : RelAt w0 im0 N D bm rm L a w) : ∀ (xs : List Operand) (acc : List PV) (f : List PV → AskR β) (R : List Nat) (y : β × List Nat), (simArgs q xs acc f).run L R = some y →
    ∃ ps R', RepL (imBox q w0 im0 bm rm L w) w ps (xs.map a.eval) ∧ (f (acc.reverse ++ ps)).run L R' = some y
  | [], acc, f, R, y, hr => ⟨[], R, rfl, by simpa [simArgs] using hr⟩
  | x :: xs, acc, f, R, y, hr => by
    simp only [simArgs] at hr
    obtain ⟨v, R1, hv, hr⟩ := opd_inv h hr
    obtain ⟨p, R2, hp, hr⟩ := simT_ok h hv.rep hr
    obtain ⟨ps, R3, hps, hr⟩ := simArgs_ok q h xs (p :: acc) f R2 y hr
    exact ⟨p :: ps, R3, ⟨_, _, rfl, hp, hps⟩, by simpa using hr⟩
theorem imBox_plain {q : Option Nat} (h : RelAt w0 im0 N D bm rm L a w) {b : Nat} (hb : imBox q w0 im0 bm rm L w b) : Plain w b := by
  rcases hb with hb | ⟨k, ty, cs, hc, rfl⟩ | ⟨t, ⟨e, k, es, hc⟩, _, ht⟩
  · exact hb.1
  · obtain ⟨us, hus, _⟩ := h.boxes k ty cs hc
    exact plain_of hus rfl
  · obtain ⟨xs, hown, _⟩ := h.rows t e k es hc
    exact ⟨(hown.lt b ht).2, owns_not_mach hown ht⟩
theorem callS_ok (h : RelAt w0 im0 N D bm rm L a w) {sp : List FuncId} {R : List Nat} {c : CallS} {R' : List Nat} (hr : (callS sp o).run L R = some (c, R')) :
    (∀ d, o.op ≠ .defer d) ∧ ∃ us : List Value, ((∀ us w, (callFunc c.f us).run P w = .ok (.enter c.f us) w) → (execOp a.eval o).run P w = .ok (.enter c.f us.toArray) w) ∧
      ((∃ args, c.args = .mark :: args ∧ c.eat = [] ∧ RepL (imBox none w0 im0 bm rm L w) w args us) ∨
       ∃ q e k es args us', c.args = .own e k es :: args ∧ c.eat = [(kR q, .dead)] ∧ L (kR q) = .row e k es ∧ us = rm q :: us' ∧ RepL (imBox (some q) w0 im0 bm rm L w) w args us') := by
  unfold callS at hr
  split at hr
  · rename_i cl ho
    split at hr
    · rename_i x y r hcal hargs
      refine ⟨by rw [ho]; simp, ?_⟩
      replace hr := opd_inv h hr
      obtain ⟨fv, R1, hfv, hr⟩ := hr
      split at hr
      · rename_i g
        have hx : a.eval x = .func (.func g) #[] #[] := by
          obtain ⟨av, cs, hx, ha, hc⟩ : ∃ av cs' : List Value, a.eval x = .func (.func g) av.toArray cs'.toArray ∧ RepL _ w [] av ∧ RepL _ w [] cs' := by have := hfv.rep; simpa only [RepT, RepV, RepP] using this
          simp only [RepL] at ha hc
          subst ha; subst hc
          exact hx
        have enter : ∀ us : List Value, us = cl.args.toList.map a.eval → (∀ us w, (callFunc g us).run P w = .ok (.enter g us) w) → (execOp a.eval o).run P w = .ok (.enter g us.toArray) w := fun us hus hen => by
          obtain ⟨cal, args, ats⟩ := cl
          simp only at hcal hus
          subst hcal
          simp only [execOp, ho, resolve, Deferred.ofValue, hx, Sem.run_bind, Sem.run_pure, Result.andThen_ok, invoke]
          have e9 : us.toArray = args.map a.eval := by subst hus; apply Array.ext'; simp
          rw [e9, Array.empty_append, Array.append_empty]
          exact hen _ w
        cases hm : memF g sp with
        | false => rw [hm] at hr; simp [AskR.run] at hr
        | true =>
          rw [hm] at hr
          simp only [cond_true] at hr
          replace hr := opd_inv h hr
          obtain ⟨v, R2, hv, hr⟩ := hr
          split at hr
          · rename_i q
            simp only [AskR.run] at hr
            split at hr
            · rename_i e k es hc
              obtain ⟨ps, R3, hps, hr⟩ := simArgs_ok (some q) h r [] _ _ _ hr
              simp only [AskR.run, Option.some.injEq, Prod.mk.injEq, List.reverse_nil, List.nil_append] at hr
              obtain ⟨rfl, _⟩ := hr
              obtain ⟨hq, _⟩ : a.eval y = rm q ∧ _ := hv.rep
              refine ⟨rm q :: r.map a.eval, enter _ (by rw [hargs]; simp [hq]), .inr ⟨q, e, k, es, ps, _, rfl, rfl, hc, rfl, hps⟩⟩
            · simp [AskR.run] at hr
          · obtain ⟨ps, R3, hps, hr⟩ := simArgs_ok none h (y :: r) [] _ _ _ hr
            simp only [AskR.run, Option.some.injEq, Prod.mk.injEq, List.reverse_nil, List.nil_append] at hr
            obtain ⟨rfl, _⟩ := hr
            exact ⟨(y :: r).map a.eval, enter _ (by rw [hargs]), .inl ⟨ps, rfl, rfl, hps⟩⟩
      · simp [AskR.run] at hr
    · simp [AskR.run] at hr
  · simp [AskR.run] at hr
theorem RelAt.eat (h : RelAt w0 im0 N D bm rm L a w) {r : Nat} {e : TypeId} {k : Nat} {es : List (List PV)} {w' : World} (hr : L (kR r) = .row e k es) (hg : w.grownBy w' (rm r).ownBlock) :
    RelAt w0 im0 N D bm rm (ovr [(kR r, .dead)] L) a w' ∧ (∀ b, imOf w0.heap.size im0 bm rm L w b → imOf w0.heap.size im0 bm rm (ovr [(kR r, .dead)] L) w' b) ∧
      (∀ b, (rm r).ownBlock = some b → Plain w' b → imOf w0.heap.size im0 bm rm (ovr [(kR r, .dead)] L) w' b) ∧ (∀ b, w.heap.size ≤ b → Plain w' b → imOf w0.heap.size im0 bm rm (ovr [(kR r, .dead)] L) w' b) := by
  have hir : isRow L r := ⟨e, k, es, hr⟩
  have iB : ∀ k, isBox (ovr [(kR r, .dead)] L) k = isBox L k := fun k => by simp only [isBox, ovrR_B]
  have iR : ∀ k, isRow (ovr [(kR r, .dead)] L) k → isRow L k ∧ k ≠ r := fun k ⟨e, q, es, he⟩ => by
    rw [ovrR_R] at he
    split at he
    · cases he
    · rename_i hne; exact ⟨⟨e, q, es, he⟩, Ne.symm hne⟩
  obtain ⟨xs0, hown0, _, _⟩ := h.rows r e k es hr
  have hblk : ∀ b, b < w.heap.size → (rm r).ownBlock ≠ some b → w'.heap[b]? = w.heap[b]? := fun b hb hne => hg.block b hb (fun e => hne e.symm)
  have hk : Keeps (imOf w0.heap.size im0 bm rm L w) w (imOf w0.heap.size im0 bm rm (ovr [(kR r, .dead)] L) w') w' := fun b hb => by
    have e := hblk b hb.1.1 (hb.2.2.2 r hir)
    exact ⟨⟨hb.1.keep hg.size e, hb.2.1, fun k hk => hb.2.2.1 k (by rw [iB] at hk; exact hk), fun t' ht => hb.2.2.2 t' (iR t' ht).1⟩, e⟩
  have hbase : Below w0.heap.size w0 w' := ⟨hg.os.trans h.base.os, hg.tape.trans h.base.tape, hg.output.trans h.base.output, Nat.le_trans h.base.size hg.size, fun b hb => by
    rw [hblk b (Nat.lt_of_lt_of_le hb h.base.size) (fun e => by have := (hown0.lt b e).1; omega)]; exact h.base.block b hb⟩
  refine ⟨⟨hbase, h.size, h.defs.keep (by first | exact Nat.le_refl _ | exact hg.size | exact hbel.size | exact hw.size | exact hs | (simp; done) | omega) hk (fun b hb => hblk b (mach_lt hb) (fun e => by rw [owns_not_mach hown0 e] at hb; cases hb)), fun d' v' hv' => ?_, fun k' ty' cs' hc => ?_, fun k' o hc => ?_, fun t e' k' es' ht => ?_, fun k1 k2 => by rw [iB, iB]; exact h.bb k1 k2, fun k' t hk' ht => h.br k' t (by rw [iB] at hk'; exact hk') (iR t ht).1, fun t t' g ht ht' => h.rr t t' g (iR t ht).1 (iR t' ht').1, fun i k' hk' => ?_, fun i t ht => ?_⟩, fun b hb => (hk b hb).1, fun b hb hp => ?_, fun b hb hp => ?_⟩
  · rw [ovrR_T] at hv'
    exact (h.slots d' v' hv').keep hk (fun _ _ => rfl) (fun _ _ => rfl)
  · rw [ovrR_B] at hc
    obtain ⟨us, hu, hr', hn'⟩ := h.boxes k' ty' cs' hc
    exact ⟨us, by rw [hblk _ (h.boxlt (.inl ⟨ty', cs', hc⟩)) (h.br k' r (.inl ⟨ty', cs', hc⟩) hir)]; exact hu, hr'.keep hk (fun _ _ => rfl) (fun _ _ => rfl), hn'⟩
  · rw [ovrR_B] at hc
    obtain ⟨O, hu, hr', hn'⟩ := h.objs k' o hc
    exact ⟨O, by rw [hblk _ (h.boxlt (.inr ⟨o, hc⟩)) (h.br k' r (.inr ⟨o, hc⟩) hir)]; exact hu, hr'.keep hk, hn'⟩
  · rw [ovrR_R] at ht
    split at ht
    · cases ht
    · rename_i hne
      obtain ⟨xs, hx, hl, hr'⟩ := h.rows t e' k' es' ht
      refine ⟨xs, hx.kept hg ?_, hl.keep hk, hr'⟩
      cases ho : (rm t).ownBlock with
      | none => exact .inl rfl
      | some g => exact .inr fun e => hne (h.rr t r g ⟨e', k', es', ht⟩ hir ho e.symm).symm
  · rw [ovrR_B]
    rw [ovr_one] at hk'
    split at hk'
    · simp [Cont.boxes] at hk'
    · exact h.wfb i k' hk'
  · rw [ovrR_R]
    split
    · simp
    · rw [ovr_one] at ht
      split at ht
      · simp [Cont.rows] at ht
      · exact h.wfr i t ht
  · exact ⟨hp, .inr (hown0.lt b hb).1, fun k' hk' he => h.br k' r (by rw [iB] at hk'; exact hk') hir (by rw [hb, he]), fun t ht he => (iR t ht).2 (h.rr t r b (iR t ht).1 hir he hb)⟩
  · refine ⟨hp, .inr (Nat.le_trans h.base.size hb), fun k' hk' he => ?_, fun t ht he => ?_⟩
    · have := h.boxlt (by rw [iB] at hk'; exact hk'); omega
    · have := h.rowlt (iR t ht).1 he; omega
def frzArgs {β : Type} : List Operand → List PV → Bool → (List PV → Bool → AskR β) → AskR β
  | [], acc, b, f => f acc.reverse b
  | x :: r, acc, b, f => opd x fun v => frzT v fun p => frzArgs r (p :: acc) (b && pureT v) f
structure CallTo where
  f : FuncId
  args : List PV
  pure : Bool
def callA (o : Oper) : AskR CallTo := match o.op with
  | .call c => match c.callee with
    | .value x => opd x fun fv => frzArgs c.args.toList [] true fun ps b => match fv with
      | .c (.p (.fn (.func g) fa cs)) => .done ⟨g, fa ++ (ps ++ cs), b⟩
      | .c (.clo (.func g) ks) => foldA (frzC 3) (ks.map fun k => CV.ptr k 0) [] fun qs => .done ⟨g, ps ++ qs, false⟩
      | _ => .fail
    | _ => .fail
  | _ => .fail
theorem RepL.append_one {im : Nat → Prop} {w : World} : ∀ {ps : List PV} {us : List Value} {p : PV} {u : Value}, RepL im w ps us → RepP im w p u → RepL im w (ps ++ [p]) (us ++ [u])
  | _, _, p, u, h, k => h.append ⟨u, [], rfl, k, rfl⟩
theorem frzArgs_ok {β : Type} (h : RelAt w0 im0 N D bm rm L a w) : ∀ (xs : List Operand) (acc : List PV) (us : List Value) (b : Bool) (f : List PV → Bool → AskR β) (R : List Nat) (y : β × List Nat), (frzArgs xs acc b f).run L R = some y →
    RepL (imAll w0 im0 w) w acc.reverse us → (b = true → RepL (imOf w0.heap.size im0 bm rm L w) w acc.reverse us) →
    ∃ ps b' R', RepL (imAll w0 im0 w) w ps (us ++ xs.map a.eval) ∧ (b' = true → RepL (imOf w0.heap.size im0 bm rm L w) w ps (us ++ xs.map a.eval)) ∧ (f ps b').run L R' = some y
  | [], acc, us, b, f, R, y, hr, h1, h2 => ⟨acc.reverse, b, R, by simpa using h1, by simpa using h2, hr⟩
  | x :: xs, acc, us, b, f, R, y, hr, h1, h2 => by
    simp only [frzArgs] at hr
    obtain ⟨v, R1, hv, hr⟩ := opd_inv h hr
    obtain ⟨p, R2, hp, hp', hr⟩ := frzT_ok h hv.rep hr
    obtain ⟨ps, b', R3, k1, k2, k3⟩ := frzArgs_ok h xs (p :: acc) (us ++ [a.eval x]) (b && pureT v) f R2 y hr (by simpa using h1.append_one hp)
      (fun hb => by
        simp only [Bool.and_eq_true] at hb
        simpa using (h2 hb.1).append_one (hp' hb.2))
    exact ⟨ps, b', R3, by simpa using k1, by simpa using k2, k3⟩
theorem callA_ok (h : RelAt w0 im0 N D bm rm L a w) {R : List Nat} {c : CallTo} {R' : List Nat} (hr : (callA o).run L R = some (c, R')) :
    ∃ us : List Value, RepL (imAll w0 im0 w) w c.args us ∧ (c.pure = true → RepL (imOf w0.heap.size im0 bm rm L w) w c.args us) ∧ (∀ d, o.op ≠ .defer d) ∧
      ((∀ us w, (callFunc c.f us).run P w = .ok (.enter c.f us) w) → (execOp a.eval o).run P w = .ok (.enter c.f us.toArray) w) := by
  unfold callA at hr
  split at hr
  · rename_i cl ho
    split at hr
    · rename_i x hcal
      replace hr := opd_inv h hr
      obtain ⟨fv, R1, hfv, hr⟩ := hr
      replace hr := frzArgs_ok h cl.args.toList [] [] true _ R1 _ hr (by simp [RepL]) (fun _ => by simp [RepL])
      obtain ⟨ps, b, R2, k1, k2, hr⟩ := hr
      simp only [List.nil_append] at k1 k2
      split at hr
      · rename_i g fa cs
        obtain ⟨av, cc, hx, ha, hc⟩ : ∃ av cs' : List Value, a.eval x = .func (.func g) av.toArray cs'.toArray ∧ RepL _ w fa av ∧ RepL _ w cs cs' := by have := hfv.rep; simpa only [RepT, RepV, RepP] using this
        simp only [AskR.run, Option.some.injEq, Prod.mk.injEq] at hr
        obtain ⟨rfl, _⟩ := hr
        refine ⟨av ++ (cl.args.toList.map a.eval ++ cc), (RepL.keep keeps_all _ _ ha).append (k1.append (RepL.keep keeps_all _ _ hc)), fun hb => ha.append ((k2 hb).append hc), by rw [ho]; simp, fun hen => ?_⟩
        obtain ⟨cal, args, ats⟩ := cl
        simp only at hcal
        subst hcal
        simp only [execOp, ho, resolve, Deferred.ofValue, hx, Sem.run_bind, Sem.run_pure, Result.andThen_ok, invoke]
        have e9 : (av ++ (args.toList.map a.eval ++ cc)).toArray = av.toArray ++ args.map a.eval ++ cc.toArray := by apply Array.ext'; simp
        rw [e9]
        exact hen _ w
      · rename_i g ks
        have hx : a.eval x = .func (.func g) #[] (ks.map fun k => Value.pointer (some ⟨bm k, 0, none⟩)).toArray := hfv.rep
        have hvs : ∀ ks : List Nat, RepVs bm rm (imOf w0.heap.size im0 bm rm L w) w (ks.map fun k => CV.ptr k 0) (ks.map fun k => Value.pointer (some ⟨bm k, 0, none⟩)) := fun ks => by
          induction ks with
          | nil => simp [RepVs]
          | cons k ks ih => exact ⟨_, _, rfl, rfl, ih⟩
        obtain ⟨qs, R3, hq, _, hr⟩ := foldA_ok (fun c u f R y => frzC_ok h 3 c u f R y) _ _ [] _ _ _ (hvs ks) hr
        simp only [AskR.run, Option.some.injEq, Prod.mk.injEq, List.reverse_nil, List.nil_append] at hr
        obtain ⟨rfl, _⟩ := hr
        refine ⟨cl.args.toList.map a.eval ++ ks.map fun k => Value.pointer (some ⟨bm k, 0, none⟩), k1.append hq, (fun hb => by cases hb), by rw [ho]; simp, fun hen => ?_⟩
        obtain ⟨cal, args, ats⟩ := cl
        simp only at hcal
        subst hcal
        simp only [execOp, ho, resolve, Deferred.ofValue, hx, Sem.run_bind, Sem.run_pure, Result.andThen_ok, invoke]
        have e9 : (args.toList.map a.eval ++ ks.map fun k => Value.pointer (some ⟨bm k, 0, none⟩)).toArray = args.map a.eval ++ (ks.map fun k => Value.pointer (some ⟨bm k, 0, none⟩)).toArray := by apply Array.ext'; simp
        rw [e9, Array.empty_append]
        exact hen _ w
      · simp [AskR.run] at hr
    · simp [AskR.run] at hr
  · simp [AskR.run] at hr
end
def rowOf {β : Type} : List Operand → (Nat → AskR β) → AskR β
  | [], _ => .fail
  | x :: r, f => opd x fun v => match v with
    | .c (.row t) => f t
    | _ => rowOf r f
def frzZ {β : Type} (t : Nat) : List Operand → List PV → (List PV → AskR β) → AskR β
  | [], acc, f => f acc.reverse
  | x :: r, acc, f => opd x fun v => match v with
    | .c (.row t') => bif Nat.beq t' t then .get (kR t') fun c => (match c with
      | .row _ k es => frzZ t r (.list k es :: acc) f
      | _ => .fail) else .fail
    | .c (.p p) => frzZ t r (p :: acc) f
    | .agg cs => match asPs cs with
      | some ps => frzZ t r (.agg ps :: acc) f
      | none => .fail
    | _ => .fail
structure CallZ where
  f : FuncId
  args : List PV
  q : Nat
def callZ (o : Oper) : AskR CallZ := match o.op with
  | .call c => match c.callee with
    | .value x => opd x fun fv => match fv with
      | .c (.p (.fn (.func g) [] [])) => rowOf c.args.toList fun t => .get (kR t) fun cc => match cc with
        | .row _ _ _ => frzZ t c.args.toList [] fun ps => .done ⟨g, ps, t⟩
        | _ => .fail
      | _ => .fail
    | _ => .fail
  | _ => .fail
section
variable {P : Program} {w0 : World} {im0 : Nat → Prop} {N : NN} {D : Env} {bm : Nat → Nat} {rm : Nat → Value} {L : Lk} {a : Act} {w w' : World} {o : Oper}
theorem rowOf_ok {β : Type} (h : RelAt w0 im0 N D bm rm L a w) : ∀ (xs : List Operand) (f : Nat → AskR β) (R : List Nat) (y : β × List Nat), (rowOf xs f).run L R = some y → ∃ t R', (f t).run L R' = some y
  | [], f, R, y, hr => by simp [rowOf, AskR.run] at hr
  | x :: r, f, R, y, hr => by
    simp only [rowOf] at hr
    obtain ⟨v, R1, hv, hr⟩ := opd_inv h hr
    split at hr
    · exact ⟨_, _, hr⟩
    · exact rowOf_ok h r f R1 y hr
theorem keeps_kill (h : RelAt w0 im0 N D bm rm L a w) (t : Nat) : Keeps (imOf w0.heap.size im0 bm rm L w) w (imOf w0.heap.size im0 bm rm (ovr [(kR t, .dead)] L) w) w := fun b hb => by
  have iB : ∀ k, isBox (ovr [(kR t, .dead)] L) k = isBox L k := fun k => by simp only [isBox, ovrR_B]
  have iR : ∀ k, isRow (ovr [(kR t, .dead)] L) k → isRow L k := fun k ⟨e, q, es, he⟩ => by
    rw [ovrR_R] at he
    split at he
    · cases he
    · exact ⟨e, q, es, he⟩
  exact ⟨⟨hb.1, hb.2.1, fun k hk => hb.2.2.1 k (by rw [iB] at hk; exact hk), fun t' ht => hb.2.2.2 t' (iR t' ht)⟩, rfl⟩
theorem frzZ_ok {β : Type} (h : RelAt w0 im0 N D bm rm L a w) (t : Nat) : ∀ (xs : List Operand) (acc : List PV) (us : List Value) (f : List PV → AskR β) (R : List Nat) (y : β × List Nat), (frzZ t xs acc f).run L R = some y →
    RepL (imOf w0.heap.size im0 bm rm (ovr [(kR t, .dead)] L) w) w acc.reverse us →
    ∃ ps R', RepL (imOf w0.heap.size im0 bm rm (ovr [(kR t, .dead)] L) w) w ps (us ++ xs.map a.eval) ∧ (f ps).run L R' = some y
  | [], acc, us, f, R, y, hr, h1 => ⟨acc.reverse, R, by simpa using h1, hr⟩
  | x :: xs, acc, us, f, R, y, hr, h1 => by
    simp only [frzZ] at hr
    obtain ⟨v, R1, hv, hr⟩ := opd_inv h hr
    have step : ∀ p R2, RepP (imOf w0.heap.size im0 bm rm (ovr [(kR t, .dead)] L) w) w p (a.eval x) → (frzZ t xs (p :: acc) f).run L R2 = some y → ∃ ps R', RepL (imOf w0.heap.size im0 bm rm (ovr [(kR t, .dead)] L) w) w ps (us ++ (x :: xs).map a.eval) ∧ (f ps).run L R' = some y := fun p R2 hp hr => by
      obtain ⟨ps, R3, k1, k2⟩ := frzZ_ok h t xs (p :: acc) (us ++ [a.eval x]) f R2 y hr (by simpa using h1.append_one hp)
      exact ⟨ps, R3, by simpa using k1, k2⟩
    split at hr
    · rename_i t'
      cases hb : Nat.beq t' t with
      | false => rw [hb] at hr; simp [AskR.run] at hr
      | true =>
        rw [hb] at hr
        have := Nat.eq_of_beq_eq_true hb
        subst this
        simp only [cond_true, AskR.run] at hr
        split at hr
        · rename_i e k es hc
          obtain ⟨hx, _⟩ : a.eval x = rm t' ∧ _ := hv.rep
          refine step _ _ ?_ hr
          rw [hx]
          exact (h.freeze hc).2
        · simp [AskR.run] at hr
    · exact step _ _ (RepP.keep (keeps_kill h t) _ _ hv.rep) hr
    · split at hr
      · rename_i ps hps
        have := asPs_get hps
        subst this
        obtain ⟨vs, hx, hrep⟩ := hv.rep
        refine step (.agg ps) _ ?_ hr
        simp only [RepP]
        exact ⟨vs, hx, RepL.keep (keeps_kill h t) _ _ (pure_back hrep)⟩
      · simp [AskR.run] at hr
    · simp [AskR.run] at hr
theorem callZ_ok (h : RelAt w0 im0 N D bm rm L a w) {R : List Nat} {z : CallZ} {R' : List Nat} (hr : (callZ o).run L R = some (z, R')) :
    (∃ e k es, L (kR z.q) = .row e k es) ∧ ∃ us : List Value, RepL (imOf w0.heap.size im0 bm rm (ovr [(kR z.q, .dead)] L) w) w z.args us ∧ (∀ d, o.op ≠ .defer d) ∧
      ((∀ us w, (callFunc z.f us).run P w = .ok (.enter z.f us) w) → (execOp a.eval o).run P w = .ok (.enter z.f us.toArray) w) := by
  unfold callZ at hr
  split at hr
  · rename_i cl ho
    split at hr
    · rename_i x hcal
      replace hr := opd_inv h hr
      obtain ⟨fv, R1, hfv, hr⟩ := hr
      split at hr
      · rename_i g
        have hx : a.eval x = .func (.func g) #[] #[] := by
          obtain ⟨av, cs, hx, ha, hc⟩ : ∃ av cs' : List Value, a.eval x = .func (.func g) av.toArray cs'.toArray ∧ RepL _ w [] av ∧ RepL _ w [] cs' := by have := hfv.rep; simpa only [RepT, RepV, RepP] using this
          simp only [RepL] at ha hc
          subst ha; subst hc
          exact hx
        obtain ⟨t, R2, hr⟩ := rowOf_ok h _ _ _ _ hr
        simp only [AskR.run] at hr
        split at hr
        · rename_i e k es hrow
          obtain ⟨ps, R3, hps, hr⟩ := frzZ_ok h t _ _ [] _ _ _ hr (by simp [RepL])
          simp only [AskR.run, Option.some.injEq, Prod.mk.injEq] at hr
          obtain ⟨rfl, _⟩ := hr
          refine ⟨⟨e, k, es, hrow⟩, _, by simpa using hps, by rw [ho]; simp, fun hen => ?_⟩
          obtain ⟨cal, args, ats⟩ := cl
          simp only at hcal
          subst hcal
          simp only [execOp, ho, resolve, Deferred.ofValue, hx, Sem.run_bind, Sem.run_pure, Result.andThen_ok, invoke]
          have e9 : (args.toList.map a.eval).toArray = args.map a.eval := by apply Array.ext'; simp
          rw [e9, Array.empty_append, Array.append_empty]
          exact hen _ w
        · simp [AskR.run] at hr
      · simp [AskR.run] at hr
    · simp [AskR.run] at hr
  · simp [AskR.run] at hr
end
end Go.Proofs.Ytjimjdhdnkhfnaa
