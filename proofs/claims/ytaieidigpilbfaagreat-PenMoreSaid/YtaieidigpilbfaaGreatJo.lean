/- Contracts of functions of the program and of the reference, and plain facts: a part of a proof. Own text. -/
import Derived.Test.YtaieidigpilbfaaGreatJf
import Derived.Test.YtaieidigpilbfaaGreatRows
import Derived.ProofKit
import Derived.Deep.Slices
import Derived.Deep.Strs
import Derived.Lib.SmallJoins
import Derived.OpenShut
import Derived.SizedLaws
set_option linter.unusedVariables false
set_option linter.unusedSimpArgs false
set_option linter.unusedSectionVars false
namespace Go.Proofs.YtaieidigpilbfaaGreat
open Go Go.ChangeShapes Go.WideShapes Go.RowKit Go.Deep
set_option maxHeartbeats 400000
set_option maxRecDepth 100000

section
variable {H : Type} {enc : TypeId × Value → H} {w : World} {base : Nat} {spare : Nat → Bool} {held : Bool} {fuel : Nat} {cs : List Value} {x : DataW H × List MemPlace}

theorem nums_array {P : Program} {t e : TypeId} {n : Nat} (ht : P.underlying t = some (.array n e)) (he : P.underlying e = some (.int .i64)) (hc : P.cellsOf e = 1) (hC : P.cellsOf t = n)
    (h : DataW.trod enc P w base spare held fuel t cs = some x) : ∃ l, l.length = n ∧ Nums cs l := by
  obtain ⟨xs, m, _, _, hl, hn, hel⟩ := DataW.trod_array ht h
  rw [hC] at hl
  obtain ⟨l, h1, h2⟩ := nums_of (cs := cs) fun j hj => by
    have h3 := hel j (by omega)
    have hx : xs[j]? = some (xs[j]'(by omega)) := List.getElem?_eq_getElem (by omega)
    rw [hc, Nat.mul_one, hx] at h3
    obtain ⟨k, e1, _, e3⟩ := DataW.trod_int he h3
    refine ⟨k, ?_, i64_wf e3⟩
    have := congrArg (fun l => l[0]?) e1
    simpa [List.getElem?_take, List.getElem?_drop] using this
  exact ⟨l, by omega, h2⟩

theorem okWide_arr {P : Program} {t e : TypeId} {m : Nat} {r : Reach} {b0 : Nat} {v : Value} (ht : P.underlying t = some (.array m e)) (h : Value.okWide P w r b0 t v) : ∃ cs, v = .agg cs ∧ cs.size = P.cellsOf t := by
  simp only [Value.okWide, ht] at h
  obtain ⟨cs, h1, h2, _⟩ := h
  exact ⟨cs, h1, h2⟩
/-- A place of which a cell is known. -/
theorem plain_of {a : Addr} {v : Value} (h0 : w.cell? a = some v) : a.spot = none ∧ a.block < w.heap.size := by
  unfold World.cell? at h0
  split at h0
  · rename_i hh
    refine ⟨?_, (Array.getElem?_eq_some_iff.1 hh).1⟩
    cases hs : a.spot with
    | none => rfl
    | some y => rw [hs] at h0; simp at h0
  · simp at h0

theorem is_open (h : DataW.trod enc Tryz.prog w base spare held fuel 22 cs = some x) (hz : ∀ y ∈ x.1.weights Tryz.prog 22, y ≤ reachBytes) : ∃ A n c l, cs = [.slice A n c] ∧ Is w A n l ∧ n ≤ c ∧ n * 8 ≤ reachBytes ∧ ∀ y ∈ l, i64 y := by
  rcases open_slice Tryz.underlying22 h with ⟨rfl, _⟩ | ⟨a, len, cap, m, k, D, Pl, rfl, _, hlc, hcm, hm, hx, hel⟩
  · exact ⟨none, 0, 0, [], rfl, ⟨rfl, by omega, fun k hk => by simp at hk⟩, Nat.le_refl _, by omega, by simp⟩
  · have hlm : len ≤ m := by rw [hm]; split <;> omega
    have hsz : len * 8 ≤ reachBytes := by
      have := hz ((len + (m - len)) * Tryz.prog.bytesOf 3) (by rw [hx]; simp [DataW.weights, Tryz.underlying22])
      rw [show Tryz.prog.bytesOf 3 = 8 by kernel_rfl] at this
      omega
    have hrb := reachBytes_lt
    have each : ∀ i, i < len → ∃ g : Int, w.cell? (a.add i) = some (.int .i64 g) ∧ i64 g := by
      intro i hi
      obtain ⟨cs', hc, ht⟩ := hel i (by omega)
      rw [show Tryz.prog.cellsOf 3 = 1 by kernel_rfl, Nat.mul_one] at hc
      obtain ⟨g, rfl, _, e3⟩ := DataW.trod_int Tryz.underlying3 ht
      obtain ⟨_, _, hat⟩ := World.cells?_some hc
      have := hat 0 (by omega)
      exact ⟨g, by simpa [Deep.add_add] using this, i64_wf e3⟩
    obtain ⟨f, hf⟩ := choose_lt each
    refine ⟨some a, len, cap, (List.range len).map f, rfl, ⟨by simp, by omega, fun k hk => ?_⟩, hlc, hsz, ?_⟩
    · have hk' : k < len := by simpa using hk
      have hg := (hf k hk').1
      obtain ⟨hsp, hb⟩ := plain_of (hf 0 (by omega)).1
      rw [show a.add 0 = a from rfl] at hb hsp
      obtain ⟨b, o, s⟩ := a
      obtain rfl := hsp
      refine ⟨b, o, rfl, hb, ?_⟩
      rw [List.getElem_map, List.getElem_range, ← hg]
      rw [Addr.add_lit]
    · intro y hy
      obtain ⟨i, hi, rfl⟩ := List.mem_map.1 hy
      exact (hf i (List.mem_range.1 hi)).2

theorem okWide_slice1 {P : Program} {t e : TypeId} {r : Reach} {b0 : Nat} {v : Value} (ht : P.underlying t = some (.slice e)) (h : Value.okWide P w r b0 t v) : ∀ {A : Option Addr} {n c : Nat}, v.cells.toList = [.slice A n c] → v = .slice A n c := by
  intro A n c e
  simp only [Value.okWide, ht, Cell.okWide] at h
  cases v <;> simp_all [Cell.ok, Value.cells]

theorem open_is {r : Reach} {b0 : Nat} {v : Value} {d : DataW H} {p : List MemPlace} (hv : Value.okWide Tryz.prog w r b0 22 v) (h : DataW.Trod enc Tryz.prog w base spare held 22 v d p) (hz : ∀ y ∈ d.weights Tryz.prog 22, y ≤ reachBytes) :
    ∃ A n c l, v = .slice A n c ∧ Is w A n l ∧ n ≤ c ∧ n * 8 ≤ reachBytes ∧ ∀ y ∈ l, i64 y := by
  obtain ⟨fuel, hf⟩ := h
  obtain ⟨A, n, c, l, e, h1, h2, h3, h4⟩ := is_open hf hz
  exact ⟨A, n, c, l, okWide_slice1 Tryz.underlying22 hv e, h1, h2, h3, h4⟩
theorem open_int3 {r : Reach} {b0 : Nat} {v : Value} {d : DataW H} {p : List MemPlace} (hv : Value.okWide Tryz.prog w r b0 3 v) (h : DataW.Trod enc Tryz.prog w base spare held 3 v d p) : ∃ n, v = .int .i64 n ∧ i64 n := by
  obtain ⟨fuel, hf⟩ := h
  obtain ⟨n, e1, _, e3⟩ := DataW.trod_int Tryz.underlying3 hf
  refine ⟨n, ?_, i64_wf e3⟩
  simp only [Value.okWide, Tryz.underlying3, Cell.okWide] at hv
  cases v <;> simp_all [Cell.ok, Value.cells]

/-- Two numbers that came in. -/
theorem open_two {r : Reach} {b0 : Nat} {v : Value} {d : DataW H} {p : List MemPlace} (hv : Value.okWide Tryz.prog w r b0 26 v) (h : DataW.Trod enc Tryz.prog w base spare held 26 v d p) : ∃ x y, v = .agg #[.int .i64 x, .int .i64 y] ∧ i64 x ∧ i64 y := by
  obtain ⟨cs, rfl, hsz⟩ := okWide_arr Tryz.underlying26 hv
  obtain ⟨fuel, hf⟩ := h
  obtain ⟨l, hln, e2, hb⟩ := nums_array Tryz.underlying26 Tryz.underlying3 (by kernel_rfl) (by kernel_rfl) hf
  obtain ⟨cl⟩ := cs
  match l, hln with
  | [a, b], _ =>
    simp [Value.cells, ints] at e2
    exact ⟨a, b, by rw [e2], hb a (by simp), hb b (by simp)⟩

/-- A slice whose cells are known is one of kinds. -/
theorem kd_open (h : DataW.trod enc Tryz.prog w base spare held fuel 72 cs = some x) : ∃ g : Kd, cs = [.int .i64 g.s, .int .i64 g.r, .int .i64 g.e, .int .i64 g.a] := by
  obtain ⟨y0, y1, y2, y3, n, _, hl, h0, h1, h2, h3⟩ := Go.Joins.trod_struct4 Tryz.underlying72 h
  rw [show Tryz.prog.cellsOf 72 = 4 by kernel_rfl] at hl
  dsimp only at h0 h1 h2 h3
  rw [show Tryz.prog.cellsOf 3 = 1 by kernel_rfl] at h0 h1 h2 h3
  obtain ⟨k0, e0, _, _⟩ := DataW.trod_int Tryz.underlying3 h0
  obtain ⟨k1, e1, _, _⟩ := DataW.trod_int Tryz.underlying3 h1
  obtain ⟨k2, e2, _, _⟩ := DataW.trod_int Tryz.underlying3 h2
  obtain ⟨k3, e3, _, _⟩ := DataW.trod_int Tryz.underlying3 h3
  match cs, hl with
  | [c0, c1, c2, c3], _ =>
    simp at e0 e1 e2 e3
    subst e0; subst e1; subst e2; subst e3
    exact ⟨⟨k0, k1, k2, k3⟩, rfl⟩
theorem ks_open (h : DataW.trod enc Tryz.prog w base spare held fuel 23 cs = some x) (hz : ∀ y ∈ x.1.weights Tryz.prog 23, y ≤ reachBytes) : ∃ A n c gs, cs = [.slice A n c] ∧ Ks w A n gs ∧ n ≤ c ∧ n * 32 ≤ reachBytes := by
  rcases open_slice Tryz.underlying23 h with ⟨rfl, _⟩ | ⟨a, len, cap, m, k, D, Pl, rfl, _, hlc, hcm, hm, hx, hel⟩
  · exact ⟨none, 0, 0, [], rfl, ⟨rfl, by omega, fun k hk => by simp at hk⟩, Nat.le_refl _, by omega⟩
  · have hlm : len ≤ m := by rw [hm]; split <;> omega
    have hsz : len * 32 ≤ reachBytes := by
      have := hz ((len + (m - len)) * Tryz.prog.bytesOf 72) (by rw [hx]; simp [DataW.weights, Tryz.underlying23])
      rw [show Tryz.prog.bytesOf 72 = 32 by kernel_rfl] at this
      omega
    have hrb := reachBytes_lt
    have each : ∀ i, i < len → ∃ g : Kd, ∀ j, j < 4 → w.cell? (a.add (i * 4 + j)) = [Value.int .i64 g.s, .int .i64 g.r, .int .i64 g.e, .int .i64 g.a][j]? := by
      intro i hi
      obtain ⟨cs', hc, ht⟩ := hel i (by omega)
      rw [show Tryz.prog.cellsOf 72 = 4 by kernel_rfl] at hc
      obtain ⟨g, rfl⟩ := kd_open ht
      obtain ⟨_, _, hat⟩ := World.cells?_some hc
      refine ⟨g, fun j hj => ?_⟩
      have := hat j hj
      rwa [Deep.add_add] at this
    have : Inhabited Kd := ⟨kd0⟩
    obtain ⟨f, hf⟩ := choose_lt each
    refine ⟨some a, len, cap, (List.range len).map f, rfl, ⟨by simp, by omega, fun k hk => ?_⟩, hlc, hsz⟩
    have hk' : k < len := by simpa using hk
    have hg := hf k hk'
    obtain ⟨hsp, hb⟩ := plain_of (hf 0 (by omega) 0 (by omega))
    obtain ⟨b, o, s⟩ := a
    obtain rfl := hsp
    refine ⟨b, o, rfl, hb, ?_⟩
    have e : ∀ q, (Addr.mk b o none).add q = ⟨b, o + q, none⟩ := fun q => Addr.add_lit ..
    simp only [e] at hg
    rw [List.getElem_map, List.getElem_range]
    exact ⟨by have := hg 0 (by omega); simpa using this, by have := hg 1 (by omega); simpa [Nat.add_assoc] using this, by have := hg 2 (by omega); simpa [Nat.add_assoc] using this, by have := hg 3 (by omega); simpa [Nat.add_assoc] using this⟩
/-- A yard that came in. -/
theorem open_yard {r : Reach} {b0 : Nat} {v : Value} {d : DataW H} {p : List MemPlace} (hv : Value.okWide Tryz.prog w r b0 25 v) (h : DataW.Trod enc Tryz.prog w base spare held 25 v d p) (hz : ∀ y ∈ d.weights Tryz.prog 25, y ≤ reachBytes) :
    ∃ A n c P B m d K, v = .agg #[.slice A n c, .slice B m d] ∧ Is w A n P ∧ Ks w B m K ∧ n ≤ c ∧ m ≤ d := by
  obtain ⟨cs, rfl, hsz⟩ := okWide_struct Tryz.underlying25 hv
  rw [show Tryz.prog.cellsOf 25 = 2 by kernel_rfl] at hsz
  obtain ⟨fuel, hf⟩ := h
  obtain ⟨y0, y1, n, hd, hl, h0, h1⟩ := trod_struct2 Tryz.underlying25 hf
  have hz0 : ∀ y ∈ y0.1.weights Tryz.prog 22, y ≤ reachBytes := fun y hy => hz y (by
    have : d = .agg [y0.1, y1.1] := (Prod.ext_iff.1 hd).1
    rw [this]; simp [DataW.weights, DataW.weightsEach, Tryz.underlying25, hy])
  have hz1 : ∀ y ∈ y1.1.weights Tryz.prog 23, y ≤ reachBytes := fun y hy => hz y (by
    have : d = .agg [y0.1, y1.1] := (Prod.ext_iff.1 hd).1
    rw [this]; simp [DataW.weights, DataW.weightsEach, Tryz.underlying25, hy])
  dsimp only at h0 h1
  rw [show Tryz.prog.cellsOf 22 = 1 by kernel_rfl] at h0
  rw [show Tryz.prog.cellsOf 23 = 1 by kernel_rfl] at h1
  obtain ⟨A, n1, c1, P, e0, hp, hnc, _, _⟩ := is_open h0 hz0
  obtain ⟨B, m1, d1, K, e1, hk, hmd, _⟩ := ks_open h1 hz1
  obtain ⟨cl⟩ := cs
  match cl, hsz with
  | [c0, c1'], _ =>
    simp [Value.cells] at e0 e1
    subst e0; subst e1
    exact ⟨A, n1, c1, P, B, m1, d1, K, rfl, hp, hk, hnc, hmd⟩
end

section
variable {H : Type} {enc : TypeId × Value → H} {P : Program}
theorem trodAll_stays (hl : laidOutB P = true) {W W' : World} (hb : Below W.heap.size W W') {sp : Nat → Bool} : ∀ {ts : List TypeId} {vs : List Value} {ds : List (DataW H)} {p : List MemPlace}, (∀ t ∈ ts, P.readableRec t = true ∧ t < P.types.size) →
    DataW.TrodAll enc P W 0 (fun _ => true) true ts vs ds p → (∀ x ∈ p, x.block < W.heap.size) → (∀ x ∈ p, sp x.block = true) → DataW.TrodAll enc P W' 0 sp true ts vs ds p
  | [], _, _, _, _, h, _, _ => by
    obtain ⟨rfl, rfl, rfl⟩ := trodAll_nil h
    exact rfl
  | t :: ts, _, _, _, hr, h, hlt, hs => by
    obtain ⟨v, vs1, d, ds1, a, b, rfl, rfl, rfl, h1, h2⟩ := trodAll_cons h
    obtain ⟨q1, q2⟩ := hr t (List.mem_cons_self ..)
    exact ⟨a, b, WideElems.Trod_stays hl q1 q2 h1 (fun x hx => hb.same (hlt x (by simp [hx]))) (fun x hx => hs x (by simp [hx])),
      trodAll_stays hl hb (fun u hu => hr u (List.mem_cons_of_mem _ hu)) h2 (fun x hx => hlt x (by simp [hx])) (fun x hx => hs x (by simp [hx])), rfl⟩

/-- A statement's end: the call returned true, and no old memory has turned. -/
theorem law_post {f : Func} {s : ChangeSpec} {W W' : World} {args : Array Value} {ds : List (DataW H)} {before : List MemPlace} {tb : TypeId} (hl : laidOutB P = true) (hb4 : P.underlying tb = some .bool) (hf : f.resultTypes = #[tb]) (hv : s.vars = [])
    (hs : s.fn H (ds ++ []) = { results := [.lit (.bool true)], args := ds }) (hr : ∀ t ∈ f.params.toList, P.readableRec t = true ∧ t < P.types.size)
    (hW : DataW.Whole enc P f.params.toList s.vars false W args.toList ds [] before) (hb : Below W.heap.size W W') : s.post enc P f false true false false W args (.bool true) W' := by
  have hlt : ∀ p ∈ before, p.block < W.heap.size := fun p hp => hW.lt p hp
  have hW' := hW
  obtain ⟨p, q, hA, hV, rfl, hz, hn⟩ := hW'
  rw [hv] at hV
  obtain ⟨_, rfl⟩ := trodVars_none hV
  rw [List.append_nil] at hW hlt hz hn
  have hres : ∀ (b : Nat) (sp : Nat → Bool) (hd : Bool), DataW.TrodAll enc P W' b sp hd f.resultTypes.toList ((Value.bool true).resultList f.resultTypes.size) (s.fn H (ds ++ [])).results [] := by
    intro b sp hd
    rw [hs, hf]
    exact trodAll_mk1 (shut_bool hb4 _)
  have hargs : ∀ sp : Nat → Bool, (∀ x ∈ p, sp x.block = true) → DataW.TrodAll enc P W' 0 sp true f.params.toList args.toList (s.fn H (ds ++ [])).args p := by
    intro sp hsp
    rw [hs]
    exact trodAll_stays hl hb hr hA hlt hsp
  have hvars : ∀ sp : Nat → Bool, DataW.TrodVars enc P W' sp s.vars (s.fn H (ds ++ [])).vars [] := by
    intro sp
    rw [hs, hv]
    exact rfl
  refine ⟨ds, [], p, [], p, [], hW, hres _ _ _, hargs _ (fun x hx => by simpa using hlt x hx), hvars _, World.keptBut_mono (fun x hx => ⟨hx, Or.inr (by simpa using hx)⟩) (hb.frame (· ∈ p)), fun _ => ?_⟩
  refine ⟨ok_one hf rfl (okWide_bool_mk hb4 _), _, _, ([] ++ p) ++ [], ⟨[] ++ p, [], trodAll_append (hargs _ (fun _ _ => rfl)) (hres _ _ _), hvars _, rfl, ?_, fun h => by cases h⟩, fun x hx _ => by simpa using hx⟩
  intro b off hp
  have hin : MemPlace.cell b off ∈ p := by simpa using hp
  rw [hb.frozen (p := ⟨b, off, none⟩) (hlt _ hin)]
  exact hz b off hin
end

theorem trodAll_length {H : Type} {enc : TypeId × Value → H} {P : Program} {w : World} {base : Nat} {spare : Nat → Bool} {held : Bool} : ∀ {ts : List TypeId} {vs : List Value} {ds : List (DataW H)} {p : List MemPlace},
    DataW.TrodAll enc P w base spare held ts vs ds p → ds.length = ts.length
  | [], _, _, _, h => by
    obtain ⟨_, rfl, _⟩ := trodAll_nil h
    rfl
  | t :: ts, _, _, _, h => by
    obtain ⟨v, vs1, d, ds1, a, b, rfl, rfl, rfl, h1, h2⟩ := trodAll_cons h
    simp [trodAll_length h2]

theorem ownKnob_none : ownKnob Tryz.prog.godebug = none := by kernel_rfl
theorem laidOut : laidOutB Tryz.prog = true := by kernel_rfl

theorem law_lift {H : Type} {enc : TypeId × Value → H} {os : Os} {f : FuncId} {fn : Func} {s : ChangeSpec} {conds : List PathCond} (started : os.Started) (noInit : Tryz.checked.prog.inits.idxOf? f = none) (hfn : Tryz.checked.prog.funcs[f]? = some fn)
    (witness : ∃ (w : World) (tape : Tape) (i : Input), w.os = os ∧ (w.forCall tape i).Shaped Tryz.checked.prog ∧ i.vars = [] ∧ Input.okWide Tryz.checked.prog (w.forCall tape i) .any w.heap.size f i ∧
      s.pre6 enc Tryz.checked.prog fn conds false (w.forCall tape i).memory i.args ∧ Assume.holds {} Tryz.checked.prog (lone (Frame.enter Tryz.checked.prog f i.args .normal) [] (w.forCall tape i)))
    (hv : s.vars = []) (hf : fn.resultTypes = #[4]) (hs : ∀ ds : List (DataW H), ds.length = fn.params.toList.length → s.fn H (ds ++ []) = { results := [.lit (.bool true)], args := ds })
    (hr : ∀ t ∈ fn.params.toList, Tryz.prog.readableRec t = true ∧ t < Tryz.prog.types.size)
    (walk : ∀ (W : World) (base : Nat) (args : Array Value) (ds : List (DataW H)) (p : List MemPlace), (∀ (j : Nat) t v, fn.params[j]? = some t → args[j]? = some v → Value.okWide Tryz.prog W .any base t v) →
      DataW.TrodAll enc Tryz.prog W 0 (fun _ => true) true fn.params.toList args.toList ds p → (∀ (j : Nat) t d, fn.params[j]? = some t → ds[j]? = some d → ∀ y ∈ d.weights Tryz.prog t, y ≤ reachBytes) →
      Calls Tryz.prog f args W fun e w' => e = .returned (.bool true) ∧ Below W.heap.size W w') :
    ReturnsInHanded {} Tryz.checked os f .any (s.pre6 enc Tryz.checked.prog fn conds false) (s.post enc Tryz.checked.prog fn false true false false) := by
  refine returnsInHanded_of_change_sized (C := Tryz.checked) ownKnob_none started noInit hfn witness ?_
  intro W base args ds gs before hval0 hW _ hsz _
  have hval : ∀ (j : Nat) t v, fn.params[j]? = some t → args[j]? = some v → Value.okWide Tryz.prog W .any base t v := hval0
  have hW1 : DataW.Whole enc Tryz.prog fn.params.toList s.vars false W args.toList ds gs before := hW
  have hW2 := hW1
  obtain ⟨p, q, hA, hV, rfl, _, _⟩ := hW1
  rw [hv] at hV
  obtain ⟨rfl, rfl⟩ := trodVars_none hV
  have hz : ∀ (j : Nat) t d, fn.params[j]? = some t → ds[j]? = some d → ∀ y ∈ d.weights Tryz.prog t, y ≤ reachBytes := by
    intro j t d ht hd y hy
    have ht' : (fn.params.toList ++ s.plain.varTypes Tryz.checked.prog)[j]? = some t := by
      have h1 : fn.params.toList[j]? = some t := by simpa using ht
      rw [List.getElem?_append_left (List.getElem?_eq_some_iff.1 h1).1, h1]
    have := List.all_eq_true.1 hsz _ (DataW.weights_mem_each ht' (by rw [List.append_nil]; exact hd) y hy)
    simpa using this
  refine (walk W base args ds p hval hA hz).mono fun e W' ⟨he, hb⟩ => ?_
  subst he
  exact ⟨_, rfl, law_post laidOut Tryz.underlying4 hf hv (hs ds (trodAll_length hA)) hr hW2 hb⟩
end Go.Proofs.YtaieidigpilbfaaGreat

namespace Go.Proofs.YtaieidigpilbfaaGreat
open Go Go.ChangeShapes Go.WideShapes Go.RowKit Go.Deep
set_option maxHeartbeats 4000000
set_option maxRecDepth 100000
section
variable {H : Type} {enc : TypeId × Value → H} {w : World} {base : Nat} {spare : Nat → Bool} {held : Bool} {fuel : Nat} {cs : List Value} {x : DataW H × List MemPlace}
/-- Three numbers. -/
theorem open_three {r : Reach} {b0 : Nat} {v : Value} {d : DataW H} {p : List MemPlace} (hv : Value.okWide Tryz.prog w r b0 69 v) (h : DataW.Trod enc Tryz.prog w base spare held 69 v d p) : ∃ x y z, v = .agg #[.int .i64 x, .int .i64 y, .int .i64 z] := by
  obtain ⟨cs, rfl, hsz⟩ := okWide_arr Tryz.underlying69 hv
  obtain ⟨fuel, hf⟩ := h
  obtain ⟨l, hln, e2, hb⟩ := nums_array Tryz.underlying69 Tryz.underlying3 (by kernel_rfl) (by kernel_rfl) hf
  obtain ⟨cl⟩ := cs
  match l, hln with
  | [a, b, c], _ =>
    simp [Value.cells, ints] at e2
    exact ⟨a, b, c, by rw [e2]⟩
theorem st_open (h : DataW.trod enc Tryz.prog w base spare held fuel 76 cs = some x) : ∃ g : St, cs = [.int .i64 g.s, .int .i64 g.i, .int .i64 g.o] := by
  obtain ⟨y0, y1, y2, n, _, hl, h0, h1, h2⟩ := trod_struct3 Tryz.underlying76 h
  rw [show Tryz.prog.cellsOf 76 = 3 by kernel_rfl] at hl
  dsimp only at h0 h1 h2
  rw [show Tryz.prog.cellsOf 3 = 1 by kernel_rfl] at h0 h1 h2
  obtain ⟨k0, e0, _, _⟩ := DataW.trod_int Tryz.underlying3 h0
  obtain ⟨k1, e1, _, _⟩ := DataW.trod_int Tryz.underlying3 h1
  obtain ⟨k2, e2, _, _⟩ := DataW.trod_int Tryz.underlying3 h2
  match cs, hl with
  | [c0, c1, c2], _ =>
    simp at e0 e1 e2
    subst e0; subst e1; subst e2
    exact ⟨⟨k0, k1, k2⟩, rfl⟩
theorem ss_open (h : DataW.trod enc Tryz.prog w base spare held fuel 58 cs = some x) (hz : ∀ y ∈ x.1.weights Tryz.prog 58, y ≤ reachBytes) : ∃ A n c gs, cs = [.slice A n c] ∧ Ss w A n gs ∧ n ≤ c ∧ n * 24 ≤ reachBytes := by
  rcases open_slice Tryz.underlying58 h with ⟨rfl, _⟩ | ⟨a, len, cap, m, k, D, Pl, rfl, _, hlc, hcm, hm, hx, hel⟩
  · exact ⟨none, 0, 0, [], rfl, ⟨rfl, by omega, fun k hk => by simp at hk⟩, Nat.le_refl _, by omega⟩
  · have hlm : len ≤ m := by rw [hm]; split <;> omega
    have hsz : len * 24 ≤ reachBytes := by
      have := hz ((len + (m - len)) * Tryz.prog.bytesOf 76) (by rw [hx]; simp [DataW.weights, Tryz.underlying58])
      rw [show Tryz.prog.bytesOf 76 = 24 by kernel_rfl] at this
      omega
    have hrb := reachBytes_lt
    have each : ∀ i, i < len → ∃ g : St, ∀ j, j < 3 → w.cell? (a.add (i * 3 + j)) = [Value.int .i64 g.s, .int .i64 g.i, .int .i64 g.o][j]? := by
      intro i hi
      obtain ⟨cs', hc, ht⟩ := hel i (by omega)
      rw [show Tryz.prog.cellsOf 76 = 3 by kernel_rfl] at hc
      obtain ⟨g, rfl⟩ := st_open ht
      obtain ⟨_, _, hat⟩ := World.cells?_some hc
      refine ⟨g, fun j hj => ?_⟩
      have := hat j hj
      rwa [Deep.add_add] at this
    have : Inhabited St := ⟨st00⟩
    obtain ⟨f, hf⟩ := choose_lt each
    refine ⟨some a, len, cap, (List.range len).map f, rfl, ⟨by simp, by omega, fun k hk => ?_⟩, hlc, hsz⟩
    have hk' : k < len := by simpa using hk
    have hg := hf k hk'
    obtain ⟨hsp, hb⟩ := plain_of (hf 0 (by omega) 0 (by omega))
    obtain ⟨b, o, s⟩ := a
    obtain rfl := hsp
    refine ⟨b, o, rfl, hb, ?_⟩
    have e : ∀ q, (Addr.mk b o none).add q = ⟨b, o + q, none⟩ := fun q => Addr.add_lit ..
    simp only [e] at hg
    rw [List.getElem_map, List.getElem_range]
    exact ⟨by have := hg 0 (by omega); simpa using this, by have := hg 1 (by omega); simpa [Nat.add_assoc] using this, by have := hg 2 (by omega); simpa [Nat.add_assoc] using this⟩
theorem open_stays {r : Reach} {b0 : Nat} {v : Value} {d : DataW H} {p : List MemPlace} (hv : Value.okWide Tryz.prog w r b0 58 v) (h : DataW.Trod enc Tryz.prog w base spare held 58 v d p) (hz : ∀ y ∈ d.weights Tryz.prog 58, y ≤ reachBytes) :
    ∃ A n c l, v = .slice A n c ∧ Ss w A n l ∧ n ≤ c ∧ n * 24 ≤ reachBytes := by
  obtain ⟨fuel, hf⟩ := h
  obtain ⟨A, n, c, l, e, h1, h2, h3⟩ := ss_open hf hz
  exact ⟨A, n, c, l, okWide_slice1 Tryz.underlying58 hv e, h1, h2, h3⟩
end
end Go.Proofs.YtaieidigpilbfaaGreat

