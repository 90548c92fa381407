/- Contracts of functions of the program and of the reference, a calculus of states, and plain facts: a part of a proof. Own text. -/
import Derived.Test.YtjimjdhdnkhfnaaJan
import Derived.Test.YtjimjdhdnkhfnaaRows
import Derived.ProofKit
import Derived.Deep.Slices
import Derived.Deep.Strs
import Derived.Lib.SmallJoins
import Derived.OpenShut
import Derived.SizedLaws
set_option linter.unusedVariables false
set_option linter.unusedSimpArgs false
set_option linter.unusedSectionVars false
namespace Go.Proofs.Ytjimjdhdnkhfnaa
open Go Go.ChangeShapes Go.WideShapes Go.RowKit Go.Deep
set_option maxHeartbeats 1000000
set_option maxRecDepth 100000
def covB (g : TypeId → Bool) (P : Program) (m : Nat) : List Field → Nat → Bool
  | [], off => Nat.beq off m
  | f :: fs, off => Nat.beq f.offset off && (g f.type && covB g P m fs (off + P.cellsOf f.type))
def numB (P : Program) : Nat → TypeId → Bool
  | 0, _ => false
  | d + 1, t => match P.underlying t with
    | some (.int .i64) => true
    | some (.array n e) => numB P d e && (Nat.blt 0 (P.cellsOf e) && Nat.beq (P.cellsOf t) (n * P.cellsOf e))
    | some (.struct fs) => covB (numB P d) P (P.cellsOf t) fs.toList 0
    | _ => false
def AllN (cs : List Value) : Prop := ∀ u ∈ cs, ∃ n, u = .int .i64 n
theorem AllN.ints {cs : List Value} (h : AllN cs) : ∃ l, cs = ints l := by
  induction cs with
  | nil => exact ⟨[], rfl⟩
  | cons c cs ih =>
    obtain ⟨n, rfl⟩ := h c (by simp)
    obtain ⟨l, rfl⟩ := ih fun u hu => h u (by simp [hu])
    exact ⟨n :: l, rfl⟩
section
variable {H : Type} {enc : TypeId × Value → H} {w : World} {base : Nat} {spare : Nat → Bool} {held : Bool} {P : Program}
theorem cov_all {g : TypeId → Bool} {m : Nat} {cs : List Value} (hl : cs.length = m) : ∀ (fs : List Field) (off : Nat), covB g P m fs off = true →
    (∀ f ∈ fs, g f.type = true → AllN ((cs.drop f.offset).take (P.cellsOf f.type))) → ∀ (j : Nat) u, off ≤ j → cs[j]? = some u → ∃ n, u = .int .i64 n
  | [], off, hc, _, j, u, hj, hu => by
    have := Nat.eq_of_beq_eq_true hc
    have := (List.getElem?_eq_some_iff.1 hu).1
    omega
  | f :: fs, off, hc, ha, j, u, hj, hu => by
    simp only [covB, Bool.and_eq_true] at hc
    obtain ⟨h1, h2, h3⟩ := hc
    have h1 := Nat.eq_of_beq_eq_true h1
    by_cases hlt : j < off + P.cellsOf f.type
    · refine ha f (by simp) h2 u (List.mem_of_getElem? (i := j - off) ?_)
      rw [List.getElem?_take, if_pos (by omega), List.getElem?_drop, h1, show off + (j - off) = j by omega]
      exact hu
    · exact cov_all hl fs (off + P.cellsOf f.type) h3 (fun f hf => ha f (by simp [hf])) j u (by omega) hu
theorem nums_trod : ∀ (d : Nat) (t : TypeId) (fuel : Nat) (cs : List Value) (x : DataW H × List MemPlace), numB P d t = true → DataW.trod enc P w base spare held fuel t cs = some x → AllN cs
  | 0, _, _, _, _, hb, _ => by simp [numB] at hb
  | d + 1, t, fuel, cs, x, hb, h => by
    unfold numB at hb
    split at hb
    · rename_i hu
      obtain ⟨k, e1, _, _⟩ := DataW.trod_int hu h
      subst e1
      intro u hu
      exact ⟨k, by simpa using hu⟩
    · rename_i n e hu
      simp only [Bool.and_eq_true, Nat.blt_eq] at hb
      obtain ⟨h1, h2, h3⟩ := hb
      have h3 := Nat.eq_of_beq_eq_true h3
      obtain ⟨xs, m, _, _, hl, hn, hel⟩ := DataW.trod_array hu h
      intro u hu
      obtain ⟨j, hj⟩ := List.getElem?_of_mem hu
      have hjl := (List.getElem?_eq_some_iff.1 hj).1
      have hi : j / P.cellsOf e < n := Nat.div_lt_of_lt_mul (by rw [Nat.mul_comm, ← h3, ← hl]; exact hjl)
      have hx : xs[j / P.cellsOf e]? = some (xs[j / P.cellsOf e]'(by omega)) := List.getElem?_eq_getElem (by omega)
      have h4 := hel (j / P.cellsOf e) (by omega)
      rw [hx] at h4
      refine nums_trod d e _ _ _ h1 h4 u (List.mem_of_getElem? (i := j % P.cellsOf e) ?_)
      rw [List.getElem?_take, if_pos (Nat.mod_lt _ h2), List.getElem?_drop, Nat.mul_comm, Nat.div_add_mod]
      exact hj
    · rename_i fs hu
      obtain ⟨xs, n, _, _, hl, hlen, hf⟩ := DataW.trod_struct hu h
      have key := cov_all (P := P) hl fs.toList 0 hb (fun f hfm hg => by
        obtain ⟨i, hi⟩ := List.getElem?_of_mem hfm
        have hil := (List.getElem?_eq_some_iff.1 hi).1
        have h4 := hf i f (by simpa using hi)
        have hx : xs[i]? = some (xs[i]'(by simp at hil; omega)) := List.getElem?_eq_getElem (by simp at hil; omega)
        rw [hx] at h4
        exact nums_trod d f.type _ _ _ hg h4)
      intro u hu
      obtain ⟨j, hj⟩ := List.getElem?_of_mem hu
      exact key j u (Nat.zero_le _) hj
    · cases hb
end
section
variable {H : Type} {enc : TypeId × Value → H} {w : World} {base : Nat} {spare : Nat → Bool} {held : Bool} {fuel : Nat} {cs : List Value} {x : DataW H × List MemPlace}
theorem okWide_arr {P : Program} {t e : TypeId} {m : Nat} {r : Reach} {b0 : Nat} {v : Value} (ht : P.underlying t = some (.array m e)) (h : Value.okWide P w r b0 t v) : ∃ cs, v = .agg cs ∧ cs.size = P.cellsOf t := by
  simp only [Value.okWide, ht] at h
  obtain ⟨cs, h1, h2, _⟩ := h
  exact ⟨cs, h1, h2⟩
theorem place_of {a : Addr} {v : Value} (h0 : w.cell? a = some v) : a.spot = none ∧ Plain w a.block := by
  unfold World.cell? at h0
  split at h0
  · rename_i hh
    refine ⟨?_, (Array.getElem?_eq_some_iff.1 hh).1, by rw [hh]; rfl⟩
    cases hs : a.spot with
    | none => rfl
    | some y => rw [hs] at h0; simp at h0
  · simp at h0
theorem open_int3 {r : Reach} {b0 : Nat} {v : Value} {d : DataW H} {p : List MemPlace} (hv : Value.okWide Try.prog w r b0 3 v) (h : DataW.Trod enc Try.prog w base spare held 3 v d p) : ∃ n, v = .int .i64 n := by
  obtain ⟨fuel, hf⟩ := h
  obtain ⟨n, e1, _, e3⟩ := DataW.trod_int Try.underlying3 hf
  refine ⟨n, ?_⟩
  simp only [Value.okWide, Try.underlying3, Cell.okWide] at hv
  cases v <;> simp_all [Cell.ok, Value.cells]
theorem rows_open {sl e : TypeId} {k nb : Nat} (hs : Try.prog.underlying sl = some (.slice e)) (hn : numB Try.prog 8 e = true) (hk : Try.prog.cellsOf e = k) (hk0 : 0 < k) (h : DataW.trod enc Try.prog w base spare held fuel sl cs = some x)
    (hb : Try.prog.bytesOf e = nb) (hnb : 8 ≤ nb) (hz : ∀ y ∈ x.1.weights Try.prog sl, y ≤ reachBytes) :
    ∃ (A : Option Addr) (n c : Nat) (L : List (List Int)), cs = [.slice A n c] ∧ RepP (Plain w) w (.list k (L.map rowP)) (.slice A n c) ∧ (∀ y ∈ L, y.length = k) ∧ L.length * nb ≤ reachBytes := by
  rcases open_slice hs h with ⟨rfl, _⟩ | ⟨a, len, cap, m, q, D, Pl, rfl, _, hlc, hcm, hm, hx, hel⟩
  · refine ⟨none, 0, 0, [], rfl, ?_, by simp, by simp⟩
    simp only [RepP]
    exact ⟨none, 0, 0, rfl, rfl, by simp, by simp, .inl rfl⟩
  · have hlm : len ≤ m := by rw [hm]; split <;> omega
    have hsz : len * nb ≤ reachBytes := by
      have := hz ((len + (m - len)) * Try.prog.bytesOf e) (by rw [hx]; simp [DataW.weights, hs])
      rw [hb] at this
      have h2 : len * nb ≤ (len + (m - len)) * nb := Nat.mul_le_mul_right _ (by omega)
      omega
    have each : ∀ i, i < len → ∃ l : List Int, l.length = k ∧ ∀ j, j < k → w.cell? (a.add (i * k + j)) = (ints l)[j]? := by
      intro i hi
      obtain ⟨cs', hc, ht⟩ := hel i (by omega)
      rw [hk] at hc
      obtain ⟨l, hl⟩ := (nums_trod 8 e _ _ _ hn ht).ints
      obtain ⟨_, hlen, hat⟩ := World.cells?_some hc
      subst hl
      refine ⟨l, by simpa [ints] using hlen, fun j hj => ?_⟩
      have := hat j hj
      rwa [Deep.add_add] at this
    obtain ⟨f, hf⟩ := choose_lt each
    refine ⟨some a, len, cap, (List.range len).map f, rfl, ?_, fun y hy => ?_, by simpa using hsz⟩
    · simp only [RepP]
      refine ⟨some a, len, cap, rfl, by simp, hlc, by simpa [maxLen] using hcm, ?_⟩
      by_cases h0 : len = 0
      · subst h0; exact .inl rfl
      · obtain ⟨b, o, s⟩ := a
        have hl0 := (hf 0 (by omega)).1
        have hg0 := (hf 0 (by omega)).2 0 hk0
        obtain ⟨hsp, hb⟩ := place_of (v := (ints (f 0))[0]'(by rw [ints_len, hl0]; exact hk0)) (by rw [hg0]; exact List.getElem?_eq_getElem _)
        have hsp : s = none := by
          have e : (Addr.mk b o s).add (0 * k + 0) = ⟨b, o, s⟩ := by rw [Nat.zero_mul]; rfl
          rw [e] at hsp; exact hsp
        subst hsp
        have hb : Plain w b := by rw [Addr.add_lit] at hb; exact hb
        refine .inr ⟨b, o, rfl, hb, ?_⟩
        have hw : ∀ x ∈ ((List.range len).map f).map ints, x.length = k := fun x hx => by
          obtain ⟨y, hy, rfl⟩ := List.mem_map.1 hx
          obtain ⟨i, hi, rfl⟩ := List.mem_map.1 hy
          rw [ints_len]; exact (hf i (List.mem_range.1 hi)).1
        refine RepE.of_flat' (us := (((List.range len).map f).map ints).flatten) ⟨fun y hy => ?_, fun u hu => ?_⟩ (fun j u hu => ?_) ?_
        · obtain ⟨x, hx, rfl⟩ := List.mem_map.1 hy
          obtain ⟨i, hi, rfl⟩ := List.mem_map.1 hx
          unfold rowP; rw [List.length_map]; exact (hf i (List.mem_range.1 hi)).1
        · obtain ⟨x, hx, hu⟩ := List.mem_flatten.1 hu
          obtain ⟨y, hy, rfl⟩ := List.mem_map.1 hx
          exact ints_one' _ u hu
        · have hj : j < len * k := by
            have := (List.getElem?_eq_some_iff.1 hu).1
            rw [flat_len hw] at this
            simpa using this
          have hi : j / k < len := Nat.div_lt_of_lt_mul (by rwa [Nat.mul_comm] at hj)
          have e1 := flat_at hw (i := j / k) (by simpa using hi) (j := j % k) (Nat.mod_lt _ hk0)
          have e2 : j / k * k + j % k = j := by rw [Nat.mul_comm, Nat.div_add_mod]
          rw [e2] at e1
          rw [e1] at hu
          have := (hf (j / k) hi).2 (j % k) (Nat.mod_lt _ hk0)
          rw [e2, Addr.add_lit] at this
          rw [this]
          simpa using hu
        · rw [show (((List.range len).map f).map rowP).flatten = rowP (((List.range len).map f).flatten) from ?_, show (((List.range len).map f).map ints).flatten = ints (((List.range len).map f).flatten) from ?_]
          · exact rep_ints.2 rfl
          · unfold ints; rw [List.map_flatten]
          · unfold rowP; rw [List.map_flatten]
    · obtain ⟨i, hi, rfl⟩ := List.mem_map.1 hy
      exact (hf i (List.mem_range.1 hi)).1
theorem Does.walk {f : FuncId} {args : List PV} {us : List Value} (h : Does Try.prog f args (.bool true)) (hr : RepL (Plain w) w args us) : Calls Try.prog f us.toArray w fun e w' => e = .returned (.bool true) ∧ Below w.heap.size w w' := by
  refine (h.2 w (Plain w) us (fun _ hb => hb) hr).mono ?_
  rintro e w' ⟨u, rfl, hu, hb⟩
  simp only [RepP] at hu
  subst hu
  exact ⟨rfl, hb⟩
end
section
variable {H : Type} {enc : TypeId × Value → H} {P : Program}
theorem trodAll_stays (hl : laidOutB P = true) {W W' : World} (hb : Below W.heap.size W W') {sp : Nat → Bool} : ∀ {ts : List TypeId} {vs : List Value} {ds : List (DataW H)} {p : List MemPlace}, (∀ t ∈ ts, P.readableRec t = true ∧ t < P.types.size) →
    DataW.TrodAll enc P W 0 (fun _ => true) true ts vs ds p → (∀ x ∈ p, x.block < W.heap.size) → (∀ x ∈ p, sp x.block = true) → DataW.TrodAll enc P W' 0 sp true ts vs ds p
  | [], _, _, _, _, h, _, _ => by
    obtain ⟨rfl, rfl, rfl⟩ := trodAll_nil h
    exact rfl
  | t :: ts, _, _, _, hr, h, hlt, hs => by
    obtain ⟨v, vs1, d, ds1, a, b, rfl, rfl, rfl, h1, h2⟩ := trodAll_cons h
    obtain ⟨q1, q2⟩ := hr t (List.mem_cons_self ..)
    exact ⟨a, b, WideElems.Trod_stays hl q1 q2 h1 (fun x hx => hb.same (hlt x (by simp [hx]))) (fun x hx => hs x (by simp [hx])),
      trodAll_stays hl hb (fun u hu => hr u (List.mem_cons_of_mem _ hu)) h2 (fun x hx => hlt x (by simp [hx])) (fun x hx => hs x (by simp [hx])), rfl⟩
theorem law_post {f : Func} {s : ChangeSpec} {W W' : World} {args : Array Value} {ds : List (DataW H)} {before : List MemPlace} {tb : TypeId} (hl : laidOutB P = true) (hb4 : P.underlying tb = some .bool) (hf : f.resultTypes = #[tb]) (hv : s.vars = [])
    (hs : s.fn H (ds ++ []) = { results := [.lit (.bool true)], args := ds }) (hr : ∀ t ∈ f.params.toList, P.readableRec t = true ∧ t < P.types.size)
    (hW : DataW.Whole enc P f.params.toList s.vars false W args.toList ds [] before) (hb : Below W.heap.size W W') : s.post enc P f false true false false W args (.bool true) W' := by
  have hlt : ∀ p ∈ before, p.block < W.heap.size := fun p hp => hW.lt p hp
  have hW' := hW
  obtain ⟨p, q, hA, hV, rfl, hz, hn⟩ := hW'
  rw [hv] at hV
  obtain ⟨_, rfl⟩ := trodVars_none hV
  rw [List.append_nil] at hW hlt hz hn
  have hres : ∀ (b : Nat) (sp : Nat → Bool) (hd : Bool), DataW.TrodAll enc P W' b sp hd f.resultTypes.toList ((Value.bool true).resultList f.resultTypes.size) (s.fn H (ds ++ [])).results [] := by
    intro b sp hd
    rw [hs, hf]
    exact trodAll_mk1 (shut_bool hb4 _)
  have hargs : ∀ sp : Nat → Bool, (∀ x ∈ p, sp x.block = true) → DataW.TrodAll enc P W' 0 sp true f.params.toList args.toList (s.fn H (ds ++ [])).args p := by
    intro sp hsp
    rw [hs]
    exact trodAll_stays hl hb hr hA hlt hsp
  have hvars : ∀ sp : Nat → Bool, DataW.TrodVars enc P W' sp s.vars (s.fn H (ds ++ [])).vars [] := by
    intro sp
    rw [hs, hv]
    exact rfl
  refine ⟨ds, [], p, [], p, [], hW, hres _ _ _, hargs _ (fun x hx => by simpa using hlt x hx), hvars _, World.keptBut_mono (fun x hx => ⟨hx, Or.inr (by simpa using hx)⟩) (hb.frame (· ∈ p)), fun _ => ?_⟩
  refine ⟨ok_one hf rfl (okWide_bool_mk hb4 _), _, _, ([] ++ p) ++ [], ⟨[] ++ p, [], trodAll_append (hargs _ (fun _ _ => rfl)) (hres _ _ _), hvars _, rfl, ?_, fun h => by cases h⟩, fun x hx _ => by simpa using hx⟩
  intro b off hp
  have hin : MemPlace.cell b off ∈ p := by simpa using hp
  rw [hb.frozen (p := ⟨b, off, none⟩) (hlt _ hin)]
  exact hz b off hin
end
theorem trodAll_length {H : Type} {enc : TypeId × Value → H} {P : Program} {w : World} {base : Nat} {spare : Nat → Bool} {held : Bool} : ∀ {ts : List TypeId} {vs : List Value} {ds : List (DataW H)} {p : List MemPlace},
    DataW.TrodAll enc P w base spare held ts vs ds p → ds.length = ts.length
  | [], _, _, _, h => by
    obtain ⟨_, rfl, _⟩ := trodAll_nil h
    rfl
  | t :: ts, _, _, _, h => by
    obtain ⟨v, vs1, d, ds1, a, b, rfl, rfl, rfl, h1, h2⟩ := trodAll_cons h
    simp [trodAll_length h2]
theorem ownKnob_none : ownKnob Try.prog.godebug = none := by kernel_rfl
theorem laidOut : laidOutB Try.prog = true := by kernel_rfl
theorem law_lift {H : Type} {enc : TypeId × Value → H} {os : Os} {f : FuncId} {fn : Func} {s : ChangeSpec} {conds : List PathCond} (started : os.Started) (noInit : Try.checked.prog.inits.idxOf? f = none) (hfn : Try.checked.prog.funcs[f]? = some fn)
    (witness : ∃ (w : World) (tape : Tape) (i : Input), w.os = os ∧ (w.forCall tape i).Shaped Try.checked.prog ∧ i.vars = [] ∧ Input.okWide Try.checked.prog (w.forCall tape i) .any w.heap.size f i ∧
      s.pre6 enc Try.checked.prog fn conds false (w.forCall tape i).memory i.args ∧ Assume.holds {} Try.checked.prog (lone (Frame.enter Try.checked.prog f i.args .normal) [] (w.forCall tape i)))
    (hv : s.vars = []) (hf : fn.resultTypes = #[4]) (hs : ∀ ds : List (DataW H), ds.length = fn.params.toList.length → s.fn H (ds ++ []) = { results := [.lit (.bool true)], args := ds })
    (hr : ∀ t ∈ fn.params.toList, Try.prog.readableRec t = true ∧ t < Try.prog.types.size)
    (walk : ∀ (W : World) (base : Nat) (args : Array Value) (ds : List (DataW H)) (p : List MemPlace), (∀ (j : Nat) t v, fn.params[j]? = some t → args[j]? = some v → Value.okWide Try.prog W .any base t v) →
      DataW.TrodAll enc Try.prog W 0 (fun _ => true) true fn.params.toList args.toList ds p → (∀ (j : Nat) t d, fn.params[j]? = some t → ds[j]? = some d → ∀ y ∈ d.weights Try.prog t, y ≤ reachBytes) →
      Calls Try.prog f args W fun e w' => e = .returned (.bool true) ∧ Below W.heap.size W w') :
    ReturnsInHanded {} Try.checked os f .any (s.pre6 enc Try.checked.prog fn conds false) (s.post enc Try.checked.prog fn false true false false) := by
  refine returnsInHanded_of_change_sized (C := Try.checked) ownKnob_none started noInit hfn witness ?_
  intro W base args ds gs before hval0 hW _ hsz _
  have hval : ∀ (j : Nat) t v, fn.params[j]? = some t → args[j]? = some v → Value.okWide Try.prog W .any base t v := hval0
  have hW1 : DataW.Whole enc Try.prog fn.params.toList s.vars false W args.toList ds gs before := hW
  have hW2 := hW1
  obtain ⟨p, q, hA, hV, rfl, _, _⟩ := hW1
  rw [hv] at hV
  obtain ⟨rfl, rfl⟩ := trodVars_none hV
  have hz : ∀ (j : Nat) t d, fn.params[j]? = some t → ds[j]? = some d → ∀ y ∈ d.weights Try.prog t, y ≤ reachBytes := by
    intro j t d ht hd y hy
    have ht' : (fn.params.toList ++ s.plain.varTypes Try.checked.prog)[j]? = some t := by
      have h1 : fn.params.toList[j]? = some t := by simpa using ht
      rw [List.getElem?_append_left (List.getElem?_eq_some_iff.1 h1).1, h1]
    have := List.all_eq_true.1 hsz _ (DataW.weights_mem_each ht' (by rw [List.append_nil]; exact hd) y hy)
    simpa using this
  refine (walk W base args ds p hval hA hz).mono fun e W' ⟨he, hb⟩ => ?_
  subst he
  exact ⟨_, rfl, law_post laidOut Try.underlying4 hf hv (hs ds (trodAll_length hA)) hr hW2 hb⟩
end Go.Proofs.Ytjimjdhdnkhfnaa
namespace Go.Proofs.Ytjimjdhdnkhfnaa
open Go Go.ChangeShapes Go.WideShapes Go.RowKit Go.Deep
set_option maxHeartbeats 1000000
set_option maxRecDepth 100000
section
variable {H : Type} {enc : TypeId × Value → H} {w : World} {base : Nat} {spare : Nat → Bool} {held : Bool} {fuel : Nat} {cs : List Value} {x : DataW H × List MemPlace}
theorem open_raw {r : Reach} {b0 : Nat} {v : Value} {d : DataW H} {p : List MemPlace} (hv : Value.okWide Try.prog w r b0 25 v) (h : DataW.Trod enc Try.prog w base spare held 25 v d p) (hz : ∀ y ∈ d.weights Try.prog 25, y ≤ reachBytes) :
    ∃ T H N : List (List Int), RepP (Plain w) w (.agg [.list 6 (T.map rowP), .list 7 (H.map rowP), .list 6 (N.map rowP)]) v ∧ (∀ x ∈ T, x.length = 6) ∧ (∀ x ∈ H, x.length = 7) ∧ ∀ x ∈ N, x.length = 6 := by
  obtain ⟨cs, rfl, hsz⟩ := okWide_struct Try.underlying25 hv
  rw [show Try.prog.cellsOf 25 = 3 by kernel_rfl] at hsz
  obtain ⟨fuel, hf⟩ := h
  obtain ⟨y0, y1, y2, n, hd, hl, h0, h1, h2⟩ := trod_struct3 Try.underlying25 hf
  have hdd : d = .agg [y0.1, y1.1, y2.1] := (Prod.ext_iff.1 hd).1
  dsimp only at h0 h1 h2
  have hz0 : ∀ y ∈ y0.1.weights Try.prog 22, y ≤ reachBytes := fun y hy => hz y (by rw [hdd]; simp [DataW.weights, DataW.weightsEach, Try.underlying25, hy])
  have hz1 : ∀ y ∈ y1.1.weights Try.prog 23, y ≤ reachBytes := fun y hy => hz y (by rw [hdd]; simp [DataW.weights, DataW.weightsEach, Try.underlying25, hy])
  have hz2 : ∀ y ∈ y2.1.weights Try.prog 22, y ≤ reachBytes := fun y hy => hz y (by rw [hdd]; simp [DataW.weights, DataW.weightsEach, Try.underlying25, hy])
  rw [show Try.prog.cellsOf 22 = 1 by kernel_rfl] at h0
  rw [show Try.prog.cellsOf 23 = 1 by kernel_rfl] at h1
  rw [show Try.prog.cellsOf 22 = 1 by kernel_rfl] at h2
  obtain ⟨A, n1, c1, T, e0, r0, w0, _⟩ := rows_open Try.underlying22 (by kernel_rfl) (show Try.prog.cellsOf 66 = 6 by kernel_rfl) (by decide) h0 (show Try.prog.bytesOf 66 = 48 by kernel_rfl) (by decide) hz0
  obtain ⟨B, n2, c2, H, e1, r1, w1, _⟩ := rows_open Try.underlying23 (by kernel_rfl) (show Try.prog.cellsOf 71 = 7 by kernel_rfl) (by decide) h1 (show Try.prog.bytesOf 71 = 56 by kernel_rfl) (by decide) hz1
  obtain ⟨C, n3, c3, N, e2, r2, w2, _⟩ := rows_open Try.underlying22 (by kernel_rfl) (show Try.prog.cellsOf 66 = 6 by kernel_rfl) (by decide) h2 (show Try.prog.bytesOf 66 = 48 by kernel_rfl) (by decide) hz2
  obtain ⟨cl⟩ := cs
  match cl, hsz with
  | [c0, c1', c2'], _ =>
    simp [Value.cells] at e0 e1 e2
    subst e0; subst e1; subst e2
    refine ⟨T, H, N, ?_, w0, w1, w2⟩
    have : ∃ us : List Value, (Value.agg #[.slice A n1 c1, .slice B n2 c2, .slice C n3 c3]) = .agg us.toArray ∧ RepL (Plain w) w [.list 6 (T.map rowP), .list 7 (H.map rowP), .list 6 (N.map rowP)] us := ⟨[_, _, _], rfl, _, _, rfl, r0, _, _, rfl, r1, _, _, rfl, r2, rfl⟩
    simpa only [RepP] using this
theorem open_arr {t e : TypeId} {m k : Nat} (ht : Try.prog.underlying t = some (.array m e)) (hn : numB Try.prog 8 t = true) (hk : Try.prog.cellsOf t = k)
    {r : Reach} {b0 : Nat} {v : Value} {d : DataW H} {p : List MemPlace} (hv : Value.okWide Try.prog w r b0 t v) (h : DataW.Trod enc Try.prog w base spare held t v d p) : ∃ l : List Int, l.length = k ∧ RepP (Plain w) w (.agg (rowP l)) v := by
  obtain ⟨cs, rfl, hsz⟩ := okWide_arr ht hv
  obtain ⟨fuel, hf⟩ := h
  obtain ⟨l, hl⟩ := (nums_trod 8 t _ _ _ hn hf).ints
  have hl : cs.toList = ints l := by simpa [Value.cells] using hl
  refine ⟨l, ?_, ?_⟩
  · have : cs.toList.length = k := by rw [← hk, ← hsz]; simp
    rw [hl, ints_len] at this; exact this
  · have : ∃ us : List Value, Value.agg cs = .agg us.toArray ∧ RepL (Plain w) w (rowP l) us := ⟨ints l, by rw [← hl], rep_ints.2 rfl⟩
    simpa only [RepP] using this
end
end Go.Proofs.Ytjimjdhdnkhfnaa
