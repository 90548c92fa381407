/- Contracts of functions of the program and of the reference, and plain facts: a part of a proof. Own text. -/
import Derived.Test.YtbieopkohkomoaaJb
import Derived.Test.YtbieopkohkomoaaRows
import Derived.ProofKit
import Derived.Deep.Slices
import Derived.Deep.Strs
import Derived.OpenShut
import Derived.SizedLaws
set_option linter.unusedVariables false
set_option linter.unusedSimpArgs false
set_option linter.unusedSectionVars false
namespace Go.Proofs.Ytbieopkohkomoaa
open Go.ChangeShapes Go.WideShapes Go.RowKit Go.Deep
set_option maxHeartbeats 400000
set_option maxRecDepth 100000

/-- A number that fits. -/
def i64 (n : Int) : Prop := -9223372036854775808 ≤ n ∧ n ≤ 9223372036854775807
theorem i64_wf {n : Int} (h : (Lit.int .i64 n).wf = true) : i64 n := by
  simp only [Lit.wf, Bool.and_eq_true, decide_eq_true_eq] at h
  exact ⟨h.1, h.2⟩
/-- Cells that are these numbers. -/
def Nums (cs : List Value) (l : List Int) : Prop := cs = ints l ∧ ∀ n ∈ l, i64 n
theorem nums_of {cs : List Value} (h : ∀ j, j < cs.length → ∃ n, cs[j]? = some (.int .i64 n) ∧ i64 n) : ∃ l, l.length = cs.length ∧ Nums cs l := by
  induction cs with
  | nil => exact ⟨[], rfl, rfl, by simp⟩
  | cons c cs ih =>
    obtain ⟨n, hn, hi⟩ := h 0 (by simp)
    obtain ⟨l, hl, he, hq⟩ := ih fun j hj => by simpa using h (j + 1) (by simpa using hj)
    obtain rfl : c = .int .i64 n := by simpa using hn
    exact ⟨n :: l, by simp [hl], by simp [ints, he], by simpa using ⟨hi, hq⟩⟩

section
variable {H : Type} {enc : TypeId × Value → H} {w : World} {base : Nat} {spare : Nat → Bool} {held : Bool} {fuel : Nat} {cs : List Value} {x : DataW H × List MemPlace}

theorem nums_array {P : Program} {t e : TypeId} {n : Nat} (ht : P.underlying t = some (.array n e)) (he : P.underlying e = some (.int .i64)) (hc : P.cellsOf e = 1) (hC : P.cellsOf t = n)
    (h : DataW.trod enc P w base spare held fuel t cs = some x) : ∃ l, l.length = n ∧ Nums cs l := by
  obtain ⟨xs, m, _, _, hl, hn, hel⟩ := DataW.trod_array ht h
  rw [hC] at hl
  obtain ⟨l, h1, h2⟩ := nums_of (cs := cs) fun j hj => by
    have h3 := hel j (by omega)
    have hx : xs[j]? = some (xs[j]'(by omega)) := List.getElem?_eq_getElem (by omega)
    rw [hc, Nat.mul_one, hx] at h3
    obtain ⟨k, e1, _, e3⟩ := DataW.trod_int he h3
    refine ⟨k, ?_, i64_wf e3⟩
    have := congrArg (fun l => l[0]?) e1
    simpa [List.getElem?_take, List.getElem?_drop] using this
  exact ⟨l, by omega, h2⟩

theorem giv_open (h : DataW.trod enc Try.prog w base spare held fuel 30 cs = some x) : ∃ g : Giv, cs = [.int .i64 g.o, .int .i64 g.m0, .int .i64 g.m1, .int .i64 g.m2, .int .i64 g.m3, .int .i64 g.m4, .int .i64 g.m5] := by
  obtain ⟨y0, y1, n, _, hl, h0, h1⟩ := trod_struct2 Try.underlying30 h
  rw [show Try.prog.cellsOf 30 = 7 by kernel_rfl] at hl
  dsimp only at h0 h1
  rw [show Try.prog.cellsOf 3 = 1 by kernel_rfl] at h0
  rw [show Try.prog.cellsOf 28 = 6 by kernel_rfl] at h1
  obtain ⟨k, e1, _, _⟩ := DataW.trod_int Try.underlying3 h0
  obtain ⟨l, hln, e2, _⟩ := nums_array Try.underlying28 Try.underlying3 (by kernel_rfl) (by kernel_rfl) h1
  match cs, hl with
  | [c0, c1, c2, c3, c4, c5, c6], _ =>
    match l, hln with
    | [a0, a1, a2, a3, a4, a5], _ =>
      simp [ints] at e1 e2
      obtain ⟨rfl, rfl, rfl, rfl, rfl, rfl⟩ := e2
      subst e1
      exact ⟨⟨k, a0, a1, a2, a3, a4, a5⟩, rfl⟩

theorem rd_open {t : TypeId} (ht : Try.prog.underlying t = some (.array 6 3)) (hC : Try.prog.cellsOf t = 6) (h : DataW.trod enc Try.prog w base spare held fuel t cs = some x) :
    ∃ r : Rd, cs = [.int .i64 r.r0, .int .i64 r.r1, .int .i64 r.r2, .int .i64 r.r3, .int .i64 r.r4, .int .i64 r.r5] := by
  obtain ⟨l, hln, e2, _⟩ := nums_array ht Try.underlying3 (by kernel_rfl) hC h
  match l, hln with
  | [a0, a1, a2, a3, a4, a5], _ => exact ⟨⟨a0, a1, a2, a3, a4, a5⟩, by simpa [ints] using e2⟩

/-- A slice whose cells are known is one of given marks. -/
theorem gs_open (h : DataW.trod enc Try.prog w base spare held fuel 24 cs = some x) (hz : ∀ y ∈ x.1.weights Try.prog 24, y ≤ reachBytes) : ∃ A n c gs, cs = [.slice A n c] ∧ Gs w A n gs ∧ n ≤ c ∧ n * 56 ≤ reachBytes := by
  rcases open_slice Try.underlying24 h with ⟨rfl, _⟩ | ⟨a, len, cap, m, k, D, Pl, rfl, _, hlc, hcm, hm, hx, hel⟩
  · exact ⟨none, 0, 0, [], rfl, ⟨rfl, by omega, fun k hk => by simp at hk⟩, Nat.le_refl _, by omega⟩
  · have hlm : len ≤ m := by rw [hm]; split <;> omega
    have hsz : len * 56 ≤ reachBytes := by
      have := hz ((len + (m - len)) * Try.prog.bytesOf 30) (by rw [hx]; simp [DataW.weights, Try.underlying24])
      rw [show Try.prog.bytesOf 30 = 56 by kernel_rfl] at this
      omega
    have hrb := reachBytes_lt
    have each : ∀ i, i < len → ∃ g : Giv, ∀ j, j < 7 → w.cell? (a.add (i * 7 + j)) = [Value.int .i64 g.o, .int .i64 g.m0, .int .i64 g.m1, .int .i64 g.m2, .int .i64 g.m3, .int .i64 g.m4, .int .i64 g.m5][j]? := by
      intro i hi
      obtain ⟨cs', hc, ht⟩ := hel i (by omega)
      rw [show Try.prog.cellsOf 30 = 7 by kernel_rfl] at hc
      obtain ⟨g, rfl⟩ := giv_open ht
      obtain ⟨_, _, hat⟩ := World.cells?_some hc
      refine ⟨g, fun j hj => ?_⟩
      have := hat j hj
      rwa [Deep.add_add] at this
    obtain ⟨f, hf⟩ := choose_lt each
    refine ⟨some a, len, cap, (List.range len).map f, rfl, ⟨by simp, by omega, fun k hk => ?_⟩, hlc, hsz⟩
    have hk' : k < len := by simpa using hk
    have hg := hf k hk'
    have hsp : a.spot = none ∧ a.block < w.heap.size := by
      have h0 := hf 0 (by omega) 0 (by omega)
      simp only [Nat.zero_mul, Nat.add_zero, List.getElem?_cons_zero] at h0
      rw [show a.add 0 = a from rfl] at h0
      unfold World.cell? at h0
      split at h0
      · rename_i hh
        refine ⟨?_, (Array.getElem?_eq_some_iff.1 hh).1⟩
        cases hs : a.spot with
        | none => rfl
        | some y => rw [hs] at h0; simp at h0
      · simp at h0
    obtain ⟨b, o, s⟩ := a
    obtain ⟨rfl, hb⟩ := hsp
    refine ⟨b, o, rfl, hb, ?_⟩
    have e : ∀ q, (Addr.mk b o none).add q = ⟨b, o + q, none⟩ := fun q => Addr.add_lit ..
    simp only [e] at hg
    rw [List.getElem_map, List.getElem_range]
    exact ⟨by have := hg 0 (by omega); simpa using this, by have := hg 1 (by omega); simpa [Nat.add_assoc] using this, by have := hg 2 (by omega); simpa [Nat.add_assoc] using this, by have := hg 3 (by omega); simpa [Nat.add_assoc] using this, by have := hg 4 (by omega); simpa [Nat.add_assoc] using this, by have := hg 5 (by omega); simpa [Nat.add_assoc] using this, by have := hg 6 (by omega); simpa [Nat.add_assoc] using this⟩

/-- A mark book that came in. -/
theorem open_marks {r : Reach} {b0 : Nat} {v : Value} {d : DataW H} {p : List MemPlace} (hv : Value.okWide Try.prog w r b0 26 v) (h : DataW.Trod enc Try.prog w base spare held 26 v d p) (hz : ∀ y ∈ d.weights Try.prog 26, y ≤ reachBytes) :
    ∃ w0 w1 w2 w3 w4 F A n c gs, v = .agg #[.int .i64 w0, .int .i64 w1, .int .i64 w2, .int .i64 w3, .int .i64 w4, .int .i64 F, .slice A n c] ∧ Gs w A n gs ∧ n ≤ c ∧ n * 56 ≤ reachBytes := by
  obtain ⟨cs, rfl, hsz⟩ := okWide_struct Try.underlying26 hv
  rw [show Try.prog.cellsOf 26 = 7 by kernel_rfl] at hsz
  obtain ⟨fuel, hf⟩ := h
  obtain ⟨y0, y1, y2, n, hd, hl, h0, h1, h2⟩ := trod_struct3 Try.underlying26 hf
  have hz2 : ∀ y ∈ y2.1.weights Try.prog 24, y ≤ reachBytes := fun y hy => hz y (by
    have : d = .agg [y0.1, y1.1, y2.1] := (Prod.ext_iff.1 hd).1
    rw [this]; simp [DataW.weights, DataW.weightsEach, Try.underlying26, hy])
  dsimp only at h0 h1 h2
  rw [show Try.prog.cellsOf 23 = 5 by kernel_rfl] at h0
  rw [show Try.prog.cellsOf 3 = 1 by kernel_rfl] at h1
  rw [show Try.prog.cellsOf 24 = 1 by kernel_rfl] at h2
  obtain ⟨l, hln, e0, _⟩ := nums_array Try.underlying23 Try.underlying3 (by kernel_rfl) (by kernel_rfl) h0
  obtain ⟨k, e1, _, _⟩ := DataW.trod_int Try.underlying3 h1
  obtain ⟨A, m, c, gs, e2, hg, hmc, hcm⟩ := gs_open h2 hz2
  obtain ⟨cl⟩ := cs
  match cl, hsz with
  | [c0, c1, c2, c3, c4, c5, c6], _ =>
    match l, hln with
    | [a0, a1, a2, a3, a4], _ =>
      simp [ints, Value.cells] at e0 e1 e2
      obtain ⟨rfl, rfl, rfl, rfl, rfl⟩ := e0
      subst e1; subst e2
      exact ⟨a0, a1, a2, a3, a4, k, A, m, c, gs, rfl, hg, hmc, hcm⟩

/-- A given mark that came in. -/
theorem open_given {r : Reach} {b0 : Nat} {v : Value} {d : DataW H} {p : List MemPlace} (hv : Value.okWide Try.prog w r b0 30 v) (h : DataW.Trod enc Try.prog w base spare held 30 v d p) :
    ∃ g : Giv, v = .agg #[.int .i64 g.o, .int .i64 g.m0, .int .i64 g.m1, .int .i64 g.m2, .int .i64 g.m3, .int .i64 g.m4, .int .i64 g.m5] := by
  obtain ⟨cs, rfl, hsz⟩ := okWide_struct Try.underlying30 hv
  obtain ⟨fuel, hf⟩ := h
  obtain ⟨g, e⟩ := giv_open hf
  refine ⟨g, ?_⟩
  obtain ⟨cl⟩ := cs
  simp [Value.cells] at e
  rw [e]

theorem okWide_arr {P : Program} {t e : TypeId} {m : Nat} {r : Reach} {b0 : Nat} {v : Value} (ht : P.underlying t = some (.array m e)) (h : Value.okWide P w r b0 t v) : ∃ cs, v = .agg cs ∧ cs.size = P.cellsOf t := by
  simp only [Value.okWide, ht] at h
  obtain ⟨cs, h1, h2, _⟩ := h
  exact ⟨cs, h1, h2⟩
/-- A reading, or a mark, that came in. -/
theorem open_rd {t : TypeId} {r : Reach} {b0 : Nat} {v : Value} {d : DataW H} {p : List MemPlace} (ht : Try.prog.underlying t = some (.array 6 3)) (hC : Try.prog.cellsOf t = 6) (hv : Value.okWide Try.prog w r b0 t v) (h : DataW.Trod enc Try.prog w base spare held t v d p) :
    ∃ r : Rd, v = .agg #[.int .i64 r.r0, .int .i64 r.r1, .int .i64 r.r2, .int .i64 r.r3, .int .i64 r.r4, .int .i64 r.r5] := by
  obtain ⟨cs, rfl, hsz⟩ := okWide_arr ht hv
  obtain ⟨fuel, hf⟩ := h
  obtain ⟨r, e⟩ := rd_open ht hC hf
  refine ⟨r, ?_⟩
  obtain ⟨cl⟩ := cs
  simp [Value.cells] at e
  rw [e]
end

section
variable {H : Type} {enc : TypeId × Value → H} {P : Program}
theorem trodAll_stays (hl : laidOutB P = true) {W W' : World} (hb : Below W.heap.size W W') {sp : Nat → Bool} : ∀ {ts : List TypeId} {vs : List Value} {ds : List (DataW H)} {p : List MemPlace}, (∀ t ∈ ts, P.readableRec t = true ∧ t < P.types.size) →
    DataW.TrodAll enc P W 0 (fun _ => true) true ts vs ds p → (∀ x ∈ p, x.block < W.heap.size) → (∀ x ∈ p, sp x.block = true) → DataW.TrodAll enc P W' 0 sp true ts vs ds p
  | [], _, _, _, _, h, _, _ => by
    obtain ⟨rfl, rfl, rfl⟩ := trodAll_nil h
    exact rfl
  | t :: ts, _, _, _, hr, h, hlt, hs => by
    obtain ⟨v, vs1, d, ds1, a, b, rfl, rfl, rfl, h1, h2⟩ := trodAll_cons h
    obtain ⟨q1, q2⟩ := hr t (List.mem_cons_self ..)
    exact ⟨a, b, WideElems.Trod_stays hl q1 q2 h1 (fun x hx => hb.same (hlt x (by simp [hx]))) (fun x hx => hs x (by simp [hx])),
      trodAll_stays hl hb (fun u hu => hr u (List.mem_cons_of_mem _ hu)) h2 (fun x hx => hlt x (by simp [hx])) (fun x hx => hs x (by simp [hx])), rfl⟩

/-- A statement's end: the call returned true, and no old memory has turned. -/
theorem law_post {f : Func} {s : ChangeSpec} {W W' : World} {args : Array Value} {ds : List (DataW H)} {before : List MemPlace} {tb : TypeId} (hl : laidOutB P = true) (hb4 : P.underlying tb = some .bool) (hf : f.resultTypes = #[tb]) (hv : s.vars = [])
    (hs : s.fn H (ds ++ []) = { results := [.lit (.bool true)], args := ds }) (hr : ∀ t ∈ f.params.toList, P.readableRec t = true ∧ t < P.types.size)
    (hW : DataW.Whole enc P f.params.toList s.vars false W args.toList ds [] before) (hb : Below W.heap.size W W') : s.post enc P f false true false false W args (.bool true) W' := by
  have hlt : ∀ p ∈ before, p.block < W.heap.size := fun p hp => hW.lt p hp
  have hW' := hW
  obtain ⟨p, q, hA, hV, rfl, hz, hn⟩ := hW'
  rw [hv] at hV
  obtain ⟨_, rfl⟩ := trodVars_none hV
  rw [List.append_nil] at hW hlt hz hn
  have hres : ∀ (b : Nat) (sp : Nat → Bool) (hd : Bool), DataW.TrodAll enc P W' b sp hd f.resultTypes.toList ((Value.bool true).resultList f.resultTypes.size) (s.fn H (ds ++ [])).results [] := by
    intro b sp hd
    rw [hs, hf]
    exact trodAll_mk1 (shut_bool hb4 _)
  have hargs : ∀ sp : Nat → Bool, (∀ x ∈ p, sp x.block = true) → DataW.TrodAll enc P W' 0 sp true f.params.toList args.toList (s.fn H (ds ++ [])).args p := by
    intro sp hsp
    rw [hs]
    exact trodAll_stays hl hb hr hA hlt hsp
  have hvars : ∀ sp : Nat → Bool, DataW.TrodVars enc P W' sp s.vars (s.fn H (ds ++ [])).vars [] := by
    intro sp
    rw [hs, hv]
    exact rfl
  refine ⟨ds, [], p, [], p, [], hW, hres _ _ _, hargs _ (fun x hx => by simpa using hlt x hx), hvars _, World.keptBut_mono (fun x hx => ⟨hx, Or.inr (by simpa using hx)⟩) (hb.frame (· ∈ p)), fun _ => ?_⟩
  refine ⟨ok_one hf rfl (okWide_bool_mk hb4 _), _, _, ([] ++ p) ++ [], ⟨[] ++ p, [], trodAll_append (hargs _ (fun _ _ => rfl)) (hres _ _ _), hvars _, rfl, ?_, fun h => by cases h⟩, fun x hx _ => by simpa using hx⟩
  intro b off hp
  have hin : MemPlace.cell b off ∈ p := by simpa using hp
  rw [hb.frozen (p := ⟨b, off, none⟩) (hlt _ hin)]
  exact hz b off hin
end

/-- A block holds these cells. -/
structure Bk (w : World) (b : Nat) (cs : List Value) : Prop where
  lt : b < w.heap.size
  get : ∀ j, w.cell? ⟨b, j, none⟩ = cs[j]?
theorem Bk.keep {w w' : World} {b : Nat} {cs : List Value} (h : Bk w b cs) (hb : Below w.heap.size w w') : Bk w' b cs :=
  ⟨Nat.lt_of_lt_of_le h.lt hb.size, fun j => (hb.cell (p := ⟨b, j, none⟩) h.lt).trans (h.get j)⟩
end Go.Proofs.Ytbieopkohkomoaa

namespace Go.Proofs.Ytbieopkohkomoaa
open Go.RowKit
set_option maxHeartbeats 400000
set_option maxRecDepth 100000

/-- The error of a cost, and the cost where there is none. -/
def costE (w0 w1 w2 w3 w4 a0 a1 a2 a3 a4 a5 r0 r1 r2 r3 r4 r5 : Int) : Int := firstE [err (okW w0 w1 w2 w3 w4) 11, err (okM a0 a1 a2 a3 a4 a5) 10, err (okR r0 r1 r2 r3 r4 r5) 12]
def costV (w0 w1 w2 w3 w4 a0 a1 a2 a3 a4 a5 r0 r1 r2 r3 r4 r5 : Int) : Int := if costE w0 w1 w2 w3 w4 a0 a1 a2 a3 a4 a5 r0 r1 r2 r3 r4 r5 = 0 then wcost w0 w1 w2 w3 w4 a0 a1 a2 a3 a4 a5 r0 r1 r2 r3 r4 r5 else 0

theorem cost_any (w0 w1 w2 w3 w4 a0 a1 a2 a3 a4 a5 r0 r1 r2 r3 r4 r5 : Int) (w : World) :
    Calls Try.prog 23 #[.agg #[.int .i64 w0, .int .i64 w1, .int .i64 w2, .int .i64 w3, .int .i64 w4], .agg #[.int .i64 a0, .int .i64 a1, .int .i64 a2, .int .i64 a3, .int .i64 a4, .int .i64 a5], .agg #[.int .i64 r0, .int .i64 r1, .int .i64 r2, .int .i64 r3, .int .i64 r4, .int .i64 r5]] w fun e w' => e = .returned (.tuple #[.int .i64 (costV w0 w1 w2 w3 w4 a0 a1 a2 a3 a4 a5 r0 r1 r2 r3 r4 r5), .int .i64 (costE w0 w1 w2 w3 w4 a0 a1 a2 a3 a4 a5 r0 r1 r2 r3 r4 r5)]) ∧ Below w.heap.size w w' := by
  go_enter Try.func23, Try.ntmps23
  go_wp2_with fail
  generalize hW : (World.alloc _ _) = W
  have HW : Hid (Below w.heap.size w W) := Lib.hid (by subst hW; go_grown)
  have KW : Bk W w.heap.size [Value.int .i64 w0, Value.int .i64 w1, Value.int .i64 w2, Value.int .i64 w3, Value.int .i64 w4] := ⟨by subst hW; simp only [World.size_alloc]; omega, by subst hW; intro j; simp [go_sem]⟩
  have KA : Bk W (w.heap.size + 1) [Value.int .i64 a0, Value.int .i64 a1, Value.int .i64 a2, Value.int .i64 a3, Value.int .i64 a4, Value.int .i64 a5] := ⟨by subst hW; simp only [World.size_alloc]; omega, by subst hW; intro j; simp [go_sem]⟩
  have KR : Bk W (w.heap.size + 1 + 1) [Value.int .i64 r0, Value.int .i64 r1, Value.int .i64 r2, Value.int .i64 r3, Value.int .i64 r4, Value.int .i64 r5] := ⟨by subst hW; simp only [World.size_alloc]; omega, by subst hW; intro j; simp [go_sem]⟩
  clear hW
  have KWl := KW.lt; have KWc := KW.get; have KAl := KA.lt; have KAc := KA.get; have KRl := KR.lt; have KRc := KR.get
  refine wp_region_grow_tail 6 (by kernel_rfl) (by kernel_rfl) ?_
  simp only [List.take_succ_cons, List.take_zero, List.drop_succ_cons, List.drop_zero]
  repeat (go_big_quiet_step ((first | (go_at_call 16; exact quiet_grow rfl (checkWear_any _ _ _ _ _ _)) | (go_at_call 14; exact quiet_grow rfl (checkMark_any _ _ _ _ _ _ _)) | (go_at_call 18; exact quiet_grow rfl (checkReading_any _ _ _ _ _ _ _)))))
  refine wpQuiet_nil ?_
  intro z
  by_cases hE : costE w0 w1 w2 w3 w4 a0 a1 a2 a3 a4 a5 r0 r1 r2 r3 r4 r5 = 0
  · have HE := Lib.hid hE
    have hE1 := hE
    unfold costE at hE1
    obtain ⟨o1, o2, o3⟩ := firstE3_0 hE1
    have m2 := (okM_iff _ _ _ _ _ _).1 (err_0 (by decide) o2)
    clear o1 o2 o3
    obtain ⟨⟨p0, q0⟩, ⟨p1, q1⟩, ⟨p2, q2⟩, ⟨p3, q3⟩, ⟨p4, q4⟩, ⟨p5, q5⟩⟩ := m2
    have HE1 := Lib.hid hE1
    clear hE hE1
    go_wp2_with (go_at_call 75; refine (first_any _ _ _ _ _ (is3 _ _ _ _ _ _ (by simp))).mono ?_; rintro e x1 ⟨rfl, rfl⟩; rw [HE1.out])
    generalize hV : World.alloc (grow W z) _ = V
    have hb : Below W.heap.size W V := by subst hV; exact up (grow_below W z) (up_alloc _ _)
    clear hV
    clear KWl KWc KAl KAc KRl KRc; replace KW := KW.keep hb; have KWl := KW.lt; have KWc := KW.get; replace KA := KA.keep hb; have KAl := KA.lt; have KAc := KA.get; replace KR := KR.keep hb; have KRl := KR.lt; have KRc := KR.get; have HV := Lib.hid hb; clear hb
    refine wp_region_grow (by kernel_rfl) (by kernel_rfl) ?_
    repeat (go_big_quiet_step ((first | (go_at_call 77; exact quiet_grow rfl (wornRow_any _ _ _ _ _ _ _ _ _ _ _ _ (by assumption) (by assumption) (by assumption) (by assumption) (by assumption) (by assumption) (by assumption) (by assumption) (by assumption) (by assumption) (by assumption) (by assumption))) | (go_at_call 78; exact quiet_grow rfl (seenRow_any _ _ _ _ _ _ _)) | (go_at_call 76; exact quiet_grow rfl (false_any _ _ _ _ _ _ _ _ _ _ _ _ _)))))
    refine wpQuiet_nil ?_
    intro z2
    go_wp2
    go_ret2
    refine ⟨ret_ii ?_ HE.out.symm, up HW.out (up HV.out (grow_below _ z2))⟩
    unfold costV; rw [if_pos HE.out]; rfl
  · have HE := Lib.hid hE
    have hb : (costE w0 w1 w2 w3 w4 a0 a1 a2 a3 a4 a5 r0 r1 r2 r3 r4 r5 != 0) = true := by simpa using hE
    clear hE
    go_wp2_with (go_at_call 75; refine (first_any _ _ _ _ _ (is3 _ _ _ _ _ _ (by simp))).mono ?_; rintro e x1 ⟨rfl, rfl⟩; rw [show firstE [err (okW w0 w1 w2 w3 w4) 11, err (okM a0 a1 a2 a3 a4 a5) 10, err (okR r0 r1 r2 r3 r4 r5) 12] = costE w0 w1 w2 w3 w4 a0 a1 a2 a3 a4 a5 r0 r1 r2 r3 r4 r5 from rfl])
    go_ret2
    refine ⟨ret_ii ?_ rfl, up HW.out (up (grow_below W z) (up_alloc _ _))⟩
    unfold costV; rw [if_neg HE.out]

theorem refCheckReading_yes (a0 a1 a2 a3 a4 a5 : Int) (w : World) (h : okR a0 a1 a2 a3 a4 a5 = true) : Calls Try.prog 19 #[.agg #[.int .i64 a0, .int .i64 a1, .int .i64 a2, .int .i64 a3, .int .i64 a4, .int .i64 a5]] w fun e w' => e = .returned (.int .i64 0) ∧ Below w.heap.size w w' :=
  (refCheckReading_any _ _ _ _ _ _ w).mono fun e w' g => ⟨by rw [g.1, err_t _ h], g.2⟩
theorem refCheckReading_no (a0 a1 a2 a3 a4 a5 : Int) (w : World) (h : okR a0 a1 a2 a3 a4 a5 = false) : Calls Try.prog 19 #[.agg #[.int .i64 a0, .int .i64 a1, .int .i64 a2, .int .i64 a3, .int .i64 a4, .int .i64 a5]] w fun e w' => e = .returned (.int .i64 12) ∧ Below w.heap.size w w' :=
  (refCheckReading_any _ _ _ _ _ _ w).mono fun e w' g => ⟨by rw [g.1, err_f _ (by rw [h]; simp)], g.2⟩

theorem firstE3_1 {a b c : Bool} {x y z : Int} (h : a = false) (hx : x ≠ 0) : firstE [err a x, err b y, err c z] = x := by
  rw [firstE_cons, err_f (b := a) x (by simp [h]), if_neg hx]
theorem firstE3_2 {a b c : Bool} {x y z : Int} (h : a = true) (h2 : b = false) (hy : y ≠ 0) : firstE [err a x, err b y, err c z] = y := by
  rw [firstE_cons, err_t (b := a) x h, if_pos rfl, firstE_cons, err_f (b := b) y (by simp [h2]), if_neg hy]
theorem firstE3_3 {a b c : Bool} {x y z : Int} (h : a = true) (h2 : b = true) (h3 : c = false) (hz : z ≠ 0) : firstE [err a x, err b y, err c z] = z := by
  rw [firstE_cons, err_t (b := a) x h, if_pos rfl, firstE_cons, err_t (b := b) y h2, if_pos rfl, firstE_cons, err_f (b := c) z (by simp [h3]), if_neg hz]
theorem firstE3_4 {a b c : Bool} {x y z : Int} (h : a = true) (h2 : b = true) (h3 : c = true) : firstE [err a x, err b y, err c z] = 0 := by
  rw [err_t (b := a) x h, err_t (b := b) y h2, err_t (b := c) z h3]; rfl

theorem refCostX_any (w0 w1 w2 w3 w4 a0 a1 a2 a3 a4 a5 r0 r1 r2 r3 r4 r5 : Int) (w : World) :
    Calls Try.prog 24 #[.agg #[.int .i64 w0, .int .i64 w1, .int .i64 w2, .int .i64 w3, .int .i64 w4], .agg #[.int .i64 a0, .int .i64 a1, .int .i64 a2, .int .i64 a3, .int .i64 a4, .int .i64 a5], .agg #[.int .i64 r0, .int .i64 r1, .int .i64 r2, .int .i64 r3, .int .i64 r4, .int .i64 r5]] w fun e w' => e = .returned (.tuple #[.int .i64 (costV w0 w1 w2 w3 w4 a0 a1 a2 a3 a4 a5 r0 r1 r2 r3 r4 r5), .int .i64 (costE w0 w1 w2 w3 w4 a0 a1 a2 a3 a4 a5 r0 r1 r2 r3 r4 r5)]) ∧ Below w.heap.size w w' := by
  go_enter Try.func24, Try.ntmps24
  go_wp2_with fail
  generalize hW : (World.alloc _ _) = W
  have HW : Hid (Below w.heap.size w W) := Lib.hid (by subst hW; go_grown)
  have KW : Bk W w.heap.size [Value.int .i64 w0, Value.int .i64 w1, Value.int .i64 w2, Value.int .i64 w3, Value.int .i64 w4] := ⟨by subst hW; simp only [World.size_alloc]; omega, by subst hW; intro j; simp [go_sem]⟩
  have KA : Bk W (w.heap.size + 1) [Value.int .i64 a0, Value.int .i64 a1, Value.int .i64 a2, Value.int .i64 a3, Value.int .i64 a4, Value.int .i64 a5] := ⟨by subst hW; simp only [World.size_alloc]; omega, by subst hW; intro j; simp [go_sem]⟩
  have KR : Bk W (w.heap.size + 1 + 1) [Value.int .i64 r0, Value.int .i64 r1, Value.int .i64 r2, Value.int .i64 r3, Value.int .i64 r4, Value.int .i64 r5] := ⟨by subst hW; simp only [World.size_alloc]; omega, by subst hW; intro j; simp [go_sem]⟩
  clear hW
  have KWl := KW.lt; have KWc := KW.get; have KAl := KA.lt; have KAc := KA.get; have KRl := KR.lt; have KRc := KR.get
  cases hw : okW w0 w1 w2 w3 w4
  · have Hw := Lib.hid hw
    clear hw
    refine (refCheckWear_no w0 w1 w2 w3 w4 W Hw.out).mono ?_; rintro e x1 ⟨rfl, hb1⟩; clear KWl KWc KAl KAc KRl KRc; replace KW := KW.keep hb1; have KWl := KW.lt; have KWc := KW.get; replace KA := KA.keep hb1; have KAl := KA.lt; have KAc := KA.get; replace KR := KR.keep hb1; have KRl := KR.lt; have KRc := KR.get; have HB1 := Lib.hid hb1; clear hb1
    go_wp2
    go_ret2
    have E : costE w0 w1 w2 w3 w4 a0 a1 a2 a3 a4 a5 r0 r1 r2 r3 r4 r5 = 11 := firstE3_1 Hw.out (by decide)
    exact ⟨ret_ii (by unfold costV; rw [E]; rfl) E.symm, up HW.out HB1.out⟩
  have Hw := Lib.hid hw
  clear hw
  refine (refCheckWear_yes w0 w1 w2 w3 w4 W Hw.out).mono ?_; rintro e x1 ⟨rfl, hb1⟩; clear KWl KWc KAl KAc KRl KRc; replace KW := KW.keep hb1; have KWl := KW.lt; have KWc := KW.get; replace KA := KA.keep hb1; have KAl := KA.lt; have KAc := KA.get; replace KR := KR.keep hb1; have KRl := KR.lt; have KRc := KR.get; have HB1 := Lib.hid hb1; clear hb1
  cases hm : okM a0 a1 a2 a3 a4 a5
  · have Hm := Lib.hid hm
    clear hm
    go_wp2_with (go_at_call 15; refine (refCheckMark_no a0 a1 a2 a3 a4 a5 x1 Hm.out).mono ?_; rintro e x2 ⟨rfl, hb2⟩; clear KWl KWc KAl KAc KRl KRc; replace KW := KW.keep hb2; have KWl := KW.lt; have KWc := KW.get; replace KA := KA.keep hb2; have KAl := KA.lt; have KAc := KA.get; replace KR := KR.keep hb2; have KRl := KR.lt; have KRc := KR.get; have HB2 := Lib.hid hb2; clear hb2)
    go_ret2
    have E : costE w0 w1 w2 w3 w4 a0 a1 a2 a3 a4 a5 r0 r1 r2 r3 r4 r5 = 10 := firstE3_2 Hw.out Hm.out (by decide)
    exact ⟨ret_ii (by unfold costV; rw [E]; rfl) E.symm, up HW.out (up HB1.out HB2.out)⟩
  have Hm := Lib.hid hm
  obtain ⟨⟨p0, q0⟩, ⟨p1, q1⟩, ⟨p2, q2⟩, ⟨p3, q3⟩, ⟨p4, q4⟩, ⟨p5, q5⟩⟩ := (okM_iff _ _ _ _ _ _).1 hm
  clear hm
  cases hr : okR r0 r1 r2 r3 r4 r5
  · have Hr := Lib.hid hr
    clear hr
    go_wp2_with (first
      | (go_at_call 15; refine (refCheckMark_yes a0 a1 a2 a3 a4 a5 x1 Hm.out).mono ?_; rintro e x2 ⟨rfl, hb2⟩; clear KWl KWc KAl KAc KRl KRc; replace KW := KW.keep hb2; have KWl := KW.lt; have KWc := KW.get; replace KA := KA.keep hb2; have KAl := KA.lt; have KAc := KA.get; replace KR := KR.keep hb2; have KRl := KR.lt; have KRc := KR.get; have HB2 := Lib.hid hb2; clear hb2)
      | (go_at_call 19; refine (refCheckReading_no r0 r1 r2 r3 r4 r5 _ Hr.out).mono ?_; rintro e x3 ⟨rfl, hb3⟩; clear KWl KWc KAl KAc KRl KRc; replace KW := KW.keep hb3; have KWl := KW.lt; have KWc := KW.get; replace KA := KA.keep hb3; have KAl := KA.lt; have KAc := KA.get; replace KR := KR.keep hb3; have KRl := KR.lt; have KRc := KR.get; have HB3 := Lib.hid hb3; clear hb3))
    go_ret2
    have E : costE w0 w1 w2 w3 w4 a0 a1 a2 a3 a4 a5 r0 r1 r2 r3 r4 r5 = 12 := firstE3_3 Hw.out Hm.out Hr.out (by decide)
    exact ⟨ret_ii (by unfold costV; rw [E]; rfl) E.symm, up HW.out (up HB1.out (up HB2.out HB3.out))⟩
  have Hr := Lib.hid hr
  clear hr
  go_wp2_with (first
    | (go_at_call 15; refine (refCheckMark_yes a0 a1 a2 a3 a4 a5 x1 Hm.out).mono ?_; rintro e x2 ⟨rfl, hb2⟩; clear KWl KWc KAl KAc KRl KRc; replace KW := KW.keep hb2; have KWl := KW.lt; have KWc := KW.get; replace KA := KA.keep hb2; have KAl := KA.lt; have KAc := KA.get; replace KR := KR.keep hb2; have KRl := KR.lt; have KRc := KR.get; have HB2 := Lib.hid hb2; clear hb2)
    | (go_at_call 19; refine (refCheckReading_yes r0 r1 r2 r3 r4 r5 _ Hr.out).mono ?_; rintro e x3 ⟨rfl, hb3⟩; clear KWl KWc KAl KAc KRl KRc; replace KW := KW.keep hb3; have KWl := KW.lt; have KWc := KW.get; replace KA := KA.keep hb3; have KAl := KA.lt; have KAc := KA.get; replace KR := KR.keep hb3; have KRl := KR.lt; have KRc := KR.get; have HB3 := Lib.hid hb3; clear hb3)
    | (go_at_call 79; refine (refCost_any w0 w1 w2 w3 w4 a0 a1 a2 a3 a4 a5 r0 r1 r2 r3 r4 r5 _ p0 q0 p1 q1 p2 q2 p3 q3 p4 q4 p5 q5).mono ?_; rintro e x4 ⟨rfl, hb4⟩; clear KWl KWc KAl KAc KRl KRc; replace KW := KW.keep hb4; have KWl := KW.lt; have KWc := KW.get; replace KA := KA.keep hb4; have KAl := KA.lt; have KAc := KA.get; replace KR := KR.keep hb4; have KRl := KR.lt; have KRc := KR.get; have HB4 := Lib.hid hb4; clear hb4))
  go_ret2
  have E : costE w0 w1 w2 w3 w4 a0 a1 a2 a3 a4 a5 r0 r1 r2 r3 r4 r5 = 0 := firstE3_4 Hw.out Hm.out Hr.out
  exact ⟨ret_ii (by unfold costV; rw [E]; rfl) E.symm, up HW.out (up HB1.out (up HB2.out (up HB3.out HB4.out)))⟩

theorem refDistanceX_any (w0 w1 w2 w3 w4 a0 a1 a2 a3 a4 a5 b0 b1 b2 b3 b4 b5 : Int) (w : World) :
    Calls Try.prog 26 #[.agg #[.int .i64 w0, .int .i64 w1, .int .i64 w2, .int .i64 w3, .int .i64 w4], .agg #[.int .i64 a0, .int .i64 a1, .int .i64 a2, .int .i64 a3, .int .i64 a4, .int .i64 a5], .agg #[.int .i64 b0, .int .i64 b1, .int .i64 b2, .int .i64 b3, .int .i64 b4, .int .i64 b5]] w fun e w' => e = .returned (.tuple #[.int .i64 (distV w0 w1 w2 w3 w4 a0 a1 a2 a3 a4 a5 b0 b1 b2 b3 b4 b5), .int .i64 (distE w0 w1 w2 w3 w4 a0 a1 a2 a3 a4 a5 b0 b1 b2 b3 b4 b5)]) ∧ Below w.heap.size w w' := by
  go_enter Try.func26, Try.ntmps26
  go_wp2_with fail
  generalize hW : (World.alloc _ _) = W
  have HW : Hid (Below w.heap.size w W) := Lib.hid (by subst hW; go_grown)
  have KW : Bk W w.heap.size [Value.int .i64 w0, Value.int .i64 w1, Value.int .i64 w2, Value.int .i64 w3, Value.int .i64 w4] := ⟨by subst hW; simp only [World.size_alloc]; omega, by subst hW; intro j; simp [go_sem]⟩
  have KA : Bk W (w.heap.size + 1) [Value.int .i64 a0, Value.int .i64 a1, Value.int .i64 a2, Value.int .i64 a3, Value.int .i64 a4, Value.int .i64 a5] := ⟨by subst hW; simp only [World.size_alloc]; omega, by subst hW; intro j; simp [go_sem]⟩
  have KR : Bk W (w.heap.size + 1 + 1) [Value.int .i64 b0, Value.int .i64 b1, Value.int .i64 b2, Value.int .i64 b3, Value.int .i64 b4, Value.int .i64 b5] := ⟨by subst hW; simp only [World.size_alloc]; omega, by subst hW; intro j; simp [go_sem]⟩
  clear hW
  have KWl := KW.lt; have KWc := KW.get; have KAl := KA.lt; have KAc := KA.get; have KRl := KR.lt; have KRc := KR.get
  cases hw : okW w0 w1 w2 w3 w4
  · have Hw := Lib.hid hw
    clear hw
    refine (refCheckWear_no w0 w1 w2 w3 w4 W Hw.out).mono ?_; rintro e x1 ⟨rfl, hb1⟩; clear KWl KWc KAl KAc KRl KRc; replace KW := KW.keep hb1; have KWl := KW.lt; have KWc := KW.get; replace KA := KA.keep hb1; have KAl := KA.lt; have KAc := KA.get; replace KR := KR.keep hb1; have KRl := KR.lt; have KRc := KR.get; have HB1 := Lib.hid hb1; clear hb1
    go_wp2
    go_ret2
    have E : distE w0 w1 w2 w3 w4 a0 a1 a2 a3 a4 a5 b0 b1 b2 b3 b4 b5 = 11 := firstE3_1 Hw.out (by decide)
    exact ⟨ret_ii (by unfold distV; rw [E]; rfl) E.symm, up HW.out HB1.out⟩
  have Hw := Lib.hid hw
  clear hw
  refine (refCheckWear_yes w0 w1 w2 w3 w4 W Hw.out).mono ?_; rintro e x1 ⟨rfl, hb1⟩; clear KWl KWc KAl KAc KRl KRc; replace KW := KW.keep hb1; have KWl := KW.lt; have KWc := KW.get; replace KA := KA.keep hb1; have KAl := KA.lt; have KAc := KA.get; replace KR := KR.keep hb1; have KRl := KR.lt; have KRc := KR.get; have HB1 := Lib.hid hb1; clear hb1
  cases hm : okM a0 a1 a2 a3 a4 a5
  · have Hm := Lib.hid hm
    clear hm
    go_wp2_with (go_at_call 15; refine (refCheckMark_no a0 a1 a2 a3 a4 a5 x1 Hm.out).mono ?_; rintro e x2 ⟨rfl, hb2⟩; clear KWl KWc KAl KAc KRl KRc; replace KW := KW.keep hb2; have KWl := KW.lt; have KWc := KW.get; replace KA := KA.keep hb2; have KAl := KA.lt; have KAc := KA.get; replace KR := KR.keep hb2; have KRl := KR.lt; have KRc := KR.get; have HB2 := Lib.hid hb2; clear hb2)
    go_ret2
    have E : distE w0 w1 w2 w3 w4 a0 a1 a2 a3 a4 a5 b0 b1 b2 b3 b4 b5 = 10 := firstE3_2 Hw.out Hm.out (by decide)
    exact ⟨ret_ii (by unfold distV; rw [E]; rfl) E.symm, up HW.out (up HB1.out HB2.out)⟩
  have Hm := Lib.hid hm
  obtain ⟨⟨p0, q0⟩, ⟨p1, q1⟩, ⟨p2, q2⟩, ⟨p3, q3⟩, ⟨p4, q4⟩, ⟨p5, q5⟩⟩ := (okM_iff _ _ _ _ _ _).1 hm
  clear hm
  go_wp2_with fail
  refine (refCheckMark_yes a0 a1 a2 a3 a4 a5 x1 Hm.out).mono ?_; rintro e x2 ⟨rfl, hb2⟩; clear KWl KWc KAl KAc KRl KRc; replace KW := KW.keep hb2; have KWl := KW.lt; have KWc := KW.get; replace KA := KA.keep hb2; have KAl := KA.lt; have KAc := KA.get; replace KR := KR.keep hb2; have KRl := KR.lt; have KRc := KR.get; have HB2 := Lib.hid hb2; clear hb2
  cases hr : okM b0 b1 b2 b3 b4 b5
  · have Hr := Lib.hid hr
    clear hr
    go_wp2_with (go_at_call 15; refine (refCheckMark_no b0 b1 b2 b3 b4 b5 _ Hr.out).mono ?_; rintro e x3 ⟨rfl, hb3⟩; clear KWl KWc KAl KAc KRl KRc; replace KW := KW.keep hb3; have KWl := KW.lt; have KWc := KW.get; replace KA := KA.keep hb3; have KAl := KA.lt; have KAc := KA.get; replace KR := KR.keep hb3; have KRl := KR.lt; have KRc := KR.get; have HB3 := Lib.hid hb3; clear hb3)
    go_ret2
    have E : distE w0 w1 w2 w3 w4 a0 a1 a2 a3 a4 a5 b0 b1 b2 b3 b4 b5 = 10 := firstE3_3 Hw.out Hm.out Hr.out (by decide)
    exact ⟨ret_ii (by unfold distV; rw [E]; rfl) E.symm, up HW.out (up HB1.out (up HB2.out HB3.out))⟩
  have Hr := Lib.hid hr
  obtain ⟨⟨r0, s0⟩, ⟨r1, s1⟩, ⟨r2, s2⟩, ⟨r3, s3⟩, ⟨r4, s4⟩, ⟨r5, s5⟩⟩ := (okM_iff _ _ _ _ _ _).1 hr
  clear hr
  go_wp2_with (first
    | (go_at_call 15; refine (refCheckMark_yes b0 b1 b2 b3 b4 b5 _ Hr.out).mono ?_; rintro e x3 ⟨rfl, hb3⟩; clear KWl KWc KAl KAc KRl KRc; replace KW := KW.keep hb3; have KWl := KW.lt; have KWc := KW.get; replace KA := KA.keep hb3; have KAl := KA.lt; have KAc := KA.get; replace KR := KR.keep hb3; have KRl := KR.lt; have KRc := KR.get; have HB3 := Lib.hid hb3; clear hb3)
    | (go_at_call 73; refine (refDistance_any w0 w1 w2 w3 w4 a0 a1 a2 a3 a4 a5 b0 b1 b2 b3 b4 b5 _ p0 q0 p1 q1 p2 q2 p3 q3 p4 q4 p5 q5 r0 s0 r1 s1 r2 s2 r3 s3 r4 s4 r5 s5).mono ?_; rintro e x4 ⟨rfl, hb4⟩; clear KWl KWc KAl KAc KRl KRc; replace KW := KW.keep hb4; have KWl := KW.lt; have KWc := KW.get; replace KA := KA.keep hb4; have KAl := KA.lt; have KAc := KA.get; replace KR := KR.keep hb4; have KRl := KR.lt; have KRc := KR.get; have HB4 := Lib.hid hb4; clear hb4))
  go_ret2
  have E : distE w0 w1 w2 w3 w4 a0 a1 a2 a3 a4 a5 b0 b1 b2 b3 b4 b5 = 0 := firstE3_4 Hw.out Hm.out Hr.out
  exact ⟨ret_ii (by unfold distV; rw [E]; rfl) E.symm, up HW.out (up HB1.out (up HB2.out (up HB3.out HB4.out)))⟩
end Go.Proofs.Ytbieopkohkomoaa

namespace Go.Proofs.Ytbieopkohkomoaa
open Go Go.RowKit
set_option maxHeartbeats 400000
set_option maxRecDepth 100000

def refNearB (w0 w1 w2 w3 w4 F m0 m1 m2 m3 m4 m5 : Int) (gs : List Giv) : Bool := gs.any fun g => decide (wdist w0 w1 w2 w3 w4 g.m0 g.m1 g.m2 g.m3 g.m4 g.m5 m0 m1 m2 m3 m4 m5 ≤ 2 * F)

theorem refNear_any (w0 w1 w2 w3 w4 F m0 m1 m2 m3 m4 m5 : Int) (A : Option Addr) (n c : Nat) (gs : List Giv) (w : World) (hm0 : 0 ≤ m0) (km0 : m0 < 5) (hm1 : 0 ≤ m1) (km1 : m1 < 5) (hm2 : 0 ≤ m2) (km2 : m2 < 5) (hm3 : 0 ≤ m3) (km3 : m3 < 5) (hm4 : 0 ≤ m4) (km4 : m4 < 5) (hm5 : 0 ≤ m5) (km5 : m5 < 5) (hp : 0 ≤ F) (hp2 : F ≤ 2) (hg : Gs w A n gs) (hok : ∀ g ∈ gs, g.ok) :
    Calls Try.prog 88 #[.agg #[.int .i64 w0, .int .i64 w1, .int .i64 w2, .int .i64 w3, .int .i64 w4, .int .i64 F, .slice A n c], .agg #[.int .i64 m0, .int .i64 m1, .int .i64 m2, .int .i64 m3, .int .i64 m4, .int .i64 m5]] w fun e w' => e = .returned (.bool (refNearB w0 w1 w2 w3 w4 F m0 m1 m2 m3 m4 m5 gs)) ∧ Below w.heap.size w w' := by
  have hn := hg.small
  have Hl : Hid (n = gs.length) := Lib.hid hg.len
  have hwF : wrap64 (2 * F) = 2 * F := by unfold wrap64; omega
  have HF := Lib.hid hwF
  have Hok := Lib.hid hok
  clear hwF hok
  go_enter Try.func88, Try.ntmps88
  go_wp2_with fail
  generalize hW : (World.alloc _ _) = W
  have HW : Hid (Below w.heap.size w W) := Lib.hid (by subst hW; go_grown)
  have KM : Bk W w.heap.size [.int .i64 w0, .int .i64 w1, .int .i64 w2, .int .i64 w3, .int .i64 w4, .int .i64 F, .slice A n c] := ⟨by subst hW; simp only [World.size_alloc]; omega, by subst hW; intro j; simp [go_sem]⟩
  have KA : Bk W (w.heap.size + 1) [Value.int .i64 m0, Value.int .i64 m1, Value.int .i64 m2, Value.int .i64 m3, Value.int .i64 m4, Value.int .i64 m5] := ⟨by subst hW; simp only [World.size_alloc]; omega, by subst hW; intro j; simp [go_sem]⟩
  clear hW
  have HG := Lib.hid (hg.keep HW.out)
  clear hg
  go_loopw [5] (fun i wr => ∃ (k : Nat) (z : Gr), k ≤ n ∧ i = .int .i64 k ∧ wr = grow W z ∧ (gs.take k).any (fun g => decide (wdist w0 w1 w2 w3 w4 g.m0 g.m1 g.m2 g.m3 g.m4 g.m5 m0 m1 m2 m3 m4 m5 ≤ 2 * F)) = false) (fun i _ => n - (intOf i).toNat)
  case atStart => exact ⟨0, ⟨#[], W.drawn⟩, by omega, rfl, by simp [grow], by simp⟩
  case round =>
    obtain ⟨k, z, hk, rfl, rfl, hany⟩ := hrel
    have Hany := Lib.hid hany; clear hany
    have HbY := Lib.hid (grow_below W z)
    have KM1 := KM.keep HbY.out
    have KA1 := KA.keep HbY.out
    have KM1l := KM1.lt; have KM1c := KM1.get; have KA1l := KA1.lt; have KA1c := KA1.get
    by_cases hlt : k < n
    rotate_left
    · obtain rfl : k = n := by omega
      go_wp2
      go_ret
      refine ⟨congrArg (fun b => Ending.returned (Value.bool b)) ?_, up HW.out HbY.out⟩
      have := Hany.out
      rw [Hl.out, List.take_length] at this
      exact this.symm
    have hlt' : k < gs.length := by rw [← Hl.out]; exact hlt
    obtain ⟨bg, og, rfl, hbg, hga⟩ := HG.out.get k hlt'
    have Hmem := Lib.hid (List.getElem_mem hlt')
    obtain ⟨⟨p0, q0⟩, ⟨p1, q1⟩, ⟨p2, q2⟩, ⟨p3, q3⟩, ⟨p4, q4⟩, ⟨p5, q5⟩⟩ := Hok.out _ Hmem.out
    have Hnx : Hid ((gs.take (k + 1)).any (fun g => decide (wdist w0 w1 w2 w3 w4 g.m0 g.m1 g.m2 g.m3 g.m4 g.m5 m0 m1 m2 m3 m4 m5 ≤ 2 * F)) = decide (wdist w0 w1 w2 w3 w4 gs[k].m0 gs[k].m1 gs[k].m2 gs[k].m3 gs[k].m4 gs[k].m5 m0 m1 m2 m3 m4 m5 ≤ 2 * F)) := Lib.hid (by
      rw [List.take_succ_eq_append_getElem hlt', List.any_append, Hany.out]; simp)
    generalize gs[k] = g at *
    obtain ⟨a0', a1', a2', a3', a4', a5', a6'⟩ := hga
    have e0 := KM.lt
    have e0' := KA.lt
    have e1 : w.heap.size < W.heap.size + z.blocks.size := by omega
    have e2 : w.heap.size + 1 < W.heap.size + z.blocks.size := by omega
    have e5 : bg < W.heap.size + z.blocks.size := by omega
    go_wp2
    clear KM1l KM1c KA1l KA1c
    have KMc := KM.get
    have KAc := KA.get
    have hwF := HF.out
    cases hd : decide (wdist w0 w1 w2 w3 w4 g.m0 g.m1 g.m2 g.m3 g.m4 g.m5 m0 m1 m2 m3 m4 m5 ≤ 2 * F)
    · have Hd := Lib.hid hd
      refine wp_region_grow (by kernel_rfl) (by kernel_rfl) ?_
      repeat (go_big_quiet_step ((go_at_call 73; exact quiet_grow rfl (refDistance_any _ _ _ _ _ _ _ _ _ _ _ _ _ _ _ _ _ _ (by assumption) (by assumption) (by assumption) (by assumption) (by assumption) (by assumption) (by assumption) (by assumption) (by assumption) (by assumption) (by assumption) (by assumption) (by assumption) (by assumption) (by assumption) (by assumption) (by assumption) (by assumption) (by assumption) (by assumption) (by assumption) (by assumption) (by assumption) (by assumption)))))
      refine wpQuiet_nil ?_
      intro z1
      obtain ⟨y1, hy1⟩ := grow_grow W z z1
      rw [hy1]
      clear hy1
      go_wp2
      refine ⟨⟨k + 1, y1, by omega, by go_num, rfl, ?_⟩, by simp [intOf]; omega⟩
      rw [Hnx.out, Hd.out]
    · have Hd := Lib.hid hd
      refine wp_region_grow (by kernel_rfl) (by kernel_rfl) ?_
      repeat (go_big_quiet_step ((go_at_call 73; exact quiet_grow rfl (refDistance_any _ _ _ _ _ _ _ _ _ _ _ _ _ _ _ _ _ _ (by assumption) (by assumption) (by assumption) (by assumption) (by assumption) (by assumption) (by assumption) (by assumption) (by assumption) (by assumption) (by assumption) (by assumption) (by assumption) (by assumption) (by assumption) (by assumption) (by assumption) (by assumption) (by assumption) (by assumption) (by assumption) (by assumption) (by assumption) (by assumption)))))
      refine wpQuiet_nil ?_
      intro z1
      obtain ⟨y1, hy1⟩ := grow_grow W z z1
      rw [hy1]
      clear hy1
      go_wp2
      go_ret
      refine ⟨congrArg (fun b => Ending.returned (Value.bool b)) ?_, up HW.out (grow_below W y1)⟩
      exact (List.any_eq_true.2 ⟨g, Hmem.out, Hd.out⟩).symm
end Go.Proofs.Ytbieopkohkomoaa

namespace Go.Proofs.Ytbieopkohkomoaa
open Go.RowKit
set_option maxHeartbeats 400000
set_option maxRecDepth 100000

/-- The signs of a set below k, rising. -/
def sgK (a : Int) : Nat → List Int
  | 0 => []
  | k + 1 => if hasB a k = true then sgK a k ++ [(k : Int)] else sgK a k
theorem sgK_len (a : Int) (k : Nat) : (sgK a k).length ≤ k := by
  induction k with
  | zero => exact Nat.le_refl _
  | succ k ih =>
    unfold sgK
    split
    · simp; omega
    · omega
theorem sgK_in (a : Int) (k : Nat) : ∀ x ∈ sgK a k, 0 ≤ x ∧ x < k := by
  induction k with
  | zero => intro x hx; simp [sgK] at hx
  | succ k ih =>
    intro x hx
    unfold sgK at hx
    split at hx
    · rcases List.mem_append.1 hx with h | h
      · have := ih x h; omega
      · simp at h; omega
    · have := ih x hx; omega

theorem list_any (a : Int) (w : World) :
    Calls Try.prog 102 #[.int .i64 a] w fun e w' => ∃ v, e = .returned v ∧ w'.ownsRow w.heap.size 3 1 v (sgK a 5).length (ints (sgK a 5)) ∧ Below w.heap.size w w' := by
  obtain ⟨i0, hi, hz0, hz1, hz2⟩ := info_parts info3
  have HI := Lib.hid hi
  have HZ0 := Lib.hid hz0
  have HZ1 := Lib.hid hz1
  have HZ2 := Lib.hid hz2
  clear hi hz0 hz1 hz2
  go_enter Try.func102, Try.ntmps102
  go_wp2
  go_loopw [3, 5] (fun v i wr => ∃ (k : Nat) (z : Gr), k ≤ 5 ∧ i = .int .i64 k ∧ wr = grow w z ∧ (grow w z).ownsRow w.heap.size 3 1 v (sgK a k).length (ints (sgK a k))) (fun _ i _ => 5 - (intOf i).toNat)
  case atStart => exact ⟨0, ⟨#[], w.drawn⟩, by omega, rfl, by simp [grow], World.ownsRow_nil _ _ _ _⟩
  case round =>
    obtain ⟨k, z, hk, rfl, rfl, hown⟩ := hrel
    have Hown := Lib.hid hown; clear hown
    by_cases hlt : k < 5
    · have hln := sgK_len a k
      have Hy : Hid (hasB a k = true → sgK a (k + 1) = sgK a k ++ [(k : Int)]) := Lib.hid (fun h => by rw [sgK, if_pos h])
      have Hn : Hid (hasB a k = false → sgK a (k + 1) = sgK a k) := Lib.hid (fun h => by rw [sgK, if_neg (by rw [h]; simp)])
      have hkt : ((k : Int)).toNat = k := by simp
      generalize hX : sgK a k = X at *
      have HX := Lib.hid hX
      clear hX
      generalize hnX : X.length = nX at *
      have HnX := Lib.hid hnX
      clear hnX
      cases hh : hasB a k
      · have Hh := Lib.hid hh
        clear hh
        go_wp2_with (go_at_call 69; refine (has_any _ _ _ (by omega) (by omega)).mono ?_; rintro e x1 ⟨rfl, rfl⟩; rw [show (band a (2 ^ (k : Int).toNat) != 0) = false from Hh.out])
        refine ⟨⟨k + 1, z, by omega, by go_num, rfl, ?_⟩, by simp [intOf]; omega⟩
        rw [Hn.out Hh.out, HnX.out]; exact Hown.out
      · have Hh := Lib.hid hh
        clear hh
        go_wp2_with (first
          | (go_at_call 69; refine (has_any _ _ _ (by omega) (by omega)).mono ?_; rintro e x1 ⟨rfl, rfl⟩; rw [show (band a (2 ^ (k : Int).toNat) != 0) = true from Hh.out])
          | (at_builtin; refine wpList_append_own _ rfl _ _ 54 rfl w.heap.size 3 i0 (.int .i64 0) 1 8 Try.underlying54 HI.out HZ0.out HZ1.out HZ2.out rfl (by decide) _ _ _ rfl (Hown.out.alloc _) ⟨w.heap.size + z.blocks.size, 0, none⟩ 1 1 [.int .i64 k] rfl rfl ?c1 ?c2 ?c3 ?c4 ?c5 ?_))
        case c1 =>
          intro j u hu
          rw [Addr.add_lit, World.cell?_alloc_at _ _ _ _ (by simp), Nat.zero_add]
          simpa using hu
        case c2 => intro u hu; simp at hu; subst hu; rfl
        case c3 => unfold maxLen; omega
        case c4 => omega
        case c5 => simp; omega
        intro v' w' hown' hgr _
        have hbel : Below w.heap.size w w' := (up (grow_below w z) (up_alloc _ _)).grown hgr (by simp; omega) (fun q hq => (Hown.out.lt q hq).1)
        have Hown' := Lib.hid hown'
        clear hown' hgr
        obtain ⟨y3, rfl⟩ := below_grow hbel
        go_wp2
        refine ⟨⟨k + 1, y3, by omega, by go_num, rfl, ?_⟩, by simp [intOf]; omega⟩
        rw [Hy.out Hh.out, ints_snoc, List.length_append, HnX.out]
        exact Hown'.out
    · obtain rfl : k = 5 := by omega
      go_wp2
      go_ret
      exact ⟨_, rfl, Hown.out, grow_below w z⟩

/-- What is read of a set, by a number. -/
def pickS (a p : Int) : Int := 2 ^ ((sgK a 5).getD (p % ((sgK a 5).length : Int)).toNat 0).toNat
theorem sgK_ne {a : Int} {k n : Nat} (h : hasB a k = true) (hk : k < n) : 0 < (sgK a n).length := by
  induction n with
  | zero => omega
  | succ n ih =>
    unfold sgK
    by_cases e : k = n
    · subst e; rw [if_pos h]; simp
    · have := ih (by omega)
      split
      · simp
      · exact this
/-- A sign of a valid mark has worn signs. -/
theorem worn_ne {w0 w1 w2 w3 w4 : Int} (h : okW w0 w1 w2 w3 w4 = true) {s : Int} (h0 : 0 ≤ s) (h1 : s < 5) : 0 < (sgK (g5 w0 w1 w2 w3 w4 s) 5).length := by
  simp only [okW, wrB, Bool.and_eq_true, decide_eq_true_eq] at h
  obtain ⟨⟨⟨⟨⟨⟨a0, b0⟩, c0⟩, ⟨a1, b1⟩, c1⟩, ⟨a2, b2⟩, c2⟩, ⟨a3, b3⟩, c3⟩, ⟨a4, b4⟩, c4⟩ := h
  rcases (by omega : s = 0 ∨ s = 1 ∨ s = 2 ∨ s = 3 ∨ s = 4) with rfl | rfl | rfl | rfl | rfl
  · exact sgK_ne c0 (by decide)
  · exact sgK_ne c1 (by decide)
  · exact sgK_ne c2 (by decide)
  · exact sgK_ne c3 (by decide)
  · exact sgK_ne c4 (by decide)

/-- The error of Worn, and what is read at a place. -/
def wornE (w0 w1 w2 w3 w4 m0 m1 m2 m3 m4 m5 : Int) : Int := firstE [err (okW w0 w1 w2 w3 w4) 11, err (okM m0 m1 m2 m3 m4 m5) 10]
def wornAt (w0 w1 w2 w3 w4 m0 m1 m2 m3 m4 m5 : Int) (l : List Int) (k : Nat) : Int := pickS (g5 w0 w1 w2 w3 w4 (g6 m0 m1 m2 m3 m4 m5 k)) (pickL l k)
def wornV (w0 w1 w2 w3 w4 m0 m1 m2 m3 m4 m5 : Int) (l : List Int) (k : Nat) : Int := if wornE w0 w1 w2 w3 w4 m0 m1 m2 m3 m4 m5 = 0 then wornAt w0 w1 w2 w3 w4 m0 m1 m2 m3 m4 m5 l k else 0

/-- A box of six that is being filled. -/
structure RBox (wr : World) (N : Nat) (f : Nat → Int) (k : Nat) : Prop where
  lt : N < wr.heap.size
  cell : ∀ j, j < 6 → wr.cell? ⟨N, j, none⟩ = some (.int .i64 (if j < k then f j else 0))
  fro : ∀ j, wr.frozen? ⟨N, j, none⟩ = false
theorem RBox.keep {wr w' : World} {N : Nat} {f : Nat → Int} {k : Nat} (h : RBox wr N f k) (hb : Below wr.heap.size wr w') : RBox w' N f k :=
  ⟨by have := hb.size; have := h.lt; omega, fun j hj => (hb.cell (p := ⟨N, j, none⟩) h.lt).trans (h.cell j hj), fun j => (hb.frozen (p := ⟨N, j, none⟩) h.lt).trans (h.fro j)⟩
theorem RBox.put {wr : World} {N : Nat} {f : Nat → Int} {k : Nat} (h : RBox wr N f k) (hk : k < 6) : RBox (wr.setCell ⟨N, k, none⟩ (.int .i64 (f k))) N f (k + 1) := by
  refine ⟨by simpa [World.setCell] using h.lt, fun j hj => ?_, fun j => by rw [World.frozen?_setCell]; exact h.fro j⟩
  by_cases e : j = k
  · subst e; rw [World.cell?_setCell_same' _ _ _ (by rw [h.cell j hj]; rfl), if_pos (by omega)]
  · rw [World.cell?_setCell_other _ _ _ _ (by intro h; injection h with _ h2; exact e h2.symm), h.cell j hj]
    by_cases e2 : j < k
    · rw [if_pos e2, if_pos (by omega)]
    · rw [if_neg e2, if_neg (by omega)]

theorem Is.keep2 {w w' : World} {A : Option Addr} {n : Nat} {l : List Int} (h : Is w A n l) (hb : Below w.heap.size w w') : Is w' A n l := h.keep hb
theorem worn_any (w0 w1 w2 w3 w4 m0 m1 m2 m3 m4 m5 : Int) (A : Option Addr) (n c : Nat) (l : List Int) (w : World) (hg : Is w A n l) :
    Calls Try.prog 54 #[.agg #[.int .i64 w0, .int .i64 w1, .int .i64 w2, .int .i64 w3, .int .i64 w4], .agg #[.int .i64 m0, .int .i64 m1, .int .i64 m2, .int .i64 m3, .int .i64 m4, .int .i64 m5], .slice A n c] w fun e w' => e = .returned (.tuple #[.agg #[.int .i64 (wornV w0 w1 w2 w3 w4 m0 m1 m2 m3 m4 m5 l 0), .int .i64 (wornV w0 w1 w2 w3 w4 m0 m1 m2 m3 m4 m5 l 1), .int .i64 (wornV w0 w1 w2 w3 w4 m0 m1 m2 m3 m4 m5 l 2), .int .i64 (wornV w0 w1 w2 w3 w4 m0 m1 m2 m3 m4 m5 l 3), .int .i64 (wornV w0 w1 w2 w3 w4 m0 m1 m2 m3 m4 m5 l 4), .int .i64 (wornV w0 w1 w2 w3 w4 m0 m1 m2 m3 m4 m5 l 5)], .int .i64 (wornE w0 w1 w2 w3 w4 m0 m1 m2 m3 m4 m5)]) ∧ Below w.heap.size w w' := by
  go_enter Try.func54, Try.ntmps54
  go_wp2_with fail
  generalize hW : (World.alloc _ _) = W
  have HW : Hid (Below w.heap.size w W) := Lib.hid (by subst hW; go_grown)
  have hs : w.heap.size + 2 < W.heap.size := by subst hW; simp
  have hs1 : w.heap.size + 1 < W.heap.size := by omega
  have hs0 : w.heap.size < W.heap.size := by omega
  have cw : ∀ j, W.cell? ⟨w.heap.size, j, none⟩ = [Value.int .i64 w0, Value.int .i64 w1, Value.int .i64 w2, Value.int .i64 w3, Value.int .i64 w4][j]? := by subst hW; intro j; simp [go_sem]
  have ca : ∀ j, W.cell? ⟨w.heap.size + 1, j, none⟩ = [Value.int .i64 m0, Value.int .i64 m1, Value.int .i64 m2, Value.int .i64 m3, Value.int .i64 m4, Value.int .i64 m5][j]? := by subst hW; intro j; simp [go_sem]
  have Cr : Hid (∀ j, W.cell? ⟨w.heap.size + 1 + 1, j, none⟩ = [Value.int .i64 0, .int .i64 0, .int .i64 0, .int .i64 0, .int .i64 0, .int .i64 0][j]?) := Lib.hid (by subst hW; intro j; simp [go_sem])
  have fr : ∀ j, W.frozen? ⟨w.heap.size + 1 + 1, j, none⟩ = false := by subst hW; intro j; simp [go_sem]
  clear hW
  refine wp_region_grow_tail 4 (by kernel_rfl) (by kernel_rfl) ?_
  simp only [List.take_succ_cons, List.take_zero, List.drop_succ_cons, List.drop_zero]
  repeat (go_big_quiet_step ((first | (go_at_call 16; exact quiet_grow rfl (checkWear_any _ _ _ _ _ _)) | (go_at_call 14; exact quiet_grow rfl (checkMark_any _ _ _ _ _ _ _)))))
  refine wpQuiet_nil ?_
  intro z
  have e1 : w.heap.size < W.heap.size + z.blocks.size := by omega
  have e2 : w.heap.size + 1 < W.heap.size + z.blocks.size := by omega
  have e3 : w.heap.size + 1 + 1 < W.heap.size + z.blocks.size := by omega
  have e4 : w.heap.size + 1 + 1 < W.heap.size := by omega
  go_wp2_with fail
  refine Calls.mono (first_any _ _ _ _ _ (is2 _ _ _ _ _ (by simp))) ?_
  rintro e x1 ⟨rfl, rfl⟩
  rw [show firstE [err (okW w0 w1 w2 w3 w4) 11, err (okM m0 m1 m2 m3 m4 m5) 10] = wornE w0 w1 w2 w3 w4 m0 m1 m2 m3 m4 m5 from rfl]
  generalize hV : World.alloc (grow W z) _ = V
  have HV : Hid (Below W.heap.size W V) := Lib.hid (by subst hV; exact up (grow_below W z) (up_alloc _ _))
  clear hV
  have v4 : w.heap.size + 1 + 1 < V.heap.size := by have := HV.out.size; omega
  have v3 : w.heap.size + 1 < V.heap.size := by omega
  have v2 : w.heap.size < V.heap.size := by omega
  have cw2 : ∀ j, V.cell? ⟨w.heap.size, j, none⟩ = [Value.int .i64 w0, Value.int .i64 w1, Value.int .i64 w2, Value.int .i64 w3, Value.int .i64 w4][j]? := fun j => (HV.out.cell (p := ⟨w.heap.size, j, none⟩) hs0).trans (cw j)
  have ca2 : ∀ j, V.cell? ⟨w.heap.size + 1, j, none⟩ = [Value.int .i64 m0, Value.int .i64 m1, Value.int .i64 m2, Value.int .i64 m3, Value.int .i64 m4, Value.int .i64 m5][j]? := fun j => (HV.out.cell (p := ⟨w.heap.size + 1, j, none⟩) hs1).trans (ca j)
  have cr2 : ∀ j, V.cell? ⟨w.heap.size + 1 + 1, j, none⟩ = [Value.int .i64 0, .int .i64 0, .int .i64 0, .int .i64 0, .int .i64 0, .int .i64 0][j]? := fun j => (HV.out.cell (p := ⟨w.heap.size + 1 + 1, j, none⟩) e4).trans (Cr.out j)
  have fr2 : ∀ j, V.frozen? ⟨w.heap.size + 1 + 1, j, none⟩ = false := fun j => (HV.out.frozen (p := ⟨w.heap.size + 1 + 1, j, none⟩) e4).trans (fr j)
  have hgV := Lib.hid (hg.keep (up HW.out HV.out))
  clear cw ca fr e1 e2 e3
  by_cases hE : wornE w0 w1 w2 w3 w4 m0 m1 m2 m3 m4 m5 = 0
  rotate_left
  · have HE := Lib.hid hE
    have hb : (wornE w0 w1 w2 w3 w4 m0 m1 m2 m3 m4 m5 != 0) = true := by simpa using hE
    have Hv : Hid (∀ k, wornV w0 w1 w2 w3 w4 m0 m1 m2 m3 m4 m5 l k = 0) := Lib.hid (fun k => by unfold wornV; rw [if_neg hE])
    have Ex : Hid (∀ j, j < 6 → (V.cell? ⟨w.heap.size + 1 + 1, j, none⟩).isSome = true) := Lib.hid (by
      intro j hj
      rw [cr2 j]
      rcases (by omega : j = 0 ∨ j = 1 ∨ j = 2 ∨ j = 3 ∨ j = 4 ∨ j = 5) with rfl | rfl | rfl | rfl | rfl | rfl <;> rfl)
    clear hE
    go_wp2
    have P := put6 V (w.heap.size + 1 + 1) (.int .i64 0) (.int .i64 0) (.int .i64 0) (.int .i64 0) (.int .i64 0) (.int .i64 0) Ex.out
    have B := put6_below (up HW.out HV.out) (by omega : w.heap.size ≤ w.heap.size + 1 + 1) (.int .i64 0) (.int .i64 0) (.int .i64 0) (.int .i64 0) (.int .i64 0) (.int .i64 0)
    generalize World.setCell _ ⟨w.heap.size + 1 + 1, 5, none⟩ _ = U at P B ⊢
    have p0 := P 0 (by omega); have p1 := P 1 (by omega); have p2 := P 2 (by omega); have p3 := P 3 (by omega); have p4 := P 4 (by omega); have p5 := P 5 (by omega)
    clear P
    simp at p0 p1 p2 p3 p4 p5
    refine bodyPost_ret (v := .tuple #[.agg #[.int .i64 0, .int .i64 0, .int .i64 0, .int .i64 0, .int .i64 0, .int .i64 0], .int .i64 (wornE w0 w1 w2 w3 w4 m0 m1 m2 m3 m4 m5)]) (by simp [results, Try.results54, go_sem, p0, p1, p2, p3, p4, p5]) rfl ⟨by rw [Hv.out, Hv.out, Hv.out, Hv.out, Hv.out, Hv.out], B⟩
  have HE := Lib.hid hE
  have hE1 := hE
  unfold wornE at hE1
  obtain ⟨o1, o2⟩ := firstE2_0 hE1
  have ow := err_0 (by decide) o1
  have m2 := (okM_iff _ _ _ _ _ _).1 (err_0 (by decide) o2)
  clear o1 o2 hE1
  obtain ⟨⟨p0, q0⟩, ⟨p1, q1⟩, ⟨p2, q2⟩, ⟨p3, q3⟩, ⟨p4, q4⟩, ⟨p5, q5⟩⟩ := m2
  have Ow := Lib.hid ow
  clear ow
  rw [hE]
  clear hE
  go_wp2_with (go_at_call 77; refine (wornRow_any _ _ _ _ _ _ _ _ _ _ _ _ (by assumption) (by assumption) (by assumption) (by assumption) (by assumption) (by assumption) (by assumption) (by assumption) (by assumption) (by assumption) (by assumption) (by assumption)).mono ?_; rintro e x2 ⟨rfl, hb2⟩)
  have HB2 := Lib.hid ((show Below V.heap.size V _ from up_alloc _ _).trans (hb2.mono (by simp)))
  have Hbx : Hid (RBox x2 V.heap.size (wornAt w0 w1 w2 w3 w4 m0 m1 m2 m3 m4 m5 l) 0) := Lib.hid (RBox.keep ⟨by simp, fun j hj => by
    rw [World.cell?_alloc_at _ _ _ _ rfl, if_neg (by omega)]
    rcases (by omega : j = 0 ∨ j = 1 ∨ j = 2 ∨ j = 3 ∨ j = 4 ∨ j = 5) with rfl | rfl | rfl | rfl | rfl | rfl <;> rfl, fun j => World.frozen?_alloc_at _ _ _ _ rfl⟩ hb2)
  have HgV := hgV
  clear hb2
  go_loopw [26] (fun i wr => ∃ (k : Nat), k ≤ 6 ∧ i = .int .i64 k ∧ Below V.heap.size V wr ∧ RBox wr V.heap.size (wornAt w0 w1 w2 w3 w4 m0 m1 m2 m3 m4 m5 l) k) (fun i _ => 6 - (intOf i).toNat)
  case atStart => exact ⟨0, by omega, rfl, HB2.out, Hbx.out⟩
  case round =>
    obtain ⟨k, hk, rfl, hbw, hbx⟩ := hrel
    have Hbw := Lib.hid hbw
    have Hbx2 := Lib.hid hbx
    clear hbw hbx
    by_cases hlt : k < 6
    · have hget : (#[Value.int .i64 (g5 w0 w1 w2 w3 w4 m0), .int .i64 (g5 w0 w1 w2 w3 w4 m1), .int .i64 (g5 w0 w1 w2 w3 w4 m2), .int .i64 (g5 w0 w1 w2 w3 w4 m3), .int .i64 (g5 w0 w1 w2 w3 w4 m4), .int .i64 (g5 w0 w1 w2 w3 w4 m5)] : Array Value).getD k undef = .int .i64 (g5 w0 w1 w2 w3 w4 (g6 m0 m1 m2 m3 m4 m5 k)) := by
        rcases (by omega : k = 0 ∨ k = 1 ∨ k = 2 ∨ k = 3 ∨ k = 4 ∨ k = 5) with rfl | rfl | rfl | rfl | rfl | rfl <;> rfl
      have hidx : ∀ w', (Instr.index 98 (.agg #[.int .i64 (g5 w0 w1 w2 w3 w4 m0), .int .i64 (g5 w0 w1 w2 w3 w4 m1), .int .i64 (g5 w0 w1 w2 w3 w4 m2), .int .i64 (g5 w0 w1 w2 w3 w4 m3), .int .i64 (g5 w0 w1 w2 w3 w4 m4), .int .i64 (g5 w0 w1 w2 w3 w4 m5)]) (.int .i64 (k : Int))).run Try.prog w' = .ok (.int .i64 (g5 w0 w1 w2 w3 w4 (g6 m0 m1 m2 m3 m4 m5 k))) w' := fun w' => by
        rw [index98 w' _ _ (by omega) (by omega) (by simp; omega), show ((k : Int)).toNat = k by simp, hget]
      clear hget
      have bm : 0 ≤ g6 m0 m1 m2 m3 m4 m5 k ∧ g6 m0 m1 m2 m3 m4 m5 k < 5 := by
        rcases (by omega : k = 0 ∨ k = 1 ∨ k = 2 ∨ k = 3 ∨ k = 4 ∨ k = 5) with rfl | rfl | rfl | rfl | rfl | rfl <;> exact ⟨by assumption, by assumption⟩
      have hne := worn_ne Ow.out bm.1 bm.2
      have Hval : Hid (wornAt w0 w1 w2 w3 w4 m0 m1 m2 m3 m4 m5 l k = pickS (g5 w0 w1 w2 w3 w4 (g6 m0 m1 m2 m3 m4 m5 k)) (pickL l k)) := Lib.hid rfl
      generalize g5 w0 w1 w2 w3 w4 (g6 m0 m1 m2 m3 m4 m5 k) = a at *
      generalize hp : pickL l k = p at *
      have Hp := Lib.hid hp
      clear hp
      have hln := sgK_len a 5
      obtain ⟨q, hq⟩ := Int.eq_ofNat_of_zero_le (Int.emod_nonneg p (by omega : ((sgK a 5).length : Int) ≠ 0))
      have hql : q < (sgK a 5).length := by have := Int.emod_lt_of_pos p (by omega : (0 : Int) < ((sgK a 5).length : Int)); omega
      have hx := sgK_in a 5 _ (List.getElem_mem hql)
      have Hv2 : Hid (pickS a p = 2 ^ ((sgK a 5)[q]).toNat) := Lib.hid (by unfold pickS; rw [hq]; simp [hql])
      obtain ⟨hx0, hx5⟩ := hx
      have Hq := Lib.hid hq
      clear hq bm
      have HS : Hid (∀ (w1 : World) (A' : Option Addr) (c' : Nat), Is w1 A' (sgK a 5).length (sgK a 5) → ∃ b o, A' = some ⟨b, o, none⟩ ∧ b < w1.heap.size ∧ w1.cell? ⟨b, o + q, none⟩ = some (.int .i64 (sgK a 5)[q])) := Lib.hid (fun w1 A' c' h => h.get q hql)
      generalize (sgK a 5)[q] = x at *
      go_wp2_with (first
        | (go_at_call 102; refine (list_any _ _).mono ?_; rintro e x3 ⟨v, rfl, hown, hb3⟩; have HRB := Lib.hid (Hbx2.out.keep hb3); have HB3 := Lib.hid (Hbw.out.trans (hb3.mono (by have := Hbx2.out.lt; omega))); clear hb3; obtain ⟨A', c', rfl, _, his⟩ := Is.of_own hown; clear hown; obtain ⟨bb, oo, rfl, hbb, hcc⟩ := HS.out _ _ c' his; clear his; have f1 := HRB.out.cell k hlt; have f2 := HRB.out.fro k)
        | (go_at_call 105; refine (pickAt_any _ _ _ l k _ (HgV.out.keep2 HB3.out) (by omega)).mono ?_; rintro e x4 ⟨rfl, rfl⟩; rw [Hp.out])
        | (go_at_call 104; refine (modulo_any _ _ _ (by omega) (by omega)).mono ?_; rintro e x4 ⟨rfl, rfl⟩; rw [Hq.out])
        | (go_at_call 103; refine (only_any _ _ hx0 hx5).mono ?_; rintro e x4 ⟨rfl, rfl⟩))
      have Hfin : Hid (wornAt w0 w1 w2 w3 w4 m0 m1 m2 m3 m4 m5 l k = 2 ^ x.toNat) := Lib.hid (Hval.out.trans Hv2.out)
      refine ⟨⟨k + 1, by omega, by go_num, HB3.out.setCell (Nat.le_refl _) _, ?_⟩, by simp [intOf]; omega⟩
      rw [← Hfin.out]
      exact HRB.out.put hlt
    · obtain rfl : k = 6 := by omega
      have hlt6 := Hbx2.out.lt
      have d0 := Hbx2.out.cell 0 (by omega); have d1 := Hbx2.out.cell 1 (by omega); have d2 := Hbx2.out.cell 2 (by omega); have d3 := Hbx2.out.cell 3 (by omega); have d4 := Hbx2.out.cell 4 (by omega); have d5 := Hbx2.out.cell 5 (by omega)
      simp only [show (0 : Nat) < 6 by decide, show (1 : Nat) < 6 by decide, show (2 : Nat) < 6 by decide, show (3 : Nat) < 6 by decide, show (4 : Nat) < 6 by decide, show (5 : Nat) < 6 by decide, if_true] at d0 d1 d2 d3 d4 d5
      have Hv : Hid (∀ k, wornV w0 w1 w2 w3 w4 m0 m1 m2 m3 m4 m5 l k = wornAt w0 w1 w2 w3 w4 m0 m1 m2 m3 m4 m5 l k) := Lib.hid (fun k => by unfold wornV; rw [if_pos HE.out])
      have cr3 : ∀ j, wr.cell? ⟨w.heap.size + 1 + 1, j, none⟩ = [Value.int .i64 0, .int .i64 0, .int .i64 0, .int .i64 0, .int .i64 0, .int .i64 0][j]? := fun j => (Hbw.out.cell (p := ⟨w.heap.size + 1 + 1, j, none⟩) v4).trans (cr2 j)
      have fr3 : ∀ j, wr.frozen? ⟨w.heap.size + 1 + 1, j, none⟩ = false := fun j => (Hbw.out.frozen (p := ⟨w.heap.size + 1 + 1, j, none⟩) v4).trans (fr2 j)
      have Ex : Hid (∀ j, j < 6 → (wr.cell? ⟨w.heap.size + 1 + 1, j, none⟩).isSome = true) := Lib.hid (by
        intro j hj
        rw [cr3 j]
        rcases (by omega : j = 0 ∨ j = 1 ∨ j = 2 ∨ j = 3 ∨ j = 4 ∨ j = 5) with rfl | rfl | rfl | rfl | rfl | rfl <;> rfl)
      clear cw2 ca2 cr2 fr2
      generalize wornAt w0 w1 w2 w3 w4 m0 m1 m2 m3 m4 m5 l = f at *
      go_wp2
      have P := put6 wr (w.heap.size + 1 + 1) (.int .i64 (f 0)) (.int .i64 (f 1)) (.int .i64 (f 2)) (.int .i64 (f 3)) (.int .i64 (f 4)) (.int .i64 (f 5)) Ex.out
      have B := put6_below ((up HW.out HV.out).trans (Hbw.out.mono (by omega : w.heap.size ≤ V.heap.size))) (by omega : w.heap.size ≤ w.heap.size + 1 + 1) (.int .i64 (f 0)) (.int .i64 (f 1)) (.int .i64 (f 2)) (.int .i64 (f 3)) (.int .i64 (f 4)) (.int .i64 (f 5))
      generalize World.setCell _ ⟨w.heap.size + 1 + 1, 5, none⟩ _ = U at P B ⊢
      have p0 := P 0 (by omega); have p1 := P 1 (by omega); have p2 := P 2 (by omega); have p3 := P 3 (by omega); have p4 := P 4 (by omega); have p5 := P 5 (by omega)
      clear P
      simp at p0 p1 p2 p3 p4 p5
      refine bodyPost_ret (v := .tuple #[.agg #[.int .i64 (f 0), .int .i64 (f 1), .int .i64 (f 2), .int .i64 (f 3), .int .i64 (f 4), .int .i64 (f 5)], .int .i64 0]) (by simp [results, Try.results54, go_sem, p0, p1, p2, p3, p4, p5]) rfl ⟨by rw [Hv.out, Hv.out, Hv.out, Hv.out, Hv.out, Hv.out, HE.out], B⟩
end Go.Proofs.Ytbieopkohkomoaa

namespace Go.Proofs.Ytbieopkohkomoaa
open Go Go.RowKit
set_option maxRecDepth 100000

/-- The lowest sign of a set, as a set. -/
def lowS (s : Int) : Int := 2 ^ ((sgK s 5).getD 0 0).toNat
/-- Of which set a place is read, where so many false places are left. -/
def selS (a b q : Int) : Int := if (band a b == 0) = true then (if 0 < q then a else b) else band a b
def nxtQ (a b q : Int) : Int := if (band a b == 0) = true then (if 0 < q then q - 1 else q) else q
def qK (fa fb : Nat → Int) (p : Int) : Nat → Int
  | 0 => p
  | k + 1 => nxtQ (fa k) (fb k) (qK fa fb p k)
def btK (fa fb : Nat → Int) (p : Int) (k : Nat) : Int := lowS (selS (fa k) (fb k) (qK fa fb p k))
/-- A set that is not empty. -/
def st (s : Int) : Prop := 1 ≤ s ∧ s ≤ 31

theorem low_dec : ∀ s : Fin 32, s.val ≠ 0 → 1 ≤ lowS s.val ∧ lowS s.val ≤ 31 ∧ (band (lowS s.val) (lowS s.val - 1) == 0) = true ∧ (band s.val (lowS s.val) == 0) = false ∧ 0 < (sgK s.val 5).length := by decide +kernel
theorem and_dec : ∀ a b : Fin 32, (band a.val b.val == 0) = false → 1 ≤ band a.val b.val ∧ band a.val b.val ≤ 31 ∧ (band a.val (lowS (band a.val b.val)) == 0) = false ∧ (band b.val (lowS (band a.val b.val)) == 0) = false := by decide +kernel
theorem st_fin {s : Int} (h : st s) : ∃ f : Fin 32, s = ((f.val : Nat) : Int) ∧ f.val ≠ 0 := by
  obtain ⟨h1, h2⟩ := h
  obtain ⟨n, rfl⟩ := Int.eq_ofNat_of_zero_le (by omega : 0 ≤ s)
  exact ⟨⟨n, by omega⟩, rfl, by show n ≠ 0; omega⟩
theorem low_st {s : Int} (h : st s) : st (lowS s) ∧ (band (lowS s) (lowS s - 1) == 0) = true ∧ mis s (lowS s) = 0 ∧ 0 < (sgK s 5).length := by
  obtain ⟨f, rfl, h0⟩ := st_fin h
  obtain ⟨a, b, c, d, e⟩ := low_dec f h0
  exact ⟨⟨a, b⟩, c, mis_no d, e⟩
theorem and_st {a b : Int} (ha : st a) (hb : st b) (h : (band a b == 0) = false) : st (band a b) ∧ mis a (lowS (band a b)) = 0 ∧ mis b (lowS (band a b)) = 0 := by
  obtain ⟨f, rfl, _⟩ := st_fin ha
  obtain ⟨g, rfl, _⟩ := st_fin hb
  obtain ⟨p, q, r, s⟩ := and_dec f g h
  exact ⟨⟨p, q⟩, mis_no r, mis_no s⟩
theorem sel_st {a b q : Int} (ha : st a) (hb : st b) : st (selS a b q) := by
  unfold selS
  split
  · split <;> assumption
  · rename_i h
    exact (and_st ha hb (by simpa using h)).1
theorem bt_st {fa fb : Nat → Int} {p : Int} {k : Nat} (ha : st (fa k)) (hb : st (fb k)) : st (btK fa fb p k) ∧ (band (btK fa fb p k) (btK fa fb p k - 1) == 0) = true :=
  ⟨(low_st (sel_st ha hb)).1, (low_st (sel_st ha hb)).2.1⟩
/-- What the places cost. -/
theorem bt_cost {fa fb : Nat → Int} {p : Int} (hp : 0 ≤ p) (n : Nat) (ha : ∀ k, k < n → st (fa k)) (hb : ∀ k, k < n → st (fb k)) :
    0 ≤ qK fa fb p n ∧ (qK fa fb p n = 0 ∨ qK fa fb p n = p - sumK (fun j => mis (fa j) (fb j)) n) ∧ qK fa fb p n ≤ p ∧
    sumK (fun j => mis (fb j) (btK fa fb p j)) n ≤ p - qK fa fb p n ∧ sumK (fun j => mis (fa j) (btK fa fb p j)) n + (p - qK fa fb p n) ≤ sumK (fun j => mis (fa j) (fb j)) n := by
  induction n with
  | zero => simp only [qK, sumK]; omega
  | succ n ih =>
    obtain ⟨i1, i2, i3, i4, i5⟩ := ih (fun k hk => ha k (by omega)) (fun k hk => hb k (by omega))
    have xa := ha n (by omega)
    have xb := hb n (by omega)
    have ma := mis_bd (fa n) (btK fa fb p n)
    have mb := mis_bd (fb n) (btK fa fb p n)
    simp only [sumK]
    cases h : (band (fa n) (fb n) == 0)
    · have e1 : qK fa fb p (n + 1) = qK fa fb p n := by simp only [qK, nxtQ, h]; simp
      have e2 : btK fa fb p n = lowS (band (fa n) (fb n)) := by simp only [btK, selS, h]; simp
      have := and_st xa xb h
      rw [e1, mis_no h, e2, this.2.1, this.2.2]
      omega
    · rw [mis_yes h]
      by_cases hq : 0 < qK fa fb p n
      · have e1 : qK fa fb p (n + 1) = qK fa fb p n - 1 := by simp only [qK, nxtQ, h, hq]; simp
        have e2 : btK fa fb p n = lowS (fa n) := by simp only [btK, selS, h, hq]; simp
        have := (low_st xa).2.2.1
        rw [← e2] at this
        rw [e1, this]
        omega
      · have e1 : qK fa fb p (n + 1) = qK fa fb p n := by simp only [qK, nxtQ, h, hq]; simp
        have e2 : btK fa fb p n = lowS (fb n) := by simp only [btK, selS, h, hq]; simp
        have := (low_st xb).2.2.1
        rw [← e2] at this
        rw [e1, this]
        omega
theorem bt_good {fa fb : Nat → Int} {p : Int} (hp : 0 ≤ p) (n : Nat) (ha : ∀ k, k < n → st (fa k)) (hb : ∀ k, k < n → st (fb k)) (hd : sumK (fun j => mis (fa j) (fb j)) n ≤ 2 * p) :
    sumK (fun j => mis (fa j) (btK fa fb p j)) n ≤ p ∧ sumK (fun j => mis (fb j) (btK fa fb p j)) n ≤ p := by
  have := bt_cost hp n ha hb
  omega
/-- The worn signs of a valid sign are a set that is not empty. -/
theorem worn_st {w0 w1 w2 w3 w4 : Int} (h : okW w0 w1 w2 w3 w4 = true) {s : Int} (h0 : 0 ≤ s) (h1 : s < 5) : st (g5 w0 w1 w2 w3 w4 s) := by
  simp only [okW, wrB, Bool.and_eq_true, decide_eq_true_eq] at h
  obtain ⟨⟨⟨⟨⟨⟨a0, b0⟩, c0⟩, ⟨a1, b1⟩, c1⟩, ⟨a2, b2⟩, c2⟩, ⟨a3, b3⟩, c3⟩, ⟨a4, b4⟩, c4⟩ := h
  have key : ∀ (x : Int) (i : Nat), 0 ≤ x → x ≤ 31 → hasB x i = true → st x := fun x i h0 h1 h2 => by
    refine ⟨?_, h1⟩
    rcases Int.lt_or_eq_of_le h0 with h | h
    · omega
    · exfalso
      subst h
      unfold hasB band at h2
      have : bits BinOp.and IntKind.i64 0 (2 ^ i) = 0 := by simp [bits]; rfl
      simp [this] at h2
  rcases (by omega : s = 0 ∨ s = 1 ∨ s = 2 ∨ s = 3 ∨ s = 4) with rfl | rfl | rfl | rfl | rfl
  · exact key _ 0 a0 b0 c0
  · exact key _ 1 a1 b1 c1
  · exact key _ 2 a2 b2 c2
  · exact key _ 3 a3 b3 c3
  · exact key _ 4 a4 b4 c4
end Go.Proofs.Ytbieopkohkomoaa

namespace Go.Proofs.Ytbieopkohkomoaa
open Go Go.RowKit
set_option maxHeartbeats 400000
set_option maxRecDepth 100000

theorem between_any (a0 a1 a2 a3 a4 a5 b0 b1 b2 b3 b4 b5 p : Int) (w : World) (hp0 : 0 ≤ p) (hp2 : p ≤ 2) (hsa : ∀ k : Nat, k < 6 → st (g6 a0 a1 a2 a3 a4 a5 k)) (hsb : ∀ k : Nat, k < 6 → st (g6 b0 b1 b2 b3 b4 b5 k)) :
    Calls Try.prog 82 #[.agg #[.int .i64 a0, .int .i64 a1, .int .i64 a2, .int .i64 a3, .int .i64 a4, .int .i64 a5], .agg #[.int .i64 b0, .int .i64 b1, .int .i64 b2, .int .i64 b3, .int .i64 b4, .int .i64 b5], .int .i64 p] w fun e w' => e = .returned (.agg #[.int .i64 (btK (fun j => g6 a0 a1 a2 a3 a4 a5 j) (fun j => g6 b0 b1 b2 b3 b4 b5 j) p 0), .int .i64 (btK (fun j => g6 a0 a1 a2 a3 a4 a5 j) (fun j => g6 b0 b1 b2 b3 b4 b5 j) p 1), .int .i64 (btK (fun j => g6 a0 a1 a2 a3 a4 a5 j) (fun j => g6 b0 b1 b2 b3 b4 b5 j) p 2), .int .i64 (btK (fun j => g6 a0 a1 a2 a3 a4 a5 j) (fun j => g6 b0 b1 b2 b3 b4 b5 j) p 3), .int .i64 (btK (fun j => g6 a0 a1 a2 a3 a4 a5 j) (fun j => g6 b0 b1 b2 b3 b4 b5 j) p 4), .int .i64 (btK (fun j => g6 a0 a1 a2 a3 a4 a5 j) (fun j => g6 b0 b1 b2 b3 b4 b5 j) p 5)]) ∧ Below w.heap.size w w' := by
  have HSa := Lib.hid hsa
  have HSb := Lib.hid hsb
  clear hsa hsb
  go_enter Try.func82, Try.ntmps82
  go_wp2
  generalize hW : (World.alloc (World.alloc (World.alloc w _) _) _) = W
  have HW : Hid (Below w.heap.size w W) := Lib.hid (by subst hW; go_grown)
  have KA : Bk W w.heap.size [Value.int .i64 a0, Value.int .i64 a1, Value.int .i64 a2, Value.int .i64 a3, Value.int .i64 a4, Value.int .i64 a5] := ⟨by subst hW; simp only [World.size_alloc]; omega, by subst hW; intro j; simp [go_sem]⟩
  have KB : Bk W (w.heap.size + 1) [Value.int .i64 b0, Value.int .i64 b1, Value.int .i64 b2, Value.int .i64 b3, Value.int .i64 b4, Value.int .i64 b5] := ⟨by subst hW; simp only [World.size_alloc]; omega, by subst hW; intro j; simp [go_sem]⟩
  have KX : Bk W (w.heap.size + 1 + 1) [.int .i64 0, .int .i64 0, .int .i64 0, .int .i64 0, .int .i64 0, .int .i64 0] := ⟨by subst hW; simp only [World.size_alloc]; omega, by subst hW; intro j; simp [go_sem]⟩
  have FX : Hid (∀ j, W.frozen? ⟨w.heap.size + 1 + 1, j, none⟩ = false) := Lib.hid (by subst hW; intro j; simp [go_sem])
  have Hsz : Hid (W.heap.size = w.heap.size + 1 + 1 + 1) := Lib.hid (by subst hW; simp)
  clear hW
  generalize hf : btK (fun j => g6 a0 a1 a2 a3 a4 a5 j) (fun j => g6 b0 b1 b2 b3 b4 b5 j) p = f
  have Hf := Lib.hid hf
  clear hf
  generalize hV : World.alloc W _ = V
  have Hbx : Hid (RBox V (w.heap.size + 1 + 1 + 1) f 0) := Lib.hid (by
    subst hV
    rw [← Hsz.out]
    exact ⟨by simp, fun j hj => by
      rw [World.cell?_alloc_at _ _ _ _ rfl, if_neg (by omega)]
      rcases (by omega : j = 0 ∨ j = 1 ∨ j = 2 ∨ j = 3 ∨ j = 4 ∨ j = 5) with rfl | rfl | rfl | rfl | rfl | rfl <;> rfl, fun j => World.frozen?_alloc_at _ _ _ _ rfl⟩)
  have HV0 : Hid (Below W.heap.size W V) := Lib.hid (by subst hV; exact up_alloc _ _)
  clear hV
  have kx0 := KX.lt
  go_loopw [2, 10] (fun q i wr => ∃ (k : Nat), k ≤ 6 ∧ i = .int .i64 k ∧ q = .int .i64 (qK (fun j => g6 a0 a1 a2 a3 a4 a5 j) (fun j => g6 b0 b1 b2 b3 b4 b5 j) p k) ∧ Below W.heap.size W wr ∧ RBox wr (w.heap.size + 1 + 1 + 1) f k) (fun _ i _ => 6 - (intOf i).toNat)
  case atStart => exact ⟨0, by omega, rfl, rfl, HV0.out, Hbx.out⟩
  case round =>
    obtain ⟨k, hk, rfl, rfl, hbw, hbx⟩ := hrel
    have Hbw := Lib.hid hbw
    have Hbx2 := Lib.hid hbx
    clear hbw hbx
    by_cases hlt : k < 6
    · have bc := bt_cost (p := p) hp0 k (fun j hj => HSa.out j (by omega)) (fun j hj => HSb.out j (by omega))
      have q0 := bc.1
      have q2 : qK (fun j => g6 a0 a1 a2 a3 a4 a5 j) (fun j => g6 b0 b1 b2 b3 b4 b5 j) p k ≤ 2 := by have := bc.2.2.1; omega
      clear bc
      have Hq1 : Hid (qK (fun j => g6 a0 a1 a2 a3 a4 a5 j) (fun j => g6 b0 b1 b2 b3 b4 b5 j) p (k + 1) = nxtQ (g6 a0 a1 a2 a3 a4 a5 k) (g6 b0 b1 b2 b3 b4 b5 k) (qK (fun j => g6 a0 a1 a2 a3 a4 a5 j) (fun j => g6 b0 b1 b2 b3 b4 b5 j) p k)) := Lib.hid rfl
      have Hfk : Hid (f k = lowS (selS (g6 a0 a1 a2 a3 a4 a5 k) (g6 b0 b1 b2 b3 b4 b5 k) (qK (fun j => g6 a0 a1 a2 a3 a4 a5 j) (fun j => g6 b0 b1 b2 b3 b4 b5 j) p k))) := Lib.hid (by rw [← Hf.out]; rfl)
      have sa := HSa.out k hlt
      have sb := HSb.out k hlt
      have ca : wr.cell? ⟨w.heap.size, k, none⟩ = some (.int .i64 (g6 a0 a1 a2 a3 a4 a5 k)) := ((KA.keep Hbw.out).get k).trans (at6n _ _ _ _ _ _ k hlt)
      have cb : wr.cell? ⟨w.heap.size + 1, k, none⟩ = some (.int .i64 (g6 b0 b1 b2 b3 b4 b5 k)) := ((KB.keep Hbw.out).get k).trans (at6n _ _ _ _ _ _ k hlt)
      have la : w.heap.size < wr.heap.size := (KA.keep Hbw.out).lt
      have lb : w.heap.size + 1 < wr.heap.size := (KB.keep Hbw.out).lt
      generalize qK (fun j => g6 a0 a1 a2 a3 a4 a5 j) (fun j => g6 b0 b1 b2 b3 b4 b5 j) p k = q at *
      generalize g6 a0 a1 a2 a3 a4 a5 k = x at *
      generalize g6 b0 b1 b2 b3 b4 b5 k = y at *
      have SX := Lib.hid sa
      have SY := Lib.hid sb
      clear sa sb
      have three : ∃ S : Int, selS x y q = S ∧ st S ∧ (((band x y == 0) = false ∧ S = band x y ∧ nxtQ x y q = q) ∨ ((band x y == 0) = true ∧ 0 < q ∧ S = x ∧ nxtQ x y q = q - 1) ∨ ((band x y == 0) = true ∧ ¬ 0 < q ∧ S = y ∧ nxtQ x y q = q)) := by
        refine ⟨_, rfl, sel_st SX.out SY.out, ?_⟩
        cases h : (band x y == 0)
        · exact Or.inl ⟨rfl, by unfold selS; simp [h], by unfold nxtQ; simp [h]⟩
        · by_cases hq : 0 < q
          · exact Or.inr (Or.inl ⟨rfl, hq, by unfold selS; simp [h, hq], by unfold nxtQ; simp [h, hq]⟩)
          · exact Or.inr (Or.inr ⟨rfl, hq, by unfold selS; simp [h, hq], by unfold nxtQ; simp [h, hq]⟩)
      obtain ⟨S, hS, sS, three⟩ := three
      have HS := Lib.hid hS
      clear hS
      have hne := (low_st sS).2.2.2
      have Hlow : Hid (lowS S = 2 ^ ((sgK S 5)[0]'hne).toNat) := Lib.hid (by unfold lowS; simp [List.getD, List.getElem?_eq_getElem hne])
      have hx := sgK_in S 5 _ (List.getElem_mem hne)
      obtain ⟨hx0, hx5⟩ := hx
      have HSg : Hid (∀ (w1 : World) (A' : Option Addr) (c' : Nat), Is w1 A' (sgK S 5).length (sgK S 5) → ∃ b o, A' = some ⟨b, o, none⟩ ∧ b < w1.heap.size ∧ w1.cell? ⟨b, o + 0, none⟩ = some (.int .i64 (sgK S 5)[0])) := Lib.hid (fun w1 A' c' h => h.get 0 hne)
      have hln := sgK_len S 5
      generalize (sgK S 5)[0] = e0 at *
      clear sS
      rcases three with ⟨hm, hSe, hn⟩ | ⟨hm, hq, hSe, hn⟩ | ⟨hm, hq, hSe, hn⟩
      all_goals
        have Hn := Lib.hid hn
        have Hm := Lib.hid hm
        subst hSe
        clear hn
        go_wp2
        refine wp_region_grow (by kernel_rfl) (by kernel_rfl) ?_
        repeat (go_big_quiet_step ((fail)))
        refine wpQuiet_nil ?_
        intro z
        have HRz := Lib.hid (Hbx2.out.keep (grow_below wr z))
        have HBz := Lib.hid (Hbw.out.trans ((grow_below wr z).mono (by have := Hbw.out.size; omega)))
        go_wp2
        refine wp_region_grow (by kernel_rfl) (by kernel_rfl) ?_
        repeat (go_big_quiet_step ((go_at_call 108; exact quiet_grow rfl (still_grow (misses_any _ _ _)))))
        refine wpQuiet_nil ?_
        intro z2
        obtain ⟨y2, hy2⟩ := grow_grow wr z z2
        have HRy := Lib.hid (hy2 ▸ HRz.out.keep (grow_below (grow wr z) z2))
        have HBy := Lib.hid (Hbw.out.trans ((grow_below wr y2).mono (by have := Hbw.out.size; omega)))
        rw [hy2]
        clear hy2
        go_wp2_with (first
          | (go_at_call 102; refine (list_any _ _).mono ?_; rintro e x3 ⟨v, rfl, hown, hb3⟩; have HRB := Lib.hid (HRy.out.keep hb3); have HB3 := Lib.hid (HBy.out.trans (hb3.mono (by have := HRy.out.lt; have := Hsz.out; omega))); clear hb3; obtain ⟨A', c', rfl, _, his⟩ := Is.of_own hown; clear hown; obtain ⟨bb, oo, rfl, hbb, hcc⟩ := HSg.out _ _ c' his; clear his; rw [Nat.add_zero] at hcc; have f1 := HRB.out.cell k hlt; have f2 := HRB.out.fro k)
          | (go_at_call 103; refine (only_any _ _ hx0 hx5).mono ?_; rintro e x4 ⟨rfl, rfl⟩))
        have Hfin : Hid (f k = 2 ^ e0.toNat) := Lib.hid (by rw [Hfk.out, HS.out, Hlow.out]; rfl)
        refine ⟨⟨k + 1, by omega, by go_num, by first | (rw [Hq1.out, Hn.out]; done) | (rw [Hq1.out, Hn.out]; go_num), HB3.out.setCell (Nat.le_of_eq Hsz.out) _, ?_⟩, by simp [intOf]; omega⟩
        rw [← Hfin.out]
        exact HRB.out.put hlt
    · obtain rfl : k = 6 := by omega
      have hlt6 := Hbx2.out.lt
      have d0 := Hbx2.out.cell 0 (by omega); have d1 := Hbx2.out.cell 1 (by omega); have d2 := Hbx2.out.cell 2 (by omega); have d3 := Hbx2.out.cell 3 (by omega); have d4 := Hbx2.out.cell 4 (by omega); have d5 := Hbx2.out.cell 5 (by omega)
      simp only [show (0 : Nat) < 6 by decide, show (1 : Nat) < 6 by decide, show (2 : Nat) < 6 by decide, show (3 : Nat) < 6 by decide, show (4 : Nat) < 6 by decide, show (5 : Nat) < 6 by decide, if_true] at d0 d1 d2 d3 d4 d5
      replace KX := KX.keep Hbw.out
      have KXl := KX.lt; have KXc := KX.get
      have fr3 : ∀ j, wr.frozen? ⟨w.heap.size + 1 + 1, j, none⟩ = false := fun j => (Hbw.out.frozen (p := ⟨w.heap.size + 1 + 1, j, none⟩) kx0).trans (FX.out j)
      have Ex : Hid (∀ j, j < 6 → (wr.cell? ⟨w.heap.size + 1 + 1, j, none⟩).isSome = true) := Lib.hid (by
        intro j hj
        rw [KXc j]
        rcases (by omega : j = 0 ∨ j = 1 ∨ j = 2 ∨ j = 3 ∨ j = 4 ∨ j = 5) with rfl | rfl | rfl | rfl | rfl | rfl <;> rfl)
      clear KX
      go_wp2
      have P := put6 wr (w.heap.size + 1 + 1) (.int .i64 (f 0)) (.int .i64 (f 1)) (.int .i64 (f 2)) (.int .i64 (f 3)) (.int .i64 (f 4)) (.int .i64 (f 5)) Ex.out
      have B := put6_below (HW.out.trans (Hbw.out.mono (HW.out.size))) (by omega : w.heap.size ≤ w.heap.size + 1 + 1) (.int .i64 (f 0)) (.int .i64 (f 1)) (.int .i64 (f 2)) (.int .i64 (f 3)) (.int .i64 (f 4)) (.int .i64 (f 5))
      generalize World.setCell _ ⟨w.heap.size + 1 + 1, 5, none⟩ _ = U at P B ⊢
      have p0 := P 0 (by omega); have p1 := P 1 (by omega); have p2 := P 2 (by omega); have p3 := P 3 (by omega); have p4 := P 4 (by omega); have p5 := P 5 (by omega)
      clear P
      simp at p0 p1 p2 p3 p4 p5
      refine bodyPost_ret (v := .agg #[.int .i64 (f 0), .int .i64 (f 1), .int .i64 (f 2), .int .i64 (f 3), .int .i64 (f 4), .int .i64 (f 5)]) (by simp [results, Try.results82, go_sem, p0, p1, p2, p3, p4, p5]) rfl ⟨by rw [← Hf.out], B⟩
end Go.Proofs.Ytbieopkohkomoaa

