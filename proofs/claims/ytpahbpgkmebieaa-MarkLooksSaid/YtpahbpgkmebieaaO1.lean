/- The arguments of the statements, opened; a statement, closed. Own text. -/
import Derived.Test.YtpahbpgkmebieaaRows
import Derived.Test.YtpahbpgkmebieaaW16
import Derived.ProofKit
import Derived.Deep.Slices
import Derived.Deep.Strs
import Derived.OpenShut
import Derived.SizedLaws
namespace Go.Proofs.Ytpahbpgkmebieaa
open Go.ChangeShapes Go.WideShapes Go.RowKit Go.Deep
set_option maxHeartbeats 400000
set_option maxRecDepth 100000

/-- A number that fits. -/
def i64 (n : Int) : Prop := -9223372036854775808 ≤ n ∧ n ≤ 9223372036854775807
theorem i64_wf {n : Int} (h : (Lit.int .i64 n).wf = true) : i64 n := by
  simp only [Lit.wf, Bool.and_eq_true, decide_eq_true_eq] at h
  exact ⟨h.1, h.2⟩
/-- Cells that are these numbers. -/
def Nums (cs : List Value) (l : List Int) : Prop := cs = ints l ∧ ∀ n ∈ l, i64 n
theorem nums_of {cs : List Value} (h : ∀ j, j < cs.length → ∃ n, cs[j]? = some (.int .i64 n) ∧ i64 n) : ∃ l, l.length = cs.length ∧ Nums cs l := by
  induction cs with
  | nil => exact ⟨[], rfl, rfl, by simp⟩
  | cons c cs ih =>
    obtain ⟨n, hn, hi⟩ := h 0 (by simp)
    obtain ⟨l, hl, he, hq⟩ := ih fun j hj => by simpa using h (j + 1) (by simpa using hj)
    obtain rfl : c = .int .i64 n := by simpa using hn
    exact ⟨n :: l, by simp [hl], by simp [ints, he], by simpa using ⟨hi, hq⟩⟩

section
variable {H : Type} {enc : TypeId × Value → H} {w : World} {base : Nat} {spare : Nat → Bool} {held : Bool} {fuel : Nat} {cs : List Value} {x : DataW H × List MemPlace}

theorem nums_array {P : Program} {t e : TypeId} {n : Nat} (ht : P.underlying t = some (.array n e)) (he : P.underlying e = some (.int .i64)) (hc : P.cellsOf e = 1) (hC : P.cellsOf t = n)
    (h : DataW.trod enc P w base spare held fuel t cs = some x) : ∃ l, l.length = n ∧ Nums cs l := by
  obtain ⟨xs, m, _, _, hl, hn, hel⟩ := DataW.trod_array ht h
  rw [hC] at hl
  obtain ⟨l, h1, h2⟩ := nums_of (cs := cs) fun j hj => by
    have h3 := hel j (by omega)
    have hx : xs[j]? = some (xs[j]'(by omega)) := List.getElem?_eq_getElem (by omega)
    rw [hc, Nat.mul_one, hx] at h3
    obtain ⟨k, e1, _, e3⟩ := DataW.trod_int he h3
    refine ⟨k, ?_, i64_wf e3⟩
    have := congrArg (fun l => l[0]?) e1
    simpa [List.getElem?_take, List.getElem?_drop] using this
  exact ⟨l, by omega, h2⟩

theorem giv_open (h : DataW.trod enc Try.prog w base spare held fuel 30 cs = some x) : ∃ g : Giv, cs = [.int .i64 g.o, .int .i64 g.m0, .int .i64 g.m1, .int .i64 g.m2, .int .i64 g.m3, .int .i64 g.m4, .int .i64 g.m5] := by
  obtain ⟨y0, y1, n, _, hl, h0, h1⟩ := trod_struct2 Try.underlying30 h
  rw [show Try.prog.cellsOf 30 = 7 by kernel_rfl] at hl
  dsimp only at h0 h1
  rw [show Try.prog.cellsOf 3 = 1 by kernel_rfl] at h0
  rw [show Try.prog.cellsOf 28 = 6 by kernel_rfl] at h1
  obtain ⟨k, e1, _, _⟩ := DataW.trod_int Try.underlying3 h0
  obtain ⟨l, hln, e2, _⟩ := nums_array Try.underlying28 Try.underlying3 (by kernel_rfl) (by kernel_rfl) h1
  match cs, hl with
  | [c0, c1, c2, c3, c4, c5, c6], _ =>
    match l, hln with
    | [a0, a1, a2, a3, a4, a5], _ =>
      simp [ints] at e1 e2
      obtain ⟨rfl, rfl, rfl, rfl, rfl, rfl⟩ := e2
      subst e1
      exact ⟨⟨k, a0, a1, a2, a3, a4, a5⟩, rfl⟩

theorem rd_open {t : TypeId} (ht : Try.prog.underlying t = some (.array 6 3)) (hC : Try.prog.cellsOf t = 6) (h : DataW.trod enc Try.prog w base spare held fuel t cs = some x) :
    ∃ r : Rd, cs = [.int .i64 r.r0, .int .i64 r.r1, .int .i64 r.r2, .int .i64 r.r3, .int .i64 r.r4, .int .i64 r.r5] := by
  obtain ⟨l, hln, e2, _⟩ := nums_array ht Try.underlying3 (by kernel_rfl) hC h
  match l, hln with
  | [a0, a1, a2, a3, a4, a5], _ => exact ⟨⟨a0, a1, a2, a3, a4, a5⟩, by simpa [ints] using e2⟩

/-- A slice whose cells are known is one of given marks. -/
theorem gs_open (h : DataW.trod enc Try.prog w base spare held fuel 24 cs = some x) (hz : ∀ y ∈ x.1.weights Try.prog 24, y ≤ reachBytes) : ∃ A n c gs, cs = [.slice A n c] ∧ Gs w A n gs ∧ n ≤ c ∧ n * 56 ≤ reachBytes := by
  rcases open_slice Try.underlying24 h with ⟨rfl, _⟩ | ⟨a, len, cap, m, k, D, Pl, rfl, _, hlc, hcm, hm, hx, hel⟩
  · exact ⟨none, 0, 0, [], rfl, ⟨rfl, by omega, fun k hk => by simp at hk⟩, Nat.le_refl _, by omega⟩
  · have hlm : len ≤ m := by rw [hm]; split <;> omega
    have hsz : len * 56 ≤ reachBytes := by
      have := hz ((len + (m - len)) * Try.prog.bytesOf 30) (by rw [hx]; simp [DataW.weights, Try.underlying24])
      rw [show Try.prog.bytesOf 30 = 56 by kernel_rfl] at this
      omega
    have hrb := reachBytes_lt
    have each : ∀ i, i < len → ∃ g : Giv, ∀ j, j < 7 → w.cell? (a.add (i * 7 + j)) = [Value.int .i64 g.o, .int .i64 g.m0, .int .i64 g.m1, .int .i64 g.m2, .int .i64 g.m3, .int .i64 g.m4, .int .i64 g.m5][j]? := by
      intro i hi
      obtain ⟨cs', hc, ht⟩ := hel i (by omega)
      rw [show Try.prog.cellsOf 30 = 7 by kernel_rfl] at hc
      obtain ⟨g, rfl⟩ := giv_open ht
      obtain ⟨_, _, hat⟩ := World.cells?_some hc
      refine ⟨g, fun j hj => ?_⟩
      have := hat j hj
      rwa [Deep.add_add] at this
    obtain ⟨f, hf⟩ := choose_lt each
    refine ⟨some a, len, cap, (List.range len).map f, rfl, ⟨by simp, by omega, fun k hk => ?_⟩, hlc, hsz⟩
    have hk' : k < len := by simpa using hk
    have hg := hf k hk'
    have hsp : a.spot = none ∧ a.block < w.heap.size := by
      have h0 := hf 0 (by omega) 0 (by omega)
      simp only [Nat.zero_mul, Nat.add_zero, List.getElem?_cons_zero] at h0
      rw [show a.add 0 = a from rfl] at h0
      unfold World.cell? at h0
      split at h0
      · rename_i hh
        refine ⟨?_, (Array.getElem?_eq_some_iff.1 hh).1⟩
        cases hs : a.spot with
        | none => rfl
        | some y => rw [hs] at h0; simp at h0
      · simp at h0
    obtain ⟨b, o, s⟩ := a
    obtain ⟨rfl, hb⟩ := hsp
    refine ⟨b, o, rfl, hb, ?_⟩
    have e : ∀ q, (Addr.mk b o none).add q = ⟨b, o + q, none⟩ := fun q => Addr.add_lit ..
    simp only [e] at hg
    rw [List.getElem_map, List.getElem_range]
    exact ⟨by have := hg 0 (by omega); simpa using this, by have := hg 1 (by omega); simpa [Nat.add_assoc] using this, by have := hg 2 (by omega); simpa [Nat.add_assoc] using this, by have := hg 3 (by omega); simpa [Nat.add_assoc] using this, by have := hg 4 (by omega); simpa [Nat.add_assoc] using this, by have := hg 5 (by omega); simpa [Nat.add_assoc] using this, by have := hg 6 (by omega); simpa [Nat.add_assoc] using this⟩

/-- A mark book that came in. -/
theorem open_marks {r : Reach} {b0 : Nat} {v : Value} {d : DataW H} {p : List MemPlace} (hv : Value.okWide Try.prog w r b0 26 v) (h : DataW.Trod enc Try.prog w base spare held 26 v d p) (hz : ∀ y ∈ d.weights Try.prog 26, y ≤ reachBytes) :
    ∃ w0 w1 w2 w3 w4 F A n c gs, v = .agg #[.int .i64 w0, .int .i64 w1, .int .i64 w2, .int .i64 w3, .int .i64 w4, .int .i64 F, .slice A n c] ∧ Gs w A n gs ∧ n ≤ c ∧ n * 56 ≤ reachBytes := by
  obtain ⟨cs, rfl, hsz⟩ := okWide_struct Try.underlying26 hv
  rw [show Try.prog.cellsOf 26 = 7 by kernel_rfl] at hsz
  obtain ⟨fuel, hf⟩ := h
  obtain ⟨y0, y1, y2, n, hd, hl, h0, h1, h2⟩ := trod_struct3 Try.underlying26 hf
  have hz2 : ∀ y ∈ y2.1.weights Try.prog 24, y ≤ reachBytes := fun y hy => hz y (by
    have : d = .agg [y0.1, y1.1, y2.1] := (Prod.ext_iff.1 hd).1
    rw [this]; simp [DataW.weights, DataW.weightsEach, Try.underlying26, hy])
  dsimp only at h0 h1 h2
  rw [show Try.prog.cellsOf 23 = 5 by kernel_rfl] at h0
  rw [show Try.prog.cellsOf 3 = 1 by kernel_rfl] at h1
  rw [show Try.prog.cellsOf 24 = 1 by kernel_rfl] at h2
  obtain ⟨l, hln, e0, _⟩ := nums_array Try.underlying23 Try.underlying3 (by kernel_rfl) (by kernel_rfl) h0
  obtain ⟨k, e1, _, _⟩ := DataW.trod_int Try.underlying3 h1
  obtain ⟨A, m, c, gs, e2, hg, hmc, hcm⟩ := gs_open h2 hz2
  obtain ⟨cl⟩ := cs
  match cl, hsz with
  | [c0, c1, c2, c3, c4, c5, c6], _ =>
    match l, hln with
    | [a0, a1, a2, a3, a4], _ =>
      simp [ints, Value.cells] at e0 e1 e2
      obtain ⟨rfl, rfl, rfl, rfl, rfl⟩ := e0
      subst e1; subst e2
      exact ⟨a0, a1, a2, a3, a4, k, A, m, c, gs, rfl, hg, hmc, hcm⟩

/-- A given mark that came in. -/
theorem open_given {r : Reach} {b0 : Nat} {v : Value} {d : DataW H} {p : List MemPlace} (hv : Value.okWide Try.prog w r b0 30 v) (h : DataW.Trod enc Try.prog w base spare held 30 v d p) :
    ∃ g : Giv, v = .agg #[.int .i64 g.o, .int .i64 g.m0, .int .i64 g.m1, .int .i64 g.m2, .int .i64 g.m3, .int .i64 g.m4, .int .i64 g.m5] := by
  obtain ⟨cs, rfl, hsz⟩ := okWide_struct Try.underlying30 hv
  obtain ⟨fuel, hf⟩ := h
  obtain ⟨g, e⟩ := giv_open hf
  refine ⟨g, ?_⟩
  obtain ⟨cl⟩ := cs
  simp [Value.cells] at e
  rw [e]

theorem okWide_arr {P : Program} {t e : TypeId} {m : Nat} {r : Reach} {b0 : Nat} {v : Value} (ht : P.underlying t = some (.array m e)) (h : Value.okWide P w r b0 t v) : ∃ cs, v = .agg cs ∧ cs.size = P.cellsOf t := by
  simp only [Value.okWide, ht] at h
  obtain ⟨cs, h1, h2, _⟩ := h
  exact ⟨cs, h1, h2⟩
/-- A reading, or a mark, that came in. -/
theorem open_rd {t : TypeId} {r : Reach} {b0 : Nat} {v : Value} {d : DataW H} {p : List MemPlace} (ht : Try.prog.underlying t = some (.array 6 3)) (hC : Try.prog.cellsOf t = 6) (hv : Value.okWide Try.prog w r b0 t v) (h : DataW.Trod enc Try.prog w base spare held t v d p) :
    ∃ r : Rd, v = .agg #[.int .i64 r.r0, .int .i64 r.r1, .int .i64 r.r2, .int .i64 r.r3, .int .i64 r.r4, .int .i64 r.r5] := by
  obtain ⟨cs, rfl, hsz⟩ := okWide_arr ht hv
  obtain ⟨fuel, hf⟩ := h
  obtain ⟨r, e⟩ := rd_open ht hC hf
  refine ⟨r, ?_⟩
  obtain ⟨cl⟩ := cs
  simp [Value.cells] at e
  rw [e]
end

section
variable {H : Type} {enc : TypeId × Value → H} {P : Program}
theorem trodAll_stays (hl : laidOutB P = true) {W W' : World} (hb : Below W.heap.size W W') {sp : Nat → Bool} : ∀ {ts : List TypeId} {vs : List Value} {ds : List (DataW H)} {p : List MemPlace}, (∀ t ∈ ts, P.readableRec t = true ∧ t < P.types.size) →
    DataW.TrodAll enc P W 0 (fun _ => true) true ts vs ds p → (∀ x ∈ p, x.block < W.heap.size) → (∀ x ∈ p, sp x.block = true) → DataW.TrodAll enc P W' 0 sp true ts vs ds p
  | [], _, _, _, _, h, _, _ => by
    obtain ⟨rfl, rfl, rfl⟩ := trodAll_nil h
    exact rfl
  | t :: ts, _, _, _, hr, h, hlt, hs => by
    obtain ⟨v, vs1, d, ds1, a, b, rfl, rfl, rfl, h1, h2⟩ := trodAll_cons h
    obtain ⟨q1, q2⟩ := hr t (List.mem_cons_self ..)
    exact ⟨a, b, WideElems.Trod_stays hl q1 q2 h1 (fun x hx => hb.same (hlt x (by simp [hx]))) (fun x hx => hs x (by simp [hx])),
      trodAll_stays hl hb (fun u hu => hr u (List.mem_cons_of_mem _ hu)) h2 (fun x hx => hlt x (by simp [hx])) (fun x hx => hs x (by simp [hx])), rfl⟩

/-- A statement's end: the call returned true, and no old memory has turned. -/
theorem law_post {f : Func} {s : ChangeSpec} {W W' : World} {args : Array Value} {ds : List (DataW H)} {before : List MemPlace} {tb : TypeId} (hl : laidOutB P = true) (hb4 : P.underlying tb = some .bool) (hf : f.resultTypes = #[tb]) (hv : s.vars = [])
    (hs : s.fn H (ds ++ []) = { results := [.lit (.bool true)], args := ds }) (hr : ∀ t ∈ f.params.toList, P.readableRec t = true ∧ t < P.types.size)
    (hW : DataW.Whole enc P f.params.toList s.vars false W args.toList ds [] before) (hb : Below W.heap.size W W') : s.post enc P f false true false false W args (.bool true) W' := by
  have hlt : ∀ p ∈ before, p.block < W.heap.size := fun p hp => hW.lt p hp
  have hW' := hW
  obtain ⟨p, q, hA, hV, rfl, hz, hn⟩ := hW'
  rw [hv] at hV
  obtain ⟨_, rfl⟩ := trodVars_none hV
  rw [List.append_nil] at hW hlt hz hn
  have hres : ∀ (b : Nat) (sp : Nat → Bool) (hd : Bool), DataW.TrodAll enc P W' b sp hd f.resultTypes.toList ((Value.bool true).resultList f.resultTypes.size) (s.fn H (ds ++ [])).results [] := by
    intro b sp hd
    rw [hs, hf]
    exact trodAll_mk1 (shut_bool hb4 _)
  have hargs : ∀ sp : Nat → Bool, (∀ x ∈ p, sp x.block = true) → DataW.TrodAll enc P W' 0 sp true f.params.toList args.toList (s.fn H (ds ++ [])).args p := by
    intro sp hsp
    rw [hs]
    exact trodAll_stays hl hb hr hA hlt hsp
  have hvars : ∀ sp : Nat → Bool, DataW.TrodVars enc P W' sp s.vars (s.fn H (ds ++ [])).vars [] := by
    intro sp
    rw [hs, hv]
    exact rfl
  refine ⟨ds, [], p, [], p, [], hW, hres _ _ _, hargs _ (fun x hx => by simpa using hlt x hx), hvars _, World.keptBut_mono (fun x hx => ⟨hx, Or.inr (by simpa using hx)⟩) (hb.frame (· ∈ p)), fun _ => ?_⟩
  refine ⟨ok_one hf rfl (okWide_bool_mk hb4 _), _, _, ([] ++ p) ++ [], ⟨[] ++ p, [], trodAll_append (hargs _ (fun _ _ => rfl)) (hres _ _ _), hvars _, rfl, ?_, fun h => by cases h⟩, fun x hx _ => by simpa using hx⟩
  intro b off hp
  have hin : MemPlace.cell b off ∈ p := by simpa using hp
  rw [hb.frozen (p := ⟨b, off, none⟩) (hlt _ hin)]
  exact hz b off hin
end

/-- A block holds these cells. -/
structure Bk (w : World) (b : Nat) (cs : List Value) : Prop where
  lt : b < w.heap.size
  get : ∀ j, w.cell? ⟨b, j, none⟩ = cs[j]?
theorem Bk.keep {w w' : World} {b : Nat} {cs : List Value} (h : Bk w b cs) (hb : Below w.heap.size w w') : Bk w' b cs :=
  ⟨Nat.lt_of_lt_of_le h.lt hb.size, fun j => (hb.cell (p := ⟨b, j, none⟩) h.lt).trans (h.get j)⟩
end Go.Proofs.Ytpahbpgkmebieaa
