/- Contracts of functions of the program and of the reference, and plain facts: a part of a proof. Own text. -/
import Derived.Test.YtbieopkohkomoaaJe
import Derived.OrdersHeld
import Derived.IntWalk
import Derived.Deep.AppendLies
set_option linter.unusedVariables false
set_option linter.unusedSimpArgs false
set_option linter.unusedSectionVars false
namespace Go.Proofs.Ytbieopkohkomoaa
open Go Go.RowKit

section takes
variable {P : Program} {ops : Array Oper} {md : Region.Mode} {S : World → Prop} {Q : Exit → Act → World → Prop} {n : Nat}

/-- Whatever order is picked; S holds behind each operation of the head. -/
def wpAnyT (P : Program) (md : Region.Mode) (ops : Array Oper) (Q : Exit → Act → World → Prop) (S : World → Prop) (n : Nat) : Nat → Array Bool → Act → World → Prop
  | 0, listed, a, w => Region.ready md ops listed = [] ∧ Q .normal a w
  | fuel + 1, listed, a, w =>
    (Region.ready md ops listed = [] → Q .normal a w) ∧
    ∀ i ∈ Region.ready md ops listed, wpOp P ops Q i (fun a' w' => (i < n → S w') ∧ wpAnyT P md ops Q S n fuel (listed.setIfInBounds i true) a' w') a w

theorem wpAny_of_T : ∀ (fuel : Nat) (listed : Array Bool) (a : Act) (w : World), wpAnyT P md ops Q S n fuel listed a w → wpAny P md ops Q fuel listed a w
  | 0, _, _, _, h => h
  | fuel + 1, _, _, _, h => ⟨h.1, fun i hi => wpOp_mono (fun a' w' h' => wpAny_of_T fuel _ a' w' h'.2) (h.2 i hi)⟩

theorem wpAnyT_of (fuel : Nat) : ∀ (listed : Array Bool) (a : Act) (w : World), (∀ i, i < n → listed.getD i true = true) → wpAny P md ops Q fuel listed a w → wpAnyT P md ops Q S n fuel listed a w := by
  induction fuel with
  | zero => intro _ _ _ _ h; exact h
  | succ fuel ih =>
    intro listed a w hl h
    refine ⟨h.1, fun i hi => wpOp_mono (fun a' w' h' => ⟨fun hin => ?_, ih _ a' w' (fun j hj => ?_) h'⟩) (h.2 i hi)⟩
    · have := (mem_ready.1 hi).1
      rw [hl i hin] at this
      cases this
    · by_cases hij : i = j
      · subst hij
        by_cases hs : i < listed.size
        · simp [Array.getD, hs]
        · simp [Array.getD, hs]
      · rw [getD_set_ne true hij]; exact hl j hj

theorem wpAnyT_first {i : Nat} {oi : Oper} {v : Value} (hi : ops[i]? = some oi) (hsel : ∀ (j : Nat) (o : Oper) cs b, ops[j]? = some o → o.op ≠ .select cs b)
    (hs : Region.sinkB md ops n = true) (hc : Region.chainB md ops n = true) (hn : n < ops.size) (hin : i < n)
    (hQ : ∀ c a w, Q (.panic c) (a.put oi.dst v) w → Q (.panic c) a w) :
    ∀ (fuel : Nat) (listed : Array Bool) (a : Act) (w : World), HeadInv md ops n listed →
      (∀ j oj, ops[j]? = some oj → j ≠ i → listed.getD j true = false → (∀ e ∈ oj.after, Region.binds md e = true → e.on ≠ i) → oi.apart ops oj = true) →
      i ∈ Region.ready md ops listed → YieldsIf P ops S oi v a → S w →
      wpAnyT P md ops Q S n fuel (listed.setIfInBounds i true) (a.put oi.dst v) w → wpAnyT P md ops Q S n (fuel + 1) listed a w := by
  intro fuel
  induction fuel with
  | zero =>
    intro listed a w _ _ hr hy hS H
    refine ⟨fun h => (by rw [h] at hr; cases hr), fun j hj => ?_⟩
    by_cases hji : j = i
    · subst hji; exact hy.wpOp hi hS ⟨fun _ => hS, H⟩
    · have := ready_mono hj hji
      rw [H.1] at this
      cases this
  | succ fuel ih =>
    intro listed a w inv hfree hr hy hS H
    refine ⟨fun h => (by rw [h] at hr; cases hr), fun j hj => ?_⟩
    by_cases hji : j = i
    · subst hji; exact hy.wpOp hi hS ⟨fun _ => hS, H⟩
    · have hjn : j < n := by
        rcases Nat.lt_or_ge j n with h | h
        · exact h
        · exact absurd hj (tail_waits hs hc hn inv _ i rfl hin (mem_ready.1 hr).1 j h)
      have h1 := H.2 j (ready_mono hj hji)
      obtain ⟨hjun, oj, hoj, hall⟩ := mem_ready.1 hj
      have hnot : ∀ e ∈ oj.after, Region.binds md e = true → e.on ≠ i := fun e he hb heq => by
        have h1 := hall e he hb
        rw [heq, getD_both (mem_ready.1 hr).1] at h1
        cases h1
      have h2 := wpOp_putIf hoj (hfree j oj hoj hji hjun hnot) (fun cs b => hsel i oi cs b hi) (fun cs b => hsel j oj cs b hoj) hQ hy h1
      have hfree' : ∀ k ok, ops[k]? = some ok → k ≠ i → (listed.setIfInBounds j true).getD k true = false →
          (∀ e ∈ ok.after, Region.binds md e = true → e.on ≠ i) → oi.apart ops ok = true := fun k ok hk hki hun hno => by
        refine hfree k ok hk hki ?_ hno
        by_cases hjk : j = k
        · subst hjk; exact hjun
        · rw [getD_set_ne true hjk] at hun; exact hun
      refine wpOp_mono (fun a' w' h3 => ⟨fun _ => h3.2.1 hjn, ih (listed.setIfInBounds j true) a' w' (inv.set hj hjn) hfree' (ready_mono hr (Ne.symm hji)) h3.1 (h3.2.1 hjn) ?_⟩) h2
      rw [Array.setIfInBounds_comm _ _ hji]
      exact h3.2.2

/-- Each of these operations yields a value, in whatever world of S; then G. -/
def wpTakes (P : Program) (ops : Array Oper) (S : World → Prop) (G : Act → Prop) : List Nat → Act → Prop
  | [], a => G a
  | i :: l, a => ∃ o, ops[i]? = some o ∧ ∃ v, YieldsIf P ops S o v a ∧ wpTakes P ops S G l (a.put o.dst v)

theorem wpTakes_step {G : Act → Prop} {i : Nat} {l : List Nat} {a : Act} {o : Oper} {v : Value} (ho : ops[i]? = some o) (hw : Region.wanted o (yielded ops a.tmps) = true)
    (hy : ∀ w, S w → (execOp a.eval o).run P w = .ok (.value v) w) (h : wpTakes P ops S G l (a.put o.dst v)) : wpTakes P ops S G (i :: l) a := ⟨o, ho, v, .inl ⟨hw, hy⟩, h⟩

/-- They may be taken in this order. -/
def takesB (md : Region.Mode) (ops : Array Oper) (n : Nat) : List Nat → Array Bool → Bool
  | [], _ => true
  | i :: r, listed => decide (i < n) && (Region.free md ops listed i && ((Region.ready md ops listed).contains i && takesB md ops n r (listed.setIfInBounds i true)))
def marks (is : List Nat) (listed : Array Bool) : Array Bool := is.foldl (fun l i => l.setIfInBounds i true) listed

theorem wpAnyT_takes (hsel : Region.noSelect ops = true) (hs : Region.sinkB md ops n = true) (hc : Region.chainB md ops n = true) (hn : n < ops.size) (hQ : ∀ d v c a w, Q (.panic c) (a.put d v) w → Q (.panic c) a w)
    {G : Act → Prop} (is : List Nat) : ∀ (listed : Array Bool) (a : Act) (w : World) (fuel : Nat), takesB md ops n is listed = true → HeadInv md ops n listed → S w →
    wpTakes P ops S G is a → (∀ a', G a' → HeadInv md ops n (marks is listed) → wpAnyT P md ops Q S n fuel (marks is listed) a' w) → wpAnyT P md ops Q S n (fuel + is.length) listed a w := by
  induction is with
  | nil =>
    intro listed a w fuel _ inv _ h H
    exact H a h inv
  | cons i r ih =>
    intro listed a w fuel hB inv hS h H
    obtain ⟨o, ho, v, hy, h2⟩ := h
    simp only [takesB, Bool.and_eq_true, decide_eq_true_eq] at hB
    obtain ⟨hin, hf, hr, hB2⟩ := hB
    have hr' : i ∈ Region.ready md ops listed := by simpa using hr
    exact wpAnyT_first ho (Region.noSelect_spec hsel) hs hc hn hin (hQ _ _) _ listed a w inv (Region.free_spec ho hf) hr' hy hS
      (ih _ _ w fuel hB2 (inv.set hr' hin) hS h2 H)

/-- An operation that makes memory of its own. -/
def Makes (P : Program) (o : Oper) : Prop := ∀ (a : Act) (w : World), (∃ v w', (execOp (Act.eval a) o).run P w = .ok (.value v) w' ∧ Below w.heap.size w w') ∨ ∃ x w', (execOp (Act.eval a) o).run P w = .halt x w'
theorem Makes.wp {o : Oper} {a : Act} {w : World} {K : Act → World → Prop} (hm : Makes P o) (h : o.wp P a w K Q) : o.wp P a w (fun a' w' => Below w.heap.size w w' ∧ K a' w') Q := by
  unfold Oper.wp at *
  rcases hm a w with ⟨v, w', hr, hb⟩ | ⟨x, w', hr⟩
  · rw [hr] at h ⊢; exact ⟨hb, h⟩
  · rw [hr] at h ⊢
    cases x <;> first | exact h | exact h.elim
/-- One that makes memory, alone at its time. -/
theorem wpAnyT_one {b : World} {i fuel : Nat} {listed : Array Bool} {a : Act} {w : World} {o : Oper} {rest : List Oper} (hi : ops[i]? = some o) (hr : Region.ready md ops listed = [i]) (hg : o.guard = none) (hm : Makes P o) (hw : grown b w)
    (hT : ∀ a' w', wpList P ops Q rest a' w' → wpAnyT P md ops Q (grown b) n fuel (listed.setIfInBounds i true) a' w')
    (h : wpList P ops Q (o :: rest) a w) : wpAnyT P md ops Q (grown b) n (fuel + 1) listed a w := by
  refine ⟨fun h0 => absurd (hr.symm.trans h0) (by simp), fun j hj => ?_⟩
  rw [hr] at hj
  obtain rfl : j = i := by simpa using hj
  unfold wpList at h
  unfold wpOp
  simp only [hi, Region.wanted, hg, if_true] at h ⊢
  rcases h with h | h
  · refine .inl (Oper.wp_mono (fun a'' w'' h2 => ⟨fun _ => ?_, hT _ _ h2.2⟩) (hm.wp h))
    obtain ⟨z, rfl⟩ := hw
    obtain ⟨y, rfl⟩ := below_grow h2.1
    exact grow_grow b z y
  · exact .inr h
end takes

/-- A slice that is laid: a new block, or an end. -/
theorem buildSlice_run {P : Program} {t e : TypeId} {i : TypeInfo} {z : Value} (ht : P.underlying t = some (.slice e)) (hi : P.info? e = some i) (hz : i.zero = some z) (len : Nat) (parts : Array (Nat × Value)) (w : World) (h24 : len * i.size ≤ 16777216) :
    (∃ v o, (Instr.buildSlice t len parts).run P w = .ok v (w.alloc o)) ∨ ∃ x w', (Instr.buildSlice t len parts).run P w = .halt x w' := by
  have h24' : ¬ (16777216 < len * i.size) := by omega
  by_cases h0 : len * i.size = 0 <;>
  · simp [Instr.buildSlice, run_underlying ht, sizeOf, typeInfo, hi, zeroValue, hz, h24', h0]
    split
    · left; exact ⟨_, _, rfl⟩
    · right; exact ⟨_, _, rfl⟩

theorem makes_slice {P : Program} {t e : TypeId} {i : TypeInfo} {z : Value} (ht : P.underlying t = some (.slice e)) (hi : P.info? e = some i) (hz : i.zero = some z) {len : Nat} {parts : Array (Nat × Operand)} {o : Oper} (ho : o.op = .buildSlice t len parts) (h24 : len * i.size ≤ 16777216) : Makes P o := by
  intro a w
  have e : execOp (Act.eval a) o = (do let r ← Instr.buildSlice t len (parts.map fun (i, x) => (i, a.eval x)); pure (.value r)) := by
    unfold execOp; simp only [ho]
  rw [e]
  rcases buildSlice_run ht hi hz len (parts.map fun (i, x) => (i, a.eval x)) w h24 with ⟨v, ob, hr⟩ | ⟨x, w', hr⟩
  · left; exact ⟨v, w.alloc ob, by simp only [Sem.run_bind, hr, Result.andThen_ok, Sem.run_pure], up_alloc _ _⟩
  · right; exact ⟨x, w', by simp only [Sem.run_bind, hr]; rfl⟩

/-- THE RULE: 'is' are taken first (they read worlds grown out of w); then number m makes a block; the rest comes in its one order from n on. -/
theorem wp_region_takes {P : Program} {id : Nat} {Q : Exit → Act → World → Prop} {a : Act} {w : World} {l : List Oper} (n m : Nat) (is : List Nat) (om : Oper) (hmo : P.follows .mixedOrders = true)
    (hsel : Region.noSelect l.toArray = true) (hs : Region.sinkB .any l.toArray n = true) (hc : Region.chainB .any l.toArray n = true) (hn : n < l.length) (hmn : m < n)
    (hQ : ∀ d v c a w, Q (.panic c) (a.put d v) w → Q (.panic c) a w)
    (hB : takesB .any l.toArray n is (Array.replicate l.length false) = true) (hm : l[m]? = some om) (hgm : om.guard = none)
    (hrm : Region.ready .any l.toArray (marks is (Array.replicate l.length false)) = [m]) (hall : (List.range n).all (fun i => (marks (is ++ [m]) (Array.replicate l.length false)).getD i true) = true)
    (hseq : Region.seqB .any l.toArray (l.length - n) n (marks (is ++ [m]) (Array.replicate l.length false)) = true) (hlen : l.length = (l.length - n) + 1 + is.length)
    (hmk : Makes P om) (h : wpTakes P l.toArray (grown w) (fun a' => wpList P l.toArray Q (om :: l.drop n) a' w.drew) is a) : (Code.region id l.toArray true).wp P Q a w := by
  refine wp_region_any hmo ?_
  refine wpAny_of_T (S := grown w) (n := n) _ _ _ _ ?_
  have inv0 : HeadInv .any l.toArray n (Array.replicate l.length false) :=
    { size := by simp
      closed := fun j oj _ hl => by rw [getD_replicate_false] at hl; cases hl
      tail := fun t _ ht => getD_in (by simpa using ht) (getD_replicate_false _ _) }
  have hw0 : grown w { w with drawn := w.drawn + 1 } := ⟨⟨#[], w.drawn + 1⟩, by simp [grow]⟩
  have key := wpAnyT_takes (P := P) (Q := Q) (S := grown w) (md := .any) hsel hs hc (by simpa using hn) hQ is (Array.replicate l.length false) a { w with drawn := w.drawn + 1 } ((l.length - n) + 1) hB inv0 hw0 h
    (fun a' hG _ => by
      refine wpAnyT_one (o := om) (by simpa using hm) hrm hgm hmk hw0 (fun a'' w'' h2 => ?_) hG
      have e : marks (is ++ [m]) (Array.replicate l.length false) = (marks is (Array.replicate l.length false)).setIfInBounds m true := by simp [marks, List.foldl_append]
      rw [← e]
      refine wpAnyT_of _ _ _ _ (fun i hi => by have := List.all_eq_true.1 hall i (List.mem_range.2 hi); exact this) ?_
      have := wpAny_of_seq (md := .any) (ops := l.toArray) (Q' := Q) (l.drop n) n (marks (is ++ [m]) (Array.replicate l.length false)) a'' w'' (fun j => by simp [List.getElem?_drop]) (by rw [List.length_drop]; exact hseq) h2
      rwa [List.length_drop] at this)
  rw [← hlen] at key
  simpa using key
end Go.Proofs.Ytbieopkohkomoaa

namespace Go.Proofs.Ytbieopkohkomoaa
open Go Go.RowKit
set_option maxHeartbeats 400000
set_option maxRecDepth 100000

set_option maxHeartbeats 1600000 in
theorem with_any (w0 w1 w2 w3 w4 F : Int) (A : Option Addr) (n c : Nat) (gs : List Giv) (g : Giv) (w : World) (hg : Gs w A n gs) (hnc : n ≤ c) (h40 : n ≤ 40) :
    Calls Try.prog 90 #[.agg #[.int .i64 w0, .int .i64 w1, .int .i64 w2, .int .i64 w3, .int .i64 w4, .int .i64 F, .slice A n c], .agg #[.int .i64 g.o, .int .i64 g.m0, .int .i64 g.m1, .int .i64 g.m2, .int .i64 g.m3, .int .i64 g.m4, .int .i64 g.m5]] w fun e w' =>
      ∃ B k c', e = .returned (.agg #[.int .i64 w0, .int .i64 w1, .int .i64 w2, .int .i64 w3, .int .i64 w4, .int .i64 F, .slice B k c']) ∧ k ≤ c' ∧ w'.ownsRow w.heap.size 30 7 (.slice B k c') k (gcells (insG g gs)) ∧ Below w.heap.size w w' := by
  have Hl : Hid (n = gs.length) := Lib.hid hg.len
  obtain ⟨i0, hi, hz0, hz1, hz2⟩ := info_parts info30
  have HI0 := Lib.hid hi
  have HZ0 := Lib.hid hz0
  have HZ1 := Lib.hid hz1
  clear hi hz0 hz1 hz2
  go_enter Try.func90, Try.ntmps90
  go_wp2_with fail
  generalize hW : (World.alloc _ _) = W
  have HW : Hid (Below w.heap.size w W) := Lib.hid (by subst hW; go_grown)
  have KM : Bk W w.heap.size [.int .i64 w0, .int .i64 w1, .int .i64 w2, .int .i64 w3, .int .i64 w4, .int .i64 F, .slice A n c] := ⟨by subst hW; simp only [World.size_alloc]; omega, by subst hW; intro j; simp [go_sem]⟩
  have KG : Bk W (w.heap.size + 1) [.int .i64 g.o, .int .i64 g.m0, .int .i64 g.m1, .int .i64 g.m2, .int .i64 g.m3, .int .i64 g.m4, .int .i64 g.m5] := ⟨by subst hW; simp only [World.size_alloc]; omega, by subst hW; intro j; simp [go_sem]⟩
  have FM : Hid (∀ j, W.frozen? ⟨w.heap.size, j, none⟩ = false) := Lib.hid (by subst hW; intro j; simp [go_sem])
  have FX : Hid (∀ j, W.frozen? ⟨w.heap.size + 2, j, none⟩ = false) := Lib.hid (by subst hW; intro j; simp [go_sem])
  have KX : Bk W (w.heap.size + 2) [.int .i64 0, .int .i64 0, .int .i64 0, .int .i64 0, .int .i64 0, .int .i64 0, .slice none 0 0] := ⟨by subst hW; simp only [World.size_alloc]; omega, by subst hW; intro j; simp [go_sem]⟩
  clear hW
  have HG := Lib.hid (hg.keep HW.out)
  clear hg
  go_loopw [5] (fun i wr => ∃ (k : Nat) (z : Gr), k ≤ n ∧ i = .int .i64 k ∧ wr = grow W z ∧ ∀ j (hj : j < gs.length), j < k → gs[j].o < g.o) (fun i _ => n - (intOf i).toNat)
  case atStart => exact ⟨0, ⟨#[], W.drawn⟩, by omega, rfl, by simp [grow], fun j _ h => absurd h (by omega)⟩
  case round =>
    obtain ⟨k, z, hk, rfl, rfl, hall⟩ := hrel
    have Hall := Lib.hid hall; clear hall
    have HbY := Lib.hid (grow_below W z)
    have KM1 := KM.keep HbY.out
    have KG1 := KG.keep HbY.out
    by_cases hgo : ∃ hlt : k < gs.length, gs[k].o < g.o
    · obtain ⟨hlt, hlo⟩ := hgo
      have hkn : k < n := by rw [Hl.out]; exact hlt
      have Hlo := Lib.hid hlo
      have Hlt := Lib.hid hlt
      obtain ⟨bg, og, rfl, hbg, hga⟩ := HG.out.get k hlt
      have hnx : ∀ j (hj : j < gs.length), j < k + 1 → gs[j].o < g.o := fun j hj hjk => by
        by_cases h : j < k
        · exact Hall.out j hj h
        · have : j = k := by omega
          subst this; exact hlo
      have Hnx := Lib.hid hnx
      clear hnx
      generalize gs[k] = x at *
      clear hlt
      obtain ⟨a0', a1', a2', a3', a4', a5', a6'⟩ := hga
      have KM1l := KM1.lt; have KM1c := KM1.get; have KG1l := KG1.lt; have KG1c := KG1.get
      have e5 : bg < W.heap.size + z.blocks.size := by omega
      have e0 := KM.lt
      have e1 := KG.lt
      have hd1 : decide ((k : Int) < (n : Int)) = true := by simpa using hkn
      have hd2 : decide (x.o < g.o) = true := by simpa using Hlo.out
      clear hlo
      go_wp2
      clear KM1l KM1c KG1l KG1c
      have KMc := KM.get
      have KGc := KG.get
      refine wp_region_grow (by kernel_rfl) (by kernel_rfl) ?_
      repeat (go_big_quiet_step ((fail)))
      refine wpQuiet_nil ?_
      intro z1
      obtain ⟨y1, hy1⟩ := grow_grow W z z1
      rw [hy1]
      clear hy1
      go_wp2
      exact ⟨⟨k + 1, y1, by omega, by go_num, rfl, Hnx.out⟩, by simp [intOf]; omega⟩
    · have hend : ∀ hlt : k < gs.length, ¬ gs[k].o < g.o := fun h1 h2 => hgo ⟨h1, h2⟩
      have Hend := Lib.hid hend
      have HI : Hid (insG g gs = gs.take k ++ [g] ++ gs.drop k) := Lib.hid (ins_at gs k Hall.out hend (by rw [← Hl.out]; exact hk))
      clear hgo
      rcases Nat.lt_or_ge k n with hkn | hkn
      · have hlt : k < gs.length := by rw [← Hl.out]; exact hkn
        have Hn := Lib.hid (hend hlt)
        obtain ⟨bg, og, hAe, hbg, hga⟩ := HG.out.get k hlt
        have HAe := Lib.hid hAe
        subst hAe
        generalize gs[k] = x at *
        clear hlt hend
        obtain ⟨a0', a1', a2', a3', a4', a5', a6'⟩ := hga
        have KM1l := KM1.lt; have KM1c := KM1.get; have KG1l := KG1.lt; have KG1c := KG1.get
        have e5 : bg < W.heap.size + z.blocks.size := by omega
        have e0 := KM.lt
        have e1 := KG.lt
        have hd1 : decide ((k : Int) < (n : Int)) = true := by simpa using hkn
        have hd2 : decide (x.o < g.o) = false := by simpa using Hn.out
        go_wp2
        clear KM1l KM1c KG1l KG1c
        have KMc := KM.get
        have KGc := KG.get
        refine wp_region_grow (by kernel_rfl) (by kernel_rfl) ?_
        repeat (go_big_quiet_step ((fail)))
        refine wpQuiet_nil ?_
        intro z1
        obtain ⟨y1, hy1⟩ := grow_grow W z z1
        rw [hy1]
        clear hy1 a0' a1' a2' a3' a4' a5' a6' hd1 hd2
        go_wp2
        clear HAe hbg e5
        generalize hA : some (⟨bg, og, none⟩ : Addr) = A at *
        clear hA
        clear KMc KGc
        have Hy := Lib.hid hkn
        clear hkn
        have HbV := Lib.hid (grow_below W y1)
        generalize grow W y1 = V at *
        have KM2 := KM.keep HbV.out
        have KG2 := KG.keep HbV.out
        have KX2 := KX.keep HbV.out
        have FM2 : ∀ j, V.frozen? ⟨w.heap.size, j, none⟩ = false := fun j => (HbV.out.frozen (p := ⟨w.heap.size, j, none⟩) KM.lt).trans (FM.out j)
        have FX2 : ∀ j, V.frozen? ⟨w.heap.size + 2, j, none⟩ = false := fun j => (HbV.out.frozen (p := ⟨w.heap.size + 2, j, none⟩) KX.lt).trans (FX.out j)
        have HFM2 := Lib.hid FM2
        have HFX2 := Lib.hid FX2
        have HKM2 := Lib.hid KM2
        have HKX2 := Lib.hid KX2
        have HGV := Lib.hid (HG.out.keep HbV.out)
        have i0 : (0 : Int) ≤ (k : Int) := by omega
        have i1 : (k : Int) ≤ (n : Int) := by omega
        have i2 : (k : Int) ≤ (c : Int) := by omega
        have i3 : (n : Int) ≤ (c : Int) := by omega
        have l0 := KM2.lt
        have l1 := KG2.lt
        have l2 := KX2.lt
        have c6 : V.cell? ⟨w.heap.size, 6, none⟩ = some (.slice A n c) := KM2.get 6
        have g0 : V.cell? ⟨w.heap.size + 1, 0, none⟩ = some (.int .i64 g.o) := KG2.get 0
        have g1 : V.cell? ⟨w.heap.size + 1, 1, none⟩ = some (.int .i64 g.m0) := KG2.get 1
        have g2 : V.cell? ⟨w.heap.size + 1, 2, none⟩ = some (.int .i64 g.m1) := KG2.get 2
        have g3 : V.cell? ⟨w.heap.size + 1, 3, none⟩ = some (.int .i64 g.m2) := KG2.get 3
        have g4 : V.cell? ⟨w.heap.size + 1, 4, none⟩ = some (.int .i64 g.m3) := KG2.get 4
        have g5 : V.cell? ⟨w.heap.size + 1, 5, none⟩ = some (.int .i64 g.m4) := KG2.get 5
        have g6 : V.cell? ⟨w.heap.size + 1, 6, none⟩ = some (.int .i64 g.m5) := KG2.get 6
        clear KM2 KG2 KX2 e0 e1 KM1 KG1 FM2 FX2
        obtain ⟨A2, hA2, hd⟩ : ∃ A2, (if c = k then A else Option.map (fun x => x.add (k * 7)) A) = A2 ∧ Gs V A2 (n - k) (gs.drop k) := ⟨_, rfl, HGV.out.drop hk hnc⟩
        have HA2 := Lib.hid hA2
        have Hd := Lib.hid hd
        clear hA2 hd
        refine wp_region_takes 10 5 [0,1,2,3,4,6,7,8,9] _ (by kernel_rfl) (by kernel_rfl) (by kernel_rfl) (by kernel_rfl) (by decide) (by decide) (fun d _ _ _ _ h => by cases d <;> exact h) (by kernel_rfl) rfl rfl (by kernel_rfl) (by kernel_rfl) (by kernel_rfl) rfl (makes_slice Try.underlying24 HI0.out HZ0.out rfl (by rw [HZ1.out]; decide)) ?_
        refine wpTakes_step (v := ?_) rfl (by rfl) ?_ ?_
        rotate_left
        · (rintro _ ⟨z9, rfl⟩; go_simp; try (with_reducible rfl))
        simp only [Act.put, List.setIfInBounds_toArray, List.set_cons_zero, List.set_cons_succ]
        refine wpTakes_step (v := ?_) rfl (by rfl) ?_ ?_
        rotate_left
        · (rintro _ ⟨z9, rfl⟩; go_simp; try (with_reducible rfl))
        simp only [Act.put, List.setIfInBounds_toArray, List.set_cons_zero, List.set_cons_succ]
        refine wpTakes_step (v := ?_) rfl (by rfl) ?_ ?_
        rotate_left
        · (rintro _ ⟨z9, rfl⟩; go_simp; try (with_reducible rfl))
        simp only [Act.put, List.setIfInBounds_toArray, List.set_cons_zero, List.set_cons_succ]
        refine wpTakes_step (v := ?_) rfl (by rfl) ?_ ?_
        rotate_left
        · (rintro _ ⟨z9, rfl⟩; go_simp; try (with_reducible rfl))
        simp only [Act.put, List.setIfInBounds_toArray, List.set_cons_zero, List.set_cons_succ]
        refine wpTakes_step (v := ?_) rfl (by rfl) ?_ ?_
        rotate_left
        · (rintro _ ⟨z9, rfl⟩; go_simp; try (with_reducible rfl))
        simp only [Act.put, List.setIfInBounds_toArray, List.set_cons_zero, List.set_cons_succ]
        refine wpTakes_step (v := ?_) rfl (by rfl) ?_ ?_
        rotate_left
        · (rintro _ ⟨z9, rfl⟩; go_simp; try (with_reducible rfl))
        simp only [Act.put, List.setIfInBounds_toArray, List.set_cons_zero, List.set_cons_succ]
        refine wpTakes_step (v := ?_) rfl (by rfl) ?_ ?_
        rotate_left
        · (rintro _ ⟨z9, rfl⟩; go_simp; try (with_reducible rfl))
        simp only [Act.put, List.setIfInBounds_toArray, List.set_cons_zero, List.set_cons_succ]
        refine wpTakes_step (v := ?_) rfl (by rfl) ?_ ?_
        rotate_left
        · (rintro _ ⟨z9, rfl⟩; go_simp; try (with_reducible rfl))
        simp only [Act.put, List.setIfInBounds_toArray, List.set_cons_zero, List.set_cons_succ]
        refine wpTakes_step (v := ?_) rfl (by rfl) ?_ ?_
        rotate_left
        · (rintro _ ⟨z9, rfl⟩; go_simp; try (with_reducible rfl))
        simp only [Act.put, List.setIfInBounds_toArray, List.set_cons_zero, List.set_cons_succ]
        simp only [wpTakes, List.drop_succ_cons, List.drop_zero, HA2.out]
        clear c6 g0 g1 g2 g3 g4 g5 g6
        go_wp2_with (go_at_call 92; refine (concat3 g HGV.out hk Hd.out h40 HI.out).mono ?_; rintro e x2 ⟨B, k', c', rfl, hkc, hown, hbV⟩; have Hown := Lib.hid hown; have HbX := Lib.hid hbV; have frx : x2.frozen? ⟨w.heap.size, 6, none⟩ = false := (hbV.frozen (p := ⟨w.heap.size, 6, none⟩) l0).trans (HFM2.out 6); have KMx := HKM2.out.keep hbV; have KXx := HKX2.out.keep hbV; have KMc := KMx.get; have KXc := KXx.get; have frX : ∀ j, x2.frozen? ⟨w.heap.size + 2, j, none⟩ = false := fun j => (hbV.frozen (p := ⟨w.heap.size + 2, j, none⟩) l2).trans (HFX2.out j); clear hown hbV)
        have hlen : (insG g gs).length ≤ 100000 := by rw [ins_len]; have := Hl.out; omega
        have P := put7 (x2.setCell ⟨w.heap.size, 6, none⟩ (.slice B k' c')) (w.heap.size + 1 + 1) (.int .i64 w0) (.int .i64 w1) (.int .i64 w2) (.int .i64 w3) (.int .i64 w4) (.int .i64 F) (.slice B k' c') (bk_some (bk_other KXx (by omega) _))
        have O := own_put7 (w := (x2.setCell ⟨w.heap.size, 6, none⟩ (.slice B k' c'))) (own_set Hown.out w.heap.size 6 (by omega) _) (b := w.heap.size + 1 + 1) (by omega) (.int .i64 w0) (.int .i64 w1) (.int .i64 w2) (.int .i64 w3) (.int .i64 w4) (.int .i64 F) (.slice B k' c')
        have BB := put7_below (w := (x2.setCell ⟨w.heap.size, 6, none⟩ (.slice B k' c'))) ((up HW.out (up HbV.out HbX.out)).setCell (Nat.le_refl _) _) (by omega : _ ≤ w.heap.size + 1 + 1) (.int .i64 w0) (.int .i64 w1) (.int .i64 w2) (.int .i64 w3) (.int .i64 w4) (.int .i64 F) (.slice B k' c')
        generalize World.setCell _ ⟨w.heap.size + 1 + 1, 6, none⟩ _ = U at P O BB ⊢
        have p0 := P 0 (by omega); have p1 := P 1 (by omega); have p2 := P 2 (by omega); have p3 := P 3 (by omega); have p4 := P 4 (by omega); have p5 := P 5 (by omega); have p6 := P 6 (by omega)
        clear P
        simp at p0 p1 p2 p3 p4 p5 p6
        refine bodyPost_ret (v := .agg #[.int .i64 w0, .int .i64 w1, .int .i64 w2, .int .i64 w3, .int .i64 w4, .int .i64 F, .slice B k' c']) (by simp [results, Try.results90, go_sem, p0, p1, p2, p3, p4, p5, p6]) rfl ?_
        clear p0 p1 p2 p3 p4 p5 p6
        exact ⟨B, k', c', rfl, hkc, own_mono O (by omega), BB⟩
      · clear hend
        have KM1l := KM1.lt; have KM1c := KM1.get; have KG1l := KG1.lt; have KG1c := KG1.get
        have e0 := KM.lt
        have e1 := KG.lt
        have hd1 : decide (k < n) = false := by simpa using hkn
        go_wp2
        clear KM1l KM1c KG1l KG1c
        have KMc := KM.get
        have KGc := KG.get
        refine wp_region_grow (by kernel_rfl) (by kernel_rfl) ?_
        repeat (go_big_quiet_step ((fail)))
        refine wpQuiet_nil ?_
        intro z1
        obtain ⟨y1, hy1⟩ := grow_grow W z z1
        rw [hy1]
        clear hy1 hd1
        go_wp2
        clear KMc KGc
        have Hy := Lib.hid hkn
        clear hkn
        have HbV := Lib.hid (grow_below W y1)
        generalize grow W y1 = V at *
        have KM2 := KM.keep HbV.out
        have KG2 := KG.keep HbV.out
        have KX2 := KX.keep HbV.out
        have FM2 : ∀ j, V.frozen? ⟨w.heap.size, j, none⟩ = false := fun j => (HbV.out.frozen (p := ⟨w.heap.size, j, none⟩) KM.lt).trans (FM.out j)
        have FX2 : ∀ j, V.frozen? ⟨w.heap.size + 2, j, none⟩ = false := fun j => (HbV.out.frozen (p := ⟨w.heap.size + 2, j, none⟩) KX.lt).trans (FX.out j)
        have HFM2 := Lib.hid FM2
        have HFX2 := Lib.hid FX2
        have HKM2 := Lib.hid KM2
        have HKX2 := Lib.hid KX2
        have HGV := Lib.hid (HG.out.keep HbV.out)
        have i0 : (0 : Int) ≤ (k : Int) := by omega
        have i1 : (k : Int) ≤ (n : Int) := by omega
        have i2 : (k : Int) ≤ (c : Int) := by omega
        have i3 : (n : Int) ≤ (c : Int) := by omega
        have l0 := KM2.lt
        have l1 := KG2.lt
        have l2 := KX2.lt
        have c6 : V.cell? ⟨w.heap.size, 6, none⟩ = some (.slice A n c) := KM2.get 6
        have g0 : V.cell? ⟨w.heap.size + 1, 0, none⟩ = some (.int .i64 g.o) := KG2.get 0
        have g1 : V.cell? ⟨w.heap.size + 1, 1, none⟩ = some (.int .i64 g.m0) := KG2.get 1
        have g2 : V.cell? ⟨w.heap.size + 1, 2, none⟩ = some (.int .i64 g.m1) := KG2.get 2
        have g3 : V.cell? ⟨w.heap.size + 1, 3, none⟩ = some (.int .i64 g.m2) := KG2.get 3
        have g4 : V.cell? ⟨w.heap.size + 1, 4, none⟩ = some (.int .i64 g.m3) := KG2.get 4
        have g5 : V.cell? ⟨w.heap.size + 1, 5, none⟩ = some (.int .i64 g.m4) := KG2.get 5
        have g6 : V.cell? ⟨w.heap.size + 1, 6, none⟩ = some (.int .i64 g.m5) := KG2.get 6
        clear KM2 KG2 KX2 e0 e1 KM1 KG1 FM2 FX2
        obtain ⟨A2, hA2, hd⟩ : ∃ A2, (if c = k then A else Option.map (fun x => x.add (k * 7)) A) = A2 ∧ Gs V A2 (n - k) (gs.drop k) := ⟨_, rfl, HGV.out.drop hk hnc⟩
        have HA2 := Lib.hid hA2
        have Hd := Lib.hid hd
        clear hA2 hd
        refine wp_region_takes 10 5 [0,1,2,3,4,6,7,8,9] _ (by kernel_rfl) (by kernel_rfl) (by kernel_rfl) (by kernel_rfl) (by decide) (by decide) (fun d _ _ _ _ h => by cases d <;> exact h) (by kernel_rfl) rfl rfl (by kernel_rfl) (by kernel_rfl) (by kernel_rfl) rfl (makes_slice Try.underlying24 HI0.out HZ0.out rfl (by rw [HZ1.out]; decide)) ?_
        refine wpTakes_step (v := ?_) rfl (by rfl) ?_ ?_
        rotate_left
        · (rintro _ ⟨z9, rfl⟩; go_simp; try (with_reducible rfl))
        simp only [Act.put, List.setIfInBounds_toArray, List.set_cons_zero, List.set_cons_succ]
        refine wpTakes_step (v := ?_) rfl (by rfl) ?_ ?_
        rotate_left
        · (rintro _ ⟨z9, rfl⟩; go_simp; try (with_reducible rfl))
        simp only [Act.put, List.setIfInBounds_toArray, List.set_cons_zero, List.set_cons_succ]
        refine wpTakes_step (v := ?_) rfl (by rfl) ?_ ?_
        rotate_left
        · (rintro _ ⟨z9, rfl⟩; go_simp; try (with_reducible rfl))
        simp only [Act.put, List.setIfInBounds_toArray, List.set_cons_zero, List.set_cons_succ]
        refine wpTakes_step (v := ?_) rfl (by rfl) ?_ ?_
        rotate_left
        · (rintro _ ⟨z9, rfl⟩; go_simp; try (with_reducible rfl))
        simp only [Act.put, List.setIfInBounds_toArray, List.set_cons_zero, List.set_cons_succ]
        refine wpTakes_step (v := ?_) rfl (by rfl) ?_ ?_
        rotate_left
        · (rintro _ ⟨z9, rfl⟩; go_simp; try (with_reducible rfl))
        simp only [Act.put, List.setIfInBounds_toArray, List.set_cons_zero, List.set_cons_succ]
        refine wpTakes_step (v := ?_) rfl (by rfl) ?_ ?_
        rotate_left
        · (rintro _ ⟨z9, rfl⟩; go_simp; try (with_reducible rfl))
        simp only [Act.put, List.setIfInBounds_toArray, List.set_cons_zero, List.set_cons_succ]
        refine wpTakes_step (v := ?_) rfl (by rfl) ?_ ?_
        rotate_left
        · (rintro _ ⟨z9, rfl⟩; go_simp; try (with_reducible rfl))
        simp only [Act.put, List.setIfInBounds_toArray, List.set_cons_zero, List.set_cons_succ]
        refine wpTakes_step (v := ?_) rfl (by rfl) ?_ ?_
        rotate_left
        · (rintro _ ⟨z9, rfl⟩; go_simp; try (with_reducible rfl))
        simp only [Act.put, List.setIfInBounds_toArray, List.set_cons_zero, List.set_cons_succ]
        refine wpTakes_step (v := ?_) rfl (by rfl) ?_ ?_
        rotate_left
        · (rintro _ ⟨z9, rfl⟩; go_simp; try (with_reducible rfl))
        simp only [Act.put, List.setIfInBounds_toArray, List.set_cons_zero, List.set_cons_succ]
        simp only [wpTakes, List.drop_succ_cons, List.drop_zero, HA2.out]
        clear c6 g0 g1 g2 g3 g4 g5 g6
        go_wp2_with (go_at_call 92; refine (concat3 g HGV.out hk Hd.out h40 HI.out).mono ?_; rintro e x2 ⟨B, k', c', rfl, hkc, hown, hbV⟩; have Hown := Lib.hid hown; have HbX := Lib.hid hbV; have frx : x2.frozen? ⟨w.heap.size, 6, none⟩ = false := (hbV.frozen (p := ⟨w.heap.size, 6, none⟩) l0).trans (HFM2.out 6); have KMx := HKM2.out.keep hbV; have KXx := HKX2.out.keep hbV; have KMc := KMx.get; have KXc := KXx.get; have frX : ∀ j, x2.frozen? ⟨w.heap.size + 2, j, none⟩ = false := fun j => (hbV.frozen (p := ⟨w.heap.size + 2, j, none⟩) l2).trans (HFX2.out j); clear hown hbV)
        have hlen : (insG g gs).length ≤ 100000 := by rw [ins_len]; have := Hl.out; omega
        have P := put7 (x2.setCell ⟨w.heap.size, 6, none⟩ (.slice B k' c')) (w.heap.size + 1 + 1) (.int .i64 w0) (.int .i64 w1) (.int .i64 w2) (.int .i64 w3) (.int .i64 w4) (.int .i64 F) (.slice B k' c') (bk_some (bk_other KXx (by omega) _))
        have O := own_put7 (w := (x2.setCell ⟨w.heap.size, 6, none⟩ (.slice B k' c'))) (own_set Hown.out w.heap.size 6 (by omega) _) (b := w.heap.size + 1 + 1) (by omega) (.int .i64 w0) (.int .i64 w1) (.int .i64 w2) (.int .i64 w3) (.int .i64 w4) (.int .i64 F) (.slice B k' c')
        have BB := put7_below (w := (x2.setCell ⟨w.heap.size, 6, none⟩ (.slice B k' c'))) ((up HW.out (up HbV.out HbX.out)).setCell (Nat.le_refl _) _) (by omega : _ ≤ w.heap.size + 1 + 1) (.int .i64 w0) (.int .i64 w1) (.int .i64 w2) (.int .i64 w3) (.int .i64 w4) (.int .i64 F) (.slice B k' c')
        generalize World.setCell _ ⟨w.heap.size + 1 + 1, 6, none⟩ _ = U at P O BB ⊢
        have p0 := P 0 (by omega); have p1 := P 1 (by omega); have p2 := P 2 (by omega); have p3 := P 3 (by omega); have p4 := P 4 (by omega); have p5 := P 5 (by omega); have p6 := P 6 (by omega)
        clear P
        simp at p0 p1 p2 p3 p4 p5 p6
        refine bodyPost_ret (v := .agg #[.int .i64 w0, .int .i64 w1, .int .i64 w2, .int .i64 w3, .int .i64 w4, .int .i64 F, .slice B k' c']) (by simp [results, Try.results90, go_sem, p0, p1, p2, p3, p4, p5, p6]) rfl ?_
        clear p0 p1 p2 p3 p4 p5 p6
        exact ⟨B, k', c', rfl, hkc, own_mono O (by omega), BB⟩
end Go.Proofs.Ytbieopkohkomoaa

namespace Go.Proofs.Ytbieopkohkomoaa
open Go Go.RowKit
set_option maxHeartbeats 400000
set_option maxRecDepth 100000

/-- A value that is given if there is no error. -/
def cv (E x : Int) : Int := if E = 0 then x else 0
def cg (E : Int) (l : List Giv) : List Giv := if E = 0 then l else []
theorem cv_0 (x : Int) : cv 0 x = x := rfl
theorem cv_e {E : Int} (h : E ≠ 0) (x : Int) : cv E x = 0 := by unfold cv; rw [if_neg h]
theorem cg_0 (l : List Giv) : cg 0 l = l := rfl
theorem cg_e {E : Int} (h : E ≠ 0) (l : List Giv) : cg E l = [] := by unfold cg; rw [if_neg h]
/-- The list without the mark that was found. -/
def takeL (w0 w1 w2 w3 w4 F : Int) (gs : List Giv) (x : Int) : List Giv := cg (findE w0 w1 w2 w3 w4 F gs x) (gs.eraseIdx (findI w0 w1 w2 w3 w4 F gs x).toNat)
theorem find_in {w0 w1 w2 w3 w4 F x : Int} {gs : List Giv} (h : findE w0 w1 w2 w3 w4 F gs x = 0) : ∃ k : Nat, findI w0 w1 w2 w3 w4 F gs x = k ∧ k < gs.length ∧ pos (own gs) x 0 = k ∧ okB w0 w1 w2 w3 w4 F gs = true := by
  unfold findE at h
  by_cases h1 : okB w0 w1 w2 w3 w4 F gs = true
  · rw [if_pos h1] at h
    by_cases h2 : 1 ≤ x ∧ x ≤ 99
    · rw [if_pos h2] at h
      by_cases h3 : 0 ≤ pos (own gs) x 0
      · obtain ⟨k, hk⟩ := Int.eq_ofNat_of_zero_le h3
        refine ⟨k, by unfold findI; rw [if_pos ⟨h1, h2, h3⟩, hk], ?_, hk, h1⟩
        have := pos_bd (own gs) x 0
        simp only [own, List.length_map] at this
        rw [show List.map Giv.o gs = own gs from rfl] at this
        omega
      · rw [if_neg h3] at h; omega
    · rw [if_neg h2] at h; omega
  · rw [if_neg h1] at h; omega

theorem parts2 {V : World} {A A2 : Option Addr} {n c c2 k q : Nat} {gs : List Giv} (h : Gs V A n gs) (hk : k ≤ n) (hd : Gs V A2 q (gs.drop (k + 1))) :
    Parts (V.alloc (Obj.cells #[.slice A k c, .slice A2 q c2] 24)) V.heap.size [gs.take k, gs.drop (k + 1)] := by
  have hb : Below V.heap.size V (V.alloc (Obj.cells #[.slice A k c, .slice A2 q c2] 24)) := by go_grown
  intro j hj
  have hj3 : j < 2 := hj
  match j, hj3 with
  | 0, _ => exact ⟨A, k, c, by simp [go_sem], (h.take k hk).keep hb⟩
  | 1, _ => exact ⟨_, q, c2, by simp [go_sem], hd.keep hb⟩
theorem concat2 {V : World} {A A2 : Option Addr} {n c c2 k q : Nat} {gs : List Giv} (h : Gs V A n gs) (hk : k < n) (hd : Gs V A2 q (gs.drop (k + 1))) (h40 : n ≤ 40) :
    Calls Try.prog 92 #[.slice (some ⟨V.heap.size, 0, none⟩) 2 2] (V.alloc (Obj.cells #[.slice A k c, .slice A2 q c2] 24)) fun e w' =>
      ∃ B k' c', e = .returned (.slice B k' c') ∧ k' ≤ c' ∧ w'.ownsRow V.heap.size 30 7 (.slice B k' c') k' (gcells (gs.eraseIdx k)) ∧ Below V.heap.size V w' := by
  have hflat : ([gs.take k, gs.drop (k + 1)] : List (List Giv)).flatten = gs.eraseIdx k := by rw [List.eraseIdx_eq_take_drop_succ]; simp
  have hfl : ([gs.take k, gs.drop (k + 1)] : List (List Giv)).flatten.length ≤ 1000 := by
    rw [hflat]; have := h.len; have := List.length_eraseIdx_le gs k; omega
  refine (concat_any V.heap.size 2 2 [gs.take k, gs.drop (k + 1)] _ rfl (by simp) (parts2 h (by omega) hd) hfl (by decide)).mono ?_
  rintro e x ⟨v, rfl, hown, hb⟩
  rw [hflat] at hown
  obtain ⟨B, c', rfl, hc', _, _⟩ := Gs.of_own hown
  exact ⟨B, _, c', rfl, hc', own_mono hown (by simp), up (by go_grown) hb⟩

set_option maxHeartbeats 1600000 in
theorem take_any (w0 w1 w2 w3 w4 F x : Int) (A : Option Addr) (n c : Nat) (gs : List Giv) (w : World) (hg : Gs w A n gs) (hnc : n ≤ c) :
    Calls Try.prog 45 #[.agg #[.int .i64 w0, .int .i64 w1, .int .i64 w2, .int .i64 w3, .int .i64 w4, .int .i64 F, .slice A n c], .int .i64 x] w fun e w' =>
      ∃ B k c', e = .returned (.tuple #[.agg #[.int .i64 (cv (findE w0 w1 w2 w3 w4 F gs x) w0), .int .i64 (cv (findE w0 w1 w2 w3 w4 F gs x) w1), .int .i64 (cv (findE w0 w1 w2 w3 w4 F gs x) w2), .int .i64 (cv (findE w0 w1 w2 w3 w4 F gs x) w3), .int .i64 (cv (findE w0 w1 w2 w3 w4 F gs x) w4), .int .i64 (cv (findE w0 w1 w2 w3 w4 F gs x) F), .slice B k c'], .int .i64 (findE w0 w1 w2 w3 w4 F gs x)]) ∧ k ≤ c' ∧ Gs w' B k (takeL w0 w1 w2 w3 w4 F gs x) ∧ Below w.heap.size w w' := by
  have Hl : Hid (n = gs.length) := Lib.hid hg.len
  go_enter Try.func45, Try.ntmps45
  go_wp2_with fail
  generalize hW : (World.alloc _ _) = W
  have HW : Hid (Below w.heap.size w W) := Lib.hid (by subst hW; go_grown)
  have KM : Bk W w.heap.size [.int .i64 w0, .int .i64 w1, .int .i64 w2, .int .i64 w3, .int .i64 w4, .int .i64 F, .slice A n c] := ⟨by subst hW; simp only [World.size_alloc]; omega, by subst hW; intro j; simp [go_sem]⟩
  have KX : Bk W (w.heap.size + 1) [.int .i64 0, .int .i64 0, .int .i64 0, .int .i64 0, .int .i64 0, .int .i64 0, .slice none 0 0] := ⟨by subst hW; simp only [World.size_alloc]; omega, by subst hW; intro j; simp [go_sem]⟩
  have FM : Hid (∀ j, W.frozen? ⟨w.heap.size, j, none⟩ = false) := Lib.hid (by subst hW; intro j; simp [go_sem])
  have FX : Hid (∀ j, W.frozen? ⟨w.heap.size + 1, j, none⟩ = false) := Lib.hid (by subst hW; intro j; simp [go_sem])
  clear hW
  have HG := Lib.hid (hg.keep HW.out)
  clear hg
  refine (find_any w0 w1 w2 w3 w4 F x A n c gs W HG.out hnc).mono ?_
  rintro e V ⟨rfl, hb1⟩
  have HT : Hid (takeL w0 w1 w2 w3 w4 F gs x = cg (findE w0 w1 w2 w3 w4 F gs x) (gs.eraseIdx (findI w0 w1 w2 w3 w4 F gs x).toNat)) := Lib.hid rfl
  have HF : Hid (findE w0 w1 w2 w3 w4 F gs x = 0 → ∃ k : Nat, findI w0 w1 w2 w3 w4 F gs x = k ∧ k < gs.length ∧ pos (own gs) x 0 = k ∧ okB w0 w1 w2 w3 w4 F gs = true) := Lib.hid find_in
  generalize hEE : findE w0 w1 w2 w3 w4 F gs x = E at *
  have HEE := Lib.hid hEE
  clear hEE
  generalize findI w0 w1 w2 w3 w4 F gs x = I at *
  have FMV : ∀ j, V.frozen? ⟨w.heap.size, j, none⟩ = false := fun j => (hb1.frozen (p := ⟨w.heap.size, j, none⟩) KM.lt).trans (FM.out j)
  have FXV : ∀ j, V.frozen? ⟨w.heap.size + 1, j, none⟩ = false := fun j => (hb1.frozen (p := ⟨w.heap.size + 1, j, none⟩) KX.lt).trans (FX.out j)
  replace KM := KM.keep hb1; replace KX := KX.keep hb1
  replace HG := Lib.hid (HG.out.keep hb1)
  have HB1 := Lib.hid hb1
  clear hb1
  by_cases hE : E = 0
  rotate_left
  · have b0 : (E == 0) = false := by simpa using hE
    have b1 : (E != 0) = true := by simpa using hE
    have HE := Lib.hid hE
    clear hE
    have KMl := KM.lt; have KMc := KM.get; have KXl := KX.lt; have KXc := KX.get
    go_wp2
    have P := put7 V (w.heap.size + 1) (.int .i64 0) (.int .i64 0) (.int .i64 0) (.int .i64 0) (.int .i64 0) (.int .i64 0) (.slice none 0 0) (bk_some (KX))
    have O := own_put7 (w := V) (World.ownsRow_nil V (w.heap.size + 2) 30 7) (b := w.heap.size + 1) (by omega) (.int .i64 0) (.int .i64 0) (.int .i64 0) (.int .i64 0) (.int .i64 0) (.int .i64 0) (.slice none 0 0)
    have BB := put7_below (w := V) (up HW.out HB1.out) (by omega : _ ≤ w.heap.size + 1) (.int .i64 0) (.int .i64 0) (.int .i64 0) (.int .i64 0) (.int .i64 0) (.int .i64 0) (.slice none 0 0)
    generalize World.setCell _ ⟨w.heap.size + 1, 6, none⟩ _ = U at P O BB ⊢
    have p0 := P 0 (by omega); have p1 := P 1 (by omega); have p2 := P 2 (by omega); have p3 := P 3 (by omega); have p4 := P 4 (by omega); have p5 := P 5 (by omega); have p6 := P 6 (by omega)
    clear P
    simp at p0 p1 p2 p3 p4 p5 p6
    refine bodyPost_ret (v := .tuple #[.agg #[.int .i64 0, .int .i64 0, .int .i64 0, .int .i64 0, .int .i64 0, .int .i64 0, .slice none 0 0], .int .i64 E]) (by simp [results, Try.results45, go_sem, p0, p1, p2, p3, p4, p5, p6]) rfl ?_
    clear p0 p1 p2 p3 p4 p5 p6
    refine ⟨none, 0, 0, ?_, Nat.le_refl _, ?_, BB⟩
    · rw [HEE.out]; simp only [cv_e HE.out]
    · rw [HT.out, cg_e HE.out]; exact ⟨rfl, by decide, fun k hk => by simp at hk⟩
  subst hE
  obtain ⟨k, rfl, hk, hp, hok⟩ := HF.out rfl
  have hkn : k < n := by rw [Hl.out]; exact hk
  have h40 : n ≤ 40 := by have := Hl.out; have := okB_40 hok; omega
  clear hk hp hok HF
  have HFM := Lib.hid FMV
  have HFX := Lib.hid FXV
  clear FMV FXV
  obtain ⟨A2, hA2, hd⟩ : ∃ A2, (if c = k + 1 then A else Option.map (fun x => x.add ((k + 1) * 7)) A) = A2 ∧ Gs V A2 (n - (k + 1)) (gs.drop (k + 1)) := ⟨_, rfl, HG.out.drop (by omega) hnc⟩
  have HA2 := Lib.hid hA2
  have Hd := Lib.hid hd
  clear hA2 hd
  have i0 : (0 : Int) ≤ (k : Int) := by omega
  have i1 : (k : Int) ≤ (n : Int) := by omega
  have i2 : (k : Int) ≤ (c : Int) := by omega
  have i3 : (n : Int) ≤ (c : Int) := by omega
  have i4 : (k : Int) + 1 ≤ (n : Int) := by omega
  have i5 : (0 : Int) ≤ (k : Int) + 1 := by omega
  have i6 : ((k : Int) + 1).toNat = k + 1 := by omega
  have i7 : IntKind.i64.wrap ((k : Int) + 1) = (k : Int) + 1 := IntWalk.i64_in _ (by omega)
  have l0 := KM.lt
  have l1 := KX.lt
  have KMl := KM.lt; have KMc := KM.get; have KXl := KX.lt; have KXc := KX.get
  go_wp2
  refine wp_region_grow_tail 9 (by kernel_rfl) (by kernel_rfl) ?_
  simp only [List.take_succ_cons, List.take_zero, List.drop_succ_cons, List.drop_zero]
  repeat (go_big_quiet_step ((fail)))
  refine wpQuiet_nil ?_
  simp only [HA2.out]
  intro z
  clear i6 i7
  clear KMl KMc KXl KXc
  have HbZ := Lib.hid (grow_below V z)
  generalize grow V z = V2 at *
  replace HFM := Lib.hid (fun j => (HbZ.out.frozen (p := ⟨w.heap.size, j, none⟩) KM.lt).trans (HFM.out j))
  replace HFX := Lib.hid (fun j => (HbZ.out.frozen (p := ⟨w.heap.size + 1, j, none⟩) KX.lt).trans (HFX.out j))
  replace KM := KM.keep HbZ.out
  replace KX := KX.keep HbZ.out
  replace HG := Lib.hid (HG.out.keep HbZ.out)
  replace Hd := Lib.hid (Hd.out.keep HbZ.out)
  replace l0 := KM.lt
  replace l1 := KX.lt
  go_wp2_with (go_at_call 92; refine (concat2 HG.out hkn Hd.out h40).mono ?_; rintro e x2 ⟨B, k', c', rfl, hkc, hown, hbV⟩; have Hown := Lib.hid hown; have HbX := Lib.hid hbV; have frx : x2.frozen? ⟨w.heap.size, 6, none⟩ = false := (hbV.frozen (p := ⟨w.heap.size, 6, none⟩) l0).trans (HFM.out 6); have KMx := KM.keep hbV; have KXx := KX.keep hbV; have KMc := KMx.get; have KXc := KXx.get; have frX : ∀ j, x2.frozen? ⟨w.heap.size + 1, j, none⟩ = false := fun j => (hbV.frozen (p := ⟨w.heap.size + 1, j, none⟩) l1).trans (HFX.out j); clear hown hbV)
  have hlen : (gs.eraseIdx k).length ≤ 100000 := by have := List.length_eraseIdx_le gs k; have := Hl.out; omega
  have P := put7 (x2.setCell ⟨w.heap.size, 6, none⟩ (.slice B k' c')) (w.heap.size + 1) (.int .i64 w0) (.int .i64 w1) (.int .i64 w2) (.int .i64 w3) (.int .i64 w4) (.int .i64 F) (.slice B k' c') (bk_some (bk_other KXx (by omega) _))
  have O := own_put7 (w := (x2.setCell ⟨w.heap.size, 6, none⟩ (.slice B k' c'))) (own_set Hown.out w.heap.size 6 (by omega) _) (b := w.heap.size + 1) (by omega) (.int .i64 w0) (.int .i64 w1) (.int .i64 w2) (.int .i64 w3) (.int .i64 w4) (.int .i64 F) (.slice B k' c')
  have BB := put7_below (w := (x2.setCell ⟨w.heap.size, 6, none⟩ (.slice B k' c'))) ((up HW.out (up HB1.out (up HbZ.out HbX.out))).setCell (Nat.le_refl _) _) (by omega : _ ≤ w.heap.size + 1) (.int .i64 w0) (.int .i64 w1) (.int .i64 w2) (.int .i64 w3) (.int .i64 w4) (.int .i64 F) (.slice B k' c')
  generalize World.setCell _ ⟨w.heap.size + 1, 6, none⟩ _ = U at P O BB ⊢
  have p0 := P 0 (by omega); have p1 := P 1 (by omega); have p2 := P 2 (by omega); have p3 := P 3 (by omega); have p4 := P 4 (by omega); have p5 := P 5 (by omega); have p6 := P 6 (by omega)
  clear P
  simp at p0 p1 p2 p3 p4 p5 p6
  refine bodyPost_ret (v := .tuple #[.agg #[.int .i64 w0, .int .i64 w1, .int .i64 w2, .int .i64 w3, .int .i64 w4, .int .i64 F, .slice B k' c'], .int .i64 0]) (by simp [results, Try.results45, go_sem, p0, p1, p2, p3, p4, p5, p6]) rfl ?_
  clear p0 p1 p2 p3 p4 p5 p6
  refine ⟨B, k', c', ?_, hkc, ?_, BB⟩
  · rw [HEE.out]; rfl
  · rw [HT.out]; exact gs_own O hlen
end Go.Proofs.Ytbieopkohkomoaa

namespace Go.Proofs.Ytbieopkohkomoaa
open Go Go.RowKit
set_option maxHeartbeats 400000
set_option maxRecDepth 100000

/-- A book in a box, whose row is its own. -/
structure BR (V0 wr : World) (b : Nat) (w0 w1 w2 w3 w4 F : Int) (B : Option Addr) (q c : Nat) (l : List Giv) : Prop where
  size : b ≤ V0.heap.size
  bel : Below b V0 wr
  bk : Bk wr b [.int .i64 w0, .int .i64 w1, .int .i64 w2, .int .i64 w3, .int .i64 w4, .int .i64 F, .slice B q c]
  fr : ∀ j, wr.frozen? ⟨b, j, none⟩ = false
  own : wr.ownsRow (b + 1) 30 7 (.slice B q c) q (gcells l)
theorem BR.grow {V0 wr : World} {b : Nat} {w0 w1 w2 w3 w4 F : Int} {B : Option Addr} {q c : Nat} {l : List Giv} (h : BR V0 wr b w0 w1 w2 w3 w4 F B q c l) {wr' : World} (hb : Below wr.heap.size wr wr') : BR V0 wr' b w0 w1 w2 w3 w4 F B q c l :=
  ⟨h.size, h.bel.trans (hb.mono (Nat.le_of_lt h.bk.lt)), h.bk.keep hb, fun j => (hb.frozen (p := ⟨b, j, none⟩) h.bk.lt).trans (h.fr j), own_below h.own hb⟩
theorem BR.next {V0 wr w' : World} {b : Nat} {w0 w1 w2 w3 w4 F : Int} {B B' : Option Addr} {q c q' c' : Nat} {l l' : List Giv} (h : BR V0 wr b w0 w1 w2 w3 w4 F B q c l)
    (hg : wr.grownBy w' (Value.slice B q c).ownBlock) (ho : w'.ownsRow (b + 1) 30 7 (.slice B' q' c') q' (gcells l')) : BR V0 (w'.setCell ⟨b, 6, none⟩ (.slice B' q' c')) b w0 w1 w2 w3 w4 F B' q' c' l' := by
  have hne : some b ≠ (Value.slice B q c).ownBlock := fun e => by have := (h.own.lt b e.symm).1; omega
  have hblk := hg.block b h.bk.lt hne
  have hk : Bk w' b [.int .i64 w0, .int .i64 w1, .int .i64 w2, .int .i64 w3, .int .i64 w4, .int .i64 F, .slice B q c] :=
    ⟨Nat.lt_of_lt_of_le h.bk.lt hg.size, fun j => (World.cell?_of_block (a := ⟨b, j, none⟩) hblk).trans (h.bk.get j)⟩
  have hb : Below b V0 w' := (h.bel.grown hg (Nat.le_of_lt h.bk.lt) (fun r hr => by have := (h.own.lt r hr).1; omega))
  refine ⟨h.size, hb.setCell (Nat.le_refl _) _, bk_set6 hk _, fun j => ?_, own_set ho b 6 (by omega) _⟩
  have e : w'.frozen? ⟨b, j, none⟩ = false := (World.frozen?_of_block (a := ⟨b, j, none⟩) hblk).trans (h.fr j)
  simpa [go_sem] using e
theorem BR.start (V0 : World) (w0 w1 w2 w3 w4 F : Int) : BR V0 (V0.alloc (.cells #[.int .i64 w0, .int .i64 w1, .int .i64 w2, .int .i64 w3, .int .i64 w4, .int .i64 F, .slice none 0 0] 26)) V0.heap.size w0 w1 w2 w3 w4 F none 0 0 [] :=
  ⟨Nat.le_refl _, up_alloc _ _, ⟨by simp, by intro j; simp [go_sem]⟩, by intro j; simp [go_sem], World.ownsRow_nil _ _ _ _⟩
/-- Behind an append to its row the box is as it was. -/
theorem BR.app {V0 wr wr2 y1 : World} {b : Nat} {w0 w1 w2 w3 w4 F : Int} {B : Option Addr} {q c : Nat} {l : List Giv} (h : BR V0 wr b w0 w1 w2 w3 w4 F B q c l) (hb : Below wr.heap.size wr wr2) (hg : wr2.grownBy y1 (Value.slice B q c).ownBlock) :
    (∀ j, y1.cell? ⟨b, j, none⟩ = wr.cell? ⟨b, j, none⟩) ∧ (∀ j, y1.frozen? ⟨b, j, none⟩ = false) := by
  have hne : some b ≠ (Value.slice B q c).ownBlock := fun e => by have := (h.own.lt b e.symm).1; omega
  have hlt : b < wr2.heap.size := Nat.lt_of_lt_of_le h.bk.lt hb.size
  have hblk : y1.heap[b]? = wr.heap[b]? := (hg.block b hlt hne).trans (hb.block b h.bk.lt)
  exact ⟨fun j => World.cell?_of_block (a := ⟨b, j, none⟩) hblk, fun j => (World.frozen?_of_block (a := ⟨b, j, none⟩) hblk).trans (h.fr j)⟩
theorem BR.app_bel {V0 wr wr2 y1 : World} {b : Nat} {w0 w1 w2 w3 w4 F : Int} {B : Option Addr} {q c : Nat} {l : List Giv} (h : BR V0 wr b w0 w1 w2 w3 w4 F B q c l) (hb : Below wr.heap.size wr wr2) (hg : wr2.grownBy y1 (Value.slice B q c).ownBlock) : Below b V0 y1 :=
  (h.grow hb).bel.grown hg (Nat.le_of_lt (h.grow hb).bk.lt) (fun r hr => by have := (h.own.lt r hr).1; omega)
theorem own_le {w : World} {base q c size : Nat} {e : TypeId} {B : Option Addr} {xs : List Value} (h : w.ownsRow base e size (.slice B q c) q xs) : q ≤ c := by
  rcases h.2 with ⟨e, h0⟩ | ⟨g, cap, cur, e, _, _, hc, _⟩
  · omega
  · injection e with _ _ e3; omega
/-- Of the first k, without number i. -/
def lessK (gs : List Giv) (i k : Nat) : List Giv := (gs.take k).eraseIdx i
theorem lessK_0 (gs : List Giv) (i : Nat) : lessK gs i 0 = [] := by simp [lessK]
theorem lessK_skip (gs : List Giv) (k : Nat) (h : k < gs.length) : lessK gs k (k + 1) = lessK gs k k := by
  unfold lessK
  rw [List.eraseIdx_of_length_le (by simp; omega : (gs.take k).length ≤ k), List.take_succ_eq_append_getElem h, List.eraseIdx_append_of_length_le (by simp; omega)]
  have : k - (gs.take k).length = 0 := by simp; omega
  rw [this]; simp
theorem lessK_next (gs : List Giv) (i k : Nat) (h : k < gs.length) (hne : k ≠ i) : lessK gs i (k + 1) = lessK gs i k ++ [gs[k]] := by
  unfold lessK
  rw [List.take_succ_eq_append_getElem h]
  by_cases hi : i < k
  · rw [List.eraseIdx_append_of_lt_length (by simp; omega)]
  · rw [List.eraseIdx_append_of_length_le (by simp; omega), List.eraseIdx_of_length_le (by simp; omega : (gs.take k).length ≤ i), List.eraseIdx_of_length_le (by simp; omega)]
theorem lessK_len (gs : List Giv) (i k : Nat) : (lessK gs i k).length ≤ k := by
  unfold lessK
  have := List.length_eraseIdx_le (gs.take k) i
  have : (gs.take k).length ≤ k := by simp; omega
  omega

set_option maxHeartbeats 1600000 in
theorem refTake_any (w0 w1 w2 w3 w4 F x : Int) (A : Option Addr) (n c : Nat) (gs : List Giv) (w : World) (hg : Gs w A n gs) (hnc : n ≤ c) :
    Calls Try.prog 46 #[.agg #[.int .i64 w0, .int .i64 w1, .int .i64 w2, .int .i64 w3, .int .i64 w4, .int .i64 F, .slice A n c], .int .i64 x] w fun e w' =>
      ∃ B k c', e = .returned (.tuple #[.agg #[.int .i64 (cv (findE w0 w1 w2 w3 w4 F gs x) w0), .int .i64 (cv (findE w0 w1 w2 w3 w4 F gs x) w1), .int .i64 (cv (findE w0 w1 w2 w3 w4 F gs x) w2), .int .i64 (cv (findE w0 w1 w2 w3 w4 F gs x) w3), .int .i64 (cv (findE w0 w1 w2 w3 w4 F gs x) w4), .int .i64 (cv (findE w0 w1 w2 w3 w4 F gs x) F), .slice B k c'], .int .i64 (findE w0 w1 w2 w3 w4 F gs x)]) ∧ k ≤ c' ∧ Gs w' B k (takeL w0 w1 w2 w3 w4 F gs x) ∧ Below w.heap.size w w' := by
  have Hl : Hid (n = gs.length) := Lib.hid hg.len
  have hn := hg.small
  obtain ⟨i0, hi, hz0, hz1, hz2⟩ := info_parts info30
  have HI0 := Lib.hid hi
  have HZ0 := Lib.hid hz0
  have HZ1 := Lib.hid hz1
  have HZ2 := Lib.hid hz2
  clear hi hz0 hz1 hz2
  go_enter Try.func46, Try.ntmps46
  go_wp2_with fail
  generalize hW : (World.alloc _ _) = W
  have HW : Hid (Below w.heap.size w W) := Lib.hid (by subst hW; go_grown)
  have KM : Bk W w.heap.size [.int .i64 w0, .int .i64 w1, .int .i64 w2, .int .i64 w3, .int .i64 w4, .int .i64 F, .slice A n c] := ⟨by subst hW; simp only [World.size_alloc]; omega, by subst hW; intro j; simp [go_sem]⟩
  have KX : Bk W (w.heap.size + 1) [.int .i64 0, .int .i64 0, .int .i64 0, .int .i64 0, .int .i64 0, .int .i64 0, .slice none 0 0] := ⟨by subst hW; simp only [World.size_alloc]; omega, by subst hW; intro j; simp [go_sem]⟩
  have FX : Hid (∀ j, W.frozen? ⟨w.heap.size + 1, j, none⟩ = false) := Lib.hid (by subst hW; intro j; simp [go_sem])
  clear hW
  have HG := Lib.hid (hg.keep HW.out)
  clear hg
  refine (refAsked_any w0 w1 w2 w3 w4 F x A n c gs W HG.out).mono ?_
  rintro e V ⟨rfl, hb1⟩
  have HT : Hid (takeL w0 w1 w2 w3 w4 F gs x = cg (findE w0 w1 w2 w3 w4 F gs x) (gs.eraseIdx (findI w0 w1 w2 w3 w4 F gs x).toNat)) := Lib.hid rfl
  have HF : Hid (findE w0 w1 w2 w3 w4 F gs x = 0 → ∃ k : Nat, findI w0 w1 w2 w3 w4 F gs x = k ∧ k < gs.length ∧ pos (own gs) x 0 = k ∧ okB w0 w1 w2 w3 w4 F gs = true) := Lib.hid find_in
  have HEv : Hid (findE w0 w1 w2 w3 w4 F gs x = if (if okB w0 w1 w2 w3 w4 F gs = true then if 1 ≤ x ∧ x ≤ 99 then (0 : Int) else 15 else 13) = 0 then (if 0 ≤ pos (own gs) x 0 then 0 else 3) else (if okB w0 w1 w2 w3 w4 F gs = true then if 1 ≤ x ∧ x ≤ 99 then (0 : Int) else 15 else 13)) := Lib.hid (by
    unfold findE
    by_cases h1 : okB w0 w1 w2 w3 w4 F gs = true <;> by_cases h2 : 1 ≤ x ∧ x ≤ 99 <;> simp [h1, h2])
  generalize (if okB w0 w1 w2 w3 w4 F gs = true then if 1 ≤ x ∧ x ≤ 99 then (0 : Int) else 15 else 13) = E0 at *
  generalize hEE : findE w0 w1 w2 w3 w4 F gs x = E at *
  have HEE := Lib.hid hEE
  clear hEE
  generalize findI w0 w1 w2 w3 w4 F gs x = I at *
  have FXV : ∀ j, V.frozen? ⟨w.heap.size + 1, j, none⟩ = false := fun j => (hb1.frozen (p := ⟨w.heap.size + 1, j, none⟩) KX.lt).trans (FX.out j)
  replace KM := KM.keep hb1; replace KX := KX.keep hb1
  replace HG := Lib.hid (HG.out.keep hb1)
  have HB1 := Lib.hid hb1
  clear hb1
  by_cases hE : E0 = 0
  rotate_left
  · have b0 : (E0 == 0) = false := by simpa using hE
    have b1 : (E0 != 0) = true := by simpa using hE
    have HE0 : Hid (E = E0) := Lib.hid (by rw [HEv.out, if_neg hE])
    have HE : Hid (E ≠ 0) := Lib.hid (by rw [HE0.out]; exact hE)
    clear hE
    have KMl := KM.lt; have KMc := KM.get; have KXl := KX.lt; have KXc := KX.get
    go_wp2
    have P := put7 V (w.heap.size + 1) (.int .i64 0) (.int .i64 0) (.int .i64 0) (.int .i64 0) (.int .i64 0) (.int .i64 0) (.slice none 0 0) (bk_some (KX))
    have O := own_put7 (w := V) (World.ownsRow_nil V (w.heap.size + 2) 30 7) (b := w.heap.size + 1) (by omega) (.int .i64 0) (.int .i64 0) (.int .i64 0) (.int .i64 0) (.int .i64 0) (.int .i64 0) (.slice none 0 0)
    have BB := put7_below (w := V) (up HW.out HB1.out) (by omega : _ ≤ w.heap.size + 1) (.int .i64 0) (.int .i64 0) (.int .i64 0) (.int .i64 0) (.int .i64 0) (.int .i64 0) (.slice none 0 0)
    generalize World.setCell _ ⟨w.heap.size + 1, 6, none⟩ _ = U at P O BB ⊢
    have p0 := P 0 (by omega); have p1 := P 1 (by omega); have p2 := P 2 (by omega); have p3 := P 3 (by omega); have p4 := P 4 (by omega); have p5 := P 5 (by omega); have p6 := P 6 (by omega)
    clear P
    simp at p0 p1 p2 p3 p4 p5 p6
    refine bodyPost_ret (v := .tuple #[.agg #[.int .i64 0, .int .i64 0, .int .i64 0, .int .i64 0, .int .i64 0, .int .i64 0, .slice none 0 0], .int .i64 E0]) (by simp [results, Try.results46, go_sem, p0, p1, p2, p3, p4, p5, p6]) rfl ?_
    clear p0 p1 p2 p3 p4 p5 p6
    refine ⟨none, 0, 0, ?_, Nat.le_refl _, ?_, BB⟩
    · rw [HEE.out]; simp only [cv_e HE.out]; rw [HE0.out]
    · rw [HT.out, cg_e HE.out]; exact ⟨rfl, by decide, fun k hk => by simp at hk⟩
  subst hE
  have HFX := Lib.hid FXV
  clear FXV
  have KMl := KM.lt; have KMc := KM.get; have KXl := KX.lt; have KXc := KX.get
  go_wp2_with fail
  refine (refIndex_any w0 w1 w2 w3 w4 F x A n c gs V HG.out).mono ?_
  rintro e V2 ⟨rfl, hb2⟩
  clear KMl KMc KXl KXc
  have FXV2 : ∀ j, V2.frozen? ⟨w.heap.size + 1, j, none⟩ = false := fun j => (hb2.frozen (p := ⟨w.heap.size + 1, j, none⟩) KX.lt).trans (HFX.out j)
  clear HFX
  replace KM := KM.keep hb2; replace KX := KX.keep hb2
  replace HG := Lib.hid (HG.out.keep hb2)
  have HB2 := Lib.hid hb2
  clear hb2
  generalize hP : pos (own gs) x 0 = P0 at *
  by_cases hp : 0 ≤ P0
  rotate_left
  · have HE : Hid (E = 3) := Lib.hid (by rw [HEv.out]; simp [hp])
    clear hP
    have hp' : P0 < 0 := by omega
    clear hp
    have KMl := KM.lt; have KMc := KM.get; have KXl := KX.lt; have KXc := KX.get
    go_wp2
    have P := put7 V2 (w.heap.size + 1) (.int .i64 0) (.int .i64 0) (.int .i64 0) (.int .i64 0) (.int .i64 0) (.int .i64 0) (.slice none 0 0) (bk_some (KX))
    have O := own_put7 (w := V2) (World.ownsRow_nil V2 (w.heap.size + 2) 30 7) (b := w.heap.size + 1) (by omega) (.int .i64 0) (.int .i64 0) (.int .i64 0) (.int .i64 0) (.int .i64 0) (.int .i64 0) (.slice none 0 0)
    have BB := put7_below (w := V2) (up HW.out (up HB1.out HB2.out)) (by omega : _ ≤ w.heap.size + 1) (.int .i64 0) (.int .i64 0) (.int .i64 0) (.int .i64 0) (.int .i64 0) (.int .i64 0) (.slice none 0 0)
    generalize World.setCell _ ⟨w.heap.size + 1, 6, none⟩ _ = U at P O BB ⊢
    have p0 := P 0 (by omega); have p1 := P 1 (by omega); have p2 := P 2 (by omega); have p3 := P 3 (by omega); have p4 := P 4 (by omega); have p5 := P 5 (by omega); have p6 := P 6 (by omega)
    clear P
    simp at p0 p1 p2 p3 p4 p5 p6
    refine bodyPost_ret (v := .tuple #[.agg #[.int .i64 0, .int .i64 0, .int .i64 0, .int .i64 0, .int .i64 0, .int .i64 0, .slice none 0 0], .int .i64 3]) (by simp [results, Try.results46, go_sem, p0, p1, p2, p3, p4, p5, p6]) rfl ?_
    clear p0 p1 p2 p3 p4 p5 p6
    refine ⟨none, 0, 0, ?_, Nat.le_refl _, ?_, BB⟩
    · rw [HEE.out, HE.out]; rfl
    · rw [HT.out, HE.out]; exact ⟨rfl, by decide, fun k hk => by simp [cg] at hk⟩
  have HE : Hid (E = 0) := Lib.hid (by rw [HEv.out]; simp [hp])
  obtain ⟨i, hI, hin, hPi, hok⟩ := HF.out HE.out
  obtain rfl : P0 = (i : Int) := hPi
  clear HF
  have h40 : n ≤ 40 := by have := Hl.out; have := okB_40 hok; omega
  have hin' : i < n := by rw [Hl.out]; exact hin
  have HI := Lib.hid hI
  clear hI hin hok hP hp
  have HFX := Lib.hid FXV2
  clear FXV2
  have ii0 : (0 : Int) ≤ (i : Int) := by omega
  have KMl := KM.lt; have KMc := KM.get; have KXl := KX.lt; have KXc := KX.get
  go_wp2_with fail
  have HR0 := Lib.hid (BR.start V2 w0 w1 w2 w3 w4 F)
  clear KMl KMc KXl KXc
  go_loopw [9] (fun s wr => ∃ (k q c' : Nat) (B : Option Addr), k ≤ n ∧ s = .int .i64 k ∧ BR V2 wr V2.heap.size w0 w1 w2 w3 w4 F B q c' (lessK gs i k)) (fun s _ => n - (intOf s).toNat)
  case atStart => exact ⟨0, 0, 0, none, by omega, rfl, by rw [lessK_0]; exact HR0.out⟩
  case round =>
    obtain ⟨k, q, c', B, hk, rfl, hR⟩ := hrel
    have HR := Lib.hid hR
    clear hR
    have hqe : q = (lessK gs i k).length := by have := HR.out.own.1; rw [gcells_len] at this; omega
    have hq40 : q ≤ 40 := by have := lessK_len gs i k; omega
    have Hqe := Lib.hid hqe
    clear hqe
    have KM1 := KM.keep HR.out.bel
    have KX1 := KX.keep HR.out.bel
    have KO := HR.out.bk
    have b0 := KM.lt
    have b1 := KX.lt
    by_cases hlt : k < n
    rotate_left
    · obtain rfl : k = n := by omega
      have KM1l := KM1.lt; have KM1c := KM1.get; have KX1l := KX1.lt; have KX1c := KX1.get; have KOl := KO.lt; have KOc := KO.get
      have FX1 : ∀ j, wr.frozen? ⟨w.heap.size + 1, j, none⟩ = false := fun j => (HR.out.bel.frozen (p := ⟨w.heap.size + 1, j, none⟩) b1).trans (HFX.out j)
      go_wp2
      have hlen : (gs.eraseIdx i).length ≤ 100000 := by have := List.length_eraseIdx_le gs i; have := Hl.out; omega
      have P := put7 wr (w.heap.size + 1) (.int .i64 w0) (.int .i64 w1) (.int .i64 w2) (.int .i64 w3) (.int .i64 w4) (.int .i64 F) (.slice B q c') (bk_some (KX1))
      have O := own_put7 (w := wr) (HR.out.own) (b := w.heap.size + 1) (by omega) (.int .i64 w0) (.int .i64 w1) (.int .i64 w2) (.int .i64 w3) (.int .i64 w4) (.int .i64 F) (.slice B q c')
      have BB := put7_below (w := wr) (up HW.out (up HB1.out (up HB2.out HR.out.bel))) (by omega : _ ≤ w.heap.size + 1) (.int .i64 w0) (.int .i64 w1) (.int .i64 w2) (.int .i64 w3) (.int .i64 w4) (.int .i64 F) (.slice B q c')
      generalize World.setCell _ ⟨w.heap.size + 1, 6, none⟩ _ = U at P O BB ⊢
      have p0 := P 0 (by omega); have p1 := P 1 (by omega); have p2 := P 2 (by omega); have p3 := P 3 (by omega); have p4 := P 4 (by omega); have p5 := P 5 (by omega); have p6 := P 6 (by omega)
      clear P
      simp at p0 p1 p2 p3 p4 p5 p6
      refine bodyPost_ret (v := .tuple #[.agg #[.int .i64 w0, .int .i64 w1, .int .i64 w2, .int .i64 w3, .int .i64 w4, .int .i64 F, .slice B q c'], .int .i64 0]) (by simp [results, Try.results46, go_sem, p0, p1, p2, p3, p4, p5, p6]) rfl ?_
      clear p0 p1 p2 p3 p4 p5 p6
      refine ⟨B, q, c', ?_, ?_, ?_, BB⟩
      · rw [HEE.out, HE.out]; rfl
      · exact own_le HR.out.own
      · rw [HT.out, HE.out, HI.out]
        have e : lessK gs i k = gs.eraseIdx i := by unfold lessK; rw [Hl.out, List.take_length]
        rw [e] at O
        exact gs_own O hlen
    have hlt' : k < gs.length := by rw [← Hl.out]; exact hlt
    have HU := Lib.hid HR.out.bel
    by_cases hki : k = i
    · subst hki
      have hnx := Lib.hid (lessK_skip gs k hlt')
      have KM1l := KM1.lt; have KM1c := KM1.get
      go_wp2
      exact ⟨⟨k + 1, q, c', B, by omega, by go_num, by rw [hnx.out]; exact HR.out⟩, by simp [intOf]; omega⟩
    have Hki := Lib.hid hki
    have Hnx := Lib.hid (lessK_next gs i k hlt' hki)
    have HGr := HG.out.keep (HR.out.bel)
    obtain ⟨bg, og, rfl, hbg, hga⟩ := HGr.get k hlt'
    obtain ⟨c0, c1, c2, c3, c4, c5, c6⟩ := hga
    have h1 : (k == i) = false := by simpa using hki
    have h2 : decide (k = i) = false := by simpa using hki
    clear HGr
    generalize gs[k] = g at *
    have i1 : (0 : Int) ≤ (k : Int) := by omega
    have i2 : (k : Int) < (n : Int) := by omega
    have KM1l := KM1.lt; have KM1c := KM1.get; have KX1l := KX1.lt; have KX1c := KX1.get; have KOl := KO.lt; have KOc := KO.get
    clear hlt'
    go_wp2
    refine wp_region_takes 8 7 [0,1,2,3,4,5,6] _ (by kernel_rfl) (by kernel_rfl) (by kernel_rfl) (by kernel_rfl) (by decide) (by decide) (fun d _ _ _ _ h => by cases d <;> exact h) (by kernel_rfl) rfl rfl (by kernel_rfl) (by kernel_rfl) (by kernel_rfl) rfl (makes_slice Try.underlying24 HI0.out HZ0.out rfl (by rw [HZ1.out]; decide)) ?_
    refine wpTakes_step (v := ?_) rfl (by rfl) ?_ ?_
    rotate_left
    · (rintro _ ⟨z9, rfl⟩; go_simp; try (with_reducible rfl))
    simp only [Act.put, List.setIfInBounds_toArray, List.set_cons_zero, List.set_cons_succ]
    refine wpTakes_step (v := ?_) rfl (by rfl) ?_ ?_
    rotate_left
    · (rintro _ ⟨z9, rfl⟩; go_simp; try (with_reducible rfl))
    simp only [Act.put, List.setIfInBounds_toArray, List.set_cons_zero, List.set_cons_succ]
    refine wpTakes_step (v := ?_) rfl (by rfl) ?_ ?_
    rotate_left
    · (rintro _ ⟨z9, rfl⟩; go_simp; try (with_reducible rfl))
    simp only [Act.put, List.setIfInBounds_toArray, List.set_cons_zero, List.set_cons_succ]
    refine wpTakes_step (v := ?_) rfl (by rfl) ?_ ?_
    rotate_left
    · (rintro _ ⟨z9, rfl⟩; go_simp; try (with_reducible rfl))
    simp only [Act.put, List.setIfInBounds_toArray, List.set_cons_zero, List.set_cons_succ]
    refine wpTakes_step (v := ?_) rfl (by rfl) ?_ ?_
    rotate_left
    · (rintro _ ⟨z9, rfl⟩; go_simp; try (with_reducible rfl))
    simp only [Act.put, List.setIfInBounds_toArray, List.set_cons_zero, List.set_cons_succ]
    refine wpTakes_step (v := ?_) rfl (by rfl) ?_ ?_
    rotate_left
    · (rintro _ ⟨z9, rfl⟩; go_simp; try (with_reducible rfl))
    simp only [Act.put, List.setIfInBounds_toArray, List.set_cons_zero, List.set_cons_succ]
    refine wpTakes_step (v := ?_) rfl (by rfl) ?_ ?_
    rotate_left
    · (rintro _ ⟨z9, rfl⟩; go_simp; try (with_reducible rfl))
    simp only [Act.put, List.setIfInBounds_toArray, List.set_cons_zero, List.set_cons_succ]
    simp only [wpTakes, List.drop_succ_cons, List.drop_zero]
    clear c0 c1 c2 c3 c4 c5 c6
    have hB : Below wr.heap.size wr ((wr.alloc (Obj.cells #[.int .i64 g.o, .int .i64 g.m0, .int .i64 g.m1, .int .i64 g.m2, .int .i64 g.m3, .int .i64 g.m4, .int .i64 g.m5] 30)).drew) := by go_grown
    have HBn := Lib.hid hB
    clear hB
    go_wp2_with (at_builtin; refine wpList_append_lies _ rfl _ _ 24 rfl (V2.heap.size + 1) 30 i0 (.agg #[.int .i64 0, .int .i64 0, .int .i64 0, .int .i64 0, .int .i64 0, .int .i64 0, .int .i64 0]) 7 56 Try.underlying24 HI0.out HZ0.out HZ1.out HZ2.out rfl (by decide) _ _ _ (by rfl) ((HR.out.own.alloc _).drew) ⟨wr.heap.size, 0, none⟩ 1 1 [.int .i64 g.o, .int .i64 g.m0, .int .i64 g.m1, .int .i64 g.m2, .int .i64 g.m3, .int .i64 g.m4, .int .i64 g.m5] (by rfl) rfl (World.news_of_block (cs := #[.int .i64 g.o, .int .i64 g.m0, .int .i64 g.m1, .int .i64 g.m2, .int .i64 g.m3, .int .i64 g.m4, .int .i64 g.m5]) (t := 30) (fr := (0, 0)) (heap_alloc_new wr _)) (by simp [Value.oneCell']) (by decide) (by unfold maxLen; omega) (by omega) (by simp; omega) (wr.heap.size + 1) (by simp) ?_; intro g' cap y1 hown1 hgrow hat hlt1; have hap := HR.out.app HBn.out hgrow; have cx := hap.1 6; have fx := hap.2 6; rw [KOc 6] at cx; have Hown1 := Lib.hid hown1; have Hgrow := Lib.hid hgrow; clear hap hown1 hgrow hat)
    exact ⟨⟨k + 1, q + 1, cap, _, by omega, by go_num, by rw [Hnx.out]; exact (HR.out.grow HBn.out).next Hgrow.out (by rw [gcells_snoc]; exact Hown1.out)⟩, by simp [intOf]; omega⟩
end Go.Proofs.Ytbieopkohkomoaa

namespace Go.Proofs.Ytbieopkohkomoaa
open Go Go.RowKit
set_option maxHeartbeats 400000
set_option maxRecDepth 100000

/-- What is laid when the first k were seen. -/
def withK (g : Giv) (gs : List Giv) (k : Nat) : List Giv := if gtB g (gs.take k) = true then insG g (gs.take k) else gs.take k
theorem withK_0 (g : Giv) (gs : List Giv) : withK g gs 0 = [] ∧ gtB g (gs.take 0) = false := ⟨by simp [withK, gtB], by simp [gtB]⟩
theorem withK_len (g : Giv) (gs : List Giv) (k : Nat) : (withK g gs k).length ≤ k + 1 := by
  unfold withK
  have : (gs.take k).length ≤ k := by simp; omega
  split
  · rw [ins_len]; omega
  · omega
theorem take_ne {g : Giv} {gs : List Giv} (h : ∀ y ∈ gs, y.o ≠ g.o) (k : Nat) : ∀ y ∈ gs.take k, y.o ≠ g.o := fun y hy => h y (List.mem_of_mem_take hy)
/-- Laid already. -/
theorem withK_put {g : Giv} {gs : List Giv} {k : Nat} (hk : k < gs.length) (h : gtB g (gs.take k) = true) : withK g gs (k + 1) = withK g gs k ++ [gs[k]] ∧ gtB g (gs.take (k + 1)) = true := by
  have e := List.take_succ_eq_append_getElem hk
  have h2 : gtB g (gs.take (k + 1)) = true := by rw [e, gtB_snoc, h]; rfl
  refine ⟨?_, h2⟩
  unfold withK
  rw [if_pos h2, if_pos h, e, ins_snoc_put _ h]
/-- Not yet. -/
theorem withK_no {g : Giv} {gs : List Giv} {k : Nat} (hk : k < gs.length) (h : gtB g (gs.take k) = false) (hx : ¬ g.o < gs[k].o) : withK g gs (k + 1) = withK g gs k ++ [gs[k]] ∧ gtB g (gs.take (k + 1)) = false := by
  have e := List.take_succ_eq_append_getElem hk
  have h2 : gtB g (gs.take (k + 1)) = false := by rw [e, gtB_snoc, h]; simp [hx]
  refine ⟨?_, h2⟩
  unfold withK
  rw [if_neg (by rw [h2]; simp), if_neg (by rw [h]; simp), e]
/-- Now. -/
theorem withK_new {g : Giv} {gs : List Giv} {k : Nat} (hne : ∀ y ∈ gs, y.o ≠ g.o) (hk : k < gs.length) (h : gtB g (gs.take k) = false) (hx : g.o < gs[k].o) : withK g gs (k + 1) = withK g gs k ++ [g] ++ [gs[k]] ∧ gtB g (gs.take (k + 1)) = true := by
  have e := List.take_succ_eq_append_getElem hk
  have h2 : gtB g (gs.take (k + 1)) = true := by rw [e, gtB_snoc, h]; simp [hx]
  refine ⟨?_, h2⟩
  unfold withK
  rw [if_pos h2, if_neg (by rw [h]; simp), e, ins_snoc_new _ (take_ne hne k) h hx]
theorem withK_all_t {g : Giv} {gs : List Giv} (h : gtB g (gs.take gs.length) = true) : withK g gs gs.length = insG g gs := by
  unfold withK; rw [if_pos h, List.take_length]
theorem withK_all_f {g : Giv} {gs : List Giv} (hne : ∀ y ∈ gs, y.o ≠ g.o) (h : gtB g (gs.take gs.length) = false) : insG g gs = withK g gs gs.length ++ [g] := by
  unfold withK; rw [if_neg (by rw [h]; simp), List.take_length]
  exact ins_end hne (by rw [List.take_length] at h; exact h)

set_option maxHeartbeats 3200000 in
theorem refWith_any (w0 w1 w2 w3 w4 F : Int) (A : Option Addr) (n c : Nat) (gs : List Giv) (g : Giv) (w : World) (hg : Gs w A n gs) (hnc : n ≤ c) (h40 : n ≤ 40) (hne : ∀ y ∈ gs, y.o ≠ g.o) :
    Calls Try.prog 91 #[.agg #[.int .i64 w0, .int .i64 w1, .int .i64 w2, .int .i64 w3, .int .i64 w4, .int .i64 F, .slice A n c], .agg #[.int .i64 g.o, .int .i64 g.m0, .int .i64 g.m1, .int .i64 g.m2, .int .i64 g.m3, .int .i64 g.m4, .int .i64 g.m5]] w fun e w' =>
      ∃ B k c', e = .returned (.agg #[.int .i64 w0, .int .i64 w1, .int .i64 w2, .int .i64 w3, .int .i64 w4, .int .i64 F, .slice B k c']) ∧ k ≤ c' ∧ w'.ownsRow w.heap.size 30 7 (.slice B k c') k (gcells (insG g gs)) ∧ Below w.heap.size w w' := by
  have Hl : Hid (n = gs.length) := Lib.hid hg.len
  have Hne := Lib.hid hne
  clear hne
  obtain ⟨i0, hi, hz0, hz1, hz2⟩ := info_parts info30
  have HI0 := Lib.hid hi
  have HZ0 := Lib.hid hz0
  have HZ1 := Lib.hid hz1
  have HZ2 := Lib.hid hz2
  clear hi hz0 hz1 hz2
  go_enter Try.func91, Try.ntmps91
  go_wp2_with fail
  generalize hW : (World.alloc (World.alloc (World.alloc w _) _) _) = W
  have HW : Hid (Below w.heap.size w W) := Lib.hid (by subst hW; go_grown)
  have KM : Bk W w.heap.size [.int .i64 w0, .int .i64 w1, .int .i64 w2, .int .i64 w3, .int .i64 w4, .int .i64 F, .slice A n c] := ⟨by subst hW; simp only [World.size_alloc]; omega, by subst hW; intro j; simp [go_sem]⟩
  have KG : Bk W (w.heap.size + 1) [.int .i64 g.o, .int .i64 g.m0, .int .i64 g.m1, .int .i64 g.m2, .int .i64 g.m3, .int .i64 g.m4, .int .i64 g.m5] := ⟨by subst hW; simp only [World.size_alloc]; omega, by subst hW; intro j; simp [go_sem]⟩
  have KX : Bk W (w.heap.size + 2) [.int .i64 0, .int .i64 0, .int .i64 0, .int .i64 0, .int .i64 0, .int .i64 0, .slice none 0 0] := ⟨by subst hW; simp only [World.size_alloc]; omega, by subst hW; intro j; simp [go_sem]⟩
  have HFX : Hid (∀ j, W.frozen? ⟨w.heap.size + 2, j, none⟩ = false) := Lib.hid (by subst hW; intro j; simp [go_sem])
  have hs : w.heap.size + 1 + 1 + 1 = W.heap.size := by subst hW; simp
  rw [hs]
  clear hs hW
  have HG := Lib.hid (hg.keep HW.out)
  clear hg
  have HR0 := Lib.hid (BR.start W w0 w1 w2 w3 w4 F)
  go_loopw [6, 7] (fun d s wr => ∃ (k q c' : Nat) (B : Option Addr), k ≤ n ∧ d = .bool (gtB g (gs.take k)) ∧ s = .int .i64 k ∧ BR W wr W.heap.size w0 w1 w2 w3 w4 F B q c' (withK g gs k)) (fun _ s _ => n - (intOf s).toNat)
  case atStart => exact ⟨0, 0, 0, none, by omega, by rw [(withK_0 g gs).2], rfl, by rw [(withK_0 g gs).1]; exact HR0.out⟩
  case round =>
    obtain ⟨k, q, c', B, hk, rfl, rfl, hR⟩ := hrel
    have HR := Lib.hid hR
    clear hR
    have hqe : q = (withK g gs k).length := by have := HR.out.own.1; rw [gcells_len] at this; omega
    have hq40 : q ≤ 41 := by have := withK_len g gs k; omega
    have Hqe := Lib.hid hqe
    clear hqe
    have KM1 := KM.keep HR.out.bel
    have KX1 := KX.keep HR.out.bel
    have KG1 := KG.keep HR.out.bel
    have KO := HR.out.bk
    have b0 := KM.lt
    have b1 := KX.lt
    have b2 := KG.lt
    have HGr := Lib.hid (HG.out.keep HR.out.bel)
    by_cases hlt : k < n
    rotate_left
    · obtain rfl : k = n := by omega
      have hlen : (insG g gs).length ≤ 100000 := by rw [ins_len]; have := Hl.out; omega
      have FX1 : ∀ j, wr.frozen? ⟨w.heap.size + 2, j, none⟩ = false := fun j => (HR.out.bel.frozen (p := ⟨w.heap.size + 2, j, none⟩) b1).trans (HFX.out j)
      cases hD : gtB g (gs.take k)
      · have HE : Hid (insG g gs = withK g gs k ++ [g]) := Lib.hid (by rw [Hl.out] at hD ⊢; exact withK_all_f Hne.out hD)
        clear hD
        have KM1l := KM1.lt; have KM1c := KM1.get; have KX1l := KX1.lt; have KX1c := KX1.get; have KG1l := KG1.lt; have KG1c := KG1.get; have KOl := KO.lt; have KOc := KO.get
        clear FX1
        have hB : Below wr.heap.size wr (wr.alloc (Obj.cells #[.int .i64 g.o, .int .i64 g.m0, .int .i64 g.m1, .int .i64 g.m2, .int .i64 g.m3, .int .i64 g.m4, .int .i64 g.m5] 30)) := by go_grown
        have HBn := Lib.hid hB
        clear hB
        go_wp2_with (at_builtin; refine wpList_append_lies _ rfl _ _ 24 rfl (W.heap.size + 1) 30 i0 (.agg #[.int .i64 0, .int .i64 0, .int .i64 0, .int .i64 0, .int .i64 0, .int .i64 0, .int .i64 0]) 7 56 Try.underlying24 HI0.out HZ0.out HZ1.out HZ2.out rfl (by decide) _ _ _ (by rfl) (HR.out.own.alloc _) ⟨wr.heap.size, 0, none⟩ 1 1 [.int .i64 g.o, .int .i64 g.m0, .int .i64 g.m1, .int .i64 g.m2, .int .i64 g.m3, .int .i64 g.m4, .int .i64 g.m5] (by rfl) rfl (World.news_of_block (cs := #[.int .i64 g.o, .int .i64 g.m0, .int .i64 g.m1, .int .i64 g.m2, .int .i64 g.m3, .int .i64 g.m4, .int .i64 g.m5]) (t := 30) (fr := (0, 0)) (heap_alloc_new wr _)) (by simp [Value.oneCell']) (by decide) (by unfold maxLen; omega) (by omega) (by simp; omega) (wr.heap.size + 1) (by simp) ?_; intro gy1 capy1 y1 hown1 hgrow hat hlt1; have hap := HR.out.app HBn.out hgrow; have cx := hap.1 6; have fx := hap.2 6; rw [KOc 6] at cx; have Hown1 := Lib.hid hown1; have Hgrow := Lib.hid hgrow; clear hap hown1 hgrow hat; have hb3 := HR.out.app_bel HBn.out Hgrow.out; have KXy := KX.keep hb3; have KXyc := KXy.get; have KOy : ∀ j, y1.cell? ⟨W.heap.size, j, none⟩ = [Value.int .i64 w0, .int .i64 w1, .int .i64 w2, .int .i64 w3, .int .i64 w4, .int .i64 F, .slice B q c'][j]? := fun j => ((HR.out.app HBn.out Hgrow.out).1 j).trans (KOc j); have FXy : ∀ j, y1.frozen? ⟨w.heap.size + 2, j, none⟩ = false := fun j => (hb3.frozen (p := ⟨w.heap.size + 2, j, none⟩) b1).trans (HFX.out j); clear hb3)
        have hb3 := HR.out.app_bel HBn.out Hgrow.out
        have HR3 := Lib.hid ((HR.out.grow HBn.out).next Hgrow.out (l' := insG g gs) (by rw [HE.out, gcells_snoc]; exact Hown1.out))
        have P := put7 (y1.setCell ⟨W.heap.size, 6, none⟩ (.slice (some ⟨gy1, 0, none⟩) (q + 1) capy1)) (w.heap.size + 1 + 1) (.int .i64 w0) (.int .i64 w1) (.int .i64 w2) (.int .i64 w3) (.int .i64 w4) (.int .i64 F) (.slice (some ⟨gy1, 0, none⟩) (q + 1) capy1) (bk_some (bk_other KXy (by omega) _))
        have O := own_put7 (w := (y1.setCell ⟨W.heap.size, 6, none⟩ (.slice (some ⟨gy1, 0, none⟩) (q + 1) capy1))) (HR3.out.own) (b := w.heap.size + 1 + 1) (by omega) (.int .i64 w0) (.int .i64 w1) (.int .i64 w2) (.int .i64 w3) (.int .i64 w4) (.int .i64 F) (.slice (some ⟨gy1, 0, none⟩) (q + 1) capy1)
        have BB := put7_below (w := (y1.setCell ⟨W.heap.size, 6, none⟩ (.slice (some ⟨gy1, 0, none⟩) (q + 1) capy1))) (up HW.out HR3.out.bel) (by omega : _ ≤ w.heap.size + 1 + 1) (.int .i64 w0) (.int .i64 w1) (.int .i64 w2) (.int .i64 w3) (.int .i64 w4) (.int .i64 F) (.slice (some ⟨gy1, 0, none⟩) (q + 1) capy1)
        generalize World.setCell _ ⟨w.heap.size + 1 + 1, 6, none⟩ _ = U at P O BB ⊢
        have p0 := P 0 (by omega); have p1 := P 1 (by omega); have p2 := P 2 (by omega); have p3 := P 3 (by omega); have p4 := P 4 (by omega); have p5 := P 5 (by omega); have p6 := P 6 (by omega)
        clear P
        simp at p0 p1 p2 p3 p4 p5 p6
        refine bodyPost_ret (v := .agg #[.int .i64 w0, .int .i64 w1, .int .i64 w2, .int .i64 w3, .int .i64 w4, .int .i64 F, .slice (some ⟨gy1, 0, none⟩) (q + 1) capy1]) (by simp [results, Try.results91, go_sem, p0, p1, p2, p3, p4, p5, p6]) rfl ?_
        clear p0 p1 p2 p3 p4 p5 p6
        exact ⟨_, _, _, rfl, own_le O, own_mono O (by omega), BB⟩
      · have HE : Hid (withK g gs k = insG g gs) := Lib.hid (by rw [Hl.out] at hD ⊢; exact withK_all_t hD)
        clear hD
        have KM1l := KM1.lt; have KM1c := KM1.get; have KX1l := KX1.lt; have KX1c := KX1.get; have KG1l := KG1.lt; have KG1c := KG1.get; have KOl := KO.lt; have KOc := KO.get
        go_wp2
        have P := put7 wr (w.heap.size + 1 + 1) (.int .i64 w0) (.int .i64 w1) (.int .i64 w2) (.int .i64 w3) (.int .i64 w4) (.int .i64 F) (.slice B q c') (bk_some (KX1))
        have O := own_put7 (w := wr) (HR.out.own) (b := w.heap.size + 1 + 1) (by omega) (.int .i64 w0) (.int .i64 w1) (.int .i64 w2) (.int .i64 w3) (.int .i64 w4) (.int .i64 F) (.slice B q c')
        have BB := put7_below (w := wr) (up HW.out HR.out.bel) (by omega : _ ≤ w.heap.size + 1 + 1) (.int .i64 w0) (.int .i64 w1) (.int .i64 w2) (.int .i64 w3) (.int .i64 w4) (.int .i64 F) (.slice B q c')
        generalize World.setCell _ ⟨w.heap.size + 1 + 1, 6, none⟩ _ = U at P O BB ⊢
        have p0 := P 0 (by omega); have p1 := P 1 (by omega); have p2 := P 2 (by omega); have p3 := P 3 (by omega); have p4 := P 4 (by omega); have p5 := P 5 (by omega); have p6 := P 6 (by omega)
        clear P
        simp at p0 p1 p2 p3 p4 p5 p6
        refine bodyPost_ret (v := .agg #[.int .i64 w0, .int .i64 w1, .int .i64 w2, .int .i64 w3, .int .i64 w4, .int .i64 F, .slice B q c']) (by simp [results, Try.results91, go_sem, p0, p1, p2, p3, p4, p5, p6]) rfl ?_
        clear p0 p1 p2 p3 p4 p5 p6
        rw [HE.out] at O
        exact ⟨_, _, _, rfl, own_le O, own_mono O (by omega), BB⟩
    have hlt' : k < gs.length := by rw [← Hl.out]; exact hlt
    obtain ⟨bg, og, hAe, hbgW, hgaW⟩ := HG.out.get k hlt'
    subst hAe
    have HY : Hid (∀ R, Below W.heap.size W R → GivAt R bg (og + k * 7) gs[k] ∧ bg < R.heap.size) := Lib.hid (fun R hb => ⟨hgaW.keep fun j => hb.cell (p := ⟨bg, j, none⟩) hbgW, Nat.lt_of_lt_of_le hbgW hb.size⟩)
    clear hgaW HGr
    obtain ⟨⟨c0, c1, c2, c3, c4, c5, c6⟩, hbg⟩ := HY.out wr HR.out.bel
    have i1 : (0 : Int) ≤ (k : Int) := by omega
    have i2 : (k : Int) < (n : Int) := by omega
    cases hD : gtB g (gs.take k)
    · by_cases hx : g.o < gs[k].o
      · have Hnx := Lib.hid (withK_new Hne.out hlt' hD hx)
        have Hx := Lib.hid hx
        generalize gs[k] = y at *
        have HD := Lib.hid hD
        have hd1 : decide (g.o < y.o) = true := by simpa using Hx.out
        clear hD hlt' hx
        have KM1l := KM1.lt; have KM1c := KM1.get; have KX1l := KX1.lt; have KX1c := KX1.get; have KG1l := KG1.lt; have KG1c := KG1.get; have KOl := KO.lt; have KOc := KO.get
        go_wp2
        clear KM1l KM1c KX1l KX1c KG1l KG1c KOl KOc
        have KMc := KM1.get
        have KGc := KG1.get
        have l0 := KM1.lt
        have l1 := KG1.lt
        refine wp_region_grow (by kernel_rfl) (by kernel_rfl) ?_
        repeat (go_big_quiet_step ((fail)))
        refine wpQuiet_nil ?_
        intro z1
        clear KMc KGc l0 l1 c0 c1 c2 c3 c4 c5 c6 hbg
        have HbZ := Lib.hid (grow_below wr z1)
        have HR2 := Lib.hid (HR.out.grow HbZ.out)
        generalize grow wr z1 = R at *
        have KM2 := KM.keep HR2.out.bel
        have KG2 := KG.keep HR2.out.bel
        have KO2 := HR2.out.bk
        have KM2l := KM2.lt; have KM2c := KM2.get; have KG2l := KG2.lt; have KG2c := KG2.get; have KO2l := KO2.lt; have KO2c := KO2.get
        have hB : Below R.heap.size R (R.alloc (Obj.cells #[.int .i64 g.o, .int .i64 g.m0, .int .i64 g.m1, .int .i64 g.m2, .int .i64 g.m3, .int .i64 g.m4, .int .i64 g.m5] 30)) := by go_grown
        have HBn := Lib.hid hB
        clear hB
        go_wp2_with (at_builtin; refine wpList_append_lies _ rfl _ _ 24 rfl (W.heap.size + 1) 30 i0 (.agg #[.int .i64 0, .int .i64 0, .int .i64 0, .int .i64 0, .int .i64 0, .int .i64 0, .int .i64 0]) 7 56 Try.underlying24 HI0.out HZ0.out HZ1.out HZ2.out rfl (by decide) _ _ _ (by rfl) (HR2.out.own.alloc _) ⟨R.heap.size, 0, none⟩ 1 1 [.int .i64 g.o, .int .i64 g.m0, .int .i64 g.m1, .int .i64 g.m2, .int .i64 g.m3, .int .i64 g.m4, .int .i64 g.m5] (by rfl) rfl (World.news_of_block (cs := #[.int .i64 g.o, .int .i64 g.m0, .int .i64 g.m1, .int .i64 g.m2, .int .i64 g.m3, .int .i64 g.m4, .int .i64 g.m5]) (t := 30) (fr := (0, 0)) (heap_alloc_new R _)) (by simp [Value.oneCell']) (by decide) (by unfold maxLen; omega) (by omega) (by simp; omega) (R.heap.size + 1) (by simp) ?_; intro gy1 capy1 y1 hown1 hgrow hat hlt1; have hap := HR2.out.app HBn.out hgrow; have cx := hap.1 6; have fx := hap.2 6; rw [KO2c 6] at cx; have Hown1 := Lib.hid hown1; have Hgrow := Lib.hid hgrow; clear hap hown1 hgrow hat)
        clear KM2l KM2c KG2l KG2c KO2l KO2c
        have HR3 := Lib.hid ((HR2.out.grow HBn.out).next Hgrow.out (l' := withK g gs k ++ [g]) (by rw [gcells_snoc]; exact Hown1.out))
        clear cx fx HBn Hown1 Hgrow
        generalize (World.setCell y1 ⟨W.heap.size, 6, none⟩ (.slice (some ⟨gy1, 0, none⟩) (q + 1) capy1)) = R3 at *
        have KM3 := KM.keep HR3.out.bel
        have KO3 := HR3.out.bk
        obtain ⟨⟨c0, c1, c2, c3, c4, c5, c6⟩, hbg⟩ := HY.out R3 HR3.out.bel
        have KM3l := KM3.lt; have KM3c := KM3.get; have KO3l := KO3.lt; have KO3c := KO3.get
        clear KM1 KG1 KX1 KO
        refine wp_region_takes 8 7 [0,1,2,3,4,5,6] _ (by kernel_rfl) (by kernel_rfl) (by kernel_rfl) (by kernel_rfl) (by decide) (by decide) (fun d _ _ _ _ h => by cases d <;> exact h) (by kernel_rfl) rfl rfl (by kernel_rfl) (by kernel_rfl) (by kernel_rfl) rfl (makes_slice Try.underlying24 HI0.out HZ0.out rfl (by rw [HZ1.out]; decide)) ?_
        refine wpTakes_step (v := ?_) rfl (by rfl) ?_ ?_
        rotate_left
        · (rintro _ ⟨z9, rfl⟩; go_simp; try (with_reducible rfl))
        simp only [Act.put, List.setIfInBounds_toArray, List.set_cons_zero, List.set_cons_succ]
        refine wpTakes_step (v := ?_) rfl (by rfl) ?_ ?_
        rotate_left
        · (rintro _ ⟨z9, rfl⟩; go_simp; try (with_reducible rfl))
        simp only [Act.put, List.setIfInBounds_toArray, List.set_cons_zero, List.set_cons_succ]
        refine wpTakes_step (v := ?_) rfl (by rfl) ?_ ?_
        rotate_left
        · (rintro _ ⟨z9, rfl⟩; go_simp; try (with_reducible rfl))
        simp only [Act.put, List.setIfInBounds_toArray, List.set_cons_zero, List.set_cons_succ]
        refine wpTakes_step (v := ?_) rfl (by rfl) ?_ ?_
        rotate_left
        · (rintro _ ⟨z9, rfl⟩; go_simp; try (with_reducible rfl))
        simp only [Act.put, List.setIfInBounds_toArray, List.set_cons_zero, List.set_cons_succ]
        refine wpTakes_step (v := ?_) rfl (by rfl) ?_ ?_
        rotate_left
        · (rintro _ ⟨z9, rfl⟩; go_simp; try (with_reducible rfl))
        simp only [Act.put, List.setIfInBounds_toArray, List.set_cons_zero, List.set_cons_succ]
        refine wpTakes_step (v := ?_) rfl (by rfl) ?_ ?_
        rotate_left
        · (rintro _ ⟨z9, rfl⟩; go_simp; try (with_reducible rfl))
        simp only [Act.put, List.setIfInBounds_toArray, List.set_cons_zero, List.set_cons_succ]
        refine wpTakes_step (v := ?_) rfl (by rfl) ?_ ?_
        rotate_left
        · (rintro _ ⟨z9, rfl⟩; go_simp; try (with_reducible rfl))
        simp only [Act.put, List.setIfInBounds_toArray, List.set_cons_zero, List.set_cons_succ]
        simp only [wpTakes, List.drop_succ_cons, List.drop_zero]
        clear c0 c1 c2 c3 c4 c5 c6
        have hB : Below R3.heap.size R3 ((R3.alloc (Obj.cells #[.int .i64 y.o, .int .i64 y.m0, .int .i64 y.m1, .int .i64 y.m2, .int .i64 y.m3, .int .i64 y.m4, .int .i64 y.m5] 30)).drew) := by go_grown
        have HBn := Lib.hid hB
        clear hB
        go_wp2_with (at_builtin; refine wpList_append_lies _ rfl _ _ 24 rfl (W.heap.size + 1) 30 i0 (.agg #[.int .i64 0, .int .i64 0, .int .i64 0, .int .i64 0, .int .i64 0, .int .i64 0, .int .i64 0]) 7 56 Try.underlying24 HI0.out HZ0.out HZ1.out HZ2.out rfl (by decide) _ _ _ (by rfl) ((HR3.out.own.alloc _).drew) ⟨R3.heap.size, 0, none⟩ 1 1 [.int .i64 y.o, .int .i64 y.m0, .int .i64 y.m1, .int .i64 y.m2, .int .i64 y.m3, .int .i64 y.m4, .int .i64 y.m5] (by rfl) rfl (World.news_of_block (cs := #[.int .i64 y.o, .int .i64 y.m0, .int .i64 y.m1, .int .i64 y.m2, .int .i64 y.m3, .int .i64 y.m4, .int .i64 y.m5]) (t := 30) (fr := (0, 0)) (heap_alloc_new R3 _)) (by simp [Value.oneCell']) (by decide) (by unfold maxLen; omega) (by omega) (by simp; omega) (R3.heap.size + 1) (by simp) ?_; intro gy2 capy2 y2 hown1 hgrow hat hlt1; have hap := HR3.out.app HBn.out hgrow; have cx := hap.1 6; have fx := hap.2 6; rw [KO3c 6] at cx; have Hown1 := Lib.hid hown1; have Hgrow := Lib.hid hgrow; clear hap hown1 hgrow hat)
        exact ⟨⟨k + 1, q + 1 + 1, capy2, _, by omega, congrArg Value.bool Hnx.out.2.symm, by go_num, by rw [Hnx.out.1]; exact (HR3.out.grow HBn.out).next Hgrow.out (by rw [gcells_snoc]; exact Hown1.out)⟩, by simp [intOf]; omega⟩
      · have Hnx := Lib.hid (withK_no hlt' hD hx)
        have Hx := Lib.hid hx
        generalize gs[k] = y at *
        have HD := Lib.hid hD
        have hd1 : decide (g.o < y.o) = false := by simpa using Hx.out
        clear hD hlt' hx
        have KM1l := KM1.lt; have KM1c := KM1.get; have KX1l := KX1.lt; have KX1c := KX1.get; have KG1l := KG1.lt; have KG1c := KG1.get; have KOl := KO.lt; have KOc := KO.get
        go_wp2
        clear KM1l KM1c KX1l KX1c KG1l KG1c KOl KOc
        have KMc := KM1.get
        have KGc := KG1.get
        have l0 := KM1.lt
        have l1 := KG1.lt
        refine wp_region_grow (by kernel_rfl) (by kernel_rfl) ?_
        repeat (go_big_quiet_step ((fail)))
        refine wpQuiet_nil ?_
        intro z1
        clear KMc KGc l0 l1 c0 c1 c2 c3 c4 c5 c6 hbg
        have HbZ := Lib.hid (grow_below wr z1)
        have HR2 := Lib.hid (HR.out.grow HbZ.out)
        generalize grow wr z1 = R at *
        have KM2 := KM.keep HR2.out.bel
        have KO2 := HR2.out.bk
        obtain ⟨⟨c0, c1, c2, c3, c4, c5, c6⟩, hbg⟩ := HY.out R HR2.out.bel
        have KM2l := KM2.lt; have KM2c := KM2.get; have KO2l := KO2.lt; have KO2c := KO2.get
        clear KM1 KG1 KX1 KO
        go_wp2
        refine wp_region_takes 8 7 [0,1,2,3,4,5,6] _ (by kernel_rfl) (by kernel_rfl) (by kernel_rfl) (by kernel_rfl) (by decide) (by decide) (fun d _ _ _ _ h => by cases d <;> exact h) (by kernel_rfl) rfl rfl (by kernel_rfl) (by kernel_rfl) (by kernel_rfl) rfl (makes_slice Try.underlying24 HI0.out HZ0.out rfl (by rw [HZ1.out]; decide)) ?_
        refine wpTakes_step (v := ?_) rfl (by rfl) ?_ ?_
        rotate_left
        · (rintro _ ⟨z9, rfl⟩; go_simp; try (with_reducible rfl))
        simp only [Act.put, List.setIfInBounds_toArray, List.set_cons_zero, List.set_cons_succ]
        refine wpTakes_step (v := ?_) rfl (by rfl) ?_ ?_
        rotate_left
        · (rintro _ ⟨z9, rfl⟩; go_simp; try (with_reducible rfl))
        simp only [Act.put, List.setIfInBounds_toArray, List.set_cons_zero, List.set_cons_succ]
        refine wpTakes_step (v := ?_) rfl (by rfl) ?_ ?_
        rotate_left
        · (rintro _ ⟨z9, rfl⟩; go_simp; try (with_reducible rfl))
        simp only [Act.put, List.setIfInBounds_toArray, List.set_cons_zero, List.set_cons_succ]
        refine wpTakes_step (v := ?_) rfl (by rfl) ?_ ?_
        rotate_left
        · (rintro _ ⟨z9, rfl⟩; go_simp; try (with_reducible rfl))
        simp only [Act.put, List.setIfInBounds_toArray, List.set_cons_zero, List.set_cons_succ]
        refine wpTakes_step (v := ?_) rfl (by rfl) ?_ ?_
        rotate_left
        · (rintro _ ⟨z9, rfl⟩; go_simp; try (with_reducible rfl))
        simp only [Act.put, List.setIfInBounds_toArray, List.set_cons_zero, List.set_cons_succ]
        refine wpTakes_step (v := ?_) rfl (by rfl) ?_ ?_
        rotate_left
        · (rintro _ ⟨z9, rfl⟩; go_simp; try (with_reducible rfl))
        simp only [Act.put, List.setIfInBounds_toArray, List.set_cons_zero, List.set_cons_succ]
        refine wpTakes_step (v := ?_) rfl (by rfl) ?_ ?_
        rotate_left
        · (rintro _ ⟨z9, rfl⟩; go_simp; try (with_reducible rfl))
        simp only [Act.put, List.setIfInBounds_toArray, List.set_cons_zero, List.set_cons_succ]
        simp only [wpTakes, List.drop_succ_cons, List.drop_zero]
        clear c0 c1 c2 c3 c4 c5 c6
        have hB : Below R.heap.size R ((R.alloc (Obj.cells #[.int .i64 y.o, .int .i64 y.m0, .int .i64 y.m1, .int .i64 y.m2, .int .i64 y.m3, .int .i64 y.m4, .int .i64 y.m5] 30)).drew) := by go_grown
        have HBn := Lib.hid hB
        clear hB
        go_wp2_with (at_builtin; refine wpList_append_lies _ rfl _ _ 24 rfl (W.heap.size + 1) 30 i0 (.agg #[.int .i64 0, .int .i64 0, .int .i64 0, .int .i64 0, .int .i64 0, .int .i64 0, .int .i64 0]) 7 56 Try.underlying24 HI0.out HZ0.out HZ1.out HZ2.out rfl (by decide) _ _ _ (by rfl) ((HR2.out.own.alloc _).drew) ⟨R.heap.size, 0, none⟩ 1 1 [.int .i64 y.o, .int .i64 y.m0, .int .i64 y.m1, .int .i64 y.m2, .int .i64 y.m3, .int .i64 y.m4, .int .i64 y.m5] (by rfl) rfl (World.news_of_block (cs := #[.int .i64 y.o, .int .i64 y.m0, .int .i64 y.m1, .int .i64 y.m2, .int .i64 y.m3, .int .i64 y.m4, .int .i64 y.m5]) (t := 30) (fr := (0, 0)) (heap_alloc_new R _)) (by simp [Value.oneCell']) (by decide) (by unfold maxLen; omega) (by omega) (by simp; omega) (R.heap.size + 1) (by simp) ?_; intro gy1 capy1 y1 hown1 hgrow hat hlt1; have hap := HR2.out.app HBn.out hgrow; have cx := hap.1 6; have fx := hap.2 6; rw [KO2c 6] at cx; have Hown1 := Lib.hid hown1; have Hgrow := Lib.hid hgrow; clear hap hown1 hgrow hat)
        exact ⟨⟨k + 1, q + 1, capy1, _, by omega, congrArg Value.bool Hnx.out.2.symm, by go_num, by rw [Hnx.out.1]; exact (HR2.out.grow HBn.out).next Hgrow.out (by rw [gcells_snoc]; exact Hown1.out)⟩, by simp [intOf]; omega⟩
    · have Hnx := Lib.hid (withK_put hlt' hD)
      generalize gs[k] = y at *
      have HD := Lib.hid hD
      clear hD hlt'
      have KM1l := KM1.lt; have KM1c := KM1.get; have KX1l := KX1.lt; have KX1c := KX1.get; have KG1l := KG1.lt; have KG1c := KG1.get; have KOl := KO.lt; have KOc := KO.get
      go_wp2
      clear KM1l KM1c KX1l KX1c KG1l KG1c KOl KOc
      have KMc := KM1.get
      have KGc := KG1.get
      have l0 := KM1.lt
      have l1 := KG1.lt
      refine wp_region_grow (by kernel_rfl) (by kernel_rfl) ?_
      repeat (go_big_quiet_step ((fail)))
      refine wpQuiet_nil ?_
      intro z1
      clear KMc KGc l0 l1 c0 c1 c2 c3 c4 c5 c6 hbg
      have HbZ := Lib.hid (grow_below wr z1)
      have HR2 := Lib.hid (HR.out.grow HbZ.out)
      generalize grow wr z1 = R at *
      have KM2 := KM.keep HR2.out.bel
      have KO2 := HR2.out.bk
      obtain ⟨⟨c0, c1, c2, c3, c4, c5, c6⟩, hbg⟩ := HY.out R HR2.out.bel
      have KM2l := KM2.lt; have KM2c := KM2.get; have KO2l := KO2.lt; have KO2c := KO2.get
      clear KM1 KG1 KX1 KO
      go_wp2
      refine wp_region_takes 8 7 [0,1,2,3,4,5,6] _ (by kernel_rfl) (by kernel_rfl) (by kernel_rfl) (by kernel_rfl) (by decide) (by decide) (fun d _ _ _ _ h => by cases d <;> exact h) (by kernel_rfl) rfl rfl (by kernel_rfl) (by kernel_rfl) (by kernel_rfl) rfl (makes_slice Try.underlying24 HI0.out HZ0.out rfl (by rw [HZ1.out]; decide)) ?_
      refine wpTakes_step (v := ?_) rfl (by rfl) ?_ ?_
      rotate_left
      · (rintro _ ⟨z9, rfl⟩; go_simp; try (with_reducible rfl))
      simp only [Act.put, List.setIfInBounds_toArray, List.set_cons_zero, List.set_cons_succ]
      refine wpTakes_step (v := ?_) rfl (by rfl) ?_ ?_
      rotate_left
      · (rintro _ ⟨z9, rfl⟩; go_simp; try (with_reducible rfl))
      simp only [Act.put, List.setIfInBounds_toArray, List.set_cons_zero, List.set_cons_succ]
      refine wpTakes_step (v := ?_) rfl (by rfl) ?_ ?_
      rotate_left
      · (rintro _ ⟨z9, rfl⟩; go_simp; try (with_reducible rfl))
      simp only [Act.put, List.setIfInBounds_toArray, List.set_cons_zero, List.set_cons_succ]
      refine wpTakes_step (v := ?_) rfl (by rfl) ?_ ?_
      rotate_left
      · (rintro _ ⟨z9, rfl⟩; go_simp; try (with_reducible rfl))
      simp only [Act.put, List.setIfInBounds_toArray, List.set_cons_zero, List.set_cons_succ]
      refine wpTakes_step (v := ?_) rfl (by rfl) ?_ ?_
      rotate_left
      · (rintro _ ⟨z9, rfl⟩; go_simp; try (with_reducible rfl))
      simp only [Act.put, List.setIfInBounds_toArray, List.set_cons_zero, List.set_cons_succ]
      refine wpTakes_step (v := ?_) rfl (by rfl) ?_ ?_
      rotate_left
      · (rintro _ ⟨z9, rfl⟩; go_simp; try (with_reducible rfl))
      simp only [Act.put, List.setIfInBounds_toArray, List.set_cons_zero, List.set_cons_succ]
      refine wpTakes_step (v := ?_) rfl (by rfl) ?_ ?_
      rotate_left
      · (rintro _ ⟨z9, rfl⟩; go_simp; try (with_reducible rfl))
      simp only [Act.put, List.setIfInBounds_toArray, List.set_cons_zero, List.set_cons_succ]
      simp only [wpTakes, List.drop_succ_cons, List.drop_zero]
      clear c0 c1 c2 c3 c4 c5 c6
      have hB : Below R.heap.size R ((R.alloc (Obj.cells #[.int .i64 y.o, .int .i64 y.m0, .int .i64 y.m1, .int .i64 y.m2, .int .i64 y.m3, .int .i64 y.m4, .int .i64 y.m5] 30)).drew) := by go_grown
      have HBn := Lib.hid hB
      clear hB
      go_wp2_with (at_builtin; refine wpList_append_lies _ rfl _ _ 24 rfl (W.heap.size + 1) 30 i0 (.agg #[.int .i64 0, .int .i64 0, .int .i64 0, .int .i64 0, .int .i64 0, .int .i64 0, .int .i64 0]) 7 56 Try.underlying24 HI0.out HZ0.out HZ1.out HZ2.out rfl (by decide) _ _ _ (by rfl) ((HR2.out.own.alloc _).drew) ⟨R.heap.size, 0, none⟩ 1 1 [.int .i64 y.o, .int .i64 y.m0, .int .i64 y.m1, .int .i64 y.m2, .int .i64 y.m3, .int .i64 y.m4, .int .i64 y.m5] (by rfl) rfl (World.news_of_block (cs := #[.int .i64 y.o, .int .i64 y.m0, .int .i64 y.m1, .int .i64 y.m2, .int .i64 y.m3, .int .i64 y.m4, .int .i64 y.m5]) (t := 30) (fr := (0, 0)) (heap_alloc_new R _)) (by simp [Value.oneCell']) (by decide) (by unfold maxLen; omega) (by omega) (by simp; omega) (R.heap.size + 1) (by simp) ?_; intro gy1 capy1 y1 hown1 hgrow hat hlt1; have hap := HR2.out.app HBn.out hgrow; have cx := hap.1 6; have fx := hap.2 6; rw [KO2c 6] at cx; have Hown1 := Lib.hid hown1; have Hgrow := Lib.hid hgrow; clear hap hown1 hgrow hat)
      exact ⟨⟨k + 1, q + 1, capy1, _, by omega, congrArg Value.bool Hnx.out.2.symm, by go_num, by rw [Hnx.out.1]; exact (HR2.out.grow HBn.out).next Hgrow.out (by rw [gcells_snoc]; exact Hown1.out)⟩, by simp [intOf]; omega⟩
end Go.Proofs.Ytbieopkohkomoaa

