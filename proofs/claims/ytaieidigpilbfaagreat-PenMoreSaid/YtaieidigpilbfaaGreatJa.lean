/- Contracts of functions of the program and of the reference, and plain facts: a part of a proof. Own text. -/
import Derived.WalkKit
import Derived.WalkSpells
import Derived.Handy
import Derived.Deep.Quiet
import Derived.Deep.QuietTactic
import Derived.BigQuiet
import Derived.StillTail
import Derived.Lib.Hide
import Derived.Test.YtaieidigpilbfaaGreatProg
import Derived.Carry
import Derived.OwnWalk
import Derived.Deep.Cut
import Derived.RangeFuncNested
import Derived.RangeFuncBound
import Derived.RangeFuncCalls
import Derived.RangeFuncLeaves
import Derived.Shelf.Abstract
import Derived.Shelf.RegionOpen
import Derived.OwnWalkIn
import Derived.TacticsInMore
import Derived.LoopNIn
import Derived.LoopIn
import Derived.CallsIn
set_option linter.unusedVariables false
set_option linter.unusedSimpArgs false
set_option linter.unusedSectionVars false
namespace Go.Proofs.YtaieidigpilbfaaGreat
open Go Go.RowKit

section tail
variable {P : Program} {ops : Array Oper} {md : Region.Mode} {C : World → Prop}

/-- Each operation of the head is quiet in the class, in whatever order; L is reached when the head is done. -/
def headAny (P : Program) (md : Region.Mode) (ops : Array Oper) (C : World → Prop) (n : Nat) (L : Array Bool → Act → Prop) : Nat → Array Bool → Act → Prop
  | 0, done, a => L done a
  | f + 1, done, a => Region.ready md ops done ≠ [] ∧
      ∀ i, i ∈ Region.ready md ops done → i < n ∧ qOp P ops C i (headAny P md ops C n L f (done.setIfInBounds i true)) a

theorem headAny_sound {n g : Nat} {L : Array Bool → Act → Prop} {Q : Exit → Act → World → Prop}
    (hL : ∀ done a w, C w → L done a → wpAny P md ops Q g done a w) (f : Nat) :
    ∀ done a w, C w → headAny P md ops C n L f done a → wpAny P md ops Q (f + g) done a w := by
  induction f with
  | zero => intro done a w hw h; rw [Nat.zero_add]; exact hL _ _ _ hw h
  | succ f ih =>
    intro done a w hw h
    have e : f + 1 + g = (f + g) + 1 := by omega
    rw [e]
    refine ⟨fun h0 => absurd h0 h.1, fun i hi => ?_⟩
    exact wpOp_of_qOp hw (fun a' w' hw' hk => ih _ a' w' hw' hk) (h.2 i hi).2

theorem headAny_take {n i : Nat} {oi : Oper} {v : Value} {L : Array Bool → Act → Prop} (hi : ops[i]? = some oi)
    (hsel : ∀ (j : Nat) (o : Oper) cs b, ops[j]? = some o → o.op ≠ .select cs b)
    (hs : Region.sinkB md ops n = true) (hc : Region.chainB md ops n = true) (hn : n < ops.size) (hin : i < n)
    (hend : ∀ done a, L done a → ∀ j ∈ Region.ready md ops done, n ≤ j) (f : Nat) :
    ∀ (done : Array Bool) (a : Act), HeadInv md ops n done →
      (∀ j oj, ops[j]? = some oj → j ≠ i → done.getD j true = false → (∀ e ∈ oj.after, Region.binds md e = true → e.on ≠ i) → oi.apart ops oj = true) →
      i ∈ Region.ready md ops done → YieldsIn P ops C oi v a →
      headAny P md ops C n L f (done.setIfInBounds i true) (a.put oi.dst v) → headAny P md ops C n L (f + 1) done a := by
  have early : ∀ (done : Array Bool), HeadInv md ops n done → i ∈ Region.ready md ops done → ∀ j ∈ Region.ready md ops done, j < n := by
    intro done inv hr j hj
    by_cases h : j < n
    · exact h
    · exact absurd hj (tail_waits hs hc hn inv _ i rfl hin (mem_ready.1 hr).1 j (by omega))
  induction f with
  | zero =>
    intro done a inv _ hr hy H
    refine ⟨List.ne_nil_of_mem hr, fun j hj => ⟨early done inv hr j hj, ?_⟩⟩
    rcases Nat.decEq j i with hji | hji
    · have := hend _ _ H j (ready_mono hj hji)
      have := early done inv hr j hj
      omega
    · subst hji; exact hy.qOp hi H
  | succ f ih =>
    intro done a inv hfree hr hy H
    refine ⟨List.ne_nil_of_mem hr, fun j hj => ⟨early done inv hr j hj, ?_⟩⟩
    rcases Nat.decEq j i with hji | hji
    · have h1 := (H.2 j (ready_mono hj hji)).2
      obtain ⟨hjun, oj, hoj, hall⟩ := mem_ready.1 hj
      have hnot : ∀ e ∈ oj.after, Region.binds md e = true → e.on ≠ i := by
        intro e he hb heq
        have h3 := hall e he hb
        rw [heq, getD_both (mem_ready.1 hr).1] at h3
        cases h3
      have h2 := qOp_put hoj (hfree j oj hoj hji hjun hnot) (fun cs b => hsel i oi cs b hi) (fun cs b => hsel j oj cs b hoj) hy h1
      refine qOp_mono (fun a' h3 => ih (done.setIfInBounds j true) a' (inv.set hj (early done inv hr j hj)) ?_ (ready_mono hr (Ne.symm hji)) h3.1 ?_) h2
      · intro k ok hk hki hun hno
        refine hfree k ok hk hki ?_ hno
        rcases Nat.decEq j k with hjk | hjk
        · rwa [getD_set_ne true hjk] at hun
        · subst hjk; exact hjun
      · rw [Array.setIfInBounds_comm _ _ hji]; exact h3.2
    · subst hji; exact hy.qOp hi H

theorem headAny_lex {n g : Nat} {G : Act → Prop} (hsel : Region.noSelect ops = true) (hs : Region.sinkB md ops n = true) (hc : Region.chainB md ops n = true) (hn : n < ops.size) (l : List Oper) :
    ∀ (k : Nat) (done : Array Bool) (a : Act), (∀ j, j < l.length → l[j]? = ops[k + j]?) → k + l.length = n → HeadInv md ops n done →
    Region.lexHead md ops g l.length k done = true → wpQuiet P ops C G l a →
    headAny P md ops C n (fun d a' => Region.seqB md ops g n d = true ∧ G a') l.length done a := by
  induction l with
  | nil =>
    intro k done a _ hk _ hB h
    obtain rfl : k = n := by simpa using hk
    exact ⟨by simpa [Region.lexHead] using hB, h⟩
  | cons o l ih =>
    intro k done a hl hk inv hB h
    have h0 : ops[k]? = some o := by simpa using (hl 0 (by simp)).symm
    simp only [List.length_cons, Region.lexHead, Bool.and_eq_true] at hB
    have hr : k ∈ Region.ready md ops done := by simpa using hB.1.1
    have hkn : k < n := by simp only [List.length_cons] at hk; omega
    have hq : qOp P ops C k (wpQuiet P ops C G l) a := by unfold qOp; simp only [h0]; exact h
    obtain ⟨v, hy, hK⟩ := yieldsIn_of_qOp h0 hq
    refine headAny_take h0 (Region.noSelect_spec hsel) hs hc hn hkn (fun d a' hL => seqB_ready hL.1) l.length done a inv (Region.free_spec h0 hB.1.2) hr hy ?_
    refine ih (k + 1) _ _ (fun j hj => ?_) (by simp only [List.length_cons] at hk; omega) (inv.set hr hkn) hB.2 hK
    have := hl (j + 1) (by simp; omega)
    simpa [Nat.add_assoc, Nat.add_comm 1 j] using this

/-- THE RULE: the first n operations quiet in the class, walked once in the text's order; the others follow in their one order. -/
theorem wp_region_head_tail {id : Nat} {Q : Exit → Act → World → Prop} {a : Act} {w : World} {l : List Oper} (n : Nat) (hm : P.follows .mixedOrders = true)
    (hB : Region.lexTailB .any l.toArray n = true) (hC : C { w with drawn := w.drawn + 1 })
    (h : wpQuiet P l.toArray C (fun a' => ∀ w', C w' → wpList P l.toArray Q (l.drop n) a' w') (l.take n) a) : (Code.region id l.toArray true).wp P Q a w := by
  simp only [Region.lexTailB, Bool.and_eq_true, decide_eq_true_eq] at hB
  obtain ⟨⟨⟨⟨hsel, hn⟩, hs⟩, hc⟩, hlex⟩ := hB
  have hn' : n < l.length := by simpa using hn
  have htl : (l.take n).length = n := by simp; omega
  have hdl : (l.drop n).length = l.toArray.size - n := by simp
  have inv0 : HeadInv .any l.toArray n (Array.replicate l.toArray.size false) :=
    { size := by simp
      closed := fun j oj _ hl => by rw [getD_replicate_false] at hl; cases hl
      tail := fun t _ ht => getD_in (by simpa using ht) (getD_replicate_false _ _) }
  have H := headAny_lex (md := .any) (C := C) (g := l.toArray.size - n) hsel hs hc hn (l.take n) 0 _ a
    (fun j hj => by rw [htl] at hj; simp [hj]) (by simpa using htl) inv0 (by rw [htl]; exact hlex) h
  refine wp_region_any hm ?_
  have S := headAny_sound (Q := Q) (g := l.toArray.size - n) (fun d a' w' hw' hL => by
    have := wpAny_of_seq (md := .any) (Q' := Q) (l.drop n) n d a' w' (fun j => by simp [List.getElem?_drop]) (by rw [hdl]; exact hL.1) (hL.2 w' hw')
    rwa [hdl] at this) _ _ _ _ hC H
  rw [htl, show n + (l.toArray.size - n) = l.toArray.size by omega] at S
  exact S

/-- No tail. -/
theorem wp_region_head {id : Nat} {Q : Exit → Act → World → Prop} {a : Act} {w : World} {l : List Oper} (hm : P.follows .mixedOrders = true)
    (hB : Region.lexB .any l.toArray = true) (hC : C { w with drawn := w.drawn + 1 })
    (h : wpQuiet P l.toArray C (fun a' => ∀ w', C w' → Q .normal a' w') l a) : (Code.region id l.toArray true).wp P Q a w :=
  wp_region_quiet (C := C) hm hB hC (by simpa using h)
end tail
end Go.Proofs.YtaieidigpilbfaaGreat

namespace Go.Proofs.YtaieidigpilbfaaGreat
open Go Go.RowKit
set_option maxHeartbeats 400000
set_option maxRecDepth 100000

/-- Reading one cell of an array by value. -/
theorem index_lit {P : Program} (w : World) {t e : TypeId} {n : Nat} (cs : Array Value) (i : Int) (ht : P.underlying t = some (.array n e)) (he : P.plainKey e = true) (hc : (sizeOf e).run P w = .ok 1 w)
    (h0 : 0 ≤ i) (h1 : i < n) (h2 : i.toNat < cs.size) :
    (Instr.index t (.agg cs) (.int .i64 i)).run P w = .ok (cs.getD i.toNat undef) w := by
  have hx : cs[i.toNat]? = some (cs.getD i.toNat undef) := by simp [h2]
  have hp := run_part_plain (P := P) (w := w) he hx
  simp only [Instr.index, asIntOf]
  simp [run_underlying ht, h0, h1, hc]
  simpa using hp

/-! ### Worlds that have grown -/
/-- Words that simp does not turn. -/
def cell2 (w : World) (b o : Nat) : Option Value := w.cell? ⟨b, o, none⟩
def frozen2 (w : World) (b o : Nat) : Bool := w.frozen? ⟨b, o, none⟩
/-- What a world grows by: new blocks; and its count of draws. -/
structure Gr where
  blocks : Array Obj
  count : Nat
instance : Inhabited Gr := ⟨⟨#[], 0⟩⟩
/-- w with new blocks and another count of draws. -/
def grow (w : World) (z : Gr) : World := { w with heap := w.heap ++ z.blocks, drawn := z.count }

theorem below_grow {w w' : World} (h : Below w.heap.size w w') : ∃ z, w' = grow w z := by
  refine ⟨⟨w'.heap.extract w.heap.size w'.heap.size, w'.drawn⟩, ?_⟩
  have hh : w'.heap = w.heap ++ w'.heap.extract w.heap.size w'.heap.size := by
    apply Array.ext_getElem?
    intro i
    rw [Array.getElem?_append]
    have := h.size
    split
    · rename_i hi; exact h.block i hi
    · rename_i hi
      rw [Array.getElem?_extract]
      by_cases h2 : i < w'.heap.size
      · rw [if_pos (by omega)]; congr 1; omega
      · rw [if_neg (by omega)]; simp; omega
  obtain ⟨a, b, c, d, e⟩ := w'
  simp only [grow, World.mk.injEq] at *
  exact ⟨hh, h.tape, trivial, h.os, h.output⟩

theorem grow_below (w : World) (z : Gr) : Below w.heap.size w (grow w z) :=
  ⟨rfl, rfl, rfl, by simp [grow], fun k hk => by simp [grow, Array.getElem?_append, hk]⟩

theorem grow_grow (w : World) (z y : Gr) : ∃ x, grow (grow w z) y = grow w x :=
  below_grow ((grow_below w z).trans ((grow_below (grow w z) y).mono (by simp [grow])))

@[go_sem, simp] theorem grow_size (w : World) (z : Gr) : (grow w z).heap.size = w.heap.size + z.blocks.size := by simp [grow]
theorem grow_cell_lt (w : World) (z : Gr) (b o : Nat) (h : b < w.heap.size) : (grow w z).cell? ⟨b, o, none⟩ = w.cell? ⟨b, o, none⟩ :=
  (grow_below w z).cell (p := ⟨b, o, none⟩) h
theorem grow_frozen_lt (w : World) (z : Gr) (b o : Nat) (h : b < w.heap.size) : (grow w z).frozen? ⟨b, o, none⟩ = w.frozen? ⟨b, o, none⟩ :=
  (grow_below w z).frozen (p := ⟨b, o, none⟩) h
@[go_sem] theorem grow_cell (w : World) (z : Gr) (b o : Nat) : (grow w z).cell? ⟨b, o, none⟩ = if b < w.heap.size then w.cell? ⟨b, o, none⟩ else cell2 (grow w z) b o := by
  split
  · exact grow_cell_lt w z b o (by assumption)
  · rfl
@[go_sem] theorem grow_frozen (w : World) (z : Gr) (b o : Nat) : (grow w z).frozen? ⟨b, o, none⟩ = if b < w.heap.size then w.frozen? ⟨b, o, none⟩ else frozen2 (grow w z) b o := by
  split
  · exact grow_frozen_lt w z b o (by assumption)
  · rfl

/-- A call's contract in the class of the worlds that have grown out of w. -/
theorem quiet_grow {P : Program} {f : FuncId} {args : Array Value} {w w1 : World} {v : Value} {z : Gr} (hz : w1 = grow w z)
    (h : Calls P f args w1 fun e w' => e = .returned v ∧ Below w1.heap.size w1 w') : Calls P f args w1 fun e w' => e = .returned v ∧ ∃ y, w' = grow w y :=
  h.mono fun e w' ⟨he, hb⟩ => ⟨he, by subst hz; obtain ⟨y, hy⟩ := below_grow hb; subst hy; exact grow_grow w z y⟩

/-- A region in any order: what only reads, and calls that make memory of their own, ahead of a tail of one order. -/
theorem wp_region_grow_tail {P : Program} {id : Nat} {Q : Exit → Act → World → Prop} {a : Act} {w : World} {l : List Oper} (n : Nat) (hm : P.follows .mixedOrders = true)
    (hB : Region.lexTailB .any l.toArray n = true)
    (h : wpQuiet P l.toArray (fun w' => ∃ z, w' = grow w z) (fun a' => ∀ z, wpList P l.toArray Q (l.drop n) a' (grow w z)) (l.take n) a) : (Code.region id l.toArray true).wp P Q a w := by
  refine wp_region_head_tail (C := fun w' => ∃ z, w' = grow w z) n hm hB ⟨⟨#[], w.drawn + 1⟩, by simp [grow]⟩ ?_
  have e : (fun a' => ∀ z, wpList P l.toArray Q (l.drop n) a' (grow w z)) = (fun a' => ∀ w', (∃ z, w' = grow w z) → wpList P l.toArray Q (l.drop n) a' w') := by
    funext a'; exact propext ⟨fun h w' ⟨z, hz⟩ => hz ▸ h z, fun h z => h _ ⟨z, rfl⟩⟩
  rw [← e]; exact h
/-- The same without a tail. -/
theorem wp_region_grow {P : Program} {id : Nat} {Q : Exit → Act → World → Prop} {a : Act} {w : World} {l : List Oper} (hm : P.follows .mixedOrders = true)
    (hB : Region.lexB .any l.toArray = true)
    (h : wpQuiet P l.toArray (fun w' => ∃ z, w' = grow w z) (fun a' => ∀ z, Q .normal a' (grow w z)) l a) : (Code.region id l.toArray true).wp P Q a w := by
  refine wp_region_head (C := fun w' => ∃ z, w' = grow w z) hm hB ⟨⟨#[], w.drawn + 1⟩, by simp [grow]⟩ ?_
  have e : (fun a' => ∀ z, Q .normal a' (grow w z)) = (fun a' => ∀ w', (∃ z, w' = grow w z) → Q .normal a' w') := by
    funext a'; exact propext ⟨fun h w' ⟨z, hz⟩ => hz ▸ h z, fun h z => h _ ⟨z, rfl⟩⟩
  rw [← e]; exact h

/-- A contract that leaves the world alone, as one that lets it grow. -/
theorem still_grow {P : Program} {f : FuncId} {args : Array Value} {w : World} {v : Value}
    (h : Calls P f args w fun e w' => e = .returned v ∧ w = w') : Calls P f args w fun e w' => e = .returned v ∧ Below w.heap.size w w' :=
  h.mono fun _ _ ⟨he, hw⟩ => ⟨he, hw ▸ Below.refl _ _⟩

theorem up {W X Y : World} (h1 : Below W.heap.size W X) (h2 : Below X.heap.size X Y) : Below W.heap.size W Y := h1.trans (h2.mono h1.size)
theorem up_alloc (W : World) (o : Obj) : Below W.heap.size W (W.alloc o) := (Below.refl _ _).alloc (Nat.le_refl _) _

/-- Numbers as values; the owners of marks. -/
def ints (l : List Int) : List Value := l.map (Value.int .i64)
theorem ints_snoc (l : List Int) (x : Int) : ints (l ++ [x]) = ints l ++ [.int .i64 x] := by simp [ints]
/-- A slice holds these numbers. -/
structure Is (w : World) (A : Option Addr) (n : Nat) (l : List Int) : Prop where
  len : n = l.length
  small : n ≤ 9223372036854775807
  get : ∀ k (h : k < l.length), ∃ b o, A = some ⟨b, o, none⟩ ∧ b < w.heap.size ∧ w.cell? ⟨b, o + k, none⟩ = some (.int .i64 l[k])
theorem Is.keep {w w' : World} {A : Option Addr} {n : Nat} {l : List Int} (h : Is w A n l) (hb : Below w.heap.size w w') : Is w' A n l :=
  ⟨h.len, h.small, fun k hk => by
    obtain ⟨b, o, e, hlt, hg⟩ := h.get k hk
    exact ⟨b, o, e, by have := hb.size; omega, (hb.cell (p := ⟨b, o + k, none⟩) hlt).trans hg⟩⟩
/-- A function hands back a slice of its own with these numbers. -/
theorem Is.of_own {w : World} {base n : Nat} {v : Value} {l : List Int} (h : w.ownsRow base 3 1 v n (ints l)) : ∃ A c, v = .slice A n c ∧ n ≤ c ∧ Is w A n l := by
  have hl : n = l.length := by have := h.1; simp [ints] at this; omega
  rcases h.2 with ⟨rfl, rfl⟩ | ⟨g, cap, cur, rfl, _, hg, hnc, hcm, hcs, htk⟩
  · exact ⟨none, 0, rfl, Nat.le_refl _, hl, by omega, fun k hk => by omega⟩
  · refine ⟨some ⟨g, 0, none⟩, cap, rfl, hnc, hl, by unfold maxLen at hcm; omega, fun k hk => ⟨g, 0, rfl, (Array.getElem?_eq_some_iff.1 hg).1, ?_⟩⟩
    have := h.cells (g := g) rfl k (.int .i64 l[k]) (by simp [ints, hk])
    rw [Nat.zero_add]; rw [Addr.add_lit] at this; simpa using this

theorem info3 : (Tryz.prog.info? 3).map (fun i => (i.zero, i.size, i.bytes)) = some (some (.int .i64 0), 1, 8) := by kernel_rfl

/-- A number that fits. -/
def i64 (n : Int) : Prop := -9223372036854775808 ≤ n ∧ n ≤ 9223372036854775807
theorem i64_wf {n : Int} (h : (Lit.int .i64 n).wf = true) : i64 n := by
  simp only [Lit.wf, Bool.and_eq_true, decide_eq_true_eq] at h
  exact ⟨h.1, h.2⟩
/-- Cells that are these numbers. -/
def Nums (cs : List Value) (l : List Int) : Prop := cs = ints l ∧ ∀ n ∈ l, i64 n
theorem nums_of {cs : List Value} (h : ∀ j, j < cs.length → ∃ n, cs[j]? = some (.int .i64 n) ∧ i64 n) : ∃ l, l.length = cs.length ∧ Nums cs l := by
  induction cs with
  | nil => exact ⟨[], rfl, rfl, by simp⟩
  | cons c cs ih =>
    obtain ⟨n, hn, hi⟩ := h 0 (by simp)
    obtain ⟨l, hl, he, hq⟩ := ih fun j hj => by simpa using h (j + 1) (by simpa using hj)
    obtain rfl : c = .int .i64 n := by simpa using hn
    exact ⟨n :: l, by simp [hl], by simp [ints, he], by simpa using ⟨hi, hq⟩⟩

/-- A block holds these cells. -/
structure Bk (w : World) (b : Nat) (cs : List Value) : Prop where
  lt : b < w.heap.size
  get : ∀ j, w.cell? ⟨b, j, none⟩ = cs[j]?
theorem Bk.keep {w w' : World} {b : Nat} {cs : List Value} (h : Bk w b cs) (hb : Below w.heap.size w w') : Bk w' b cs :=
  ⟨Nat.lt_of_lt_of_le h.lt hb.size, fun j => (hb.cell (p := ⟨b, j, none⟩) h.lt).trans (h.get j)⟩
theorem ret_int {a b : Int} (h : a = b) : Ending.returned (.int .i64 a) = .returned (.int .i64 b) := by rw [h]
theorem ret_bool {a b : Bool} (h : a = b) : Ending.returned (.bool a) = .returned (.bool b) := by rw [h]
end Go.Proofs.YtaieidigpilbfaaGreat

namespace Go.Proofs.YtaieidigpilbfaaGreat
open Go Go.RowKit
set_option maxHeartbeats 400000
set_option maxRecDepth 100000

structure Bx (w : World) (b : Nat) (t : TypeId) (cs : List Value) : Prop where
  h : w.heap[b]? = some (.cells ⟨cs⟩ t (0, 0))
section
variable {w U : World} {b b' : Nat} {t : TypeId} {cs : List Value}
theorem Bx.lt (K : Bx w b t cs) : b < w.heap.size := (Array.getElem?_eq_some_iff.1 K.h).1
theorem Bx.get (K : Bx w b t cs) : ∀ j, w.cell? ⟨b, j, none⟩ = cs[j]? := fun j => by rw [cell_of_row w b j _ _ _ K.h]; simp
theorem Bx.fr (K : Bx w b t cs) : ∀ j, w.frozen? ⟨b, j, none⟩ = false := fun j => frozen_of_row w b j _ _ K.h
theorem Bx.keep (K : Bx w b t cs) (hb : Below w.heap.size w U) : Bx U b t cs := ⟨(hb.block b K.lt).trans K.h⟩
theorem Bx.new (w : World) (cs : List Value) (t : TypeId) : Bx (w.alloc (.cells ⟨cs⟩ t)) w.heap.size t cs := ⟨heap_alloc_new _ _⟩
theorem Bx.newAt (w : World) (cs : List Value) (t : TypeId) (h : b = w.heap.size) : Bx (w.alloc (.cells ⟨cs⟩ t)) b t cs := by subst h; exact Bx.new _ _ _
theorem Bx.old (K : Bx w b t cs) (o : Obj) : Bx (w.alloc o) b t cs := ⟨(Below.heap_alloc w o b K.lt).trans K.h⟩
/-- Another world but at one block. -/
structure Put (w : World) (b : Nat) (U : World) : Prop where
  os : U.os = w.os
  tape : U.tape = w.tape
  output : U.output = w.output
  size : U.heap.size = w.heap.size
  block : ∀ k, k ≠ b → U.heap[k]? = w.heap[k]?
theorem Bx.put (K : Bx w b' t cs) (p : Put w b U) (h : b' ≠ b) : Bx U b' t cs := ⟨(p.block b' h).trans K.h⟩
theorem Put.below (p : Put w b U) {B : Nat} (h : B ≤ b) : Below B w U := ⟨p.os, p.tape, p.output, Nat.le_of_eq p.size.symm, fun k hk => p.block k (by omega)⟩
theorem upP {W X : World} (h1 : Below W.heap.size W X) (p : Put X b U) (h : W.heap.size ≤ b) : Below W.heap.size W U := h1.trans (p.below h)
theorem Put.cell (w : World) (b j : Nat) (v : Value) : Put w b (w.setCell ⟨b, j, none⟩ v) :=
  ⟨rfl, rfl, rfl, by simp [World.setCell], fun k hk => heap_setCell_other w ⟨b, j, none⟩ k v hk⟩
theorem Put.row (w : World) (b : Nat) (a : Array Value) : Put w b (w.setRow b a) := ⟨rfl, rfl, rfl, by simp, fun k hk => setRow_other w b k a hk⟩
theorem Put.trans {X Y Z : World} (p : Put X b Y) (q : Put Y b Z) : Put X b Z :=
  ⟨q.os.trans p.os, q.tape.trans p.tape, q.output.trans p.output, q.size.trans p.size, fun k hk => (q.block k hk).trans (p.block k hk)⟩
theorem Bx.cell (K : Bx w b t cs) (j : Nat) (v : Value) : Bx (w.setCell ⟨b, j, none⟩ v) b t (cs.set j v) :=
  ⟨by rw [heap_setCell_same w b j _ t v K.h]; simp⟩
theorem Bx.row (K : Bx w b t cs) (a : Array Value) : Bx (w.setRow b a) b t a.toList := ⟨by rw [setRow_heap w b _ a t _ K.h]⟩
end

section
variable {P : Program} {ops : Array Oper} {rest : List Oper} {o : Oper} {a : Act} {w : World} {Q : Exit → Act → World → Prop} {b : Nat} {t : TypeId}
/-- A box is written whole. -/
theorem wpList_put (ty : TypeId) (p s : Tmp) (hg : o.guard = none) (ho : o.op = .store ty (.tmp p) (.tmp s)) {old : List Value} {cs : Array Value} (K : Bx w b t old) (hx : a.eval (.tmp p) = .pointer (some ⟨b, 0, none⟩))
    (hy : a.eval (.tmp s) = .agg cs) (hi : (P.info? ty).map (·.size) = some cs.size) (hold : old.length = cs.size) (h1 : cs.all (·.oneCell') = true)
    (h : ∀ U, Bx U b t cs.toList → Put w b U → wpList P ops Q rest (a.put o.dst undef) U) : wpList P ops Q (o :: rest) a w :=
  wpList_store_row hg ty _ _ ho b cs hx hy t _ K.h hi (by simpa using hold) h1 (h _ (K.row cs) (Put.row w b cs))
/-- A box is read whole. -/
theorem wpList_get (ty : TypeId) (p : Tmp) (hg : o.guard = none) (ho : o.op = .load ty (.tmp p)) {cs : List Value} (K : Bx w b t cs) (hx : a.eval (.tmp p) = .pointer (some ⟨b, 0, none⟩)) {d : TypeDesc}
    (hu : P.underlying ty = some d) (hd : (match d with | .struct _ | .array _ _ => true | _ => false) = true) (hi : (P.info? ty).map (·.size) = some cs.length)
    (h : wpList P ops Q rest (a.put o.dst (.agg ⟨cs⟩)) w) : wpList P ops Q (o :: rest) a w :=
  wpList_load_row hg ty _ ho b hx t _ _ d K.h hu hd (by simpa using hi) h
end

section
variable {P : Program} {fn : Func} {w : World} {b : Nat} {t ty : TypeId} {cs : List Value} {d : TypeDesc}
theorem cell_res (K : Bx w b t cs) (hu : P.underlying ty = some d) (hd : (match d with | .struct _ | .array _ _ => true | _ => false) = true) (hi : (P.info? ty).map (·.size) = some cs.length) :
    (loadVar ty ⟨b, 0, none⟩).run P w = .ok (.agg ⟨cs⟩) w := run_loadVar_row w b t ty _ _ d K.h hu hd (by simpa using hi)
/-- One result in a box. -/
theorem results_1 {p : Tmp} (h : fn.results = #[.cell p ty]) (tmps : Array Value) (hp : tmps.getD p undef = .pointer (some ⟨b, 0, none⟩)) (K : Bx w b t cs)
    (hu : P.underlying ty = some d) (hd : (match d with | .struct _ | .array _ _ => true | _ => false) = true) (hi : (P.info? ty).map (·.size) = some cs.length) : (results fn tmps).run P w = .ok (.agg ⟨cs⟩) w :=
  results_cell_row h tmps w b t _ _ d hp K.h hu hd (by simpa using hi)
/-- A result in a box, and another one. -/
theorem results_2 {p q : Tmp} (h : fn.results = #[.cell p ty, .tmp q]) (tmps : Array Value) (hp : tmps.getD p undef = .pointer (some ⟨b, 0, none⟩)) (K : Bx w b t cs)
    (hu : P.underlying ty = some d) (hd : (match d with | .struct _ | .array _ _ => true | _ => false) = true) (hi : (P.info? ty).map (·.size) = some cs.length) :
    (results fn tmps).run P w = .ok (.tuple #[.agg ⟨cs⟩, tmps.getD q undef]) w := by
  have hp' : tmps[p]?.getD undef = .pointer (some ⟨b, 0, none⟩) := by simpa using hp
  simp [results, h, hp', asAddr, cell_res K hu hd hi]
end

section
variable {P : Program} {fn : Func} {w : World} {b : Nat} {t ty : TypeId} {cs : List Value} {d : TypeDesc} {R : Ending → World → Prop} {a : Act}
theorem post_1 {p : Tmp} (h : fn.results = #[.cell p ty]) (h0 : a.defers = []) (hp : a.tmps.getD p undef = .pointer (some ⟨b, 0, none⟩)) (K : Bx w b t cs)
    (hu : P.underlying ty = some d) (hd : (match d with | .struct _ | .array _ _ => true | _ => false) = true) (hi : (P.info? ty).map (·.size) = some cs.length) (hR : R (.returned (.agg ⟨cs⟩)) w) : bodyPost P fn R .ret a w :=
  bodyPost_ret (results_1 h _ hp K hu hd hi) h0 hR
theorem post_2 {p q : Tmp} {v : Value} (h : fn.results = #[.cell p ty, .tmp q]) (h0 : a.defers = []) (hp : a.tmps.getD p undef = .pointer (some ⟨b, 0, none⟩)) (K : Bx w b t cs)
    (hu : P.underlying ty = some d) (hd : (match d with | .struct _ | .array _ _ => true | _ => false) = true) (hi : (P.info? ty).map (·.size) = some cs.length) (hq : a.tmps.getD q undef = v) (hR : R (.returned (.tuple #[.agg ⟨cs⟩, v])) w) : bodyPost P fn R .ret a w :=
  bodyPost_ret (results_2 h _ hp K hu hd hi) h0 (by rw [hq]; exact hR)
end

theorem Is.keepP {w w' : World} {A : Option Addr} {n : Nat} {l : List Int} {B : Nat} (h : Is w A n l) (hB : ∀ p, A = some p → p.block < B) (hb : Below B w w') : Is w' A n l :=
  ⟨h.len, h.small, fun k hk => by
    obtain ⟨b, o, e, hlt, hg⟩ := h.get k hk
    have hB1 := hB _ e
    exact ⟨b, o, e, by have := hb.size; omega, (hb.cell (p := ⟨b, o + k, none⟩) hB1).trans hg⟩⟩
end Go.Proofs.YtaieidigpilbfaaGreat

namespace Go.Proofs.YtaieidigpilbfaaGreat
open Go Go.RowKit
set_option maxHeartbeats 400000
set_option maxRecDepth 100000

/-- Common bits of two numbers; bits of one of both. -/
def band (a b : Int) : Int := bits BinOp.and IntKind.i64 a b
def bor (a b : Int) : Int := bits BinOp.or IntKind.i64 a b
theorem band_nat (x y : Nat) (hx : x < 2 ^ 62) : band x y = ((x &&& (y % 2 ^ 64) : Nat) : Int) := by
  have h1 : x &&& (y % 2 ^ 64) ≤ x := Nat.and_le_left
  have h2 : (BitVec.ofInt 64 (x : Int)) = BitVec.ofNat 64 x := by simp
  have h3 : (BitVec.ofInt 64 (y : Int)) = BitVec.ofNat 64 y := by simp
  show IntKind.i64.wrap ((BitVec.ofInt 64 (x : Int) &&& BitVec.ofInt 64 (y : Int)).toNat : Int) = _
  rw [h2, h3, BitVec.toNat_and, BitVec.toNat_ofNat, BitVec.toNat_ofNat]
  rw [Nat.mod_eq_of_lt (show x < 2 ^ 64 by omega)]
  generalize (x &&& y % 2 ^ 64) = z at *
  simp only [IntKind.wrap, IntKind.bits, IntKind.signed]
  simp
  omega
theorem bor_nat (x y : Nat) (hx : x < 2 ^ 62) (hy : y < 2 ^ 62) : bor x y = ((x ||| y : Nat) : Int) := by
  have h1 : x ||| y < 2 ^ 62 := Nat.or_lt_two_pow hx hy
  have h2 : (BitVec.ofInt 64 (x : Int)) = BitVec.ofNat 64 x := by simp
  have h3 : (BitVec.ofInt 64 (y : Int)) = BitVec.ofNat 64 y := by simp
  show IntKind.i64.wrap ((BitVec.ofInt 64 (x : Int) ||| BitVec.ofInt 64 (y : Int)).toNat : Int) = _
  rw [h2, h3, BitVec.toNat_or, BitVec.toNat_ofNat, BitVec.toNat_ofNat]
  rw [Nat.mod_eq_of_lt (show x < 2 ^ 64 by omega), Nat.mod_eq_of_lt (show y < 2 ^ 64 by omega)]
  generalize (x ||| y) = z at *
  simp only [IntKind.wrap, IntKind.bits, IntKind.signed]
  simp
  omega

/-- A number lies between two. -/
def inB (n lo hi : Int) : Bool := decide (lo ≤ n) && decide (n ≤ hi)
theorem inB_iff {n lo hi : Int} : inB n lo hi = true ↔ lo ≤ n ∧ n ≤ hi := by simp [inB]
/-- A number's bit. -/
def hasB (a s : Int) : Bool := band a (2 ^ s.toNat) != 0
theorem hasB_nat (x s : Nat) (hx : x < 2 ^ 62) (hs : s < 62) : hasB x s = x.testBit s := by
  unfold hasB
  rw [Int.toNat_natCast, show ((2 : Int) ^ s) = ((2 ^ s : Nat) : Int) by simp, band_nat _ _ hx]
  have h : 2 ^ s < 2 ^ 64 := Nat.pow_lt_pow_right (by decide) (by omega)
  rw [Nat.mod_eq_of_lt h]
  cases hb : x.testBit s
  · have : x &&& 2 ^ s = 0 := by
      apply Nat.eq_of_testBit_eq
      intro i
      rw [Nat.testBit_and, Nat.testBit_two_pow, Nat.zero_testBit]
      by_cases e : s = i
      · subst e; simp [hb]
      · simp [e]
    rw [this]; rfl
  · have h2 : (x &&& 2 ^ s).testBit s = true := by rw [Nat.testBit_and, Nat.testBit_two_pow, hb]; simp
    have h3 : x &&& 2 ^ s ≠ 0 := by intro h0; rw [h0, Nat.zero_testBit] at h2; cases h2
    simp only [bne_iff_ne, ne_eq]; omega

structure Kd where
  s : Int
  r : Int
  e : Int
  a : Int
deriving DecidableEq, Inhabited
def Kd.l (k : Kd) : List Value := [.int .i64 k.s, .int .i64 k.r, .int .i64 k.e, .int .i64 k.a]
def kd0 : Kd := ⟨0, 0, 0, 0⟩
/-- A kind is valid. -/
def kdOk (k : Kd) : Bool := inB k.s 1 9 && (inB k.r 1 1000 && (inB k.e 0 1000 && (inB k.a 0 1023 && !hasB k.a 0)))
/-- The kind of a sort. -/
def kd? (K : List Kd) (x : Int) : Option Kd := K.find? (fun k => k.s == x)
def kdD (K : List Kd) (x : Int) : Kd := (kd? K x).getD kd0
def kdI (K : List Kd) (x : Int) : Bool := (kd? K x).isSome
/-- The i-th kind is valid and behind the one ahead of it. -/
def ksAt (K : List Kd) (i : Nat) : Bool := kdOk (K.getD i kd0) && (i == 0 || decide ((K.getD (i - 1) kd0).s < (K.getD i kd0).s))
def ksOk (K : List Kd) : Bool := (List.range K.length).all (ksAt K)
def psOk (P : List Int) : Bool := P.all fun n => inB n 0 1000
def yOk (P : List Int) (K : List Kd) : Bool := decide (P.length ≤ 5) && (psOk P && ksOk K)
/-- An error's number. -/
def err (b : Bool) (n : Int) : Int := if b = true then 0 else n
theorem err_t {b : Bool} (n : Int) (h : b = true) : err b n = 0 := by rw [err, if_pos h]
theorem err_f {b : Bool} (n : Int) (h : b = false) : err b n = n := by rw [err, if_neg (by simp [h])]
def yE (P : List Int) (K : List Kd) : Int := err (yOk P K) 50
def lOk (K : List Kd) (l : List Int) : Bool := l.all (kdI K)
def sE (P : List Int) (K : List Kd) (l : List Int) : Int := if yOk P K = true then err (decide (l.length ≤ 8) && lOk K l) 51 else 50

theorem ksOk_at {K : List Kd} (h : ksOk K = true) {i : Nat} (hi : i < K.length) : ksAt K i = true := by
  simp only [ksOk, List.all_eq_true, List.mem_range] at h; exact h i hi
theorem ksOk_no {K : List Kd} {i : Nat} (hi : i < K.length) (h : ksAt K i = false) : ksOk K = false := by
  rw [Bool.eq_false_iff]; intro h2; rw [ksOk_at h2 hi] at h; cases h
theorem all_getD {K : List Kd} {p : Kd → Bool} (h : ∀ i, i < K.length → p (K.getD i kd0) = true) : ∀ k ∈ K, p k = true := by
  intro k hk
  obtain ⟨i, hi, rfl⟩ := List.mem_iff_getElem.1 hk
  have := h i hi
  simpa [hi] using this
theorem ksOk_kd {K : List Kd} (h : ksOk K = true) : ∀ k ∈ K, kdOk k = true :=
  all_getD fun i hi => by have := ksOk_at h hi; simp only [ksAt, Bool.and_eq_true] at this; exact this.1
theorem kdOk_iff {k : Kd} : kdOk k = true ↔ ((1 ≤ k.s ∧ k.s ≤ 9) ∧ (1 ≤ k.r ∧ k.r ≤ 1000) ∧ (0 ≤ k.e ∧ k.e ≤ 1000) ∧ (0 ≤ k.a ∧ k.a ≤ 1023) ∧ hasB k.a 0 = false) := by
  simp [kdOk, inB]
theorem kd_mem {K : List Kd} {x : Int} {k : Kd} (h : kd? K x = some k) : k ∈ K ∧ k.s = x :=
  ⟨List.mem_of_find?_eq_some h, by simpa using List.find?_some h⟩
end Go.Proofs.YtaieidigpilbfaaGreat

namespace Go.Proofs.YtaieidigpilbfaaGreat
open Go Go.RowKit
set_option maxHeartbeats 400000
set_option maxRecDepth 100000

theorem within_any (n lo hi : Int) (w : World) :
    Calls Tryz.prog 70 #[.int .i64 n, .int .i64 lo, .int .i64 hi] w fun e w' => e = .returned (.bool (inB n lo hi)) ∧ w = w' := by
  by_cases h : lo ≤ n <;> (go_enter Tryz.func70, Tryz.ntmps70; go_wp2; go_ret; exact ⟨by simp [inB, h] <;> omega, rfl⟩)
theorem rwithin_any (n lo hi : Int) (w : World) :
    Calls Tryz.prog 72 #[.int .i64 n, .int .i64 lo, .int .i64 hi] w fun e w' => e = .returned (.bool (inB n lo hi)) ∧ w = w' := by
  by_cases h : lo ≤ n <;> (go_enter Tryz.func72, Tryz.ntmps72; go_wp2; go_ret; exact ⟨by simp [inB, h] <;> omega, rfl⟩)
theorem p2_wrap (s : Int) (h0 : 0 ≤ s) (h1 : s ≤ 9) : wrap64 (2 ^ s.toNat) = 2 ^ s.toNat := by
  rcases (by omega : s = 0 ∨ s = 1 ∨ s = 2 ∨ s = 3 ∨ s = 4 ∨ s = 5 ∨ s = 6 ∨ s = 7 ∨ s = 8 ∨ s = 9) with rfl | rfl | rfl | rfl | rfl | rfl | rfl | rfl | rfl | rfl <;> simp [wrap64]
theorem only_any (s : Int) (w : World) (h0 : 0 ≤ s) (h1 : s ≤ 9) :
    Calls Tryz.prog 126 #[.int .i64 s] w fun e w' => e = .returned (.int .i64 (2 ^ s.toNat)) ∧ w = w' := by
  go_enter Tryz.func126, Tryz.ntmps126; go_wp2; go_ret; exact ⟨by simp [p2_wrap s h0 h1], rfl⟩
theorem has_any (a s : Int) (w : World) (h0 : 0 ≤ s) (h1 : s ≤ 9) :
    Calls Tryz.prog 68 #[.int .i64 a, .int .i64 s] w fun e w' => e = .returned (.bool (hasB a s)) ∧ w = w' := by
  go_enter Tryz.func68, Tryz.ntmps68
  go_wp2_with (go_at_call 126; refine (only_any _ _ h0 h1).mono ?_; rintro e w' ⟨rfl, rfl⟩)
  go_ret; exact ⟨rfl, rfl⟩
theorem meets_any (a b : Int) (w : World) :
    Calls Tryz.prog 133 #[.int .i64 a, .int .i64 b] w fun e w' => e = .returned (.bool (band a b != 0)) ∧ w = w' := by
  go_enter Tryz.func133, Tryz.ntmps133; go_wp2; go_ret; exact ⟨rfl, rfl⟩
theorem unless_any (b : Bool) (n : Int) (w : World) :
    Calls Tryz.prog 76 #[.bool b, .int .i64 n] w fun e w' => e = .returned (.int .i64 (err b n)) ∧ w = w' := by
  cases b <;> (go_enter Tryz.func76, Tryz.ntmps76; go_wp2; go_ret; exact ⟨rfl, rfl⟩)
theorem validDay_any (n : Int) (w : World) :
    Calls Tryz.prog 147 #[.int .i64 n] w fun e w' => e = .returned (.bool (inB n 0 100000)) ∧ w = w' := by
  go_enter Tryz.func147, Tryz.ntmps147
  go_wp2_with (go_at_call 70; refine (within_any _ _ _ _).mono ?_; rintro e w' ⟨rfl, rfl⟩)
  go_ret; exact ⟨rfl, rfl⟩
theorem valid_any (a : Int) (w : World) :
    Calls Tryz.prog 127 #[.int .i64 a] w fun e w' => e = .returned (.bool (inB a 0 1023 && !hasB a 0)) ∧ w = w' := by
  cases h : inB a 0 1023
  all_goals
    have H := Lib.hid h; clear h
    go_enter Tryz.func127, Tryz.ntmps127
    go_wp2_with (first | (go_at_call 70; refine (within_any _ _ _ _).mono ?_; rintro e w' ⟨rfl, rfl⟩; rw [H.out]) | (go_at_call 68; refine (has_any _ _ _ (by omega) (by omega)).mono ?_; rintro e w' ⟨rfl, rfl⟩))
    go_ret; exact ⟨by simp, rfl⟩
theorem validKind_any (k : Kd) (w : World) :
    Calls Tryz.prog 71 #[.agg #[.int .i64 k.s, .int .i64 k.r, .int .i64 k.e, .int .i64 k.a]] w fun e w' => e = .returned (.bool (kdOk k)) ∧ Below w.heap.size w w' := by
  cases h1 : inB k.s 1 9 <;> cases h2 : inB k.r 1 1000 <;> cases h3 : inB k.e 0 1000
  all_goals
    have H1 := Lib.hid h1; have H2 := Lib.hid h2; have H3 := Lib.hid h3; clear h1 h2 h3
    have HK : Hid (kdOk k = (inB k.s 1 9 && (inB k.r 1 1000 && (inB k.e 0 1000 && (inB k.a 0 1023 && !hasB k.a 0))))) := Lib.hid rfl
    rw [H1.out, H2.out, H3.out] at HK
    go_enter Tryz.func71, Tryz.ntmps71
    go_wp2_with (first | (go_at_call 70; refine (within_any _ _ _ _).mono ?_; rintro e w' ⟨rfl, rfl⟩; first | rw [H1.out] | rw [H2.out] | rw [H3.out]) | (go_at_call 127; refine (valid_any _ _).mono ?_; rintro e w' ⟨rfl, rfl⟩))
    go_ret; exact ⟨by rw [HK.out]; rfl, by go_grown⟩
end Go.Proofs.YtaieidigpilbfaaGreat

namespace Go.Proofs.YtaieidigpilbfaaGreat
open Go Go.RowKit
set_option maxHeartbeats 400000
set_option maxRecDepth 100000

/-- A kind lies there. -/
structure KdAt (w : World) (b o : Nat) (k : Kd) : Prop where
  c0 : w.cell? ⟨b, o, none⟩ = some (.int .i64 k.s)
  c1 : w.cell? ⟨b, o + 1, none⟩ = some (.int .i64 k.r)
  c2 : w.cell? ⟨b, o + 2, none⟩ = some (.int .i64 k.e)
  c3 : w.cell? ⟨b, o + 3, none⟩ = some (.int .i64 k.a)
/-- A slice holds these kinds. -/
structure Ks (w : World) (A : Option Addr) (n : Nat) (K : List Kd) : Prop where
  len : n = K.length
  small : n < 9223372036854775807
  get : ∀ k (h : k < K.length), ∃ b o, A = some ⟨b, o, none⟩ ∧ b < w.heap.size ∧ KdAt w b (o + k * 4) K[k]
theorem KdAt.keep {w w' : World} {b o : Nat} {g : Kd} (h : KdAt w b o g) (hb : ∀ j, w'.cell? ⟨b, j, none⟩ = w.cell? ⟨b, j, none⟩) : KdAt w' b o g :=
  ⟨(hb _).trans h.c0, (hb _).trans h.c1, (hb _).trans h.c2, (hb _).trans h.c3⟩
theorem Ks.keep {w w' : World} {A : Option Addr} {n : Nat} {gs : List Kd} (h : Ks w A n gs) (hb : Below w.heap.size w w') : Ks w' A n gs :=
  ⟨h.len, h.small, fun k hk => by
    obtain ⟨b, o, e, hlt, hg⟩ := h.get k hk
    exact ⟨b, o, e, by have := hb.size; omega, hg.keep fun j => hb.cell (p := ⟨b, j, none⟩) hlt⟩⟩
def kv (k : Kd) : Value := .agg #[.int .i64 k.s, .int .i64 k.r, .int .i64 k.e, .int .i64 k.a]

/-- The index of a sort's kind from k on, -1 if there is none. -/
def posK (l : List Kd) (x : Int) (k : Nat) : Int :=
  match l with
  | [] => -1
  | y :: r => if (y.s == x) = true then k else posK r x (k + 1)
theorem posK_yes {y : Kd} {x : Int} (r : List Kd) (k : Nat) (h : (y.s == x) = true) : posK (y :: r) x k = k := by unfold posK; rw [if_pos h]
theorem posK_no {y : Kd} {x : Int} (r : List Kd) (k : Nat) (h : (y.s == x) = false) : posK (y :: r) x k = posK r x (k + 1) := by rw [posK, if_neg (by simp [h])]
theorem posK_cases (l : List Kd) (x : Int) : ∀ k, (posK l x k = -1 ∧ kd? l x = none) ∨ (∃ j, ∃ h : j < l.length, posK l x k = ((k + j : Nat) : Int) ∧ kd? l x = some l[j]) := by
  induction l with
  | nil => intro k; exact .inl ⟨rfl, rfl⟩
  | cons y r ih =>
    intro k
    cases h : (y.s == x)
    · rw [posK_no r k h]
      have e : kd? (y :: r) x = kd? r x := by simp [kd?, List.find?_cons, h]
      rw [e]
      rcases ih (k + 1) with h1 | ⟨j, hj, h1, h2⟩
      · exact .inl h1
      · exact .inr ⟨j + 1, by simpa using hj, by rw [h1]; omega, by rw [h2]; simp⟩
    · exact .inr ⟨0, by simp, by rw [posK_yes r k h]; simp, by simp [kd?, List.find?_cons, h]⟩

theorem isSort_any (k : Kd) (x : Int) (q : Nat) (w : World) (hq : q < w.heap.size) (hc : w.cell? ⟨q, 0, none⟩ = some (.int .i64 x)) :
    Calls Tryz.prog 132 #[.agg #[.int .i64 k.s, .int .i64 k.r, .int .i64 k.e, .int .i64 k.a], .pointer (some ⟨q, 0, none⟩)] w fun e w' => e = .returned (.bool (k.s == x)) ∧ Below w.heap.size w w' := by
  go_enter Tryz.func132, Tryz.ntmps132
  go_wp2; go_ret; exact ⟨rfl, by go_grown⟩

theorem indexK_any (B : Option Addr) (m d : Nat) (K : List Kd) (x : Int) (q : Nat) (w : World) (hg : Ks w B m K) (hq : q < w.heap.size) (hc : w.cell? ⟨q, 0, none⟩ = some (.int .i64 x)) :
    Calls Tryz.prog 131 #[.slice B m d, .func (.func 132) #[] #[.pointer (some ⟨q, 0, none⟩)]] w fun e w' => e = .returned (.int .i64 (posK K x 0)) ∧ Below w.heap.size w w' := by
  have hn := hg.small
  have Hl : Hid (m = K.length) := Lib.hid hg.len
  go_enter Tryz.func131, Tryz.ntmps131
  go_wp2
  go_loopw [8] (fun i wr => ∃ (k : Nat) (z : Gr), k ≤ m ∧ i = .int .i64 k ∧ wr = grow w z ∧ posK (K.drop k) x k = posK K x 0) (fun i _ => m - (intOf i).toNat)
  case atStart => exact ⟨0, ⟨#[], w.drawn⟩, by omega, rfl, by simp [grow], rfl⟩
  case round =>
    obtain ⟨k, z, hk, rfl, rfl, hp⟩ := hrel
    have Hp := Lib.hid hp; clear hp
    by_cases hlt : k < m
    · have hkl : k < K.length := by rw [← Hl.out]; exact hlt
      have Hd : Hid (K.drop k = K[k] :: K.drop (k + 1)) := Lib.hid (List.drop_eq_getElem_cons hkl)
      obtain ⟨b, o, rfl, hb, hcs⟩ := hg.get k hkl
      obtain ⟨c0, c1, c2, c3⟩ := hcs
      generalize K[k] = y at *
      have cq : (grow w z).cell? ⟨q, 0, none⟩ = some (.int .i64 x) := by rw [grow_cell_lt _ _ _ _ hq]; exact hc
      cases hy : (y.s == x)
      · have Hy := Lib.hid hy
        clear hy
        go_wp2_with (go_at_call 132; refine (isSort_any y x q _ (by simp; omega) cq).mono ?_; rintro e x1 ⟨rfl, hb1⟩; rw [Hy.out])
        obtain ⟨z1, rfl⟩ := below_grow (up (grow_below w z) hb1)
        refine ⟨⟨k + 1, z1, by omega, by go_num, rfl, ?_⟩, by simp [intOf]; omega⟩
        rw [← Hp.out, Hd.out, posK_no _ _ Hy.out]
      · have Hy := Lib.hid hy
        clear hy
        go_wp2_with (go_at_call 132; refine (isSort_any y x q _ (by simp; omega) cq).mono ?_; rintro e x1 ⟨rfl, hb1⟩; rw [Hy.out])
        go_ret
        refine ⟨ret_int ?_, up (grow_below w z) hb1⟩
        rw [← Hp.out, Hd.out, posK_yes _ _ Hy.out]
    · obtain rfl : k = m := by omega
      go_wp2
      go_ret
      refine ⟨ret_int ?_, grow_below w z⟩
      rw [← Hp.out, Hl.out, List.drop_length]; rfl
end Go.Proofs.YtaieidigpilbfaaGreat

namespace Go.Proofs.YtaieidigpilbfaaGreat
open Go Go.RowKit
set_option maxHeartbeats 400000
set_option maxRecDepth 100000

theorem kdD_some {K : List Kd} {x : Int} {k : Kd} (h : kd? K x = some k) : kdD K x = k ∧ kdI K x = true := by unfold kdD kdI; rw [h]; exact ⟨rfl, rfl⟩
theorem kdD_none {K : List Kd} {x : Int} (h : kd? K x = none) : kdD K x = kd0 ∧ kdI K x = false := by unfold kdD kdI; rw [h]; exact ⟨rfl, rfl⟩
theorem ret_kd {k k' : Kd} {b b' : Bool} (h : k = k') (h2 : b = b') : Ending.returned (.tuple #[.agg #[.int .i64 k.s, .int .i64 k.r, .int .i64 k.e, .int .i64 k.a], .bool b]) = .returned (.tuple #[.agg #[.int .i64 k'.s, .int .i64 k'.r, .int .i64 k'.e, .int .i64 k'.a], .bool b']) := by rw [h, h2]

theorem kindOf_any (A : Option Addr) (n c : Nat) (B : Option Addr) (m d : Nat) (K : List Kd) (x : Int) (w : World) (hg : Ks w B m K) :
    Calls Tryz.prog 84 #[.agg #[.slice A n c, .slice B m d], .int .i64 x] w fun e w' =>
      e = .returned (.tuple #[.agg #[.int .i64 (kdD K x).s, .int .i64 (kdD K x).r, .int .i64 (kdD K x).e, .int .i64 (kdD K x).a], .bool (kdI K x)]) ∧ Below w.heap.size w w' := by
  have Hl : Hid (m = K.length) := Lib.hid hg.len
  go_enter Tryz.func84, Tryz.ntmps84
  go_wp2_with fail
  generalize hW : (World.alloc _ _) = W
  have HB : Hid (Below w.heap.size w W) := Lib.hid (by subst hW; go_grown)
  have KY : Bx W (w.heap.size) 25 [.slice A n c, .slice B m d] := by subst hW; repeat (first | (refine Bx.newAt _ _ _ ?_; first | rfl | (simp only [World.size_alloc]; done) | (simp only [World.size_alloc]; omega)) | refine Bx.old ?_ _)
  have KX : Bx W (w.heap.size + 1) 3 [.int .i64 x] := by subst hW; repeat (first | (refine Bx.newAt _ _ _ ?_; first | rfl | (simp only [World.size_alloc]; done) | (simp only [World.size_alloc]; omega)) | refine Bx.old ?_ _)
  have KZ : Bx W (w.heap.size + 1 + 1) 72 [.int .i64 0, .int .i64 0, .int .i64 0, .int .i64 0] := by subst hW; repeat (first | (refine Bx.newAt _ _ _ ?_; first | rfl | (simp only [World.size_alloc]; done) | (simp only [World.size_alloc]; omega)) | refine Bx.old ?_ _)
  clear hW
  have KYl := KY.lt; have KYc := KY.get; have KYf := KY.fr; have KXl := KX.lt; have KXc := KX.get; have KXf := KX.fr; have KZl := KZ.lt; have KZc := KZ.get; have KZf := KZ.fr
  have HG := Lib.hid (hg.keep HB.out)
  clear hg
  refine Calls.mono (indexK_any B m d K x (w.heap.size + 1) W HG.out KXl (by simpa using KXc 0)) ?_
  rintro e V ⟨rfl, hb⟩
  have HGV := Lib.hid (HG.out.keep hb)
  clear KYl KYc KYf; replace KY := KY.keep hb; have KYl := KY.lt; have KYc := KY.get; have KYf := KY.fr; clear KXl KXc KXf; replace KX := KX.keep hb; have KXl := KX.lt; have KXc := KX.get; have KXf := KX.fr; clear KZl KZc KZf; replace KZ := KZ.keep hb; have KZl := KZ.lt; have KZc := KZ.get; have KZf := KZ.fr; replace HB := Lib.hid (up HB.out hb); clear hb
  rcases posK_cases K x 0 with ⟨h1, h2⟩ | ⟨j, hj, h1, h2⟩
  · obtain ⟨q1, q2⟩ := kdD_none h2
    have Q1 := Lib.hid q1; have Q2 := Lib.hid q2
    clear q1 q2 h2
    rw [h1]
    clear h1
    go_wp2_with (refine wpList_put 72 4 13 rfl rfl KZ rfl rfl (by kernel_rfl) rfl (by simp [Value.oneCell']) ?_; intro U KZn hp; clear KZl KZc KZf; clear KYl KYc KYf; replace KY := KY.put hp (by omega); have KYl := KY.lt; have KYc := KY.get; have KYf := KY.fr; clear KXl KXc KXf; replace KX := KX.put hp (by omega); have KXl := KX.lt; have KXc := KX.get; have KXf := KX.fr; replace HB := Lib.hid (upP HB.out hp (by omega)); clear hp KZ; have KZ := KZn; clear KZn; have KZl := KZ.lt; have KZc := KZ.get; have KZf := KZ.fr)
    refine post_2 rfl rfl rfl KZ Tryz.underlying72 rfl (by kernel_rfl) (v := .bool false) rfl ⟨ret_kd (k := kd0) (b := false) Q1.out.symm Q2.out.symm, HB.out⟩
  · obtain ⟨q1, q2⟩ := kdD_some h2
    have Q1 := Lib.hid q1; have Q2 := Lib.hid q2
    clear q1 q2 h2
    rw [h1]
    clear h1
    obtain ⟨b, o, rfl, hb, hcs⟩ := HGV.out.get j hj
    obtain ⟨c0, c1, c2, c3⟩ := hcs
    have hjm : j < m := by rw [Hl.out]; exact hj
    have hmx := HGV.out.small
    generalize K[j] = y at *
    go_wp2_with (refine wpList_put 72 4 18 rfl rfl KZ rfl rfl (by kernel_rfl) rfl (by simp [Value.oneCell']) ?_; intro U KZn hp; clear KZl KZc KZf; clear KYl KYc KYf; replace KY := KY.put hp (by omega); have KYl := KY.lt; have KYc := KY.get; have KYf := KY.fr; clear KXl KXc KXf; replace KX := KX.put hp (by omega); have KXl := KX.lt; have KXc := KX.get; have KXf := KX.fr; replace HB := Lib.hid (upP HB.out hp (by omega)); clear hp KZ; have KZ := KZn; clear KZn; have KZl := KZ.lt; have KZc := KZ.get; have KZf := KZ.fr)
    refine post_2 rfl rfl rfl KZ Tryz.underlying72 rfl (by kernel_rfl) (v := .bool true) rfl ⟨ret_kd (k := y) (b := true) Q1.out.symm Q2.out.symm, HB.out⟩

theorem kd_step {K : List Kd} {x : Int} {k : Nat} (hk : k < K.length) (h : (K[k].s == x) = false) : kd? (K.drop k) x = kd? (K.drop (k + 1)) x := by
  unfold kd?; rw [List.drop_eq_getElem_cons hk, List.find?_cons, h]
theorem kd_hit {K : List Kd} {x : Int} {k : Nat} (hk : k < K.length) (h : (K[k].s == x) = true) : kd? (K.drop k) x = some K[k] := by
  unfold kd?; rw [List.drop_eq_getElem_cons hk, List.find?_cons, h]

theorem rkind_any (A : Option Addr) (n c : Nat) (B : Option Addr) (m d : Nat) (K : List Kd) (x : Int) (w : World) (hg : Ks w B m K) :
    Calls Tryz.prog 73 #[.agg #[.slice A n c, .slice B m d], .int .i64 x] w fun e w' =>
      e = .returned (.tuple #[.agg #[.int .i64 (kdD K x).s, .int .i64 (kdD K x).r, .int .i64 (kdD K x).e, .int .i64 (kdD K x).a], .bool (kdI K x)]) ∧ Below w.heap.size w w' := by
  have Hl : Hid (m = K.length) := Lib.hid hg.len
  have hmx := hg.small
  go_enter Tryz.func73, Tryz.ntmps73
  go_wp2_with fail
  generalize hW : (World.alloc _ _) = W
  have HB : Hid (Below w.heap.size w W) := Lib.hid (by subst hW; go_grown)
  have KY : Bx W (w.heap.size) 25 [.slice A n c, .slice B m d] := by subst hW; repeat (first | (refine Bx.newAt _ _ _ ?_; first | rfl | (simp only [World.size_alloc]; done) | (simp only [World.size_alloc]; omega)) | refine Bx.old ?_ _)
  have KZ : Bx W (w.heap.size + 1) 72 [.int .i64 0, .int .i64 0, .int .i64 0, .int .i64 0] := by subst hW; repeat (first | (refine Bx.newAt _ _ _ ?_; first | rfl | (simp only [World.size_alloc]; done) | (simp only [World.size_alloc]; omega)) | refine Bx.old ?_ _)
  clear hW
  have KYl := KY.lt; have KYc := KY.get; have KYf := KY.fr; have KZl := KZ.lt; have KZc := KZ.get; have KZf := KZ.fr
  have HG := Lib.hid (hg.keep HB.out)
  clear hg
  clear KYl KYc KYf KZl KZc KZf
  go_loopw [11] (fun i wr => ∃ (k : Nat), k ≤ m ∧ i = .int .i64 k ∧ Below W.heap.size W wr ∧ kd? (K.drop k) x = kd? K x) (fun i _ => m - (intOf i).toNat)
  case atStart => exact ⟨0, by omega, rfl, Below.refl _ _, rfl⟩
  case round =>
    obtain ⟨k, hk, rfl, hb, hp⟩ := hrel
    have HGr := Lib.hid (HG.out.keep hb)
    replace KZ := KZ.keep hb; replace KY := KY.keep hb; replace HB := Lib.hid (up HB.out hb)
    have HBr := Lib.hid hb
    clear hb
    have KZl := KZ.lt; have KZc := KZ.get; have KZf := KZ.fr
    have Hp := Lib.hid hp; clear hp
    by_cases hlt : k < m
    · have hkl : k < K.length := by rw [← Hl.out]; exact hlt
      have Hs : Hid ((K[k].s == x) = false → kd? (K.drop k) x = kd? (K.drop (k + 1)) x) := Lib.hid (kd_step hkl)
      have Ht : Hid ((K[k].s == x) = true → kd? (K.drop k) x = some K[k]) := Lib.hid (kd_hit hkl)
      obtain ⟨b, o, rfl, hb, hcs⟩ := HGr.out.get k hkl
      obtain ⟨c0, c1, c2, c3⟩ := hcs
      generalize K[k] = y at *
      cases hy : (y.s == x)
      · have Hy := Lib.hid hy
        go_wp2
        refine ⟨⟨k + 1, by omega, by go_num, up HBr.out (up_alloc _ _), ?_⟩, by simp [intOf]; omega⟩
        rw [← Hp.out, Hs.out Hy.out]
      · have Hy := Lib.hid hy
        obtain ⟨q1, q2⟩ := kdD_some (by rw [← Hp.out]; exact Ht.out Hy.out)
        have Q1 := Lib.hid q1; have Q2 := Lib.hid q2
        clear q1 q2
        go_upto_region 5 with fail
        have hne := KZ.lt
        generalize hW : (World.alloc _ _) = X
        have KX : Bx X wr.heap.size 72 [.int .i64 y.s, .int .i64 y.r, .int .i64 y.e, .int .i64 y.a] := by subst hW; exact Bx.new _ _ _
        have hb : Below wr.heap.size wr X := by subst hW; exact up_alloc _ _
        clear hW
        clear KZl KZc KZf; replace KZ := KZ.keep hb; have KZl := KZ.lt; have KZc := KZ.get; have KZf := KZ.fr; replace HB := Lib.hid (up HB.out hb); clear hb
        have KXl := KX.lt; have KXc := KX.get; have KXf := KX.fr
        go_wp2_with (refine wpList_put 72 4 19 rfl rfl KZ rfl rfl (by kernel_rfl) rfl (by simp [Value.oneCell']) ?_; intro U KZn hp; clear KZl KZc KZf; clear KXl KXc KXf; replace KX := KX.put hp (by omega); have KXl := KX.lt; have KXc := KX.get; have KXf := KX.fr; replace HB := Lib.hid (upP HB.out hp (by omega)); clear hp KZ; have KZ := KZn; clear KZn; have KZl := KZ.lt; have KZc := KZ.get; have KZf := KZ.fr)
        refine post_2 rfl rfl rfl KZ Tryz.underlying72 rfl (by kernel_rfl) (v := .bool true) rfl ⟨ret_kd (k := y) (b := true) Q1.out.symm Q2.out.symm, HB.out⟩
    · obtain rfl : k = m := by omega
      obtain ⟨q1, q2⟩ := kdD_none (K := K) (x := x) (by rw [← Hp.out, Hl.out, List.drop_length]; rfl)
      have Q1 := Lib.hid q1; have Q2 := Lib.hid q2
      clear q1 q2
      go_wp2_with (refine wpList_put 72 4 21 rfl rfl KZ rfl rfl (by kernel_rfl) rfl (by simp [Value.oneCell']) ?_; intro U KZn hp; clear KZl KZc KZf; replace HB := Lib.hid (upP HB.out hp (by omega)); clear hp KZ; have KZ := KZn; clear KZn; have KZl := KZ.lt; have KZc := KZ.get; have KZf := KZ.fr)
      refine post_2 rfl rfl rfl KZ Tryz.underlying72 rfl (by kernel_rfl) (v := .bool false) rfl ⟨ret_kd (k := kd0) (b := false) Q1.out.symm Q2.out.symm, HB.out⟩
end Go.Proofs.YtaieidigpilbfaaGreat

namespace Go.Proofs.YtaieidigpilbfaaGreat
open Go Go.RowKit
set_option maxHeartbeats 400000
set_option maxRecDepth 100000

theorem validKind_b (k : Kd) (b : Bool) (w : World) (h : kdOk k = b) : Calls Tryz.prog 71 #[.agg #[.int .i64 k.s, .int .i64 k.r, .int .i64 k.e, .int .i64 k.a]] w fun e w' => e = .returned (.bool b) ∧ Below w.heap.size w w' :=
  h ▸ validKind_any k w
theorem psOk_no {P : List Int} {k : Nat} (hk : k < P.length) (h : inB P[k] 0 1000 = false) : psOk P = false := by
  rw [Bool.eq_false_iff]; intro h2; unfold psOk at h2; rw [List.all_eq_true] at h2
  have := h2 _ (List.getElem_mem hk); rw [h] at this; cases this
theorem psOk_all {P : List Int} (h : ∀ j (hj : j < P.length), inB P[j] 0 1000 = true) : psOk P = true := by
  unfold psOk; rw [List.all_eq_true]; intro n hn; obtain ⟨j, hj, rfl⟩ := List.getElem_of_mem hn; exact h j hj
theorem ksOk_all {K : List Kd} (h : ∀ j, j < K.length → ksAt K j = true) : ksOk K = true := by
  unfold ksOk; rw [List.all_eq_true]; intro n hn; exact h n (by simpa using hn)
theorem yE_len {P : List Int} {K : List Kd} (h : 5 < P.length) : yE P K = 50 := by unfold yE; rw [err_f]; unfold yOk; simp; omega
theorem yE_ps {P : List Int} {K : List Kd} (h : psOk P = false) : yE P K = 50 := by unfold yE; rw [err_f]; unfold yOk; simp [h]
theorem yE_ks {P : List Int} {K : List Kd} (h : ksOk K = false) : yE P K = 50 := by unfold yE; rw [err_f]; unfold yOk; simp [h]
theorem yE_ok {P : List Int} {K : List Kd} (h0 : P.length ≤ 5) (h1 : psOk P = true) (h2 : ksOk K = true) : yE P K = 0 := by unfold yE; rw [err_t]; unfold yOk; simp [h0, h1, h2]
theorem ksAt_0 {K : List Kd} (h : 0 < K.length) : ksAt K 0 = kdOk K[0] := by unfold ksAt; simp [h]
theorem ksAt_s {K : List Kd} {k : Nat} (h : k + 1 < K.length) : ksAt K (k + 1) = (kdOk K[k + 1] && decide (K[k].s < K[k + 1].s)) := by
  unfold ksAt
  have h2 : k < K.length := by omega
  simp [h, h2]

theorem checkYard_any (A : Option Addr) (n c : Nat) (P : List Int) (B : Option Addr) (m d : Nat) (K : List Kd) (w : World) (hp : Is w A n P) (hg : Ks w B m K) :
    Calls Tryz.prog 18 #[.agg #[.slice A n c, .slice B m d]] w fun e w' => e = .returned (.int .i64 (yE P K)) ∧ Below w.heap.size w w' := by
  have Hl : Hid (m = K.length) := Lib.hid hg.len
  have Hn : Hid (n = P.length) := Lib.hid hp.len
  have hmx := hg.small
  go_enter Tryz.func18, Tryz.ntmps18
  go_upto_region 1 with fail
  generalize hW : (World.alloc _ _) = W
  have HB : Hid (Below w.heap.size w W) := Lib.hid (by subst hW; go_grown)
  have KY : Bx W (w.heap.size) 25 [.slice A n c, .slice B m d] := by subst hW; repeat (first | (refine Bx.newAt _ _ _ ?_; first | rfl | (simp only [World.size_alloc]; done) | (simp only [World.size_alloc]; omega)) | refine Bx.old ?_ _)
  clear hW
  have KYl := KY.lt; have KYc := KY.get; have KYf := KY.fr
  have HG := Lib.hid (hg.keep HB.out)
  have HP := Lib.hid (hp.keep HB.out)
  clear hg hp
  by_cases h5 : (5 : Int) < (n : Int)
  · go_wp2
    go_ret
    exact ⟨ret_int (yE_len (by rw [← Hn.out]; omega)).symm, HB.out⟩
  go_wp2
  go_loop [14] (fun i => ∃ (k : Nat), k ≤ n ∧ i = .int .i64 k ∧ ∀ j (hj : j < P.length), j < k → inB P[j] 0 1000 = true) (fun i => n - (intOf i).toNat)
  case atStart => exact ⟨0, by omega, rfl, fun j _ h => by omega⟩
  case round =>
    obtain ⟨k, hk, rfl, hall⟩ := hrel
    have Hall := Lib.hid hall; clear hall
    by_cases hlt : k < n
    · have hkl : k < P.length := by rw [← Hn.out]; exact hlt
      obtain ⟨b, o, rfl, hb, hc⟩ := HP.out.get k hkl
      have Hno : Hid (inB P[k] 0 1000 = false → psOk P = false) := Lib.hid (psOk_no hkl)
      have Hy : Hid (∀ x, inB P[k] 0 1000 = x → inB P[k] 0 1000 = x) := Lib.hid (fun _ h => h)
      have Hst : Hid (inB P[k] 0 1000 = true → ∀ j (hj : j < P.length), j < k + 1 → inB P[j] 0 1000 = true) := Lib.hid (fun h j hj hjk => by
        by_cases e : j = k
        · subst e; exact h
        · exact Hall.out j hj (by omega))
      generalize P[k] = y at *
      cases hy : inB y 0 1000
      · have HY := Lib.hid hy; clear hy
        go_wp2_with (go_at_call 70; refine (within_any _ _ _ _).mono ?_; rintro e w' ⟨rfl, rfl⟩; rw [HY.out])
        go_ret
        exact ⟨ret_int (yE_ps (Hno.out HY.out)).symm, HB.out⟩
      · have HY := Lib.hid hy; clear hy
        go_wp2_with (go_at_call 70; refine (within_any _ _ _ _).mono ?_; rintro e w' ⟨rfl, rfl⟩; rw [HY.out])
        exact ⟨⟨k + 1, by omega, by go_num, Hst.out HY.out⟩, by simp [intOf]; omega⟩
    · obtain rfl : k = n := by omega
      have Hps : Hid (psOk P = true) := Lib.hid (psOk_all fun j hj => Hall.out j hj (by rw [Hn.out]; exact hj))
      clear Hall
      go_wp2
      clear KYl KYc KYf
      go_loopw [25] (fun i wr => ∃ (q : Nat), q ≤ m ∧ i = .int .i64 q ∧ Below W.heap.size W wr ∧ ∀ j, j < q → ksAt K j = true) (fun i _ => m - (intOf i).toNat)
      case atStart => exact ⟨0, by omega, rfl, Below.refl _ _, fun j h => by omega⟩
      case round =>
        obtain ⟨q, hq, rfl, hb, hall⟩ := hrel
        have Hall := Lib.hid hall; clear hall
        have HGr := Lib.hid (HG.out.keep hb)
        replace KY := KY.keep hb; replace HB := Lib.hid (up HB.out hb)
        have HBr := Lib.hid hb
        clear hb
        have KYl := KY.lt; have KYc := KY.get; have KYf := KY.fr
        by_cases hqm : q < m
        · have hql : q < K.length := by rw [← Hl.out]; exact hqm
          obtain ⟨b, o, rfl, hb, hcs⟩ := HGr.out.get q hql
          have Hst : Hid (ksAt K q = true → ∀ j, j < q + 1 → ksAt K j = true) := Lib.hid (fun h j hj => by
            by_cases e : j = q
            · subst e; exact h
            · exact Hall.out j (by omega))
          have Hno : Hid (ksAt K q = false → yE P K = 50) := Lib.hid (fun h => yE_ks (ksOk_no hql h))
          obtain ⟨c0, c1, c2, c3⟩ := hcs
          have step : ∀ (y : Kd), y = K[q] → Hid (y = K[q]) := fun _ h => Lib.hid h
          generalize hy : K[q] = y at c0 c1 c2 c3
          have Hyq := Lib.hid hy; clear hy step
          go_upto_region 12 with fail
          generalize hW : (World.alloc _ _) = X
          have KX : Bx X wr.heap.size 72 [.int .i64 y.s, .int .i64 y.r, .int .i64 y.e, .int .i64 y.a] := by subst hW; exact Bx.new _ _ _
          have hbX : Below wr.heap.size wr X := by subst hW; exact up_alloc _ _
          clear hW
          have HGX := Lib.hid (HGr.out.keep hbX)
          have HXr := Lib.hid (up HBr.out hbX)
          clear KYl KYc KYf; replace KY := KY.keep hbX; have KYl := KY.lt; have KYc := KY.get; have KYf := KY.fr; replace HB := Lib.hid (up HB.out hbX); clear hbX
          have KXl := KX.lt; have KXc := KX.get; have KXf := KX.fr
          cases q with
          | zero =>
            have Hat : Hid (ksAt K 0 = kdOk y) := Lib.hid (by rw [ksAt_0 hql, Hyq.out])
            cases hv : kdOk y
            all_goals
              have HV := Lib.hid hv; clear hv
              refine wp_region_grow (by kernel_rfl) (by kernel_rfl) ?_
              repeat (go_big_quiet_step (((go_at_call 71; exact quiet_grow rfl (validKind_b _ _ _ HV.out)))))
              refine wpQuiet_nil ?_
              intro z
              go_wp2
            · go_ret
              exact ⟨ret_int (Hno.out (by rw [Hat.out, HV.out])).symm, up HB.out (grow_below _ _)⟩
            · exact ⟨⟨1, by omega, by go_num, up HXr.out (grow_below _ _), Hst.out (by rw [Hat.out, HV.out])⟩, by simp [intOf]; omega⟩
          | succ q =>
            have Hat : Hid (ksAt K (q + 1) = (kdOk y && decide ((K[q]'(by omega)).s < y.s))) := Lib.hid (by rw [ksAt_s hql]; simp only [Hyq.out])
            obtain ⟨b2, o2, e2, hb2, hcs2⟩ := HGX.out.get q (by omega)
            obtain ⟨rfl, rfl⟩ : b = b2 ∧ o = o2 := by simpa using e2
            obtain ⟨d0, d1, d2, d3⟩ := hcs2
            clear e2 d1 d2 d3
            generalize (K[q]'(by omega)).s = ys at *
            have e1 : IntKind.i64.wrap (((q + 1 : Nat) : Int) - 1) = (q : Int) := by rw [IntWalk.i64_in _ (by omega)]; omega
            cases hv : kdOk y
            · have HV := Lib.hid hv; clear hv
              refine wp_region_grow (by kernel_rfl) (by kernel_rfl) ?_
              repeat (go_big_quiet_step (((go_at_call 71; exact quiet_grow rfl (validKind_b _ _ _ HV.out)))))
              refine wpQuiet_nil ?_
              intro z
              clear e1
              go_wp2
              go_ret
              exact ⟨ret_int (Hno.out (by rw [Hat.out, HV.out]; rfl)).symm, up HB.out (grow_below _ _)⟩
            have HV := Lib.hid hv; clear hv
            by_cases hs : ys < y.s
            · have hs2 : decide (y.s ≤ ys) = false := by simp; omega
              refine wp_region_grow (by kernel_rfl) (by kernel_rfl) ?_
              repeat (go_big_quiet_step (((go_at_call 71; exact quiet_grow rfl (validKind_b _ _ _ HV.out)))))
              refine wpQuiet_nil ?_
              intro z
              clear e1
              go_wp2
              exact ⟨⟨q + 1 + 1, by omega, by go_num, up HXr.out (grow_below _ _), Hst.out (by rw [Hat.out, HV.out]; simpa using hs)⟩, by simp [intOf]; omega⟩
            · have hs2 : decide (y.s ≤ ys) = true := by simp; omega
              refine wp_region_grow (by kernel_rfl) (by kernel_rfl) ?_
              repeat (go_big_quiet_step (((go_at_call 71; exact quiet_grow rfl (validKind_b _ _ _ HV.out)))))
              refine wpQuiet_nil ?_
              intro z
              clear e1
              go_wp2
              go_ret
              exact ⟨ret_int (Hno.out (by rw [Hat.out]; simp; intro; omega)).symm, up HB.out (grow_below _ _)⟩
        · obtain rfl : q = m := by omega
          go_wp2
          go_ret
          exact ⟨ret_int (yE_ok (by rw [← Hn.out]; omega) Hps.out (ksOk_all fun j hj => Hall.out j (by rw [Hl.out]; exact hj))).symm, HB.out⟩
end Go.Proofs.YtaieidigpilbfaaGreat

namespace Go.Proofs.YtaieidigpilbfaaGreat
open Go Go.RowKit
set_option maxHeartbeats 800000
set_option maxRecDepth 100000

theorem rwithin_b (n lo hi : Int) (b : Bool) (w : World) (h : inB n lo hi = b) : Calls Tryz.prog 72 #[.int .i64 n, .int .i64 lo, .int .i64 hi] w fun e w' => e = .returned (.bool b) ∧ Below w.heap.size w w' :=
  (rwithin_any n lo hi w).mono fun e w' g => ⟨by rw [g.1, h], g.2 ▸ Below.refl _ _⟩
theorem hasB_0 {a : Int} (h : inB a 0 1023 = true) : hasB a 0 = (a % 2 != 0) := by
  obtain ⟨h0, h1⟩ := inB_iff.1 h
  obtain ⟨x, rfl⟩ := Int.eq_ofNat_of_zero_le h0
  have := hasB_nat x 0 (by omega) (by decide)
  rw [show ((0 : Nat) : Int) = 0 from rfl] at this
  rw [this, Nat.testBit_zero]
  by_cases e : x % 2 = 1
  · have : (x : Int) % 2 = 1 := by omega
    rw [this]; simp [e]
  · have : (x : Int) % 2 = 0 := by omega
    rw [this]; simp [e]
theorem kdOk_0 {k : Kd} (h : inB k.s 1 9 = false) : kdOk k = false := by simp [kdOk, h]
theorem kdOk_1 {k : Kd} (h : inB k.r 1 1000 = false) : kdOk k = false := by simp [kdOk, h]
theorem kdOk_2 {k : Kd} (h : inB k.e 0 1000 = false) : kdOk k = false := by simp [kdOk, h]
theorem kdOk_3 {k : Kd} (h : inB k.a 0 1023 = false) : kdOk k = false := by simp [kdOk, h]
theorem kdOk_4 {k : Kd} (h3 : inB k.a 0 1023 = true) (h : (k.a % 2 != 0) = true) : kdOk k = false := by simp only [kdOk, hasB_0 h3, h]; simp
theorem kdOk_5 {k : Kd} (h0 : inB k.s 1 9 = true) (h1 : inB k.r 1 1000 = true) (h2 : inB k.e 0 1000 = true) (h3 : inB k.a 0 1023 = true) (h : (k.a % 2 != 0) = false) : kdOk k = true := by
  simp only [kdOk, hasB_0 h3, h, h0, h1, h2, h3]; rfl

theorem rcheckYard_any (A : Option Addr) (n c : Nat) (P : List Int) (B : Option Addr) (m d : Nat) (K : List Kd) (w : World) (hp : Is w A n P) (hg : Ks w B m K) :
    Calls Tryz.prog 19 #[.agg #[.slice A n c, .slice B m d]] w fun e w' => e = .returned (.int .i64 (yE P K)) ∧ Below w.heap.size w w' := by
  have Hl : Hid (m = K.length) := Lib.hid hg.len
  have Hn : Hid (n = P.length) := Lib.hid hp.len
  have hmx := hg.small
  go_enter Tryz.func19, Tryz.ntmps19
  go_upto_region 1 with fail
  generalize hW : (World.alloc _ _) = W
  have HB : Hid (Below w.heap.size w W) := Lib.hid (by subst hW; go_grown)
  have KY : Bx W (w.heap.size) 25 [.slice A n c, .slice B m d] := by subst hW; repeat (first | (refine Bx.newAt _ _ _ ?_; first | rfl | (simp only [World.size_alloc]; done) | (simp only [World.size_alloc]; omega)) | refine Bx.old ?_ _)
  clear hW
  have KYl := KY.lt; have KYc := KY.get; have KYf := KY.fr
  have HG := Lib.hid (hg.keep HB.out)
  have HP := Lib.hid (hp.keep HB.out)
  clear hg hp
  by_cases h5 : (5 : Int) < (n : Int)
  · go_wp2
    go_ret
    exact ⟨ret_int (yE_len (by rw [← Hn.out]; omega)).symm, HB.out⟩
  go_wp2
  go_loop [14] (fun i => ∃ (k : Nat), k ≤ n ∧ i = .int .i64 k ∧ ∀ j (hj : j < P.length), j < k → inB P[j] 0 1000 = true) (fun i => n - (intOf i).toNat)
  case atStart => exact ⟨0, by omega, rfl, fun j _ h => by omega⟩
  case round =>
    obtain ⟨k, hk, rfl, hall⟩ := hrel
    have Hall := Lib.hid hall; clear hall
    by_cases hlt : k < n
    · have hkl : k < P.length := by rw [← Hn.out]; exact hlt
      obtain ⟨b, o, rfl, hb, hc⟩ := HP.out.get k hkl
      have Hno : Hid (inB P[k] 0 1000 = false → psOk P = false) := Lib.hid (psOk_no hkl)
      have Hst : Hid (inB P[k] 0 1000 = true → ∀ j (hj : j < P.length), j < k + 1 → inB P[j] 0 1000 = true) := Lib.hid (fun h j hj hjk => by
        by_cases e : j = k
        · subst e; exact h
        · exact Hall.out j hj (by omega))
      generalize P[k] = y at *
      cases hy : inB y 0 1000
      · have HY := Lib.hid hy; clear hy
        go_wp2_with (go_at_call 72; refine (rwithin_any _ _ _ _).mono ?_; rintro e w' ⟨rfl, rfl⟩; rw [HY.out])
        go_ret
        exact ⟨ret_int (yE_ps (Hno.out HY.out)).symm, HB.out⟩
      · have HY := Lib.hid hy; clear hy
        go_wp2_with (go_at_call 72; refine (rwithin_any _ _ _ _).mono ?_; rintro e w' ⟨rfl, rfl⟩; rw [HY.out])
        exact ⟨⟨k + 1, by omega, by go_num, Hst.out HY.out⟩, by simp [intOf]; omega⟩
    · obtain rfl : k = n := by omega
      have Hps : Hid (psOk P = true) := Lib.hid (psOk_all fun j hj => Hall.out j hj (by rw [Hn.out]; exact hj))
      clear Hall
      go_wp2
      clear KYl KYc KYf
      go_loopw [25] (fun i wr => ∃ (q : Nat), q ≤ m ∧ i = .int .i64 q ∧ Below W.heap.size W wr ∧ ∀ j, j < q → ksAt K j = true) (fun i _ => m - (intOf i).toNat)
      case atStart => exact ⟨0, by omega, rfl, Below.refl _ _, fun j h => by omega⟩
      case round =>
        obtain ⟨q, hq, rfl, hb, hall⟩ := hrel
        have Hall := Lib.hid hall; clear hall
        have HGr := Lib.hid (HG.out.keep hb)
        replace KY := KY.keep hb; replace HB := Lib.hid (up HB.out hb)
        have HBr := Lib.hid hb
        clear hb
        have KYl := KY.lt; have KYc := KY.get; have KYf := KY.fr
        by_cases hqm : q < m
        · have hql : q < K.length := by rw [← Hl.out]; exact hqm
          obtain ⟨b, o, rfl, hb, hcs⟩ := HGr.out.get q hql
          have Hst : Hid (ksAt K q = true → ∀ j, j < q + 1 → ksAt K j = true) := Lib.hid (fun h j hj => by
            by_cases e : j = q
            · subst e; exact h
            · exact Hall.out j (by omega))
          have Hno : Hid (ksAt K q = false → yE P K = 50) := Lib.hid (fun h => yE_ks (ksOk_no hql h))
          obtain ⟨c0, c1, c2, c3⟩ := hcs
          generalize hy : K[q] = y at c0 c1 c2 c3
          have Hyq := Lib.hid hy; clear hy
          have Hbad : Hid (kdOk y = false → ksAt K q = false) := Lib.hid (fun h => by
            cases q with
            | zero => rw [ksAt_0 hql, Hyq.out]; exact h
            | succ q => rw [ksAt_s hql, Hyq.out, h]; rfl)
          go_upto_region 12 with fail
          generalize hW : (World.alloc _ _) = X
          have KX : Bx X wr.heap.size 72 [.int .i64 y.s, .int .i64 y.r, .int .i64 y.e, .int .i64 y.a] := by subst hW; exact Bx.new _ _ _
          have hbX : Below wr.heap.size wr X := by subst hW; exact up_alloc _ _
          clear hW
          have HGX := Lib.hid (HGr.out.keep hbX)
          have HXr := Lib.hid (up HBr.out hbX)
          clear KYl KYc KYf; replace KY := KY.keep hbX; have KYl := KY.lt; have KYc := KY.get; have KYf := KY.fr; replace HB := Lib.hid (up HB.out hbX); clear hbX
          have KXl := KX.lt; have KXc := KX.get; have KXf := KX.fr
          have fin : ∀ z, kdOk y = false → Ending.returned (Value.int .i64 50) = .returned (.int .i64 (yE P K)) ∧ Below w.heap.size w (grow X z) := fun z h => ⟨ret_int (Hno.out (Hbad.out h)).symm, up HB.out (grow_below _ _)⟩
          have Fin := Lib.hid fin; clear fin
          cases h0 : inB y.s 1 9
          · have H0 := Lib.hid h0; clear h0
            refine wp_region_grow (by kernel_rfl) (by kernel_rfl) ?_
            repeat (go_big_quiet_step (((go_at_call 72; first | exact quiet_grow rfl (rwithin_b _ _ _ _ _ H0.out)))))
            refine wpQuiet_nil ?_
            intro z
            go_wp2
            go_ret
            exact Fin.out _ (kdOk_0 H0.out)
          have H0 := Lib.hid h0; clear h0
          cases h1 : inB y.r 1 1000
          · have H1 := Lib.hid h1; clear h1
            refine wp_region_grow (by kernel_rfl) (by kernel_rfl) ?_
            repeat (go_big_quiet_step (((go_at_call 72; first | exact quiet_grow rfl (rwithin_b _ _ _ _ _ H0.out) | exact quiet_grow rfl (rwithin_b _ _ _ _ _ H1.out)))))
            refine wpQuiet_nil ?_
            intro z
            go_wp2
            go_ret
            exact Fin.out _ (kdOk_1 H1.out)
          have H1 := Lib.hid h1; clear h1
          cases h2 : inB y.e 0 1000
          · have H2 := Lib.hid h2; clear h2
            refine wp_region_grow (by kernel_rfl) (by kernel_rfl) ?_
            repeat (go_big_quiet_step (((go_at_call 72; first | exact quiet_grow rfl (rwithin_b _ _ _ _ _ H0.out) | exact quiet_grow rfl (rwithin_b _ _ _ _ _ H1.out) | exact quiet_grow rfl (rwithin_b _ _ _ _ _ H2.out)))))
            refine wpQuiet_nil ?_
            intro z
            go_wp2
            go_ret
            exact Fin.out _ (kdOk_2 H2.out)
          have H2 := Lib.hid h2; clear h2
          cases h3 : inB y.a 0 1023
          · have H3 := Lib.hid h3; clear h3
            refine wp_region_grow (by kernel_rfl) (by kernel_rfl) ?_
            repeat (go_big_quiet_step (((go_at_call 72; first | exact quiet_grow rfl (rwithin_b _ _ _ _ _ H0.out) | exact quiet_grow rfl (rwithin_b _ _ _ _ _ H1.out) | exact quiet_grow rfl (rwithin_b _ _ _ _ _ H2.out) | exact quiet_grow rfl (rwithin_b _ _ _ _ _ H3.out)))))
            refine wpQuiet_nil ?_
            intro z
            go_wp2
            go_ret
            exact Fin.out _ (kdOk_3 H3.out)
          obtain ⟨a0, a1⟩ := inB_iff.1 h3
          have H3 := Lib.hid h3; clear h3
          cases h4 : (y.a % 2 != 0)
          rotate_left
          · have H4 := Lib.hid h4
            refine wp_region_grow (by kernel_rfl) (by kernel_rfl) ?_
            repeat (go_big_quiet_step (((go_at_call 72; first | exact quiet_grow rfl (rwithin_b _ _ _ _ _ H0.out) | exact quiet_grow rfl (rwithin_b _ _ _ _ _ H1.out) | exact quiet_grow rfl (rwithin_b _ _ _ _ _ H2.out) | exact quiet_grow rfl (rwithin_b _ _ _ _ _ H3.out)))))
            refine wpQuiet_nil ?_
            intro z
            go_wp2
            go_ret
            exact Fin.out _ (kdOk_4 H3.out H4.out)
          have Hv : Hid (kdOk y = true) := Lib.hid (kdOk_5 H0.out H1.out H2.out H3.out h4)
          cases q with
          | zero =>
            have Hat : Hid (ksAt K 0 = kdOk y) := Lib.hid (by rw [ksAt_0 hql, Hyq.out])
            refine wp_region_grow (by kernel_rfl) (by kernel_rfl) ?_
            repeat (go_big_quiet_step (((go_at_call 72; first | exact quiet_grow rfl (rwithin_b _ _ _ _ _ H0.out) | exact quiet_grow rfl (rwithin_b _ _ _ _ _ H1.out) | exact quiet_grow rfl (rwithin_b _ _ _ _ _ H2.out) | exact quiet_grow rfl (rwithin_b _ _ _ _ _ H3.out)))))
            refine wpQuiet_nil ?_
            intro z
            go_wp2
            exact ⟨⟨1, by omega, by go_num, up HXr.out (grow_below _ _), Hst.out (by rw [Hat.out, Hv.out])⟩, by simp [intOf]; omega⟩
          | succ q =>
            have Hat : Hid (ksAt K (q + 1) = (kdOk y && decide ((K[q]'(by omega)).s < y.s))) := Lib.hid (by rw [ksAt_s hql]; simp only [Hyq.out])
            obtain ⟨b2, o2, e2, hb2, hcs2⟩ := HGX.out.get q (by omega)
            obtain ⟨rfl, rfl⟩ : b = b2 ∧ o = o2 := by simpa using e2
            obtain ⟨d0, d1, d2, d3⟩ := hcs2
            clear e2 d1 d2 d3
            generalize (K[q]'(by omega)).s = ys at *
            have e1 : IntKind.i64.wrap (((q + 1 : Nat) : Int) - 1) = (q : Int) := by rw [IntWalk.i64_in _ (by omega)]; omega
            by_cases hs : ys < y.s
            · have hs2 : decide (y.s ≤ ys) = false := by simp; omega
              refine wp_region_grow (by kernel_rfl) (by kernel_rfl) ?_
              repeat (go_big_quiet_step (((go_at_call 72; first | exact quiet_grow rfl (rwithin_b _ _ _ _ _ H0.out) | exact quiet_grow rfl (rwithin_b _ _ _ _ _ H1.out) | exact quiet_grow rfl (rwithin_b _ _ _ _ _ H2.out) | exact quiet_grow rfl (rwithin_b _ _ _ _ _ H3.out)))))
              refine wpQuiet_nil ?_
              intro z
              clear e1
              go_wp2
              exact ⟨⟨q + 1 + 1, by omega, by go_num, up HXr.out (grow_below _ _), Hst.out (by rw [Hat.out, Hv.out]; simpa using hs)⟩, by simp [intOf]; omega⟩
            · have hs2 : decide (y.s ≤ ys) = true := by simp; omega
              refine wp_region_grow (by kernel_rfl) (by kernel_rfl) ?_
              repeat (go_big_quiet_step (((go_at_call 72; first | exact quiet_grow rfl (rwithin_b _ _ _ _ _ H0.out) | exact quiet_grow rfl (rwithin_b _ _ _ _ _ H1.out) | exact quiet_grow rfl (rwithin_b _ _ _ _ _ H2.out) | exact quiet_grow rfl (rwithin_b _ _ _ _ _ H3.out)))))
              refine wpQuiet_nil ?_
              intro z
              clear e1
              go_wp2
              go_ret
              exact ⟨ret_int (Hno.out (by rw [Hat.out]; simp; intro; omega)).symm, up HB.out (grow_below _ _)⟩
        · obtain rfl : q = m := by omega
          go_wp2
          go_ret
          exact ⟨ret_int (yE_ok (by rw [← Hn.out]; omega) Hps.out (ksOk_all fun j hj => Hall.out j (by rw [Hl.out]; exact hj))).symm, HB.out⟩
end Go.Proofs.YtaieidigpilbfaaGreat

namespace Go.Proofs.YtaieidigpilbfaaGreat
open Go Go.RowKit
set_option maxHeartbeats 800000
set_option maxRecDepth 100000

theorem lOk_no {K : List Kd} {l : List Int} {k : Nat} (hk : k < l.length) (h : kdI K l[k] = false) : lOk K l = false := by
  rw [Bool.eq_false_iff]; intro h2; unfold lOk at h2; rw [List.all_eq_true] at h2
  have := h2 _ (List.getElem_mem hk); rw [h] at this; cases this
theorem lOk_all {K : List Kd} {l : List Int} (h : ∀ j (hj : j < l.length), kdI K l[j] = true) : lOk K l = true := by
  unfold lOk; rw [List.all_eq_true]; intro n hn; obtain ⟨j, hj, rfl⟩ := List.getElem_of_mem hn; exact h j hj

theorem checkKinds_any (A : Option Addr) (n c : Nat) (B : Option Addr) (m d : Nat) (K : List Kd) (L : Option Addr) (r s : Nat) (l : List Int) (w : World) (hg : Ks w B m K) (hl : Is w L r l) :
    Calls Tryz.prog 66 #[.agg #[.slice A n c, .slice B m d], .slice L r s] w fun e w' => e = .returned (.int .i64 (err (lOk K l) 51)) ∧ Below w.heap.size w w' := by
  have Hr : Hid (r = l.length) := Lib.hid hl.len
  have hmx := hl.small
  go_enter Tryz.func66, Tryz.ntmps66
  go_upto_region 1 with fail
  generalize hW : (World.alloc _ _) = W
  have HB : Hid (Below w.heap.size w W) := Lib.hid (by subst hW; go_grown)
  have KY : Bx W (w.heap.size) 25 [.slice A n c, .slice B m d] := by subst hW; repeat (first | (refine Bx.newAt _ _ _ ?_; first | rfl | (simp only [World.size_alloc]; done) | (simp only [World.size_alloc]; omega)) | refine Bx.old ?_ _)
  clear hW
  have KYl := KY.lt; have KYc := KY.get; have KYf := KY.fr
  have HG := Lib.hid (hg.keep HB.out)
  have HL := Lib.hid (hl.keep HB.out)
  clear hg hl
  clear KYl KYc KYf
  go_wp2_with fail
  go_loopw [11] (fun i wr => ∃ (k : Nat), k ≤ r ∧ i = .int .i64 k ∧ Below W.heap.size W wr ∧ ∀ j (hj : j < l.length), j < k → kdI K l[j] = true) (fun i _ => r - (intOf i).toNat)
  case atStart => exact ⟨0, by omega, rfl, Below.refl _ _, fun j _ h => by omega⟩
  case round =>
    obtain ⟨k, hk, rfl, hb, hall⟩ := hrel
    have Hall := Lib.hid hall; clear hall
    have HGr := Lib.hid (HG.out.keep hb)
    have HLr := Lib.hid (HL.out.keep hb)
    replace KY := KY.keep hb; replace HB := Lib.hid (up HB.out hb)
    have HBr := Lib.hid hb
    clear hb
    have KYl := KY.lt; have KYc := KY.get; have KYf := KY.fr
    by_cases hlt : k < r
    · have hkl : k < l.length := by rw [← Hr.out]; exact hlt
      obtain ⟨b, o, rfl, hb, hc⟩ := HLr.out.get k hkl
      have Hno : Hid (kdI K l[k] = false → lOk K l = false) := Lib.hid (lOk_no hkl)
      have Hst : Hid (kdI K l[k] = true → ∀ j (hj : j < l.length), j < k + 1 → kdI K l[j] = true) := Lib.hid (fun h j hj hjk => by
        by_cases e : j = k
        · subst e; exact h
        · exact Hall.out j hj (by omega))
      generalize l[k] = y at *
      cases hy : kdI K y
      all_goals
        have HY := Lib.hid hy; clear hy
        go_wp2_with (go_at_call 84; refine (kindOf_any _ _ _ _ _ _ K _ _ HGr.out).mono ?_; rintro e X ⟨rfl, hbx⟩; have HBx := Lib.hid (up HBr.out hbx); have HBz := Lib.hid (up HB.out hbx); clear hbx; rw [HY.out])
      · go_ret
        exact ⟨ret_int (by rw [err_f _ (Hno.out HY.out)]), up HBz.out (up_alloc _ _)⟩
      · exact ⟨⟨k + 1, by omega, by go_num, up HBx.out (up_alloc _ _), Hst.out HY.out⟩, by simp [intOf]; omega⟩
    · obtain rfl : k = r := by omega
      go_wp2
      go_ret
      exact ⟨ret_int (by rw [err_t _ (lOk_all fun j hj => Hall.out j hj (by rw [Hr.out]; exact hj))]), HB.out⟩

theorem sE_y {P : List Int} {K : List Kd} {l : List Int} (h : yOk P K = false) : sE P K l = 50 := by unfold sE; rw [h]; rfl
theorem sE_n {P : List Int} {K : List Kd} {l : List Int} (h : yOk P K = true) (h8 : 8 < l.length) : sE P K l = 51 := by
  unfold sE; rw [if_pos h, err_f]; simp; omega
theorem sE_l {P : List Int} {K : List Kd} {l : List Int} (h : yOk P K = true) (h8 : l.length ≤ 8) : sE P K l = err (lOk K l) 51 := by
  unfold sE; rw [if_pos h]; simp [h8]
theorem yE_f {P : List Int} {K : List Kd} (h : yOk P K = false) : yE P K = 50 := by unfold yE; rw [err_f _ h]
theorem yE_t {P : List Int} {K : List Kd} (h : yOk P K = true) : yE P K = 0 := by unfold yE; rw [err_t _ h]

theorem checkSorts_any (A : Option Addr) (n c : Nat) (P : List Int) (B : Option Addr) (m d : Nat) (K : List Kd) (L : Option Addr) (r s : Nat) (l : List Int) (w : World) (hp : Is w A n P) (hg : Ks w B m K) (hl : Is w L r l) :
    Calls Tryz.prog 20 #[.agg #[.slice A n c, .slice B m d], .slice L r s] w fun e w' => e = .returned (.int .i64 (sE P K l)) ∧ Below w.heap.size w w' := by
  have Hr : Hid (r = l.length) := Lib.hid hl.len
  have hmx := hl.small
  go_enter Tryz.func20, Tryz.ntmps20
  go_upto_region 1 with fail
  generalize hW : (World.alloc _ _) = W
  have HB : Hid (Below w.heap.size w W) := Lib.hid (by subst hW; go_grown)
  have KY : Bx W (w.heap.size) 25 [.slice A n c, .slice B m d] := by subst hW; repeat (first | (refine Bx.newAt _ _ _ ?_; first | rfl | (simp only [World.size_alloc]; done) | (simp only [World.size_alloc]; omega)) | refine Bx.old ?_ _)
  clear hW
  have KYl := KY.lt; have KYc := KY.get; have KYf := KY.fr
  have HG := Lib.hid (hg.keep HB.out)
  have HL := Lib.hid (hl.keep HB.out)
  have HP := Lib.hid (hp.keep HB.out)
  clear hg hl hp
  cases hy : yOk P K
  · have HY := Lib.hid hy; clear hy
    go_wp2_with (go_at_call 18; refine (checkYard_any _ _ _ P _ _ _ K _ HP.out HG.out).mono ?_; rintro e X ⟨rfl, hbx⟩; clear KYl KYc KYf; replace KY := KY.keep hbx; have KYl := KY.lt; have KYc := KY.get; have KYf := KY.fr; replace HB := Lib.hid (up HB.out hbx); clear hbx; rw [yE_f HY.out])
    go_ret
    exact ⟨ret_int (sE_y HY.out).symm, HB.out⟩
  · have HY := Lib.hid hy; clear hy
    by_cases h8 : (8 : Int) < (r : Int)
    · go_wp2_with (go_at_call 18; refine (checkYard_any _ _ _ P _ _ _ K _ HP.out HG.out).mono ?_; rintro e X ⟨rfl, hbx⟩; clear KYl KYc KYf; replace KY := KY.keep hbx; have KYl := KY.lt; have KYc := KY.get; have KYf := KY.fr; replace HB := Lib.hid (up HB.out hbx); clear hbx; rw [yE_t HY.out])
      go_ret
      exact ⟨ret_int (sE_n HY.out (by rw [← Hr.out]; omega)).symm, HB.out⟩
    · go_wp2_with (first
        | (go_at_call 18; refine (checkYard_any _ _ _ P _ _ _ K _ HP.out HG.out).mono ?_; rintro e X ⟨rfl, hbx⟩; have HGX := Lib.hid (HG.out.keep hbx); have HLX := Lib.hid (HL.out.keep hbx); clear KYl KYc KYf; replace KY := KY.keep hbx; have KYl := KY.lt; have KYc := KY.get; have KYf := KY.fr; replace HB := Lib.hid (up HB.out hbx); clear hbx; rw [yE_t HY.out])
        | (go_at_call 66; refine (checkKinds_any _ _ _ _ _ _ K _ _ _ l _ HGX.out HLX.out).mono ?_; rintro e X2 ⟨rfl, hbx⟩; clear KYl KYc KYf; replace KY := KY.keep hbx; have KYl := KY.lt; have KYc := KY.get; have KYf := KY.fr; replace HB := Lib.hid (up HB.out hbx); clear hbx))
      go_ret
      exact ⟨ret_int (sE_l HY.out (by rw [← Hr.out]; omega)).symm, HB.out⟩

theorem rcheckSorts_any (A : Option Addr) (n c : Nat) (P : List Int) (B : Option Addr) (m d : Nat) (K : List Kd) (L : Option Addr) (r s : Nat) (l : List Int) (w : World) (hp : Is w A n P) (hg : Ks w B m K) (hl : Is w L r l) :
    Calls Tryz.prog 21 #[.agg #[.slice A n c, .slice B m d], .slice L r s] w fun e w' => e = .returned (.int .i64 (sE P K l)) ∧ Below w.heap.size w w' := by
  have Hr : Hid (r = l.length) := Lib.hid hl.len
  have hmx := hl.small
  go_enter Tryz.func21, Tryz.ntmps21
  go_upto_region 1 with fail
  generalize hW : (World.alloc _ _) = W
  have HB : Hid (Below w.heap.size w W) := Lib.hid (by subst hW; go_grown)
  have KY : Bx W (w.heap.size) 25 [.slice A n c, .slice B m d] := by subst hW; repeat (first | (refine Bx.newAt _ _ _ ?_; first | rfl | (simp only [World.size_alloc]; done) | (simp only [World.size_alloc]; omega)) | refine Bx.old ?_ _)
  clear hW
  have KYl := KY.lt; have KYc := KY.get; have KYf := KY.fr
  have HG := Lib.hid (hg.keep HB.out)
  have HL := Lib.hid (hl.keep HB.out)
  have HP := Lib.hid (hp.keep HB.out)
  clear hg hl hp
  cases hy : yOk P K
  · have HY := Lib.hid hy; clear hy
    go_wp2_with (go_at_call 19; refine (rcheckYard_any _ _ _ P _ _ _ K _ HP.out HG.out).mono ?_; rintro e X ⟨rfl, hbx⟩; clear KYl KYc KYf; replace KY := KY.keep hbx; have KYl := KY.lt; have KYc := KY.get; have KYf := KY.fr; replace HB := Lib.hid (up HB.out hbx); clear hbx; rw [yE_f HY.out])
    go_ret
    exact ⟨ret_int (sE_y HY.out).symm, HB.out⟩
  · have HY := Lib.hid hy; clear hy
    by_cases h8 : (8 : Int) < (r : Int)
    · go_wp2_with (go_at_call 19; refine (rcheckYard_any _ _ _ P _ _ _ K _ HP.out HG.out).mono ?_; rintro e X ⟨rfl, hbx⟩; clear KYl KYc KYf; replace KY := KY.keep hbx; have KYl := KY.lt; have KYc := KY.get; have KYf := KY.fr; replace HB := Lib.hid (up HB.out hbx); clear hbx; rw [yE_t HY.out])
      go_ret
      exact ⟨ret_int (sE_n HY.out (by rw [← Hr.out]; omega)).symm, HB.out⟩
    · go_wp2_with (go_at_call 19; refine (rcheckYard_any _ _ _ P _ _ _ K _ HP.out HG.out).mono ?_; rintro e X ⟨rfl, hbx⟩; have HGX := Lib.hid (HG.out.keep hbx); have HLX := Lib.hid (HL.out.keep hbx); clear KYl KYc KYf; replace KY := KY.keep hbx; have KYl := KY.lt; have KYc := KY.get; have KYf := KY.fr; replace HB := Lib.hid (up HB.out hbx); clear hbx; rw [yE_t HY.out])
      clear KYl KYc KYf
      clear HG HL HP
      go_loopw [20] (fun i wr => ∃ (k : Nat), k ≤ r ∧ i = .int .i64 k ∧ Below X.heap.size X wr ∧ ∀ j (hj : j < l.length), j < k → kdI K l[j] = true) (fun i _ => r - (intOf i).toNat)
      case atStart => exact ⟨0, by omega, rfl, Below.refl _ _, fun j _ h => by omega⟩
      case round =>
        obtain ⟨k, hk, rfl, hb, hall⟩ := hrel
        have Hall := Lib.hid hall; clear hall
        have HGr := Lib.hid (HGX.out.keep hb)
        have HLr := Lib.hid (HLX.out.keep hb)
        replace KY := KY.keep hb; replace HB := Lib.hid (up HB.out hb)
        have HBr := Lib.hid hb
        clear hb
        have KYl := KY.lt; have KYc := KY.get; have KYf := KY.fr
        by_cases hlt : k < r
        · have hkl : k < l.length := by rw [← Hr.out]; exact hlt
          obtain ⟨b, o, rfl, hb, hc⟩ := HLr.out.get k hkl
          have Hno : Hid (kdI K l[k] = false → lOk K l = false) := Lib.hid (lOk_no hkl)
          have Hst : Hid (kdI K l[k] = true → ∀ j (hj : j < l.length), j < k + 1 → kdI K l[j] = true) := Lib.hid (fun h j hj hjk => by
            by_cases e : j = k
            · subst e; exact h
            · exact Hall.out j hj (by omega))
          generalize l[k] = y at *
          cases hy : kdI K y
          all_goals
            have HY2 := Lib.hid hy; clear hy
            go_wp2_with (go_at_call 73; refine (rkind_any _ _ _ _ _ _ K _ _ HGr.out).mono ?_; rintro e X1 ⟨rfl, hbx⟩; have HBx := Lib.hid (up HBr.out hbx); have HBz := Lib.hid (up HB.out hbx); clear hbx; rw [HY2.out])
          · go_ret
            exact ⟨ret_int (by rw [sE_l HY.out (by rw [← Hr.out]; omega), err_f _ (Hno.out HY2.out)]), up HBz.out (up_alloc _ _)⟩
          · exact ⟨⟨k + 1, by omega, by go_num, up HBx.out (up_alloc _ _), Hst.out HY2.out⟩, by simp [intOf]; omega⟩
        · obtain rfl : k = r := by omega
          go_wp2
          go_ret
          exact ⟨ret_int (by rw [sE_l HY.out (by rw [← Hr.out]; omega), err_t _ (lOk_all fun j hj => Hall.out j hj (by rw [Hr.out]; exact hj))]), HB.out⟩

theorem rroom_any (A : Option Addr) (n c : Nat) (B : Option Addr) (m d : Nat) (K : List Kd) (x : Int) (w : World) (hg : Ks w B m K) :
    Calls Tryz.prog 81 #[.agg #[.slice A n c, .slice B m d], .int .i64 x] w fun e w' => e = .returned (.int .i64 (kdD K x).r) ∧ Below w.heap.size w w' := by
  go_enter Tryz.func81, Tryz.ntmps81
  go_upto_region 1 with fail
  generalize hW : (World.alloc _ _) = W
  have HB : Hid (Below w.heap.size w W) := Lib.hid (by subst hW; go_grown)
  have KY : Bx W (w.heap.size) 25 [.slice A n c, .slice B m d] := by subst hW; repeat (first | (refine Bx.newAt _ _ _ ?_; first | rfl | (simp only [World.size_alloc]; done) | (simp only [World.size_alloc]; omega)) | refine Bx.old ?_ _)
  clear hW
  have KYl := KY.lt; have KYc := KY.get; have KYf := KY.fr
  have HG := Lib.hid (hg.keep HB.out)
  clear hg
  go_wp2_with (go_at_call 73; refine (rkind_any _ _ _ _ _ _ K _ _ HG.out).mono ?_; rintro e X ⟨rfl, hbx⟩; clear KYl KYc KYf; replace KY := KY.keep hbx; have KYl := KY.lt; have KYc := KY.get; have KYf := KY.fr; replace HB := Lib.hid (up HB.out hbx); clear hbx)
  go_ret
  exact ⟨rfl, up HB.out (up_alloc _ _)⟩
end Go.Proofs.YtaieidigpilbfaaGreat

namespace Go.Proofs.YtaieidigpilbfaaGreat
open Go Go.RowKit

/-- The sorts of a set, from 9 down, once so many of them were looked at. -/
def eachK (a : Int) : Nat → List Int
  | 0 => []
  | k + 1 => if hasB a (9 - (k : Int)) = true then eachK a k ++ [9 - (k : Int)] else eachK a k
def eachL (a : Int) : List Int := eachK a 9
/-- One bit in the sets of two sorts. -/
def apStep (s : Int) (ap : List Int) (t : Int) : List Int :=
  (ap.set s.toNat (bor (ap.getD s.toNat 0) (2 ^ t.toNat))).set t.toNat (bor ((ap.set s.toNat (bor (ap.getD s.toNat 0) (2 ^ t.toNat))).getD t.toNat 0) (2 ^ s.toNat))
def apKd (ap : List Int) (k : Kd) : List Int := (eachL k.a).foldl (apStep k.s) ap
def ap0 : List Int := [0, 0, 0, 0, 0, 0, 0, 0, 0, 0]
def apL (K : List Kd) : List Int := K.foldl apKd ap0
theorem apStep_len (s : Int) (ap : List Int) (t : Int) : (apStep s ap t).length = ap.length := by simp [apStep]
theorem apFold_len (s : Int) (l : List Int) : ∀ ap : List Int, (l.foldl (apStep s) ap).length = ap.length := by
  induction l with
  | nil => intro ap; rfl
  | cons t l ih => intro ap; rw [List.foldl_cons, ih, apStep_len]
theorem apKd_len (ap : List Int) (k : Kd) : (apKd ap k).length = ap.length := apFold_len _ _ _
theorem apK_len (K : List Kd) : ∀ ap : List Int, (K.foldl apKd ap).length = ap.length := by
  induction K with
  | nil => intro ap; rfl
  | cons k K ih => intro ap; rw [List.foldl_cons, ih, apKd_len]
theorem apL_len (K : List Kd) : (apL K).length = 10 := by unfold apL; rw [apK_len]; rfl
theorem eachK_in (a : Int) : ∀ k, k ≤ 9 → ∀ t ∈ eachK a k, 1 ≤ t ∧ t ≤ 9 := by
  intro k
  induction k with
  | zero => intro _ t ht; simp [eachK] at ht
  | succ k ih =>
    intro hk t ht
    rw [eachK] at ht
    split at ht
    · rcases List.mem_append.1 ht with h | h
      · exact ih (by omega) t h
      · simp at h; omega
    · exact ih (by omega) t ht
theorem eachK_pre (a : Int) : ∀ m j, ∃ t, eachK a (m + j) = eachK a m ++ t
  | m, 0 => ⟨[], by simp⟩
  | m, j + 1 => by
    obtain ⟨t, ht⟩ := eachK_pre a m j
    rw [← Nat.add_assoc, eachK]
    split
    · exact ⟨t ++ [9 - ((m + j : Nat) : Int)], by rw [ht, List.append_assoc]⟩
    · exact ⟨t, ht⟩
end Go.Proofs.YtaieidigpilbfaaGreat

namespace Go.Proofs.YtaieidigpilbfaaGreat
open Go Go.RowKit

/-- What lies from B on, and was there, lies as it lay. -/
structure Above (B : Nat) (W W' : World) : Prop where
  size : W.heap.size ≤ W'.heap.size
  block : ∀ k, B ≤ k → k < W.heap.size → W'.heap[k]? = W.heap[k]?
theorem Above.refl (B : Nat) (W : World) : Above B W W := ⟨Nat.le_refl _, fun _ _ _ => rfl⟩
theorem Above.trans {B : Nat} {X Y Z : World} (h : Above B X Y) (k : Above B Y Z) : Above B X Z :=
  ⟨Nat.le_trans h.size k.size, fun i hi hl => (k.block i hi (Nat.lt_of_lt_of_le hl h.size)).trans (h.block i hi hl)⟩
theorem Above.mono {B B' : Nat} {X Y : World} (h : Above B X Y) (hB : B ≤ B') : Above B' X Y := ⟨h.size, fun i hi hl => h.block i (Nat.le_trans hB hi) hl⟩
theorem Above.of_below {B : Nat} {X Y : World} (h : Below X.heap.size X Y) : Above B X Y := ⟨h.size, fun i _ hl => h.block i hl⟩
theorem Above.setCell {B : Nat} (X : World) {p : Addr} (hp : p.block < B) (v : Value) : Above B X (X.setCell p v) :=
  ⟨by simp [World.setCell], fun i hi _ => Below.heap_setCell X p v i (by omega)⟩
theorem Above.putObj {B : Nat} (X : World) {l : Nat} (hl : l < B) (o : Obj) : Above B X (X.putObj l o) :=
  ⟨by simp [World.putObj], fun i hi _ => World.putObj_heap_other (by omega)⟩
theorem below_putObj {B : Nat} (X : World) {l : Nat} (hl : B ≤ l) (o : Obj) : Below B X (X.putObj l o) :=
  ⟨rfl, rfl, rfl, by simp [World.putObj], fun i hi => World.putObj_heap_other (by omega)⟩

/-- What is said hangs on the blocks below B alone. -/
def On {β : Type} (B : Nat) (J : β → World → Prop) : Prop := ∀ s A A', J s A → Below B A A' → J s A'

/-- An iterator's contract: J between two rounds, Jx where a round has said no; Kx is what it relies on, Fx what it lays for what it yields. -/
def Iter {α : Type} (P : Program) (g : Nat) (fa lb : Array Value) (encs : α → Array Value) (Fx : Nat → α → World → Prop) (Kx : World → Prop) (S Sp : List α → Prop) (w : World) : Prop :=
  ∀ (n l : Nat) (J Jx : List α → World → Prop) (W : World), 3 ≤ n → Below w.heap.size w W → On W.heap.size J → (∀ pre A, J pre A → Kx A) →
    (∀ pre x A, Sp (pre ++ [x]) → Fx W.heap.size x A → J pre A → W.heap.size ≤ A.heap.size → YieldAt Fence.wide (n - 1) P l (encs x) A fun e A' =>
      (e = .returned (.bool true) ∧ J (pre ++ [x]) A' ∧ Above W.heap.size A A') ∨ (e = .returned (.bool false) ∧ Jx (pre ++ [x]) A')) →
    J [] W →
    CallsIn Fence.wide n P g (fa ++ #[.func (.yield l) #[] #[]] ++ lb) W fun e W' => (∃ v, e = .returned v) ∧ ((∃ xs, S xs ∧ J xs W') ∨ (∃ pre, Sp pre ∧ Jx pre W'))

/-- How a round of the caller's is left. -/
def leftBy {α : Type} (B : Nat) (I : List α → World → Prop) (Ix : Code → List α → World → Prop) (xs : List α) (W : World) : Exit → Act → World → Prop
  | .normal, _, W' => Above B W W' ∧ I xs W'
  | .ret, _, W' => Above B W W' ∧ Ix .ret xs W'
  | .exit id, _, W' => Above B W W' ∧ Ix (.exit id) xs W'
  | .goto t, _, W' => Above B W W' ∧ Ix (.goto t) xs W'
  | _, _, _ => False

variable {n : Nat} {P : Program}

theorem rangeFunc_law {α : Type} {g : Operand} {ps : Array Tmp} {assign body : Code} {Q : Exit → Act → World → Prop} {a : Act} {w : World} (hn : 5 ≤ n)
    {gf : Nat} {fa lb : Array Value} (hg : a.eval g = .func (.func gf) fa lb) (eg : ∀ args w, (callFunc gf args).run P w = .ok (.enter gf args) w)
    {encs : α → Array Value} {Fx : Nat → α → World → Prop} {Kx : World → Prop} {S Sp : List α → Prop} {w0 : World} (hseq : Iter P gf fa lb encs Fx Kx S Sp w0) (hb0 : Below w0.heap.size w0 w) (hps : ∀ x, (encs x).size = ps.size)
    (I : List α → World → Prop) (Ix : Code → List α → World → Prop) (hK : ∀ pre A, I pre A → Kx A) (hI : On w.heap.size I) (hIx : ∀ c pre X o, Ix c pre X → Ix c pre (X.putObj (w.heap.size + 1) o)) (h0 : I [] w)
    (hround : ∀ (l : Nat) (pre : List α) (x : α) (W : World), Sp (pre ++ [x]) → Fx (w.heap.size + 2) x W → I pre W → w.heap.size + 2 ≤ W.heap.size →
      assign.wpIn (Fence.wide.inRound l) (n - 1 - 1) P (Exit.then (fun a₁ w₁ => Above w.heap.size W w₁ ∧ ∀ w₂, Below w.heap.size w₁ w₂ → Above (w.heap.size + 2) w₁ w₂ →
        body.wpIn (Fence.wide.inRound l) (n - 1 - 1) P (leftBy w.heap.size I Ix (pre ++ [x]) w₂) a₁ w₂) (fun _ _ _ => False)) { tmps := (ps.zip (encs x)).foldl (fun t (p, v) => t.setIfInBounds p v) a.tmps, defers := [] } W)
    (hdone : ∀ (xs : List α) (W : World), S xs → I xs W → W.heap[w.heap.size]? = some (.deferred (some [])) → Q .normal { a with defers := { target := .collected w.heap.size, args := #[] } :: a.defers } W)
    (hstop : ∀ (c : Code) (pre : List α) (W : World), Sp pre → Ix c pre W → W.heap[w.heap.size]? = some (.deferred (some [])) → c.wpIn Fence.wide n P Q { a with defers := { target := .collected w.heap.size, args := #[] } :: a.defers } W) :
    (Code.rangeFunc g ps assign body).wpIn Fence.wide n P Q a w := by
  refine wpIn_rangeFunc ?_
  intro fn hfn
  obtain ⟨B, hB⟩ : ∃ B, w.heap.size = B := ⟨_, rfl⟩
  let rec_ : LoopState → Option Code → Loop := fun st pe => { state := st, pending := pe, fn, tmps := a.tmps, params := ps, assign, body, defers := B }
  let U : World := (w.alloc (.deferred (some []))).alloc (.loop (rec_ .ready none))
  have hU1 : U.heap[B + 1]? = some (.loop (rec_ .ready none)) := by
    have := World.alloc_heap_new (w.alloc (.deferred (some []))) (.loop (rec_ .ready none))
    rw [World.size_alloc, hB] at this; exact this
  have hU0 : U.heap[B]? = some (.deferred (some [])) := by
    have h1 := World.alloc_heap_new w (.deferred (some []))
    have h2 := Below.heap_alloc (w.alloc (.deferred (some []))) (.loop (rec_ .ready none)) B (by simp; omega)
    rw [hB] at h1; exact h2.trans h1
  have hUs : U.heap.size = B + 2 := by show (World.alloc (World.alloc w _) _).heap.size = _; simp; omega
  have hUb : Below B w U := by
    rw [← hB]; exact ((Below.refl _ w).alloc (Nat.le_refl _) _).alloc (by simp) _
  refine ⟨B + 1, [{ target := .collected B, args := #[] }], U, { target := .fn (.func gf) lb, args := fa ++ #[.func (.yield (B + 1)) #[] #[]] }, U, gf,
    fa ++ #[.func (.yield (B + 1)) #[] #[]] ++ lb, U, ?_, ?_, fun f' _ => trivial, ?_, fun h => (by cases h), ?_⟩
  · have := run_enterLoop_outer (P := P) (w := w) fn a.tmps ps assign body
    rw [hB] at this; exact this
  · simp only [resolve, hg]; simp [go_sem]
  · simp [invoke, go_sem, eg]
  have still : ∀ {X Y : World}, Below (B + 2) X Y → X.heap[B + 1]? = some (.loop (rec_ .ready none)) → Y.heap[B + 1]? = some (.loop (rec_ .ready none)) := fun h k => (h.block _ (by omega)).trans k
  refine (hseq (n - 1) (B + 1)
    (fun pre W => I pre W ∧ B + 2 ≤ W.heap.size ∧ W.heap[B + 1]? = some (.loop (rec_ .ready none)) ∧ W.heap[B]? = some (.deferred (some [])))
    (fun pre W => ∃ c, Ix c pre W ∧ W.heap[B + 1]? = some (.loop (rec_ .done (some c))) ∧ W.heap[B]? = some (.deferred (some [])))
    U (by omega) (hb0.trans ((hB ▸ hUb).mono hb0.size)) ?_ (fun pre A h => hK pre A h.1) ?_ ⟨hI _ _ _ h0 (hB ▸ hUb), by omega, hU1, hU0⟩).mono ?_
  · rintro s X Y ⟨h1, h2, h3, h4⟩ hb
    rw [hUs] at hb
    exact ⟨hI _ _ _ h1 (hb.mono (by omega)), Nat.le_trans h2 hb.size, (hb.block _ (by omega)).trans h3, (hb.block _ (by omega)).trans h4⟩
  · rintro pre x W hsp hfx ⟨hi, hsz, hl, hk⟩ _
    have hy := run_yield (P := P) (args := encs x) hl (hps x)
    refine ⟨fn, _, assign, body, hy, roundIn_of_wpIn hfn ?_⟩
    have hr := hround (B + 1) pre x W hsp (by rw [hB]; rw [hUs] at hfx; exact hfx) hi (by omega)
    refine wpIn_mono hr ?_
    intro e a₁ w₁ hp
    cases e with
    | normal =>
      obtain ⟨hab, hbody⟩ := hp
      rw [hB] at hab
      have hl1 : w₁.heap[B + 1]? = some (.loop (rec_ .ready none)) := (hab.block _ (by omega) (by omega)).trans hl
      have hk1 : w₁.heap[B]? = some (.deferred (some [])) := (hab.block _ (by omega) (by omega)).trans hk
      have hs1 : B + 2 ≤ w₁.heap.size := Nat.le_trans hsz hab.size
      refine ⟨_, run_beginRound hl1 rfl, ?_⟩
      have hl2 : (w₁.putObj (B + 1) (.loop (rec_ .busy none))).heap[B + 1]? = some (.loop (rec_ .busy none)) := World.putObj_heap_same (by omega)
      have hk2 : (w₁.putObj (B + 1) (.loop (rec_ .busy none))).heap[B]? = some (.deferred (some [])) := (World.putObj_heap_other (by omega)).trans hk1
      have hs2 : B + 2 ≤ (w₁.putObj (B + 1) (.loop (rec_ .busy none))).heap.size := by simp [World.putObj]; omega
      have hA2 : Above (B + 2) W (w₁.putObj (B + 1) (.loop (rec_ .busy none))) := (hab.mono (by omega)).trans (Above.putObj _ (by omega) _)
      refine wpIn_mono (hbody (w₁.putObj (B + 1) (.loop (rec_ .busy none))) (below_putObj _ (by omega) _) (Above.putObj _ (by omega) _)) ?_
      have fin : ∀ (jump : Option Code) (X : World), Above B (w₁.putObj (B + 1) (.loop (rec_ .busy none))) X →
          (Instr.endRound (B + 1) jump).run P X = .ok (.bool jump.isNone) (X.putObj (B + 1) (.loop (rec_ (if jump.isNone then .ready else .done) jump))) ∧
          (X.putObj (B + 1) (.loop (rec_ (if jump.isNone then .ready else .done) jump))).heap[B + 1]? = some (.loop (rec_ (if jump.isNone then .ready else .done) jump)) ∧
          (X.putObj (B + 1) (.loop (rec_ (if jump.isNone then .ready else .done) jump))).heap[B]? = some (.deferred (some [])) ∧ B + 2 ≤ X.heap.size := fun jump X hX => by
        have hlX := (hX.block _ (by omega) (by omega)).trans hl2
        have hkX := (hX.block _ (by omega) (by omega)).trans hk2
        have hsX : B + 2 ≤ X.heap.size := Nat.le_trans hs2 hX.size
        exact ⟨run_endRound (P := P) jump hlX, World.putObj_heap_same (by omega), (World.putObj_heap_other (by omega)).trans hkX, hsX⟩
      have after : ∀ {β : Type} (J : β → World → Prop) (s : β) (X : World) (o : Obj), On w.heap.size J → J s X → J s (X.putObj (B + 1) o) := fun J s X o hJ h => hJ _ _ _ h (below_putObj _ (by omega) _)
      intro e a₃ X hX
      cases e with
      | normal =>
        obtain ⟨hA, hI3⟩ := hX
        rw [hB] at hA
        obtain ⟨r1, r2, r3, r4⟩ := fin none X hA
        exact ⟨_, _, r1, .inl ⟨rfl, ⟨after I _ _ _ hI hI3, by simp [World.putObj]; omega, r2, r3⟩, by
          rw [hUs]; exact (hA2.trans (hA.mono (by omega))).trans (Above.putObj _ (by omega) _)⟩⟩
      | ret =>
        obtain ⟨hA, hI3⟩ := hX
        rw [hB] at hA
        obtain ⟨r1, r2, r3, _⟩ := fin (some .ret) X hA
        exact ⟨_, _, r1, .inr ⟨rfl, .ret, (hB ▸ hIx _ _ _ _ hI3), r2, r3⟩⟩
      | exit id =>
        obtain ⟨hA, hI3⟩ := hX
        rw [hB] at hA
        obtain ⟨r1, r2, r3, _⟩ := fin (some (.exit id)) X hA
        exact ⟨_, _, r1, .inr ⟨rfl, .exit id, (hB ▸ hIx _ _ _ _ hI3), r2, r3⟩⟩
      | goto t =>
        obtain ⟨hA, hI3⟩ := hX
        rw [hB] at hA
        obtain ⟨r1, r2, r3, _⟩ := fin (some (.goto t)) X hA
        exact ⟨_, _, r1, .inr ⟨rfl, .goto t, (hB ▸ hIx _ _ _ _ hI3), r2, r3⟩⟩
      | panic ch => exact hX.elim
      | outgrown => exact hX.elim
    | ret => exact hp.elim
    | exit id => exact hp.elim
    | goto t => exact hp.elim
    | panic ch => exact hp.elim
    | outgrown => exact hp.elim
  · rintro e X ⟨⟨v, rfl⟩, (⟨xs, hS, hi, hsz, hl, hk⟩ | ⟨pre, hSp, c, hi, hl, hk⟩)⟩
    · refine ⟨none, _, run_endLoop (P := P) hl (by simp [rec_]), ?_⟩
      have := hdone xs (X.putObj (B + 1) (.loop (rec_ .exhausted none))) hS (hI _ _ _ hi (below_putObj _ (by omega) _)) (by rw [hB]; exact (World.putObj_heap_other (by omega)).trans hk)
      rw [hB] at this; exact this
    · refine ⟨some c, _, run_endLoop (P := P) hl (by simp [rec_]), ?_⟩
      have := hstop c pre (X.putObj (B + 1) (.loop (rec_ .exhausted (some c)))) hSp (hB ▸ hIx c _ _ _ hi) (by rw [hB]; exact (World.putObj_heap_other (by omega)).trans hk)
      rw [hB] at this; exact this
end Go.Proofs.YtaieidigpilbfaaGreat

