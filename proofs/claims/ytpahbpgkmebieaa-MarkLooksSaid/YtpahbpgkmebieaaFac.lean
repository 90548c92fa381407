/- Facts of the program's types, worlds that have grown, arrays by value. Own text. -/
import Derived.Test.YtpahbpgkmebieaaProg
import Derived.Test.YtpahbpgkmebieaaBase
import Derived.Carry
namespace Go.Proofs.Ytpahbpgkmebieaa
open Go Go.RowKit

/-- One of five, of six. -/
def g5 (a0 a1 a2 a3 a4 i : Int) : Int := if i = 0 then a0 else if i = 1 then a1 else if i = 2 then a2 else if i = 3 then a3 else a4
def g6 (a0 a1 a2 a3 a4 a5 i : Int) : Int := if i = 0 then a0 else if i = 1 then a1 else if i = 2 then a2 else if i = 3 then a3 else if i = 4 then a4 else a5

theorem at5 (a0 a1 a2 a3 a4 i : Int) (h0 : 0 ≤ i) (h1 : i < 5) :
    [Value.int .i64 a0, .int .i64 a1, .int .i64 a2, .int .i64 a3, .int .i64 a4][i.toNat]? = some (.int .i64 (g5 a0 a1 a2 a3 a4 i)) := by
  rcases (by omega : i = 0 ∨ i = 1 ∨ i = 2 ∨ i = 3 ∨ i = 4) with rfl | rfl | rfl | rfl | rfl <;> rfl
theorem at6 (a0 a1 a2 a3 a4 a5 i : Int) (h0 : 0 ≤ i) (h1 : i < 6) :
    [Value.int .i64 a0, .int .i64 a1, .int .i64 a2, .int .i64 a3, .int .i64 a4, .int .i64 a5][i.toNat]? = some (.int .i64 (g6 a0 a1 a2 a3 a4 a5 i)) := by
  rcases (by omega : i = 0 ∨ i = 1 ∨ i = 2 ∨ i = 3 ∨ i = 4 ∨ i = 5) with rfl | rfl | rfl | rfl | rfl | rfl <;> rfl
theorem at5a (a0 a1 a2 a3 a4 i : Int) (h0 : 0 ≤ i) (h1 : i < 5) :
    (#[Value.int .i64 a0, .int .i64 a1, .int .i64 a2, .int .i64 a3, .int .i64 a4] : Array Value)[i.toNat]? = some (.int .i64 (g5 a0 a1 a2 a3 a4 i)) := by
  rw [← at5 a0 a1 a2 a3 a4 i h0 h1]; simp
theorem at6a (a0 a1 a2 a3 a4 a5 i : Int) (h0 : 0 ≤ i) (h1 : i < 6) :
    (#[Value.int .i64 a0, .int .i64 a1, .int .i64 a2, .int .i64 a3, .int .i64 a4, .int .i64 a5] : Array Value)[i.toNat]? = some (.int .i64 (g6 a0 a1 a2 a3 a4 a5 i)) := by
  rw [← at6 a0 a1 a2 a3 a4 a5 i h0 h1]; simp

@[go_sem] theorem got5 (a0 a1 a2 a3 a4 i : Int) (h0 : 0 ≤ i) (h : i.toNat < [Value.int .i64 a0, .int .i64 a1, .int .i64 a2, .int .i64 a3, .int .i64 a4].length) :
    [Value.int .i64 a0, .int .i64 a1, .int .i64 a2, .int .i64 a3, .int .i64 a4][i.toNat] = .int .i64 (g5 a0 a1 a2 a3 a4 i) := by
  have h1 : i < 5 := by simp at h; omega
  have := at5 a0 a1 a2 a3 a4 i h0 h1
  rw [List.getElem?_eq_getElem h] at this
  exact Option.some.inj this
@[go_sem] theorem got6 (a0 a1 a2 a3 a4 a5 i : Int) (h0 : 0 ≤ i) (h : i.toNat < [Value.int .i64 a0, .int .i64 a1, .int .i64 a2, .int .i64 a3, .int .i64 a4, .int .i64 a5].length) :
    [Value.int .i64 a0, .int .i64 a1, .int .i64 a2, .int .i64 a3, .int .i64 a4, .int .i64 a5][i.toNat] = .int .i64 (g6 a0 a1 a2 a3 a4 a5 i) := by
  have h1 : i < 6 := by simp at h; omega
  have := at6 a0 a1 a2 a3 a4 a5 i h0 h1
  rw [List.getElem?_eq_getElem h] at this
  exact Option.some.inj this
theorem at6n (a0 a1 a2 a3 a4 a5 : Int) (k : Nat) (h : k < 6) :
    [Value.int .i64 a0, .int .i64 a1, .int .i64 a2, .int .i64 a3, .int .i64 a4, .int .i64 a5][k]? = some (.int .i64 (g6 a0 a1 a2 a3 a4 a5 k)) := by
  rcases (by omega : k = 0 ∨ k = 1 ∨ k = 2 ∨ k = 3 ∨ k = 4 ∨ k = 5) with rfl | rfl | rfl | rfl | rfl | rfl <;> rfl
theorem at5n (a0 a1 a2 a3 a4 : Int) (k : Nat) (h : k < 5) :
    [Value.int .i64 a0, .int .i64 a1, .int .i64 a2, .int .i64 a3, .int .i64 a4][k]? = some (.int .i64 (g5 a0 a1 a2 a3 a4 k)) := by
  rcases (by omega : k = 0 ∨ k = 1 ∨ k = 2 ∨ k = 3 ∨ k = 4) with rfl | rfl | rfl | rfl | rfl <;> rfl
attribute [go_sem] at5 at6 at5a at6a

/-- Reading one cell of an array by value. -/
theorem index_lit {P : Program} (w : World) {t e : TypeId} {n : Nat} (cs : Array Value) (i : Int) (ht : P.underlying t = some (.array n e)) (he : P.plainKey e = true) (hc : (sizeOf e).run P w = .ok 1 w)
    (h0 : 0 ≤ i) (h1 : i < n) (h2 : i.toNat < cs.size) :
    (Instr.index t (.agg cs) (.int .i64 i)).run P w = .ok (cs.getD i.toNat undef) w := by
  have hx : cs[i.toNat]? = some (cs.getD i.toNat undef) := by simp [h2]
  have hp := run_part_plain (P := P) (w := w) he hx
  simp only [Instr.index, asIntOf]
  simp [run_underlying ht, h0, h1, hc]
  simpa using hp

section
variable (w : World) (cs : Array Value) (i : Int) (h0 : 0 ≤ i)
include h0
@[go_sem] theorem index28 (h1 : i < 6) (h2 : i.toNat < cs.size) : (Instr.index 28 (.agg cs) (.int .i64 i)).run Try.prog w = .ok (cs.getD i.toNat undef) w :=
  index_lit w cs i (n := 6) (e := 3) (by kernel_rfl) (by kernel_rfl) (by kernel_rfl) h0 h1 h2
@[go_sem] theorem index31 (h1 : i < 6) (h2 : i.toNat < cs.size) : (Instr.index 31 (.agg cs) (.int .i64 i)).run Try.prog w = .ok (cs.getD i.toNat undef) w :=
  index_lit w cs i (n := 6) (e := 3) (by kernel_rfl) (by kernel_rfl) (by kernel_rfl) h0 h1 h2
@[go_sem] theorem index98 (h1 : i < 6) (h2 : i.toNat < cs.size) : (Instr.index 98 (.agg cs) (.int .i64 i)).run Try.prog w = .ok (cs.getD i.toNat undef) w :=
  index_lit w cs i (n := 6) (e := 90) (by kernel_rfl) (by kernel_rfl) (by kernel_rfl) h0 h1 h2
@[go_sem] theorem index23 (h1 : i < 5) (h2 : i.toNat < cs.size) : (Instr.index 23 (.agg cs) (.int .i64 i)).run Try.prog w = .ok (cs.getD i.toNat undef) w :=
  index_lit w cs i (n := 5) (e := 3) (by kernel_rfl) (by kernel_rfl) (by kernel_rfl) h0 h1 h2
end

/-! ### Worlds that have grown -/
/-- Words that simp does not turn. -/
def cell2 (w : World) (b o : Nat) : Option Value := w.cell? ⟨b, o, none⟩
def frozen2 (w : World) (b o : Nat) : Bool := w.frozen? ⟨b, o, none⟩
/-- What a world grows by: new blocks; and its count of draws. -/
structure Gr where
  blocks : Array Obj
  count : Nat
instance : Inhabited Gr := ⟨⟨#[], 0⟩⟩
/-- w with new blocks and another count of draws. -/
def grow (w : World) (z : Gr) : World := { w with heap := w.heap ++ z.blocks, drawn := z.count }

theorem below_grow {w w' : World} (h : Below w.heap.size w w') : ∃ z, w' = grow w z := by
  refine ⟨⟨w'.heap.extract w.heap.size w'.heap.size, w'.drawn⟩, ?_⟩
  have hh : w'.heap = w.heap ++ w'.heap.extract w.heap.size w'.heap.size := by
    apply Array.ext_getElem?
    intro i
    rw [Array.getElem?_append]
    have := h.size
    split
    · rename_i hi; exact h.block i hi
    · rename_i hi
      rw [Array.getElem?_extract]
      by_cases h2 : i < w'.heap.size
      · rw [if_pos (by omega)]; congr 1; omega
      · rw [if_neg (by omega)]; simp; omega
  obtain ⟨a, b, c, d, e⟩ := w'
  simp only [grow, World.mk.injEq] at *
  exact ⟨hh, h.tape, trivial, h.os, h.output⟩

theorem grow_below (w : World) (z : Gr) : Below w.heap.size w (grow w z) :=
  ⟨rfl, rfl, rfl, by simp [grow], fun k hk => by simp [grow, Array.getElem?_append, hk]⟩

theorem grow_grow (w : World) (z y : Gr) : ∃ x, grow (grow w z) y = grow w x :=
  below_grow ((grow_below w z).trans ((grow_below (grow w z) y).mono (by simp [grow])))

@[go_sem, simp] theorem grow_size (w : World) (z : Gr) : (grow w z).heap.size = w.heap.size + z.blocks.size := by simp [grow]
theorem grow_cell_lt (w : World) (z : Gr) (b o : Nat) (h : b < w.heap.size) : (grow w z).cell? ⟨b, o, none⟩ = w.cell? ⟨b, o, none⟩ :=
  (grow_below w z).cell (p := ⟨b, o, none⟩) h
theorem grow_frozen_lt (w : World) (z : Gr) (b o : Nat) (h : b < w.heap.size) : (grow w z).frozen? ⟨b, o, none⟩ = w.frozen? ⟨b, o, none⟩ :=
  (grow_below w z).frozen (p := ⟨b, o, none⟩) h
@[go_sem] theorem grow_cell (w : World) (z : Gr) (b o : Nat) : (grow w z).cell? ⟨b, o, none⟩ = if b < w.heap.size then w.cell? ⟨b, o, none⟩ else cell2 (grow w z) b o := by
  split
  · exact grow_cell_lt w z b o (by assumption)
  · rfl
@[go_sem] theorem grow_frozen (w : World) (z : Gr) (b o : Nat) : (grow w z).frozen? ⟨b, o, none⟩ = if b < w.heap.size then w.frozen? ⟨b, o, none⟩ else frozen2 (grow w z) b o := by
  split
  · exact grow_frozen_lt w z b o (by assumption)
  · rfl

/-- A call's contract in the class of the worlds that have grown out of w. -/
theorem quiet_grow {P : Program} {f : FuncId} {args : Array Value} {w w1 : World} {v : Value} {z : Gr} (hz : w1 = grow w z)
    (h : Calls P f args w1 fun e w' => e = .returned v ∧ Below w1.heap.size w1 w') : Calls P f args w1 fun e w' => e = .returned v ∧ ∃ y, w' = grow w y :=
  h.mono fun e w' ⟨he, hb⟩ => ⟨he, by subst hz; obtain ⟨y, hy⟩ := below_grow hb; subst hy; exact grow_grow w z y⟩

/-- A region in any order: what only reads, and calls that make memory of their own, ahead of a tail of one order. -/
theorem wp_region_grow_tail {P : Program} {id : Nat} {Q : Exit → Act → World → Prop} {a : Act} {w : World} {l : List Oper} (n : Nat) (hm : P.follows .mixedOrders = true)
    (hB : Region.lexTailB .any l.toArray n = true)
    (h : wpQuiet P l.toArray (fun w' => ∃ z, w' = grow w z) (fun a' => ∀ z, wpList P l.toArray Q (l.drop n) a' (grow w z)) (l.take n) a) : (Code.region id l.toArray true).wp P Q a w := by
  refine wp_region_head_tail (C := fun w' => ∃ z, w' = grow w z) n hm hB ⟨⟨#[], w.drawn + 1⟩, by simp [grow]⟩ ?_
  have e : (fun a' => ∀ z, wpList P l.toArray Q (l.drop n) a' (grow w z)) = (fun a' => ∀ w', (∃ z, w' = grow w z) → wpList P l.toArray Q (l.drop n) a' w') := by
    funext a'; exact propext ⟨fun h w' ⟨z, hz⟩ => hz ▸ h z, fun h z => h _ ⟨z, rfl⟩⟩
  rw [← e]; exact h
/-- The same without a tail. -/
theorem wp_region_grow {P : Program} {id : Nat} {Q : Exit → Act → World → Prop} {a : Act} {w : World} {l : List Oper} (hm : P.follows .mixedOrders = true)
    (hB : Region.lexB .any l.toArray = true)
    (h : wpQuiet P l.toArray (fun w' => ∃ z, w' = grow w z) (fun a' => ∀ z, Q .normal a' (grow w z)) l a) : (Code.region id l.toArray true).wp P Q a w := by
  refine wp_region_head (C := fun w' => ∃ z, w' = grow w z) hm hB ⟨⟨#[], w.drawn + 1⟩, by simp [grow]⟩ ?_
  have e : (fun a' => ∀ z, Q .normal a' (grow w z)) = (fun a' => ∀ w', (∃ z, w' = grow w z) → Q .normal a' w') := by
    funext a'; exact propext ⟨fun h w' ⟨z, hz⟩ => hz ▸ h z, fun h z => h _ ⟨z, rfl⟩⟩
  rw [← e]; exact h

/-- A contract that leaves the world alone, as one that lets it grow. -/
theorem still_grow {P : Program} {f : FuncId} {args : Array Value} {w : World} {v : Value}
    (h : Calls P f args w fun e w' => e = .returned v ∧ w = w') : Calls P f args w fun e w' => e = .returned v ∧ Below w.heap.size w w' :=
  h.mono fun _ _ ⟨he, hw⟩ => ⟨he, hw ▸ Below.refl _ _⟩

theorem up {W X Y : World} (h1 : Below W.heap.size W X) (h2 : Below X.heap.size X Y) : Below W.heap.size W Y := h1.trans (h2.mono h1.size)
theorem up_alloc (W : World) (o : Obj) : Below W.heap.size W (W.alloc o) := (Below.refl _ _).alloc (Nat.le_refl _) _

end Go.Proofs.Ytpahbpgkmebieaa
