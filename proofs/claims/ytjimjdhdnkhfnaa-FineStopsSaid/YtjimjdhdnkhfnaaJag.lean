/- Contracts of functions of the program and of the reference, a calculus of states, and plain facts: a part of a proof. Own text. -/
import Derived.Test.YtjimjdhdnkhfnaaJaf
import Derived.Test.YtjimjdhdnkhfnaaProg
import Derived.Carry
import Derived.OwnWalk
set_option linter.unusedVariables false
set_option linter.unusedSimpArgs false
set_option linter.unusedSectionVars false
namespace Go.Proofs.Ytjimjdhdnkhfnaa
open Go Go.RowKit
set_option maxHeartbeats 400000
set_option maxRecDepth 100000
theorem index_lit {P : Program} (w : World) {t e : TypeId} {n : Nat} (cs : Array Value) (i : Int) (ht : P.underlying t = some (.array n e)) (he : P.plainKey e = true) (hc : (sizeOf e).run P w = .ok 1 w)
    (h0 : 0 ≤ i) (h1 : i < n) (h2 : i.toNat < cs.size) :
    (Instr.index t (.agg cs) (.int .i64 i)).run P w = .ok (cs.getD i.toNat undef) w := by
  have hx : cs[i.toNat]? = some (cs.getD i.toNat undef) := by simp [h2]
  have hp := run_part_plain (P := P) (w := w) he hx
  simp only [Instr.index, asIntOf]
  simp [run_underlying ht, h0, h1, hc]
  simpa using hp
def cell2 (w : World) (b o : Nat) : Option Value := w.cell? ⟨b, o, none⟩
def frozen2 (w : World) (b o : Nat) : Bool := w.frozen? ⟨b, o, none⟩
structure Gr where
  blocks : Array Obj
  count : Nat
instance : Inhabited Gr := ⟨⟨#[], 0⟩⟩
def grow (w : World) (z : Gr) : World := { w with heap := w.heap ++ z.blocks, drawn := z.count }
theorem below_grow {w w' : World} (h : Below w.heap.size w w') : ∃ z, w' = grow w z := by
  refine ⟨⟨w'.heap.extract w.heap.size w'.heap.size, w'.drawn⟩, ?_⟩
  have hh : w'.heap = w.heap ++ w'.heap.extract w.heap.size w'.heap.size := by
    apply Array.ext_getElem?
    intro i
    rw [Array.getElem?_append]
    have := h.size
    split
    · rename_i hi; exact h.block i hi
    · rename_i hi
      rw [Array.getElem?_extract]
      by_cases h2 : i < w'.heap.size
      · rw [if_pos (by omega)]; congr 1; omega
      · rw [if_neg (by omega)]; simp; omega
  obtain ⟨a, b, c, d, e⟩ := w'
  simp only [grow, World.mk.injEq] at *
  exact ⟨hh, h.tape, trivial, h.os, h.output⟩
theorem grow_below (w : World) (z : Gr) : Below w.heap.size w (grow w z) :=
  ⟨rfl, rfl, rfl, by simp [grow], fun k hk => by simp [grow, Array.getElem?_append, hk]⟩
theorem grow_grow (w : World) (z y : Gr) : ∃ x, grow (grow w z) y = grow w x :=
  below_grow ((grow_below w z).trans ((grow_below (grow w z) y).mono (by simp [grow])))
@[go_sem, simp] theorem grow_size (w : World) (z : Gr) : (grow w z).heap.size = w.heap.size + z.blocks.size := by simp [grow]
theorem grow_cell_lt (w : World) (z : Gr) (b o : Nat) (h : b < w.heap.size) : (grow w z).cell? ⟨b, o, none⟩ = w.cell? ⟨b, o, none⟩ :=
  (grow_below w z).cell (p := ⟨b, o, none⟩) h
theorem grow_frozen_lt (w : World) (z : Gr) (b o : Nat) (h : b < w.heap.size) : (grow w z).frozen? ⟨b, o, none⟩ = w.frozen? ⟨b, o, none⟩ :=
  (grow_below w z).frozen (p := ⟨b, o, none⟩) h
@[go_sem] theorem grow_cell (w : World) (z : Gr) (b o : Nat) : (grow w z).cell? ⟨b, o, none⟩ = if b < w.heap.size then w.cell? ⟨b, o, none⟩ else cell2 (grow w z) b o := by
  split
  · exact grow_cell_lt w z b o (by assumption)
  · rfl
@[go_sem] theorem grow_frozen (w : World) (z : Gr) (b o : Nat) : (grow w z).frozen? ⟨b, o, none⟩ = if b < w.heap.size then w.frozen? ⟨b, o, none⟩ else frozen2 (grow w z) b o := by
  split
  · exact grow_frozen_lt w z b o (by assumption)
  · rfl
theorem quiet_grow {P : Program} {f : FuncId} {args : Array Value} {w w1 : World} {v : Value} {z : Gr} (hz : w1 = grow w z)
    (h : Calls P f args w1 fun e w' => e = .returned v ∧ Below w1.heap.size w1 w') : Calls P f args w1 fun e w' => e = .returned v ∧ ∃ y, w' = grow w y :=
  h.mono fun e w' ⟨he, hb⟩ => ⟨he, by subst hz; obtain ⟨y, hy⟩ := below_grow hb; subst hy; exact grow_grow w z y⟩
theorem wp_region_grow {P : Program} {id : Nat} {Q : Exit → Act → World → Prop} {a : Act} {w : World} {l : List Oper} (hm : P.follows .mixedOrders = true)
    (hB : Region.lexB .any l.toArray = true)
    (h : wpQuiet P l.toArray (fun w' => ∃ z, w' = grow w z) (fun a' => ∀ z, Q .normal a' (grow w z)) l a) : (Code.region id l.toArray true).wp P Q a w := by
  refine wp_region_head (C := fun w' => ∃ z, w' = grow w z) hm hB ⟨⟨#[], w.drawn + 1⟩, by simp [grow]⟩ ?_
  have e : (fun a' => ∀ z, Q .normal a' (grow w z)) = (fun a' => ∀ w', (∃ z, w' = grow w z) → Q .normal a' w') := by
    funext a'; exact propext ⟨fun h w' ⟨z, hz⟩ => hz ▸ h z, fun h z => h _ ⟨z, rfl⟩⟩
  rw [← e]; exact h
theorem up {W X Y : World} (h1 : Below W.heap.size W X) (h2 : Below X.heap.size X Y) : Below W.heap.size W Y := h1.trans (h2.mono h1.size)
theorem up_alloc (W : World) (o : Obj) : Below W.heap.size W (W.alloc o) := (Below.refl _ _).alloc (Nat.le_refl _) _
def ints (l : List Int) : List Value := l.map (Value.int .i64)
structure Is (w : World) (A : Option Addr) (n : Nat) (l : List Int) : Prop where
  len : n = l.length
  small : n ≤ 9223372036854775807
  get : ∀ k (h : k < l.length), ∃ b o, A = some ⟨b, o, none⟩ ∧ b < w.heap.size ∧ w.cell? ⟨b, o + k, none⟩ = some (.int .i64 l[k])
theorem Is.keep {w w' : World} {A : Option Addr} {n : Nat} {l : List Int} (h : Is w A n l) (hb : Below w.heap.size w w') : Is w' A n l :=
  ⟨h.len, h.small, fun k hk => by
    obtain ⟨b, o, e, hlt, hg⟩ := h.get k hk
    exact ⟨b, o, e, by have := hb.size; omega, (hb.cell (p := ⟨b, o + k, none⟩) hlt).trans hg⟩⟩
theorem Is.of_own {w : World} {base n : Nat} {v : Value} {l : List Int} (h : w.ownsRow base 3 1 v n (ints l)) : ∃ A c, v = .slice A n c ∧ n ≤ c ∧ Is w A n l := by
  have hl : n = l.length := by have := h.1; simp [ints] at this; omega
  rcases h.2 with ⟨rfl, rfl⟩ | ⟨g, cap, cur, rfl, _, hg, hnc, hcm, hcs, htk⟩
  · exact ⟨none, 0, rfl, Nat.le_refl _, hl, by omega, fun k hk => by omega⟩
  · refine ⟨some ⟨g, 0, none⟩, cap, rfl, hnc, hl, by unfold maxLen at hcm; omega, fun k hk => ⟨g, 0, rfl, (Array.getElem?_eq_some_iff.1 hg).1, ?_⟩⟩
    have := h.cells (g := g) rfl k (.int .i64 l[k]) (by simp [ints, hk])
    rw [Nat.zero_add]; rw [Addr.add_lit] at this; simpa using this
def i64 (n : Int) : Prop := -9223372036854775808 ≤ n ∧ n ≤ 9223372036854775807
structure Bk (w : World) (b : Nat) (cs : List Value) : Prop where
  lt : b < w.heap.size
  get : ∀ j, w.cell? ⟨b, j, none⟩ = cs[j]?
theorem Bk.keep {w w' : World} {b : Nat} {cs : List Value} (h : Bk w b cs) (hb : Below w.heap.size w w') : Bk w' b cs :=
  ⟨Nat.lt_of_lt_of_le h.lt hb.size, fun j => (hb.cell (p := ⟨b, j, none⟩) h.lt).trans (h.get j)⟩
theorem ret_int {a b : Int} (h : a = b) : Ending.returned (.int .i64 a) = .returned (.int .i64 b) := by rw [h]
end Go.Proofs.Ytjimjdhdnkhfnaa
