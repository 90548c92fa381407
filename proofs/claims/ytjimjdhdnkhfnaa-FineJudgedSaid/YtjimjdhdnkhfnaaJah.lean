/- Contracts of functions of the program and of the reference, a calculus of states, and plain facts: a part of a proof. Own text. -/
import Derived.Test.YtjimjdhdnkhfnaaJag
import Derived.Deep.Cut
set_option linter.unusedVariables false
set_option linter.unusedSimpArgs false
set_option linter.unusedSectionVars false
namespace Go.Proofs.Ytjimjdhdnkhfnaa
open Go Go.RowKit
set_option maxHeartbeats 400000
set_option maxRecDepth 100000
structure Bx (w : World) (b : Nat) (t : TypeId) (cs : List Value) : Prop where
  h : w.heap[b]? = some (.cells ⟨cs⟩ t (0, 0))
section
variable {w U : World} {b b' : Nat} {t : TypeId} {cs : List Value}
theorem Bx.lt (K : Bx w b t cs) : b < w.heap.size := (Array.getElem?_eq_some_iff.1 K.h).1
theorem Bx.get (K : Bx w b t cs) : ∀ j, w.cell? ⟨b, j, none⟩ = cs[j]? := fun j => by rw [cell_of_row w b j _ _ _ K.h]; simp
theorem Bx.fr (K : Bx w b t cs) : ∀ j, w.frozen? ⟨b, j, none⟩ = false := fun j => frozen_of_row w b j _ _ K.h
theorem Bx.keep (K : Bx w b t cs) (hb : Below w.heap.size w U) : Bx U b t cs := ⟨(hb.block b K.lt).trans K.h⟩
theorem Bx.new (w : World) (cs : List Value) (t : TypeId) : Bx (w.alloc (.cells ⟨cs⟩ t)) w.heap.size t cs := ⟨heap_alloc_new _ _⟩
theorem Bx.newAt (w : World) (cs : List Value) (t : TypeId) (h : b = w.heap.size) : Bx (w.alloc (.cells ⟨cs⟩ t)) b t cs := by subst h; exact Bx.new _ _ _
theorem Bx.old (K : Bx w b t cs) (o : Obj) : Bx (w.alloc o) b t cs := ⟨(Below.heap_alloc w o b K.lt).trans K.h⟩
structure Put (w : World) (b : Nat) (U : World) : Prop where
  os : U.os = w.os
  tape : U.tape = w.tape
  output : U.output = w.output
  size : U.heap.size = w.heap.size
  block : ∀ k, k ≠ b → U.heap[k]? = w.heap[k]?
theorem Bx.put (K : Bx w b' t cs) (p : Put w b U) (h : b' ≠ b) : Bx U b' t cs := ⟨(p.block b' h).trans K.h⟩
theorem Put.below (p : Put w b U) {B : Nat} (h : B ≤ b) : Below B w U := ⟨p.os, p.tape, p.output, Nat.le_of_eq p.size.symm, fun k hk => p.block k (by omega)⟩
theorem upP {W X : World} (h1 : Below W.heap.size W X) (p : Put X b U) (h : W.heap.size ≤ b) : Below W.heap.size W U := h1.trans (p.below h)
theorem Put.cell (w : World) (b j : Nat) (v : Value) : Put w b (w.setCell ⟨b, j, none⟩ v) :=
  ⟨rfl, rfl, rfl, by simp [World.setCell], fun k hk => heap_setCell_other w ⟨b, j, none⟩ k v hk⟩
theorem Put.row (w : World) (b : Nat) (a : Array Value) : Put w b (w.setRow b a) := ⟨rfl, rfl, rfl, by simp, fun k hk => setRow_other w b k a hk⟩
theorem Put.trans {X Y Z : World} (p : Put X b Y) (q : Put Y b Z) : Put X b Z :=
  ⟨q.os.trans p.os, q.tape.trans p.tape, q.output.trans p.output, q.size.trans p.size, fun k hk => (q.block k hk).trans (p.block k hk)⟩
theorem Bx.cell (K : Bx w b t cs) (j : Nat) (v : Value) : Bx (w.setCell ⟨b, j, none⟩ v) b t (cs.set j v) :=
  ⟨by rw [heap_setCell_same w b j _ t v K.h]; simp⟩
theorem Bx.row (K : Bx w b t cs) (a : Array Value) : Bx (w.setRow b a) b t a.toList := ⟨by rw [setRow_heap w b _ a t _ K.h]⟩
end
section
variable {P : Program} {ops : Array Oper} {rest : List Oper} {o : Oper} {a : Act} {w : World} {Q : Exit → Act → World → Prop} {b : Nat} {t : TypeId}
theorem wpList_put (ty : TypeId) (p s : Tmp) (hg : o.guard = none) (ho : o.op = .store ty (.tmp p) (.tmp s)) {old : List Value} {cs : Array Value} (K : Bx w b t old) (hx : a.eval (.tmp p) = .pointer (some ⟨b, 0, none⟩))
    (hy : a.eval (.tmp s) = .agg cs) (hi : (P.info? ty).map (·.size) = some cs.size) (hold : old.length = cs.size) (h1 : cs.all (·.oneCell') = true)
    (h : ∀ U, Bx U b t cs.toList → Put w b U → wpList P ops Q rest (a.put o.dst undef) U) : wpList P ops Q (o :: rest) a w :=
  wpList_store_row hg ty _ _ ho b cs hx hy t _ K.h hi (by simpa using hold) h1 (h _ (K.row cs) (Put.row w b cs))
theorem wpList_get (ty : TypeId) (p : Tmp) (hg : o.guard = none) (ho : o.op = .load ty (.tmp p)) {cs : List Value} (K : Bx w b t cs) (hx : a.eval (.tmp p) = .pointer (some ⟨b, 0, none⟩)) {d : TypeDesc}
    (hu : P.underlying ty = some d) (hd : (match d with | .struct _ | .array _ _ => true | _ => false) = true) (hi : (P.info? ty).map (·.size) = some cs.length)
    (h : wpList P ops Q rest (a.put o.dst (.agg ⟨cs⟩)) w) : wpList P ops Q (o :: rest) a w :=
  wpList_load_row hg ty _ ho b hx t _ _ d K.h hu hd (by simpa using hi) h
end
section
variable {P : Program} {fn : Func} {w : World} {b : Nat} {t ty : TypeId} {cs : List Value} {d : TypeDesc}
theorem cell_res (K : Bx w b t cs) (hu : P.underlying ty = some d) (hd : (match d with | .struct _ | .array _ _ => true | _ => false) = true) (hi : (P.info? ty).map (·.size) = some cs.length) :
    (loadVar ty ⟨b, 0, none⟩).run P w = .ok (.agg ⟨cs⟩) w := run_loadVar_row w b t ty _ _ d K.h hu hd (by simpa using hi)
theorem results_1 {p : Tmp} (h : fn.results = #[.cell p ty]) (tmps : Array Value) (hp : tmps.getD p undef = .pointer (some ⟨b, 0, none⟩)) (K : Bx w b t cs)
    (hu : P.underlying ty = some d) (hd : (match d with | .struct _ | .array _ _ => true | _ => false) = true) (hi : (P.info? ty).map (·.size) = some cs.length) : (results fn tmps).run P w = .ok (.agg ⟨cs⟩) w :=
  results_cell_row h tmps w b t _ _ d hp K.h hu hd (by simpa using hi)
end
section
variable {P : Program} {fn : Func} {w : World} {b : Nat} {t ty : TypeId} {cs : List Value} {d : TypeDesc} {R : Ending → World → Prop} {a : Act}
theorem post_1 {p : Tmp} (h : fn.results = #[.cell p ty]) (h0 : a.defers = []) (hp : a.tmps.getD p undef = .pointer (some ⟨b, 0, none⟩)) (K : Bx w b t cs)
    (hu : P.underlying ty = some d) (hd : (match d with | .struct _ | .array _ _ => true | _ => false) = true) (hi : (P.info? ty).map (·.size) = some cs.length) (hR : R (.returned (.agg ⟨cs⟩)) w) : bodyPost P fn R .ret a w :=
  bodyPost_ret (results_1 h _ hp K hu hd hi) h0 hR
end
end Go.Proofs.Ytjimjdhdnkhfnaa
namespace Go.Proofs.Ytjimjdhdnkhfnaa
open Go Go.RowKit
section alloc
variable {P : Program} {md : Region.Mode}
def grown (b : World) : World → Prop := fun w' => ∃ z, w' = grow b z
end alloc
end Go.Proofs.Ytjimjdhdnkhfnaa
namespace Go.Proofs.Ytjimjdhdnkhfnaa
open Go Go.RowKit
section late
variable {P : Program} {md : Region.Mode}
def late (os : Oper) (e : Nat) : Oper := { os with after := os.after.push ⟨e, .data⟩ }
end late
end Go.Proofs.Ytjimjdhdnkhfnaa

