/- Contracts of functions of the program and of the reference, a calculus of states, and plain facts: a part of a proof. Own text. -/
import Derived.Test.YtjimjdhdnkhfnaaJah
import Derived.Test.YtjimjdhdnkhfnaaJaj
import Derived.Scope
set_option linter.unusedVariables false
set_option linter.unusedSimpArgs false
set_option linter.unusedSectionVars false
namespace Go.Proofs.Ytjimjdhdnkhfnaa
open Go Go.RowKit Go.Shelf
attribute [local go_sem] Oper.semAt_some
set_option maxHeartbeats 400000
set_option maxRecDepth 100000
structure OffD (Ds : List Nat) (X Y : World) : Prop where
  os : Y.os = X.os
  tape : Y.tape = X.tape
  output : Y.output = X.output
  size : Y.heap.size = X.heap.size
  block : ∀ b, b ∉ Ds → Y.heap[b]? = X.heap[b]?
theorem OffD.below {Ds : List Nat} {X Y Z : World} {B : Nat} (h : OffD Ds X Y) (hb : Below B Z X) (hD : ∀ D ∈ Ds, B ≤ D) : Below B Z Y :=
  hb.trans ⟨h.os, h.tape, h.output, Nat.le_of_eq h.size.symm, fun k hk => h.block k (fun hm => by have := hD k hm; omega)⟩
def mkD (D : Nat) : Deferred := { target := .collected D, args := #[] }
theorem leaves_marks {F : Fence} {n : Nat} {P : Program} {fn : Func} {tmps : Array Value} {R : Ending → World → Prop} : ∀ (Ds : List Nat) (X : World), Ds.Nodup →
    (∀ D ∈ Ds, X.heap[D]? = some (.deferred (some []))) → (∀ Y, OffD Ds X Y → ∃ v, (results fn tmps).run P Y = .ok v Y ∧ R (.returned v) Y) →
    LeavesInM F n P fn tmps R (Ds.map mkD) .returning X
  | [], X, _, _, h => by
    obtain ⟨v, h1, h2⟩ := h X ⟨rfl, rfl, rfl, rfl, fun _ _ => rfl⟩
    exact ⟨v, h1, h2⟩
  | D :: Ds, X, hn, hD, h => by
    refine ⟨by simp, .inl ⟨D, _, rfl, run_takeDeferred (hD D (List.mem_cons_self ..)), ?_⟩⟩
    obtain ⟨hn1, hn2⟩ := List.nodup_cons.1 hn
    refine leaves_marks Ds _ hn2 (fun E hE => (World.putObj_heap_other (by rintro rfl; exact hn1 hE)).trans (hD E (List.mem_cons_of_mem _ hE))) fun Y hY => h Y ⟨hY.os, hY.tape, hY.output, by rw [hY.size]; simp [World.putObj], fun b hb => ?_⟩
    rw [hY.block b (fun hm => hb (List.mem_cons_of_mem _ hm))]
    exact World.putObj_heap_other (by rintro rfl; exact hb (List.mem_cons_self ..))
theorem bodyPostM_marks {F : Fence} {n : Nat} {P : Program} {fn : Func} {R : Ending → World → Prop} {a : Act} {w : World} (Ds : List Nat) (hd : a.defers = Ds.map mkD) (hn : Ds.Nodup)
    (hk : ∀ D ∈ Ds, w.heap[D]? = some (.deferred (some []))) (h : ∀ Y, OffD Ds w Y → ∃ v, (results fn a.tmps).run P Y = .ok v Y ∧ R (.returned v) Y) : bodyPostM F n P fn R .ret a w := by
  show LeavesInM F n P fn a.tmps R a.defers .returning w; rw [hd]; exact leaves_marks Ds w hn hk h
theorem Is.off {w w' : World} {A : Option Addr} {n : Nat} {l : List Int} (h : Is w A n l) (hs : w.heap.size ≤ w'.heap.size) (hA : ∀ p, A = some p → p.block < w.heap.size → w'.heap[p.block]? = w.heap[p.block]?) : Is w' A n l :=
  ⟨h.len, h.small, fun k hk => by
    obtain ⟨b, o, e, hb, hc⟩ := h.get k hk
    exact ⟨b, o, e, by omega, (World.cell?_of_block (a := ⟨b, o + k, none⟩) (hA ⟨b, o, none⟩ e hb)).trans hc⟩⟩
theorem Bx.drew {w : World} {b : Nat} {t : TypeId} {cs : List Value} (K : Bx w b t cs) : Bx w.drew b t cs := ⟨K.h⟩
theorem Put.drew {w U : World} {b : Nat} (p : Put w b U) : Put w b U.drew := ⟨p.os, p.tape, p.output, p.size, p.block⟩
theorem Bx.putObj {w : World} {b : Nat} {t : TypeId} {cs : List Value} (K : Bx w b t cs) (l : Nat) (o : Obj) (h : b ≠ l) : Bx (w.putObj l o) b t cs := ⟨(World.putObj_heap_other h).trans K.h⟩
theorem Bx.keepB {w U : World} {b B : Nat} {t : TypeId} {cs : List Value} (K : Bx w b t cs) (h : Below B w U) (hB : b < B) : Bx U b t cs := ⟨(h.block b hB).trans K.h⟩
theorem Above.put {B b : Nat} {w U : World} (p : Put w b U) (h : b < B) : Above B w U := ⟨Nat.le_of_eq p.size.symm, fun k hk _ => p.block k (by omega)⟩
end Go.Proofs.Ytjimjdhdnkhfnaa
