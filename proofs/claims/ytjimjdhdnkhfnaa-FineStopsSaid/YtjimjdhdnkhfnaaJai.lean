/- Contracts of functions of the program and of the reference, a calculus of states, and plain facts: a part of a proof. Own text. -/
import Derived.Test.YtjimjdhdnkhfnaaJah
import Derived.OrdersHeld
set_option linter.unusedVariables false
set_option linter.unusedSimpArgs false
set_option linter.unusedSectionVars false
namespace Go.Proofs.Ytjimjdhdnkhfnaa
open Go Go.RowKit
section takes
variable {P : Program} {ops : Array Oper} {md : Region.Mode} {S : World → Prop} {Q : Exit → Act → World → Prop} {n : Nat}
def marks (is : List Nat) (listed : Array Bool) : Array Bool := is.foldl (fun l i => l.setIfInBounds i true) listed
def Makes (P : Program) (o : Oper) : Prop := ∀ (a : Act) (w : World), (∃ v w', (execOp (Act.eval a) o).run P w = .ok (.value v) w' ∧ Below w.heap.size w w') ∨ ∃ x w', (execOp (Act.eval a) o).run P w = .halt x w'
theorem Makes.wp {o : Oper} {a : Act} {w : World} {K : Act → World → Prop} (hm : Makes P o) (h : o.wp P a w K Q) : o.wp P a w (fun a' w' => Below w.heap.size w w' ∧ K a' w') Q := by
  unfold Oper.wp at *
  rcases hm a w with ⟨v, w', hr, hb⟩ | ⟨x, w', hr⟩
  · rw [hr] at h ⊢; exact ⟨hb, h⟩
  · rw [hr] at h ⊢
    cases x <;> first | exact h | exact h.elim
end takes
end Go.Proofs.Ytjimjdhdnkhfnaa



