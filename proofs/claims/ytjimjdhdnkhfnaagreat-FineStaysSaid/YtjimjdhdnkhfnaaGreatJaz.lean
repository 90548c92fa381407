/- Contracts of functions of the program and of the reference, a calculus of states, and plain facts: a part of a proof. Own text. -/
import Derived.Test.YtjimjdhdnkhfnaaGreatJae
import Derived.Test.YtjimjdhdnkhfnaaGreatJao
set_option linter.unusedVariables false
set_option linter.unusedSimpArgs false
set_option linter.unusedSectionVars false
set_option linter.unnecessarySimpa false
namespace Go.Proofs.YtjimjdhdnkhfnaaGreat
open Go Go.RowKit
set_option maxRecDepth 100000
set_option maxHeartbeats 4000000
theorem rCopy_does {T H N : List (List Int)} (hT1 : T.length ≤ 1000000) (hH1 : H.length ≤ 1000000) (hN1 : N.length ≤ 1000000) : Does Tryz.prog 66 [accP T H N] (accP T H N) := by
  obtain ⟨V, hV⟩ : ∃ V, accP T H N = V := ⟨_, rfl⟩
  have hV' := hV
  rw [hV]
  rw [← hV]
  obtain ⟨W, hW⟩ : ∃ W, accP T H N = W := ⟨_, rfl⟩
  rw [show Does Tryz.prog 66 [accP T H N] (accP T H N) = Does Tryz.prog 66 [accP T H N] W by rw [hW]]
  refine does_of (own := inPl) Tryz.func66 rfl Tryz.ntmps66 (congrArg Array.toList Tryz.results66) (fun us w => Tryz.call66 us w) hTT mixed (Nat.le_of_ble_eq_true rfl) ?_
  intro w0 im0 D0 S Cl hS hC ar har
  have har' := har
  obtain ⟨ai, ab, nz, inr, fi, pk, ix, ln, sb, eqi, sl, fits, mn, mx, nt, be, up, fu, mg, mh, ms⟩ := ar
  have F := facts_of har
  clear har
  unfold accP at hW ⊢
  obtain ⟨eT, hT⟩ : ∃ es, T.map rowP = es := ⟨_, rfl⟩
  obtain ⟨eH, hH⟩ : ∃ es, H.map rowP = es := ⟨_, rfl⟩
  obtain ⟨eN, hN⟩ : ∃ es, N.map rowP = es := ⟨_, rfl⟩
  have f1 : fits 192 [] eT = true := F.fits _ _ _ (by rw [← hT]; simp; omega)
  have f2 : fits 72 [] eH = true := F.fits _ _ _ (by rw [← hH]; simp; omega)
  have f3 : fits 56 [] eN = true := F.fits _ _ _ (by rw [← hN]; simp; omega)
  rw [hT, hH, hN] at hW ⊢
  cbv
  repeat ((first | rw [f1] | rw [f2] | rw [f3]); cbv)
  subst hW
  exact PLe.of_eq rfl
end Go.Proofs.YtjimjdhdnkhfnaaGreat
