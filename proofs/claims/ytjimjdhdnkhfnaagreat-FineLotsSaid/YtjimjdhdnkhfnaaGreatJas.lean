/- Contracts of functions of the program and of the reference, a calculus of states, and plain facts: a part of a proof. Own text. -/
import Derived.Test.YtjimjdhdnkhfnaaGreatJao
import Derived.Test.YtjimjdhdnkhfnaaGreatJar
set_option linter.unusedVariables false
set_option linter.unusedSimpArgs false
set_option linter.unusedSectionVars false
namespace Go.Proofs.YtjimjdhdnkhfnaaGreat
open Go Go.RowKit
set_option maxRecDepth 100000
set_option maxHeartbeats 4000000
theorem eqPs_self (l : List Int) : eqPs (rowP l) (rowP l) = true := by rw [eqPs_rowP rfl]; simp
theorem fineLots_does (hs : Does Tryz.prog 11 [] (.bool true)) {T H N : List (List Int)} (h1 : ∀ x ∈ T, x.length = 24) (h2 : ∀ x ∈ H, x.length = 9) (h3 : ∀ x ∈ N, x.length = 7) (id d : Int) :
    Does Tryz.prog 5 [accP T H N, .int .i64 id, .int .i64 d] (.bool true) := by
  have a1 := pLot_does h1 h2 h3 id d
  have a2 := rLot_does h1 h2 h3 id d
  have b1 := pFed_does h1 h2 h3 id d
  have b2 := rFed_does h1 h2 h3 id d
  have c1 := pCharged_does h1 h2 h3 id d
  have c2 := rCharged_does h1 h2 h3 id d
  have d1 := pDues_does h1 h2 h3 id d
  have d2 := rDues_does h1 h2 h3 id d
  obtain ⟨l0, l1, l2, l3, hl⟩ := lotR_four T H N id d
  obtain ⟨u0, u1, u2, u3, hu⟩ := dueR_four T H N id d
  obtain ⟨g0, g1, g2, hg⟩ : ∃ a b c, (stR [0, 0, 0] (fun h => chgN T N h d) (staN T H N id d)).1 = [a, b, c] := by
    unfold stR; split
    · show ∃ a b c, chgN T N (staN T H N id d).1 d = [a, b, c]
      unfold chgN; split <;> exact ⟨_, _, _, rfl⟩
    · exact ⟨_, _, _, rfl⟩
  unfold lotR at a1 hl
  unfold dueR at hu
  rw [hl] at a1 a2
  rw [hg] at c1 c2
  rw [hu] at d1 d2
  generalize (stR [0, 0, 0, 0] (fun h => lotN T N h d) (staN T H N id d)).2 = e1 at *
  generalize (stR [0] (feN T N d) (staN T H N id d)).2 = e2 at *
  generalize (stR [0] (feN T N d) (staN T H N id d)).1.getD 0 0 = f at *
  generalize (stR [0, 0, 0] (fun h => chgN T N h d) (staN T H N id d)).2 = e3 at *
  generalize (stR [0, 0, 0, 0] (fun h => dueN T N h d) (staN T H N id d)).2 = e4 at *
  refine does_of (own := inPl) Tryz.func5 rfl Tryz.ntmps5 (congrArg Array.toList Tryz.results5) (fun us w => Tryz.call5 us w) hTT mixed (Nat.le_of_ble_eq_true rfl) ?_
  intro w0 im0 D0 S Cl hS hC ar har
  have har' := har
  obtain ⟨ai, ab, nz, inr, fi, pk, ix, ln, sb, eqi, sl, fits, mn, mx, nt, be, up, fu, mg, mh, ms⟩ := ar
  have F := facts_of har
  clear har
  obtain ⟨eT, hT⟩ : ∃ es, T.map rowP = es := ⟨_, rfl⟩
  obtain ⟨eH, hH⟩ : ∃ es, H.map rowP = es := ⟨_, rfl⟩
  obtain ⟨eN, hN⟩ : ∃ es, N.map rowP = es := ⟨_, rfl⟩
  simp only [accP, hT, hH, hN] at a1 a2 b1 b2 c1 c2 d1 d2 ⊢
  have q1 : eqi [.int .i64 l0, .int .i64 l1, .int .i64 l2, .int .i64 l3] [.int .i64 l0, .int .i64 l1, .int .i64 l2, .int .i64 l3] = true := by rw [F.eqi]; exact eqPs_self [l0, l1, l2, l3]
  have q2 : eqi [.int .i64 g0, .int .i64 g1, .int .i64 g2] [.int .i64 g0, .int .i64 g1, .int .i64 g2] = true := by rw [F.eqi]; exact eqPs_self [g0, g1, g2]
  have q3 : eqi [.int .i64 u0, .int .i64 u1, .int .i64 u2, .int .i64 u3] [.int .i64 u0, .int .i64 u1, .int .i64 u2, .int .i64 u3] = true := by rw [F.eqi]; exact eqPs_self [u0, u1, u2, u3]
  have q : ∀ x : Int, ab .eql x x = true := fun x => by rw [F.eql]; simp
  cbv
  refine ⟨_, hC _ _ _ hs, ?_⟩; cbv
  refine ⟨_, hC _ _ _ a1, ?_⟩; cbv
  refine ⟨_, hC _ _ _ a2, ?_⟩; cbv
  refine ⟨_, hC _ _ _ b1, ?_⟩; cbv
  refine ⟨_, hC _ _ _ b2, ?_⟩; cbv
  refine ⟨_, hC _ _ _ c1, ?_⟩; cbv
  refine ⟨_, hC _ _ _ c2, ?_⟩; cbv
  refine ⟨_, hC _ _ _ d1, ?_⟩; cbv
  refine ⟨_, hC _ _ _ d2, ?_⟩; cbv
  rw [q1]; cbv
  rw [q]; cbv
  rw [q]; cbv
  rw [q]; cbv
  rw [q2]; cbv
  rw [q]; cbv
  rw [q3]; cbv
  rw [q]; cbv
  exact PLe.refl _
end Go.Proofs.YtjimjdhdnkhfnaaGreat
