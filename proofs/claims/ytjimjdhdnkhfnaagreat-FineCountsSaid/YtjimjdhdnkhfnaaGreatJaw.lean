/- Contracts of functions of the program and of the reference, a calculus of states, and plain facts: a part of a proof. Own text. -/
import Derived.Test.YtjimjdhdnkhfnaaGreatJao
import Derived.Test.YtjimjdhdnkhfnaaGreatJar
set_option linter.unusedVariables false
set_option linter.unusedSimpArgs false
set_option linter.unusedSectionVars false
namespace Go.Proofs.YtjimjdhdnkhfnaaGreat
open Go Go.RowKit
set_option maxRecDepth 100000
set_option maxHeartbeats 4000000
theorem rInForceP_does {T H N : List (List Int)} (h1 : ∀ x ∈ T, x.length = 24) (h2 : ∀ x ∈ H, x.length = 9) (h3 : ∀ x ∈ N, x.length = 7) (d : Int) : Does Tryz.prog 24 [accP T H N, .int .i64 d] (.tup [.agg (rowP (inT T H N d).1), .int .i64 (inT T H N d).2]) := ⟨fun us w => Tryz.call24 us w, fun w im us him hr => by
  obtain ⟨x, y, rfl, hx, hy⟩ := L2 hr
  obtain ⟨A, c, S, s, B, e, rfl, hA, hS, hB⟩ := rep_acc him hx h1 h2 h3
  rw [rep_int hy]
  exact (rInForceP_any A _ c T S _ s H B _ e N d w hA hS hB).mono (by rintro e w' ⟨rfl, hb⟩; exact ⟨_, rfl, tup_rep (agg_rep _) int_rep, hb⟩)⟩
theorem inT_len {T H N : List (List Int)} (h1 : ∀ x ∈ T, x.length = 24) (d : Int) : (inT T H N d).1.length = 24 := by
  unfold inT; split
  · exact tarAt_len h1 d
  · rfl
theorem eqPs_self2 (l : List Int) : eqPs (rowP l) (rowP l) = true := by rw [eqPs_rowP rfl]; simp
theorem fineCounts_does (hs : Does Tryz.prog 11 [] (.bool true)) {T H N : List (List Int)} (h1 : ∀ x ∈ T, x.length = 24) (h2 : ∀ x ∈ H, x.length = 9) (h3 : ∀ x ∈ N, x.length = 7) (id d : Int) :
    Does Tryz.prog 4 [accP T H N, .int .i64 id, .int .i64 d] (.bool true) := by
  have a1 := inForceP_does h1 h2 h3 d
  have a2 := rInForceP_does h1 h2 h3 d
  have b1 := pStays_does h1 h2 h3 d
  have b2 := rStays_does h1 h2 h3 d
  have c1 : Does Tryz.prog 27 [accP T H N, .int .i64 id, .int .i64 d] (.tup [.list 1 (numP (notN T H N id d).1), .int .i64 (notN T H N id d).2]) := pNotes_does h1 h2 h3 id d
  have c2 := rNotes_does h1 h2 h3 id d
  have hlen := inT_len (H := H) (N := N) h1 d
  obtain ⟨⟨iv, ie⟩, hi⟩ : ∃ p, inT T H N d = p := ⟨_, rfl⟩
  rw [hi] at a1 a2 hlen
  obtain ⟨p0, p1, p2, p3, p4, p5, p6, p7, p8, p9, p10, p11, p12, p13, p14, p15, p16, p17, p18, p19, p20, p21, p22, p23, rfl⟩ := list24 hlen
  obtain ⟨⟨nv, ne⟩, hn⟩ : ∃ p, notN T H N id d = p := ⟨_, rfl⟩
  rw [hn] at c1 c2
  generalize (if askE T H N d = 0 then srcsN (cntH d) H else []) = sv at *
  generalize askE T H N d = se at *
  have s1 := sameInts_does sv sv
  have s2 := sameInts_does nv nv
  rw [show (sv == sv) = true by simp] at s1
  rw [show (nv == nv) = true by simp] at s2
  clear hi hn hlen
  refine does_of (own := inPl) Tryz.func4 rfl Tryz.ntmps4 (congrArg Array.toList Tryz.results4) (fun us w => Tryz.call4 us w) hTT mixed (Nat.le_of_ble_eq_true rfl) ?_
  intro w0 im0 D0 S Cl hS hC ar har
  have har' := har
  obtain ⟨ai, ab, nz, inr, fi, pk, ix, ln, sb, eqi, sl, fits, mn, mx, nt, be, up, fu, mg, mh, ms⟩ := ar
  have F := facts_of har
  clear har
  obtain ⟨eT, hT⟩ : ∃ es, T.map rowP = es := ⟨_, rfl⟩
  obtain ⟨eH, hH⟩ : ∃ es, H.map rowP = es := ⟨_, rfl⟩
  obtain ⟨eN, hN⟩ : ∃ es, N.map rowP = es := ⟨_, rfl⟩
  obtain ⟨eS, hSv⟩ : ∃ es, numP sv = es := ⟨_, rfl⟩
  obtain ⟨eV, hNv⟩ : ∃ es, numP nv = es := ⟨_, rfl⟩
  simp only [accP, hT, hH, hN, hSv, hNv] at a1 a2 b1 b2 c1 c2 s1 s2 ⊢
  have q1 : eqi [.int .i64 p0, .int .i64 p1, .int .i64 p2, .int .i64 p3, .int .i64 p4, .int .i64 p5, .int .i64 p6, .int .i64 p7, .int .i64 p8, .int .i64 p9, .int .i64 p10, .int .i64 p11, .int .i64 p12, .int .i64 p13, .int .i64 p14, .int .i64 p15, .int .i64 p16, .int .i64 p17, .int .i64 p18, .int .i64 p19, .int .i64 p20, .int .i64 p21, .int .i64 p22, .int .i64 p23] [.int .i64 p0, .int .i64 p1, .int .i64 p2, .int .i64 p3, .int .i64 p4, .int .i64 p5, .int .i64 p6, .int .i64 p7, .int .i64 p8, .int .i64 p9, .int .i64 p10, .int .i64 p11, .int .i64 p12, .int .i64 p13, .int .i64 p14, .int .i64 p15, .int .i64 p16, .int .i64 p17, .int .i64 p18, .int .i64 p19, .int .i64 p20, .int .i64 p21, .int .i64 p22, .int .i64 p23] = true := by
    rw [F.eqi]; exact eqPs_self2 [p0, p1, p2, p3, p4, p5, p6, p7, p8, p9, p10, p11, p12, p13, p14, p15, p16, p17, p18, p19, p20, p21, p22, p23]
  have q : ∀ x : Int, ab .eql x x = true := fun x => by rw [F.eql]; simp
  cbv
  refine ⟨_, hC _ _ _ hs, ?_⟩; cbv
  refine ⟨_, hC _ _ _ a1, ?_⟩; cbv
  refine ⟨_, hC _ _ _ a2, ?_⟩; cbv
  refine ⟨_, hC _ _ _ b1, ?_⟩; cbv
  refine ⟨_, hC _ _ _ b2, ?_⟩; cbv
  refine ⟨_, hC _ _ _ c1, ?_⟩; cbv
  refine ⟨_, hC _ _ _ c2, ?_⟩; cbv
  refine ⟨_, hC _ _ _ s1, ?_⟩; cbv
  refine ⟨_, hC _ _ _ s2, ?_⟩; cbv
  rw [q1]; cbv
  rw [q]; cbv
  rw [q]; cbv
  rw [q]; cbv
  exact PLe.refl _
end Go.Proofs.YtjimjdhdnkhfnaaGreat
