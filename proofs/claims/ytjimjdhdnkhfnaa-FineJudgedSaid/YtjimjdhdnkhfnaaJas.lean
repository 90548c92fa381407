/- Contracts of functions of the program and of the reference, a calculus of states, and plain facts: a part of a proof. Own text. -/
import Derived.Test.YtjimjdhdnkhfnaaJae
import Derived.Test.YtjimjdhdnkhfnaaJan
import Derived.Test.YtjimjdhdnkhfnaaJao
import Derived.Test.YtjimjdhdnkhfnaaJap
import Derived.Test.YtjimjdhdnkhfnaaJar
set_option linter.unusedVariables false
set_option linter.unusedSimpArgs false
set_option linter.unusedSectionVars false
set_option linter.unnecessarySimpa false
namespace Go.Proofs.Ytjimjdhdnkhfnaa
open Go Go.RowKit
set_option maxRecDepth 100000
set_option maxHeartbeats 4000000
theorem quiet_take {L : List (List Int)} {d : Int} {k : Nat} (hk : k < L.length) : quietB (L.take (k + 1)) d = (quietB (L.take k) d && (decide (L[k].getD 5 0 ≠ d + 1) && (decide (L[k].getD 4 0 ≠ d + 1) && decide (L[k].getD 6 0 ≠ d + 1)))) := by
  unfold quietB
  rw [take_last hk, List.all_append]
  simp only [List.all_cons, List.all_nil, Bool.and_true]
theorem fineStops_does (hs : Does Try.prog 5 [] (.bool true)) {eA eB eC : List (List PV)} {T H N : List (List Int)} (m : MadeOk T H N)
    (hMd : Does Try.prog 6 [.agg [.list 6 eA, .list 7 eB, .list 6 eC]] (accP T H N)) (n0 n1 n2 n3 kn : Int) :
    Does Try.prog 3 [.agg [.list 6 eA, .list 7 eB, .list 6 eC], .agg [.int .i64 n0, .int .i64 n1, .int .i64 n2, .int .i64 n3], .int .i64 kn] (.bool true) := by
  have hHl := m.hl
  by_cases hH0 : H.length = 0
  · obtain ⟨eT, hT⟩ : ∃ es, T.map rowP = es := ⟨_, rfl⟩
    obtain ⟨eH, hH⟩ : ∃ es, H.map rowP = es := ⟨_, rfl⟩
    obtain ⟨eN, hN⟩ : ∃ es, N.map rowP = es := ⟨_, rfl⟩
    simp only [accP, hT, hH, hN] at hMd
    refine does_of (own := inPl) Try.func3 rfl Try.ntmps3 (congrArg Array.toList Try.results3) (fun us w => Try.call3 us w) hTT mixed (Nat.le_of_ble_eq_true rfl) ?_
    intro w0 im0 D0 S Cl hS hC ar har
    have har' := har
    obtain ⟨ai, ab, nz, inr, fi, pk, ix, ln, sb, eqi, sl, fits, mn, mx, nt, be, up, fu, mg, mh, ms⟩ := ar
    have F := facts_of har
    clear har
    have hz : ab .eql (ln eH) 0 = true := by rw [F.ln, F.eql, ← hH, List.length_map, hH0]; rfl
    cbv
    refine ⟨_, hC _ _ _ hs, ?_⟩; cbv
    refine ⟨_, hC _ _ _ hMd, ?_⟩; cbv
    rw [hz]; cbv
    exact PLe.refl _
  obtain ⟨q, hq⟩ : ∃ q : Nat, n0 % (H.length : Int) = (q : Int) := ⟨(n0 % (H.length : Int)).toNat, by have := Int.emod_nonneg n0 (b := (H.length : Int)) (by omega); omega⟩
  have hqlt : q < H.length := by have := Int.emod_lt_of_pos n0 (b := (H.length : Int)) (by omega); omega
  have d0 := rMod_does n0 (m := (H.length : Int)) (by omega) (by omega)
  rw [hq] at d0
  obtain ⟨v, hv⟩ : ∃ d, kn % 800 = d := ⟨_, rfl⟩
  obtain ⟨v1, hv1⟩ : ∃ d, n1 % 5 = d := ⟨_, rfl⟩
  obtain ⟨v2, hv2⟩ : ∃ d, n2 % 500 = d := ⟨_, rfl⟩
  obtain ⟨v3, hv3⟩ : ∃ d, n3 % 500 = d := ⟨_, rfl⟩
  have dv := rMod_does kn (m := 800) (by decide) (by decide)
  have dv1 := rMod_does n1 (m := 5) (by decide) (by decide)
  have dv2 := rMod_does n2 (m := 500) (by decide) (by decide)
  have dv3 := rMod_does n3 (m := 500) (by decide) (by decide)
  rw [hv] at dv
  rw [hv1] at dv1
  rw [hv2] at dv2
  rw [hv3] at dv3
  have bv : 0 ≤ v ∧ v < 800 := by omega
  have bv1 : 0 ≤ v1 ∧ v1 < 5 := by omega
  have bv2 : 0 ≤ v2 ∧ v2 < 500 := by omega
  have bv3 : 0 ≤ v3 ∧ v3 < 500 := by omega
  clear hv hv1 hv2 hv3 hq
  have hm : H[q] ∈ H := List.getElem_mem hqlt
  obtain ⟨⟨s0, s1⟩, ⟨s2, s3⟩, ⟨s4, s5⟩, s6, s7⟩ := held_made m hm
  have hhk := accOk_H m.ok _ hm
  have hh9 := m.h _ hm
  obtain ⟨h, hh⟩ : ∃ h, H[q] = h := ⟨_, rfl⟩
  rw [hh] at hm s0 s1 s2 s3 s4 s5 s6 s7 hhk hh9
  obtain ⟨D, hD⟩ : ∃ D, h.getD 7 0 + v = D := ⟨_, rfl⟩
  have bD : 0 ≤ D ∧ D ≤ 1000 := by omega
  have ha : askE T H N D = 0 := made_ask m.ok bD.1 (by omega)
  have ha1 : askE T H N (D + 1) = 0 := made_ask m.ok (by omega) (by omega)
  obtain ⟨nn, hnn⟩ : ∃ nn : List Int, [90, h.getD 0 0, 1, 1 + v1, h.getD 6 0 + v2, v3, 0] = nn := ⟨_, rfl⟩
  have nok : noteOk nn = true := by rw [← hnn]; exact note_ok (by omega) (.inl rfl) (by omega) (by omega) (by omega) (by omega)
  have nsrc : ∀ x ∈ N, x.getD 0 0 < nn.getD 0 0 := fun x hx => by
    have := note_src m x hx
    rw [← hnn]
    show x.getD 0 0 < 90
    omega
  have n7 : nn.length = 7 := by rw [← hnn]; rfl
  have hNl := m.nl
  have aok := acc_app m.ok nok nsrc (by omega)
  have hNt := noted_end m.t m.h m.n n7 m.ok nok nsrc (by omega)
  have ha' : askE T H (N ++ [nn]) D = 0 := made_ask aok bD.1 (by omega)
  have n3' : ∀ x ∈ N ++ [nn], x.length = 7 := fun x hx => by
    rcases List.mem_append.1 hx with z | z
    · exact m.n x z
    · rw [List.mem_singleton] at z; rw [z]; exact n7
  have uL := pLot_does m.t m.h m.n (h.getD 0 0) D
  have uC := pCharged_does m.t m.h m.n (h.getD 0 0) D
  have uB := pCharged_does m.t m.h n3' (h.getD 0 0) D
  have uC1 := pCharged_does m.t m.h m.n (h.getD 0 0) (D + 1)
  obtain ⟨cn, hcn⟩ : ∃ c, cntH D h = c := ⟨_, rfl⟩
  obtain ⟨cn1, hcn1⟩ : ∃ c, cntH (D + 1) h = c := ⟨_, rfl⟩
  obtain ⟨g1, g2⟩ := chg_claim (N := N) m.t (accOk_T m.ok) hhk (d := D) (n := nn) (.inl (by rw [← hnn]; rfl))
  obtain ⟨g3, g4, g5⟩ := chgN_in (N := N) m.t (accOk_T m.ok) hhk (d := D) (by omega)
  have g6 := fun hle hqt => chg_later (N := N) m.t (accOk_T m.ok) hhk (d := D) hle hqt rfl
  obtain ⟨ow, st, en, dy, hl⟩ : ∃ a b c e, lotN T N h D = [a, b, c, e] := ⟨_, _, _, _, rfl⟩
  have c3 : ∀ (N : List (List Int)) (d : Int), ∃ a b c, chgN T N h d = [a, b, c] := fun N d => by
    unfold chgN; split <;> exact ⟨_, _, _, rfl⟩
  obtain ⟨c0, c1, c2, hc⟩ := c3 N D
  obtain ⟨b0, b1, b2, hb⟩ := c3 (N ++ [nn]) D
  obtain ⟨l0, l1, l2, hlc⟩ := c3 N (D + 1)
  have cu : cn = true → cn1 = false → h.getD 8 0 = D + 1 := fun a b => by
    rw [a] at hcn
    rw [b] at hcn1
    unfold cntH cntB at hcn hcn1
    simp only [Bool.and_eq_true, Bool.or_eq_true, decide_eq_true_eq, beq_iff_eq] at hcn
    rw [← Bool.not_eq_true] at hcn1
    simp only [Bool.and_eq_true, Bool.or_eq_true, decide_eq_true_eq, beq_iff_eq] at hcn1
    omega
  have uLt : cn = true → Does Try.prog 8 [accP T H N, .int .i64 (h.getD 0 0), .int .i64 D] (.tup [.agg (rowP [ow, st, en, dy]), .int .i64 0]) := fun z => by
    have := uL
    unfold lotR at this
    rw [sta_is ha hm (hcn.trans z)] at this
    simpa only [stR, if_true, hl] using this
  have uLf : cn = false → Does Try.prog 8 [accP T H N, .int .i64 (h.getD 0 0), .int .i64 D] (.tup [.agg (rowP [0, 0, 0, 0]), .int .i64 65]) := fun z => by
    have := uL
    unfold lotR at this
    rw [sta_not ha hm (hcn.trans z)] at this
    simpa only [stR, show ¬ (65 : Int) = 0 by decide, if_false] using this
  have uCt : cn = true → Does Try.prog 9 [accP T H N, .int .i64 (h.getD 0 0), .int .i64 D] (.tup [.agg (rowP [c0, c1, c2]), .int .i64 0]) := fun z => by
    have := uC
    rw [sta_is ha hm (hcn.trans z)] at this
    simpa only [stR, if_true, hc] using this
  have uCf : cn = false → Does Try.prog 9 [accP T H N, .int .i64 (h.getD 0 0), .int .i64 D] (.tup [.agg (rowP [0, 0, 0]), .int .i64 65]) := fun z => by
    have := uC
    rw [sta_not ha hm (hcn.trans z)] at this
    simpa only [stR, show ¬ (65 : Int) = 0 by decide, if_false] using this
  have uBt : cn = true → Does Try.prog 9 [accP T H (N ++ [nn]), .int .i64 (h.getD 0 0), .int .i64 D] (.tup [.agg (rowP [b0, b1, b2]), .int .i64 0]) := fun z => by
    have := uB
    rw [sta_is ha' hm (hcn.trans z)] at this
    simpa only [stR, if_true, hb] using this
  have u1t : cn1 = true → Does Try.prog 9 [accP T H N, .int .i64 (h.getD 0 0), .int .i64 (D + 1)] (.tup [.agg (rowP [l0, l1, l2]), .int .i64 0]) := fun z => by
    have := uC1
    rw [sta_is ha1 hm (hcn1.trans z)] at this
    simpa only [stR, if_true, hlc] using this
  have u1f : cn1 = false → Does Try.prog 9 [accP T H N, .int .i64 (h.getD 0 0), .int .i64 (D + 1)] (.tup [.agg (rowP [0, 0, 0]), .int .i64 65]) := fun z => by
    have := uC1
    rw [sta_not ha1 hm (hcn1.trans z)] at this
    simpa only [stR, show ¬ (65 : Int) = 0 by decide, if_false] using this
  rw [hb, hc] at g1 g2
  rw [hc] at g3 g4 g5
  rw [hlc, hc, hl] at g6
  clear uL uC uB uC1 ha ha1 ha' c3 aok nsrc nok n3' n7 hcn hcn1 hl hc hb hlc hm hhk
  obtain ⟨x0, x1, x2, x3, x4, x5, x6, x7, x8, rfl⟩ := list9 hh9
  subst hnn
  simp only [List.getD_cons_zero, List.getD_cons_succ] at s0 s1 s2 s3 s4 s5 s6 s7 hD g1 g2 g3 g4 g5 g6 cu uLt uLf uCt uCf uBt u1t u1f hNt
  have hn7 := m.n
  obtain ⟨eT, hT⟩ : ∃ es, T.map rowP = es := ⟨_, rfl⟩
  obtain ⟨eH, hH⟩ : ∃ es, H.map rowP = es := ⟨_, rfl⟩
  obtain ⟨eN, hN⟩ : ∃ es, N.map rowP = es := ⟨_, rfl⟩
  obtain ⟨eM, hM⟩ : ∃ es, (N ++ [[90, x0, 1, 1 + v1, x6 + v2, v3, 0]]).map rowP = es := ⟨_, rfl⟩
  simp only [accP, hT, hH, hN, hM] at hMd hNt uLt uLf uCt uCf uBt u1t u1f
  clear hM m
  refine does_of (own := inPl) Try.func3 rfl Try.ntmps3 (congrArg Array.toList Try.results3) (fun us w => Try.call3 us w) hTT mixed (Nat.le_of_ble_eq_true rfl) ?_
  intro w0 im0 D0 S Cl hS hC ar har
  have har' := har
  obtain ⟨ai, ab, nz, inr, fi, pk, ix, ln, sb, eqi, sl, fits, mn, mx, nt, be, up, fu, mg, mh, ms⟩ := ar
  have F := facts_of har
  clear har
  have hlnH : ln eH = H.length := by rw [F.ln, ← hH]; simp
  have hlnN : ln eN = N.length := by rw [F.ln, ← hN]; simp
  have hz : ab .eql (ln eH) 0 = false := by rw [hlnH, F.eql]; simpa using hH0
  rw [← hlnH] at d0
  have hg : ix eH (q : Int) = some (rowP [x0, x1, x2, x3, x4, x5, x6, x7, x8]) := by rw [F.ix _ _ q rfl, ← hH, get_rows hqlt, hh]
  have e7 : ai .add x7 v = D := by rw [← hD]; exact F.add _ _ (by omega) (by omega)
  have e1 : ai .add 1 v1 = 1 + v1 := F.add _ _ (by omega) (by omega)
  have e6 : ai .add x6 v2 = x6 + v2 := F.add _ _ (by omega) (by omega)
  have eD : ai .add D 1 = D + 1 := F.add _ _ (by omega) (by omega)
  rw [← e1, ← e6] at hNt
  rw [← eD] at u1t u1f
  have t1 : nt false = true := F.nt _
  have t2 : nt true = false := F.nt _
  have z0 : ab .neq 0 0 = false := by rw [F.neq]; rfl
  have z00 : ab .eql 0 0 = true := by rw [F.eql]; rfl
  have z1 : ab .eql 0 65 = false := by rw [F.eql]; rfl
  have z2 : ab .eql 65 65 = true := by rw [F.eql]; rfl
  have z3 : ab .neq 65 0 = true := by rw [F.neq]; rfl
  have z4 : ab .eql 65 0 = false := by rw [F.eql]; rfl
  obtain ⟨Q, hQ⟩ : ∃ Q : Int, (q : Int) = Q := ⟨_, rfl⟩
  rw [hQ] at d0 hg
  clear hQ hqlt hh
  cbv
  refine ⟨_, hC _ _ _ hs, ?_⟩; cbv
  refine ⟨_, hC _ _ _ hMd, ?_⟩; cbv
  rw [hz]; cbv
  refine ⟨_, hC _ _ _ d0, ?_⟩; cbv
  repeat (rw [hg]; cbv)
  refine ⟨_, hC _ _ _ dv, ?_⟩; cbv
  rw [e7]; cbv
  cases cn
  · refine ⟨_, hC _ _ _ (uLf rfl), ?_⟩; cbv
    refine ⟨_, hC _ _ _ (uCf rfl), ?_⟩; cbv
    rw [z2]; cbv
    repeat (rw [z2]; cbv)
    exact PLe.refl _
  have uLt := uLt rfl
  have uCt := uCt rfl
  have uBt := uBt rfl
  have cu := cu rfl
  clear uLf uCf
  refine ⟨_, hC _ _ _ uLt, ?_⟩; cbv
  refine ⟨_, hC _ _ _ uCt, ?_⟩; cbv
  rw [z1]; cbv
  refine ⟨_, hC _ _ _ dv1, ?_⟩; cbv
  refine ⟨_, hC _ _ _ dv2, ?_⟩; cbv
  refine ⟨_, hC _ _ _ dv3, ?_⟩; cbv
  refine ⟨_, hC _ _ _ hNt, ?_⟩; cbv
  refine ⟨_, hC _ _ _ uBt, ?_⟩; cbv
  have k1 : ab .gtr b2 c2 = false := by rw [F.gtr, decide_eq_false_iff_not]; omega
  have k2 : ab .neq b0 c0 = false := by rw [F.neq, g1]; simp
  have k3 : ab .lss c0 0 = false := by rw [F.lss, decide_eq_false_iff_not]; omega
  have k4 : ab .lss c1 0 = false := by rw [F.lss, decide_eq_false_iff_not]; omega
  have k5 : ab .lss c2 0 = false := by rw [F.lss, decide_eq_false_iff_not]; omega
  rw [t2]; cbv
  repeat (rw [z0]; cbv)
  rw [k1]; cbv
  rw [k2]; cbv
  rw [k3]; cbv
  rw [k4]; cbv
  rw [k5]; cbv
  refine hS _ _ _ (sem_loopR (fun x : Nat × Int × Bool => [sP 8 8, sP 9 9, sI 10 D, sP 11 11, sP 13 13, sB 19 x.2.2, sI 20 x.2.1, bX 8 32 [cL 24 eT, cL 9 eH, cL 7 eN], bX 9 35 [cI x0, cI x1, cI x2, cI x3, cI x4, cI x5, cI x6, cI x7, cI x8], bX 11 38 [cI ow, cI st, cI en, cI dy], bX 13 43 [cI c0, cI c1, cI c2]]) (fun x => x.1 ≤ N.length ∧ x.2.1 = (x.1 : Int) ∧ x.2.2 = quietB (N.take x.1) D) (fun x => N.length - x.1) (0, 0, true) (fun t => t) ⟨by cbv, by cbv; try (repeat (first | exact rfl | exact trivial | refine ⟨?_, ?_⟩))⟩ ?_ ?_)
  · exact ⟨by simp, rfl, rfl⟩
  rintro ⟨k, i, qt⟩ ⟨hk, hi, hqt⟩
  dsimp only at hk hi hqt
  have hadd : ai .add i 1 = ((k + 1 : Nat) : Int) := by rw [F.add i 1 (by omega) (by omega), hi]; simp
  by_cases hlt : k < N.length
  · have hb1 : ab .lss i (ln eN) = true := by rw [hlnN, F.lss, hi]; simpa using hlt
    have hgN : ix eN i = some (rowP N[k]) := by rw [F.ix _ i k hi, ← hN]; exact get_rows hlt
    have hnx := quiet_take (d := D) hlt
    rw [← hqt] at hnx
    obtain ⟨y0, y1, y2, y3, y4, y5, y6, hy⟩ := list7P (hn7 _ (List.getElem_mem hlt))
    rw [hy] at hgN hnx
    simp only [List.getD_cons_zero, List.getD_cons_succ] at hnx
    have nq : ∀ a : Int, ab .neq a (ai .add D 1) = decide (a ≠ D + 1) := fun a => by rw [F.neq, eD]; by_cases z : a = D + 1 <;> simp [z]
    rw [← nq, ← nq, ← nq] at hnx
    cases qt
    · have hn : false = quietB (N.take (k + 1)) D := by rw [hnx]; rfl
      clear hnx nq
      refine sem_of (X := ⟨_, TT, ⟨0, 236, inPl⟩⟩) har' hTT mixed ?_
      intro S1 Cl1 hS1 hC1
      cbv
      rw [hb1]; cbv
      repeat (rw [hgN]; cbv)
      exact ⟨(k + 1, ai .add i 1, false), (fun t => t), ⟨hlt, hadd, hn⟩, by dsimp only; omega, ⟨by cbv, by cbv; try (repeat (first | exact rfl | exact trivial | refine ⟨?_, ?_⟩))⟩⟩
    · cases a5 : ab .neq y5 (ai .add D 1)
      · have hn : false = quietB (N.take (k + 1)) D := by rw [hnx, a5]; rfl
        clear hnx nq
        refine sem_of (X := ⟨_, TT, ⟨0, 236, inPl⟩⟩) har' hTT mixed ?_
        intro S1 Cl1 hS1 hC1
        cbv
        rw [hb1]; cbv
        repeat (rw [hgN]; cbv)
        rw [a5]; cbv
        exact ⟨(k + 1, ai .add i 1, false), (fun t => t), ⟨hlt, hadd, hn⟩, by dsimp only; omega, ⟨by cbv, by cbv; try (repeat (first | exact rfl | exact trivial | refine ⟨?_, ?_⟩))⟩⟩
      · cases a4 : ab .neq y4 (ai .add D 1)
        · have hn : false = quietB (N.take (k + 1)) D := by rw [hnx, a5, a4]; rfl
          clear hnx nq
          refine sem_of (X := ⟨_, TT, ⟨0, 236, inPl⟩⟩) har' hTT mixed ?_
          intro S1 Cl1 hS1 hC1
          cbv
          rw [hb1]; cbv
          repeat (rw [hgN]; cbv)
          rw [a5]; cbv
          rw [a4]; cbv
          exact ⟨(k + 1, ai .add i 1, false), (fun t => t), ⟨hlt, hadd, hn⟩, by dsimp only; omega, ⟨by cbv, by cbv; try (repeat (first | exact rfl | exact trivial | refine ⟨?_, ?_⟩))⟩⟩
        · obtain ⟨b6, a6⟩ : ∃ b, ab .neq y6 (ai .add D 1) = b := ⟨_, rfl⟩
          have hn : b6 = quietB (N.take (k + 1)) D := by rw [hnx, a5, a4, a6]; cases b6 <;> rfl
          clear hnx nq
          refine sem_of (X := ⟨_, TT, ⟨0, 236, inPl⟩⟩) har' hTT mixed ?_
          intro S1 Cl1 hS1 hC1
          cbv
          rw [hb1]; cbv
          repeat (rw [hgN]; cbv)
          rw [a5]; cbv
          rw [a4]; cbv
          rw [a6]; cbv
          exact ⟨(k + 1, ai .add i 1, b6), (fun t => t), ⟨hlt, hadd, hn⟩, by dsimp only; omega, ⟨by cbv, by cbv; try (repeat (first | exact rfl | exact trivial | refine ⟨?_, ?_⟩))⟩⟩
  have hb1 : ab .lss i (ln eN) = false := by rw [hlnN, F.lss, hi]; simpa using hlt
  rw [List.take_of_length_le (by omega)] at hqt
  clear hadd hi hk hlt
  refine sem_of (X := ⟨_, TT, ⟨0, 236, inPl⟩⟩) har' hTT mixed ?_
  intro S1 Cl1 hS1 hC1
  cbv
  rw [hb1]; cbv
  cases cn1
  · have u1 := u1f rfl
    have a8 : ab .eql x8 (ai .add D 1) = true := by rw [F.eql, eD, cu rfl]; simp
    refine ⟨_, hC _ _ _ u1, ?_⟩; cbv
    cases qt
    · rw [t1]; cbv
      rw [z4]; cbv
      rw [a8]; exact PLe.refl _
    · rw [t2]; cbv
      rw [z3]; cbv
      rw [z4]; cbv
      rw [a8]; exact PLe.refl _
  have u1 := u1t rfl
  refine ⟨_, hC _ _ _ u1, ?_⟩; cbv
  cases qt
  · rw [t1]; cbv
    rw [z00]; cbv
    exact PLe.refl _
  rw [t2]; cbv
  rw [z0]; cbv
  cases a6 : ab .gtr x6 D
  rotate_left
  · cbv
    rw [z00]; cbv
    exact PLe.refl _
  obtain ⟨r1, r2⟩ := g6 (by rw [F.gtr, decide_eq_false_iff_not] at a6; omega) hqt.symm
  cbv
  cases a7 : ab .neq en 0
  · have h0 : en = 0 := by rw [F.neq] at a7; simpa using a7
    obtain ⟨r3, r4, r5⟩ := r2 h0
    have w1 : ab .eql l0 c0 = true := by rw [F.eql]; simpa using r3
    have w2 : ab .geq l1 c1 = true := by rw [F.geq]; exact decide_eq_true r4
    have w3 : ab .geq l2 c2 = true := by rw [F.geq]; exact decide_eq_true r5
    cbv
    rw [w1]; cbv
    rw [w2]; cbv
    rw [w3]; exact PLe.refl _
  · have h0 : en ≠ 0 := by rw [F.neq] at a7; simpa using a7
    have r3 := r1 h0
    simp only [List.cons.injEq, and_true] at r3
    obtain ⟨rfl, rfl, rfl⟩ := r3
    have w : eqi [.int .i64 l0, .int .i64 l1, .int .i64 l2] [.int .i64 l0, .int .i64 l1, .int .i64 l2] = true := by rw [F.eqi]; exact (eqPs_rowP (x := [l0, l1, l2]) (y := [l0, l1, l2]) rfl).trans (by simp)
    cbv
    rw [w]; exact PLe.refl _
theorem amtL_four {T H N : List (List Int)} {d : Int} : ∀ e ∈ amtL T H N d, e.length = 4 := fun e he => by
  obtain ⟨x, _, he⟩ := List.mem_flatMap.1 he
  unfold amtE at he
  obtain ⟨y, _, rfl⟩ := List.mem_map.1 he
  rfl
theorem amtL_in {T H N : List (List Int)} (h1 : ∀ x ∈ T, x.length = 24) (h2 : ∀ x ∈ H, x.length = 9) {d : Int} (hq : askE T H N d = 0) : ∀ e ∈ amtL T H N d, -1000000000000 ≤ e.getD 3 0 ∧ e.getD 3 0 ≤ 1000000000000 := fun e he => by
  obtain ⟨x, hx, he⟩ := List.mem_flatMap.1 he
  have g := good_in (N := N) h2 hq (List.mem_filter.1 hx).1
  obtain ⟨a, b, c⟩ := dueN_in (N := N) h1 g.tar g.held g.day
  unfold amtE at he
  obtain ⟨y, hy, rfl⟩ := List.mem_map.1 he
  have hy2 := List.of_mem_zip (show (y.1, y.2) ∈ _ from hy)
  simp only [List.getD_cons_succ, List.getD_cons_zero]
  rcases List.mem_cons.1 hy2.2 with h | h
  · omega
  rcases List.mem_cons.1 h with h | h
  · omega
  rcases List.mem_cons.1 h with h | h
  · omega
  · exact absurd h (by simp)
theorem amtL_len {T H N : List (List Int)} {d : Int} (hH : H.length ≤ 60) : (amtL T H N d).length ≤ 180 := by
  have h1 := flat_le (L := H.filter (cntH d)) (f := amtE T N d) (c := 3) fun x _ => by rw [amtE_len]; exact rcv_len x
  have h2 := tolL_len T H N d
  unfold amtL; omega
def befE (T H N : List (List Int)) (D : List Int) (k : Nat) : List (List Int) := if k = 0 then [] else amtL T H N (D.getD (k - 1) 0)
def befV (T H N : List (List Int)) (D : List Int) (k : Nat) : PV := if k = 0 then .nilm else mapV (amtL T H N (D.getD (k - 1) 0))
def dayQ (T H N : List (List Int)) (D : List Int) (k : Nat) : List (List Int) := chaL H (befE T H N D k) (amtL T H N (D.getD k 0)) (D.getD k 0)
def posQ (T H N : List (List Int)) (D : List Int) (k : Nat) : List (List Int) := (List.range k).flatMap (dayQ T H N D)
def pstQ (T H N : List (List Int)) (D : List Int) : List (List Int) := if pstE T H N D = 0 then posQ T H N D D.length else []
theorem posQ_succ (T H N : List (List Int)) (D : List Int) (k : Nat) : posQ T H N D (k + 1) = posQ T H N D k ++ dayQ T H N D k := by unfold posQ; rw [List.range_succ, List.flatMap_append]; simp
theorem chaL_len {H E1 E2 : List (List Int)} {day : Int} (hH : H.length ≤ 60) (h1 : E1.length ≤ 180) (h2 : E2.length ≤ 180) : (chaL H E1 E2 day).length ≤ 64800 := by
  have hp : (payL (froL E1 ++ froL E2)).length ≤ 360 := by
    have := payL_len (froL E1 ++ froL E2)
    rw [List.length_append, froL_len, froL_len] at this
    omega
  have h1 := flat_le (L := H) (f := chH E1 E2 day (payL (froL E1 ++ froL E2))) (c := 1080) fun x _ => by have := chH_le E1 E2 day (payL (froL E1 ++ froL E2)) x; omega
  unfold chaL; omega
theorem pPosts_does {T H N : List (List Int)} (h1 : ∀ x ∈ T, x.length = 24) (h2 : ∀ x ∈ H, x.length = 9) (h3 : ∀ x ∈ N, x.length = 7) (D : List Int) :
    Does Try.prog 13 [accP T H N, .list 1 (numP D)] (.tup [.list 5 ((pstQ T H N D).map rowP), .int .i64 (pstE T H N D)]) := by
  have hCk := pcheck_does h1 h2 h3
  have hDs := checkDays_does D
  have hOr := orE_does [err (accOk T H N) 63, err (daysOk D) 66]
  rw [show orE [err (accOk T H N) 63, err (daysOk D) 66] = pstE T H N D by unfold pstE err; cases accOk T H N <;> cases daysOk D <;> rfl] at hOr
  have hall : pstE T H N D = 0 → H.length ≤ 60 ∧ D.length ≤ 12 ∧ (∀ x ∈ H, 0 ≤ x.getD 5 0 ∧ x.getD 5 0 ≤ 99) ∧ ∀ d ∈ D, askE T H N d = 0 := fun h => by
    obtain ⟨ha, hd⟩ := pstE_days h
    obtain ⟨h12, hin⟩ := daysOk_in hd
    refine ⟨(accOk_len ha).2.1, h12, fun x hx => (heldOk_bounds (accOk_H ha x hx)).2.2.2.1, fun d hdm => ?_⟩
    unfold askE err
    rw [if_pos ha, if_pos (inB_iff.2 (hin d hdm))]
  obtain ⟨V, hV⟩ : ∃ V, PV.tup [.list 5 ((pstQ T H N D).map rowP), .int .i64 (pstE T H N D)] = V := ⟨_, rfl⟩
  rw [hV]
  unfold pstQ at hV
  generalize err (accOk T H N) 63 = e1 at *
  generalize err (daysOk D) 66 = e2 at *
  generalize pstE T H N D = q at *
  have hround : q = 0 → ∀ k (hk : k < D.length), Does Try.prog 28 [accP T H N, .int .i64 D[k]] (mapV (amtL T H N D[k])) ∧
      Does Try.prog 29 [accP T H N, .int .i64 D[k], befV T H N D k, mapV (amtL T H N D[k])] (.list 5 ((dayQ T H N D k).map rowP)) ∧ (dayQ T H N D k).length ≤ 64800 ∧ befV T H N D (k + 1) = mapV (amtL T H N D[k]) := fun hq k hk => by
    obtain ⟨a, b, c, e⟩ := hall hq
    have hDk : D.getD k 0 = D[k] := by simp [List.getD, hk]
    have hak := e _ (List.getElem_mem hk)
    have hl2 := amtL_len (T := T) (N := N) (d := D[k]) a
    refine ⟨amounts_does h1 h2 h3 hak, ?_, ?_, by unfold befV; rw [if_neg (by omega), Nat.add_sub_cancel, hDk]⟩
    · unfold dayQ befE befV
      rw [hDk]
      by_cases h0 : k = 0
      · rw [if_pos h0, if_pos h0]
        exact changes0_does h2 c a amtL_four (amtL_in h1 h2 hak) (by simp; omega) _
      · rw [if_neg h0, if_neg h0]
        have hDp : D.getD (k - 1) 0 ∈ D := by rw [show D.getD (k - 1) 0 = D[k - 1] by simp [List.getD, show k - 1 < D.length by omega]]; exact List.getElem_mem _
        have hl1 := amtL_len (T := T) (N := N) (d := D.getD (k - 1) 0) a
        exact changes_does h2 c a amtL_four (amtL_in h1 h2 (e _ hDp)) amtL_four (amtL_in h1 h2 hak) (by omega) _
    · unfold dayQ
      rw [hDk]
      refine chaL_len a ?_ hl2
      unfold befE
      split
      · simp
      · exact amtL_len a
  have hlen12 := fun h => (hall h).2.1
  clear hall
  have hb0 : befV T H N D 0 = .nilm := rfl
  have hps := posQ_succ T H N D
  have hp0 : posQ T H N D 0 = [] := rfl
  generalize befV T H N D = bv at *
  generalize dayQ T H N D = dq at *
  generalize posQ T H N D = pq at *
  obtain ⟨eT, hT1⟩ : ∃ es, T.map rowP = es := ⟨_, rfl⟩
  obtain ⟨eH, hH1⟩ : ∃ es, H.map rowP = es := ⟨_, rfl⟩
  obtain ⟨eN, hN1⟩ : ∃ es, N.map rowP = es := ⟨_, rfl⟩
  obtain ⟨eD, hED⟩ : ∃ es, numP D = es := ⟨_, rfl⟩
  simp only [accP, hT1, hH1, hN1, hED] at hCk hDs hround ⊢
  refine does_of (own := inPl) Try.func13 rfl Try.ntmps13 (congrArg Array.toList Try.results13) (fun us w => Try.call13 us w) hTT mixed (Nat.le_of_ble_eq_true rfl) ?_
  intro w0 im0 D0 S Cl hS hC ar har
  have har' := har
  obtain ⟨ai, ab, nz, inr, fi, pk, ix, ln, sb, eqi, sl, fits, mn, mx, nt, be, up, fu, mg, mh, ms⟩ := ar
  have F := facts_of har
  clear har
  have hlD : ln eD = D.length := by rw [F.ln, ← hED]; simp [numP]
  cbv
  refine ⟨_, hC _ _ _ hCk, ?_⟩; cbv
  refine ⟨_, hC _ _ _ hDs, ?_⟩; cbv
  refine ⟨_, hC _ _ _ hOr, ?_⟩; cbv
  by_cases h0 : q = 0
  · have c0 : ab .neq q 0 = false := by rw [F.neq, h0]; rfl
    have hround := hround h0
    have h12 := hlen12 h0
    have hple : ∀ k, k ≤ D.length → (pq k).length ≤ k * 64800 := fun k => by
      induction k with
      | zero => intro _; rw [hp0]; simp
      | succ k ih =>
        intro hk
        have := ih (by omega)
        have := (hround k (by omega)).2.2.1
        rw [hps, List.length_append]; omega
    rw [if_pos h0] at hV
    rw [c0]; cbv
    refine hS _ _ _ (sem_mkRow 7 1000 65 5 (by rfl) (by rfl) (sem_loopR (fun x : Nat × Int × PV × List (List PV) => [sP 2 2, sR 7 1000, (kT 8, .t (.c (.p x.2.2.1))), sL 21 1 eD, sI 22 (ln eD), sI 23 x.2.1, bX 2 32 [cL 24 eT, cL 9 eH, cL 7 eN], rW 1000 65 5 x.2.2.2]) (fun x => x.1 ≤ D.length ∧ x.2.1 = (x.1 : Int) ∧ x.2.2.1 = bv x.1 ∧ x.2.2.2 = (pq x.1).map rowP) (fun x => D.length - x.1) (0, 0, .nilm, []) (fun t => t) ⟨by rfl, by cbv; try (repeat (first | exact rfl | exact trivial | refine ⟨?_, ?_⟩))⟩ ?_ ?_))
    · exact ⟨by simp, rfl, hb0.symm, by rw [hp0]; rfl⟩
    rintro ⟨k, i, v, es⟩ ⟨hk, hi, hv, hes⟩
    dsimp only at hk hi hv hes
    have hadd : ai .add i 1 = ((k + 1 : Nat) : Int) := by rw [F.add i 1 (by omega) (by omega), hi]; simp
    refine sem_of (X := ⟨_, TT, ⟨0, 40, inPl⟩⟩) har' hTT mixed ?_
    intro S1 Cl1 hS1 hC1
    cbv
    by_cases hlt : k < D.length
    · have hb : ab .lss i (ln eD) = true := by rw [hlD, F.lss, hi]; simpa using hlt
      have hg : ix eD i = some [.int .i64 D[k]] := by rw [F.ix _ i k hi, ← hED]; exact get_nums hlt
      obtain ⟨ham, hch, hle, hbv⟩ := hround k hlt
      have hpl := hple k hk
      have hp1 := hps k
      rw [← hv] at hch
      generalize D[k] = dy at *
      obtain ⟨mv, hmv⟩ : ∃ m, amtL T H N dy = m := ⟨_, rfl⟩
      rw [hmv] at ham hch hbv
      obtain ⟨em, hem⟩ : ∃ m, mv.map rowP = m := ⟨_, rfl⟩
      simp only [mapV, hem] at ham hch hbv
      obtain ⟨eC, heC⟩ : ∃ es, (dq k).map rowP = es := ⟨_, rfl⟩
      rw [heC] at hch
      have hfit : fits 40 es eC = true := F.fits _ _ _ (by
        rw [hes, ← heC, List.length_map, List.length_map]; omega)
      have hnew : es ++ eC = (pq (k + 1)).map rowP := by rw [hp1, List.map_append, hes, heC]
      rw [hb]; cbv
      repeat (rw [hg]; cbv)
      refine ⟨_, hC1 _ _ _ ham, ?_⟩; cbv
      refine ⟨_, hC1 _ _ _ hch, ?_⟩; cbv
      rw [hfit]; cbv
      exact ⟨(k + 1, ai .add i 1, .map true false [.int .i64 0, .int .i64 0, .int .i64 0] em, es ++ eC), (fun t => bif Nat.beq t 1000 then 36 else t), ⟨hlt, hadd, hbv.symm, hnew⟩, by dsimp only; omega, ⟨by rfl, by cbv; try (repeat (first | exact rfl | exact trivial | refine ⟨?_, ?_⟩))⟩⟩
    · have hb : ab .lss i (ln eD) = false := by rw [hlD, F.lss, hi]; simpa using hlt
      have hkE : k = D.length := by omega
      rw [hb]; cbv
      rw [← hV, hes, hkE, h0]
      exact PLe.refl _
  · have c0 : ab .neq q 0 = true := by rw [F.neq]; simpa using h0
    rw [c0]; cbv
    rw [← hV, if_neg h0]
    exact PLe.tup2 (PLe.nil 5) (PLe.refl _)
theorem Does.args {P : Program} {f : FuncId} {xs bs : List PV} {v : PV} (h : Does P f xs v) (hle : ∀ (im : Nat → Prop) (w : World) (us : List Value), RepL im w bs us → RepL im w xs us) : Does P f bs v := ⟨h.1, fun w im us him hr => h.2 w im us him (hle _ _ _ hr)⟩
def exM : List (List Int) := [[2, 1, 1, 3, 13, 14, 0], [3, 1, 2, 0, 15, 15, 0], [4, 1, 3, 6, 18, 18, 0]]
theorem ex_T : ∀ x ∈ exT, x.length = 24 := by decide
theorem ex_H : ∀ x ∈ exH, x.length = 9 := by decide
theorem ex_N : ∀ x ∈ exN, x.length = 7 := by decide
theorem ex_M : ∀ x ∈ exM, x.length = 7 := by decide
theorem sane1 : lotR exT exH exN 1 14 = ([3, 13, 0, -1], 0) := by kernel_rfl
theorem sane2 : stR [0, 0, 0] (fun h => chgN exT exN h 13) (staN exT exH exN 1 13) = ([12, 40, 16], 0) := by kernel_rfl
theorem sane3 : lotR exT exH exN 1 20 = ([3, 13, 1, 15], 0) := by kernel_rfl
theorem sane4 : stR [0, 0, 0, 0] (fun h => dueN exT exN h 20) (staN exT exH exN 1 20) = ([5, 24, 12, 38], 0) := by kernel_rfl
theorem sane5 : pstQ exT exH exN [13, 14, 20] = [[14, 1, 5, 0, 38], [14, 1, 5, 1, 24], [14, 1, 5, 11, 12]] := by cbv
theorem sane5e : pstE exT exH exN [13, 14, 20] = 0 := by kernel_rfl
theorem sane6 : ntdE exT exH exN [4, 1, 3, 6, 18, 18, 0] = 0 := by kernel_rfl
theorem sane6a : (atK 4 exN).2 = 2 := by kernel_rfl
theorem sane6b : insN exN [4, 1, 3, 6, 18, 18, 0] = exM := by kernel_rfl
theorem sane7e : pstE exT exH exM [15, 18] = 0 := by kernel_rfl
theorem sane7v : pstQ exT exH exM [15, 18] = [[15, 1, 5, 0, 38], [15, 1, 5, 1, 24], [15, 1, 5, 11, 12], [18, 1, 5, 0, -38], [18, 1, 8, 0, 38], [18, 1, 5, 1, -24], [18, 1, 8, 1, 24], [18, 1, 5, 11, -12], [18, 1, 8, 11, 12]] := by cbv
theorem sane7 : (pstQ exT exH exM [15, 18]).length = 9 ∧ (pstQ exT exH exM [15, 18])[3]? = some [18, 1, 5, 0, -38] := by rw [sane7v]; exact ⟨rfl, rfl⟩
theorem sane8 : oweN exT exH exN 3 20 = 74 := by kernel_rfl
theorem sane8e : thrE exT exH exN (inB 3 1 99) 20 = 0 := by kernel_rfl
theorem sane9 : lotR exT exH [] 1 100 = ([0, -1, 2, 59], 0) := by kernel_rfl
theorem sane_does : Does Try.prog 5 [] (.bool true) := by
  have c0 := example_does
  have c1 := pLot_does ex_T ex_H ex_N 1 14
  have c2 := pCharged_does ex_T ex_H ex_N 1 13
  have c3 := pLot_does ex_T ex_H ex_N 1 20
  have c4 := pDues_does ex_T ex_H ex_N 1 20
  have c5 := pPosts_does ex_T ex_H ex_N [13, 14, 20]
  have c6 := noted_does ex_T ex_H ex_N (n := [4, 1, 3, 6, 18, 18, 0]) rfl (fun _ => by
    have := insertEnd_does ex_N (by decide) (n := [4, 1, 3, 6, 18, 18, 0]) rfl
    rw [show ([4, 1, 3, 6, 18, 18, 0] : List Int).getD 0 0 = 4 from rfl, sane6a, sane6b]
    exact this)
  have c7 := pPosts_does ex_T ex_H ex_M [15, 18]
  have c8 := pOwed_does ex_T ex_H ex_N 3 20
  have c9 := pLot_does ex_T ex_H (N := []) (by simp) 1 100
  have cS := rSame_does [[14, 1, 5, 0, 38], [14, 1, 5, 1, 24], [14, 1, 5, 11, 12]] [[14, 1, 5, 0, 38], [14, 1, 5, 1, 24], [14, 1, 5, 11, 12]] (by decide) (by decide) (by decide)
  rw [sane1] at c1
  rw [sane2] at c2
  rw [sane3] at c3
  rw [sane4] at c4
  rw [sane5, sane5e] at c5
  rw [sane6, if_pos rfl, sane6b] at c6
  rw [sane7e] at c7
  rw [sane8, sane8e] at c8
  rw [sane9] at c9
  obtain ⟨m1, m2⟩ := sane7
  generalize pstQ exT exH exM [15, 18] = M at *
  refine does_of (own := inPl) Try.func5 rfl Try.ntmps5 (congrArg Array.toList Try.results5) (fun us w => Try.call5 us w) hTT mixed (Nat.le_of_ble_eq_true rfl) ?_
  intro w0 im0 D0 S Cl hS hC ar har
  have har' := har
  obtain ⟨ai, ab, nz, inr, fi, pk, ix, ln, sb, eqi, sl, fits, mn, mx, nt, be, up, fu, mg, mh, ms⟩ := ar
  have F := facts_of har
  clear har
  obtain ⟨eM, hM⟩ : ∃ es, M.map rowP = es := ⟨_, rfl⟩
  have hln : ab .eql (ln eM) 9 = true := by rw [F.ln, F.eql, ← hM, List.length_map, m1]; rfl
  have hg : ix eM 3 = some [.int .i64 18, .int .i64 1, .int .i64 5, .int .i64 0, .int .i64 (-38)] := by
    rw [F.ix eM 3 3 rfl, ← hM, List.getElem?_map, m2]; rfl
  rw [hM] at c7
  have e00 : ab .eql 0 0 = true := by rw [F.eql]; rfl
  have e74 : ab .eql 74 74 = true := by rw [F.eql]; rfl
  have q1 : eqi [.int .i64 3, .int .i64 13, .int .i64 0, .int .i64 (-1)] [.int .i64 3, .int .i64 13, .int .i64 0, .int .i64 (-1)] = true := by rw [F.eqi]; rfl
  have q2 : eqi [.int .i64 3, .int .i64 13, .int .i64 1, .int .i64 15] [.int .i64 3, .int .i64 13, .int .i64 1, .int .i64 15] = true := by rw [F.eqi]; rfl
  have q3 : eqi [.int .i64 0, .int .i64 (-1), .int .i64 2, .int .i64 59] [.int .i64 0, .int .i64 (-1), .int .i64 2, .int .i64 59] = true := by rw [F.eqi]; rfl
  have q4 : eqi [.int .i64 12, .int .i64 40, .int .i64 16] [.int .i64 12, .int .i64 40, .int .i64 16] = true := by rw [F.eqi]; rfl
  have q5 : eqi [.int .i64 5, .int .i64 24, .int .i64 12, .int .i64 38] [.int .i64 5, .int .i64 24, .int .i64 12, .int .i64 38] = true := by rw [F.eqi]; rfl
  have q6 : eqi [.int .i64 18, .int .i64 1, .int .i64 5, .int .i64 0, .int .i64 (-38)] [.int .i64 18, .int .i64 1, .int .i64 5, .int .i64 0, .int .i64 (-38)] = true := by rw [F.eqi]; rfl
  obtain ⟨eT, hT⟩ : ∃ es, exT.map rowP = es := ⟨_, rfl⟩
  obtain ⟨eH, hH⟩ : ∃ es, exH.map rowP = es := ⟨_, rfl⟩
  obtain ⟨eN, hN⟩ : ∃ es, exN.map rowP = es := ⟨_, rfl⟩
  obtain ⟨eX, hX⟩ : ∃ es, exM.map rowP = es := ⟨_, rfl⟩
  simp only [accP, hT, hH, hN, hX, List.map_nil] at c0 c1 c2 c3 c4 c5 c6 c7 c8 c9
  have c9 : Does Try.prog 8 [.agg [.list 24 eT, .list 9 eH, .nil], .int .i64 1, .int .i64 100] (.tup [.agg (rowP [0, -1, 2, 59]), .int .i64 0]) := c9.args fun im w us h => by
    simp only [RepL] at h ⊢
    obtain ⟨x, xs, rfl, h1, h2⟩ := h
    refine ⟨x, xs, rfl, (PLe.agg (RepL.leC (PLe.refl _) (RepL.leC (PLe.refl _) (RepL.leC (PLe.nil 7) (fun _ _ _ h => h))))).h _ _ _ h1, h2⟩
  cbv
  refine ⟨_, hC _ _ _ c0, ?_⟩; cbv
  refine ⟨_, hC _ _ _ c1, ?_⟩; cbv
  refine ⟨_, hC _ _ _ c2, ?_⟩; cbv
  refine ⟨_, hC _ _ _ c3, ?_⟩; cbv
  refine ⟨_, hC _ _ _ c4, ?_⟩; cbv
  refine ⟨_, hC _ _ _ c5, ?_⟩; cbv
  refine ⟨_, hC _ _ _ c6, ?_⟩; cbv
  refine ⟨_, hC _ _ _ c7, ?_⟩; cbv
  refine ⟨_, hC _ _ _ c8, ?_⟩; cbv
  refine ⟨_, hC _ _ _ c9, ?_⟩; cbv
  repeat ((first | rw [e00] | rw [q1] | rw [q2] | rw [q3] | rw [q4] | rw [q5] | rw [e74]); cbv)
  refine ⟨_, hC _ _ _ cS, ?_⟩; cbv
  repeat ((first | rw [hln] | rw [hg] | rw [q6]); cbv)
  exact PLe.refl _
theorem due4 (T N : List (List Int)) (h : List Int) (d : Int) : ∃ a b c e, dueN T N h d = [a, b, c, e] := by
  unfold dueN dueP; split
  · exact ⟨_, _, _, _, rfl⟩
  · split <;> exact ⟨_, _, _, _, rfl⟩
theorem due_payer {T N : List (List Int)} {h : List Int} {d ow st en dy : Int} (hl : lotN T N h d = [ow, st, en, dy]) (h2 : en ≠ 2) (h3 : en ≠ 3) (ho : 0 < ow) : (dueN T N h d).getD 0 0 = 2 + ow := by
  unfold dueN
  rw [hl]
  simp only [List.getD_cons_zero, List.getD_cons_succ]
  rw [if_neg h2, if_neg (by omega)]; rfl
theorem eqi4 {a b c d : Int} : eqPs [.int .i64 a, .int .i64 b, .int .i64 c, .int .i64 d] [.int .i64 a, .int .i64 b, .int .i64 c, .int .i64 d] = true :=
  (eqPs_rowP (x := [a, b, c, d]) (y := [a, b, c, d]) rfl).trans (by simp)
theorem say_self {s o y d k : Int} {h : List Int} (hk : h.getD 0 0 = s) (hy : h.getD 6 0 ≤ y ∧ y ≤ d) {q : Int} : sayN [q, s, k, o, y, d, 0] h d = true := by
  unfold sayN cntB
  simp only [List.getD_cons_zero, List.getD_cons_succ, Bool.and_eq_true, Bool.or_eq_true, decide_eq_true_eq, beq_iff_eq, inB_iff]
  exact ⟨⟨Int.le_refl _, by simp⟩, hk.symm, hy⟩
theorem fineJudged_does (hs : Does Try.prog 5 [] (.bool true)) {eA eB eC : List (List PV)} {T H N : List (List Int)} (m : MadeOk T H N)
    (hMd : Does Try.prog 6 [.agg [.list 6 eA, .list 7 eB, .list 6 eC]] (accP T H N)) (n0 n1 n2 n3 : Int) :
    Does Try.prog 4 [.agg [.list 6 eA, .list 7 eB, .list 6 eC], .agg [.int .i64 n0, .int .i64 n1, .int .i64 n2, .int .i64 n3]] (.bool true) := by
  have hHl := m.hl
  by_cases hH0 : H.length = 0
  · obtain ⟨eT, hT⟩ : ∃ es, T.map rowP = es := ⟨_, rfl⟩
    obtain ⟨eH, hH⟩ : ∃ es, H.map rowP = es := ⟨_, rfl⟩
    obtain ⟨eN, hN⟩ : ∃ es, N.map rowP = es := ⟨_, rfl⟩
    simp only [accP, hT, hH, hN] at hMd
    refine does_of (own := inPl) Try.func4 rfl Try.ntmps4 (congrArg Array.toList Try.results4) (fun us w => Try.call4 us w) hTT mixed (Nat.le_of_ble_eq_true rfl) ?_
    intro w0 im0 D0 S Cl hS hC ar har
    have har' := har
    obtain ⟨ai, ab, nz, inr, fi, pk, ix, ln, sb, eqi, sl, fits, mn, mx, nt, be, up, fu, mg, mh, ms⟩ := ar
    have F := facts_of har
    clear har
    have hz : ab .eql (ln eH) 0 = true := by rw [F.ln, F.eql, ← hH, List.length_map, hH0]; rfl
    cbv
    refine ⟨_, hC _ _ _ hs, ?_⟩; cbv
    refine ⟨_, hC _ _ _ hMd, ?_⟩; cbv
    rw [hz]; cbv
    exact PLe.refl _
  obtain ⟨q, hq⟩ : ∃ q : Nat, n0 % (H.length : Int) = (q : Int) := ⟨(n0 % (H.length : Int)).toNat, by have := Int.emod_nonneg n0 (b := (H.length : Int)) (by omega); omega⟩
  have hqlt : q < H.length := by have := Int.emod_lt_of_pos n0 (b := (H.length : Int)) (by omega); omega
  have d0 := rMod_does n0 (m := (H.length : Int)) (by omega) (by omega)
  rw [hq] at d0
  have hm : H[q] ∈ H := List.getElem_mem hqlt
  obtain ⟨⟨s0, s1⟩, ⟨s2, s3⟩, ⟨s4, s5⟩, s6, s7⟩ := held_made m hm
  have hhk := accOk_H m.ok _ hm
  have hh9 := m.h _ hm
  obtain ⟨h, hh⟩ : ∃ h, H[q] = h := ⟨_, rfl⟩
  rw [hh] at hm s0 s1 s2 s3 s4 s5 s6 s7 hhk hh9
  obtain ⟨v, hv⟩ : ∃ d, n1 % 700 = d := ⟨_, rfl⟩
  obtain ⟨v2, hv2⟩ : ∃ d, n2 % 5 = d := ⟨_, rfl⟩
  have bv : 0 ≤ v ∧ v < 700 := by omega
  have bv2 : 0 ≤ v2 ∧ v2 < 5 := by omega
  obtain ⟨D, hD⟩ : ∃ D, max (h.getD 7 0) (h.getD 6 0) + v = D := ⟨_, rfl⟩
  have bD : 0 ≤ D ∧ D ≤ 1000 ∧ h.getD 6 0 ≤ D ∧ h.getD 7 0 ≤ D := by omega
  obtain ⟨v3, hv3⟩ : ∃ d, n3 % (D - h.getD 6 0 + 1) = d := ⟨_, rfl⟩
  have dv := rMod_does n1 (m := 700) (by decide) (by decide)
  have dv2 := rMod_does n2 (m := 5) (by decide) (by decide)
  have dv3 := rMod_does n3 (m := D - h.getD 6 0 + 1) (by omega) (by omega)
  rw [hv] at dv
  rw [hv2] at dv2
  rw [hv3] at dv3
  have bv3 : 0 ≤ v3 ∧ v3 ≤ D - h.getD 6 0 := by
    have a := Int.emod_nonneg n3 (b := D - h.getD 6 0 + 1) (by omega)
    have b := Int.emod_lt_of_pos n3 (b := D - h.getD 6 0 + 1) (by omega)
    omega
  clear hv hv2 hv3 hq
  have ha : askE T H N D = 0 := made_ask m.ok bD.1 (by omega)
  have hNl := m.nl
  obtain ⟨ow, st, en, dy, hl⟩ : ∃ a b c e, lotN T N h D = [a, b, c, e] := ⟨_, _, _, _, rfl⟩
  obtain ⟨nn, hnn⟩ : ∃ nn : List Int, [90, h.getD 0 0, 3, 1 + v2, h.getD 6 0 + v3, D, 0] = nn := ⟨_, rfl⟩
  have nok : noteOk nn = true := by rw [← hnn]; exact note_ok (by omega) (.inr rfl) (by omega) (by omega) (by omega) (by omega)
  have nsrc : ∀ x ∈ N, x.getD 0 0 < nn.getD 0 0 := fun x hx => by
    have := note_src m x hx
    rw [← hnn]
    show x.getD 0 0 < 90
    omega
  have n7 : nn.length = 7 := by rw [← hnn]; rfl
  have aok := acc_app m.ok nok nsrc (by omega)
  have hNt := noted_end m.t m.h m.n n7 m.ok nok nsrc (by omega)
  have ha' : askE T H (N ++ [nn]) D = 0 := made_ask aok bD.1 (by omega)
  have n3' : ∀ x ∈ N ++ [nn], x.length = 7 := fun x hx => by
    rcases List.mem_append.1 hx with z | z
    · exact m.n x z
    · rw [List.mem_singleton] at z; rw [z]; exact n7
  obtain ⟨st', en', dy', hl', j1, j2, j3⟩ := lot_judged (T := T) (N := N) (n := nn) s2 bD.1 (by rw [← hnn]; rfl) (by rw [← hnn]; rfl) (by rw [← hnn]; show 0 < 1 + v2; omega) (by rw [← hnn]; exact say_self rfl ⟨by omega, by omega⟩) hl
  have nn3 : nn.getD 3 0 = 1 + v2 := by rw [← hnn]; rfl
  have nn4 : nn.getD 4 0 = h.getD 6 0 + v3 := by rw [← hnn]; rfl
  rw [nn3] at hl'
  rw [nn4] at j1
  obtain ⟨no, hno⟩ : ∃ nn : List Int, [91, h.getD 0 0, 3, 1 + v2, max st' (h.getD 6 0), D, 0] = nn := ⟨_, rfl⟩
  have ook : noteOk no = true := by rw [← hno]; exact note_ok (by omega) (.inr rfl) (by omega) (by omega) (by omega) (by omega)
  have osrc : ∀ x ∈ N ++ [nn], x.getD 0 0 < no.getD 0 0 := fun x hx => by
    rw [← hno]
    show x.getD 0 0 < 91
    rcases List.mem_append.1 hx with z | z
    · have := note_src m x z; omega
    · rw [List.mem_singleton] at z; rw [z, ← hnn]; show (90 : Int) < 91; decide
  have o7 : no.length = 7 := by rw [← hno]; rfl
  have aok2 := acc_app aok ook osrc (by simp; omega)
  have hNt2 := noted_end m.t m.h n3' o7 aok ook osrc (by simp; omega)
  have ha2 : askE T H (N ++ [nn] ++ [no]) D = 0 := made_ask aok2 bD.1 (by omega)
  have o3' : ∀ x ∈ N ++ [nn] ++ [no], x.length = 7 := fun x hx => by
    rcases List.mem_append.1 hx with z | z
    · exact n3' x z
    · rw [List.mem_singleton] at z; rw [z]; exact o7
  obtain ⟨st2, en2, dy2, hl2, p1, p2, p3⟩ := lot_judged (T := T) (N := N ++ [nn]) (n := no) s2 bD.1 (by rw [← hno]; rfl) (by rw [← hno]; rfl) (by rw [← hno]; show 0 < 1 + v2; omega) (by rw [← hno]; exact say_self rfl ⟨by omega, by omega⟩) hl'
  have no3 : no.getD 3 0 = 1 + v2 := by rw [← hno]; rfl
  have no4 : no.getD 4 0 = st' := by rw [← hno]; show max st' (h.getD 6 0) = st'; omega
  rw [no3] at hl2
  rw [no4] at p1
  have hst2 : st2 = st' := by rw [p1]; split <;> omega
  have hlot2 : lotN T (N ++ [nn] ++ [no]) h D = lotN T (N ++ [nn]) h D := by
    obtain ⟨e1, e2⟩ := p3 hst2
    rw [hl2, hl', hst2, e1, e2]
  have hdue2 := due_lot hlot2
  have hpay : en' ≠ 2 → en' ≠ 3 → (dueN T (N ++ [nn]) h D).getD 0 0 = 2 + (1 + v2) := fun a b => due_payer hl' a b (by omega)
  have hsame : ow = 1 + v2 → ¬ h.getD 6 0 + v3 < st → 0 ≤ st → dueN T (N ++ [nn]) h D = dueN T N h D := fun a b c => by
    have e : st' = st := by rw [j1, if_neg (by omega)]
    obtain ⟨e1, e2⟩ := j3 e
    exact due_lot (by rw [hl', hl, e, e1, e2, a])
  obtain ⟨a0, a1, a2, a3, hda⟩ := due4 T N h D
  obtain ⟨b0, b1, b2, b3, hdb⟩ := due4 T (N ++ [nn]) h D
  have uL := pLot_does m.t m.h m.n (h.getD 0 0) D
  have uA := pDues_does m.t m.h m.n (h.getD 0 0) D
  have uY := pLot_does m.t m.h n3' (h.getD 0 0) D
  have uB := pDues_does m.t m.h n3' (h.getD 0 0) D
  have uC := pDues_does m.t m.h o3' (h.getD 0 0) D
  obtain ⟨cn, hcn⟩ : ∃ c, cntH D h = c := ⟨_, rfl⟩
  have uLt : cn = true → Does Try.prog 8 [accP T H N, .int .i64 (h.getD 0 0), .int .i64 D] (.tup [.agg (rowP [ow, st, en, dy]), .int .i64 0]) := fun z => by
    have := uL
    unfold lotR at this
    rw [sta_is ha hm (hcn.trans z)] at this
    simpa only [stR, if_true, hl] using this
  have uLf : cn = false → Does Try.prog 8 [accP T H N, .int .i64 (h.getD 0 0), .int .i64 D] (.tup [.agg (rowP [0, 0, 0, 0]), .int .i64 65]) := fun z => by
    have := uL
    unfold lotR at this
    rw [sta_not ha hm (hcn.trans z)] at this
    simpa only [stR, show ¬ (65 : Int) = 0 by decide, if_false] using this
  have uAt : cn = true → Does Try.prog 11 [accP T H N, .int .i64 (h.getD 0 0), .int .i64 D] (.tup [.agg (rowP [a0, a1, a2, a3]), .int .i64 0]) := fun z => by
    have := uA
    rw [sta_is ha hm (hcn.trans z)] at this
    simpa only [stR, if_true, hda] using this
  have uAf : cn = false → Does Try.prog 11 [accP T H N, .int .i64 (h.getD 0 0), .int .i64 D] (.tup [.agg (rowP [0, 0, 0, 0]), .int .i64 65]) := fun z => by
    have := uA
    rw [sta_not ha hm (hcn.trans z)] at this
    simpa only [stR, show ¬ (65 : Int) = 0 by decide, if_false] using this
  have uYt : cn = true → Does Try.prog 8 [accP T H (N ++ [nn]), .int .i64 (h.getD 0 0), .int .i64 D] (.tup [.agg (rowP [1 + v2, st', en', dy']), .int .i64 0]) := fun z => by
    have := uY
    unfold lotR at this
    rw [sta_is ha' hm (hcn.trans z)] at this
    simpa only [stR, if_true, hl'] using this
  have uBt : cn = true → Does Try.prog 11 [accP T H (N ++ [nn]), .int .i64 (h.getD 0 0), .int .i64 D] (.tup [.agg (rowP [b0, b1, b2, b3]), .int .i64 0]) := fun z => by
    have := uB
    rw [sta_is ha' hm (hcn.trans z)] at this
    simpa only [stR, if_true, hdb] using this
  have uCt : cn = true → Does Try.prog 11 [accP T H (N ++ [nn] ++ [no]), .int .i64 (h.getD 0 0), .int .i64 D] (.tup [.agg (rowP [b0, b1, b2, b3]), .int .i64 0]) := fun z => by
    have := uC
    rw [sta_is ha2 hm (hcn.trans z)] at this
    simpa only [stR, if_true, hdue2, hdb] using this
  rw [hdb] at hpay
  rw [hda, hdb] at hsame
  clear uL uA uY uB uC ha ha' ha2 aok aok2 nsrc osrc nok ook n3' o3' n7 o7 hcn hl hl' hl2 hda hdb hdue2 hlot2 hst2 p1 p2 p3 j1 j3 hm hhk nn3 nn4 no3 no4
  obtain ⟨x0, x1, x2, x3, x4, x5, x6, x7, x8, rfl⟩ := list9 hh9
  subst hnn
  subst hno
  simp only [List.getD_cons_zero, List.getD_cons_succ] at s0 s1 s2 s3 s4 s5 s6 s7 hD bD bv3 dv3 j2 hpay hsame uLt uLf uAt uAf uYt uBt uCt hNt hNt2
  obtain ⟨eT, hT⟩ : ∃ es, T.map rowP = es := ⟨_, rfl⟩
  obtain ⟨eH, hH⟩ : ∃ es, H.map rowP = es := ⟨_, rfl⟩
  obtain ⟨eN, hN⟩ : ∃ es, N.map rowP = es := ⟨_, rfl⟩
  obtain ⟨eM, hM⟩ : ∃ es, (N ++ [[90, x0, 3, 1 + v2, x6 + v3, D, 0]]).map rowP = es := ⟨_, rfl⟩
  obtain ⟨eO, hO⟩ : ∃ es, (N ++ [[90, x0, 3, 1 + v2, x6 + v3, D, 0]] ++ [[91, x0, 3, 1 + v2, max st' x6, D, 0]]).map rowP = es := ⟨_, rfl⟩
  simp only [accP, hT, hH, hN, hM, hO] at hMd hNt hNt2 uLt uLf uAt uAf uYt uBt uCt
  clear hM hO m hN
  refine does_of (own := inPl) Try.func4 rfl Try.ntmps4 (congrArg Array.toList Try.results4) (fun us w => Try.call4 us w) hTT mixed (Nat.le_of_ble_eq_true rfl) ?_
  intro w0 im0 D0 S Cl hS hC ar har
  have har' := har
  obtain ⟨ai, ab, nz, inr, fi, pk, ix, ln, sb, eqi, sl, fits, mn, mx, nt, be, up, fu, mg, mh, ms⟩ := ar
  have F := facts_of har
  clear har
  have hlnH : ln eH = H.length := by rw [F.ln, ← hH]; simp
  have hz : ab .eql (ln eH) 0 = false := by rw [hlnH, F.eql]; simpa using hH0
  rw [← hlnH] at d0
  have hg : ix eH (q : Int) = some (rowP [x0, x1, x2, x3, x4, x5, x6, x7, x8]) := by rw [F.ix _ _ q rfl, ← hH, get_rows hqlt, hh]
  have eM7 : mx x7 x6 = max x7 x6 := F.mx _ _
  have e7 : ai .add (mx x7 x6) v = D := by rw [eM7, ← hD]; exact F.add _ _ (by omega) (by omega)
  have e2 : ai .add 1 v2 = 1 + v2 := F.add _ _ (by omega) (by omega)
  have e6 : ai .add x6 v3 = x6 + v3 := F.add _ _ (by omega) (by omega)
  have eS : ai .add (ai .sub D x6) 1 = D - x6 + 1 := by rw [F.sub _ _ (by omega) (by omega)]; exact F.add _ _ (by omega) (by omega)
  have eX : mx st' x6 = max st' x6 := F.mx _ _
  obtain ⟨W, hW⟩ : ∃ W, 1 + v2 = W := ⟨_, rfl⟩
  have bW : 1 ≤ W ∧ W ≤ 5 := by omega
  rw [hW] at e2 hNt hNt2 uYt hpay hsame
  rw [← e6] at hNt hsame
  rw [← eX] at hNt2
  rw [← eS] at dv3
  have t2 : nt true = false := F.nt _
  have z0 : ab .neq 0 0 = false := by rw [F.neq]; rfl
  have z1 : ab .eql 0 65 = false := by rw [F.eql]; rfl
  have z2 : ab .eql 65 65 = true := by rw [F.eql]; rfl
  have zW : ab .neq W W = false := by rw [F.neq]; simp
  obtain ⟨Q, hQ⟩ : ∃ Q : Int, (q : Int) = Q := ⟨_, rfl⟩
  rw [hQ] at d0 hg
  clear hQ hqlt hh hW
  cbv
  refine ⟨_, hC _ _ _ hs, ?_⟩; cbv
  refine ⟨_, hC _ _ _ hMd, ?_⟩; cbv
  rw [hz]; cbv
  refine ⟨_, hC _ _ _ d0, ?_⟩; cbv
  repeat (rw [hg]; cbv)
  refine ⟨_, hC _ _ _ dv, ?_⟩; cbv
  rw [e7]; cbv
  cases cn
  · refine ⟨_, hC _ _ _ (uLf rfl), ?_⟩; cbv
    refine ⟨_, hC _ _ _ (uAf rfl), ?_⟩; cbv
    rw [z2]; cbv
    repeat (rw [z2]; cbv)
    exact PLe.refl _
  have uLt := uLt rfl
  have uAt := uAt rfl
  have uYt := uYt rfl
  have uBt := uBt rfl
  have uCt := uCt rfl
  clear uLf uAf
  refine ⟨_, hC _ _ _ uLt, ?_⟩; cbv
  refine ⟨_, hC _ _ _ uAt, ?_⟩; cbv
  rw [z1]; cbv
  refine ⟨_, hC _ _ _ dv2, ?_⟩; cbv
  refine ⟨_, hC _ _ _ dv3, ?_⟩; cbv
  rw [e2]; cbv
  refine ⟨_, hC _ _ _ hNt, ?_⟩; cbv
  refine ⟨_, hC _ _ _ uYt, ?_⟩; cbv
  refine ⟨_, hC _ _ _ uBt, ?_⟩; cbv
  rw [t2]; cbv
  repeat (rw [z0]; cbv)
  refine ⟨_, hC _ _ _ dv2, ?_⟩; cbv
  rw [e2]; cbv
  rw [zW]; cbv
  have w4 : eqi [.int .i64 b0, .int .i64 b1, .int .i64 b2, .int .i64 b3] [.int .i64 b0, .int .i64 b1, .int .i64 b2, .int .i64 b3] = true := by rw [F.eqi]; exact eqi4
  have a2W : ai .add 2 W = 2 + W := F.add _ _ (by omega) (by omega)
  have c2 : ab .neq en' 2 = true → ab .neq en' 3 = true → ab .neq b0 (ai .add 2 W) = false := fun z1 z2 => by
    rw [F.neq] at z1 z2
    have := hpay (by simpa using z1) (by simpa using z2)
    rw [F.neq, a2W]; simpa using this
  have fin : ab .neq ow W = false → ab .lss (ai .add x6 v3) st = false → ab .lss st 0 = false → eqi [.int .i64 a0, .int .i64 a1, .int .i64 a2, .int .i64 a3] [.int .i64 b0, .int .i64 b1, .int .i64 b2, .int .i64 b3] = true := fun y1 y2 y3 => by
    rw [F.neq] at y1
    rw [F.lss, decide_eq_false_iff_not] at y2 y3
    have := hsame (by simpa using y1) y2 (by omega)
    simp only [List.cons.injEq, and_true] at this
    obtain ⟨r1, r2, r3, r4⟩ := this
    rw [r1, r2, r3, r4, F.eqi]; exact eqi4
  clear hpay hsame j2
  have key : (ab .neq en' 2 = false) ∨ (ab .neq en' 2 = true ∧ ab .neq en' 3 = false) ∨ (ab .neq en' 2 = true ∧ ab .neq en' 3 = true ∧ ab .neq b0 (ai .add 2 W) = false) := by
    cases y2 : ab .neq en' 2
    · exact .inl rfl
    · cases y3 : ab .neq en' 3
      · exact .inr (.inl ⟨rfl, rfl⟩)
      · exact .inr (.inr ⟨rfl, rfl, c2 y2 y3⟩)
  rcases key with k1 | ⟨k1, k2⟩ | ⟨k1, k2, k3⟩
  rw [k1]; cbv
  rotate_left
  rw [k1]; cbv
  rw [k2]; cbv
  rotate_left
  rw [k1]; cbv
  rw [k2]; cbv
  rw [k3]; cbv
  all_goals
    refine ⟨_, hC _ _ _ hNt2, ?_⟩; cbv
    refine ⟨_, hC _ _ _ uCt, ?_⟩; cbv
    repeat (rw [z0]; cbv)
    rw [w4, t2]; cbv
    cases y1 : ab .neq ow W
    rotate_left
    · cbv; exact PLe.refl _
    cbv
    refine ⟨_, hC _ _ _ dv3, ?_⟩; cbv
    cases y2 : ab .lss (ai .add x6 v3) st
    rotate_left
    · cbv; exact PLe.refl _
    cbv
    cases y3 : ab .lss st 0
    rotate_left
    · cbv; exact PLe.refl _
    have f := fin y1 y2 y3
    cbv
    rw [f]; exact PLe.refl _
end Go.Proofs.Ytjimjdhdnkhfnaa
