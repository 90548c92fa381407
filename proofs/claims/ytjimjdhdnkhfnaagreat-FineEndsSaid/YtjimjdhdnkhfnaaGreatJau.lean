/- Contracts of functions of the program and of the reference, a calculus of states, and plain facts: a part of a proof. Own text. -/
import Derived.Test.YtjimjdhdnkhfnaaGreatJan
import Derived.Test.YtjimjdhdnkhfnaaGreatJao
import Derived.Test.YtjimjdhdnkhfnaaGreatJap
import Derived.Test.YtjimjdhdnkhfnaaGreatJar
import Derived.Test.YtjimjdhdnkhfnaaGreatJas
set_option linter.unusedVariables false
set_option linter.unusedSimpArgs false
set_option linter.unusedSectionVars false
set_option linter.unnecessarySimpa false
namespace Go.Proofs.YtjimjdhdnkhfnaaGreat
open Go Go.RowKit
set_option maxRecDepth 100000
set_option maxHeartbeats 4000000
theorem fineEnds_does (hs : Does Tryz.prog 11 [] (.bool true)) {eA eB eC : List (List PV)} {T H N : List (List Int)} (m : MadeOk T H N)
    (hMd : Does Tryz.prog 53 [.agg [.list 6 eA, .list 7 eB, .list 6 eC]] (accP T H N)) (kn : Int) :
    Does Tryz.prog 10 [.agg [.list 6 eA, .list 7 eB, .list 6 eC], .int .i64 kn] (.bool true) := by
  obtain ⟨d, hd⟩ : ∃ d, kn % 900 = d := ⟨_, rfl⟩
  have d1 := rMod_does kn (m := 900) (by decide) (by decide)
  rw [hd] at d1
  have hdb : 0 ≤ d ∧ d < 900 := by omega
  clear hd
  have ha : askE T H N d = 0 := made_ask m.ok hdb.1 (by omega)
  have uI := pInside_does m.t m.h m.n d
  have uS := pStays_does m.t m.h m.n d
  have uE := fun w => pEnded_does m.t m.h m.n w d
  have uL := fun q => pLot_does m.t m.h m.n q d
  have uC := fun q => pCharged_does m.t m.h m.n q d
  have uF := fun q => pFed_does m.t m.h m.n q d
  have kS : ∀ h ∈ H, (if askE T H N d = 0 then srcsN (cntH d) H else []).contains (h.getD 0 0) = cntH d h := fun h hh => sts_has ha hh
  have kI : ∀ h ∈ H, (if askE T H N d = 0 then srcsN (insH T N d) H else []).contains (h.getD 0 0) = (cntH d h && (decide (h.getD 6 0 ≤ d) && (lotN T N h d).getD 2 0 == 0)) := fun h hh => ins_has ha hh
  have kE : ∀ h ∈ H, cntH d h = true → ∀ w, 0 ≤ w ∧ w ≤ 4 → (endN T H N w d).contains (h.getD 0 0) = ((lotN T N h d).getD 2 0 == w) := fun h hh hc w hw => end_has ha hw hh hc
  have kT : ∀ w, 0 ≤ w ∧ w ≤ 4 → thrE T H N (inB w 0 4) d = 0 := fun w hw => by
    unfold thrE
    rw [if_pos (askE_ok ha).1, if_pos (inB_iff.2 hw)]; exact ha
  have kL : ∀ h ∈ H, cntH d h = true → staN T H N (h.getD 0 0) d = (h, 0) := fun h hh hc => sta_is ha hh hc
  have cHS := fun q => rHas_does (if askE T H N d = 0 then srcsN (cntH d) H else []) q
  have cHI := fun q => rHas_does (if askE T H N d = 0 then srcsN (insH T N d) H else []) q
  have cHE := fun w q => rHas_does (endN T H N w d) q
  rw [ha] at uI uS
  rw [if_pos rfl] at uI uS
  rw [if_pos ha] at kS kI
  simp only [if_pos ha] at cHS cHI
  generalize srcsN (cntH d) H = sS at *
  generalize srcsN (insH T N d) H = sI' at *
  obtain ⟨E, hE⟩ : ∃ f : Int → List Int, (fun w => endN T H N w d) = f := ⟨_, rfl⟩
  have gE : ∀ w, endN T H N w d = E w := fun w => by rw [← hE]
  simp only [gE] at uE kE cHE
  clear hE gE
  obtain ⟨eE, hE⟩ : ∃ f : Int → List (List PV), (fun w => numP (E w)) = f := ⟨_, rfl⟩
  have gE : ∀ w, numP (E w) = eE w := fun w => by rw [← hE]
  simp only [gE] at uE cHE
  clear hE gE
  obtain ⟨eT, hT⟩ : ∃ es, T.map rowP = es := ⟨_, rfl⟩
  obtain ⟨eH, hH⟩ : ∃ es, H.map rowP = es := ⟨_, rfl⟩
  obtain ⟨eN, hN⟩ : ∃ es, N.map rowP = es := ⟨_, rfl⟩
  obtain ⟨eS, hS'⟩ : ∃ es, numP sS = es := ⟨_, rfl⟩
  obtain ⟨eI, hI'⟩ : ∃ es, numP sI' = es := ⟨_, rfl⟩
  simp only [accP, hT, hH, hN, hS', hI'] at hMd uI uS uE uL uC uF cHS cHI
  obtain ⟨q1, q2, q3⟩ := accOk_len m.ok
  refine does_of (own := inPl) Tryz.func10 rfl Tryz.ntmps10 (congrArg Array.toList Tryz.results10) (fun us w => Tryz.call10 us w) hTT mixed (Nat.le_of_ble_eq_true rfl) ?_
  intro w0 im0 D0 S Cl hS hC ar har
  have har' := har
  obtain ⟨ai, ab, nz, inr, fi, pk, ix, ln, sb, eqi, sl, fits, mn, mx, nt, be, up, fu, mg, mh, ms⟩ := ar
  have F := facts_of har
  clear har
  have hlnH : ln eH = H.length := by rw [F.ln, ← hH]; simp
  have t1 : nt false = true := F.nt _
  have t2 : nt true = false := F.nt _
  have z0 : ab .neq 0 0 = false := by rw [F.neq]; rfl
  cbv
  refine ⟨_, hC _ _ _ hs, ?_⟩; cbv
  refine ⟨_, hC _ _ _ hMd, ?_⟩; cbv
  refine ⟨_, hC _ _ _ d1, ?_⟩; cbv
  refine ⟨_, hC _ _ _ uI, ?_⟩; cbv
  refine ⟨_, hC _ _ _ uS, ?_⟩; cbv
  rw [t2]; cbv
  repeat (rw [z0]; cbv)
  refine hS _ _ _ (sem_loop (fun x : Nat × Int => [sP 6 6, sI 7 d, sL 8 1 eI, sL 10 1 eS, sI 12 x.2, bX 6 26 [cL 24 eT, cL 9 eH, cL 7 eN]]) (fun x => x.1 ≤ H.length ∧ x.2 = (x.1 : Int)) (fun x => H.length - x.1) (fun t => t) (0, 0) (fun t => t) ⟨by rfl, by cbv; try (repeat (first | exact rfl | exact trivial | refine ⟨?_, ?_⟩))⟩ ?_ ?_)
  · exact ⟨by simp, rfl⟩
  rintro ⟨k, i⟩ ⟨hk, hi⟩
  dsimp only at hk hi
  have hadd : ai .add i 1 = ((k + 1 : Nat) : Int) := by rw [F.add i 1 (by omega) (by omega), hi]; simp
  by_cases hlt : k < H.length
  rotate_left
  · have hb : ab .lss i (ln eH) = false := by rw [hlnH, F.lss, hi]; simpa using hlt
    refine sem_of (X := ⟨_, TT, ⟨0, 189, inPl⟩⟩) har' hTT mixed ?_
    intro S1 Cl1 hS1 hC1
    cbv
    rw [hb]; cbv
    exact PLe.refl _
  have hb : ab .lss i (ln eH) = true := by rw [hlnH, F.lss, hi]; simpa using hlt
  have hg : ix eH i = some (rowP H[k]) := by rw [F.ix _ i k hi, ← hH]; exact get_rows hlt
  have hm : H[k] ∈ H := List.getElem_mem hlt
  have hh9 := m.h _ hm
  have k6 : 0 ≤ H[k].getD 6 0 ∧ H[k].getD 6 0 ≤ 40 := by
    obtain ⟨j, n, _, _, e⟩ := m.hm _ hm
    rw [e]
    show 0 ≤ n.getD 4 0 % 40 ∧ n.getD 4 0 % 40 ≤ 40
    omega
  obtain ⟨h, hh⟩ : ∃ h, H[k] = h := ⟨_, rfl⟩
  have nS := kS _ hm
  have nI := kI _ hm
  have nE := kE _ hm
  have nL := kL _ hm
  clear kS kI kE kL
  rw [hh] at hg hh9 k6 nS nI nE nL
  clear hm hh
  obtain ⟨ow, st, en, dy, hl⟩ : ∃ a b c e, lotN T N h d = [a, b, c, e] := ⟨_, _, _, _, rfl⟩
  obtain ⟨w1, w2, w3, w4, w5⟩ := ends_law k6.1 hl
  have cLx := uL (h.getD 0 0)
  have cCx := uC (h.getD 0 0)
  have cFx := uF (h.getD 0 0)
  unfold lotR at cLx
  obtain ⟨c0, c1, c2, hcg⟩ : ∃ a b c, chgN T N h d = [a, b, c] := by
    unfold chgN; split <;> exact ⟨_, _, _, rfl⟩
  rw [hcg] at w4
  rw [hl] at nI nE
  generalize cntH d h = cn at *
  obtain ⟨x0, x1, x2, x3, x4, x5, x6, x7, x8, rfl⟩ := list9 hh9
  simp only [List.getD_cons_zero, List.getD_cons_succ] at k6 nS nI nE nL w2 w3 w4 w5 cLx cCx cFx
  have cLx : cn = true → _ := fun hc => by
    have := cLx
    rw [nL hc] at this
    simp only [stR, if_pos, hl] at this
    exact this
  have cCx : cn = true → _ := fun hc => by
    have := cCx
    rw [nL hc] at this
    simp only [stR, if_pos, hcg] at this
    exact this
  obtain ⟨fd, hfd⟩ : ∃ fd, max (lasN [ow, st, en, dy] d - x6 + 1) 0 = fd := ⟨_, rfl⟩
  rw [hfd] at w2
  have cFx : cn = true → _ := fun hc => by
    have := cFx
    rw [nL hc] at this
    simp only [stR, if_pos, feN, hl, List.getD_cons_zero, List.getD_cons_succ, hfd] at this
    exact this
  have cSx := cHS x0
  have cIx := cHI x0
  have cEx := fun w => cHE w x0
  rw [nS] at cSx
  rw [nI] at cIx
  clear uL uC uF cHS cHI cHE nS nI nL hl hcg hfd
  cases cn
  · simp only [Bool.false_and] at cIx
    refine sem_of (X := ⟨_, TT, ⟨0, 189, inPl⟩⟩) har' hTT mixed ?_
    intro S1 Cl1 hS1 hC1
    cbv
    rw [hb]; cbv
    repeat (rw [hg]; cbv)
    refine ⟨_, hC1 _ _ _ cSx, ?_⟩; cbv
    rw [t1]; cbv
    refine ⟨_, hC1 _ _ _ cIx, ?_⟩; cbv
    exact ⟨(k + 1, ai .add i 1), ⟨hlt, hadd⟩, by dsimp only; omega, ⟨by rfl, by cbv; try (repeat (first | exact rfl | exact trivial | refine ⟨?_, ?_⟩))⟩⟩
  simp only [Bool.true_and] at cIx
  have cLx := cLx rfl
  have cCx := cCx rfl
  have cFx := cFx rfl
  have nE := nE rfl
  have cEx : ∀ w, 0 ≤ w ∧ w ≤ 4 → Does Tryz.prog 55 [.list 1 (eE w), .int .i64 x0] (.bool (en == w)) := fun w hw => by
    have := cEx w
    rw [nE w hw] at this; exact this
  have uE : ∀ w, 0 ≤ w ∧ w ≤ 4 → Does Tryz.prog 49 [.agg [.list 24 eT, .list 9 eH, .list 7 eN], .int .i64 w, .int .i64 d] (.tup [.list 1 (eE w), .int .i64 0]) := fun w hw => by
    have := uE w
    rw [kT w hw] at this; exact this
  clear nE kT
  obtain ⟨ib, hib⟩ : ∃ b, (decide (x6 ≤ d) && en == 0) = b := ⟨_, rfl⟩
  rw [hib] at cIx
  refine sem_of (X := ⟨_, TT, ⟨0, 189, inPl⟩⟩) har' hTT mixed ?_
  intro S1 Cl1 hS1 hC1
  cbv
  rw [hb]; cbv
  repeat (rw [hg]; cbv)
  refine ⟨_, hC1 _ _ _ cSx, ?_⟩; cbv
  rw [t2]; cbv
  refine hS1 _ _ _ (sem_loop (fun y : Nat × Int × Int => [sP 6 6, sI 7 d, sL 8 1 eI, sL 10 1 eS, sI 12 i, sP 13 13, sI 14 y.2.2, sI 15 y.2.1, bX 6 26 [cL 24 eT, cL 9 eH, cL 7 eN], bX 13 32 [cI x0, cI x1, cI x2, cI x3, cI x4, cI x5, cI x6, cI x7, cI x8]]) (fun y => y.1 ≤ 4 ∧ y.2.1 = (y.1 : Int) + 1 ∧ y.2.2 = (if 1 ≤ en ∧ en ≤ (y.1 : Int) then 1 else 0)) (fun y => 4 - y.1) (fun t => t) (0, 1, 0) (fun t => t) ⟨by rfl, by cbv; try (repeat (first | exact rfl | exact trivial | refine ⟨?_, ?_⟩))⟩ ?_ ?_)
  · exact ⟨by simp, rfl, by dsimp only; rw [if_neg (by omega)]⟩
  rintro ⟨j, w, c⟩ ⟨hj, hw, hc⟩
  dsimp only at hj hw hc
  have hwadd : ai .add w 1 = ((j + 1 : Nat) : Int) + 1 := by rw [F.add w 1 (by omega) (by omega), hw]; simp
  have hcadd : ai .add c 1 = c + 1 := F.add c 1 (by split at hc <;> omega) (by split at hc <;> omega)
  by_cases hj4 : j < 4
  · have hb4 : ab .leq w 4 = true := by rw [F.leq]; exact decide_eq_true (by omega)
    have eW := uE w (by omega)
    have hW := cEx w (by omega)
    have n1 : (en == w) = true → ai .add c 1 = (if 1 ≤ en ∧ en ≤ ((j + 1 : Nat) : Int) then 1 else 0) := fun q => by
      have q := eq_of_beq q
      rw [hcadd, if_pos (by omega)]; rw [if_neg (by omega)] at hc; omega
    have n2 : (en == w) = false → c = (if 1 ≤ en ∧ en ≤ ((j + 1 : Nat) : Int) then 1 else 0) := fun q => by
      have q : en ≠ w := by simpa using q
      rw [hc]
      by_cases h1 : 1 ≤ en ∧ en ≤ (j : Int)
      · rw [if_pos h1, if_pos (by omega)]
      · rw [if_neg h1, if_neg (by omega)]
    generalize (en == w) = bw at *
    refine sem_of (X := ⟨_, TT, ⟨0, 189, inPl⟩⟩) har' hTT mixed ?_
    intro S2 Cl2 hS2 hC2
    cbv
    rw [hb4]; cbv
    refine ⟨_, hC2 _ _ _ eW, ?_⟩; cbv
    rw [z0]; cbv
    refine ⟨_, hC2 _ _ _ hW, ?_⟩; cbv
    cases bw
    · cbv
      exact ⟨(j + 1, ai .add w 1, c), ⟨hj4, hwadd, n2 rfl⟩, by dsimp only; omega, ⟨by rfl, by cbv; try (repeat (first | exact rfl | exact trivial | refine ⟨?_, ?_⟩))⟩⟩
    · cbv
      exact ⟨(j + 1, ai .add w 1, ai .add c 1), ⟨hj4, hwadd, n1 rfl⟩, by dsimp only; omega, ⟨by rfl, by cbv; try (repeat (first | exact rfl | exact trivial | refine ⟨?_, ?_⟩))⟩⟩
  have hb4 : ab .leq w 4 = false := by rw [F.leq, decide_eq_false_iff_not]; omega
  have hjE : j = 4 := by omega
  rw [hjE] at hc
  obtain ⟨M, hM, g1, g2⟩ : ∃ M, (if ib = true then ai .add c 1 else c) = M ∧ M ≤ 1 ∧ (x6 ≤ d → M = 1) := by
    refine ⟨_, rfl, ?_, ?_⟩
    · cases ib
      · simp only [Bool.false_eq_true, if_false]; split at hc <;> omega
      · simp only [if_true]
        rw [hcadd]
        simp only [Bool.and_eq_true, beq_iff_eq, decide_eq_true_eq] at hib
        rw [if_neg (by omega)] at hc; omega
    · intro hx
      cases ib
      · simp only [Bool.false_eq_true, if_false]
        have hne : en ≠ 0 := fun q => by rw [q, decide_eq_true hx] at hib; cases hib
        rw [if_pos (by omega)] at hc; exact hc
      · simp only [if_true]
        rw [hcadd]
        simp only [Bool.and_eq_true, beq_iff_eq, decide_eq_true_eq] at hib
        rw [if_neg (by omega)] at hc; omega
  have r1 : ab .gtr M 1 = false := by rw [F.gtr, decide_eq_false_iff_not]; omega
  have r2 : ab .leq x6 d = true → ab .neq M 1 = false := fun q => by
    rw [F.leq] at q
    rw [F.neq, g2 (of_decide_eq_true q)]; rfl
  have r3 : ab .gtr fd 721 = false := by rw [F.gtr, decide_eq_false_iff_not]; omega
  have a1 : ai .add x6 360 = x6 + 360 := F.add _ _ (by omega) (by omega)
  have a2 : ai .add x6 720 = x6 + 720 := F.add _ _ (by omega) (by omega)
  have ne : ∀ a b : Int, a ≠ b → (a == b) = false := fun a b h => by simpa using h
  have r4 : (ab .eql en 3 = true ∧ ab .geq st 0 = false ∧ ab .eql en 2 = false ∧ ab .eql en 0 = false) ∨ (ab .eql en 3 = true ∧ ab .geq st 0 = true ∧ ab .leq st (ai .add x6 360) = false ∧ ab .eql en 2 = false ∧ ab .eql en 0 = false) ∨
      (ab .eql en 3 = false ∧ ab .eql en 2 = true ∧ ab .gtr x4 c1 = false ∧ ab .eql en 0 = false) ∨ (ab .eql en 3 = false ∧ ab .eql en 2 = false ∧ ab .eql en 0 = true ∧ ab .leq (ai .add x6 720) d = false) ∨ (ab .eql en 3 = false ∧ ab .eql en 2 = false ∧ ab .eql en 0 = false) := by
    simp only [F.eql, F.geq, F.leq, F.gtr, a1, a2]
    by_cases h3 : en = 3
    · rcases w3 h3 with q | q
      · exact .inl ⟨by simpa using h3, decide_eq_false (by omega), ne _ _ (by omega), ne _ _ (by omega)⟩
      · by_cases h5 : st ≥ 0
        · exact .inr (.inl ⟨by simpa using h3, decide_eq_true h5, decide_eq_false (by omega), ne _ _ (by omega), ne _ _ (by omega)⟩)
        · exact .inl ⟨by simpa using h3, decide_eq_false h5, ne _ _ (by omega), ne _ _ (by omega)⟩
    · by_cases h2 : en = 2
      · exact .inr (.inr (.inl ⟨ne _ _ h3, by simpa using h2, decide_eq_false (by have := w4 h2; omega), ne _ _ (by omega)⟩))
      · by_cases h0 : en = 0
        · exact .inr (.inr (.inr (.inl ⟨ne _ _ h3, ne _ _ h2, by simpa using h0, decide_eq_false (by have := w5 h0; omega)⟩)))
        · exact .inr (.inr (.inr (.inr ⟨ne _ _ h3, ne _ _ h2, ne _ _ h0⟩)))
  have m0 : ib = false → c = M := fun q => by rw [← hM, q]; rfl
  have m1 : ib = true → ai .add c 1 = M := fun q => by rw [← hM, q]; rfl
  clear hM g1 g2 hc hcadd w1 w2 w3 w4 w5 a1 a2 ne hib
  refine sem_of (X := ⟨_, TT, ⟨0, 189, inPl⟩⟩) har' hTT mixed ?_
  intro S2 Cl2 hS2 hC2
  cbv
  rw [hb4]; cbv
  refine ⟨_, hC1 _ _ _ cIx, ?_⟩; cbv
  cases ib
  rw [m0 rfl]
  rotate_left
  cbv
  rw [m1 rfl]
  all_goals
    cbv
    refine ⟨_, hC1 _ _ _ cLx, ?_⟩; cbv
    refine ⟨_, hC1 _ _ _ cCx, ?_⟩; cbv
    refine ⟨_, hC1 _ _ _ cFx, ?_⟩; cbv
    repeat (rw [z0]; cbv)
    rw [r1]; cbv
    cases p1 : ab .leq x6 d
    · cbv
      rw [r3]; cbv
      rcases r4 with ⟨s1, s2, s3, s4⟩ | ⟨s1, s2, s3, s4, s5⟩ | ⟨s1, s2, s3, s4⟩ | ⟨s1, s2, s3, s4⟩ | ⟨s1, s2, s3⟩
      · rw [s1]; cbv; rw [s2]; cbv; rw [s3]; cbv; rw [s4]; cbv
        exact ⟨(k + 1, ai .add i 1), ⟨hlt, hadd⟩, by dsimp only; omega, ⟨by rfl, by cbv; try (repeat (first | exact rfl | exact trivial | refine ⟨?_, ?_⟩))⟩⟩
      · rw [s1]; cbv; rw [s2]; cbv; rw [s3]; cbv; rw [s4]; cbv; rw [s5]; cbv
        exact ⟨(k + 1, ai .add i 1), ⟨hlt, hadd⟩, by dsimp only; omega, ⟨by rfl, by cbv; try (repeat (first | exact rfl | exact trivial | refine ⟨?_, ?_⟩))⟩⟩
      · rw [s1]; cbv; rw [s2]; cbv; rw [s3]; cbv; rw [s4]; cbv
        exact ⟨(k + 1, ai .add i 1), ⟨hlt, hadd⟩, by dsimp only; omega, ⟨by rfl, by cbv; try (repeat (first | exact rfl | exact trivial | refine ⟨?_, ?_⟩))⟩⟩
      · rw [s1]; cbv; rw [s2]; cbv; rw [s3]; cbv; rw [s4]; cbv
        exact ⟨(k + 1, ai .add i 1), ⟨hlt, hadd⟩, by dsimp only; omega, ⟨by rfl, by cbv; try (repeat (first | exact rfl | exact trivial | refine ⟨?_, ?_⟩))⟩⟩
      · rw [s1]; cbv; rw [s2]; cbv; rw [s3]; cbv
        exact ⟨(k + 1, ai .add i 1), ⟨hlt, hadd⟩, by dsimp only; omega, ⟨by rfl, by cbv; try (repeat (first | exact rfl | exact trivial | refine ⟨?_, ?_⟩))⟩⟩
    · have r2 := r2 p1
      cbv
      rw [r2]; cbv
      rw [r3]; cbv
      rcases r4 with ⟨s1, s2, s3, s4⟩ | ⟨s1, s2, s3, s4, s5⟩ | ⟨s1, s2, s3, s4⟩ | ⟨s1, s2, s3, s4⟩ | ⟨s1, s2, s3⟩
      · rw [s1]; cbv; rw [s2]; cbv; rw [s3]; cbv; rw [s4]; cbv
        exact ⟨(k + 1, ai .add i 1), ⟨hlt, hadd⟩, by dsimp only; omega, ⟨by rfl, by cbv; try (repeat (first | exact rfl | exact trivial | refine ⟨?_, ?_⟩))⟩⟩
      · rw [s1]; cbv; rw [s2]; cbv; rw [s3]; cbv; rw [s4]; cbv; rw [s5]; cbv
        exact ⟨(k + 1, ai .add i 1), ⟨hlt, hadd⟩, by dsimp only; omega, ⟨by rfl, by cbv; try (repeat (first | exact rfl | exact trivial | refine ⟨?_, ?_⟩))⟩⟩
      · rw [s1]; cbv; rw [s2]; cbv; rw [s3]; cbv; rw [s4]; cbv
        exact ⟨(k + 1, ai .add i 1), ⟨hlt, hadd⟩, by dsimp only; omega, ⟨by rfl, by cbv; try (repeat (first | exact rfl | exact trivial | refine ⟨?_, ?_⟩))⟩⟩
      · rw [s1]; cbv; rw [s2]; cbv; rw [s3]; cbv; rw [s4]; cbv
        exact ⟨(k + 1, ai .add i 1), ⟨hlt, hadd⟩, by dsimp only; omega, ⟨by rfl, by cbv; try (repeat (first | exact rfl | exact trivial | refine ⟨?_, ?_⟩))⟩⟩
      · rw [s1]; cbv; rw [s2]; cbv; rw [s3]; cbv
        exact ⟨(k + 1, ai .add i 1), ⟨hlt, hadd⟩, by dsimp only; omega, ⟨by rfl, by cbv; try (repeat (first | exact rfl | exact trivial | refine ⟨?_, ?_⟩))⟩⟩
end Go.Proofs.YtjimjdhdnkhfnaaGreat
