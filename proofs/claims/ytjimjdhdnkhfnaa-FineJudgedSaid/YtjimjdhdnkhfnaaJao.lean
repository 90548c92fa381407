/- Contracts of functions of the program and of the reference, a calculus of states, and plain facts: a part of a proof. Own text. -/
import Derived.Test.YtjimjdhdnkhfnaaJae
import Derived.Test.YtjimjdhdnkhfnaaJal
import Derived.Test.YtjimjdhdnkhfnaaJan
set_option linter.unusedVariables false
set_option linter.unusedSimpArgs false
set_option linter.unusedSectionVars false
set_option linter.unnecessarySimpa false
namespace Go.Proofs.Ytjimjdhdnkhfnaa
open Go Go.RowKit
set_option maxRecDepth 100000
set_option maxHeartbeats 4000000
def wayN (fr wo : Int) (un : Bool) (d0 d e : Int) : Int :=
  if d = fr then 1 else if wo ≠ 0 ∧ wo ≤ e then 2 else if un = true ∧ d - d0 = 361 then 3 else if d - d0 = 720 then 4 else 0
def endG (f : Int → Int) (fr wo : Int) (un : Bool) (d0 : Int) : Nat → Int → Int → Int × Int
  | 0, _, _ => (0, -1)
  | n + 1, d, acc => if wayN fr wo un d0 d (acc + f d) = 0 then endG f fr wo un d0 n (d + 1) (acc + f d) else (wayN fr wo un d0 d (acc + f d), d)
def unB (stop d0 : Int) : Bool := decide (stop = -1) || decide (d0 + 361 ≤ stop)
def endQ (T N : List (List Int)) (h : List Int) (kn : Int) (lt : List Int) : Int × Int :=
  endG (feedD T (h.getD 3 0)) (firN [2] N) (h.getD 4 0) (unB (lt.getD 1 0) (h.getD 6 0)) (h.getD 6 0) (kn - h.getD 6 0 + 1).toNat (h.getD 6 0) 0
theorem way_first (r1 r2 r3 r4 : Bool) (W : Int) (hW : W = if r1 = true then 1 else if r2 = true then 2 else if r3 = true then 3 else if r4 = true then 4 else 0) :
    (∀ k, k < 5 → (∀ j, j < k → [false, r1, r2, r3, r4].getD j false = false) → [false, r1, r2, r3, r4].getD k false = true → W = (k : Int)) ∧ ((∀ j, j < 5 → [false, r1, r2, r3, r4].getD j false = false) → W = 0) := by
  have key : ∀ r1 r2 r3 r4 : Bool, (∀ k, k < 5 → (∀ j, j < k → [false, r1, r2, r3, r4].getD j false = false) → [false, r1, r2, r3, r4].getD k false = true → (if r1 = true then 1 else if r2 = true then 2 else if r3 = true then 3 else if r4 = true then 4 else 0 : Int) = (k : Int)) ∧
      ((∀ j, j < 5 → [false, r1, r2, r3, r4].getD j false = false) → (if r1 = true then 1 else if r2 = true then 2 else if r3 = true then 3 else if r4 = true then 4 else 0 : Int) = 0) := by decide
  rw [hW]; exact key r1 r2 r3 r4
theorem end_does {T N : List (List Int)} (h1 : ∀ x ∈ T, x.length = 24) (h3 : ∀ x ∈ N, x.length = 7) (hok : ∀ x ∈ T, tarOk x = true) {h lt : List Int} {kn : Int} (hh : h.length = 9) (hhk : heldOk h = true) (hl : lt.length = 4) (hst : -1 ≤ lt.getD 1 0 ∧ lt.getD 1 0 ≤ 1000000)
    (hkn : 0 ≤ kn ∧ kn ≤ 100000) : Does Try.prog 68 [toldP h T N kn lt] (.tup [.int .i64 (endQ T N h kn lt).1, .int .i64 (endQ T N h kn lt).2]) := by
  generalize hR : PV.tup [.int .i64 (endQ T N h kn lt).1, .int .i64 (endQ T N h kn lt).2] = R
  refine does_of (own := inPl) Try.func68 rfl Try.ntmps68 (congrArg Array.toList Try.results68) (fun us w => Try.call68 us w) hTT mixed (Nat.le_of_ble_eq_true rfl) ?_
  intro w0 im0 D0 S Cl hS hC ar har
  have har' := har
  obtain ⟨ai, ab, nz, inr, fi, pk, ix, ln, sb, eqi, sl, fits, mn, mx, nt, be, up, fu, mg, mh, ms⟩ := ar
  have F := facts_of har
  clear har
  obtain ⟨b2, b3, b4, b5, b6⟩ := heldOk_bounds hhk
  have hfs := first_does (kn := kn) (lt := lt) hh h1 h3 hl [2]
  have hfd := fun d => feed_does (kn := kn) (lt := lt) hh h1 h3 hl hok b3 d
  have hfin := feedD_in hok b3
  have hDF := daysFrom_does (h.getD 6 0) kn
  have hR2 : R = PV.tup [.int .i64 (endQ T N h kn lt).1, .int .i64 (endQ T N h kn lt).2] := hR.symm
  unfold endQ at hR2
  clear hR
  generalize firN [2] N = fr at *
  obtain ⟨f, hf⟩ : ∃ f, feedD T (h.getD 3 0) = f := ⟨_, rfl⟩
  have hfd : ∀ d, Does Try.prog 38 [toldP h T N kn lt, .int .i64 d] (.int .i64 (f d)) := fun d => by rw [← hf]; exact hfd d
  rw [hf] at hR2 hfin
  clear hf
  obtain ⟨l0, l1, l2, l3, rfl⟩ := list4 hl
  obtain ⟨a, b, c, e, wo, g, d0, j, k, rfl⟩ := list9 hh
  simp only [List.getD_cons_succ, List.getD_cons_zero] at b2 hR2 hst b4 b6 hDF
  obtain ⟨M, hM⟩ : ∃ M, (kn - d0 + 1).toNat = M := ⟨_, rfl⟩
  rw [hM] at hR2
  obtain ⟨un, hun⟩ : ∃ un, unB l1 d0 = un := ⟨_, rfl⟩
  have hun2 : (if ab .eql l1 (-1) = true then true else ab .geq l1 (ai .add d0 361)) = un := by
    rw [F.add d0 361 (by omega) (by omega), F.eql, F.geq, ← hun]; unfold unB
    by_cases h8 : l1 = -1
    · simp [h8]
    · simp [h8]
  rw [hun] at hR2
  have hlen : (dayP d0 kn).length = M := by rw [← hM]; simp [dayP, dayL, dayK]
  have hget : ∀ q x, (dayP d0 kn)[q]? = some x → q < M ∧ x = [PV.int .i64 (d0 + (q : Int))] := fun q x hx => by
    have hq : q < (dayP d0 kn).length := (List.getElem?_eq_some_iff.1 hx).1
    rw [hlen] at hq
    refine ⟨hq, ?_⟩
    have : (dayP d0 kn)[q]? = some [PV.int .i64 (d0 + (q : Int))] := by
      rw [← hM] at hq
      simp [dayP, dayL, dayK, hq]
    rw [this] at hx; exact (Option.some.inj hx).symm
  have hYd := days_yields d0 kn (by omega) (by omega)
  generalize dayP d0 kn = xs at *
  clear hun
  obtain ⟨eT, hT1⟩ : ∃ es, T.map rowP = es := ⟨_, rfl⟩
  obtain ⟨eN, hN1⟩ : ∃ es, N.map rowP = es := ⟨_, rfl⟩
  simp only [toldP, hT1, hN1] at hfs hfd ⊢
  cbv
  refine hS _ _ _ (sem_scope ?_)
  refine sem_of (X := ⟨_, TT, ⟨0, 77, inPl⟩⟩) har' hTT mixed ?_
  intro S1 Cl1 hS1 hC1
  cbv
  refine ⟨_, hC1 _ _ _ hfs, ?_⟩; cbv
  obtain ⟨sm, hsm⟩ : ∃ sm : Nat → Int, sumK f d0 = sm := ⟨_, rfl⟩
  have hsm0 : sm 0 = 0 := by rw [← hsm]; rfl
  have hsm1 : ∀ q, sm (q + 1) = sm q + f (d0 + (q : Int)) := fun q => by rw [← hsm]; exact sumK_succ f d0 q
  have hsmB : ∀ q : Nat, 0 ≤ sm q ∧ sm q ≤ 1000000 * (q : Int) := fun q => by rw [← hsm]; exact sumK_in hfin d0 q
  obtain ⟨Inv, hInv⟩ : ∃ Inv : Nat → Prop, Inv = fun q => endG f fr wo un d0 M d0 0 = endG f fr wo un d0 (M - q) (d0 + (q : Int)) (sm q) := ⟨_, rfl⟩
  have hInv0 : Inv 0 := by rw [hInv]; simp [hsm0]
  have hinvE : ∀ q, Inv q → endG f fr wo un d0 M d0 0 = endG f fr wo un d0 (M - q) (d0 + (q : Int)) (sm q) := fun q h => by rw [hInv] at h; exact h
  have hx1 : ∀ x ∈ xs, x.length = 1 := fun x hx => by
    obtain ⟨q, hq⟩ := List.getElem?_of_mem hx
    rw [(hget q x hq).2]; rfl
  have hadd0 : ∀ q, q < M → ai .add (sm q) (f (d0 + (q : Int))) = sm (q + 1) := fun q hq => by
    rw [hsm1]
    have g1 := hsmB q; have g2 := hfin (d0 + (q : Int))
    have g3 : (q : Int) ≤ 100001 := by omega
    exact F.add _ _ (by omega) (by omega)
  have hsub0 : ∀ q, q < M → ai .sub (d0 + (q : Int)) d0 = d0 + (q : Int) - d0 := fun q hq => F.sub _ _ (by omega) (by omega)
  have hr0 : ∀ q, q < M → ∃ r9, M - q = r9 + 1 ∧ M - (q + 1) = r9 := fun q hq => ⟨M - q - 1, by omega, by omega⟩
  have hd1 : ∀ q : Nat, d0 + ((q + 1 : Nat) : Int) = d0 + (q : Int) + 1 := fun q => by omega
  cases c0 : ab .eql l1 (-1)
  · have hun3 : ab .geq l1 (ai .add d0 361) = un := by rw [c0] at hun2; simpa using hun2
    cbv
    rw [hun3]
    refine ⟨_, hC1 _ _ _ hDF, ?_⟩; cbv
    refine hS1 _ _ _ (sem_range (X := ⟨⟨ai, ab, nz, inr, fi, pk, ix, ln, sb, eqi, sl, fits, mn, mx, nt, be, up, fu, mg, mh, ms⟩, TT, ⟨11, 77, inPl⟩⟩) 36 11 84 [.ptr [.int .i64 d0], .ptr [.int .i64 kn]] xs
      (fun q => [sP 1 1, sP 4 4, sP 6 6, sP 7 7, sP 8 8, sP 9 9, sP 10 10, bX 1 73 [cI a, cI b, cI c, cI e, cI wo, cI g, cI d0, cI j, cI k, cL 24 eT, cL 7 eN, cI kn, cI l0, cI l1, cI l2, cI l3], bX 4 35 [cI a, cI b, cI c, cI e, cI wo, cI g, cI d0, cI j, cI k], bX 6 3 [cI fr], bX 7 4 [.p (.bool un)], bX 8 3 [cI (sm q)], bX 9 3 [cI 0], bX 10 3 [cI (-1)]])
      Inv (fun t => t) har' hTT mixed rfl (by decide) rfl (by rfl) hYd hx1 (by decide) (by rfl) (fun q => by rfl) ⟨by rfl, by rw [hsm0]; cbv; try (repeat (first | exact rfl | exact trivial | refine ⟨?_, ?_⟩))⟩ hInv0 ?_ ?_)
    · intro q x hx hinv D1 l S2 S3 Cl2 hS2 hS3 hC2
      obtain ⟨hqM, rfl⟩ := hget q x hx
      have hq1 := hsm1 q
      have hq2 := hinvE q hinv
      obtain ⟨day, hday⟩ : ∃ day, d0 + (q : Int) = day := ⟨_, rfl⟩
      rw [hday] at hq1 hq2 ⊢
      obtain ⟨s', hs'⟩ : ∃ s', sm (q + 1) = s' := ⟨_, rfl⟩
      have hadd : ai .add (sm q) (f day) = s' := by rw [← hs', ← hday]; exact hadd0 q hqM
      have hsub : ai .sub day d0 = day - d0 := by rw [← hday]; exact hsub0 q hqM
      obtain ⟨W, hWd⟩ : ∃ W, W = wayN fr wo un d0 day s' := ⟨_, rfl⟩
      obtain ⟨r9, hr9, hr8⟩ := hr0 q hqM
      have hE : endG f fr wo un d0 M d0 0 = if W = 0 then endG f fr wo un d0 r9 (day + 1) s' else (W, day) := by
        rw [hq2, hr9, endG, ← hq1, hs', ← hWd]
      have hInvN : W = 0 → Inv (q + 1) := fun h => by
        rw [hInv]
        show endG f fr wo un d0 M d0 0 = endG f fr wo un d0 (M - (q + 1)) (d0 + ((q + 1 : Nat) : Int)) (sm (q + 1))
        rw [hE, if_pos h, hr8, hd1, hday, hs']
      have hRq : R = PV.tup [.int .i64 (if W = 0 then endG f fr wo un d0 r9 (day + 1) s' else (W, day)).1, .int .i64 (if W = 0 then endG f fr wo un d0 r9 (day + 1) s' else (W, day)).2] := by rw [hR2, hE]
      unfold wayN at hWd
      cbv
      refine ⟨_, hC2 _ _ _ (hfd day), ?_⟩; cbv
      rw [hadd]
      cases cw : ab .neq wo 0
      · cbv
        have hw0 : wo = 0 := by rw [F.neq] at cw; simpa using cw
        cases hu9 : un
        · subst hu9
          cbv
          have hWf := way_first (ab .eql day fr) (false) (false) (ab .eql (ai .sub day d0) 720) W (by rw [hWd]; simp only [F.eql, F.geq, hsub]; simp [hw0])
          obtain ⟨r1, hr1⟩ : ∃ b, ab .eql day fr = b := ⟨_, rfl⟩
          obtain ⟨r4, hr4⟩ : ∃ b, ab .eql (ai .sub day d0) 720 = b := ⟨_, rfl⟩
          rw [hr1, hr4] at hWf
          obtain ⟨B, hB⟩ : ∃ B : List Bool, [false, r1, false, false, r4] = B := ⟨_, rfl⟩
          rw [hB] at hWf
          rw [hr1, hr4]
          refine hS3 _ _ _ (fun D2 => ?_)
          refine (sem_loopR (fun x : Nat × Int => [sP 1 1, sP 4 4, sP 6 6, sP 7 7, sP 8 8, sP 9 9, sP 10 10, bX 1 73 [cI a, cI b, cI c, cI e, cI wo, cI g, cI d0, cI j, cI k, cL 24 eT, cL 7 eN, cI kn, cI l0, cI l1, cI l2, cI l3], bX 4 35 [cI a, cI b, cI c, cI e, cI wo, cI g, cI d0, cI j, cI k], bX 6 3 [cI fr], bX 7 4 [.p (.bool false)], bX 8 3 [cI s'], bX 9 3 [cI 0], bX 10 3 [cI (-1)], sI 11 day, (kT 66, .t (.agg [.p (.bool false), .p (.bool r1), .p (.bool false), .p (.bool false), .p (.bool r4)])), sI 67 x.2]) (fun x => x.1 ≤ 5 ∧ x.2 = (x.1 : Int) ∧ ∀ j, j < x.1 → B.getD j false = false) (fun x => 5 - x.1) (0, 0) (fun t => t) ⟨by rfl, by cbv; try (repeat (first | exact rfl | exact trivial | refine ⟨?_, ?_⟩))⟩ ?_ ?_)
          · exact ⟨by simp, rfl, fun j hj => absurd hj (Nat.not_lt_zero j)⟩
          rintro ⟨k9, i9⟩ ⟨hk9, hi9, hpre⟩
          dsimp only at hk9 hi9 hpre
          have hadd9 : ai .add i9 1 = ((k9 + 1 : Nat) : Int) := by rw [F.add i9 1 (by omega) (by omega), hi9]; simp
          have hl9t : k9 < 5 → ab .lss i9 5 = true := fun h => by rw [F.lss, hi9]; simp; omega
          have hl9f : ¬ k9 < 5 → ab .lss i9 5 = false := fun h => by rw [F.lss, hi9]; simp; omega
          have hin9 : k9 < 5 → inr 5 i9 = true := fun h => F.inr 5 i9 (by omega) (by omega)
          have hW9 : k9 ≠ 0 → ¬ (k9 : Int) = 0 := fun h => by omega
          have h59 : ¬ k9 < 5 → ∀ j, j < 5 → j < k9 := fun h j hj => by omega
          have h49 : k9 < 5 → k9 + 1 ≤ 5 := fun h => h
          refine sem_of (X := ⟨_, TT, ⟨11, 77, inPl⟩⟩) har' hTT mixed ?_
          intro S4 Cl4 hS4 hC4
          cbv
          by_cases hlt : k9 < 5
          · obtain ⟨bk, hbk, hbk2⟩ : ∃ bk : Bool, pk [.p (.bool false), .p (.bool r1), .p (.bool false), .p (.bool false), .p (.bool r4)] i9 = some (.p (.bool bk)) ∧ B.getD k9 false = bk := by
              rw [F.pk _ i9 k9 hi9, ← hB]
              match k9, hlt with
              | 0, _ | 1, _ | 2, _ | 3, _ | 4, _ => exact ⟨_, rfl, rfl⟩
            rw [hl9t hlt]; cbv
            rw [hin9 hlt]; cbv
            rw [hbk]; cbv
            cases bk
            · cbv
              exact ⟨(k9 + 1, ai .add i9 1), (fun t => t), ⟨h49 hlt, hadd9, fun j hj => (Nat.lt_or_ge j k9).elim (hpre j) fun h => (show j = k9 by omega) ▸ hbk2⟩, by dsimp only; omega, ⟨by rfl, by cbv; try (repeat (first | exact rfl | exact trivial | refine ⟨?_, ?_⟩))⟩⟩
            · cbv
              have hWk := hWf.1 k9 hlt hpre hbk2
              have hk0 : k9 ≠ 0 := by rintro rfl; rw [← hB] at hbk2; simp at hbk2
              refine ⟨fun t => t, [sP 1 1, sP 4 4, sP 6 6, sP 7 7, sP 8 8, sP 9 9, sP 10 10, bX 1 73 [cI a, cI b, cI c, cI e, cI wo, cI g, cI d0, cI j, cI k, cL 24 eT, cL 7 eN, cI kn, cI l0, cI l1, cI l2, cI l3], bX 4 35 [cI a, cI b, cI c, cI e, cI wo, cI g, cI d0, cI j, cI k], bX 6 3 [cI fr], bX 7 4 [.p (.bool false)], bX 8 3 [cI s'], bX 9 3 [cI i9], bX 10 3 [cI day]], ⟨by rfl, by cbv; try (repeat (first | exact rfl | exact trivial | refine ⟨?_, ?_⟩))⟩, by rfl, ?_⟩
              cbv
              refine PLe.of_eq ?_
              rw [hRq, if_neg (by rw [hWk]; exact hW9 hk0), hWk, hi9]
          · rw [hl9f hlt]; cbv
            have hW0 := hWf.2 (fun j hj => hpre j (h59 hlt j hj))
            exact ⟨hInvN hW0, fun t => t, ⟨by rfl, by rw [hs']; cbv; try (repeat (first | exact rfl | exact trivial | refine ⟨?_, ?_⟩))⟩⟩
        · subst hu9
          cbv
          have hWf := way_first (ab .eql day fr) (false) (ab .eql (ai .sub day d0) 361) (ab .eql (ai .sub day d0) 720) W (by rw [hWd]; simp only [F.eql, F.geq, hsub]; simp [hw0])
          obtain ⟨r1, hr1⟩ : ∃ b, ab .eql day fr = b := ⟨_, rfl⟩
          obtain ⟨r4, hr4⟩ : ∃ b, ab .eql (ai .sub day d0) 720 = b := ⟨_, rfl⟩
          obtain ⟨r3, hr3⟩ : ∃ b, ab .eql (ai .sub day d0) 361 = b := ⟨_, rfl⟩
          rw [hr1, hr4, hr3] at hWf
          obtain ⟨B, hB⟩ : ∃ B : List Bool, [false, r1, false, r3, r4] = B := ⟨_, rfl⟩
          rw [hB] at hWf
          rw [hr1, hr4, hr3]
          refine hS3 _ _ _ (fun D2 => ?_)
          refine (sem_loopR (fun x : Nat × Int => [sP 1 1, sP 4 4, sP 6 6, sP 7 7, sP 8 8, sP 9 9, sP 10 10, bX 1 73 [cI a, cI b, cI c, cI e, cI wo, cI g, cI d0, cI j, cI k, cL 24 eT, cL 7 eN, cI kn, cI l0, cI l1, cI l2, cI l3], bX 4 35 [cI a, cI b, cI c, cI e, cI wo, cI g, cI d0, cI j, cI k], bX 6 3 [cI fr], bX 7 4 [.p (.bool true)], bX 8 3 [cI s'], bX 9 3 [cI 0], bX 10 3 [cI (-1)], sI 11 day, (kT 66, .t (.agg [.p (.bool false), .p (.bool r1), .p (.bool false), .p (.bool r3), .p (.bool r4)])), sI 67 x.2]) (fun x => x.1 ≤ 5 ∧ x.2 = (x.1 : Int) ∧ ∀ j, j < x.1 → B.getD j false = false) (fun x => 5 - x.1) (0, 0) (fun t => t) ⟨by rfl, by cbv; try (repeat (first | exact rfl | exact trivial | refine ⟨?_, ?_⟩))⟩ ?_ ?_)
          · exact ⟨by simp, rfl, fun j hj => absurd hj (Nat.not_lt_zero j)⟩
          rintro ⟨k9, i9⟩ ⟨hk9, hi9, hpre⟩
          dsimp only at hk9 hi9 hpre
          have hadd9 : ai .add i9 1 = ((k9 + 1 : Nat) : Int) := by rw [F.add i9 1 (by omega) (by omega), hi9]; simp
          have hl9t : k9 < 5 → ab .lss i9 5 = true := fun h => by rw [F.lss, hi9]; simp; omega
          have hl9f : ¬ k9 < 5 → ab .lss i9 5 = false := fun h => by rw [F.lss, hi9]; simp; omega
          have hin9 : k9 < 5 → inr 5 i9 = true := fun h => F.inr 5 i9 (by omega) (by omega)
          have hW9 : k9 ≠ 0 → ¬ (k9 : Int) = 0 := fun h => by omega
          have h59 : ¬ k9 < 5 → ∀ j, j < 5 → j < k9 := fun h j hj => by omega
          have h49 : k9 < 5 → k9 + 1 ≤ 5 := fun h => h
          refine sem_of (X := ⟨_, TT, ⟨11, 77, inPl⟩⟩) har' hTT mixed ?_
          intro S4 Cl4 hS4 hC4
          cbv
          by_cases hlt : k9 < 5
          · obtain ⟨bk, hbk, hbk2⟩ : ∃ bk : Bool, pk [.p (.bool false), .p (.bool r1), .p (.bool false), .p (.bool r3), .p (.bool r4)] i9 = some (.p (.bool bk)) ∧ B.getD k9 false = bk := by
              rw [F.pk _ i9 k9 hi9, ← hB]
              match k9, hlt with
              | 0, _ | 1, _ | 2, _ | 3, _ | 4, _ => exact ⟨_, rfl, rfl⟩
            rw [hl9t hlt]; cbv
            rw [hin9 hlt]; cbv
            rw [hbk]; cbv
            cases bk
            · cbv
              exact ⟨(k9 + 1, ai .add i9 1), (fun t => t), ⟨h49 hlt, hadd9, fun j hj => (Nat.lt_or_ge j k9).elim (hpre j) fun h => (show j = k9 by omega) ▸ hbk2⟩, by dsimp only; omega, ⟨by rfl, by cbv; try (repeat (first | exact rfl | exact trivial | refine ⟨?_, ?_⟩))⟩⟩
            · cbv
              have hWk := hWf.1 k9 hlt hpre hbk2
              have hk0 : k9 ≠ 0 := by rintro rfl; rw [← hB] at hbk2; simp at hbk2
              refine ⟨fun t => t, [sP 1 1, sP 4 4, sP 6 6, sP 7 7, sP 8 8, sP 9 9, sP 10 10, bX 1 73 [cI a, cI b, cI c, cI e, cI wo, cI g, cI d0, cI j, cI k, cL 24 eT, cL 7 eN, cI kn, cI l0, cI l1, cI l2, cI l3], bX 4 35 [cI a, cI b, cI c, cI e, cI wo, cI g, cI d0, cI j, cI k], bX 6 3 [cI fr], bX 7 4 [.p (.bool true)], bX 8 3 [cI s'], bX 9 3 [cI i9], bX 10 3 [cI day]], ⟨by rfl, by cbv; try (repeat (first | exact rfl | exact trivial | refine ⟨?_, ?_⟩))⟩, by rfl, ?_⟩
              cbv
              refine PLe.of_eq ?_
              rw [hRq, if_neg (by rw [hWk]; exact hW9 hk0), hWk, hi9]
          · rw [hl9f hlt]; cbv
            have hW0 := hWf.2 (fun j hj => hpre j (h59 hlt j hj))
            exact ⟨hInvN hW0, fun t => t, ⟨by rfl, by rw [hs']; cbv; try (repeat (first | exact rfl | exact trivial | refine ⟨?_, ?_⟩))⟩⟩
      · cbv
        have hw0 : wo ≠ 0 := by rw [F.neq] at cw; simpa using cw
        cases hu9 : un
        · subst hu9
          cbv
          have hWf := way_first (ab .eql day fr) (ab .geq s' wo) (false) (ab .eql (ai .sub day d0) 720) W (by rw [hWd]; simp only [F.eql, F.geq, hsub]; simp [hw0])
          obtain ⟨r1, hr1⟩ : ∃ b, ab .eql day fr = b := ⟨_, rfl⟩
          obtain ⟨r4, hr4⟩ : ∃ b, ab .eql (ai .sub day d0) 720 = b := ⟨_, rfl⟩
          obtain ⟨r2, hr2⟩ : ∃ b, ab .geq s' wo = b := ⟨_, rfl⟩
          rw [hr1, hr4, hr2] at hWf
          obtain ⟨B, hB⟩ : ∃ B : List Bool, [false, r1, r2, false, r4] = B := ⟨_, rfl⟩
          rw [hB] at hWf
          rw [hr1, hr4, hr2]
          refine hS3 _ _ _ (fun D2 => ?_)
          refine (sem_loopR (fun x : Nat × Int => [sP 1 1, sP 4 4, sP 6 6, sP 7 7, sP 8 8, sP 9 9, sP 10 10, bX 1 73 [cI a, cI b, cI c, cI e, cI wo, cI g, cI d0, cI j, cI k, cL 24 eT, cL 7 eN, cI kn, cI l0, cI l1, cI l2, cI l3], bX 4 35 [cI a, cI b, cI c, cI e, cI wo, cI g, cI d0, cI j, cI k], bX 6 3 [cI fr], bX 7 4 [.p (.bool false)], bX 8 3 [cI s'], bX 9 3 [cI 0], bX 10 3 [cI (-1)], sI 11 day, (kT 66, .t (.agg [.p (.bool false), .p (.bool r1), .p (.bool r2), .p (.bool false), .p (.bool r4)])), sI 67 x.2]) (fun x => x.1 ≤ 5 ∧ x.2 = (x.1 : Int) ∧ ∀ j, j < x.1 → B.getD j false = false) (fun x => 5 - x.1) (0, 0) (fun t => t) ⟨by rfl, by cbv; try (repeat (first | exact rfl | exact trivial | refine ⟨?_, ?_⟩))⟩ ?_ ?_)
          · exact ⟨by simp, rfl, fun j hj => absurd hj (Nat.not_lt_zero j)⟩
          rintro ⟨k9, i9⟩ ⟨hk9, hi9, hpre⟩
          dsimp only at hk9 hi9 hpre
          have hadd9 : ai .add i9 1 = ((k9 + 1 : Nat) : Int) := by rw [F.add i9 1 (by omega) (by omega), hi9]; simp
          have hl9t : k9 < 5 → ab .lss i9 5 = true := fun h => by rw [F.lss, hi9]; simp; omega
          have hl9f : ¬ k9 < 5 → ab .lss i9 5 = false := fun h => by rw [F.lss, hi9]; simp; omega
          have hin9 : k9 < 5 → inr 5 i9 = true := fun h => F.inr 5 i9 (by omega) (by omega)
          have hW9 : k9 ≠ 0 → ¬ (k9 : Int) = 0 := fun h => by omega
          have h59 : ¬ k9 < 5 → ∀ j, j < 5 → j < k9 := fun h j hj => by omega
          have h49 : k9 < 5 → k9 + 1 ≤ 5 := fun h => h
          refine sem_of (X := ⟨_, TT, ⟨11, 77, inPl⟩⟩) har' hTT mixed ?_
          intro S4 Cl4 hS4 hC4
          cbv
          by_cases hlt : k9 < 5
          · obtain ⟨bk, hbk, hbk2⟩ : ∃ bk : Bool, pk [.p (.bool false), .p (.bool r1), .p (.bool r2), .p (.bool false), .p (.bool r4)] i9 = some (.p (.bool bk)) ∧ B.getD k9 false = bk := by
              rw [F.pk _ i9 k9 hi9, ← hB]
              match k9, hlt with
              | 0, _ | 1, _ | 2, _ | 3, _ | 4, _ => exact ⟨_, rfl, rfl⟩
            rw [hl9t hlt]; cbv
            rw [hin9 hlt]; cbv
            rw [hbk]; cbv
            cases bk
            · cbv
              exact ⟨(k9 + 1, ai .add i9 1), (fun t => t), ⟨h49 hlt, hadd9, fun j hj => (Nat.lt_or_ge j k9).elim (hpre j) fun h => (show j = k9 by omega) ▸ hbk2⟩, by dsimp only; omega, ⟨by rfl, by cbv; try (repeat (first | exact rfl | exact trivial | refine ⟨?_, ?_⟩))⟩⟩
            · cbv
              have hWk := hWf.1 k9 hlt hpre hbk2
              have hk0 : k9 ≠ 0 := by rintro rfl; rw [← hB] at hbk2; simp at hbk2
              refine ⟨fun t => t, [sP 1 1, sP 4 4, sP 6 6, sP 7 7, sP 8 8, sP 9 9, sP 10 10, bX 1 73 [cI a, cI b, cI c, cI e, cI wo, cI g, cI d0, cI j, cI k, cL 24 eT, cL 7 eN, cI kn, cI l0, cI l1, cI l2, cI l3], bX 4 35 [cI a, cI b, cI c, cI e, cI wo, cI g, cI d0, cI j, cI k], bX 6 3 [cI fr], bX 7 4 [.p (.bool false)], bX 8 3 [cI s'], bX 9 3 [cI i9], bX 10 3 [cI day]], ⟨by rfl, by cbv; try (repeat (first | exact rfl | exact trivial | refine ⟨?_, ?_⟩))⟩, by rfl, ?_⟩
              cbv
              refine PLe.of_eq ?_
              rw [hRq, if_neg (by rw [hWk]; exact hW9 hk0), hWk, hi9]
          · rw [hl9f hlt]; cbv
            have hW0 := hWf.2 (fun j hj => hpre j (h59 hlt j hj))
            exact ⟨hInvN hW0, fun t => t, ⟨by rfl, by rw [hs']; cbv; try (repeat (first | exact rfl | exact trivial | refine ⟨?_, ?_⟩))⟩⟩
        · subst hu9
          cbv
          have hWf := way_first (ab .eql day fr) (ab .geq s' wo) (ab .eql (ai .sub day d0) 361) (ab .eql (ai .sub day d0) 720) W (by rw [hWd]; simp only [F.eql, F.geq, hsub]; simp [hw0])
          obtain ⟨r1, hr1⟩ : ∃ b, ab .eql day fr = b := ⟨_, rfl⟩
          obtain ⟨r4, hr4⟩ : ∃ b, ab .eql (ai .sub day d0) 720 = b := ⟨_, rfl⟩
          obtain ⟨r2, hr2⟩ : ∃ b, ab .geq s' wo = b := ⟨_, rfl⟩
          obtain ⟨r3, hr3⟩ : ∃ b, ab .eql (ai .sub day d0) 361 = b := ⟨_, rfl⟩
          rw [hr1, hr4, hr2, hr3] at hWf
          obtain ⟨B, hB⟩ : ∃ B : List Bool, [false, r1, r2, r3, r4] = B := ⟨_, rfl⟩
          rw [hB] at hWf
          rw [hr1, hr4, hr2, hr3]
          refine hS3 _ _ _ (fun D2 => ?_)
          refine (sem_loopR (fun x : Nat × Int => [sP 1 1, sP 4 4, sP 6 6, sP 7 7, sP 8 8, sP 9 9, sP 10 10, bX 1 73 [cI a, cI b, cI c, cI e, cI wo, cI g, cI d0, cI j, cI k, cL 24 eT, cL 7 eN, cI kn, cI l0, cI l1, cI l2, cI l3], bX 4 35 [cI a, cI b, cI c, cI e, cI wo, cI g, cI d0, cI j, cI k], bX 6 3 [cI fr], bX 7 4 [.p (.bool true)], bX 8 3 [cI s'], bX 9 3 [cI 0], bX 10 3 [cI (-1)], sI 11 day, (kT 66, .t (.agg [.p (.bool false), .p (.bool r1), .p (.bool r2), .p (.bool r3), .p (.bool r4)])), sI 67 x.2]) (fun x => x.1 ≤ 5 ∧ x.2 = (x.1 : Int) ∧ ∀ j, j < x.1 → B.getD j false = false) (fun x => 5 - x.1) (0, 0) (fun t => t) ⟨by rfl, by cbv; try (repeat (first | exact rfl | exact trivial | refine ⟨?_, ?_⟩))⟩ ?_ ?_)
          · exact ⟨by simp, rfl, fun j hj => absurd hj (Nat.not_lt_zero j)⟩
          rintro ⟨k9, i9⟩ ⟨hk9, hi9, hpre⟩
          dsimp only at hk9 hi9 hpre
          have hadd9 : ai .add i9 1 = ((k9 + 1 : Nat) : Int) := by rw [F.add i9 1 (by omega) (by omega), hi9]; simp
          have hl9t : k9 < 5 → ab .lss i9 5 = true := fun h => by rw [F.lss, hi9]; simp; omega
          have hl9f : ¬ k9 < 5 → ab .lss i9 5 = false := fun h => by rw [F.lss, hi9]; simp; omega
          have hin9 : k9 < 5 → inr 5 i9 = true := fun h => F.inr 5 i9 (by omega) (by omega)
          have hW9 : k9 ≠ 0 → ¬ (k9 : Int) = 0 := fun h => by omega
          have h59 : ¬ k9 < 5 → ∀ j, j < 5 → j < k9 := fun h j hj => by omega
          have h49 : k9 < 5 → k9 + 1 ≤ 5 := fun h => h
          refine sem_of (X := ⟨_, TT, ⟨11, 77, inPl⟩⟩) har' hTT mixed ?_
          intro S4 Cl4 hS4 hC4
          cbv
          by_cases hlt : k9 < 5
          · obtain ⟨bk, hbk, hbk2⟩ : ∃ bk : Bool, pk [.p (.bool false), .p (.bool r1), .p (.bool r2), .p (.bool r3), .p (.bool r4)] i9 = some (.p (.bool bk)) ∧ B.getD k9 false = bk := by
              rw [F.pk _ i9 k9 hi9, ← hB]
              match k9, hlt with
              | 0, _ | 1, _ | 2, _ | 3, _ | 4, _ => exact ⟨_, rfl, rfl⟩
            rw [hl9t hlt]; cbv
            rw [hin9 hlt]; cbv
            rw [hbk]; cbv
            cases bk
            · cbv
              exact ⟨(k9 + 1, ai .add i9 1), (fun t => t), ⟨h49 hlt, hadd9, fun j hj => (Nat.lt_or_ge j k9).elim (hpre j) fun h => (show j = k9 by omega) ▸ hbk2⟩, by dsimp only; omega, ⟨by rfl, by cbv; try (repeat (first | exact rfl | exact trivial | refine ⟨?_, ?_⟩))⟩⟩
            · cbv
              have hWk := hWf.1 k9 hlt hpre hbk2
              have hk0 : k9 ≠ 0 := by rintro rfl; rw [← hB] at hbk2; simp at hbk2
              refine ⟨fun t => t, [sP 1 1, sP 4 4, sP 6 6, sP 7 7, sP 8 8, sP 9 9, sP 10 10, bX 1 73 [cI a, cI b, cI c, cI e, cI wo, cI g, cI d0, cI j, cI k, cL 24 eT, cL 7 eN, cI kn, cI l0, cI l1, cI l2, cI l3], bX 4 35 [cI a, cI b, cI c, cI e, cI wo, cI g, cI d0, cI j, cI k], bX 6 3 [cI fr], bX 7 4 [.p (.bool true)], bX 8 3 [cI s'], bX 9 3 [cI i9], bX 10 3 [cI day]], ⟨by rfl, by cbv; try (repeat (first | exact rfl | exact trivial | refine ⟨?_, ?_⟩))⟩, by rfl, ?_⟩
              cbv
              refine PLe.of_eq ?_
              rw [hRq, if_neg (by rw [hWk]; exact hW9 hk0), hWk, hi9]
          · rw [hl9f hlt]; cbv
            have hW0 := hWf.2 (fun j hj => hpre j (h59 hlt j hj))
            exact ⟨hInvN hW0, fun t => t, ⟨by rfl, by rw [hs']; cbv; try (repeat (first | exact rfl | exact trivial | refine ⟨?_, ?_⟩))⟩⟩
    · intro hinv
      cbv
      refine PLe.of_eq ?_
      rw [hR2, hinvE _ hinv, hlen, Nat.sub_self]; rfl
  · have hun3 : true = un := by rw [c0] at hun2; simpa using hun2
    subst hun3
    cbv
    refine ⟨_, hC1 _ _ _ hDF, ?_⟩; cbv
    refine hS1 _ _ _ (sem_range (X := ⟨⟨ai, ab, nz, inr, fi, pk, ix, ln, sb, eqi, sl, fits, mn, mx, nt, be, up, fu, mg, mh, ms⟩, TT, ⟨11, 77, inPl⟩⟩) 36 11 84 [.ptr [.int .i64 d0], .ptr [.int .i64 kn]] xs
      (fun q => [sP 1 1, sP 4 4, sP 6 6, sP 7 7, sP 8 8, sP 9 9, sP 10 10, bX 1 73 [cI a, cI b, cI c, cI e, cI wo, cI g, cI d0, cI j, cI k, cL 24 eT, cL 7 eN, cI kn, cI l0, cI l1, cI l2, cI l3], bX 4 35 [cI a, cI b, cI c, cI e, cI wo, cI g, cI d0, cI j, cI k], bX 6 3 [cI fr], bX 7 4 [.p (.bool true)], bX 8 3 [cI (sm q)], bX 9 3 [cI 0], bX 10 3 [cI (-1)]])
      Inv (fun t => t) har' hTT mixed rfl (by decide) rfl (by rfl) hYd hx1 (by decide) (by rfl) (fun q => by rfl) ⟨by rfl, by rw [hsm0]; cbv; try (repeat (first | exact rfl | exact trivial | refine ⟨?_, ?_⟩))⟩ hInv0 ?_ ?_)
    · intro q x hx hinv D1 l S2 S3 Cl2 hS2 hS3 hC2
      obtain ⟨hqM, rfl⟩ := hget q x hx
      have hq1 := hsm1 q
      have hq2 := hinvE q hinv
      obtain ⟨day, hday⟩ : ∃ day, d0 + (q : Int) = day := ⟨_, rfl⟩
      rw [hday] at hq1 hq2 ⊢
      obtain ⟨s', hs'⟩ : ∃ s', sm (q + 1) = s' := ⟨_, rfl⟩
      have hadd : ai .add (sm q) (f day) = s' := by rw [← hs', ← hday]; exact hadd0 q hqM
      have hsub : ai .sub day d0 = day - d0 := by rw [← hday]; exact hsub0 q hqM
      obtain ⟨W, hWd⟩ : ∃ W, W = wayN fr wo true d0 day s' := ⟨_, rfl⟩
      obtain ⟨r9, hr9, hr8⟩ := hr0 q hqM
      have hE : endG f fr wo true d0 M d0 0 = if W = 0 then endG f fr wo true d0 r9 (day + 1) s' else (W, day) := by
        rw [hq2, hr9, endG, ← hq1, hs', ← hWd]
      have hInvN : W = 0 → Inv (q + 1) := fun h => by
        rw [hInv]
        show endG f fr wo true d0 M d0 0 = endG f fr wo true d0 (M - (q + 1)) (d0 + ((q + 1 : Nat) : Int)) (sm (q + 1))
        rw [hE, if_pos h, hr8, hd1, hday, hs']
      have hRq : R = PV.tup [.int .i64 (if W = 0 then endG f fr wo true d0 r9 (day + 1) s' else (W, day)).1, .int .i64 (if W = 0 then endG f fr wo true d0 r9 (day + 1) s' else (W, day)).2] := by rw [hR2, hE]
      unfold wayN at hWd
      cbv
      refine ⟨_, hC2 _ _ _ (hfd day), ?_⟩; cbv
      rw [hadd]
      cases cw : ab .neq wo 0
      · cbv
        have hw0 : wo = 0 := by rw [F.neq] at cw; simpa using cw
        cbv
        have hWf := way_first (ab .eql day fr) (false) (ab .eql (ai .sub day d0) 361) (ab .eql (ai .sub day d0) 720) W (by rw [hWd]; simp only [F.eql, F.geq, hsub]; simp [hw0])
        obtain ⟨r1, hr1⟩ : ∃ b, ab .eql day fr = b := ⟨_, rfl⟩
        obtain ⟨r4, hr4⟩ : ∃ b, ab .eql (ai .sub day d0) 720 = b := ⟨_, rfl⟩
        obtain ⟨r3, hr3⟩ : ∃ b, ab .eql (ai .sub day d0) 361 = b := ⟨_, rfl⟩
        rw [hr1, hr4, hr3] at hWf
        obtain ⟨B, hB⟩ : ∃ B : List Bool, [false, r1, false, r3, r4] = B := ⟨_, rfl⟩
        rw [hB] at hWf
        rw [hr1, hr4, hr3]
        refine hS3 _ _ _ (fun D2 => ?_)
        refine (sem_loopR (fun x : Nat × Int => [sP 1 1, sP 4 4, sP 6 6, sP 7 7, sP 8 8, sP 9 9, sP 10 10, bX 1 73 [cI a, cI b, cI c, cI e, cI wo, cI g, cI d0, cI j, cI k, cL 24 eT, cL 7 eN, cI kn, cI l0, cI l1, cI l2, cI l3], bX 4 35 [cI a, cI b, cI c, cI e, cI wo, cI g, cI d0, cI j, cI k], bX 6 3 [cI fr], bX 7 4 [.p (.bool true)], bX 8 3 [cI s'], bX 9 3 [cI 0], bX 10 3 [cI (-1)], sI 11 day, (kT 66, .t (.agg [.p (.bool false), .p (.bool r1), .p (.bool false), .p (.bool r3), .p (.bool r4)])), sI 67 x.2]) (fun x => x.1 ≤ 5 ∧ x.2 = (x.1 : Int) ∧ ∀ j, j < x.1 → B.getD j false = false) (fun x => 5 - x.1) (0, 0) (fun t => t) ⟨by rfl, by cbv; try (repeat (first | exact rfl | exact trivial | refine ⟨?_, ?_⟩))⟩ ?_ ?_)
        · exact ⟨by simp, rfl, fun j hj => absurd hj (Nat.not_lt_zero j)⟩
        rintro ⟨k9, i9⟩ ⟨hk9, hi9, hpre⟩
        dsimp only at hk9 hi9 hpre
        have hadd9 : ai .add i9 1 = ((k9 + 1 : Nat) : Int) := by rw [F.add i9 1 (by omega) (by omega), hi9]; simp
        have hl9t : k9 < 5 → ab .lss i9 5 = true := fun h => by rw [F.lss, hi9]; simp; omega
        have hl9f : ¬ k9 < 5 → ab .lss i9 5 = false := fun h => by rw [F.lss, hi9]; simp; omega
        have hin9 : k9 < 5 → inr 5 i9 = true := fun h => F.inr 5 i9 (by omega) (by omega)
        have hW9 : k9 ≠ 0 → ¬ (k9 : Int) = 0 := fun h => by omega
        have h59 : ¬ k9 < 5 → ∀ j, j < 5 → j < k9 := fun h j hj => by omega
        have h49 : k9 < 5 → k9 + 1 ≤ 5 := fun h => h
        refine sem_of (X := ⟨_, TT, ⟨11, 77, inPl⟩⟩) har' hTT mixed ?_
        intro S4 Cl4 hS4 hC4
        cbv
        by_cases hlt : k9 < 5
        · obtain ⟨bk, hbk, hbk2⟩ : ∃ bk : Bool, pk [.p (.bool false), .p (.bool r1), .p (.bool false), .p (.bool r3), .p (.bool r4)] i9 = some (.p (.bool bk)) ∧ B.getD k9 false = bk := by
            rw [F.pk _ i9 k9 hi9, ← hB]
            match k9, hlt with
            | 0, _ | 1, _ | 2, _ | 3, _ | 4, _ => exact ⟨_, rfl, rfl⟩
          rw [hl9t hlt]; cbv
          rw [hin9 hlt]; cbv
          rw [hbk]; cbv
          cases bk
          · cbv
            exact ⟨(k9 + 1, ai .add i9 1), (fun t => t), ⟨h49 hlt, hadd9, fun j hj => (Nat.lt_or_ge j k9).elim (hpre j) fun h => (show j = k9 by omega) ▸ hbk2⟩, by dsimp only; omega, ⟨by rfl, by cbv; try (repeat (first | exact rfl | exact trivial | refine ⟨?_, ?_⟩))⟩⟩
          · cbv
            have hWk := hWf.1 k9 hlt hpre hbk2
            have hk0 : k9 ≠ 0 := by rintro rfl; rw [← hB] at hbk2; simp at hbk2
            refine ⟨fun t => t, [sP 1 1, sP 4 4, sP 6 6, sP 7 7, sP 8 8, sP 9 9, sP 10 10, bX 1 73 [cI a, cI b, cI c, cI e, cI wo, cI g, cI d0, cI j, cI k, cL 24 eT, cL 7 eN, cI kn, cI l0, cI l1, cI l2, cI l3], bX 4 35 [cI a, cI b, cI c, cI e, cI wo, cI g, cI d0, cI j, cI k], bX 6 3 [cI fr], bX 7 4 [.p (.bool true)], bX 8 3 [cI s'], bX 9 3 [cI i9], bX 10 3 [cI day]], ⟨by rfl, by cbv; try (repeat (first | exact rfl | exact trivial | refine ⟨?_, ?_⟩))⟩, by rfl, ?_⟩
            cbv
            refine PLe.of_eq ?_
            rw [hRq, if_neg (by rw [hWk]; exact hW9 hk0), hWk, hi9]
        · rw [hl9f hlt]; cbv
          have hW0 := hWf.2 (fun j hj => hpre j (h59 hlt j hj))
          exact ⟨hInvN hW0, fun t => t, ⟨by rfl, by rw [hs']; cbv; try (repeat (first | exact rfl | exact trivial | refine ⟨?_, ?_⟩))⟩⟩
      · cbv
        have hw0 : wo ≠ 0 := by rw [F.neq] at cw; simpa using cw
        cbv
        have hWf := way_first (ab .eql day fr) (ab .geq s' wo) (ab .eql (ai .sub day d0) 361) (ab .eql (ai .sub day d0) 720) W (by rw [hWd]; simp only [F.eql, F.geq, hsub]; simp [hw0])
        obtain ⟨r1, hr1⟩ : ∃ b, ab .eql day fr = b := ⟨_, rfl⟩
        obtain ⟨r4, hr4⟩ : ∃ b, ab .eql (ai .sub day d0) 720 = b := ⟨_, rfl⟩
        obtain ⟨r2, hr2⟩ : ∃ b, ab .geq s' wo = b := ⟨_, rfl⟩
        obtain ⟨r3, hr3⟩ : ∃ b, ab .eql (ai .sub day d0) 361 = b := ⟨_, rfl⟩
        rw [hr1, hr4, hr2, hr3] at hWf
        obtain ⟨B, hB⟩ : ∃ B : List Bool, [false, r1, r2, r3, r4] = B := ⟨_, rfl⟩
        rw [hB] at hWf
        rw [hr1, hr4, hr2, hr3]
        refine hS3 _ _ _ (fun D2 => ?_)
        refine (sem_loopR (fun x : Nat × Int => [sP 1 1, sP 4 4, sP 6 6, sP 7 7, sP 8 8, sP 9 9, sP 10 10, bX 1 73 [cI a, cI b, cI c, cI e, cI wo, cI g, cI d0, cI j, cI k, cL 24 eT, cL 7 eN, cI kn, cI l0, cI l1, cI l2, cI l3], bX 4 35 [cI a, cI b, cI c, cI e, cI wo, cI g, cI d0, cI j, cI k], bX 6 3 [cI fr], bX 7 4 [.p (.bool true)], bX 8 3 [cI s'], bX 9 3 [cI 0], bX 10 3 [cI (-1)], sI 11 day, (kT 66, .t (.agg [.p (.bool false), .p (.bool r1), .p (.bool r2), .p (.bool r3), .p (.bool r4)])), sI 67 x.2]) (fun x => x.1 ≤ 5 ∧ x.2 = (x.1 : Int) ∧ ∀ j, j < x.1 → B.getD j false = false) (fun x => 5 - x.1) (0, 0) (fun t => t) ⟨by rfl, by cbv; try (repeat (first | exact rfl | exact trivial | refine ⟨?_, ?_⟩))⟩ ?_ ?_)
        · exact ⟨by simp, rfl, fun j hj => absurd hj (Nat.not_lt_zero j)⟩
        rintro ⟨k9, i9⟩ ⟨hk9, hi9, hpre⟩
        dsimp only at hk9 hi9 hpre
        have hadd9 : ai .add i9 1 = ((k9 + 1 : Nat) : Int) := by rw [F.add i9 1 (by omega) (by omega), hi9]; simp
        have hl9t : k9 < 5 → ab .lss i9 5 = true := fun h => by rw [F.lss, hi9]; simp; omega
        have hl9f : ¬ k9 < 5 → ab .lss i9 5 = false := fun h => by rw [F.lss, hi9]; simp; omega
        have hin9 : k9 < 5 → inr 5 i9 = true := fun h => F.inr 5 i9 (by omega) (by omega)
        have hW9 : k9 ≠ 0 → ¬ (k9 : Int) = 0 := fun h => by omega
        have h59 : ¬ k9 < 5 → ∀ j, j < 5 → j < k9 := fun h j hj => by omega
        have h49 : k9 < 5 → k9 + 1 ≤ 5 := fun h => h
        refine sem_of (X := ⟨_, TT, ⟨11, 77, inPl⟩⟩) har' hTT mixed ?_
        intro S4 Cl4 hS4 hC4
        cbv
        by_cases hlt : k9 < 5
        · obtain ⟨bk, hbk, hbk2⟩ : ∃ bk : Bool, pk [.p (.bool false), .p (.bool r1), .p (.bool r2), .p (.bool r3), .p (.bool r4)] i9 = some (.p (.bool bk)) ∧ B.getD k9 false = bk := by
            rw [F.pk _ i9 k9 hi9, ← hB]
            match k9, hlt with
            | 0, _ | 1, _ | 2, _ | 3, _ | 4, _ => exact ⟨_, rfl, rfl⟩
          rw [hl9t hlt]; cbv
          rw [hin9 hlt]; cbv
          rw [hbk]; cbv
          cases bk
          · cbv
            exact ⟨(k9 + 1, ai .add i9 1), (fun t => t), ⟨h49 hlt, hadd9, fun j hj => (Nat.lt_or_ge j k9).elim (hpre j) fun h => (show j = k9 by omega) ▸ hbk2⟩, by dsimp only; omega, ⟨by rfl, by cbv; try (repeat (first | exact rfl | exact trivial | refine ⟨?_, ?_⟩))⟩⟩
          · cbv
            have hWk := hWf.1 k9 hlt hpre hbk2
            have hk0 : k9 ≠ 0 := by rintro rfl; rw [← hB] at hbk2; simp at hbk2
            refine ⟨fun t => t, [sP 1 1, sP 4 4, sP 6 6, sP 7 7, sP 8 8, sP 9 9, sP 10 10, bX 1 73 [cI a, cI b, cI c, cI e, cI wo, cI g, cI d0, cI j, cI k, cL 24 eT, cL 7 eN, cI kn, cI l0, cI l1, cI l2, cI l3], bX 4 35 [cI a, cI b, cI c, cI e, cI wo, cI g, cI d0, cI j, cI k], bX 6 3 [cI fr], bX 7 4 [.p (.bool true)], bX 8 3 [cI s'], bX 9 3 [cI i9], bX 10 3 [cI day]], ⟨by rfl, by cbv; try (repeat (first | exact rfl | exact trivial | refine ⟨?_, ?_⟩))⟩, by rfl, ?_⟩
            cbv
            refine PLe.of_eq ?_
            rw [hRq, if_neg (by rw [hWk]; exact hW9 hk0), hWk, hi9]
        · rw [hl9f hlt]; cbv
          have hW0 := hWf.2 (fun j hj => hpre j (h59 hlt j hj))
          exact ⟨hInvN hW0, fun t => t, ⟨by rfl, by rw [hs']; cbv; try (repeat (first | exact rfl | exact trivial | refine ⟨?_, ?_⟩))⟩⟩
    · intro hinv
      cbv
      refine PLe.of_eq ?_
      rw [hR2, hinvE _ hinv, hlen, Nat.sub_self]; rfl
def lotQ (T N : List (List Int)) (h : List Int) (d : Int) : List Int :=
  [ownN N, firN [1, 3] N, (endQ T N h d [ownN N, firN [1, 3] N, 0, 0]).1, (endQ T N h d [ownN N, firN [1, 3] N, 0, 0]).2]
theorem firN_in (ks : List Int) : ∀ {N : List (List Int)}, (∀ x ∈ N, noteOk x = true) → -1 ≤ firN ks N ∧ firN ks N ≤ 1000000 := by
  intro N hN
  have hday : ∀ x ∈ N, 0 ≤ x.getD 4 0 ∧ x.getD 4 0 ≤ 100000 := fun x hx => by
    have := hN x hx
    unfold noteOk at this
    simp only [Bool.and_eq_true, inB_iff] at this
    exact this.2.2.2.1
  have gen : ∀ (L : List (List Int)) (acc : Int), (∀ x ∈ L, 0 ≤ x.getD 4 0 ∧ x.getD 4 0 ≤ 100000) → -1 ≤ acc ∧ acc ≤ 1000000 → -1 ≤ L.foldl (firS ks) acc ∧ L.foldl (firS ks) acc ≤ 1000000 := by
    intro L
    induction L with
    | nil => intro acc _ h; exact h
    | cons x L ih =>
      intro acc hL h
      simp only [List.foldl_cons]
      refine ih _ (fun y hy => hL y (by simp [hy])) ?_
      have := hL x (by simp)
      unfold firS; split <;> omega
  exact gen N (-1) hday (by omega)
theorem tell_does {T H N : List (List Int)} (h1 : ∀ x ∈ T, x.length = 24) (h2 : ∀ x ∈ H, x.length = 9) (h3 : ∀ x ∈ N, x.length = 7) (hacc : accOk T H N = true) {h : List Int} (hh : h.length = 9) (hhk : heldOk h = true) (d : Int) (hd : 0 ≤ d ∧ d ≤ 100000) :
    Does Try.prog 36 [accP T H N, .agg (rowP h), .int .i64 d] (toldP h T (sayL N h d) d (lotQ T (sayL N h d) h d)) := by
  generalize hR : toldP h T (sayL N h d) d (lotQ T (sayL N h d) h d) = R
  refine does_of (own := inPl) Try.func36 rfl Try.ntmps36 (congrArg Array.toList Try.results36) (fun us w => Try.call36 us w) hTT mixed (Nat.le_of_ble_eq_true rfl) ?_
  intro w0 im0 D0 S Cl hS hC ar har
  have har' := har
  obtain ⟨ai, ab, nz, inr, fi, pk, ix, ln, sb, eqi, sl, fits, mn, mx, nt, be, up, fu, mg, mh, ms⟩ := ar
  have F := facts_of har
  clear har
  have hok := accOk_T hacc
  have hnk := accOk_N hacc
  have hlens := accOk_len hacc
  obtain ⟨N', hN'⟩ : ∃ N', sayL N h d = N' := ⟨_, rfl⟩
  have h3' : ∀ x ∈ N', x.length = 7 := fun x hx => h3 x (List.mem_filter.1 (hN' ▸ hx)).1
  have hnk' : ∀ x ∈ N', noteOk x = true := fun x hx => hnk x (List.mem_filter.1 (hN' ▸ hx)).1
  have hfi := firN_in [1, 3] hnk'
  have hown := owner_does (kn := d) (lt := [0, 0, 0, 0]) hh h1 h3'
  have hfir := first_does (kn := d) (lt := [0, 0, 0, 0]) hh h1 h3' rfl [1, 3]
  have hend := end_does (kn := d) (lt := [ownN N', firN [1, 3] N', 0, 0]) h1 h3' hok hh hhk rfl hfi hd
  rw [hN'] at hR
  have hR2 : R = toldP h T N' d (lotQ T N' h d) := hR.symm
  unfold lotQ at hR2
  clear hR
  generalize ownN N' = ow at *
  generalize firN [1, 3] N' = st at *
  obtain ⟨⟨ew, ed⟩, hew⟩ : ∃ q, endQ T N' h d [ow, st, 0, 0] = q := ⟨_, rfl⟩
  rw [hew] at hend hR2
  clear hew
  have hsay : ∀ k, k < N.length → (N.take (k + 1)).filter (fun n => sayN n h d) = if sayN (N.getD k []) h d = true then (N.take k).filter (fun n => sayN n h d) ++ [N.getD k []] else (N.take k).filter (fun n => sayN n h d) := fun k hk => by
    rw [take_last hk, List.filter_append, List.getD_eq_getElem?_getD, List.getElem?_eq_getElem hk, Option.getD_some]
    by_cases hs : sayN N[k] h d = true
    · simp [hs]
    · simp [hs]
  have hsays := fun (n : List Int) (hn : n.length = 7) => saysOf_does n h d hn hh
  obtain ⟨say, hsy⟩ : ∃ say : List Int → Bool, (fun n => sayN n h d) = say := ⟨_, rfl⟩
  have hsays2 : ∀ n : List Int, n.length = 7 → Does Try.prog 65 [.agg (rowP n), .agg (rowP h), .int .i64 d] (.bool (say n)) := fun n hn => by rw [← hsy]; exact hsays n hn
  have hsay2 : ∀ k, k < N.length → (N.take (k + 1)).filter say = if say (N.getD k []) = true then (N.take k).filter say ++ [N.getD k []] else (N.take k).filter say := fun k hk => by rw [← hsy]; exact hsay k hk
  have hN'2 : N' = N.filter say := by rw [← hN', ← hsy]; rfl
  clear hsy hN' hsay hsays
  obtain ⟨a, b, c, e, f, g, i, j, k, rfl⟩ := list9 hh
  obtain ⟨eT, hT1⟩ : ∃ es, T.map rowP = es := ⟨_, rfl⟩
  obtain ⟨eH, hH1⟩ : ∃ es, H.map rowP = es := ⟨_, rfl⟩
  obtain ⟨eN, hN1⟩ : ∃ es, N.map rowP = es := ⟨_, rfl⟩
  obtain ⟨eN', hN1'⟩ : ∃ es, N'.map rowP = es := ⟨_, rfl⟩
  have hlnN : ln eN = N.length := by rw [F.ln, ← hN1]; simp
  simp only [toldP, accP, hT1, hH1, hN1, hN1'] at hown hfir hend ⊢
  simp only [toldP, hT1, hN1'] at hR2
  cbv
  refine hS _ _ _ (sem_mkRowB 7 1000 49 7 10 73 [cI a, cI b, cI c, cI e, cI f, cI g, cI i, cI j, cI k, cL 24 eT, CV.p .nil, cI d, cI 0, cI 0, cI 0, cI 0] (by rfl) rfl (by rfl) ?_)
  refine (sem_loopR (fun x : Nat × Int × List (List PV) => [sI 2 d, sP 3 3, sP 4 4, sP 6 6, sP 7 7, sL 16 7 eN, sI 17 (ln eN), sI 18 x.2.1, bX 3 32 [cL 24 eT, cL 9 eH, cL 7 eN], bX 4 35 [cI a, cI b, cI c, cI e, cI f, cI g, cI i, cI j, cI k], bX 6 73 [cI 0, cI 0, cI 0, cI 0, cI 0, cI 0, cI 0, cI 0, cI 0, CV.p .nil, CV.p .nil, cI 0, cI 0, cI 0, cI 0, cI 0], bX 7 73 [cI a, cI b, cI c, cI e, cI f, cI g, cI i, cI j, cI k, cL 24 eT, CV.row 1000, cI d, cI 0, cI 0, cI 0, cI 0], rW 1000 49 7 x.2.2]) (fun x => x.1 ≤ N.length ∧ x.2.1 = (x.1 : Int) ∧ x.2.2 = ((N.take x.1).filter say).map rowP) (fun x => N.length - x.1) (0, 0, []) (fun t => t) ⟨by cbv, by cbv; try (repeat (first | exact rfl | exact trivial | refine ⟨?_, ?_⟩))⟩ ?_ ?_)
  · exact ⟨by simp, rfl, by simp⟩
  rintro ⟨m, r, es⟩ ⟨hm, hr, hes⟩
  dsimp only at hm hr hes
  have hradd : ai .add r 1 = ((m + 1 : Nat) : Int) := by rw [F.add r 1 (by omega) (by omega), hr]; simp
  by_cases hlt : m < N.length
  · have hb1 : ab .lss r (ln eN) = true := by rw [hlnN, F.lss, hr]; simpa using hlt
    have hg : ix eN r = some (rowP N[m]) := by rw [F.ix _ r m hr, ← hN1]; exact get_rows hlt
    have hnext := hsay2 m hlt
    rw [List.getD_eq_getElem?_getD, List.getElem?_eq_getElem hlt, Option.getD_some] at hnext
    have hfit : ∀ x, fits 56 es [x] = true := fun x => F.fits _ _ _ (by
      have := List.length_filter_le say (N.take m)
      rw [hes, List.length_map]; simp only [List.length_take, List.length_singleton] at this ⊢; omega)
    have hsy := hsays2 _ (h3 _ (List.getElem_mem hlt))
    obtain ⟨x0, x1, x2, x3, x4, x5, x6, hx⟩ := list7P (h3 _ (List.getElem_mem hlt))
    rw [hx] at hg hnext hsy
    obtain ⟨sb9, hsb⟩ : ∃ q, say [x0, x1, x2, x3, x4, x5, x6] = q := ⟨_, rfl⟩
    rw [hsb] at hsy hnext
    have hyes : sb9 = true → es ++ [[PV.int .i64 x0, .int .i64 x1, .int .i64 x2, .int .i64 x3, .int .i64 x4, .int .i64 x5, .int .i64 x6]] = ((N.take (m + 1)).filter say).map rowP := fun h => by rw [hnext, if_pos h, hes]; simp [rowP]
    have hno : sb9 = false → es = ((N.take (m + 1)).filter say).map rowP := fun h => by rw [hnext, if_neg (by simp [h]), hes]
    refine sem_of (X := ⟨_, TT, ⟨0, 50, inPl⟩⟩) har' hTT mixed ?_
    intro S1 Cl1 hS1 hC1
    cbv
    rw [hb1]; cbv
    repeat (rw [hg]; cbv)
    refine ⟨_, hC1 _ _ _ hsy, ?_⟩; cbv
    cases sb9
    · cbv
      exact ⟨(m + 1, ai .add r 1, es), (fun t => t), ⟨hlt, hradd, hno rfl⟩, by dsimp only; omega, ⟨by cbv, by cbv; try (repeat (first | exact rfl | exact trivial | refine ⟨?_, ?_⟩))⟩⟩
    · cbv
      rw [hfit]; cbv
      exact ⟨(m + 1, ai .add r 1, es ++ [[PV.int .i64 x0, .int .i64 x1, .int .i64 x2, .int .i64 x3, .int .i64 x4, .int .i64 x5, .int .i64 x6]]), (fun t => bif Nat.beq t 1000 then 30 else t), ⟨hlt, hradd, hyes rfl⟩, by dsimp only; omega, ⟨by cbv, by cbv; try (repeat (first | exact rfl | exact trivial | refine ⟨?_, ?_⟩))⟩⟩
  have hb1 : ab .lss r (ln eN) = false := by rw [hlnN, F.lss, hr]; simpa using hlt
  have hmE : m = N.length := by omega
  have hesE : es = eN' := by rw [hes, hmE, List.take_length, ← hN1', hN'2]
  subst hesE
  refine sem_of (X := ⟨_, TT, ⟨0, 50, inPl⟩⟩) har' hTT mixed ?_
  intro S1 Cl1 hS1 hC1
  cbv
  rw [hb1]; cbv
  refine ⟨_, hC _ _ _ hown, ?_⟩; cbv
  refine ⟨_, hC _ _ _ hfir, ?_⟩; cbv
  refine ⟨_, hC _ _ _ hend, ?_⟩; cbv
  refine PLe.of_eq ?_
  rw [hR2]; rfl
theorem note_parts {n : List Int} (h : noteOk n = true) : (n.getD 2 0 = 1 ∨ n.getD 2 0 = 3 → 1 ≤ n.getD 3 0) ∧ 0 ≤ n.getD 4 0 ∧ 0 ≤ n.getD 5 0 := by
  unfold noteOk timB at h
  simp only [Bool.and_eq_true, inB_iff] at h
  refine ⟨fun hk => ?_, h.2.2.2.1.1, h.2.2.2.2.1.1⟩
  have hs := h.2.2.1
  unfold sayB at hs
  rw [if_pos (by simpa using hk)] at hs
  rw [inB_iff] at hs
  exact hs.1
theorem has2 (k : Int) : ([1, 3] : List Int).contains k = (k == 1 || k == 3) := by
  cases h : k == 1 <;> cases h2 : k == 3 <;> simp [List.contains, List.elem, h, h2]
theorem has1 (q k : Int) : ([q] : List Int).contains k = (k == q) := by
  cases h : k == q <;> simp [List.contains, List.elem, h]
theorem fold_stop : ∀ (L : List (List Int)) (a1 a3 f : Int), (∀ n ∈ L, 0 ≤ n.getD 4 0) → -1 ≤ a1 → -1 ≤ a3 → f = (if (decide (a1 < 0) || (decide (a3 ≥ 0) && decide (a3 < a1))) = true then a3 else a1) →
    L.foldl (firS [1, 3]) f = (if (decide (L.foldl (leaS 1) a1 < 0) || (decide (L.foldl (leaS 3) a3 ≥ 0) && decide (L.foldl (leaS 3) a3 < L.foldl (leaS 1) a1))) = true then L.foldl (leaS 3) a3 else L.foldl (leaS 1) a1)
  | [], a1, a3, f, _, _, _, hf => hf
  | n :: L, a1, a3, f, hL, h1, h3, hf => by
    have hn := hL n (by simp)
    simp only [List.foldl_cons]
    refine fold_stop L _ _ _ (fun m hm => hL m (by simp [hm])) ?_ ?_ ?_
    · unfold leaS; split <;> omega
    · unfold leaS; split <;> omega
    · unfold firS leaS
      rw [has2]
      generalize n.getD 2 0 = kd at *
      generalize n.getD 4 0 = dy at *
      simp only [Bool.and_eq_true, Bool.or_eq_true, decide_eq_true_eq, beq_iff_eq] at hf ⊢
      by_cases k1 : kd = 1
      · by_cases k3 : kd = 3
        · omega
        · simp only [k1, true_or, true_and, show ¬ (1 : Int) = 3 by decide, false_and, if_false]
          split at hf <;> (repeat' split) <;> omega
      · by_cases k3 : kd = 3
        · simp only [k3, or_true, true_and, show ¬ (3 : Int) = 1 by decide, false_and, if_false]
          split at hf <;> (repeat' split) <;> omega
        · simp only [k1, k3, or_self, false_and, if_false]
          exact hf
theorem fir_stop {N : List (List Int)} (hN : ∀ n ∈ N, noteOk n = true) : firN [1, 3] N = stoN N :=
  fold_stop N (-1) (-1) (-1) (fun n hn => (note_parts (hN n hn)).2.1) (by omega) (by omega) (by decide)
theorem fold_fir : ∀ (k : Int) (L : List (List Int)) (f : Int), (∀ n ∈ L, 0 ≤ n.getD 4 0) → -1 ≤ f → L.foldl (firS [k]) f = L.foldl (leaS k) f
  | k, [], f, _, _ => rfl
  | k, n :: L, f, hL, hf => by
    have hn := hL n (by simp)
    simp only [List.foldl_cons]
    have : firS [k] f n = leaS k f n := by
      unfold firS leaS
      rw [has1]
      have : (f == -1) = decide (f < 0) := by
        by_cases h : f = -1
        · simp [h]
        · have : ¬ f < 0 := by omega
          simp [h, this]
      rw [this]
    rw [this]
    refine fold_fir k L _ (fun m hm => hL m (by simp [hm])) ?_
    unfold leaS; split <;> omega
theorem fir_lea (k : Int) {N : List (List Int)} (hN : ∀ n ∈ N, noteOk n = true) : firN [k] N = leaN k N :=
  fold_fir k N (-1) (fun n hn => (note_parts (hN n hn)).2.1) (by omega)
theorem owrT_none {x : Int} : ∀ (L : List (List Int)) (o : Int), (∀ n ∈ L, n.getD 2 0 = 1 → n.getD 4 0 ≠ x) → L.foldr (owrT x) o = o
  | [], o, _ => rfl
  | n :: L, o, h => by
    simp only [List.foldr_cons, owrT_none L o (fun m hm => h m (by simp [hm]))]
    unfold owrT
    rw [if_neg]
    intro hc
    simp only [Bool.and_eq_true, beq_iff_eq] at hc
    exact h n (by simp) hc.1 hc.2
structure OwI (L : List (List Int)) (jc : List Int × List Int) (a : Int × Int) (x : Int) : Prop where
  jd : (a = (-1, 0) ∧ jc.1 = zero7) ∨ (0 ≤ a.1 ∧ a.1 = jc.1.getD 5 0 ∧ a.2 = jc.1.getD 3 0)
  cl : (jc.2.getD 3 0 = 0 ∧ x = -1 ∧ ∀ n ∈ L, n.getD 2 0 ≠ 1) ∨ (0 ≤ x ∧ jc.2.getD 4 0 = x ∧ 0 < jc.2.getD 3 0 ∧ (∀ o, L.foldr (owrT x) o = jc.2.getD 3 0) ∧ ∀ n ∈ L, n.getD 2 0 = 1 → x ≤ n.getD 4 0)
theorem owrT_hit {n : List Int} {dy o : Int} (h1 : n.getD 2 0 = 1) (h2 : n.getD 4 0 = dy) : [n].foldr (owrT dy) o = n.getD 3 0 := by
  simp only [List.foldr_cons, List.foldr_nil]
  unfold owrT
  rw [h1, h2, if_pos (by simp)]
theorem owI_step {L : List (List Int)} {jc : List Int × List Int} {a : Int × Int} {x : Int} {n : List Int} (h : OwI L jc a x) (hn : noteOk n = true) : OwI (L ++ [n]) (ownS jc n) (owrS a n) (leaS 1 x n) := by
  obtain ⟨p1, p2, p3⟩ := note_parts hn
  obtain ⟨hj, hc⟩ := h
  obtain ⟨kd, hkd⟩ : ∃ kd, n.getD 2 0 = kd := ⟨_, rfl⟩
  obtain ⟨dy, hdy⟩ : ∃ dy, n.getD 4 0 = dy := ⟨_, rfl⟩
  obtain ⟨kw, hkw⟩ : ∃ kw, n.getD 5 0 = kw := ⟨_, rfl⟩
  rw [hkd] at p1
  rw [hdy] at p2
  rw [hkw] at p3
  constructor
  · unfold ownS owrS
    rw [hkd, hkw]
    by_cases k3 : kd = 3
    · rcases hj with ⟨rfl, hz⟩ | ⟨h0, h1, h2⟩
      · right
        have e1 : (kd == 3 && decide (kw ≥ jc.1.getD 5 0)) = true := by rw [hz, k3]; simp [zero7]; exact p3
        have e2 : (kd == 3 && decide (kw ≥ (-1, (0 : Int)).1)) = true := by rw [k3]; simp; omega
        rw [if_pos e1, if_pos e2]
        exact ⟨p3, hkw.symm, rfl⟩
      · rw [← h1]
        by_cases hk : kw ≥ a.1
        · right
          have e1 : (kd == 3 && decide (kw ≥ a.1)) = true := by rw [k3]; simpa using hk
          rw [if_pos e1, if_pos e1]
          exact ⟨by dsimp only; omega, hkw.symm, rfl⟩
        · have e1 : ¬ (kd == 3 && decide (kw ≥ a.1)) = true := by rw [k3]; simpa using hk
          rw [if_neg e1, if_neg e1]
          right
          split <;> exact ⟨h0, h1, h2⟩
    · have e1 : ∀ q : Int, ¬ (kd == 3 && decide (kw ≥ q)) = true := fun q => by simp [k3]
      rw [if_neg (e1 _), if_neg (e1 _)]
      split <;> exact hj
  · by_cases k1 : kd = 1
    · have hp := p1 (.inl k1)
      have e3 : ¬ (kd == 3 && decide (kw ≥ jc.1.getD 5 0)) = true := by rw [k1]; simp
      unfold ownS
      rw [hkd, hkw, if_neg e3]
      rcases hc with ⟨h0, rfl, hno⟩ | ⟨h0, h1, h2, h4, h5⟩
      · right
        have e4 : leaS 1 (-1) n = dy := by unfold leaS; rw [hkd, hdy, if_pos (by rw [k1]; simp)]
        rw [e4, hdy, if_pos (by rw [k1, h0]; simp)]
        refine ⟨p2, hdy, by dsimp only; omega, fun o => ?_, fun m hm hk => ?_⟩
        · rw [List.foldr_append]
          have : [n].foldr (owrT dy) o = n.getD 3 0 := owrT_hit (by rw [hkd, k1]) hdy
          rw [this, owrT_none L _ (fun m hm hk => absurd hk (hno m hm))]
        · rcases List.mem_append.1 hm with hm | hm
          · exact absurd hk (hno m hm)
          · simp only [List.mem_singleton] at hm; subst hm; rw [hdy]; exact Int.le_refl _
      · by_cases hd : dy < x
        · right
          have e4 : leaS 1 x n = dy := by unfold leaS; rw [hkd, hdy, if_pos (by rw [k1]; simp [hd])]
          rw [e4, hdy, if_pos (by rw [k1, h1]; simp [hd])]
          refine ⟨p2, hdy, by dsimp only; omega, fun o => ?_, fun m hm hk => ?_⟩
          · rw [List.foldr_append]
            have : [n].foldr (owrT dy) o = n.getD 3 0 := owrT_hit (by rw [hkd, k1]) hdy
            rw [this, owrT_none L _ (fun m hm hk => by have := h5 m hm hk; omega)]
          · rcases List.mem_append.1 hm with hm | hm
            · have := h5 m hm hk; omega
            · simp only [List.mem_singleton] at hm; subst hm; rw [hdy]; exact Int.le_refl _
        · right
          have e4 : leaS 1 x n = x := by unfold leaS; rw [hkd, hdy, if_neg (by rw [k1]; simp; omega)]
          rw [e4, hdy, if_neg (by rw [k1, h1]; intro hh; simp only [Bool.and_eq_true, Bool.or_eq_true, beq_iff_eq, decide_eq_true_eq] at hh; omega)]
          refine ⟨h0, h1, h2, fun o => ?_, fun m hm hk => ?_⟩
          · rw [List.foldr_append]; exact h4 _
          · rcases List.mem_append.1 hm with hm | hm
            · exact h5 m hm hk
            · simp only [List.mem_singleton] at hm; subst hm; rw [hdy]; omega
    · have e4 : leaS 1 x n = x := by unfold leaS; rw [hkd, hdy, if_neg (by simp [k1])]
      have e5 : (ownS jc n).2 = jc.2 := by
        unfold ownS
        rw [hkd]
        split
        · rfl
        · rw [if_neg (by simp [k1])]
      rw [e4, e5]
      rcases hc with ⟨h0, h1, hno⟩ | ⟨h0, h1, h2, h4, h5⟩
      · left
        refine ⟨h0, h1, fun m hm => ?_⟩
        rcases List.mem_append.1 hm with hm | hm
        · exact hno m hm
        · simp only [List.mem_singleton] at hm; subst hm; rw [hkd]; exact k1
      · right
        refine ⟨h0, h1, h2, fun o => ?_, fun m hm hk => ?_⟩
        · rw [List.foldr_append]
          exact h4 _
        · rcases List.mem_append.1 hm with hm | hm
          · exact h5 m hm hk
          · simp only [List.mem_singleton] at hm; subst hm; exact absurd (hkd.symm.trans hk) k1
theorem owI_all : ∀ (M L : List (List Int)) (jc : List Int × List Int) (a : Int × Int) (x : Int), (∀ n ∈ M, noteOk n = true) → OwI L jc a x → OwI (L ++ M) (M.foldl ownS jc) (M.foldl owrS a) (M.foldl (leaS 1) x)
  | [], L, jc, a, x, _, h => by simpa using h
  | n :: M, L, jc, a, x, hM, h => by
    have := owI_all M (L ++ [n]) _ _ _ (fun m hm => hM m (by simp [hm])) (owI_step h (hM n (by simp)))
    simpa using this
theorem own_owr {N : List (List Int)} (hN : ∀ n ∈ N, noteOk n = true) : ownN N = owrN N := by
  have h := owI_all N [] (zero7, zero7) (-1, 0) (-1) hN ⟨.inl ⟨rfl, rfl⟩, .inl ⟨rfl, rfl, by simp⟩⟩
  rw [List.nil_append] at h
  obtain ⟨hj, hc⟩ := h
  have hjo : (N.foldl ownS (zero7, zero7)).1.getD 3 0 = (N.foldl owrS (-1, 0)).2 := by
    rcases hj with ⟨h1, h2⟩ | ⟨_, _, h2⟩
    · rw [h1, h2]; rfl
    · exact h2.symm
  have hpos : 0 ≤ (N.foldl owrS (-1, 0)).2 := by
    have gen : ∀ (L : List (List Int)) (a : Int × Int), (∀ x ∈ L, noteOk x = true) → 0 ≤ a.2 → 0 ≤ (L.foldl owrS a).2 := by
      intro L
      induction L with
      | nil => intro a _ h; exact h
      | cons x L ih =>
        intro a hL ha
        refine ih _ (fun y hy => hL y (List.mem_cons_of_mem _ hy)) ?_
        unfold owrS
        split
        · exact (note_own (hL x (List.mem_cons_self ..))).1
        · exact ha
    exact gen N _ hN (by decide)
  unfold ownN owrN
  rw [hjo]
  unfold leaN
  by_cases h0 : 0 < (N.foldl owrS (-1, 0)).2
  · rw [if_pos h0, orE_ne _ (by omega)]
  · have e0 : (N.foldl owrS (-1, 0)).2 = 0 := by omega
    rw [if_neg h0, e0, orE_0]
    rcases hc with ⟨c0, cx, hno⟩ | ⟨_, _, c2, c4, _⟩
    · rw [c0, orE_0]
      rw [owrT_none N 0 (fun n hn hk => absurd hk (hno n hn))]; rfl
    · rw [orE_ne _ (by omega), c4 0]
theorem endG_spec (f : Int → Int) (fr wo : Int) (un : Bool) (d0 : Int) : ∀ (n : Nat) (q : Nat),
    (endG f fr wo un d0 n (d0 + (q : Int)) (sumK f d0 q) = (0, -1) ∧ ∀ k, q ≤ k → k < q + n → wayN fr wo un d0 (d0 + (k : Int)) (sumK f d0 (k + 1)) = 0) ∨
    ∃ k, q ≤ k ∧ k < q + n ∧ wayN fr wo un d0 (d0 + (k : Int)) (sumK f d0 (k + 1)) ≠ 0 ∧ endG f fr wo un d0 n (d0 + (q : Int)) (sumK f d0 q) = (wayN fr wo un d0 (d0 + (k : Int)) (sumK f d0 (k + 1)), d0 + (k : Int)) ∧
      ∀ j, q ≤ j → j < k → wayN fr wo un d0 (d0 + (j : Int)) (sumK f d0 (j + 1)) = 0
  | 0, q => .inl ⟨rfl, fun k h1 h2 => by omega⟩
  | n + 1, q => by
    have hs : sumK f d0 q + f (d0 + (q : Int)) = sumK f d0 (q + 1) := (sumK_succ f d0 q).symm
    have hd : d0 + (q : Int) + 1 = d0 + ((q + 1 : Nat) : Int) := by omega
    by_cases h0 : wayN fr wo un d0 (d0 + (q : Int)) (sumK f d0 (q + 1)) = 0
    · have e : endG f fr wo un d0 (n + 1) (d0 + (q : Int)) (sumK f d0 q) = endG f fr wo un d0 n (d0 + ((q + 1 : Nat) : Int)) (sumK f d0 (q + 1)) := by
        rw [endG, hs, if_pos h0, hd]
      rw [e]
      rcases endG_spec f fr wo un d0 n (q + 1) with ⟨h1, h2⟩ | ⟨k, g1, g2, g3, g4, g5⟩
      · refine .inl ⟨h1, fun k hk1 hk2 => ?_⟩
        by_cases hkq : k = q
        · subst hkq; exact h0
        · exact h2 k (by omega) (by omega)
      · refine .inr ⟨k, by omega, by omega, g3, g4, fun j hj1 hj2 => ?_⟩
        by_cases hjq : j = q
        · subst hjq; exact h0
        · exact g5 j (by omega) hj2
    · refine .inr ⟨q, by omega, by omega, h0, ?_, fun j h1 h2 => by omega⟩
      rw [endG, hs, if_neg h0]
theorem marG_spec (f : Int → Int) (p kn lim d0 : Int) : ∀ (n : Nat) (q : Nat),
    (marG f p kn lim n (d0 + (q : Int)) (sumK f d0 q) = -1 ∧ ∀ k, q ≤ k → k < q + n → d0 + (k : Int) ≤ kn → d0 + (k : Int) ≤ lim → 0 < p → ¬ p ≤ sumK f d0 (k + 1)) ∨
    ∃ k, q ≤ k ∧ k < q + n ∧ d0 + (k : Int) ≤ kn ∧ d0 + (k : Int) ≤ lim ∧ 0 < p ∧ p ≤ sumK f d0 (k + 1) ∧ marG f p kn lim n (d0 + (q : Int)) (sumK f d0 q) = d0 + (k : Int) ∧ ∀ j, q ≤ j → j < k → ¬ p ≤ sumK f d0 (j + 1)
  | 0, q => .inl ⟨rfl, fun k h1 h2 => by omega⟩
  | n + 1, q => by
    have hs : sumK f d0 q + f (d0 + (q : Int)) = sumK f d0 (q + 1) := (sumK_succ f d0 q).symm
    have hd : d0 + (q : Int) + 1 = d0 + ((q + 1 : Nat) : Int) := by omega
    rw [marG, hs, hd]
    by_cases hc : d0 + (q : Int) ≤ kn ∧ d0 + (q : Int) ≤ lim ∧ 0 < p
    · rw [if_pos hc]
      by_cases hp : p ≤ sumK f d0 (q + 1)
      · rw [if_pos hp]
        exact .inr ⟨q, by omega, by omega, hc.1, hc.2.1, hc.2.2, hp, rfl, fun j h1 h2 => by omega⟩
      · rw [if_neg hp]
        rcases marG_spec f p kn lim d0 n (q + 1) with ⟨h1, h2⟩ | ⟨k, g1, g2, g3, g4, g5, g6, g7, g8⟩
        · refine .inl ⟨h1, fun k hk1 hk2 a b c => ?_⟩
          by_cases hkq : k = q
          · subst hkq; exact hp
          · exact h2 k (by omega) (by omega) a b c
        · refine .inr ⟨k, by omega, by omega, g3, g4, g5, g6, g7, fun j hj1 hj2 => ?_⟩
          by_cases hjq : j = q
          · subst hjq; exact hp
          · exact g8 j (by omega) hj2
    · rw [if_neg hc]
      refine .inl ⟨rfl, fun k hk1 hk2 a b c => ?_⟩
      exact absurd ⟨by omega, by omega, c⟩ hc
theorem lotK_none {E : List Int} {kn : Int} (h : ∀ i, i < 4 → ¬ (E.getD (i + 1) 0 ≥ 0 ∧ E.getD (i + 1) 0 ≤ kn)) : lotK E kn 4 = (0, -1) := by
  have s : ∀ k, k ≤ 4 → lotK E kn k = (0, -1) := by
    intro k
    induction k with
    | zero => intro _; rfl
    | succ k ih =>
      intro hk
      rw [lotK_succ, ih (by omega)]
      unfold lotS
      rw [if_neg (fun hc => h k (by omega) ⟨hc.1, hc.2.1⟩)]
  exact s 4 (by omega)
theorem lotK_at {E : List Int} {kn D : Int} {w : Nat} (hw : w < 4) (h0 : 0 ≤ D) (hk : D ≤ kn) (he : E.getD (w + 1) 0 = D) (hlt : ∀ i, i < w → E.getD (i + 1) 0 ≥ 0 → E.getD (i + 1) 0 ≤ kn → D < E.getD (i + 1) 0) (hge : ∀ i, w < i → i < 4 → E.getD (i + 1) 0 ≥ 0 → E.getD (i + 1) 0 ≤ kn → D ≤ E.getD (i + 1) 0) :
    lotK E kn 4 = ((w : Int) + 1, D) := by
  have a : ∀ k, k ≤ w → (lotK E kn k).2 < 0 ∨ D < (lotK E kn k).2 := by
    intro k
    induction k with
    | zero => intro _; left; show (-1 : Int) < 0; decide
    | succ k ih =>
      intro hkw
      rw [lotK_succ]
      unfold lotS
      split
      · rename_i hc
        exact .inr (hlt k (by omega) hc.1 hc.2.1)
      · exact ih (by omega)
  have b : ∀ k, w < k → k ≤ 4 → lotK E kn k = ((w : Int) + 1, D) := by
    intro k
    induction k with
    | zero => intro h; omega
    | succ k ih =>
      intro h1 h2
      rw [lotK_succ]
      by_cases hkw : k = w
      · subst hkw
        unfold lotS
        rw [he, if_pos ⟨h0, hk, a k (Nat.le_refl _)⟩]
      · rw [ih (by omega) (by omega)]
        unfold lotS
        rw [if_neg]
        rintro ⟨c1, c2, c3⟩
        have := hge k (by omega) (by omega) c1 c2
        dsimp only at c3
        omega
  exact b 4 hw (by omega)
theorem end_lot {T N : List (List Int)} (h1 : ∀ x ∈ T, x.length = 24) (hok : ∀ x ∈ T, tarOk x = true) (hN : ∀ n ∈ N, noteOk n = true) {h : List Int} (hhk : heldOk h = true) {d : Int} (hd : 0 ≤ d ∧ d ≤ 100000) :
    endQ T (sayL N h d) h d [ownN (sayL N h d), firN [1, 3] (sayL N h d), 0, 0] = lotK (lotE T N h d) d 4 := by
  obtain ⟨b2, b3, b4, b5, b6⟩ := heldOk_bounds hhk
  have hN' : ∀ n ∈ sayL N h d, noteOk n = true := fun n hn => hN n (List.mem_filter.1 hn).1
  have hday : ∀ n ∈ sayL N h d, h.getD 6 0 ≤ n.getD 4 0 ∧ n.getD 4 0 ≤ d := fun n hn => by
    have := (List.mem_filter.1 hn).2
    unfold sayN at this
    simp only [Bool.and_eq_true, inB_iff] at this
    exact this.2.2
  have hfr : leaN 2 (sayL N h d) = -1 ∨ (h.getD 6 0 ≤ leaN 2 (sayL N h d) ∧ leaN 2 (sayL N h d) ≤ d) := by
    have gen : ∀ (L : List (List Int)) (a : Int), (∀ n ∈ L, h.getD 6 0 ≤ n.getD 4 0 ∧ n.getD 4 0 ≤ d) → (a = -1 ∨ (h.getD 6 0 ≤ a ∧ a ≤ d)) → (L.foldl (leaS 2) a = -1 ∨ (h.getD 6 0 ≤ L.foldl (leaS 2) a ∧ L.foldl (leaS 2) a ≤ d)) := by
      intro L
      induction L with
      | nil => intro a _ ha; exact ha
      | cons n L ih =>
        intro a hL ha
        refine ih _ (fun m hm => hL m (by simp [hm])) ?_
        unfold leaS
        split
        · exact .inr (hL n (by simp))
        · exact ha
    exact gen _ (-1) hday (.inl rfl)
  have hst : -1 ≤ stoN (sayL N h d) := by rw [← fir_stop hN']; exact (firN_in [1, 3] hN').1
  unfold endQ
  simp only [List.getD_cons_succ, List.getD_cons_zero]
  rw [fir_lea 2 hN', fir_stop hN']
  have hE1 : (lotE T N h d).getD 1 0 = leaN 2 (sayL N h d) := rfl
  have hE2 : (lotE T N h d).getD 2 0 = marN T h d := rfl
  have hE3 : (lotE T N h d).getD 3 0 = if stoN (sayL N h d) < 0 ∨ stoN (sayL N h d) > h.getD 6 0 + 360 then h.getD 6 0 + 361 else -1 := rfl
  have hE4 : (lotE T N h d).getD 4 0 = h.getD 6 0 + 720 := rfl
  have hfin := feedD_in hok b3
  have hm := marG_spec (feedD T (h.getD 3 0)) (h.getD 4 0) d (h.getD 6 0 + 720) (h.getD 6 0) 722 0
  have hg := endG_spec (feedD T (h.getD 3 0)) (leaN 2 (sayL N h d)) (h.getD 4 0) (unB (stoN (sayL N h d)) (h.getD 6 0)) (h.getD 6 0) (d - h.getD 6 0 + 1).toNat 0
  have hs0 : sumK (feedD T (h.getD 3 0)) (h.getD 6 0) 0 = 0 := rfl
  have hmono : ∀ j k : Nat, j ≤ k → sumK (feedD T (h.getD 3 0)) (h.getD 6 0) j ≤ sumK (feedD T (h.getD 3 0)) (h.getD 6 0) k := fun j k hjk => by
    induction k with
    | zero => have : j = 0 := by omega
              subst this; exact Int.le_refl _
    | succ k ih =>
      by_cases hj : j = k + 1
      · subst hj; exact Int.le_refl _
      · rw [sumK_succ]
        have := ih (by omega); have := (hfin (h.getD 6 0 + (k : Int))).1; omega
  have hm2 : marN T h d = marG (feedD T (h.getD 3 0)) (h.getD 4 0) d (h.getD 6 0 + 720) 722 (h.getD 6 0 + ((0 : Nat) : Int)) (sumK (feedD T (h.getD 3 0)) (h.getD 6 0) 0) := by rw [hs0]; simp only [Int.natCast_zero, Int.add_zero]; rfl
  rw [← hm2] at hm
  rw [hs0] at hg
  simp only [Int.natCast_zero, Int.add_zero, Nat.zero_add, Nat.zero_le, true_and, forall_const] at hm hg
  have hun : unB (stoN (sayL N h d)) (h.getD 6 0) = true ↔ (stoN (sayL N h d) < 0 ∨ stoN (sayL N h d) > h.getD 6 0 + 360) := by
    unfold unB; simp only [Bool.or_eq_true, decide_eq_true_eq]; omega
  generalize sumK (feedD T (h.getD 3 0)) (h.getD 6 0) = S at *
  generalize unB (stoN (sayL N h d)) (h.getD 6 0) = un at *
  generalize leaN 2 (sayL N h d) = fr at *
  generalize marN T h d = mr at *
  generalize endG (feedD T (h.getD 3 0)) fr (h.getD 4 0) un (h.getD 6 0) (d - h.getD 6 0 + 1).toNat (h.getD 6 0) 0 = G at *
  generalize lotE T N h d = E at *
  generalize stoN (sayL N h d) = st at *
  generalize h.getD 6 0 = d0 at *
  generalize h.getD 4 0 = wo at *
  obtain ⟨M, hM⟩ : ∃ M, (d - d0 + 1).toNat = M := ⟨_, rfl⟩
  rw [hM] at hg
  obtain ⟨way, hway⟩ : ∃ way : Nat → Int, (fun k : Nat => wayN fr wo un d0 (d0 + (k : Int)) (S (k + 1))) = way := ⟨_, rfl⟩
  have hwk : ∀ k : Nat, wayN fr wo un d0 (d0 + (k : Int)) (S (k + 1)) = way k := fun k => by rw [← hway]
  simp only [hwk] at hg
  have HM := Lib.hid hm
  have HG := Lib.hid hg
  clear hm hg hm2
  have w1 : ∀ k : Nat, d0 + (k : Int) = fr → way k = 1 := fun k h => by rw [← hwk]; unfold wayN; rw [if_pos h]
  have w2 : ∀ k : Nat, wo ≠ 0 ∧ wo ≤ S (k + 1) → way k ≠ 0 := fun k h => by
    rw [← hwk]; unfold wayN
    by_cases a1 : d0 + (k : Int) = fr
    · rw [if_pos a1]; decide
    · rw [if_neg a1, if_pos h]; decide
  have w3 : ∀ k : Nat, un = true ∧ (k : Int) = 361 → way k ≠ 0 := fun k h => by
    rw [← hwk]; unfold wayN
    by_cases a1 : d0 + (k : Int) = fr
    · rw [if_pos a1]; decide
    · rw [if_neg a1]
      by_cases a2 : wo ≠ 0 ∧ wo ≤ S (k + 1)
      · rw [if_pos a2]; decide
      · rw [if_neg a2, if_pos ⟨h.1, by omega⟩]; decide
  have w4 : ∀ k : Nat, (k : Int) = 720 → way k ≠ 0 := fun k h => by
    rw [← hwk]; unfold wayN
    by_cases a1 : d0 + (k : Int) = fr
    · rw [if_pos a1]; decide
    · rw [if_neg a1]
      by_cases a2 : wo ≠ 0 ∧ wo ≤ S (k + 1)
      · rw [if_pos a2]; decide
      · rw [if_neg a2]
        by_cases a3 : un = true ∧ d0 + (k : Int) - d0 = 361
        · rw [if_pos a3]; decide
        · rw [if_neg a3, if_pos (by omega)]; decide
  have wv : ∀ k : Nat, way k ≠ 0 → (way k = 1 ∧ d0 + (k : Int) = fr) ∨ (way k = 2 ∧ d0 + (k : Int) ≠ fr ∧ wo ≠ 0 ∧ wo ≤ S (k + 1)) ∨ (way k = 3 ∧ d0 + (k : Int) ≠ fr ∧ ¬ (wo ≠ 0 ∧ wo ≤ S (k + 1)) ∧ un = true ∧ (k : Int) = 361) ∨
      (way k = 4 ∧ d0 + (k : Int) ≠ fr ∧ ¬ (wo ≠ 0 ∧ wo ≤ S (k + 1)) ∧ (k : Int) = 720) := fun k hk => by
    rw [← hwk] at hk ⊢
    unfold wayN at hk ⊢
    split
    · rename_i h; exact .inl ⟨rfl, h⟩
    · rename_i h1
      rw [if_neg h1] at hk
      split
      · rename_i h; exact .inr (.inl ⟨rfl, h1, h⟩)
      · rename_i h2
        rw [if_neg h2] at hk
        split
        · rename_i h; exact .inr (.inr (.inl ⟨rfl, h1, h2, h.1, by omega⟩))
        · rename_i h3
          rw [if_neg h3] at hk
          split
          · rename_i h; exact .inr (.inr (.inr ⟨rfl, h1, h2, by omega⟩))
          · rename_i h4; rw [if_neg h4] at hk; exact absurd rfl hk
  have v1 : fr ≥ 0 → fr ≤ d → ∃ k, k < M ∧ fr = d0 + (k : Int) ∧ way k ≠ 0 := fun a b => by
    obtain ⟨k, hk⟩ : ∃ k : Nat, fr = d0 + (k : Int) := ⟨(fr - d0).toNat, by omega⟩
    exact ⟨k, by omega, hk, by rw [w1 k hk.symm]; decide⟩
  have v2 : mr ≥ 0 → mr ≤ d → ∃ k, k < M ∧ mr = d0 + (k : Int) ∧ (0 < wo ∧ wo ≤ S (k + 1)) ∧ ∀ j, j < k → ¬ wo ≤ S (j + 1) := fun a b => by
    rcases HM.out with ⟨h1, _⟩ | ⟨k, _, g3, g4, g5, g6, g7, g8⟩
    · omega
    · exact ⟨k, by omega, g7, ⟨g5, g6⟩, g8⟩
  rcases HG.out with ⟨hG, hno⟩ | ⟨k, hkM, hne, hG, hpre⟩
  · rw [hG]
    refine (lotK_none fun i hi hc => ?_).symm
    match i, hi with
    | 0, _ =>
      rw [hE1] at hc
      obtain ⟨k, q1, q2, q3⟩ := v1 hc.1 hc.2
      exact q3 (hno k q1)
    | 1, _ =>
      rw [hE2] at hc
      obtain ⟨k, q1, q2, q3, _⟩ := v2 hc.1 hc.2
      exact w2 k ⟨by omega, q3.2⟩ (hno k q1)
    | 2, _ =>
      rw [hE3] at hc
      split at hc
      · rename_i hu
        exact w3 361 ⟨hun.2 hu, rfl⟩ (hno 361 (by clear v1 v2; omega))
      · clear v1 v2; omega
    | 3, _ =>
      rw [hE4] at hc
      exact w4 720 rfl (hno 720 (by clear v1 v2; omega))
  · rw [hG]
    have hle : ∀ j, way j ≠ 0 → k ≤ j := fun j hj => by
      by_cases h : j < k
      · exact absurd (hpre j h) hj
      · omega
    have hk720 : k ≤ 720 := hle 720 (w4 720 rfl)
    have l1 : fr ≥ 0 → fr ≤ d → d0 + (k : Int) ≤ fr := fun a b => by
      obtain ⟨j, q1, q2, q3⟩ := v1 a b
      have := hle j q3; omega
    have l2 : mr ≥ 0 → mr ≤ d → d0 + (k : Int) ≤ mr := fun a b => by
      obtain ⟨j, q1, q2, q3, _⟩ := v2 a b
      have := hle j (w2 j ⟨by omega, q3.2⟩); omega
    have l3 : E.getD 3 0 ≥ 0 → E.getD 3 0 ≤ d → d0 + (k : Int) ≤ E.getD 3 0 ∧ E.getD 3 0 = d0 + 361 := fun a b => by
      rw [hE3] at a b ⊢
      by_cases hu : st < 0 ∨ st > d0 + 360
      · rw [if_pos hu] at a b ⊢
        have := hle 361 (w3 361 ⟨hun.2 hu, rfl⟩)
        exact ⟨by omega, rfl⟩
      · rw [if_neg hu] at a; omega
    have l4 : E.getD 4 0 ≥ 0 → E.getD 4 0 ≤ d → d0 + (k : Int) ≤ E.getD 4 0 := fun a b => by
      rw [hE4]; omega
    have hkd : d0 + (k : Int) ≤ d := by clear v1 v2; omega
    rcases wv k hne with ⟨e, q1⟩ | ⟨e, q1, q2, q3⟩ | ⟨e, q1, q2, q3, q4⟩ | ⟨e, q1, q2, q3⟩
    · rw [e]
      refine (lotK_at (w := 0) (by omega) (by omega) hkd (by rw [hE1, q1]) (fun i hi => by omega) fun i h1 h2 => ?_).symm
      match i, h1, h2 with
      | 1, _, _ => rw [hE2]; exact l2
      | 2, _, _ => exact fun a b => (l3 a b).1
      | 3, _, _ => exact l4
    · rw [e]
      have hmr : mr = d0 + (k : Int) := by
        rcases HM.out with ⟨_, h2⟩ | ⟨j, _, g3, g4, g5, g6, g7, g8⟩
        · exact absurd q3 (h2 k (by omega) hkd (by omega) (by omega))
        · have := hle j (w2 j ⟨by omega, g6⟩)
          by_cases hj : k < j
          · exact absurd q3 (g8 k hj)
          · rw [g7]; omega
      refine (lotK_at (w := 1) (by omega) (by omega) hkd (by rw [hE2, hmr]) (fun i hi => ?_) fun i h1 h2 => ?_).symm
      · match i, hi with
        | 0, _ => rw [hE1]; intro a b; have := l1 a b; clear v1 v2; omega
      · match i, h1, h2 with
        | 2, _, _ => exact fun a b => (l3 a b).1
        | 3, _, _ => exact l4
    · rw [e]
      refine (lotK_at (w := 2) (by omega) (by omega) hkd (by rw [hE3, if_pos (hun.1 q3)]; omega) (fun i hi => ?_) fun i h1 h2 => ?_).symm
      · match i, hi with
        | 0, _ => rw [hE1]; intro a b; have := l1 a b; clear v1 v2; omega
        | 1, _ =>
          rw [hE2]; intro a b
          have := l2 a b
          obtain ⟨j, p1, p2, p3, _⟩ := v2 a b
          by_cases hj : j = k
          · subst hj; exact absurd ⟨by omega, p3.2⟩ q2
          · clear v1 v2; omega
      · match i, h1, h2 with
        | 3, _, _ => exact l4
    · rw [e]
      refine (lotK_at (w := 3) (by omega) (by omega) hkd (by rw [hE4]; omega) (fun i hi => ?_) fun i h1 h2 => by omega).symm
      match i, hi with
      | 0, _ => rw [hE1]; intro a b; have := l1 a b; clear v1 v2; omega
      | 1, _ =>
        rw [hE2]; intro a b
        have := l2 a b
        obtain ⟨j, p1, p2, p3, _⟩ := v2 a b
        by_cases hj : j = k
        · subst hj; exact absurd ⟨by omega, p3.2⟩ q2
        · clear v1 v2; omega
      | 2, _ =>
        intro a b
        have := l3 a b
        clear v1 v2
        omega
theorem lotQ_eq {T N : List (List Int)} (h1 : ∀ x ∈ T, x.length = 24) (hok : ∀ x ∈ T, tarOk x = true) (hN : ∀ n ∈ N, noteOk n = true) {h : List Int} (hhk : heldOk h = true) {d : Int} (hd : 0 ≤ d ∧ d ≤ 100000) :
    lotQ T (sayL N h d) h d = lotN T N h d := by
  have hN' : ∀ n ∈ sayL N h d, noteOk n = true := fun n hn => hN n (List.mem_filter.1 hn).1
  unfold lotQ lotN
  rw [end_lot h1 hok hN hhk hd, own_owr hN', fir_stop hN']
set_option maxRecDepth 100000
set_option maxHeartbeats 2000000
theorem PLe.agg {ps qs : List PV} (h : ∀ im w us, RepL im w ps us → RepL im w qs us) : PLe (.agg ps) (.agg qs) := ⟨fun im w u hr => by
  simp only [RepP] at hr ⊢
  obtain ⟨us, rfl, h1⟩ := hr
  exact ⟨us, rfl, h _ _ _ h1⟩⟩
theorem RepL.leC {a b : PV} {ps qs : List PV} (h : PLe a b) (k : ∀ (im : Nat → Prop) (w : World) (us : List Value), RepL im w ps us → RepL im w qs us) : ∀ (im : Nat → Prop) (w : World) (us : List Value), RepL im w (a :: ps) us → RepL im w (b :: qs) us := fun im w us g => by
  simp only [RepL] at g ⊢
  obtain ⟨x, xs, rfl, h1, h2⟩ := g
  exact ⟨x, xs, rfl, h.h _ _ _ h1, k _ _ _ h2⟩
def zeroTP : PV := .agg (rowP zero9 ++ ([.nil, .nil, .int .i64 0] ++ rowP [0, 0, 0, 0]))
theorem zeroTP_le : PLe zeroTP (toldP zero9 [] [] 0 [0, 0, 0, 0]) := PLe.agg (by
  iterate 9 (refine RepL.leC (PLe.refl _) ?_)
  exact RepL.leC (PLe.nil 24) (RepL.leC (PLe.nil 7) (fun im w us h => h)))
def tolN (T H N : List (List Int)) (id d : Int) : PV :=
  if (staN T H N id d).2 = 0 then toldP (staN T H N id d).1 T (sayL N (staN T H N id d).1 d) d (lotN T N (staN T H N id d).1 d) else toldP zero9 [] [] 0 [0, 0, 0, 0]
theorem askE_or (T H N : List (List Int)) (d : Int) : orE [err (accOk T H N) 63, err (inB d 0 100000) 6] = askE T H N d := by
  unfold askE err
  cases accOk T H N <;> cases inB d 0 100000 <;> rfl
theorem oneOf_does {T H N : List (List Int)} (h1 : ∀ x ∈ T, x.length = 24) (h2 : ∀ x ∈ H, x.length = 9) (h3 : ∀ x ∈ N, x.length = 7) (id d : Int) :
    Does Try.prog 16 [accP T H N, .int .i64 id, .int .i64 d] (.tup [tolN T H N id d, .int .i64 (staN T H N id d).2]) := by
  obtain ⟨R, hR⟩ : ∃ R, PV.tup [tolN T H N id d, .int .i64 (staN T H N id d).2] = R := ⟨_, rfl⟩
  rw [hR]
  refine does_of (own := inPl) Try.func16 rfl Try.ntmps16 (congrArg Array.toList Try.results16) (fun us w => Try.call16 us w) hTT mixed (Nat.le_of_ble_eq_true rfl) ?_
  intro w0 im0 D0 S Cl hS hC ar har
  have har' := har
  obtain ⟨ai, ab, nz, inr, fi, pk, ix, ln, sb, eqi, sl, fits, mn, mx, nt, be, up, fu, mg, mh, ms⟩ := ar
  have F := facts_of har
  clear har
  have hCk := pcheck_does h1 h2 h3
  have hDy := checkDay_does d
  have hOr := orE_does [err (accOk T H N) 63, err (inB d 0 100000) 6]
  rw [askE_or] at hOr
  have hAok := @askE_ok T H N d
  have hcnt := fun (k u : Int) => counts_does k u d
  have htell : askE T H N d = 0 → ∀ x ∈ H, Does Try.prog 36 [accP T H N, .agg (rowP x), .int .i64 d] (toldP x T (sayL N x d) d (lotN T N x d)) := fun h x hx => by
    obtain ⟨ha, hd⟩ := hAok h
    have := tell_does h1 h2 h3 ha (h2 x hx) (accOk_H ha x hx) d hd
    rwa [lotQ_eq h1 (accOk_T ha) (accOk_N ha) (accOk_H ha x hx) hd] at this
  have hAlen : askE T H N d = 0 → H.length ≤ 60 := fun h => (accOk_len (hAok h).1).2.1
  have hRe : askE T H N d ≠ 0 → R = .tup [toldP zero9 [] [] 0 [0, 0, 0, 0], .int .i64 (askE T H N d)] := fun h => by
    rw [← hR]; unfold tolN staN; rw [if_neg h, if_neg h]
  have hRn : askE T H N d = 0 → H.find? (staP id d) = none → R = .tup [toldP zero9 [] [] 0 [0, 0, 0, 0], .int .i64 65] := fun h hf => by
    rw [← hR]; unfold tolN staN; rw [if_pos h, hf]; rfl
  have hRs : askE T H N d = 0 → ∀ x, H.find? (staP id d) = some x → R = .tup [toldP x T (sayL N x d) d (lotN T N x d), .int .i64 0] := fun h x hf => by
    rw [← hR]; unfold tolN staN; rw [if_pos h, hf]; rfl
  clear hR hAok
  generalize err (accOk T H N) 63 = e1 at *
  generalize err (inB d 0 100000) 6 = e2 at *
  generalize askE T H N d = q at *
  obtain ⟨eT, hT1⟩ : ∃ es, T.map rowP = es := ⟨_, rfl⟩
  obtain ⟨eH, hH1⟩ : ∃ es, H.map rowP = es := ⟨_, rfl⟩
  obtain ⟨eN, hN1⟩ : ∃ es, N.map rowP = es := ⟨_, rfl⟩
  obtain ⟨fp, hfp⟩ : ∃ fp, staP id d = fp := ⟨_, rfl⟩
  have hfpd : ∀ h, fp h = (h.getD 0 0 == id && cntB (h.getD 7 0) (h.getD 8 0) d) := fun h => by rw [← hfp]; rfl
  rw [hfp] at hRn hRs
  simp only [accP, hT1, hH1, hN1] at hCk htell ⊢
  cbv
  refine ⟨_, hC _ _ _ hCk, ?_⟩; cbv
  refine ⟨_, hC _ _ _ hDy, ?_⟩; cbv
  refine ⟨_, hC _ _ _ hOr, ?_⟩; cbv
  cases c0 : ab .neq q 0
  · have hq : q = 0 := by rw [F.neq] at c0; simpa using c0
    have hHl := hAlen hq
    have htell := htell hq
    have hRn := hRn hq
    have hRs := hRs hq
    clear hAlen hRe
    have hlnH : ln eH = H.length := by rw [F.ln, ← hH1]; simp
    cbv
    refine hS _ _ _ (sem_loop (fun x : Nat × Int => [sI 1 id, sI 2 d, sP 3 3, sP 6 6, sL 22 9 eH, sI 23 (ln eH), sI 24 x.2, bX 3 32 [cL 24 eT, cL 9 eH, cL 7 eN], bX 6 73 [cI 0, cI 0, cI 0, cI 0, cI 0, cI 0, cI 0, cI 0, cI 0, CV.p .nil, CV.p .nil, cI 0, cI 0, cI 0, cI 0, cI 0]]) (fun x => x.1 ≤ H.length ∧ x.2 = (x.1 : Int) ∧ (H.drop x.1).find? fp = H.find? fp) (fun x => H.length - x.1) (fun t => t) (0, 0) (fun t => t) ⟨by rfl, by cbv; try (repeat (first | exact rfl | exact trivial | refine ⟨?_, ?_⟩))⟩ ?_ ?_)
    · exact ⟨by simp, rfl, by simp⟩
    rintro ⟨m, r⟩ ⟨hm, hr, hf⟩
    dsimp only at hm hr hf
    have hradd : ai .add r 1 = ((m + 1 : Nat) : Int) := by rw [F.add r 1 (by omega) (by omega), hr]; simp
    refine sem_of (X := ⟨_, TT, ⟨0, 46, inPl⟩⟩) har' hTT mixed ?_
    intro S1 Cl1 hS1 hC1
    cbv
    by_cases hlt : m < H.length
    · have hb1 : ab .lss r (ln eH) = true := by rw [hlnH, F.lss, hr]; simpa using hlt
      have hg : ix eH r = some (rowP H[m]) := by rw [F.ix _ r m hr, ← hH1]; exact get_rows hlt
      have hmem := List.getElem_mem hlt
      rw [List.drop_eq_getElem_cons hlt] at hf
      have hte := htell _ hmem
      have hyes : fp H[m] = true → R = .tup [toldP H[m] T (sayL N H[m] d) d (lotN T N H[m] d), .int .i64 0] := fun h => hRs _ (by rw [← hf, List.find?_cons_of_pos h])
      have hno : fp H[m] = false → (H.drop (m + 1)).find? fp = H.find? fp := fun h => by rw [← hf, List.find?_cons_of_neg (by simp [h])]
      obtain ⟨x0, x1, x2, x3, x4, x5, x6, x7, x8, hx⟩ := list9 (h2 _ hmem)
      rw [hfpd, hx] at hyes hno
      rw [hx] at hg hte
      simp only [List.getD_cons_succ, List.getD_cons_zero] at hyes hno
      obtain ⟨l0, l1, l2, l3, hlo⟩ : ∃ l0 l1 l2 l3, lotN T N [x0, x1, x2, x3, x4, x5, x6, x7, x8] d = [l0, l1, l2, l3] := ⟨_, _, _, _, rfl⟩
      obtain ⟨eS, hS1⟩ : ∃ es, (sayL N [x0, x1, x2, x3, x4, x5, x6, x7, x8] d).map rowP = es := ⟨_, rfl⟩
      rw [hlo] at hte hyes
      simp only [toldP, hT1, hS1] at hte hyes
      have hc := hcnt x7 x8
      obtain ⟨cb, h4⟩ : ∃ z, cntB x7 x8 d = z := ⟨_, rfl⟩
      rw [h4] at hc hyes hno
      have hno2 : ab .eql x0 id = false → (H.drop (m + 1)).find? fp = H.find? fp := fun h => hno (by rw [F.eql] at h; simp at h; simp [h])
      have hno3 : cb = false → (H.drop (m + 1)).find? fp = H.find? fp := fun h => hno (by simp [h])
      have hyes2 : ab .eql x0 id = true → cb = true → R = .tup [.agg (rowP [x0, x1, x2, x3, x4, x5, x6, x7, x8] ++ ([.list 24 eT, .list 7 eS, .int .i64 d] ++ rowP [l0, l1, l2, l3])), .int .i64 0] := fun h h' => hyes (by rw [F.eql] at h; simp at h; simp [h, h'])
      clear hyes hno htell hRs hRn
      rw [hb1]; cbv
      repeat (rw [hg]; cbv)
      cases c1 : ab .eql x0 id
      · cbv
        exact ⟨(m + 1, ai .add r 1), ⟨hlt, hradd, hno2 c1⟩, by dsimp only; omega, ⟨by rfl, by cbv; try (repeat (first | exact rfl | exact trivial | refine ⟨?_, ?_⟩))⟩⟩
      · cbv
        refine ⟨_, hC1 _ _ _ hc, ?_⟩; cbv
        cases cb
        · cbv
          exact ⟨(m + 1, ai .add r 1), ⟨hlt, hradd, hno3 rfl⟩, by dsimp only; omega, ⟨by rfl, by cbv; try (repeat (first | exact rfl | exact trivial | refine ⟨?_, ?_⟩))⟩⟩
        · cbv
          refine ⟨_, hC1 _ _ _ hte, ?_⟩; cbv
          exact PLe.of_eq (hyes2 c1 rfl).symm
    · have hb1 : ab .lss r (ln eH) = false := by rw [hlnH, F.lss, hr]; simpa using hlt
      have hnone : H.find? fp = none := by rw [← hf, List.drop_of_length_le (by omega)]; rfl
      rw [hb1]; cbv
      rw [hRn hnone]
      exact PLe.tup2 zeroTP_le (PLe.refl _)
  · have hq : q ≠ 0 := by rw [F.neq] at c0; simpa using c0
    cbv
    rw [hRe hq]
    exact PLe.tup2 zeroTP_le (PLe.refl _)
theorem lotN_stop {T N : List (List Int)} (h1 : ∀ x ∈ T, x.length = 24) (hok : ∀ x ∈ T, tarOk x = true) (hN : ∀ n ∈ N, noteOk n = true) {h : List Int} (hhk : heldOk h = true) {d : Int} (hd : 0 ≤ d ∧ d ≤ 100000) : -1 ≤ (lotN T N h d).getD 1 0 := by
  rw [← lotQ_eq h1 hok hN hhk hd]
  exact (firN_in [1, 3] fun n hn => hN n (List.mem_filter.1 hn).1).1
theorem chgQ_eq {T N : List (List Int)} {h : List Int} {d : Int} (hd : 0 ≤ d ∧ d ≤ 100000) : chgQ T h d (lotN T N h d) = chgN T N h d := by
  unfold chgQ chgN
  by_cases hl : d < h.getD 6 0
  · have h2 := lotN_day T N h d
    have hlas : lasN (lotN T N h d) d ≤ d := by
      unfold lasN
      split
      · omega
      · split <;> omega
    have e : dayL (h.getD 6 0) (lasN (lotN T N h d) d) = [] := by
      unfold dayL dayK
      rw [show (lasN (lotN T N h d) d - h.getD 6 0 + 1).toNat = 0 by omega]; rfl
    rw [if_pos hl, if_neg (by omega), e]; rfl
  · rw [if_neg hl, if_pos (by omega)]
theorem dueQ_eq {T N : List (List Int)} {h : List Int} {d : Int} (hd : 0 ≤ d ∧ d ≤ 100000) : dueQ T h d (lotN T N h d) = dueN T N h d := by
  unfold dueQ dueN payQ
  rw [chgQ_eq hd]
  by_cases h2 : (lotN T N h d).getD 2 0 = 2
  · rw [if_pos h2, if_pos h2]
  · rw [if_neg h2, if_neg h2]
    by_cases h3 : (lotN T N h d).getD 2 0 = 3 ∨ (lotN T N h d).getD 0 0 = 0
    · rw [if_pos h3, if_pos h3]
      unfold dueP
      simp
    · rw [if_neg h3, if_neg h3]
structure Good (T N : List (List Int)) (h : List Int) (d : Int) : Prop where
  len : h.length = 9
  held : heldOk h = true
  tar : ∀ x ∈ T, tarOk x = true
  note : ∀ x ∈ N, noteOk x = true
  day : 0 ≤ d ∧ d ≤ 100000
  sixty : N.length ≤ 60
theorem good_of {T H N : List (List Int)} (h2 : ∀ x ∈ H, x.length = 9) {id d : Int} (h : (staN T H N id d).2 = 0) : Good T N (staN T H N id d).1 d := by
  obtain ⟨a, b, c, e, _⟩ := staN_ok h
  exact ⟨h2 _ c, e, accOk_T a, accOk_N a, b, (accOk_len a).2.2⟩
theorem Good.charge {T N : List (List Int)} {h : List Int} {d : Int} (g : Good T N h d) (h1 : ∀ x ∈ T, x.length = 24) (h3 : ∀ x ∈ N, x.length = 7) :
    Does Try.prog 17 [toldP h T (sayL N h d) d (lotN T N h d)] (.agg (rowP (chgN T N h d))) := by
  have hday := lotN_day T N h d
  have := g.day
  have hl := lasN_in T N h g.day
  rw [← chgQ_eq g.day]
  exact charge_does h1 (fun x hx => h3 x (List.mem_filter.1 hx).1) g.tar g.len g.held rfl (lotN_stop h1 g.tar g.note g.held g.day) (by omega) (by omega)
theorem Good.due {T N : List (List Int)} {h : List Int} {d : Int} (g : Good T N h d) (h1 : ∀ x ∈ T, x.length = 24) (h3 : ∀ x ∈ N, x.length = 7) :
    Does Try.prog 26 [toldP h T (sayL N h d) d (lotN T N h d)] (.agg (rowP (dueN T N h d))) := by
  have hday := lotN_day T N h d
  have := g.day
  have hl := lasN_in T N h g.day
  have hc := chgN_in (N := N) h1 g.tar g.held g.day
  rw [← dueQ_eq g.day]
  exact pdue_does h1 (fun x hx => h3 x (List.mem_filter.1 hx).1) g.tar g.len g.held rfl (lotN_stop h1 g.tar g.note g.held g.day) (by omega) (by omega) (lotN_own g.note h d) (by rw [chgQ_eq g.day]; unfold chIn; omega)
section
variable {T H N : List (List Int)} (h1 : ∀ x ∈ T, x.length = 24) (h2 : ∀ x ∈ H, x.length = 9) (h3 : ∀ x ∈ N, x.length = 7)
include h1 h2 h3
theorem pLot_does (id d : Int) : Does Try.prog 8 [accP T H N, .int .i64 id, .int .i64 d] (.tup [.agg (rowP (lotR T H N id d).1), .int .i64 (lotR T H N id d).2]) := by
  obtain ⟨R, hR⟩ : ∃ R, PV.tup [.agg (rowP (lotR T H N id d).1), .int .i64 (lotR T H N id d).2] = R := ⟨_, rfl⟩
  rw [hR]
  have ho := oneOf_does h1 h2 h3 id d
  have hg := @good_of T H N h2 id d
  unfold lotR stR at hR
  unfold tolN at ho
  obtain ⟨⟨s, e⟩, hp⟩ : ∃ p, staN T H N id d = p := ⟨_, rfl⟩
  rw [hp] at ho hg hR
  dsimp only at ho hg hR
  refine does_of (own := inPl) Try.func8 rfl Try.ntmps8 (congrArg Array.toList Try.results8) (fun us w => Try.call8 us w) hTT mixed (Nat.le_of_ble_eq_true rfl) ?_
  intro w0 im0 D0 S Cl hS hC ar har
  have har' := har
  obtain ⟨ai, ab, nz, inr, fi, pk, ix, ln, sb, eqi, sl, fits, mn, mx, nt, be, up, fu, mg, mh, ms⟩ := ar
  have F := facts_of har
  clear har
  obtain ⟨eT, hT1⟩ : ∃ es, T.map rowP = es := ⟨_, rfl⟩
  obtain ⟨eH, hH1⟩ : ∃ es, H.map rowP = es := ⟨_, rfl⟩
  obtain ⟨eN, hN1⟩ : ∃ es, N.map rowP = es := ⟨_, rfl⟩
  obtain ⟨l0, l1, l2, l3, hlo⟩ : ∃ l0 l1 l2 l3, lotN T N s d = [l0, l1, l2, l3] := ⟨_, _, _, _, rfl⟩
  obtain ⟨eS, hS1⟩ : ∃ es, (sayL N s d).map rowP = es := ⟨_, rfl⟩
  rw [hlo] at ho hR
  simp only [accP, toldP, hT1, hH1, hN1, hS1] at ho ⊢
  by_cases he : e = 0
  · have g := hg he
    rw [if_pos he] at ho hR
    obtain ⟨x0, x1, x2, x3, x4, x5, x6, x7, x8, rfl⟩ := list9 g.len
    clear hS1 hp hlo hg g
    cbv
    refine ⟨_, hC _ _ _ ho, ?_⟩; cbv
    rw [← hR, he]
    exact PLe.refl _
  · rw [if_neg he] at ho hR
    clear hS1 hp hlo hg
    cbv
    refine ⟨_, hC _ _ _ ho, ?_⟩; cbv
    rw [← hR]
    exact PLe.refl _
theorem pCharged_does (id d : Int) : Does Try.prog 9 [accP T H N, .int .i64 id, .int .i64 d] (.tup [.agg (rowP (stR [0, 0, 0] (fun h => chgN T N h d) (staN T H N id d)).1), .int .i64 (stR [0, 0, 0] (fun h => chgN T N h d) (staN T H N id d)).2]) := by
  obtain ⟨R, hR⟩ : ∃ R, PV.tup [.agg (rowP (stR [0, 0, 0] (fun h => chgN T N h d) (staN T H N id d)).1), .int .i64 (stR [0, 0, 0] (fun h => chgN T N h d) (staN T H N id d)).2] = R := ⟨_, rfl⟩
  rw [hR]
  have ho := oneOf_does h1 h2 h3 id d
  have hg := @good_of T H N h2 id d
  unfold stR at hR
  unfold tolN at ho
  obtain ⟨⟨s, e⟩, hp⟩ : ∃ p, staN T H N id d = p := ⟨_, rfl⟩
  rw [hp] at ho hg hR
  dsimp only at ho hg hR
  have hk := fun (h : e = 0) => (hg h).charge h1 h3
  obtain ⟨g0, g1, g2, hcg⟩ : ∃ g0 g1 g2, chgN T N s d = [g0, g1, g2] := by unfold chgN; split <;> exact ⟨_, _, _, rfl⟩
  rw [hcg] at hk hR
  refine does_of (own := inPl) Try.func9 rfl Try.ntmps9 (congrArg Array.toList Try.results9) (fun us w => Try.call9 us w) hTT mixed (Nat.le_of_ble_eq_true rfl) ?_
  intro w0 im0 D0 S Cl hS hC ar har
  have har' := har
  obtain ⟨ai, ab, nz, inr, fi, pk, ix, ln, sb, eqi, sl, fits, mn, mx, nt, be, up, fu, mg, mh, ms⟩ := ar
  have F := facts_of har
  clear har
  obtain ⟨eT, hT1⟩ : ∃ es, T.map rowP = es := ⟨_, rfl⟩
  obtain ⟨eH, hH1⟩ : ∃ es, H.map rowP = es := ⟨_, rfl⟩
  obtain ⟨eN, hN1⟩ : ∃ es, N.map rowP = es := ⟨_, rfl⟩
  obtain ⟨l0, l1, l2, l3, hlo⟩ : ∃ l0 l1 l2 l3, lotN T N s d = [l0, l1, l2, l3] := ⟨_, _, _, _, rfl⟩
  obtain ⟨eS, hS1⟩ : ∃ es, (sayL N s d).map rowP = es := ⟨_, rfl⟩
  rw [hlo] at ho hk
  simp only [accP, toldP, hT1, hH1, hN1, hS1] at ho hk ⊢
  by_cases he : e = 0
  · have g := hg he
    have hk := hk he
    rw [if_pos he] at ho hR
    have hc : ab .neq e 0 = false := by rw [F.neq, he]; rfl
    obtain ⟨x0, x1, x2, x3, x4, x5, x6, x7, x8, rfl⟩ := list9 g.len
    clear hS1 hp hlo hg g
    cbv
    refine ⟨_, hC _ _ _ ho, ?_⟩; cbv
    rw [hc]; cbv
    refine ⟨_, hC _ _ _ hk, ?_⟩; cbv
    rw [← hR]
    exact PLe.refl _
  · rw [if_neg he] at ho hR
    have hc : ab .neq e 0 = true := by rw [F.neq]; simpa using he
    clear hS1 hp hlo hg hk
    cbv
    refine ⟨_, hC _ _ _ ho, ?_⟩; cbv
    rw [hc]; cbv
    rw [← hR]
    exact PLe.refl _
theorem pDues_does (id d : Int) : Does Try.prog 11 [accP T H N, .int .i64 id, .int .i64 d] (.tup [.agg (rowP (stR [0, 0, 0, 0] (fun h => dueN T N h d) (staN T H N id d)).1), .int .i64 (stR [0, 0, 0, 0] (fun h => dueN T N h d) (staN T H N id d)).2]) := by
  obtain ⟨R, hR⟩ : ∃ R, PV.tup [.agg (rowP (stR [0, 0, 0, 0] (fun h => dueN T N h d) (staN T H N id d)).1), .int .i64 (stR [0, 0, 0, 0] (fun h => dueN T N h d) (staN T H N id d)).2] = R := ⟨_, rfl⟩
  rw [hR]
  have ho := oneOf_does h1 h2 h3 id d
  have hg := @good_of T H N h2 id d
  unfold stR at hR
  unfold tolN at ho
  obtain ⟨⟨s, e⟩, hp⟩ : ∃ p, staN T H N id d = p := ⟨_, rfl⟩
  rw [hp] at ho hg hR
  dsimp only at ho hg hR
  have hk := fun (h : e = 0) => (hg h).due h1 h3
  obtain ⟨g0, g1, g2, g3, hcg⟩ : ∃ g0 g1 g2 g3, dueN T N s d = [g0, g1, g2, g3] := by
    unfold dueN dueP; split
    · exact ⟨_, _, _, _, rfl⟩
    · split <;> exact ⟨_, _, _, _, rfl⟩
  rw [hcg] at hk hR
  refine does_of (own := inPl) Try.func11 rfl Try.ntmps11 (congrArg Array.toList Try.results11) (fun us w => Try.call11 us w) hTT mixed (Nat.le_of_ble_eq_true rfl) ?_
  intro w0 im0 D0 S Cl hS hC ar har
  have har' := har
  obtain ⟨ai, ab, nz, inr, fi, pk, ix, ln, sb, eqi, sl, fits, mn, mx, nt, be, up, fu, mg, mh, ms⟩ := ar
  have F := facts_of har
  clear har
  obtain ⟨eT, hT1⟩ : ∃ es, T.map rowP = es := ⟨_, rfl⟩
  obtain ⟨eH, hH1⟩ : ∃ es, H.map rowP = es := ⟨_, rfl⟩
  obtain ⟨eN, hN1⟩ : ∃ es, N.map rowP = es := ⟨_, rfl⟩
  obtain ⟨l0, l1, l2, l3, hlo⟩ : ∃ l0 l1 l2 l3, lotN T N s d = [l0, l1, l2, l3] := ⟨_, _, _, _, rfl⟩
  obtain ⟨eS, hS1⟩ : ∃ es, (sayL N s d).map rowP = es := ⟨_, rfl⟩
  rw [hlo] at ho hk
  simp only [accP, toldP, hT1, hH1, hN1, hS1] at ho hk ⊢
  by_cases he : e = 0
  · have g := hg he
    have hk := hk he
    rw [if_pos he] at ho hR
    have hc : ab .neq e 0 = false := by rw [F.neq, he]; rfl
    obtain ⟨x0, x1, x2, x3, x4, x5, x6, x7, x8, rfl⟩ := list9 g.len
    clear hS1 hp hlo hg g
    cbv
    refine ⟨_, hC _ _ _ ho, ?_⟩; cbv
    rw [hc]; cbv
    refine ⟨_, hC _ _ _ hk, ?_⟩; cbv
    rw [← hR]
    exact PLe.refl _
  · rw [if_neg he] at ho hR
    have hc : ab .neq e 0 = true := by rw [F.neq]; simpa using he
    clear hS1 hp hlo hg hk
    cbv
    refine ⟨_, hC _ _ _ ho, ?_⟩; cbv
    rw [hc]; cbv
    rw [← hR]
    exact PLe.refl _
end
def tolC (h : List Int) (T N : List (List Int)) (d : Int) : List PV := rowP h ++ ([.list 24 (T.map rowP), .list 7 ((sayL N h d).map rowP), .int .i64 d] ++ rowP (lotN T N h d))
def tolL (T H N : List (List Int)) (d : Int) : List (List PV) := (H.filter (cntH d)).map fun h => tolC h T N d
theorem tellAll_does {T H N : List (List Int)} (h1 : ∀ x ∈ T, x.length = 24) (h2 : ∀ x ∈ H, x.length = 9) (h3 : ∀ x ∈ N, x.length = 7) {d : Int} (hq : askE T H N d = 0) :
    Does Try.prog 32 [accP T H N, .int .i64 d] (.list 16 (tolL T H N d)) := by
  obtain ⟨V, hV⟩ : ∃ V, PV.list 16 (tolL T H N d) = V := ⟨_, rfl⟩
  rw [hV]
  obtain ⟨ha, hd⟩ := askE_ok hq
  have h60 := (accOk_len ha).2.1
  have htell : ∀ x ∈ H, Does Try.prog 36 [accP T H N, .agg (rowP x), .int .i64 d] (.agg (tolC x T N d)) := fun x hx => by
    have := tell_does h1 h2 h3 ha (h2 x hx) (accOk_H ha x hx) d hd
    rwa [lotQ_eq h1 (accOk_T ha) (accOk_N ha) (accOk_H ha x hx) hd] at this
  have hcnt := fun (k u : Int) => counts_does k u d
  have hTK : ∀ k, k < H.length → tolL T (H.take (k + 1)) N d = if cntH d (H.getD k []) = true then tolL T (H.take k) N d ++ [tolC (H.getD k []) T N d] else tolL T (H.take k) N d := fun k hk => by
    unfold tolL
    rw [take_last hk, List.filter_append, List.getD_eq_getElem?_getD, List.getElem?_eq_getElem hk, Option.getD_some]
    by_cases hc : cntH d H[k] = true
    · simp [hc]
    · simp [hc]
  have hTlen : ∀ k, (tolL T (H.take k) N d).length ≤ H.length := fun k => by
    unfold tolL
    have := List.length_filter_le (cntH d) (H.take k)
    simp only [List.length_map, List.length_take] at this ⊢; omega
  have hTall : tolL T (H.take H.length) N d = tolL T H N d := by rw [List.take_length]
  have hT0 : tolL T (H.take 0) N d = [] := rfl
  obtain ⟨tk, htk⟩ : ∃ tk : Nat → List (List PV), (fun k => tolL T (H.take k) N d) = tk := ⟨_, rfl⟩
  have htkd : ∀ k, tolL T (H.take k) N d = tk k := fun k => by rw [← htk]
  rw [← hTall] at hV
  simp only [htkd] at hTK hTlen hT0 hV
  clear htkd htk hTall
  refine does_of (own := inPl) Try.func32 rfl Try.ntmps32 (congrArg Array.toList Try.results32) (fun us w => Try.call32 us w) hTT mixed (Nat.le_of_ble_eq_true rfl) ?_
  intro w0 im0 D0 S Cl hS hC ar har
  have har' := har
  obtain ⟨ai, ab, nz, inr, fi, pk, ix, ln, sb, eqi, sl, fits, mn, mx, nt, be, up, fu, mg, mh, ms⟩ := ar
  have F := facts_of har
  clear har
  obtain ⟨eT, hT1⟩ : ∃ es, T.map rowP = es := ⟨_, rfl⟩
  obtain ⟨eH, hH1⟩ : ∃ es, H.map rowP = es := ⟨_, rfl⟩
  obtain ⟨eN, hN1⟩ : ∃ es, N.map rowP = es := ⟨_, rfl⟩
  have hlnH : ln eH = H.length := by rw [F.ln, ← hH1]; simp
  simp only [accP, hT1, hH1, hN1] at htell ⊢
  cbv
  refine hS _ _ _ (sem_mkRow 5 1000 73 16 (by rfl) (by rfl) (sem_loopR (fun x : Nat × Int × List (List PV) => [sI 1 d, sP 2 2, sR 5 1000, sL 9 9 eH, sI 10 (ln eH), sI 11 x.2.1, bX 2 32 [cL 24 eT, cL 9 eH, cL 7 eN], rW 1000 73 16 x.2.2]) (fun x => x.1 ≤ H.length ∧ x.2.1 = (x.1 : Int) ∧ x.2.2 = tk x.1) (fun x => H.length - x.1) (0, 0, []) (fun t => t) ⟨by rfl, by cbv; try (repeat (first | exact rfl | exact trivial | refine ⟨?_, ?_⟩))⟩ ?_ ?_))
  · exact ⟨by simp, rfl, hT0.symm⟩
  rintro ⟨m, r, es⟩ ⟨hm, hr, hes⟩
  dsimp only at hm hr hes
  have hradd : ai .add r 1 = ((m + 1 : Nat) : Int) := by rw [F.add r 1 (by omega) (by omega), hr]; simp
  have hfit : ∀ x, fits 160 es [x] = true := fun x => F.fits _ _ _ (by
    have := hTlen m
    rw [hes]; simp only [List.length_singleton]; omega)
  refine sem_of (X := ⟨_, TT, ⟨0, 30, inPl⟩⟩) har' hTT mixed ?_
  intro S1 Cl1 hS1 hC1
  cbv
  by_cases hlt : m < H.length
  · have hb1 : ab .lss r (ln eH) = true := by rw [hlnH, F.lss, hr]; simpa using hlt
    have hg : ix eH r = some (rowP H[m]) := by rw [F.ix _ r m hr, ← hH1]; exact get_rows hlt
    have hte := htell _ (List.getElem_mem hlt)
    have hnext := hTK m hlt
    rw [List.getD_eq_getElem?_getD, List.getElem?_eq_getElem hlt, Option.getD_some] at hnext
    obtain ⟨x0, x1, x2, x3, x4, x5, x6, x7, x8, hx⟩ := list9 (h2 _ (List.getElem_mem hlt))
    rw [hx] at hg hte hnext
    obtain ⟨l0, l1, l2, l3, hlo⟩ : ∃ l0 l1 l2 l3, lotN T N [x0, x1, x2, x3, x4, x5, x6, x7, x8] d = [l0, l1, l2, l3] := ⟨_, _, _, _, rfl⟩
    obtain ⟨eS, hS1⟩ : ∃ es, (sayL N [x0, x1, x2, x3, x4, x5, x6, x7, x8] d).map rowP = es := ⟨_, rfl⟩
    simp only [tolC, hlo, hT1, hS1, cntH, List.getD_cons_succ, List.getD_cons_zero] at hte hnext
    have hc := hcnt x7 x8
    obtain ⟨cb, h4⟩ : ∃ z, cntB x7 x8 d = z := ⟨_, rfl⟩
    rw [h4] at hc hnext
    have hyes : cb = true → es ++ [rowP [x0, x1, x2, x3, x4, x5, x6, x7, x8] ++ ([.list 24 eT, .list 7 eS, .int .i64 d] ++ rowP [l0, l1, l2, l3])] = tk (m + 1) := fun h => by rw [hnext, if_pos h, hes]
    have hno : cb = false → es = tk (m + 1) := fun h => by rw [hnext, if_neg (by simp [h]), hes]
    clear hnext htell hTK hTlen
    rw [hb1]; cbv
    repeat (rw [hg]; cbv)
    refine ⟨_, hC1 _ _ _ hc, ?_⟩; cbv
    cases cb
    · cbv
      exact ⟨(m + 1, ai .add r 1, es), (fun t => t), ⟨hlt, hradd, hno rfl⟩, by dsimp only; omega, ⟨by rfl, by cbv; try (repeat (first | exact rfl | exact trivial | refine ⟨?_, ?_⟩))⟩⟩
    · cbv
      refine ⟨_, hC1 _ _ _ hte, ?_⟩; cbv
      rw [hfit]; cbv
      exact ⟨(m + 1, ai .add r 1, es ++ [rowP [x0, x1, x2, x3, x4, x5, x6, x7, x8] ++ ([.list 24 eT, .list 7 eS, .int .i64 d] ++ rowP [l0, l1, l2, l3])]), (fun t => bif Nat.beq t 1000 then 27 else t), ⟨hlt, hradd, hyes rfl⟩, by dsimp only; omega, ⟨by rfl, by cbv; try (repeat (first | exact rfl | exact trivial | refine ⟨?_, ?_⟩))⟩⟩
  · have hb1 : ab .lss r (ln eH) = false := by rw [hlnH, F.lss, hr]; simpa using hlt
    have hmE : m = H.length := by omega
    rw [hb1]; cbv
    subst hV
    refine PLe.of_eq ?_
    rw [hes, hmE]
end Go.Proofs.Ytjimjdhdnkhfnaa

namespace Go.Proofs.Ytjimjdhdnkhfnaa
open Go Go.RowKit
set_option maxRecDepth 100000
set_option maxHeartbeats 2000000
theorem tolL_len (T H N : List (List Int)) (d : Int) : (H.filter (cntH d)).length ≤ H.length := List.length_filter_le ..
theorem find_srt : ∀ (H : List (List Int)) (id : Int) (p : List Int → Bool) (h : List Int), (∀ i j, i < j → j < H.length → (H.getD i []).getD 0 0 < (H.getD j []).getD 0 0) → h ∈ H → h.getD 0 0 = id → p h = true → (∀ x, p x = true → x.getD 0 0 = id) → H.find? p = some h
  | [], _, _, _, _, hm, _, _, _ => absurd hm (by simp)
  | a :: H, id, p, h, hs, hm, hid, hp, hpi => by
    rcases List.mem_cons.1 hm with rfl | hm'
    · exact List.find?_cons_of_pos hp
    · obtain ⟨j, hj, rfl⟩ := List.mem_iff_getElem.1 hm'
      have hlt := hs 0 (j + 1) (by omega) (by simp; omega)
      simp only [List.getD_cons_zero, List.getD_cons_succ] at hlt
      rw [show H.getD j [] = H[j] by simp [List.getD, hj]] at hlt
      have hna : ¬ p a = true := fun h => by have := hpi a h; omega
      rw [List.find?_cons_of_neg hna]
      refine find_srt H id p _ (fun i k h1 h2 => ?_) hm' hid hp hpi
      have := hs (i + 1) (k + 1) (by omega) (by simp; omega)
      simpa using this
theorem ls_srt {ok : List Int → Bool} {m : Nat} {L : List (List Int)} (h : lsOk ok m L = true) : ∀ i j, i < j → j < L.length → (L.getD i []).getD 0 0 < (L.getD j []).getD 0 0 := by
  have step : ∀ j, j + 1 < L.length → (L.getD j []).getD 0 0 < (L.getD (j + 1) []).getD 0 0 := fun j hj => by
    unfold lsOk lsK at h
    simp only [Bool.and_eq_true, List.all_eq_true] at h
    have := h.2 (j + 1) (List.mem_range.2 hj)
    unfold lsAt at this
    simp only [Bool.and_eq_true, Bool.or_eq_true, beq_iff_eq, decide_eq_true_eq, Nat.add_sub_cancel] at this
    omega
  intro i j hij
  induction j with
  | zero => omega
  | succ j ih =>
    intro hj
    have := step j hj
    by_cases he : i = j
    · subst he; exact this
    · have := ih (by omega) (by omega); omega
theorem sta_of {T H N : List (List Int)} {d : Int} (hq : askE T H N d = 0) {h : List Int} (hm : h ∈ H) (hc : cntH d h = true) : staN T H N (h.getD 0 0) d = (h, 0) := by
  have ha := (askE_ok hq).1
  unfold accOk at ha
  simp only [Bool.and_eq_true] at ha
  unfold staN
  rw [if_pos hq, find_srt H (h.getD 0 0) (staP (h.getD 0 0) d) h (ls_srt ha.2.1) hm rfl (by unfold staP; unfold cntH at hc; rw [hc]; simp) (fun x hx => by unfold staP at hx; simp only [Bool.and_eq_true, beq_iff_eq] at hx; exact hx.1)]
theorem orE3 (T H N : List (List Int)) (d : Int) (ok : Bool) : orE [err (accOk T H N) 63, err ok 1, err (inB d 0 100000) 6] = thrE T H N ok d := by
  unfold thrE askE err
  cases accOk T H N <;> cases inB d 0 100000 <;> cases ok <;> rfl
theorem thrE_ok {T H N : List (List Int)} {d : Int} {ok : Bool} (h : thrE T H N ok d = 0) : askE T H N d = 0 ∧ ok = true := by
  unfold thrE at h
  split at h
  · split at h
    · exact ⟨h, ‹_›⟩
    · omega
  · omega
end Go.Proofs.Ytjimjdhdnkhfnaa
