/- Contracts of functions of the program and of the reference, a calculus of states, and plain facts: a part of a proof. Own text. -/
import Derived.Test.YtjimjdhdnkhfnaaGreatJae
import Derived.Test.YtjimjdhdnkhfnaaGreatJao
import Derived.Test.YtjimjdhdnkhfnaaGreatJau
set_option linter.unusedVariables false
set_option linter.unusedSimpArgs false
set_option linter.unusedSectionVars false
namespace Go.Proofs.YtjimjdhdnkhfnaaGreat
open Go Go.RowKit
set_option maxRecDepth 100000
set_option maxHeartbeats 2000000
def prt (l : List Int) (r : Int) : Int := if r = 0 then l.getD 3 0 else if r = 1 then l.getD 1 0 else l.getD 2 0
def paiN (T N : List (List Int)) (h : List Int) (k payer r : Int) : Int :=
  if k < 0 then 0 else if cntH k h = false then 0 else if (dueN T N h k).getD 0 0 = payer then prt (dueN T N h k) r else 0
theorem paid_does {T H N : List (List Int)} (h1 : ∀ x ∈ T, x.length = 24) (h2 : ∀ x ∈ H, x.length = 9) (h3 : ∀ x ∈ N, x.length = 7) (hacc : accOk T H N = true) {h : List Int} (hm : h ∈ H) (k payer r : Int) (hk : k ≤ 100000) (hr : 0 ≤ r ∧ r ≤ 2) :
    Does Tryz.prog 154 [accP T H N, .agg (rowP h), .agg (rowP [k, payer, r])] (.int .i64 (paiN T N h k payer r)) := by
  have hh := h2 _ hm
  have hhk := accOk_H hacc h hm
  have hdu : 0 ≤ k → Does Tryz.prog 101 [accP T H N, .agg (rowP h), .int .i64 k] (.agg (rowP (dueN T N h k))) := fun hk0 =>
    due_does h1 h2 h3 (by have := accOk_len hacc; omega) (accOk_T hacc) hh hhk k ⟨hk0, hk⟩ (by have := lotN_own (T := T) (accOk_N hacc) h k; omega)
  obtain ⟨d0, d1, d2, d3, hd4⟩ : ∃ a b c e, dueN T N h k = [a, b, c, e] := by
    unfold dueN dueP; split
    · exact ⟨_, _, _, _, rfl⟩
    · split <;> exact ⟨_, _, _, _, rfl⟩
  obtain ⟨V, hV⟩ : ∃ V, PV.int .i64 (paiN T N h k payer r) = V := ⟨_, rfl⟩
  rw [hV]
  unfold paiN at hV
  rw [hd4] at hV hdu
  simp only [prt, List.getD_cons_succ, List.getD_cons_zero] at hV
  refine does_of (own := inPl) Tryz.func154 rfl Tryz.ntmps154 (congrArg Array.toList Tryz.results154) (fun us w => Tryz.call154 us w) hTT mixed (Nat.le_of_ble_eq_true rfl) ?_
  intro w0 im0 D0 S Cl hS hC ar har
  have har' := har
  obtain ⟨ai, ab, nz, inr, fi, pk, ix, ln, sb, eqi, sl, fits, mn, mx, nt, be, up, fu, mg, mh, ms⟩ := ar
  have F := facts_of har
  clear har
  obtain ⟨a, b, c, f, g, i', j, k', l, rfl⟩ := list9 hh
  obtain ⟨eT, hT⟩ : ∃ es, T.map rowP = es := ⟨_, rfl⟩
  obtain ⟨eH, hH⟩ : ∃ es, H.map rowP = es := ⟨_, rfl⟩
  obtain ⟨eN, hN⟩ : ∃ es, N.map rowP = es := ⟨_, rfl⟩
  simp only [accP, hT, hH, hN] at hdu ⊢
  have hc : Does Tryz.prog 90 [.int .i64 k', .int .i64 l, .int .i64 k] (.bool (cntB k' l k)) := rcounts_does k' l k
  simp only [cntH, List.getD_cons_succ, List.getD_cons_zero] at hV
  obtain ⟨cb, h4⟩ : ∃ z, cntB k' l k = z := ⟨_, rfl⟩
  rw [h4] at hc hV
  have hinr : inr 3 r = true := F.inr 3 r (by omega) (by omega)
  have hfi : fi [d3, d1, d2] r = (if r = 0 then d3 else if r = 1 then d1 else d2) := by
    rw [F.fi]
    by_cases r0 : r = 0
    · subst r0; rfl
    · by_cases r1 : r = 1
      · subst r1; rfl
      · have : r = 2 := by omega
        subst this; rfl
  rw [← hfi] at hV
  cbv
  cases c0 : ab .lss k 0
  rotate_left
  · rw [F.lss] at c0
    rw [if_pos (by simpa using c0)] at hV
    cbv
    subst hV
    exact PLe.of_eq rfl
  have hk0 : ¬ k < 0 := by rw [F.lss] at c0; simpa using c0
  rw [if_neg hk0] at hV
  have hdu := hdu (by omega)
  cbv
  refine ⟨_, hC _ _ _ hc, ?_⟩; cbv
  rw [F.nt]
  cases cb
  · cbv
    subst hV
    exact PLe.of_eq rfl
  rw [if_neg (by simp)] at hV
  cbv
  refine ⟨_, hC _ _ _ hdu, ?_⟩; cbv
  cases c1 : ab .neq d0 payer
  · rw [F.neq] at c1
    rw [if_pos (by simpa using c1)] at hV
    cbv
    rw [hinr]; cbv
    subst hV
    exact PLe.of_eq rfl
  · rw [F.neq] at c1
    rw [if_neg (by simpa using c1)] at hV
    cbv
    subst hV
    exact PLe.of_eq rfl
set_option maxHeartbeats 8000000
def rcv (h : List Int) (r : Int) : Int := if r = 0 then 0 else if r = 1 then 1 else 2 + h.getD 5 0
def payD (T N : List (List Int)) (h : List Int) (k : Int) : Int := if (decide (0 ≤ k) && cntH k h) = true then (dueN T N h k).getD 0 0 else -1
def pyrs (a b : Int) : List Int := if min a b = max a b then [max a b] else [min a b, max a b]
def skp (h : List Int) (r q : Int) : Bool := (decide (q < 0) || q == rcv h r) || (r == 2 && h.getD 5 0 == 0)
def pst1 (T N : List (List Int)) (h : List Int) (was day r q : Int) : List (List Int) :=
  if skp h r q = true then [] else if paiN T N h day q r - paiN T N h was q r = 0 then [] else [[day, h.getD 0 0, q, rcv h r, paiN T N h day q r - paiN T N h was q r]]
def pstK (f : Int → Int → List (List Int)) (P : List Int) (m : Nat) : List (List Int) := (List.range m).flatMap fun r : Nat => P.flatMap (f (r : Int))
def pstN (T N : List (List Int)) (h : List Int) (was day : Int) : List (List Int) := pstK (pst1 T N h was day) (pyrs (payD T N h was) (payD T N h day)) 3
theorem pstK_succ (f : Int → Int → List (List Int)) (P : List Int) (m : Nat) : pstK f P (m + 1) = pstK f P m ++ P.flatMap (f m) := by unfold pstK; rw [List.range_succ, List.flatMap_append]; simp
theorem flat_take {f : Int → List (List Int)} {P : List Int} {k : Nat} (hk : k < P.length) : (P.take (k + 1)).flatMap f = (P.take k).flatMap f ++ f P[k] := by rw [take_last hk, List.flatMap_append]; simp
theorem paiN_in {T N : List (List Int)} (h1 : ∀ x ∈ T, x.length = 24) (hok : ∀ x ∈ T, tarOk x = true) {h : List Int} (hhk : heldOk h = true) (k q r : Int) (hk : k ≤ 100000) : 0 ≤ paiN T N h k q r ∧ paiN T N h k q r ≤ 500000000000 := by
  unfold paiN
  split
  · omega
  · split
    · omega
    · split
      · obtain ⟨a, b, c⟩ := dueN_in (N := N) h1 hok hhk (d := k) (by omega)
        unfold prt
        split
        · exact c
        · split
          · exact a
          · exact b
      · omega
theorem posted_does {T H N : List (List Int)} (h1 : ∀ x ∈ T, x.length = 24) (h2 : ∀ x ∈ H, x.length = 9) (h3 : ∀ x ∈ N, x.length = 7) (hacc : accOk T H N = true) {h : List Int} (hm : h ∈ H) (was day : Int) (hw : was ≤ 100000) (hd : day ≤ 100000) :
    Does Tryz.prog 140 [accP T H N, .agg (rowP h), .agg (rowP [was, day])] (.list 5 ((pstN T N h was day).map rowP)) := by
  have hh := h2 _ hm
  have hhk := accOk_H hacc h hm
  have hdu : ∀ k, 0 ≤ k → k ≤ 100000 → Does Tryz.prog 101 [accP T H N, .agg (rowP h), .int .i64 k] (.agg (rowP (dueN T N h k))) := fun k hk0 hk =>
    due_does h1 h2 h3 (by have := accOk_len hacc; omega) (accOk_T hacc) hh hhk k ⟨hk0, hk⟩ (by have := lotN_own (T := T) (accOk_N hacc) h k; omega)
  have hpa : ∀ k q r, k ≤ 100000 → 0 ≤ r ∧ r ≤ 2 → Does Tryz.prog 154 [accP T H N, .agg (rowP h), .agg (rowP [k, q, r])] (.int .i64 (paiN T N h k q r)) := fun k q r hk hr => paid_does h1 h2 h3 hacc hm k q r hk hr
  have hpi := fun k q r hk => paiN_in (N := N) h1 (accOk_T hacc) hhk k q r hk
  have h4 : ∀ k, ∃ a b c e, dueN T N h k = [a, b, c, e] := fun k => by
    unfold dueN dueP; split
    · exact ⟨_, _, _, _, rfl⟩
    · split <;> exact ⟨_, _, _, _, rfl⟩
  have hb5 := (heldOk_bounds hhk).2.2.2.1
  obtain ⟨V, hV⟩ : ∃ V, PV.list 5 ((pstN T N h was day).map rowP) = V := ⟨_, rfl⟩
  rw [hV]
  unfold pstN at hV
  have hpay : ∀ k, payD T N h k = if (decide (0 ≤ k) && cntB (h.getD 7 0) (h.getD 8 0) k) = true then (dueN T N h k).getD 0 0 else -1 := fun k => rfl
  obtain ⟨pw, hpw⟩ : ∃ z, payD T N h was = z := ⟨_, rfl⟩
  obtain ⟨pd, hpd⟩ : ∃ z, payD T N h day = z := ⟨_, rfl⟩
  rw [hpw, hpd] at hV
  have hf1 : ∀ r q, pst1 T N h was day r q = if skp h r q = true then [] else if paiN T N h day q r - paiN T N h was q r = 0 then [] else [[day, h.getD 0 0, q, rcv h r, paiN T N h day q r - paiN T N h was q r]] := fun _ _ => rfl
  obtain ⟨f1, hf⟩ : ∃ f1, pst1 T N h was day = f1 := ⟨_, rfl⟩
  rw [hf] at hV hf1
  clear hf
  obtain ⟨pai, hpai⟩ : ∃ p, paiN T N h = p := ⟨_, rfl⟩
  rw [hpai] at hf1 hpa hpi
  clear hpai
  refine does_of (own := inPl) Tryz.func140 rfl Tryz.ntmps140 (congrArg Array.toList Tryz.results140) (fun us w => Tryz.call140 us w) hTT mixed (Nat.le_of_ble_eq_true rfl) ?_
  intro w0 im0 D0 S Cl hS hC ar har
  have har' := har
  obtain ⟨ai, ab, nz, inr, fi, pk, ix, ln, sb, eqi, sl, fits, mn, mx, nt, be, up, fu, mg, mh, ms⟩ := ar
  have F := facts_of har
  clear har
  obtain ⟨x0, x1, x2, x3, x4, x5, x6, x7, x8, rfl⟩ := list9 hh
  have hrc : ∀ r, rcv [x0, x1, x2, x3, x4, x5, x6, x7, x8] r = if r = 0 then 0 else if r = 1 then 1 else 2 + x5 := fun _ => rfl
  have hsk : ∀ r q, skp [x0, x1, x2, x3, x4, x5, x6, x7, x8] r q = ((decide (q < 0) || q == rcv [x0, x1, x2, x3, x4, x5, x6, x7, x8] r) || (r == 2 && x5 == 0)) := fun _ _ => rfl
  obtain ⟨rc, hrcE⟩ : ∃ p, rcv [x0, x1, x2, x3, x4, x5, x6, x7, x8] = p := ⟨_, rfl⟩
  obtain ⟨sk, hskE⟩ : ∃ p, skp [x0, x1, x2, x3, x4, x5, x6, x7, x8] = p := ⟨_, rfl⟩
  rw [hrcE] at hrc hsk hf1
  rw [hskE] at hsk hf1
  clear hrcE hskE
  obtain ⟨eT, hT⟩ : ∃ es, T.map rowP = es := ⟨_, rfl⟩
  obtain ⟨eH, hH⟩ : ∃ es, H.map rowP = es := ⟨_, rfl⟩
  obtain ⟨eN, hN⟩ : ∃ es, N.map rowP = es := ⟨_, rfl⟩
  simp only [accP, hT, hH, hN] at hdu hpa ⊢
  simp only [List.getD_cons_succ, List.getD_cons_zero] at hpay hf1 hb5
  have hcnt : ∀ k, Does Tryz.prog 90 [.int .i64 x7, .int .i64 x8, .int .i64 k] (.bool (cntB x7 x8 k)) := fun k => rcounts_does x7 x8 k
  have hx5 : ai .add 2 x5 = 2 + x5 := F.add _ _ (by omega) (by omega)
  cbv
  refine hS _ _ _ (sem_loopR (fun x : Nat × Int × List (List PV) => [sP 3 3, sP 4 4, sP 5 5, sV 7 .nil, sR 8 14, sI 9 x.2.1, bX 3 26 [cL 24 eT, cL 9 eH, cL 7 eN], bX 4 32 [cI x0, cI x1, cI x2, cI x3, cI x4, cI x5, cI x6, cI x7, cI x8], bX 5 178 [cI was, cI day], rW 14 3 1 x.2.2]) (fun x => x.1 ≤ 2 ∧ x.2.1 = (x.1 : Int) ∧ x.2.2 = numP [if 1 ≤ x.1 then pw else -1, if 2 ≤ x.1 then pd else -1]) (fun x => 2 - x.1) (0, 0, numP [-1, -1]) (fun t => t) ⟨by rfl, by cbv; try (repeat (first | exact rfl | exact trivial | refine ⟨?_, ?_⟩))⟩ ?_ ?_)
  · exact ⟨by simp, rfl, rfl⟩
  rintro ⟨k, i, es⟩ ⟨hk, hi, hes⟩
  dsimp only at hk hi hes
  have hadd : ai .add i 1 = ((k + 1 : Nat) : Int) := by rw [F.add i 1 (by omega) (by omega), hi]; simp
  by_cases hlt : k < 2
  · have hb1 : ab .lss i 2 = true := by rw [F.lss, hi]; simp; omega
    obtain ⟨dk, hdk⟩ : ∃ dk, (if k = 0 then was else day) = dk := ⟨_, rfl⟩
    have hdkl : dk ≤ 100000 := by rw [← hdk]; split <;> omega
    have hpk : fi [was, day] i = dk := by
      rw [F.fi, hi, ← hdk]
      rcases k with _ | _ | k
      · rfl
      · rfl
      · omega
    obtain ⟨pk', hpk'⟩ : ∃ z, payD T N [x0, x1, x2, x3, x4, x5, x6, x7, x8] dk = z := ⟨_, rfl⟩
    have hin2 : inr 2 i = true := F.inr 2 i (by omega) (by omega)
    have hup : up es i [.int .i64 pk'] = numP [if 1 ≤ k + 1 then pw else -1, if 2 ≤ k + 1 then pd else -1] := by
      rw [F.up es i k _ hi, hes]
      rcases k with _ | _ | k
      · have e1 : dk = was := by rw [← hdk]; rfl
        rw [e1, hpw] at hpk'; subst hpk'; rfl
      · have e1 : dk = day := by rw [← hdk]; rfl
        rw [e1, hpd] at hpk'; subst hpk'; rfl
      · omega
    have hup0 : (decide (0 ≤ dk) && cntB x7 x8 dk) = false → es = numP [if 1 ≤ k + 1 then pw else -1, if 2 ≤ k + 1 then pd else -1] := fun hf => by
      rw [hpay dk, hf] at hpk'
      rw [hes]
      rcases k with _ | _ | k
      · have e1 : dk = was := by rw [← hdk]; rfl
        rw [← hpw, hpay was, ← e1, hf]; rfl
      · have e1 : dk = day := by rw [← hdk]; rfl
        rw [← hpd, hpay day, ← e1, hf]; rfl
      · omega
    obtain ⟨u0, u1, u2, u3, hu⟩ := h4 dk
    have hpkv := hpay dk
    rw [hpk', hu] at hpkv
    simp only [List.getD_cons_zero] at hpkv
    have hdu0 := fun hk0 => hdu dk hk0 hdkl
    rw [hu] at hdu0
    have hc := hcnt dk
    obtain ⟨cb, h6⟩ : ∃ z, cntB x7 x8 dk = z := ⟨_, rfl⟩
    rw [h6] at hc hup0 hpkv
    rw [← F.geq] at hpkv hup0
    refine sem_of (X := ⟨_, TT, ⟨0, 147, inPl⟩⟩) har' hTT mixed ?_
    intro S1 Cl1 hS1 hC1
    cbv
    rw [hb1]; cbv
    rw [hin2]; cbv
    rw [hpk]
    cases c1 : ab .geq dk 0
    · cbv
      rw [c1] at hup0
      have hup0 := hup0 rfl
      exact ⟨(k + 1, ai .add i 1, es), (fun t => t), ⟨by omega, hadd, hup0⟩, by dsimp only; omega, ⟨by rfl, by cbv; try (repeat (first | exact rfl | exact trivial | refine ⟨?_, ?_⟩))⟩⟩
    cbv
    rw [hin2]; cbv
    rw [hpk]
    refine ⟨_, hC1 _ _ _ hc, ?_⟩; cbv
    cases cb
    · cbv
      have hup0 := hup0 (by simp)
      exact ⟨(k + 1, ai .add i 1, es), (fun t => t), ⟨by omega, hadd, hup0⟩, by dsimp only; omega, ⟨by rfl, by cbv; try (repeat (first | exact rfl | exact trivial | refine ⟨?_, ?_⟩))⟩⟩
    cbv
    rw [hin2]; cbv
    rw [hpk]
    have hdk0 : 0 ≤ dk := by rw [F.geq] at c1; simpa using c1
    refine ⟨_, hC1 _ _ _ (hdu0 hdk0), ?_⟩; cbv
    have hix : ∃ z, ix es i = some [.int .i64 z] := by
      rw [F.ix es i k hi, hes]
      rcases k with _ | _ | k
      · exact ⟨_, rfl⟩
      · exact ⟨_, rfl⟩
      · omega
    obtain ⟨z, hix⟩ := hix
    rw [hix]; cbv
    rw [hix]; cbv
    have hpkE : pk' = u0 := by rw [hpkv, c1]; rfl
    rw [hpkE] at hup
    exact ⟨(k + 1, ai .add i 1, up es i [.int .i64 u0]), (fun t => t), ⟨by omega, hadd, hup⟩, by dsimp only; omega, ⟨by rfl, by cbv; try (repeat (first | exact rfl | exact trivial | refine ⟨?_, ?_⟩))⟩⟩
  · have hb1 : ab .lss i 2 = false := by rw [F.lss, hi]; simp; omega
    have hk2 : k = 2 := by omega
    have hes : es = [[.int .i64 pw], [.int .i64 pd]] := by rw [hes, hk2]; rfl
    subst hes
    have j0 : ∀ a b : Int, ix [[.int .i64 a], [.int .i64 b]] 0 = some [.int .i64 a] := fun a b => F.ix _ 0 0 rfl
    have j1 : ∀ a b : Int, ix [[.int .i64 a], [.int .i64 b]] 1 = some [.int .i64 b] := fun a b => F.ix _ 1 1 rfl
    obtain ⟨q0, hq0⟩ : ∃ z, min pw pd = z := ⟨_, rfl⟩
    obtain ⟨q1, hq1⟩ : ∃ z, max pw pd = z := ⟨_, rfl⟩
    have hmn : mn pw pd = q0 := by rw [F.mn, hq0]
    have hmx : mx pw pd = q1 := by rw [F.mx, hq1]
    have hpy : pyrs pw pd = if q0 = q1 then [q1] else [q0, q1] := by unfold pyrs; rw [hq0, hq1]
    have hsl : sl [[.int .i64 q0], [.int .i64 q1]] 1 2 = some [[.int .i64 q1]] := F.sl _ 1 2 1 2 rfl rfl (by omega) (by simp)
    have hln : ln [[.int .i64 q0], [.int .i64 q1]] = 2 := F.ln _
    refine sem_of (X := ⟨_, TT, ⟨0, 147, inPl⟩⟩) har' hTT mixed ?_
    intro S1 Cl1 hS1 hC1
    cbv
    rw [hb1]; cbv
    repeat ((first | rw [j0] | rw [j1] | rw [hmn] | rw [hmx]); cbv)
    cases c1 : ab .eql q0 q1
    · have hq : ¬ q0 = q1 := by rw [F.eql] at c1; simpa using c1
      rw [if_neg hq] at hpy
      cbv
      refine hS _ _ _ (sem_freeze 8 57 3 1 [[PV.int .i64 q0], [PV.int .i64 q1]] rfl (by rfl) (by rfl) ?_)
      obtain ⟨eP, heP⟩ : ∃ z, ([[PV.int .i64 q0], [PV.int .i64 q1]] : List (List PV)) = z := ⟨_, rfl⟩
      obtain ⟨P, hP⟩ : ∃ z, [q0, q1] = z := ⟨_, rfl⟩
      have hEP : numP P = eP := by rw [← hP, ← heP]; rfl
      have hlnP : ln eP = P.length := by rw [F.ln, ← hEP, numP_len]
      have hP2 : P.length ≤ 2 := by rw [← hP]; simp
      rw [hpy, hP] at hV
      obtain ⟨t2, ht2⟩ : ∃ z, ai .add 2 x5 = z := ⟨_, rfl⟩
      rw [ht2]
      have ht2' : 2 + x5 = t2 := by rw [← hx5, ht2]
      rw [heP]
      clear hpy heP
      refine (sem_mkRow 7 1000 73 5 (by rfl) (by rfl) (sem_loopR (fun x : Nat × Int × List (List PV) => [sP 3 3, sP 4 4, sP 5 5, sR 7 1000, sL 8 1 eP, sP 10 10, sI 11 x.2.1, bX 3 26 [cL 24 eT, cL 9 eH, cL 7 eN], bX 4 32 [cI x0, cI x1, cI x2, cI x3, cI x4, cI x5, cI x6, cI x7, cI x8], bX 5 178 [cI was, cI day], bX 10 152 [cI 0, cI 1, cI t2], rW 1000 73 5 x.2.2]) (fun x => x.1 ≤ 3 ∧ x.2.1 = (x.1 : Int) ∧ x.2.2 = (pstK f1 P x.1).map rowP ∧ x.2.2.length ≤ 2 * x.1) (fun x => 3 - x.1) (0, 0, []) (fun t => t) ⟨by rfl, by cbv; try (repeat (first | exact rfl | exact trivial | refine ⟨?_, ?_⟩))⟩ ?_ ?_))
      · exact ⟨by simp, rfl, rfl, by simp⟩
      rintro ⟨m, r, es⟩ ⟨hm3, hr, hes, hel⟩
      dsimp only at hm3 hr hes hel
      have hradd : ai .add r 1 = ((m + 1 : Nat) : Int) := by rw [F.add r 1 (by omega) (by omega), hr]; simp
      by_cases hlt : m < 3
      · have hb2 : ab .lss r 3 = true := by rw [F.lss, hr]; simp; omega
        have hr02 : 0 ≤ r ∧ r ≤ 2 := by omega
        have hin3 : inr 3 r = true := F.inr 3 r (by omega) (by omega)
        have hfi3 : fi [0, 1, t2] r = rc r := by
          rw [F.fi, hrc, ht2', hr]
          rcases m with _ | _ | _ | m
          · rfl
          · rfl
          · rfl
          · omega
        have hsucc := pstK_succ f1 P m
        rw [← hr] at hsucc
        refine sem_of (X := ⟨_, TT, ⟨0, 147, inPl⟩⟩) har' hTT mixed ?_
        intro S2 Cl2 hS2 hC2
        cbv
        rw [hb2]; cbv
        refine hS2 _ _ _ (sem_loopR (fun y : Nat × Int × List (List PV) => [sP 3 3, sP 4 4, sP 5 5, sR 7 1000, sL 8 1 eP, sP 10 10, sI 11 r, sI 12 y.2.1, bX 3 26 [cL 24 eT, cL 9 eH, cL 7 eN], bX 4 32 [cI x0, cI x1, cI x2, cI x3, cI x4, cI x5, cI x6, cI x7, cI x8], bX 5 178 [cI was, cI day], bX 10 152 [cI 0, cI 1, cI t2], rW 1000 73 5 y.2.2]) (fun y => y.1 ≤ P.length ∧ y.2.1 = (y.1 : Int) ∧ y.2.2 = (pstK f1 P m ++ (P.take y.1).flatMap (f1 r)).map rowP ∧ y.2.2.length ≤ 2 * m + y.1) (fun y => P.length - y.1) (0, 0, es) (fun t => t) ⟨by rfl, by cbv; try (repeat (first | exact rfl | exact trivial | refine ⟨?_, ?_⟩))⟩ ?_ ?_)
        · exact ⟨by simp, rfl, by simp [hes], by simpa using hel⟩
        rintro ⟨k, i, es2⟩ ⟨hk, hi, hes2, hel2⟩
        dsimp only at hk hi hes2 hel2
        have hadd : ai .add i 1 = ((k + 1 : Nat) : Int) := by rw [F.add i 1 (by omega) (by omega), hi]; simp
        have hfit : ∀ x, fits 40 es2 [x] = true := fun x => F.fits _ _ _ (by simp only [List.length_singleton]; omega)
        by_cases hltk : k < P.length
        · have hb3 : ab .lss i (ln eP) = true := by rw [hlnP, F.lss, hi]; simp; omega
          have hg : ix eP i = some [PV.int .i64 P[k]] := by rw [F.ix _ i k hi, ← hEP]; exact get_nums hltk
          have hnext : (pstK f1 P m ++ (P.take (k + 1)).flatMap (f1 r)).map rowP = es2 ++ (f1 r P[k]).map rowP := by rw [flat_take hltk, ← List.append_assoc, List.map_append, hes2]
          obtain ⟨q, hq⟩ : ∃ q, P[k] = q := ⟨_, rfl⟩
          rw [hq] at hg hnext
          have hs1 := hsk r q
          have hn1 := hf1 r q
          have hpa1 := hpa day q r hd hr02
          have hpa2 := hpa was q r hw hr02
          have hpi1 := hpi day q r hd
          have hpi2 := hpi was q r hw
          obtain ⟨pa, hpaE⟩ : ∃ z, pai day q r = z := ⟨_, rfl⟩
          obtain ⟨pb, hpbE⟩ : ∃ z, pai was q r = z := ⟨_, rfl⟩
          obtain ⟨to, htoE⟩ : ∃ z, rc r = z := ⟨_, rfl⟩
          rw [hpaE] at hpa1 hpi1 hn1
          rw [hpbE] at hpa2 hpi2 hn1
          rw [htoE] at hs1 hn1 hfi3
          have hsub : ai .sub pa pb = pa - pb := F.sub _ _ (by omega) (by omega)
          rw [hn1, ← hsub] at hnext
          have hs1 : sk r q = ((ab .lss q 0 || ab .eql q to) || (ab .eql r 2 && ab .eql x5 0)) := by rw [hs1, F.lss, F.eql, F.eql, F.eql]
          rw [hs1] at hnext
          have hyes : ((ab .lss q 0 || ab .eql q to) || (ab .eql r 2 && ab .eql x5 0)) = true → es2 = (pstK f1 P m ++ (P.take (k + 1)).flatMap (f1 r)).map rowP := fun h => by rw [hnext, if_pos h]; simp
          have hzer : ((ab .lss q 0 || ab .eql q to) || (ab .eql r 2 && ab .eql x5 0)) = false → ab .neq (ai .sub pa pb) 0 = false → es2 = (pstK f1 P m ++ (P.take (k + 1)).flatMap (f1 r)).map rowP := fun h h' => by
            rw [F.neq] at h'
            rw [hnext, if_neg (by rw [h]; decide), if_pos (by simpa using h')]; simp
          have hnew : ((ab .lss q 0 || ab .eql q to) || (ab .eql r 2 && ab .eql x5 0)) = false → ab .neq (ai .sub pa pb) 0 = true → es2 ++ [[PV.int .i64 day, .int .i64 x0, .int .i64 q, .int .i64 to, .int .i64 (ai .sub pa pb)]] = (pstK f1 P m ++ (P.take (k + 1)).flatMap (f1 r)).map rowP := fun h h' => by
            rw [F.neq] at h'
            rw [hnext, if_neg (by rw [h]; decide), if_neg (by simpa using h')]; rfl
          clear hnext hn1 hs1
          have hel3 : es2.length ≤ 2 * m + (k + 1) := by omega
          have hel4 : (es2 ++ [[PV.int .i64 day, .int .i64 x0, .int .i64 q, .int .i64 to, .int .i64 (ai .sub pa pb)]]).length ≤ 2 * m + (k + 1) := by rw [List.length_append, List.length_singleton]; omega
          refine sem_of (X := ⟨_, TT, ⟨0, 147, inPl⟩⟩) har' hTT mixed ?_
          intro S3 Cl3 hS3 hC3
          cbv
          rw [hb3]; cbv
          rw [hg]; cbv
          cases c2 : ab .lss q 0
          rotate_left
          · rw [c2] at hyes
            have hyes := hyes rfl
            cbv
            exact ⟨(k + 1, ai .add i 1, es2), (fun t => t), ⟨hltk, hadd, hyes, hel3⟩, by dsimp only; omega, ⟨by rfl, by cbv; try (repeat (first | exact rfl | exact trivial | refine ⟨?_, ?_⟩))⟩⟩
          cbv
          rw [hg]; cbv
          rw [hin3]; cbv
          rw [hfi3]
          cases c3 : ab .eql q to
          rotate_left
          · rw [c3] at hyes
            have hyes := hyes (by simp)
            cbv
            exact ⟨(k + 1, ai .add i 1, es2), (fun t => t), ⟨hltk, hadd, hyes, hel3⟩, by dsimp only; omega, ⟨by rfl, by cbv; try (repeat (first | exact rfl | exact trivial | refine ⟨?_, ?_⟩))⟩⟩
          cbv
          rw [c2, c3] at hyes hzer hnew
          simp only [Bool.or_self, Bool.false_or] at hyes hzer hnew
          cases c4 : ab .eql r 2
          · rw [c4] at hzer hnew
            have hzer := hzer rfl
            have hnew := hnew rfl
            cbv
            repeat (rw [hg]; cbv)
            refine ⟨_, hC3 _ _ _ hpa1, ?_⟩; cbv
            repeat (rw [hg]; cbv)
            refine ⟨_, hC3 _ _ _ hpa2, ?_⟩; cbv
            cases c6 : ab .neq (ai .sub pa pb) 0
            · have hzer := hzer c6
              cbv
              exact ⟨(k + 1, ai .add i 1, es2), (fun t => t), ⟨hltk, hadd, hzer, hel3⟩, by dsimp only; omega, ⟨by rfl, by cbv; try (repeat (first | exact rfl | exact trivial | refine ⟨?_, ?_⟩))⟩⟩
            · have hnew := hnew c6
              cbv
              repeat ((first | rw [hg] | rw [hin3] | rw [hfi3] | rw [hfit]); cbv)
              exact ⟨(k + 1, ai .add i 1, es2 ++ [[PV.int .i64 day, .int .i64 x0, .int .i64 q, .int .i64 to, .int .i64 (ai .sub pa pb)]]), (fun t => bif Nat.beq t 1000 then 145 else t), ⟨hltk, hadd, hnew, hel4⟩, by dsimp only; omega, ⟨by rfl, by cbv; try (repeat (first | exact rfl | exact trivial | refine ⟨?_, ?_⟩))⟩⟩
          · rw [c4] at hyes hzer hnew
            simp only [Bool.true_and] at hyes hzer hnew
            cbv
            cases c5 : ab .eql x5 0
            · have hzer := hzer c5
              have hnew := hnew c5
              cbv
              repeat (rw [hg]; cbv)
              refine ⟨_, hC3 _ _ _ hpa1, ?_⟩; cbv
              repeat (rw [hg]; cbv)
              refine ⟨_, hC3 _ _ _ hpa2, ?_⟩; cbv
              cases c6 : ab .neq (ai .sub pa pb) 0
              · have hzer := hzer c6
                cbv
                exact ⟨(k + 1, ai .add i 1, es2), (fun t => t), ⟨hltk, hadd, hzer, hel3⟩, by dsimp only; omega, ⟨by rfl, by cbv; try (repeat (first | exact rfl | exact trivial | refine ⟨?_, ?_⟩))⟩⟩
              · have hnew := hnew c6
                cbv
                repeat ((first | rw [hg] | rw [hin3] | rw [hfi3] | rw [hfit]); cbv)
                exact ⟨(k + 1, ai .add i 1, es2 ++ [[PV.int .i64 day, .int .i64 x0, .int .i64 q, .int .i64 to, .int .i64 (ai .sub pa pb)]]), (fun t => bif Nat.beq t 1000 then 145 else t), ⟨hltk, hadd, hnew, hel4⟩, by dsimp only; omega, ⟨by rfl, by cbv; try (repeat (first | exact rfl | exact trivial | refine ⟨?_, ?_⟩))⟩⟩
            · have hyes := hyes c5
              cbv
              exact ⟨(k + 1, ai .add i 1, es2), (fun t => t), ⟨hltk, hadd, hyes, hel3⟩, by dsimp only; omega, ⟨by rfl, by cbv; try (repeat (first | exact rfl | exact trivial | refine ⟨?_, ?_⟩))⟩⟩
        · have hb3 : ab .lss i (ln eP) = false := by rw [hlnP, F.lss, hi]; simp; omega
          have hkE : k = P.length := by omega
          have hes3 : es2 = (pstK f1 P (m + 1)).map rowP := by rw [hes2, hsucc, hkE, List.take_length]
          have hel3 : es2.length ≤ 2 * (m + 1) := by omega
          refine sem_of (X := ⟨_, TT, ⟨0, 147, inPl⟩⟩) har' hTT mixed ?_
          intro S3 Cl3 hS3 hC3
          cbv
          rw [hb3]; cbv
          exact ⟨(m + 1, ai .add r 1, es2), (fun t => t), ⟨by omega, hradd, hes3, hel3⟩, by dsimp only; omega, ⟨by rfl, by cbv; try (repeat (first | exact rfl | exact trivial | refine ⟨?_, ?_⟩))⟩⟩
      · have hb2 : ab .lss r 3 = false := by rw [F.lss, hr]; simp; omega
        have hm4 : m = 3 := by omega
        refine sem_of (X := ⟨_, TT, ⟨0, 147, inPl⟩⟩) har' hTT mixed ?_
        intro S2 Cl2 hS2 hC2
        cbv
        rw [hb2]; cbv
        subst hV
        refine PLe.of_eq ?_
        rw [hes, hm4]
    · have hq : q0 = q1 := by rw [F.eql] at c1; simpa using c1
      rw [if_pos hq] at hpy
      cbv
      repeat ((first | rw [j0] | rw [j1] | rw [hln] | rw [hsl]); cbv)
      refine hS _ _ _ ?_
      obtain ⟨eP, heP⟩ : ∃ z, ([[PV.int .i64 q1]] : List (List PV)) = z := ⟨_, rfl⟩
      obtain ⟨P, hP⟩ : ∃ z, [q1] = z := ⟨_, rfl⟩
      have hEP : numP P = eP := by rw [← hP, ← heP]; rfl
      have hlnP : ln eP = P.length := by rw [F.ln, ← hEP, numP_len]
      have hP2 : P.length ≤ 2 := by rw [← hP]; simp
      rw [hpy, hP] at hV
      obtain ⟨t2, ht2⟩ : ∃ z, ai .add 2 x5 = z := ⟨_, rfl⟩
      rw [ht2]
      have ht2' : 2 + x5 = t2 := by rw [← hx5, ht2]
      rw [heP]
      clear hpy heP
      refine (sem_mkRow 7 1000 73 5 (by rfl) (by rfl) (sem_loopR (fun x : Nat × Int × List (List PV) => [sP 3 3, sP 4 4, sP 5 5, sR 7 1000, sL 8 1 eP, sP 10 10, sI 11 x.2.1, bX 3 26 [cL 24 eT, cL 9 eH, cL 7 eN], bX 4 32 [cI x0, cI x1, cI x2, cI x3, cI x4, cI x5, cI x6, cI x7, cI x8], bX 5 178 [cI was, cI day], bX 10 152 [cI 0, cI 1, cI t2], rW 1000 73 5 x.2.2]) (fun x => x.1 ≤ 3 ∧ x.2.1 = (x.1 : Int) ∧ x.2.2 = (pstK f1 P x.1).map rowP ∧ x.2.2.length ≤ 2 * x.1) (fun x => 3 - x.1) (0, 0, []) (fun t => t) ⟨by rfl, by cbv; try (repeat (first | exact rfl | exact trivial | refine ⟨?_, ?_⟩))⟩ ?_ ?_))
      · exact ⟨by simp, rfl, rfl, by simp⟩
      rintro ⟨m, r, es⟩ ⟨hm3, hr, hes, hel⟩
      dsimp only at hm3 hr hes hel
      have hradd : ai .add r 1 = ((m + 1 : Nat) : Int) := by rw [F.add r 1 (by omega) (by omega), hr]; simp
      by_cases hlt : m < 3
      · have hb2 : ab .lss r 3 = true := by rw [F.lss, hr]; simp; omega
        have hr02 : 0 ≤ r ∧ r ≤ 2 := by omega
        have hin3 : inr 3 r = true := F.inr 3 r (by omega) (by omega)
        have hfi3 : fi [0, 1, t2] r = rc r := by
          rw [F.fi, hrc, ht2', hr]
          rcases m with _ | _ | _ | m
          · rfl
          · rfl
          · rfl
          · omega
        have hsucc := pstK_succ f1 P m
        rw [← hr] at hsucc
        refine sem_of (X := ⟨_, TT, ⟨0, 147, inPl⟩⟩) har' hTT mixed ?_
        intro S2 Cl2 hS2 hC2
        cbv
        rw [hb2]; cbv
        refine hS2 _ _ _ (sem_loopR (fun y : Nat × Int × List (List PV) => [sP 3 3, sP 4 4, sP 5 5, sR 7 1000, sL 8 1 eP, sP 10 10, sI 11 r, sI 12 y.2.1, bX 3 26 [cL 24 eT, cL 9 eH, cL 7 eN], bX 4 32 [cI x0, cI x1, cI x2, cI x3, cI x4, cI x5, cI x6, cI x7, cI x8], bX 5 178 [cI was, cI day], bX 10 152 [cI 0, cI 1, cI t2], rW 1000 73 5 y.2.2]) (fun y => y.1 ≤ P.length ∧ y.2.1 = (y.1 : Int) ∧ y.2.2 = (pstK f1 P m ++ (P.take y.1).flatMap (f1 r)).map rowP ∧ y.2.2.length ≤ 2 * m + y.1) (fun y => P.length - y.1) (0, 0, es) (fun t => t) ⟨by rfl, by cbv; try (repeat (first | exact rfl | exact trivial | refine ⟨?_, ?_⟩))⟩ ?_ ?_)
        · exact ⟨by simp, rfl, by simp [hes], by simpa using hel⟩
        rintro ⟨k, i, es2⟩ ⟨hk, hi, hes2, hel2⟩
        dsimp only at hk hi hes2 hel2
        have hadd : ai .add i 1 = ((k + 1 : Nat) : Int) := by rw [F.add i 1 (by omega) (by omega), hi]; simp
        have hfit : ∀ x, fits 40 es2 [x] = true := fun x => F.fits _ _ _ (by simp only [List.length_singleton]; omega)
        by_cases hltk : k < P.length
        · have hb3 : ab .lss i (ln eP) = true := by rw [hlnP, F.lss, hi]; simp; omega
          have hg : ix eP i = some [PV.int .i64 P[k]] := by rw [F.ix _ i k hi, ← hEP]; exact get_nums hltk
          have hnext : (pstK f1 P m ++ (P.take (k + 1)).flatMap (f1 r)).map rowP = es2 ++ (f1 r P[k]).map rowP := by rw [flat_take hltk, ← List.append_assoc, List.map_append, hes2]
          obtain ⟨q, hq⟩ : ∃ q, P[k] = q := ⟨_, rfl⟩
          rw [hq] at hg hnext
          have hs1 := hsk r q
          have hn1 := hf1 r q
          have hpa1 := hpa day q r hd hr02
          have hpa2 := hpa was q r hw hr02
          have hpi1 := hpi day q r hd
          have hpi2 := hpi was q r hw
          obtain ⟨pa, hpaE⟩ : ∃ z, pai day q r = z := ⟨_, rfl⟩
          obtain ⟨pb, hpbE⟩ : ∃ z, pai was q r = z := ⟨_, rfl⟩
          obtain ⟨to, htoE⟩ : ∃ z, rc r = z := ⟨_, rfl⟩
          rw [hpaE] at hpa1 hpi1 hn1
          rw [hpbE] at hpa2 hpi2 hn1
          rw [htoE] at hs1 hn1 hfi3
          have hsub : ai .sub pa pb = pa - pb := F.sub _ _ (by omega) (by omega)
          rw [hn1, ← hsub] at hnext
          have hs1 : sk r q = ((ab .lss q 0 || ab .eql q to) || (ab .eql r 2 && ab .eql x5 0)) := by rw [hs1, F.lss, F.eql, F.eql, F.eql]
          rw [hs1] at hnext
          have hyes : ((ab .lss q 0 || ab .eql q to) || (ab .eql r 2 && ab .eql x5 0)) = true → es2 = (pstK f1 P m ++ (P.take (k + 1)).flatMap (f1 r)).map rowP := fun h => by rw [hnext, if_pos h]; simp
          have hzer : ((ab .lss q 0 || ab .eql q to) || (ab .eql r 2 && ab .eql x5 0)) = false → ab .neq (ai .sub pa pb) 0 = false → es2 = (pstK f1 P m ++ (P.take (k + 1)).flatMap (f1 r)).map rowP := fun h h' => by
            rw [F.neq] at h'
            rw [hnext, if_neg (by rw [h]; decide), if_pos (by simpa using h')]; simp
          have hnew : ((ab .lss q 0 || ab .eql q to) || (ab .eql r 2 && ab .eql x5 0)) = false → ab .neq (ai .sub pa pb) 0 = true → es2 ++ [[PV.int .i64 day, .int .i64 x0, .int .i64 q, .int .i64 to, .int .i64 (ai .sub pa pb)]] = (pstK f1 P m ++ (P.take (k + 1)).flatMap (f1 r)).map rowP := fun h h' => by
            rw [F.neq] at h'
            rw [hnext, if_neg (by rw [h]; decide), if_neg (by simpa using h')]; rfl
          clear hnext hn1 hs1
          have hel3 : es2.length ≤ 2 * m + (k + 1) := by omega
          have hel4 : (es2 ++ [[PV.int .i64 day, .int .i64 x0, .int .i64 q, .int .i64 to, .int .i64 (ai .sub pa pb)]]).length ≤ 2 * m + (k + 1) := by rw [List.length_append, List.length_singleton]; omega
          refine sem_of (X := ⟨_, TT, ⟨0, 147, inPl⟩⟩) har' hTT mixed ?_
          intro S3 Cl3 hS3 hC3
          cbv
          rw [hb3]; cbv
          rw [hg]; cbv
          cases c2 : ab .lss q 0
          rotate_left
          · rw [c2] at hyes
            have hyes := hyes rfl
            cbv
            exact ⟨(k + 1, ai .add i 1, es2), (fun t => t), ⟨hltk, hadd, hyes, hel3⟩, by dsimp only; omega, ⟨by rfl, by cbv; try (repeat (first | exact rfl | exact trivial | refine ⟨?_, ?_⟩))⟩⟩
          cbv
          rw [hg]; cbv
          rw [hin3]; cbv
          rw [hfi3]
          cases c3 : ab .eql q to
          rotate_left
          · rw [c3] at hyes
            have hyes := hyes (by simp)
            cbv
            exact ⟨(k + 1, ai .add i 1, es2), (fun t => t), ⟨hltk, hadd, hyes, hel3⟩, by dsimp only; omega, ⟨by rfl, by cbv; try (repeat (first | exact rfl | exact trivial | refine ⟨?_, ?_⟩))⟩⟩
          cbv
          rw [c2, c3] at hyes hzer hnew
          simp only [Bool.or_self, Bool.false_or] at hyes hzer hnew
          cases c4 : ab .eql r 2
          · rw [c4] at hzer hnew
            have hzer := hzer rfl
            have hnew := hnew rfl
            cbv
            repeat (rw [hg]; cbv)
            refine ⟨_, hC3 _ _ _ hpa1, ?_⟩; cbv
            repeat (rw [hg]; cbv)
            refine ⟨_, hC3 _ _ _ hpa2, ?_⟩; cbv
            cases c6 : ab .neq (ai .sub pa pb) 0
            · have hzer := hzer c6
              cbv
              exact ⟨(k + 1, ai .add i 1, es2), (fun t => t), ⟨hltk, hadd, hzer, hel3⟩, by dsimp only; omega, ⟨by rfl, by cbv; try (repeat (first | exact rfl | exact trivial | refine ⟨?_, ?_⟩))⟩⟩
            · have hnew := hnew c6
              cbv
              repeat ((first | rw [hg] | rw [hin3] | rw [hfi3] | rw [hfit]); cbv)
              exact ⟨(k + 1, ai .add i 1, es2 ++ [[PV.int .i64 day, .int .i64 x0, .int .i64 q, .int .i64 to, .int .i64 (ai .sub pa pb)]]), (fun t => bif Nat.beq t 1000 then 145 else t), ⟨hltk, hadd, hnew, hel4⟩, by dsimp only; omega, ⟨by rfl, by cbv; try (repeat (first | exact rfl | exact trivial | refine ⟨?_, ?_⟩))⟩⟩
          · rw [c4] at hyes hzer hnew
            simp only [Bool.true_and] at hyes hzer hnew
            cbv
            cases c5 : ab .eql x5 0
            · have hzer := hzer c5
              have hnew := hnew c5
              cbv
              repeat (rw [hg]; cbv)
              refine ⟨_, hC3 _ _ _ hpa1, ?_⟩; cbv
              repeat (rw [hg]; cbv)
              refine ⟨_, hC3 _ _ _ hpa2, ?_⟩; cbv
              cases c6 : ab .neq (ai .sub pa pb) 0
              · have hzer := hzer c6
                cbv
                exact ⟨(k + 1, ai .add i 1, es2), (fun t => t), ⟨hltk, hadd, hzer, hel3⟩, by dsimp only; omega, ⟨by rfl, by cbv; try (repeat (first | exact rfl | exact trivial | refine ⟨?_, ?_⟩))⟩⟩
              · have hnew := hnew c6
                cbv
                repeat ((first | rw [hg] | rw [hin3] | rw [hfi3] | rw [hfit]); cbv)
                exact ⟨(k + 1, ai .add i 1, es2 ++ [[PV.int .i64 day, .int .i64 x0, .int .i64 q, .int .i64 to, .int .i64 (ai .sub pa pb)]]), (fun t => bif Nat.beq t 1000 then 145 else t), ⟨hltk, hadd, hnew, hel4⟩, by dsimp only; omega, ⟨by rfl, by cbv; try (repeat (first | exact rfl | exact trivial | refine ⟨?_, ?_⟩))⟩⟩
            · have hyes := hyes c5
              cbv
              exact ⟨(k + 1, ai .add i 1, es2), (fun t => t), ⟨hltk, hadd, hyes, hel3⟩, by dsimp only; omega, ⟨by rfl, by cbv; try (repeat (first | exact rfl | exact trivial | refine ⟨?_, ?_⟩))⟩⟩
        · have hb3 : ab .lss i (ln eP) = false := by rw [hlnP, F.lss, hi]; simp; omega
          have hkE : k = P.length := by omega
          have hes3 : es2 = (pstK f1 P (m + 1)).map rowP := by rw [hes2, hsucc, hkE, List.take_length]
          have hel3 : es2.length ≤ 2 * (m + 1) := by omega
          refine sem_of (X := ⟨_, TT, ⟨0, 147, inPl⟩⟩) har' hTT mixed ?_
          intro S3 Cl3 hS3 hC3
          cbv
          rw [hb3]; cbv
          exact ⟨(m + 1, ai .add r 1, es2), (fun t => t), ⟨by omega, hradd, hes3, hel3⟩, by dsimp only; omega, ⟨by rfl, by cbv; try (repeat (first | exact rfl | exact trivial | refine ⟨?_, ?_⟩))⟩⟩
      · have hb2 : ab .lss r 3 = false := by rw [F.lss, hr]; simp; omega
        have hm4 : m = 3 := by omega
        refine sem_of (X := ⟨_, TT, ⟨0, 147, inPl⟩⟩) har' hTT mixed ?_
        intro S2 Cl2 hS2 hC2
        cbv
        rw [hb2]; cbv
        subst hV
        refine PLe.of_eq ?_
        rw [hes, hm4]
set_option maxHeartbeats 4000000
def wasN (D : List Int) (k : Nat) : Int := if k = 0 then -1 else D.getD (k - 1) 0
def posK (T H N : List (List Int)) (D : List Int) (k : Nat) : List (List Int) := (List.range k).flatMap fun k => H.flatMap fun h => pstN T N h (wasN D k) (D.getD k 0)
def posN (T H N : List (List Int)) (D : List Int) : List (List Int) := posK T H N D D.length
theorem posK_succ (T H N : List (List Int)) (D : List Int) (k : Nat) : posK T H N D (k + 1) = posK T H N D k ++ H.flatMap fun h => pstN T N h (wasN D k) (D.getD k 0) := by unfold posK; rw [List.range_succ, List.flatMap_append]; simp
theorem pst1_len (T N : List (List Int)) (h : List Int) (was day r q : Int) : (pst1 T N h was day r q).length ≤ 1 := by
  unfold pst1; split
  · simp
  · split <;> simp
theorem flatMap_most {α β : Type} {f : α → List β} {n : Nat} (hf : ∀ x, (f x).length ≤ n) : ∀ L : List α, (L.flatMap f).length ≤ n * L.length
  | [] => by simp
  | x :: L => by
    have := flatMap_most hf L
    have := hf x
    rw [List.flatMap_cons, List.length_append, List.length_cons, Nat.mul_add]; omega
theorem pstN_len (T N : List (List Int)) (h : List Int) (was day : Int) : (pstN T N h was day).length ≤ 6 := by
  unfold pstN pstK
  have h2 : (pyrs (payD T N h was) (payD T N h day)).length ≤ 2 := by unfold pyrs; split <;> simp
  generalize pyrs (payD T N h was) (payD T N h day) = P at *
  have h3 : ∀ r : Nat, (P.flatMap (pst1 T N h was day r)).length ≤ 2 := fun r => by
    have := flatMap_most (fun q => pst1_len T N h was day r q) P
    omega
  have := flatMap_most h3 (List.range 3)
  simpa using this
theorem pst1_five {T N : List (List Int)} {h : List Int} {was day r q : Int} : ∀ x ∈ pst1 T N h was day r q, x.length = 5 := by
  intro x hx
  unfold pst1 at hx
  split at hx
  · simp at hx
  · split at hx
    · simp at hx
    · simp only [List.mem_singleton] at hx; subst hx; rfl
theorem posK_five {T H N : List (List Int)} {D : List Int} {k : Nat} : ∀ x ∈ posK T H N D k, x.length = 5 := by
  intro x hx
  unfold posK pstN pstK at hx
  simp only [List.mem_flatMap] at hx
  obtain ⟨_, _, _, _, _, _, _, _, hx⟩ := hx
  exact pst1_five x hx
theorem posK_len (T H N : List (List Int)) (D : List Int) (k : Nat) : (posK T H N D k).length ≤ 6 * H.length * k := by
  unfold posK
  have := flatMap_most (fun k : Nat => flatMap_most (fun h => pstN_len T N h (wasN D k) (D.getD k 0)) H) (List.range k)
  rwa [List.length_range] at this
theorem rposts_does {T H N : List (List Int)} (h1 : ∀ x ∈ T, x.length = 24) (h2 : ∀ x ∈ H, x.length = 9) (h3 : ∀ x ∈ N, x.length = 7) (hacc : accOk T H N = true) (D : List Int) (hD : ∀ d ∈ D, 0 ≤ d ∧ d ≤ 100000) (hDl : D.length ≤ 1000) :
    Does Tryz.prog 106 [accP T H N, .list 1 (numP D)] (.list 5 ((posN T H N D).map rowP)) := by
  obtain ⟨V, hV⟩ : ∃ V, PV.list 5 ((posN T H N D).map rowP) = V := ⟨_, rfl⟩
  rw [hV]
  unfold posN at hV
  have hH60 := (accOk_len hacc).2.1
  have hpst : ∀ h ∈ H, ∀ was day, was ≤ 100000 → day ≤ 100000 → Does Tryz.prog 140 [accP T H N, .agg (rowP h), .agg (rowP [was, day])] (.list 5 ((pstN T N h was day).map rowP)) := fun h hm was day hw hd => posted_does h1 h2 h3 hacc hm was day hw hd
  have hsucc := posK_succ T H N D
  have hplen := posK_len T H N D
  have hp0 : posK T H N D 0 = [] := rfl
  have hstl := fun h was day => pstN_len T N h was day
  obtain ⟨PK, hPK⟩ : ∃ p, posK T H N D = p := ⟨_, rfl⟩
  obtain ⟨pst, hpE⟩ : ∃ p, pstN T N = p := ⟨_, rfl⟩
  rw [hPK, hpE] at hsucc
  rw [hPK] at hp0 hplen hV
  rw [hpE] at hstl hpst
  clear hPK hpE
  refine does_of (own := inPl) Tryz.func106 rfl Tryz.ntmps106 (congrArg Array.toList Tryz.results106) (fun us w => Tryz.call106 us w) hTT mixed (Nat.le_of_ble_eq_true rfl) ?_
  intro w0 im0 D0 S Cl hS hC ar har
  have har' := har
  obtain ⟨ai, ab, nz, inr, fi, pk, ix, ln, sb, eqi, sl, fits, mn, mx, nt, be, up, fu, mg, mh, ms⟩ := ar
  have F := facts_of har
  clear har
  obtain ⟨eT, hT⟩ : ∃ es, T.map rowP = es := ⟨_, rfl⟩
  obtain ⟨eH, hH⟩ : ∃ es, H.map rowP = es := ⟨_, rfl⟩
  obtain ⟨eN, hN⟩ : ∃ es, N.map rowP = es := ⟨_, rfl⟩
  obtain ⟨eD, hED⟩ : ∃ es, numP D = es := ⟨_, rfl⟩
  simp only [accP, hT, hH, hN, hED] at hpst ⊢
  have hlnD : ln eD = D.length := by rw [F.ln, ← hED, numP_len]
  have hlnH : ln eH = H.length := by rw [F.ln, ← hH]; simp
  cbv
  refine hS _ _ _ (sem_mkRow 5 1000 73 5 (by rfl) (by rfl) (sem_loopR (fun x : Nat × Int × Int × List (List PV) => [sL 1 1 eD, sP 2 2, sR 5 1000, sI 6 x.2.2.1, sI 7 x.2.1, bX 2 26 [cL 24 eT, cL 9 eH, cL 7 eN], rW 1000 73 5 x.2.2.2]) (fun x => x.1 ≤ D.length ∧ x.2.1 = (x.1 : Int) ∧ x.2.2.1 = wasN D x.1 ∧ x.2.2.2 = (PK x.1).map rowP) (fun x => D.length - x.1) (0, 0, -1, []) (fun t => t) ⟨by rfl, by cbv; try (repeat (first | exact rfl | exact trivial | refine ⟨?_, ?_⟩))⟩ ?_ ?_))
  · exact ⟨by simp, rfl, rfl, by rw [hp0]; rfl⟩
  rintro ⟨m, r, was, es⟩ ⟨hm, hr, hwas, hes⟩
  dsimp only at hm hr hwas hes
  have hradd : ai .add r 1 = ((m + 1 : Nat) : Int) := by rw [F.add r 1 (by omega) (by omega), hr]; simp
  by_cases hlt : m < D.length
  · have hb1 : ab .lss r (ln eD) = true := by rw [hlnD, F.lss, hr]; simpa using hlt
    have hgD : ix eD r = some [PV.int .i64 D[m]] := by rw [F.ix _ r m hr, ← hED]; exact get_nums hlt
    have hdm := hD _ (List.getElem_mem hlt)
    have hgd : D.getD m 0 = D[m] := by simp [hlt]
    have hwl : was ≤ 100000 := by
      rw [hwas]; unfold wasN
      split
      · omega
      · have hm1 : m - 1 < D.length := by omega
        have := hD _ (List.getElem_mem hm1)
        rw [show D.getD (m - 1) 0 = D[m - 1] by simp [hm1]]; omega
    have hwn : D[m] = wasN D (m + 1) := by unfold wasN; rw [if_neg (by omega)]; simp [hlt]
    have hsm := hsucc m
    rw [← hwas, hgd] at hsm
    obtain ⟨dm, hdmE⟩ : ∃ z, D[m] = z := ⟨_, rfl⟩
    rw [hdmE] at hgD hdm hwn hsm
    have hpm := hplen m
    have hmul : 6 * H.length * m ≤ 6 * 60 * 1000 := Nat.mul_le_mul (by omega) (by omega)
    refine sem_of (X := ⟨_, TT, ⟨0, 42, inPl⟩⟩) har' hTT mixed ?_
    intro S1 Cl1 hS1 hC1
    cbv
    rw [hb1]; cbv
    refine hS1 _ _ _ (sem_loopR (fun y : Nat × Int × List (List PV) => [sL 1 1 eD, sP 2 2, sR 5 1000, sI 6 was, sI 7 r, sI 8 y.2.1, bX 2 26 [cL 24 eT, cL 9 eH, cL 7 eN], rW 1000 73 5 y.2.2]) (fun y => y.1 ≤ H.length ∧ y.2.1 = (y.1 : Int) ∧ y.2.2 = (PK m ++ (H.take y.1).flatMap fun h => pst h was dm).map rowP) (fun y => H.length - y.1) (0, 0, es) (fun t => t) ⟨by rfl, by cbv; try (repeat (first | exact rfl | exact trivial | refine ⟨?_, ?_⟩))⟩ ?_ ?_)
    · exact ⟨by simp, rfl, by simp [hes]⟩
    rintro ⟨k, i, es2⟩ ⟨hk, hi, hes2⟩
    dsimp only at hk hi hes2
    have hadd : ai .add i 1 = ((k + 1 : Nat) : Int) := by rw [F.add i 1 (by omega) (by omega), hi]; simp
    by_cases hltk : k < H.length
    · have hb2 : ab .lss i (ln eH) = true := by rw [hlnH, F.lss, hi]; simpa using hltk
      have hg : ix eH i = some (rowP H[k]) := by rw [F.ix _ i k hi, ← hH]; exact get_rows hltk
      have hcall := hpst H[k] (List.getElem_mem hltk) was dm hwl hdm.2
      have hnext : es2 ++ (pst H[k] was dm).map rowP = (PK m ++ (H.take (k + 1)).flatMap fun h => pst h was dm).map rowP := by
        rw [take_last hltk, List.flatMap_append, ← List.append_assoc, List.map_append, hes2]; simp
      have hl1 := hstl H[k] was dm
      have hl2 : (PK m ++ (H.take k).flatMap fun h => pst h was dm).length ≤ 1000000 := by
        have := flatMap_most (fun h => hstl h was dm) (H.take k)
        rw [List.length_take] at this
        rw [List.length_append]
        omega
      obtain ⟨ne, hne⟩ : ∃ z, (pst H[k] was dm).map rowP = z := ⟨_, rfl⟩
      have hfit : fits 40 es2 ne = true := F.fits _ _ _ (by
        rw [hes2, ← hne, List.length_map, List.length_map]; omega)
      rw [hne] at hcall hnext
      obtain ⟨x0, x1, x2, x3, x4, x5, x6, x7, x8, hx⟩ := list9 (h2 _ (List.getElem_mem hltk))
      rw [hx] at hg hcall
      refine sem_of (X := ⟨_, TT, ⟨0, 42, inPl⟩⟩) har' hTT mixed ?_
      intro S2 Cl2 hS2 hC2
      cbv
      rw [hb2]; cbv
      repeat ((first | rw [hg] | rw [hgD]); cbv)
      refine ⟨_, hC2 _ _ _ hcall, ?_⟩; cbv
      rw [hfit]; cbv
      exact ⟨(k + 1, ai .add i 1, es2 ++ ne), (fun t => bif Nat.beq t 1000 then 36 else t), ⟨hltk, hadd, hnext⟩, by dsimp only; omega, ⟨by rfl, by cbv; try (repeat (first | exact rfl | exact trivial | refine ⟨?_, ?_⟩))⟩⟩
    · have hb2 : ab .lss i (ln eH) = false := by rw [hlnH, F.lss, hi]; simpa using hltk
      have hes3 : es2 = (PK (m + 1)).map rowP := by rw [hes2, hsm, List.take_of_length_le (by omega)]
      refine sem_of (X := ⟨_, TT, ⟨0, 42, inPl⟩⟩) har' hTT mixed ?_
      intro S2 Cl2 hS2 hC2
      cbv
      rw [hb2]; cbv
      repeat (rw [hgD]; cbv)
      exact ⟨(m + 1, ai .add r 1, dm, es2), (fun t => t), ⟨hlt, hradd, hwn, hes3⟩, by dsimp only; omega, ⟨by rfl, by cbv; try (repeat (first | exact rfl | exact trivial | refine ⟨?_, ?_⟩))⟩⟩
  · have hb1 : ab .lss r (ln eD) = false := by rw [hlnD, F.lss, hr]; simpa using hlt
    have hmE : m = D.length := by omega
    refine sem_of (X := ⟨_, TT, ⟨0, 42, inPl⟩⟩) har' hTT mixed ?_
    intro S1 Cl1 hS1 hC1
    cbv
    rw [hb1]; cbv
    subst hV
    refine PLe.of_eq ?_
    rw [hes, hmE]
def pstL (T H N : List (List Int)) (D : List Int) : List (List Int) := if pstE T H N D = 0 then posN T H N D else []
theorem rPosts_does {T H N : List (List Int)} (h1 : ∀ x ∈ T, x.length = 24) (h2 : ∀ x ∈ H, x.length = 9) (h3 : ∀ x ∈ N, x.length = 7) (D : List Int) :
    Does Tryz.prog 39 [accP T H N, .list 1 (numP D)] (.tup [.list 5 ((pstL T H N D).map rowP), .int .i64 (pstE T H N D)]) := by
  have hck := check_does h1 h2 h3
  have hda := areDays_does D
  have hpo : accOk T H N = true → daysOk D = true → Does Tryz.prog 106 [accP T H N, .list 1 (numP D)] (.list 5 ((posN T H N D).map rowP)) := fun ha hd =>
    rposts_does h1 h2 h3 ha D (daysOk_in hd).2 (by have := (daysOk_in hd).1; omega)
  obtain ⟨V, hV⟩ : ∃ V, PV.tup [.list 5 ((pstL T H N D).map rowP), .int .i64 (pstE T H N D)] = V := ⟨_, rfl⟩
  rw [hV]
  unfold pstL pstE at hV
  obtain ⟨L, hL⟩ : ∃ L, posN T H N D = L := ⟨_, rfl⟩
  obtain ⟨ok, hok⟩ : ∃ e, accOk T H N = e := ⟨_, rfl⟩
  obtain ⟨dk, hdk⟩ : ∃ e, daysOk D = e := ⟨_, rfl⟩
  rw [hL, hok, hdk] at hV
  rw [hok] at hck
  rw [hdk] at hda
  rw [hL, hok, hdk] at hpo
  clear hL hok hdk
  refine does_of (own := inPl) Tryz.func39 rfl Tryz.ntmps39 (congrArg Array.toList Tryz.results39) (fun us w => Tryz.call39 us w) hTT mixed (Nat.le_of_ble_eq_true rfl) ?_
  intro w0 im0 D0 S Cl hS hC ar har
  have har' := har
  obtain ⟨ai, ab, nz, inr, fi, pk, ix, ln, sb, eqi, sl, fits, mn, mx, nt, be, up, fu, mg, mh, ms⟩ := ar
  have F := facts_of har
  clear har
  obtain ⟨eT, hT⟩ : ∃ es, T.map rowP = es := ⟨_, rfl⟩
  obtain ⟨eH, hH⟩ : ∃ es, H.map rowP = es := ⟨_, rfl⟩
  obtain ⟨eN, hN⟩ : ∃ es, N.map rowP = es := ⟨_, rfl⟩
  obtain ⟨eD, hED⟩ : ∃ es, numP D = es := ⟨_, rfl⟩
  obtain ⟨eL, hEL⟩ : ∃ es, L.map rowP = es := ⟨_, rfl⟩
  simp only [accP, hT, hH, hN, hED, hEL] at hck hda hpo ⊢
  have c63 : ab .neq 63 0 = true := by rw [F.neq]; rfl
  have c00 : ab .neq 0 0 = false := by rw [F.neq]; rfl
  cases ok
  · cbv
    refine ⟨_, hC _ _ _ hck, ?_⟩; cbv
    rw [c63]; cbv
    subst hV
    exact PLe.tup2 (PLe.nil 5) (PLe.refl _)
  cases dk
  · cbv
    refine ⟨_, hC _ _ _ hck, ?_⟩; cbv
    rw [c00]; cbv
    refine ⟨_, hC _ _ _ hda, ?_⟩; cbv
    rw [F.nt]; cbv
    subst hV
    exact PLe.tup2 (PLe.nil 5) (PLe.refl _)
  have hpo := hpo rfl rfl
  cbv
  refine ⟨_, hC _ _ _ hck, ?_⟩; cbv
  rw [c00]; cbv
  refine ⟨_, hC _ _ _ hda, ?_⟩; cbv
  rw [F.nt]; cbv
  refine ⟨_, hC _ _ _ hpo, ?_⟩; cbv
  subst hV
  refine PLe.of_eq ?_
  rw [← hEL]; rfl
theorem pstL_five {T H N : List (List Int)} {D : List Int} : ∀ x ∈ pstL T H N D, x.length = 5 := fun x hx => by
  unfold pstL posN at hx
  split at hx
  · exact posK_five x hx
  · simp at hx
theorem pstL_len (T H N : List (List Int)) (D : List Int) : (pstL T H N D).length ≤ 4320 := by
  unfold pstL
  split
  · rename_i h
    obtain ⟨ha, hd⟩ := pstE_days h
    have hl := posK_len T H N D D.length
    have h60 := (accOk_len ha).2.1
    have h12 := (daysOk_in hd).1
    have : 6 * H.length * D.length ≤ 6 * 60 * 12 := Nat.mul_le_mul (by omega) h12
    unfold posN; omega
  · simp
def cpsE (T H N : List (List Int)) (D : List Int) (l : List (List Int)) : Int := if pstE T H N D = 0 then (if pstL T H N D == l then 0 else 67) else pstE T H N D
theorem rCheckPosts_does {T H N : List (List Int)} (h1 : ∀ x ∈ T, x.length = 24) (h2 : ∀ x ∈ H, x.length = 9) (h3 : ∀ x ∈ N, x.length = 7) (D : List Int) (l : List (List Int)) (hl : ∀ x ∈ l, x.length = 5) :
    Does Tryz.prog 44 [accP T H N, .list 1 (numP D), .list 5 (l.map rowP)] (.int .i64 (cpsE T H N D l)) := by
  have hpo := rPosts_does h1 h2 h3 D
  have hsa := rSame_does (pstL T H N D) l pstL_five hl (by have := pstL_len T H N D; omega)
  obtain ⟨V, hV⟩ : ∃ V, PV.int .i64 (cpsE T H N D l) = V := ⟨_, rfl⟩
  rw [hV]
  unfold cpsE at hV
  obtain ⟨e, he⟩ : ∃ e, pstE T H N D = e := ⟨_, rfl⟩
  obtain ⟨sb', hsb⟩ : ∃ e, (pstL T H N D == l) = e := ⟨_, rfl⟩
  rw [he, hsb] at hV
  rw [he] at hpo
  rw [hsb] at hsa
  clear he hsb
  refine does_of (own := inPl) Tryz.func44 rfl Tryz.ntmps44 (congrArg Array.toList Tryz.results44) (fun us w => Tryz.call44 us w) hTT mixed (Nat.le_of_ble_eq_true rfl) ?_
  intro w0 im0 D0 S Cl hS hC ar har
  have har' := har
  obtain ⟨ai, ab, nz, inr, fi, pk, ix, ln, sb, eqi, sl, fits, mn, mx, nt, be, up, fu, mg, mh, ms⟩ := ar
  have F := facts_of har
  clear har
  obtain ⟨eT, hT⟩ : ∃ es, T.map rowP = es := ⟨_, rfl⟩
  obtain ⟨eH, hH⟩ : ∃ es, H.map rowP = es := ⟨_, rfl⟩
  obtain ⟨eN, hN⟩ : ∃ es, N.map rowP = es := ⟨_, rfl⟩
  obtain ⟨eD, hED⟩ : ∃ es, numP D = es := ⟨_, rfl⟩
  obtain ⟨eL, hEL⟩ : ∃ es, (pstL T H N D).map rowP = es := ⟨_, rfl⟩
  obtain ⟨el, hel⟩ : ∃ es, l.map rowP = es := ⟨_, rfl⟩
  simp only [accP, hT, hH, hN, hED, hEL, hel] at hpo hsa ⊢
  cbv
  refine ⟨_, hC _ _ _ hpo, ?_⟩; cbv
  cases c0 : ab .neq e 0
  rotate_left
  · have h0 : ¬ e = 0 := by rw [F.neq] at c0; simpa using c0
    rw [if_neg h0] at hV
    cbv
    subst hV
    exact PLe.of_eq rfl
  have h0 : e = 0 := by rw [F.neq] at c0; simpa using c0
  rw [if_pos h0] at hV
  cbv
  refine ⟨_, hC _ _ _ hsa, ?_⟩; cbv
  rw [F.nt]
  cases sb'
  · cbv
    subst hV
    exact PLe.of_eq rfl
  · cbv
    subst hV
    exact PLe.of_eq rfl
theorem comp_inv (d : Array Int) (hs : ∀ i j, i < j → j < d.size → d[i]! ≤ d[j]!) : ∀ m, m ≤ d.size → (Lib.compactUpTo d m).Pairwise (fun a b => a < b) ∧ ∀ x, x ∈ Lib.compactUpTo d m ↔ ∃ j, j < m ∧ d[j]! = x
  | 0, _ => ⟨List.Pairwise.nil, fun x => ⟨fun h => absurd h (by simp [Lib.compactUpTo]), fun ⟨j, h, _⟩ => by omega⟩⟩
  | m + 1, hm => by
    obtain ⟨h1, h2⟩ := comp_inv d hs m (by omega)
    rw [Lib.compactUpTo_succ]
    by_cases hk : Lib.keeps d m = true
    · rw [if_pos hk]
      unfold Lib.keeps at hk
      have hk := of_decide_eq_true hk
      refine ⟨List.pairwise_append.2 ⟨h1, List.pairwise_singleton _ _, fun a ha b hb => ?_⟩, fun x => ?_⟩
      · obtain rfl := List.mem_singleton.1 hb
        obtain ⟨j, hj, rfl⟩ := (h2 a).1 ha
        rcases hk with h0 | hne
        · omega
        · have ha1 := hs (m - 1) m (by omega) (by omega)
          by_cases hjm : j = m - 1
          · subst hjm; omega
          · have := hs j (m - 1) (by omega) (by omega); omega
      · rw [List.mem_append, List.mem_singleton, h2]
        constructor
        · rintro (⟨j, hj, e⟩ | rfl)
          · exact ⟨j, by omega, e⟩
          · exact ⟨m, by omega, rfl⟩
        · rintro ⟨j, hj, e⟩
          by_cases hjm : j = m
          · subst hjm; exact .inr e.symm
          · exact .inl ⟨j, by omega, e⟩
    · rw [if_neg hk, List.append_nil]
      have hk2 : ¬ (m = 0 ∨ d[m]! ≠ d[m - 1]!) := fun h => hk (by unfold Lib.keeps; exact decide_eq_true h)
      refine ⟨h1, fun x => ?_⟩
      rw [h2]
      constructor
      · rintro ⟨j, hj, e⟩; exact ⟨j, by omega, e⟩
      · rintro ⟨j, hj, e⟩
        by_cases hjm : j = m
        · subst hjm
          have h0 : j ≠ 0 := fun h => hk2 (.inl h)
          have he : d[j]! = d[j - 1]! := Classical.byContradiction fun h => hk2 (.inr h)
          exact ⟨j - 1, by omega, by rw [← he]; exact e⟩
        · exact ⟨j, by omega, e⟩
theorem payL_spec (Z : List Int) : (payL Z).Pairwise (fun a b => a < b) ∧ ∀ x, x ∈ payL Z ↔ x ∈ Z := by
  have hsrt : (srtL Z).Pairwise (fun a b => a ≤ b) := by
    have := List.pairwise_mergeSort (le := fun x y : Int => decide (x ≤ y)) (fun a b c h1 h2 => by simp at *; omega) (fun a b => by simp; omega) Z
    simpa [srtL] using this
  have hmem : ∀ x, x ∈ srtL Z ↔ x ∈ Z := fun x => (List.mergeSort_perm Z _).mem_iff
  unfold payL Lib.compact
  generalize srtL Z = S at *
  have hs : ∀ i j, i < j → j < S.toArray.size → S.toArray[i]! ≤ S.toArray[j]! := fun i j hij hj => by
    have hj' : j < S.length := by simpa using hj
    have := List.pairwise_iff_getElem.1 hsrt i j (by omega) hj' hij
    rw [getElem!_pos S.toArray i (by simp; omega), getElem!_pos S.toArray j hj]
    simpa using this
  obtain ⟨h1, h2⟩ := comp_inv S.toArray hs S.length (by simp)
  refine ⟨h1, fun x => ?_⟩
  rw [h2, ← hmem]
  constructor
  · rintro ⟨j, hj, rfl⟩
    rw [getElem!_pos S.toArray j (by simpa using hj)]
    simp
  · intro hx
    obtain ⟨j, hj, rfl⟩ := List.mem_iff_getElem.1 hx
    exact ⟨j, hj, by rw [getElem!_pos S.toArray j (by simpa using hj)]; simp⟩
theorem flat_rising {β : Type} {P S : List Int} {f : Int → List β} (hP : P.Pairwise (fun a b => a < b)) (hS : S.Pairwise (fun a b => a < b)) (h : ∀ q, f q ≠ [] → (q ∈ P ∧ q ∈ S)) : P.flatMap f = S.flatMap f := by
  have nz : ∀ L : List Int, L.flatMap f = (L.filter fun q => !(f q).isEmpty).flatMap f := fun L => by
    induction L with
    | nil => rfl
    | cons a L ih =>
      rw [List.flatMap_cons, ih]
      cases he : f a with
      | nil => simp [List.filter_cons, he]
      | cons b l => simp [List.filter_cons, he]
  have hlt : ∀ {L : List Int}, L.Pairwise (fun a b => a < b) → (L.filter fun q => !(f q).isEmpty).Pairwise (fun a b => a < b) := fun h => h.filter _
  have hnd : ∀ {L : List Int}, L.Pairwise (fun a b => a < b) → L.Nodup := fun h => h.imp fun h => by omega
  have e : (P.filter fun q => !(f q).isEmpty) = (S.filter fun q => !(f q).isEmpty) := by
    refine List.Perm.eq_of_pairwise (le := fun a b => a < b) (fun a b _ _ h1 h2 => by omega) (hlt hP) (hlt hS) ?_
    rw [List.perm_ext_iff_of_nodup (hnd (hlt hP)) (hnd (hlt hS))]
    intro a
    simp only [List.mem_filter]
    constructor
    · rintro ⟨_, h2⟩
      exact ⟨(h a (by intro he; simp [he] at h2)).2, h2⟩
    · rintro ⟨_, h2⟩
      exact ⟨(h a (by intro he; simp [he] at h2)).1, h2⟩
  rw [nz P, nz S, e]
theorem find_flat {α β : Type} {p : β → Bool} {f : α → List β} {x : α} : ∀ {L : List α}, x ∈ L → (∀ y ∈ L, y ≠ x → (f y).find? p = none) → (L.flatMap f).find? p = (f x).find? p
  | [], h, _ => absurd h (by simp)
  | a :: L, h, hn => by
    rw [List.flatMap_cons, List.find?_append]
    by_cases hx : x ∈ L
    · have ih := find_flat hx fun y hy => hn y (by simp [hy])
      rw [ih]
      by_cases ha : a = x
      · subst ha; cases (f a).find? p <;> rfl
      · rw [hn a (by simp) ha]; rfl
    · have hax : x = a := by
        rcases List.mem_cons.1 h with h | h
        · exact h
        · exact absurd h hx
      subst hax
      have : (L.flatMap f).find? p = none := by
        rw [List.find?_eq_none]
        intro e he
        obtain ⟨y, hy, hey⟩ := List.mem_flatMap.1 he
        have := hn y (by simp [hy]) (fun e => hx (e ▸ hy))
        rw [List.find?_eq_none] at this
        exact this e hey
      rw [this, Option.or_none]
theorem ids_inj {ok : List Int → Bool} {m : Nat} {H : List (List Int)} (h : lsOk ok m H = true) {x y : List Int} (hx : x ∈ H) (hy : y ∈ H) (he : x.getD 0 0 = y.getD 0 0) : x = y := by
  obtain ⟨i, hi, rfl⟩ := List.mem_iff_getElem.1 hx
  obtain ⟨j, hj, rfl⟩ := List.mem_iff_getElem.1 hy
  have hs := ls_srt h
  rcases Nat.lt_trichotomy i j with hij | hij | hij
  · have := hs i j hij hj
    rw [show H.getD i [] = H[i] by simp [List.getD, hi], show H.getD j [] = H[j] by simp [List.getD, hj]] at this
    omega
  · subst hij; rfl
  · have := hs j i hij hi
    rw [show H.getD i [] = H[i] by simp [List.getD, hi], show H.getD j [] = H[j] by simp [List.getD, hj]] at this
    omega
theorem take3_id {e : List Int} {a b c : Int} (h : (e.take 3 == [a, b, c]) = true) : e.getD 0 0 = a ∧ e.getD 1 0 = b := by
  have h := eq_of_beq h
  match e, h with
  | x :: y :: _, h =>
    simp only [List.take_succ_cons, List.cons.injEq] at h
    exact ⟨h.1, h.2.1⟩
theorem getI_mem {E : List (List Int)} {a q t : Int} (h : getI E [a, q, t] ≠ 0) : q ∈ froL E := by
  unfold getI at h
  split at h
  · rename_i e he
    have h1 := List.mem_of_find?_eq_some he
    have h2 := List.find?_some he
    exact List.mem_map.2 ⟨e, h1, (take3_id h2).2⟩
  · exact absurd rfl h
def okR (h : List Int) (r : Int) : Prop := r = 0 ∨ r = 1 ∨ (r = 2 ∧ h.getD 5 0 ≠ 0)
theorem getI_amt {T H N : List (List Int)} {d : Int} (hq : askE T H N d = 0) {h : List Int} (hm : h ∈ H) (hb : 0 ≤ h.getD 5 0) {r : Int} (hr : okR h r) (q : Int) :
    getI (amtL T H N d) [h.getD 0 0, q, rcv h r] = paiN T N h d q r := by
  obtain ⟨ha, hd⟩ := askE_ok hq
  have hls : lsOk heldOk 60 H = true := by unfold accOk at ha; simp only [Bool.and_eq_true] at ha; exact ha.2.1
  unfold paiN
  rw [if_neg (by omega)]
  by_cases hc : cntH d h = true
  · rw [if_neg (by simp [hc])]
    have hf : (amtL T H N d).find? (fun e => e.take 3 == [h.getD 0 0, q, rcv h r]) = (amtE T N d h).find? (fun e => e.take 3 == [h.getD 0 0, q, rcv h r]) := by
      refine find_flat (List.mem_filter.2 ⟨hm, hc⟩) fun y hy hne => ?_
      rw [List.find?_eq_none]
      intro e he hp
      have h1 := (take3_id hp).1
      rw [amtE_id he] at h1
      exact hne (ids_inj hls (List.mem_filter.1 hy).1 hm h1)
    unfold getI
    rw [hf]
    unfold amtE rcvL
    generalize (dueN T N h d).getD 0 0 = g0
    obtain ⟨g1, e1⟩ : ∃ g, (dueN T N h d).getD 1 0 = g := ⟨_, rfl⟩
    obtain ⟨g2, e2⟩ : ∃ g, (dueN T N h d).getD 2 0 = g := ⟨_, rfl⟩
    obtain ⟨g3, e3⟩ : ∃ g, (dueN T N h d).getD 3 0 = g := ⟨_, rfl⟩
    have hprt : prt (dueN T N h d) r = if r = 0 then g3 else if r = 1 then g1 else g2 := by unfold prt; rw [e1, e2, e3]
    rw [e1, e2, e3, hprt]
    unfold rcv okR at *
    generalize h.getD 0 0 = x0
    generalize h.getD 5 0 = x5 at *
    by_cases hx : x5 = 0
    · rw [if_pos hx]
      rcases hr with rfl | rfl | ⟨rfl, h5⟩
      · by_cases hg : g0 = q
        · subst hg; simp
        · simp [hg]
      · by_cases hg : g0 = q
        · subst hg; simp
        · simp [hg]
      · exact absurd hx h5
    · rw [if_neg hx]
      have n1 : ¬ (0 : Int) = 2 + x5 := by omega
      have n2 : ¬ (1 : Int) = 2 + x5 := by omega
      have n3 : ¬ (2 : Int) + x5 = 0 := by omega
      have n4 : ¬ (2 : Int) + x5 = 1 := by omega
      rcases hr with rfl | rfl | ⟨rfl, h5⟩
      · by_cases hg : g0 = q
        · subst hg; simp
        · simp [hg]
      · by_cases hg : g0 = q
        · subst hg; simp
        · simp [hg]
      · by_cases hg : g0 = q
        · subst hg; simp [n1, n2]
        · simp [hg]
  · have hc0 : cntH d h = false := by simpa using hc
    rw [if_pos hc0]
    unfold getI
    rw [show (amtL T H N d).find? (fun e => e.take 3 == [h.getD 0 0, q, rcv h r]) = none from ?_]
    rw [List.find?_eq_none]
    intro e he hp
    obtain ⟨y, hy, he⟩ := List.mem_flatMap.1 he
    have h1 := (take3_id hp).1
    rw [amtE_id he] at h1
    obtain ⟨hy1, hy2⟩ := List.mem_filter.1 hy
    have := ids_inj hls hy1 hm h1
    subst this
    exact hc hy2
theorem paiN_neg {T N : List (List Int)} (hN : ∀ x ∈ N, noteOk x = true) (h : List Int) (k : Int) {q : Int} (r : Int) (hq : q < 0) : paiN T N h k q r = 0 := by
  unfold paiN
  split
  · rfl
  split
  · rfl
  split
  · rename_i he
    have hown := lotN_own (T := T) hN h k
    unfold dueN at he ⊢
    split at he
    · unfold dueP at he; simp at he; omega
    · rename_i hne2
      rw [if_neg hne2]
      split at he
      · rename_i h3
        rw [if_pos h3]
        unfold prt
        split
        · rfl
        split <;> rfl
      · have he' : 2 + (lotN T N h k).getD 0 0 = q := he
        omega
  · rfl
theorem paiN_pay {T N : List (List Int)} {h : List Int} {k q r : Int} (hne : paiN T N h k q r ≠ 0) : q = payD T N h k := by
  unfold paiN at hne
  split at hne
  · exact absurd rfl hne
  split at hne
  · exact absurd rfl hne
  split at hne
  · rename_i h1 h2 h3
    unfold payD
    rw [if_pos (by simp at h2; simp [h2]; omega)]
    exact h3.symm
  · exact absurd rfl hne
theorem pyrs_mem (a b : Int) : a ∈ pyrs a b ∧ b ∈ pyrs a b := by
  unfold pyrs
  split
  · rename_i h
    have : a = b := by omega
    subst this; simp
  · rcases Int.le_total a b with h | h
    · rw [Int.min_eq_left h, Int.max_eq_right h]; simp
    · rw [Int.min_eq_right h, Int.max_eq_left h]; simp
theorem pyrs_srt (a b : Int) : (pyrs a b).Pairwise (fun a b => a < b) := by
  unfold pyrs
  split
  · exact List.pairwise_singleton _ _
  · simp; omega
theorem chR_eq {T N E1 E2 : List (List Int)} (hN : ∀ x ∈ N, noteOk x = true) {h : List Int} {was day r : Int} (hr : okR h r) {P : List Int} (hP : P = payL (froL E1 ++ froL E2))
    (h1 : ∀ q, getI E1 [h.getD 0 0, q, rcv h r] = paiN T N h was q r) (h2 : ∀ q, getI E2 [h.getD 0 0, q, rcv h r] = paiN T N h day q r) :
    chR E1 E2 day P h (rcv h r) = (pyrs (payD T N h was) (payD T N h day)).flatMap (pst1 T N h was day r) := by
  have hsk : (r == 2 && h.getD 5 0 == 0) = false := by
    rcases hr with rfl | rfl | ⟨rfl, h5⟩
    · rfl
    · rfl
    · simpa using h5
  have hf : chP E1 E2 day h (rcv h r) = pst1 T N h was day r := by
    funext q
    unfold chP pst1 skp
    rw [h1, h2, hsk, Bool.or_false]
    have n1 := paiN_neg (T := T) hN h was (q := q) r
    have n2 := paiN_neg (T := T) hN h day (q := q) r
    generalize paiN T N h was q r = a at *
    generalize paiN T N h day q r = b at *
    generalize rcv h r = t
    by_cases hz : b - a = 0
    · rw [if_neg (by simp [hz])]
      split
      · rfl
      · rfl
    · have hq0 : ¬ q < 0 := fun hq => hz (by rw [n1 hq, n2 hq]; rfl)
      by_cases ht : q = t
      · rw [if_neg (by simp [ht]), if_pos (by simp [ht])]
      · rw [if_pos (by simp [ht, hz]), if_neg (by simp [ht]; omega), if_neg hz]
  unfold chR
  rw [hf]
  have hp := payL_spec (froL E1 ++ froL E2)
  rw [← hP] at hp
  refine flat_rising hp.1 (pyrs_srt _ _) fun q hne => ?_
  have hd : paiN T N h day q r ≠ 0 ∨ paiN T N h was q r ≠ 0 := by
    refine Classical.byContradiction fun hn => hne ?_
    have a1 : paiN T N h day q r = 0 := Classical.byContradiction fun h => hn (.inl h)
    have a2 : paiN T N h was q r = 0 := Classical.byContradiction fun h => hn (.inr h)
    unfold pst1
    rw [a1, a2]
    split <;> rfl
  rw [hp.2, List.mem_append]
  rcases hd with hd | hd
  · refine ⟨.inr (getI_mem (by rw [h2]; exact hd)), ?_⟩
    rw [paiN_pay hd]; exact (pyrs_mem _ _).2
  · refine ⟨.inl (getI_mem (by rw [h1]; exact hd)), ?_⟩
    rw [paiN_pay hd]; exact (pyrs_mem _ _).1
theorem chH_eq {T N E1 E2 : List (List Int)} (hN : ∀ x ∈ N, noteOk x = true) {h : List Int} {was day : Int} {P : List Int} (hP : P = payL (froL E1 ++ froL E2))
    (h1 : ∀ r, okR h r → ∀ q, getI E1 [h.getD 0 0, q, rcv h r] = paiN T N h was q r) (h2 : ∀ r, okR h r → ∀ q, getI E2 [h.getD 0 0, q, rcv h r] = paiN T N h day q r) :
    chH E1 E2 day P h = pstN T N h was day := by
  have e := fun r (hr : okR h r) => chR_eq hN hr hP (h1 r hr) (h2 r hr)
  unfold chH pstN pstK
  rw [show List.range 3 = [0, 1, 2] from rfl]
  have e0 := e 0 (.inl rfl)
  have e1 := e 1 (.inr (.inl rfl))
  rw [show rcv h 0 = 0 from rfl] at e0
  rw [show rcv h 1 = 1 from rfl] at e1
  unfold rcvL
  by_cases h5 : h.getD 5 0 = 0
  · rw [if_pos h5]
    have hz : (pyrs (payD T N h was) (payD T N h day)).flatMap (pst1 T N h was day 2) = [] := by
      rw [List.flatMap_eq_nil_iff]
      intro q _
      unfold pst1
      rw [if_pos (by unfold skp; rw [h5]; simp)]
    simp only [List.flatMap_cons, List.flatMap_nil, List.append_nil]
    rw [e0, e1]
    show _ = _ ++ (_ ++ (pyrs (payD T N h was) (payD T N h day)).flatMap (pst1 T N h was day 2))
    rw [hz, List.append_nil]
    rfl
  · rw [if_neg h5]
    have e2 := e 2 (.inr (.inr ⟨rfl, h5⟩))
    rw [show rcv h 2 = 2 + h.getD 5 0 from rfl] at e2
    simp only [List.flatMap_cons, List.flatMap_nil, List.append_nil]
    rw [e0, e1, e2]
    rfl
theorem dayQ_eq {T H N : List (List Int)} (h5 : ∀ x ∈ H, 0 ≤ x.getD 5 0) (hN : ∀ x ∈ N, noteOk x = true) {D : List Int} (hD : ∀ d ∈ D, askE T H N d = 0) {k : Nat} (hk : k < D.length) :
    dayQ T H N D k = H.flatMap fun h => pstN T N h (wasN D k) (D.getD k 0) := by
  have hDk : D.getD k 0 ∈ D := by rw [show D.getD k 0 = D[k] by simp [List.getD, hk]]; exact List.getElem_mem _
  unfold dayQ chaL
  rw [List.flatMap_def, List.flatMap_def]
  congr 1
  refine List.map_congr_left fun h hh => chH_eq hN rfl (fun r hr q => ?_) (fun r hr q => getI_amt (hD _ hDk) hh (h5 h hh) hr q)
  unfold befE wasN
  by_cases h0 : k = 0
  · rw [if_pos h0, if_pos h0]; rfl
  · rw [if_neg h0, if_neg h0]
    have hDp : D.getD (k - 1) 0 ∈ D := by rw [show D.getD (k - 1) 0 = D[k - 1] by simp [List.getD, show k - 1 < D.length by omega]]; exact List.getElem_mem _
    exact getI_amt (hD _ hDp) hh (h5 h hh) hr q
theorem pstQ_eq (T H N : List (List Int)) (D : List Int) : pstQ T H N D = pstL T H N D := by
  unfold pstQ pstL
  split
  · rename_i h
    obtain ⟨ha, hd⟩ := pstE_days h
    obtain ⟨h12, hin⟩ := daysOk_in hd
    have hD : ∀ d ∈ D, askE T H N d = 0 := fun d hdm => by
      unfold askE err
      rw [if_pos ha, if_pos (inB_iff.2 (hin d hdm))]
    unfold posQ posN posK
    rw [List.flatMap_def, List.flatMap_def]
    congr 1
    refine List.map_congr_left fun k hk => ?_
    exact dayQ_eq (fun x hx => (heldOk_bounds (accOk_H ha x hx)).2.2.2.1.1) (accOk_N ha) hD (List.mem_range.1 hk)
  · rfl
set_option maxRecDepth 100000
set_option maxHeartbeats 4000000
theorem pst1_amt {T N : List (List Int)} (h1 : ∀ x ∈ T, x.length = 24) (hok : ∀ x ∈ T, tarOk x = true) {h : List Int} (hhk : heldOk h = true) {was day : Int} (hw : was ≤ 100000) (hd : day ≤ 100000) {r q : Int} :
    ∀ x ∈ pst1 T N h was day r q, -500000000000 ≤ x.getD 4 0 ∧ x.getD 4 0 ≤ 500000000000 := by
  intro x hx
  have e1 := paiN_in (N := N) h1 hok hhk was q r hw
  have e2 := paiN_in (N := N) h1 hok hhk day q r hd
  unfold pst1 at hx
  split at hx
  · simp at hx
  · split at hx
    · simp at hx
    · simp only [List.mem_singleton] at hx
      subst hx
      simp only [List.getD_cons_succ, List.getD_cons_zero]
      omega
theorem pstL_amt {T H N : List (List Int)} (h1 : ∀ x ∈ T, x.length = 24) {D : List Int} : ∀ x ∈ pstL T H N D, -500000000000 ≤ x.getD 4 0 ∧ x.getD 4 0 ≤ 500000000000 := by
  intro x hx
  unfold pstL at hx
  split at hx
  · rename_i h0
    obtain ⟨ha, hd⟩ := pstE_days h0
    have hin := (daysOk_in hd).2
    unfold posN posK pstN pstK at hx
    simp only [List.mem_flatMap, List.mem_range] at hx
    obtain ⟨k, hk, h, hm, r, _, q, _, hx⟩ := hx
    have hget : ∀ j, j < D.length → D.getD j 0 ≤ 100000 := fun j hj => by
      have := hin _ (List.getElem_mem hj)
      rw [show D.getD j 0 = D[j] by simp [hj]]; omega
    refine pst1_amt h1 (accOk_T ha) (accOk_H ha h hm) ?_ (hget k hk) x hx
    unfold wasN
    split
    · omega
    · exact hget _ (by omega)
  · simp at hx
def balF (p : Int) (n : Int) (x : List Int) : Int := (if (x.getD 3 0 == p) = true then n + x.getD 4 0 else n) - (if (x.getD 2 0 == p) = true then x.getD 4 0 else 0)
def balK (p : Int) (L : List (List Int)) : Int := L.foldl (balF p) 0
theorem balK_take {p : Int} {L : List (List Int)} {k : Nat} (hk : k < L.length) : balK p (L.take (k + 1)) = balF p (balK p (L.take k)) L[k] := by
  unfold balK; rw [take_last hk, List.foldl_append]; rfl
def balE (T H N : List (List Int)) (D : List Int) (p : Int) : Int := if pstE T H N D = 0 then (if inB p 0 101 = true then 0 else 68) else pstE T H N D
def balN (T H N : List (List Int)) (D : List Int) (p : Int) : Int := if balE T H N D p = 0 then balK p (pstL T H N D) else 0
theorem rBalance_does {T H N : List (List Int)} (h1 : ∀ x ∈ T, x.length = 24) (h2 : ∀ x ∈ H, x.length = 9) (h3 : ∀ x ∈ N, x.length = 7) (D : List Int) (p : Int) :
    Does Tryz.prog 41 [accP T H N, .list 1 (numP D), .int .i64 p] (.tup [.int .i64 (balN T H N D p), .int .i64 (balE T H N D p)]) := by
  have hpo := rPosts_does h1 h2 h3 D
  have hin := rIn_does p 0 101
  have hL5 : ∀ x ∈ pstL T H N D, x.length = 5 := pstL_five
  have hLa := pstL_amt (H := H) (N := N) h1 (D := D)
  have hLl := pstL_len T H N D
  obtain ⟨V, hV⟩ : ∃ V, PV.tup [.int .i64 (balN T H N D p), .int .i64 (balE T H N D p)] = V := ⟨_, rfl⟩
  rw [hV]
  unfold balN balE at hV
  obtain ⟨e, he⟩ : ∃ e, pstE T H N D = e := ⟨_, rfl⟩
  obtain ⟨L, hL⟩ : ∃ e, pstL T H N D = e := ⟨_, rfl⟩
  obtain ⟨ib, hib⟩ : ∃ e, inB p 0 101 = e := ⟨_, rfl⟩
  rw [he, hL, hib] at hV
  rw [he, hL] at hpo
  rw [hib] at hin
  rw [hL] at hL5 hLa hLl
  clear he hL hib
  refine does_of (own := inPl) Tryz.func41 rfl Tryz.ntmps41 (congrArg Array.toList Tryz.results41) (fun us w => Tryz.call41 us w) hTT mixed (Nat.le_of_ble_eq_true rfl) ?_
  intro w0 im0 D0 S Cl hS hC ar har
  have har' := har
  obtain ⟨ai, ab, nz, inr, fi, pk, ix, ln, sb, eqi, sl, fits, mn, mx, nt, be, up, fu, mg, mh, ms⟩ := ar
  have F := facts_of har
  clear har
  obtain ⟨eT, hT⟩ : ∃ es, T.map rowP = es := ⟨_, rfl⟩
  obtain ⟨eH, hH⟩ : ∃ es, H.map rowP = es := ⟨_, rfl⟩
  obtain ⟨eN, hN⟩ : ∃ es, N.map rowP = es := ⟨_, rfl⟩
  obtain ⟨eD, hED⟩ : ∃ es, numP D = es := ⟨_, rfl⟩
  obtain ⟨eL, hEL⟩ : ∃ es, L.map rowP = es := ⟨_, rfl⟩
  simp only [accP, hT, hH, hN, hED, hEL] at hpo ⊢
  have hlnL : ln eL = L.length := by rw [F.ln, ← hEL]; simp
  cbv
  refine ⟨_, hC _ _ _ hpo, ?_⟩; cbv
  cases c0 : ab .neq e 0
  rotate_left
  · have h0 : ¬ e = 0 := by rw [F.neq] at c0; simpa using c0
    rw [if_neg h0, if_neg h0] at hV
    cbv
    subst hV
    exact PLe.of_eq rfl
  have h0 : e = 0 := by rw [F.neq] at c0; simpa using c0
  rw [if_pos h0] at hV
  cbv
  refine ⟨_, hC _ _ _ hin, ?_⟩; cbv
  rw [F.nt]
  cases ib
  · cbv
    subst hV
    exact PLe.of_eq rfl
  simp only [if_true] at hV
  cbv
  refine hS _ _ _ (sem_loop (fun x : Nat × Int × Int => [sI 2 p, sL 8 5 eL, sI 10 x.2.2, sI 11 x.2.1]) (fun x => x.1 ≤ L.length ∧ x.2.1 = (x.1 : Int) ∧ x.2.2 = balK p (L.take x.1) ∧ -1000000000000 * (x.1 : Int) ≤ x.2.2 ∧ x.2.2 ≤ 1000000000000 * (x.1 : Int)) (fun x => L.length - x.1) (fun t => t) (0, 0, 0) (fun t => t) ⟨by rfl, by cbv; try (repeat (first | exact rfl | exact trivial | refine ⟨?_, ?_⟩))⟩ ?_ ?_)
  · exact ⟨by simp, rfl, rfl, by simp, by simp⟩
  rintro ⟨k, i, n⟩ ⟨hk, hi, hn, hlo, hhi⟩
  dsimp only at hk hi hn hlo hhi
  have hadd : ai .add i 1 = ((k + 1 : Nat) : Int) := by rw [F.add i 1 (by omega) (by omega), hi]; simp
  by_cases hlt : k < L.length
  · have hb1 : ab .lss i (ln eL) = true := by rw [hlnL, F.lss, hi]; simpa using hlt
    have hg : ix eL i = some (rowP L[k]) := by rw [F.ix _ i k hi, ← hEL]; exact get_rows hlt
    have hnext := balK_take (p := p) hlt
    have hamt := hLa _ (List.getElem_mem hlt)
    obtain ⟨x0, x1, x2, x3, x4, hx⟩ := list5 (hL5 _ (List.getElem_mem hlt))
    rw [hx] at hg hnext hamt
    simp only [balF, List.getD_cons_succ, List.getD_cons_zero] at hnext hamt
    rw [← hn, ← F.eql, ← F.eql] at hnext
    have hA : ai .add n x4 = n + x4 := F.add _ _ (by omega) (by omega)
    have hB : ai .sub n x4 = n - x4 := F.sub _ _ (by omega) (by omega)
    have hAB : ai .sub (ai .add n x4) x4 = n + x4 - x4 := by rw [hA]; exact F.sub _ _ (by omega) (by omega)
    have hff : ab .eql x3 p = false → ab .eql x2 p = false → n = balK p (L.take (k + 1)) := fun a b => by rw [hnext, a, b]; simp
    have htf : ab .eql x3 p = true → ab .eql x2 p = false → ai .add n x4 = balK p (L.take (k + 1)) := fun a b => by rw [hnext, a, b, hA]; simp
    have hft : ab .eql x3 p = false → ab .eql x2 p = true → ai .sub n x4 = balK p (L.take (k + 1)) := fun a b => by rw [hnext, a, b, hB]; simp
    have htt : ab .eql x3 p = true → ab .eql x2 p = true → ai .sub (ai .add n x4) x4 = balK p (L.take (k + 1)) := fun a b => by rw [hnext, a, b, hAB]; simp
    have b1 : -1000000000000 * ((k + 1 : Nat) : Int) ≤ n ∧ n ≤ 1000000000000 * ((k + 1 : Nat) : Int) := by omega
    have b2 : -1000000000000 * ((k + 1 : Nat) : Int) ≤ ai .add n x4 ∧ ai .add n x4 ≤ 1000000000000 * ((k + 1 : Nat) : Int) := by rw [hA]; omega
    have b3 : -1000000000000 * ((k + 1 : Nat) : Int) ≤ ai .sub n x4 ∧ ai .sub n x4 ≤ 1000000000000 * ((k + 1 : Nat) : Int) := by rw [hB]; omega
    have b4 : -1000000000000 * ((k + 1 : Nat) : Int) ≤ ai .sub (ai .add n x4) x4 ∧ ai .sub (ai .add n x4) x4 ≤ 1000000000000 * ((k + 1 : Nat) : Int) := by rw [hAB]; omega
    refine sem_of (X := ⟨_, TT, ⟨0, 59, inPl⟩⟩) har' hTT mixed ?_
    intro S1 Cl1 hS1 hC1
    cbv
    rw [hb1]; cbv
    repeat (rw [hg]; cbv)
    cases c1 : ab .eql x3 p
    · cbv
      repeat (rw [hg]; cbv)
      cases c2 : ab .eql x2 p
      · cbv
        exact ⟨(k + 1, ai .add i 1, n), ⟨hlt, hadd, hff c1 c2, b1.1, b1.2⟩, by dsimp only; omega, ⟨by rfl, by cbv; try (repeat (first | exact rfl | exact trivial | refine ⟨?_, ?_⟩))⟩⟩
      · cbv
        repeat (rw [hg]; cbv)
        exact ⟨(k + 1, ai .add i 1, ai .sub n x4), ⟨hlt, hadd, hft c1 c2, b3.1, b3.2⟩, by dsimp only; omega, ⟨by rfl, by cbv; try (repeat (first | exact rfl | exact trivial | refine ⟨?_, ?_⟩))⟩⟩
    · cbv
      repeat (rw [hg]; cbv)
      cases c2 : ab .eql x2 p
      · cbv
        exact ⟨(k + 1, ai .add i 1, ai .add n x4), ⟨hlt, hadd, htf c1 c2, b2.1, b2.2⟩, by dsimp only; omega, ⟨by rfl, by cbv; try (repeat (first | exact rfl | exact trivial | refine ⟨?_, ?_⟩))⟩⟩
      · cbv
        repeat (rw [hg]; cbv)
        exact ⟨(k + 1, ai .add i 1, ai .sub (ai .add n x4) x4), ⟨hlt, hadd, htt c1 c2, b4.1, b4.2⟩, by dsimp only; omega, ⟨by rfl, by cbv; try (repeat (first | exact rfl | exact trivial | refine ⟨?_, ?_⟩))⟩⟩
  · have hb1 : ab .lss i (ln eL) = false := by rw [hlnL, F.lss, hi]; simpa using hlt
    refine sem_of (X := ⟨_, TT, ⟨0, 59, inPl⟩⟩) har' hTT mixed ?_
    intro S1 Cl1 hS1 hC1
    cbv
    rw [hb1]; cbv
    subst hV
    refine PLe.of_eq ?_
    rw [hn, List.take_of_length_le (by omega)]
theorem pBalance_does {T H N : List (List Int)} (h1 : ∀ x ∈ T, x.length = 24) (h2 : ∀ x ∈ H, x.length = 9) (h3 : ∀ x ∈ N, x.length = 7) (D : List Int) (p : Int) :
    Does Tryz.prog 40 [accP T H N, .list 1 (numP D), .int .i64 p] (.tup [.int .i64 (balN T H N D p), .int .i64 (balE T H N D p)]) := by
  have hpo := pPosts_does h1 h2 h3 D
  rw [pstQ_eq] at hpo
  have hin := checkParty_does p
  have hOr := orE_does [pstE T H N D, err (inB p 0 101) 68]
  rw [show orE [pstE T H N D, err (inB p 0 101) 68] = balE T H N D p by
    unfold balE err orE
    by_cases h : pstE T H N D = 0
    · rw [if_pos h, if_pos h]; cases inB p 0 101 <;> rfl
    · rw [if_neg h, if_neg h]] at hOr
  have hL5 : ∀ x ∈ pstL T H N D, x.length = 5 := pstL_five
  have hLa := pstL_amt (H := H) (N := N) h1 (D := D)
  have hLl := pstL_len T H N D
  obtain ⟨V, hV⟩ : ∃ V, PV.tup [.int .i64 (balN T H N D p), .int .i64 (balE T H N D p)] = V := ⟨_, rfl⟩
  rw [hV]
  unfold balN at hV
  obtain ⟨bE, hbe⟩ : ∃ e, balE T H N D p = e := ⟨_, rfl⟩
  obtain ⟨e, he⟩ : ∃ e, pstE T H N D = e := ⟨_, rfl⟩
  obtain ⟨L, hL⟩ : ∃ e, pstL T H N D = e := ⟨_, rfl⟩
  obtain ⟨ib, hib⟩ : ∃ e, err (inB p 0 101) 68 = e := ⟨_, rfl⟩
  rw [hbe, hL] at hV
  rw [he, hL] at hpo
  rw [hib] at hin
  rw [he, hib, hbe] at hOr
  rw [hL] at hL5 hLa hLl
  clear he hL hib hbe
  refine does_of (own := inPl) Tryz.func40 rfl Tryz.ntmps40 (congrArg Array.toList Tryz.results40) (fun us w => Tryz.call40 us w) hTT mixed (Nat.le_of_ble_eq_true rfl) ?_
  intro w0 im0 D0 S Cl hS hC ar har
  have har' := har
  obtain ⟨ai, ab, nz, inr, fi, pk, ix, ln, sb, eqi, sl, fits, mn, mx, nt, be, up, fu, mg, mh, ms⟩ := ar
  have F := facts_of har
  clear har
  obtain ⟨eT, hT⟩ : ∃ es, T.map rowP = es := ⟨_, rfl⟩
  obtain ⟨eH, hH⟩ : ∃ es, H.map rowP = es := ⟨_, rfl⟩
  obtain ⟨eN, hN⟩ : ∃ es, N.map rowP = es := ⟨_, rfl⟩
  obtain ⟨eD, hED⟩ : ∃ es, numP D = es := ⟨_, rfl⟩
  obtain ⟨eL, hEL⟩ : ∃ es, L.map rowP = es := ⟨_, rfl⟩
  simp only [accP, hT, hH, hN, hED, hEL] at hpo ⊢
  have hlnL : ln eL = L.length := by rw [F.ln, ← hEL]; simp
  cbv
  refine ⟨_, hC _ _ _ hpo, ?_⟩; cbv
  refine ⟨_, hC _ _ _ hin, ?_⟩; cbv
  refine ⟨_, hC _ _ _ hOr, ?_⟩; cbv
  cases c0 : ab .neq bE 0
  rotate_left
  · have h0 : ¬ bE = 0 := by rw [F.neq] at c0; simpa using c0
    rw [if_neg h0] at hV
    cbv
    subst hV
    exact PLe.of_eq rfl
  have h0 : bE = 0 := by rw [F.neq] at c0; simpa using c0
  rw [if_pos h0, h0] at hV
  cbv
  refine hS _ _ _ (sem_loop (fun x : Nat × Int × Int => [sI 2 p, sI 11 x.2.2, sL 28 5 eL, sI 29 (ln eL), sI 30 x.2.1]) (fun x => x.1 ≤ L.length ∧ x.2.1 = (x.1 : Int) ∧ x.2.2 = balK p (L.take x.1) ∧ -1000000000000 * (x.1 : Int) ≤ x.2.2 ∧ x.2.2 ≤ 1000000000000 * (x.1 : Int)) (fun x => L.length - x.1) (fun t => t) (0, 0, 0) (fun t => t) ⟨by rfl, by cbv; try (repeat (first | exact rfl | exact trivial | refine ⟨?_, ?_⟩))⟩ ?_ ?_)
  · exact ⟨by simp, rfl, rfl, by simp, by simp⟩
  rintro ⟨k, i, n⟩ ⟨hk, hi, hn, hlo, hhi⟩
  dsimp only at hk hi hn hlo hhi
  have hadd : ai .add i 1 = ((k + 1 : Nat) : Int) := by rw [F.add i 1 (by omega) (by omega), hi]; simp
  by_cases hlt : k < L.length
  · have hb1 : ab .lss i (ln eL) = true := by rw [hlnL, F.lss, hi]; simpa using hlt
    have hg : ix eL i = some (rowP L[k]) := by rw [F.ix _ i k hi, ← hEL]; exact get_rows hlt
    have hnext := balK_take (p := p) hlt
    have hamt := hLa _ (List.getElem_mem hlt)
    obtain ⟨x0, x1, x2, x3, x4, hx⟩ := list5 (hL5 _ (List.getElem_mem hlt))
    rw [hx] at hg hnext hamt
    simp only [balF, List.getD_cons_succ, List.getD_cons_zero] at hnext hamt
    rw [← hn, ← F.eql, ← F.eql] at hnext
    have hA : ai .add n x4 = n + x4 := F.add _ _ (by omega) (by omega)
    have hB : ai .sub n x4 = n - x4 := F.sub _ _ (by omega) (by omega)
    have hAB : ai .sub (ai .add n x4) x4 = n + x4 - x4 := by rw [hA]; exact F.sub _ _ (by omega) (by omega)
    have hff : ab .eql x3 p = false → ab .eql x2 p = false → n = balK p (L.take (k + 1)) := fun a b => by rw [hnext, a, b]; simp
    have htf : ab .eql x3 p = true → ab .eql x2 p = false → ai .add n x4 = balK p (L.take (k + 1)) := fun a b => by rw [hnext, a, b, hA]; simp
    have hft : ab .eql x3 p = false → ab .eql x2 p = true → ai .sub n x4 = balK p (L.take (k + 1)) := fun a b => by rw [hnext, a, b, hB]; simp
    have htt : ab .eql x3 p = true → ab .eql x2 p = true → ai .sub (ai .add n x4) x4 = balK p (L.take (k + 1)) := fun a b => by rw [hnext, a, b, hAB]; simp
    have b1 : -1000000000000 * ((k + 1 : Nat) : Int) ≤ n ∧ n ≤ 1000000000000 * ((k + 1 : Nat) : Int) := by omega
    have b2 : -1000000000000 * ((k + 1 : Nat) : Int) ≤ ai .add n x4 ∧ ai .add n x4 ≤ 1000000000000 * ((k + 1 : Nat) : Int) := by rw [hA]; omega
    have b3 : -1000000000000 * ((k + 1 : Nat) : Int) ≤ ai .sub n x4 ∧ ai .sub n x4 ≤ 1000000000000 * ((k + 1 : Nat) : Int) := by rw [hB]; omega
    have b4 : -1000000000000 * ((k + 1 : Nat) : Int) ≤ ai .sub (ai .add n x4) x4 ∧ ai .sub (ai .add n x4) x4 ≤ 1000000000000 * ((k + 1 : Nat) : Int) := by rw [hAB]; omega
    refine sem_of (X := ⟨_, TT, ⟨0, 52, inPl⟩⟩) har' hTT mixed ?_
    intro S1 Cl1 hS1 hC1
    cbv
    rw [hb1]; cbv
    repeat (rw [hg]; cbv)
    cases c1 : ab .eql x3 p
    · cbv
      repeat (rw [hg]; cbv)
      cases c2 : ab .eql x2 p
      · cbv
        exact ⟨(k + 1, ai .add i 1, n), ⟨hlt, hadd, hff c1 c2, b1.1, b1.2⟩, by dsimp only; omega, ⟨by rfl, by cbv; try (repeat (first | exact rfl | exact trivial | refine ⟨?_, ?_⟩))⟩⟩
      · cbv
        repeat (rw [hg]; cbv)
        exact ⟨(k + 1, ai .add i 1, ai .sub n x4), ⟨hlt, hadd, hft c1 c2, b3.1, b3.2⟩, by dsimp only; omega, ⟨by rfl, by cbv; try (repeat (first | exact rfl | exact trivial | refine ⟨?_, ?_⟩))⟩⟩
    · cbv
      repeat (rw [hg]; cbv)
      cases c2 : ab .eql x2 p
      · cbv
        exact ⟨(k + 1, ai .add i 1, ai .add n x4), ⟨hlt, hadd, htf c1 c2, b2.1, b2.2⟩, by dsimp only; omega, ⟨by rfl, by cbv; try (repeat (first | exact rfl | exact trivial | refine ⟨?_, ?_⟩))⟩⟩
      · cbv
        repeat (rw [hg]; cbv)
        exact ⟨(k + 1, ai .add i 1, ai .sub (ai .add n x4) x4), ⟨hlt, hadd, htt c1 c2, b4.1, b4.2⟩, by dsimp only; omega, ⟨by rfl, by cbv; try (repeat (first | exact rfl | exact trivial | refine ⟨?_, ?_⟩))⟩⟩
  · have hb1 : ab .lss i (ln eL) = false := by rw [hlnL, F.lss, hi]; simpa using hlt
    refine sem_of (X := ⟨_, TT, ⟨0, 52, inPl⟩⟩) har' hTT mixed ?_
    intro S1 Cl1 hS1 hC1
    cbv
    rw [hb1]; cbv
    subst hV
    refine PLe.of_eq ?_
    rw [hn, List.take_of_length_le (by omega)]
theorem equal_does (a b : List (List Int)) (ha : ∀ x ∈ a, x.length = 5) (hb : ∀ x ∈ b, x.length = 5) (hsm : a.length ≤ 1000000000) :
    Does Tryz.prog 108 [.list 5 (a.map rowP), .list 5 (b.map rowP)] (.bool (a == b)) := by
  obtain ⟨V, hV⟩ : ∃ V, PV.bool (a == b) = V := ⟨_, rfl⟩
  rw [hV]
  refine does_of (own := inPl) Tryz.func108 rfl Tryz.ntmps108 (congrArg Array.toList Tryz.results108) (fun us w => Tryz.call108 us w) hTT mixed (Nat.le_of_ble_eq_true rfl) ?_
  intro w0 im0 D0 S Cl hS hC ar har
  have har' := har
  obtain ⟨ai, ab, nz, inr, fi, pk, ix, ln, sb, eqi, sl, fits, mn, mx, nt, be, up, fu, mg, mh, ms⟩ := ar
  have F := facts_of har
  clear har
  obtain ⟨eA, hA⟩ : ∃ es, a.map rowP = es := ⟨_, rfl⟩
  obtain ⟨eB, hB⟩ : ∃ es, b.map rowP = es := ⟨_, rfl⟩
  have hlA : ln eA = a.length := by rw [F.ln, ← hA]; simp
  have hlB : ln eB = b.length := by rw [F.ln, ← hB]; simp
  rw [hA, hB]
  cbv
  by_cases hlen : a.length = b.length
  rotate_left
  · have c0 : ab .neq (ln eA) (ln eB) = true := by rw [F.neq, hlA, hlB]; exact bne_iff_ne.2 fun h => hlen (Int.ofNat.inj h)
    rw [c0]; cbv
    subst hV
    refine PLe.of_eq ?_
    congr 1
    exact (Bool.eq_false_iff.2 fun he => hlen (by rw [eq_of_beq he])).symm
  have c0 : ab .neq (ln eA) (ln eB) = false := by rw [F.neq, hlA, hlB, hlen]; simp
  rw [c0]; cbv
  refine hS _ _ _ (sem_loop (fun x : Nat × Int => [sL 0 5 eA, sL 1 5 eB, sI 12 (ln eA), sI 13 x.2]) (fun x => x.1 ≤ a.length ∧ x.2 = (x.1 : Int) ∧ a.take x.1 = b.take x.1) (fun x => a.length - x.1) (fun t => t) (0, 0) (fun t => t) ⟨by rfl, by cbv; try (repeat (first | exact rfl | exact trivial | refine ⟨?_, ?_⟩))⟩ ?_ ?_)
  · exact ⟨by simp, rfl, by simp⟩
  rintro ⟨k, i⟩ ⟨hk, hi, hs⟩
  dsimp only at hk hi hs
  have hadd : ai .add i 1 = ((k + 1 : Nat) : Int) := by rw [F.add i 1 (by omega) (by omega), hi]; simp
  by_cases hlt : k < a.length
  · have hb1 : ab .lss i (ln eA) = true := by rw [hlA, F.lss, hi]; simpa using hlt
    have hltb : k < b.length := by omega
    have hgA : ix eA i = some (rowP a[k]) := by rw [F.ix _ i k hi, ← hA]; exact get_rows hlt
    have hgB : ix eB i = some (rowP b[k]) := by rw [F.ix _ i k hi, ← hB]; exact get_rows hltb
    have hq : eqi (rowP a[k]) (rowP b[k]) = (a[k] == b[k]) := by rw [F.eqi, eqPs_rowP (by rw [ha _ (List.getElem_mem hlt), hb _ (List.getElem_mem hltb)])]
    have hyes : (a[k] == b[k]) = true → a.take (k + 1) = b.take (k + 1) := fun h => by rw [take_last hlt, take_last hltb, hs, eq_of_beq h]
    have hno : (a[k] == b[k]) = false → V = .bool false := fun h => by
      rw [← hV]
      congr 1
      refine Bool.eq_false_iff.2 fun he => ?_
      have he := eq_of_beq he
      subst he
      simp at h
    obtain ⟨x0, x1, x2, x3, x4, hx⟩ := list5 (ha _ (List.getElem_mem hlt))
    obtain ⟨y0, y1, y2, y3, y4, hy⟩ := list5 (hb _ (List.getElem_mem hltb))
    obtain ⟨s', hs'⟩ : ∃ s', (a[k] == b[k]) = s' := ⟨_, rfl⟩
    rw [hs'] at hq hyes hno
    rw [hx] at hgA hq
    rw [hy] at hgB hq
    have hq : eqi [.int .i64 x0, .int .i64 x1, .int .i64 x2, .int .i64 x3, .int .i64 x4] [.int .i64 y0, .int .i64 y1, .int .i64 y2, .int .i64 y3, .int .i64 y4] = s' := hq
    refine sem_of (X := ⟨_, TT, ⟨0, 26, inPl⟩⟩) har' hTT mixed ?_
    intro S1 Cl1 hS1 hC1
    cbv
    rw [hb1]; cbv
    repeat (rw [hgA]; cbv)
    repeat (rw [hgB]; cbv)
    rw [hq, F.nt]
    cases s'
    · cbv
      rw [hno rfl]
      exact PLe.refl _
    · cbv
      exact ⟨(k + 1, ai .add i 1), ⟨hlt, hadd, hyes rfl⟩, by dsimp only; omega, ⟨by rfl, by cbv; try (repeat (first | exact rfl | exact trivial | refine ⟨?_, ?_⟩))⟩⟩
  · have hb1 : ab .lss i (ln eA) = false := by rw [hlA, F.lss, hi]; simpa using hlt
    have hkE : k = a.length := by omega
    have hab : a = b := by rw [hkE, List.take_length, hlen, List.take_length] at hs; exact hs
    refine sem_of (X := ⟨_, TT, ⟨0, 26, inPl⟩⟩) har' hTT mixed ?_
    intro S1 Cl1 hS1 hC1
    cbv
    rw [hb1]; cbv
    rw [← hV, hab]
    exact PLe.of_eq (by simp)
theorem pCheckPosts_does {T H N : List (List Int)} (h1 : ∀ x ∈ T, x.length = 24) (h2 : ∀ x ∈ H, x.length = 9) (h3 : ∀ x ∈ N, x.length = 7) (D : List Int) (l : List (List Int)) (hl : ∀ x ∈ l, x.length = 5) :
    Does Tryz.prog 43 [accP T H N, .list 1 (numP D), .list 5 (l.map rowP)] (.int .i64 (cpsE T H N D l)) := by
  have hpo := pPosts_does h1 h2 h3 D
  rw [pstQ_eq] at hpo
  have hsa := equal_does (pstL T H N D) l pstL_five hl (by have := pstL_len T H N D; omega)
  have hun := unless_does (pstL T H N D == l) 67
  have hOr := orE_does [pstE T H N D, err (pstL T H N D == l) 67]
  have hres : orE [pstE T H N D, err (pstL T H N D == l) 67] = cpsE T H N D l := by
    unfold cpsE err orE
    by_cases h : pstE T H N D = 0
    · rw [if_pos h, if_pos h]; cases (pstL T H N D == l) <;> rfl
    · rw [if_neg h, if_neg h]
  rw [hres] at hOr
  generalize cpsE T H N D l = V at *
  generalize pstE T H N D = e at *
  generalize hsb : (pstL T H N D == l) = sb' at *
  clear hsb hres
  generalize err sb' 67 = e9 at *
  refine does_of (own := inPl) Tryz.func43 rfl Tryz.ntmps43 (congrArg Array.toList Tryz.results43) (fun us w => Tryz.call43 us w) hTT mixed (Nat.le_of_ble_eq_true rfl) ?_
  intro w0 im0 D0 S Cl hS hC ar har
  have har' := har
  obtain ⟨ai, ab, nz, inr, fi, pk, ix, ln, sb, eqi, sl, fits, mn, mx, nt, be, up, fu, mg, mh, ms⟩ := ar
  have F := facts_of har
  clear har
  obtain ⟨eT, hT⟩ : ∃ es, T.map rowP = es := ⟨_, rfl⟩
  obtain ⟨eH, hH⟩ : ∃ es, H.map rowP = es := ⟨_, rfl⟩
  obtain ⟨eN, hN⟩ : ∃ es, N.map rowP = es := ⟨_, rfl⟩
  obtain ⟨eD, hED⟩ : ∃ es, numP D = es := ⟨_, rfl⟩
  obtain ⟨eL, hEL⟩ : ∃ es, (pstL T H N D).map rowP = es := ⟨_, rfl⟩
  obtain ⟨el, hel⟩ : ∃ es, l.map rowP = es := ⟨_, rfl⟩
  simp only [accP, hT, hH, hN, hED, hEL, hel] at hpo hsa ⊢
  cbv
  refine ⟨_, hC _ _ _ hpo, ?_⟩; cbv
  refine ⟨_, hC _ _ _ hsa, ?_⟩; cbv
  refine ⟨_, hC _ _ _ hun, ?_⟩; cbv
  refine ⟨_, hC _ _ _ hOr, ?_⟩; cbv
  exact PLe.refl _
theorem finePosts_does (hs : Does Tryz.prog 11 [] (.bool true)) {T H N : List (List Int)} (h1 : ∀ x ∈ T, x.length = 24) (h2 : ∀ x ∈ H, x.length = 9) (h3 : ∀ x ∈ N, x.length = 7) (D : List Int) (l : List (List Int)) (hl : ∀ x ∈ l, x.length = 5) :
    Does Tryz.prog 6 [accP T H N, .list 1 (numP D), .list 5 (l.map rowP)] (.bool true) := by
  have a1 := pPosts_does h1 h2 h3 D
  rw [pstQ_eq] at a1
  have a2 := rPosts_does h1 h2 h3 D
  have b1 := fun p => pBalance_does h1 h2 h3 D p
  have b2 := fun p => rBalance_does h1 h2 h3 D p
  have c1 := pCheckPosts_does h1 h2 h3 D l hl
  have c2 := rCheckPosts_does h1 h2 h3 D l hl
  have s1 := rSame_does (pstL T H N D) (pstL T H N D) pstL_five pstL_five (by have := pstL_len T H N D; omega)
  rw [show (pstL T H N D == pstL T H N D) = true by simp] at s1
  have hll : l = [] ∨ ∃ x m, l = x :: m := by cases l with
    | nil => exact .inl rfl
    | cons x m => exact .inr ⟨x, m, rfl⟩
  generalize balN T H N D = bn at *
  generalize balE T H N D = be9 at *
  generalize cpsE T H N D l = ce at *
  generalize pstE T H N D = pe at *
  refine does_of (own := inPl) Tryz.func6 rfl Tryz.ntmps6 (congrArg Array.toList Tryz.results6) (fun us w => Tryz.call6 us w) hTT mixed (Nat.le_of_ble_eq_true rfl) ?_
  intro w0 im0 D0 S Cl hS hC ar har
  have har' := har
  obtain ⟨ai, ab, nz, inr, fi, pk, ix, ln, sb, eqi, sl, fits, mn, mx, nt, be, up, fu, mg, mh, ms⟩ := ar
  have F := facts_of har
  clear har
  obtain ⟨eT, hT⟩ : ∃ es, T.map rowP = es := ⟨_, rfl⟩
  obtain ⟨eH, hH⟩ : ∃ es, H.map rowP = es := ⟨_, rfl⟩
  obtain ⟨eN, hN⟩ : ∃ es, N.map rowP = es := ⟨_, rfl⟩
  obtain ⟨eD, hED⟩ : ∃ es, numP D = es := ⟨_, rfl⟩
  obtain ⟨eL, hEL⟩ : ∃ es, (pstL T H N D).map rowP = es := ⟨_, rfl⟩
  obtain ⟨el, hel⟩ : ∃ es, l.map rowP = es := ⟨_, rfl⟩
  simp only [accP, hT, hH, hN, hED, hEL, hel] at a1 a2 b1 b2 c1 c2 s1 ⊢
  have q : ∀ x : Int, ab .eql x x = true := fun x => by rw [F.eql]; simp
  have hg : ab .gtr (ln el) 0 = true → ∃ x0 x1 x2 x3 x4, ix el 0 = some [.int .i64 x0, .int .i64 x1, .int .i64 x2, .int .i64 x3, .int .i64 x4] := fun h => by
    rcases hll with rfl | ⟨x, m, rfl⟩
    · rw [F.gtr, F.ln, ← hel] at h; simp at h
    · obtain ⟨x0, x1, x2, x3, x4, rfl⟩ := list5 (hl x (by simp))
      refine ⟨x0, x1, x2, x3, x4, ?_⟩
      rw [F.ix el 0 0 rfl, ← hel]; rfl
  cbv
  refine ⟨_, hC _ _ _ hs, ?_⟩; cbv
  refine ⟨_, hC _ _ _ a1, ?_⟩; cbv
  refine ⟨_, hC _ _ _ a2, ?_⟩; cbv
  cases c0 : ab .gtr (ln el) 0
  · cbv
    refine ⟨_, hC _ _ _ (b1 _), ?_⟩; cbv
    refine ⟨_, hC _ _ _ (b2 _), ?_⟩; cbv
    refine ⟨_, hC _ _ _ s1, ?_⟩; cbv
    rw [q]; cbv
    rw [q]; cbv
    rw [q]; cbv
    refine ⟨_, hC _ _ _ c1, ?_⟩; cbv
    refine ⟨_, hC _ _ _ c2, ?_⟩; cbv
    rw [q]; cbv
    exact PLe.refl _
  · obtain ⟨x0, x1, x2, x3, x4, hx⟩ := hg c0
    cbv
    repeat (rw [hx]; cbv)
    refine ⟨_, hC _ _ _ (b1 _), ?_⟩; cbv
    refine ⟨_, hC _ _ _ (b2 _), ?_⟩; cbv
    refine ⟨_, hC _ _ _ s1, ?_⟩; cbv
    rw [q]; cbv
    rw [q]; cbv
    rw [q]; cbv
    refine ⟨_, hC _ _ _ c1, ?_⟩; cbv
    refine ⟨_, hC _ _ _ c2, ?_⟩; cbv
    rw [q]; cbv
    exact PLe.refl _
end Go.Proofs.YtjimjdhdnkhfnaaGreat
