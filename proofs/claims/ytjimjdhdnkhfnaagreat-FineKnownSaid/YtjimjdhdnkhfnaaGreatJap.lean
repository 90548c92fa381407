/- Contracts of functions of the program and of the reference, a calculus of states, and plain facts: a part of a proof. Own text. -/
import Derived.Test.YtjimjdhdnkhfnaaGreatJae
import Derived.Test.YtjimjdhdnkhfnaaGreatJan
import Derived.Test.YtjimjdhdnkhfnaaGreatJao
set_option linter.unusedVariables false
set_option linter.unusedSimpArgs false
set_option linter.unusedSectionVars false
set_option linter.unnecessarySimpa false
namespace Go.Proofs.YtjimjdhdnkhfnaaGreat
open Go Go.RowKit
set_option maxRecDepth 100000
set_option maxHeartbeats 2000000
def tolC (h : List Int) (T N : List (List Int)) (d : Int) : List PV := rowP h ++ ([.list 24 (T.map rowP), .list 7 ((sayL N h d).map rowP), .int .i64 d] ++ rowP (lotN T N h d))
def tolL (T H N : List (List Int)) (d : Int) : List (List PV) := (H.filter (cntH d)).map fun h => tolC h T N d
theorem tellAll_does {T H N : List (List Int)} (h1 : ∀ x ∈ T, x.length = 24) (h2 : ∀ x ∈ H, x.length = 9) (h3 : ∀ x ∈ N, x.length = 7) {d : Int} (hq : askE T H N d = 0) :
    Does Tryz.prog 87 [accP T H N, .int .i64 d] (.list 16 (tolL T H N d)) := by
  obtain ⟨V, hV⟩ : ∃ V, PV.list 16 (tolL T H N d) = V := ⟨_, rfl⟩
  rw [hV]
  obtain ⟨ha, hd⟩ := askE_ok hq
  have h60 := (accOk_len ha).2.1
  have htell : ∀ x ∈ H, Does Tryz.prog 126 [accP T H N, .agg (rowP x), .int .i64 d] (.agg (tolC x T N d)) := fun x hx => by
    have := tell_does h1 h2 h3 ha (h2 x hx) (accOk_H ha x hx) d hd
    rwa [lotQ_eq h1 (accOk_T ha) (accOk_N ha) (accOk_H ha x hx) hd] at this
  have hcnt := fun (k u : Int) => counts_does k u d
  have hTK : ∀ k, k < H.length → tolL T (H.take (k + 1)) N d = if cntH d (H.getD k []) = true then tolL T (H.take k) N d ++ [tolC (H.getD k []) T N d] else tolL T (H.take k) N d := fun k hk => by
    unfold tolL
    rw [take_last hk, List.filter_append, List.getD_eq_getElem?_getD, List.getElem?_eq_getElem hk, Option.getD_some]
    by_cases hc : cntH d H[k] = true
    · simp [hc]
    · simp [hc]
  have hTlen : ∀ k, (tolL T (H.take k) N d).length ≤ H.length := fun k => by
    unfold tolL
    have := List.length_filter_le (cntH d) (H.take k)
    simp only [List.length_map, List.length_take] at this ⊢; omega
  have hTall : tolL T (H.take H.length) N d = tolL T H N d := by rw [List.take_length]
  have hT0 : tolL T (H.take 0) N d = [] := rfl
  obtain ⟨tk, htk⟩ : ∃ tk : Nat → List (List PV), (fun k => tolL T (H.take k) N d) = tk := ⟨_, rfl⟩
  have htkd : ∀ k, tolL T (H.take k) N d = tk k := fun k => by rw [← htk]
  rw [← hTall] at hV
  simp only [htkd] at hTK hTlen hT0 hV
  clear htkd htk hTall
  refine does_of (own := inPl) Tryz.func87 rfl Tryz.ntmps87 (congrArg Array.toList Tryz.results87) (fun us w => Tryz.call87 us w) hTT mixed (Nat.le_of_ble_eq_true rfl) ?_
  intro w0 im0 D0 S Cl hS hC ar har
  have har' := har
  obtain ⟨ai, ab, nz, inr, fi, pk, ix, ln, sb, eqi, sl, fits, mn, mx, nt, be, up, fu, mg, mh, ms⟩ := ar
  have F := facts_of har
  clear har
  obtain ⟨eT, hT1⟩ : ∃ es, T.map rowP = es := ⟨_, rfl⟩
  obtain ⟨eH, hH1⟩ : ∃ es, H.map rowP = es := ⟨_, rfl⟩
  obtain ⟨eN, hN1⟩ : ∃ es, N.map rowP = es := ⟨_, rfl⟩
  have hlnH : ln eH = H.length := by rw [F.ln, ← hH1]; simp
  simp only [accP, hT1, hH1, hN1] at htell ⊢
  cbv
  refine hS _ _ _ (sem_mkRow 5 1000 123 16 (by rfl) (by rfl) (sem_loopR (fun x : Nat × Int × List (List PV) => [sI 1 d, sP 2 2, sR 5 1000, sL 9 9 eH, sI 10 (ln eH), sI 11 x.2.1, bX 2 26 [cL 24 eT, cL 9 eH, cL 7 eN], rW 1000 123 16 x.2.2]) (fun x => x.1 ≤ H.length ∧ x.2.1 = (x.1 : Int) ∧ x.2.2 = tk x.1) (fun x => H.length - x.1) (0, 0, []) (fun t => t) ⟨by rfl, by cbv; try (repeat (first | exact rfl | exact trivial | refine ⟨?_, ?_⟩))⟩ ?_ ?_))
  · exact ⟨by simp, rfl, hT0.symm⟩
  rintro ⟨m, r, es⟩ ⟨hm, hr, hes⟩
  dsimp only at hm hr hes
  have hradd : ai .add r 1 = ((m + 1 : Nat) : Int) := by rw [F.add r 1 (by omega) (by omega), hr]; simp
  have hfit : ∀ x, fits 160 es [x] = true := fun x => F.fits _ _ _ (by
    have := hTlen m
    rw [hes]; simp only [List.length_singleton]; omega)
  refine sem_of (X := ⟨_, TT, ⟨0, 30, inPl⟩⟩) har' hTT mixed ?_
  intro S1 Cl1 hS1 hC1
  cbv
  by_cases hlt : m < H.length
  · have hb1 : ab .lss r (ln eH) = true := by rw [hlnH, F.lss, hr]; simpa using hlt
    have hg : ix eH r = some (rowP H[m]) := by rw [F.ix _ r m hr, ← hH1]; exact get_rows hlt
    have hte := htell _ (List.getElem_mem hlt)
    have hnext := hTK m hlt
    rw [List.getD_eq_getElem?_getD, List.getElem?_eq_getElem hlt, Option.getD_some] at hnext
    obtain ⟨x0, x1, x2, x3, x4, x5, x6, x7, x8, hx⟩ := list9 (h2 _ (List.getElem_mem hlt))
    rw [hx] at hg hte hnext
    obtain ⟨l0, l1, l2, l3, hlo⟩ : ∃ l0 l1 l2 l3, lotN T N [x0, x1, x2, x3, x4, x5, x6, x7, x8] d = [l0, l1, l2, l3] := ⟨_, _, _, _, rfl⟩
    obtain ⟨eS, hS1⟩ : ∃ es, (sayL N [x0, x1, x2, x3, x4, x5, x6, x7, x8] d).map rowP = es := ⟨_, rfl⟩
    simp only [tolC, hlo, hT1, hS1, cntH, List.getD_cons_succ, List.getD_cons_zero] at hte hnext
    have hc := hcnt x7 x8
    obtain ⟨cb, h4⟩ : ∃ z, cntB x7 x8 d = z := ⟨_, rfl⟩
    rw [h4] at hc hnext
    have hyes : cb = true → es ++ [rowP [x0, x1, x2, x3, x4, x5, x6, x7, x8] ++ ([.list 24 eT, .list 7 eS, .int .i64 d] ++ rowP [l0, l1, l2, l3])] = tk (m + 1) := fun h => by rw [hnext, if_pos h, hes]
    have hno : cb = false → es = tk (m + 1) := fun h => by rw [hnext, if_neg (by simp [h]), hes]
    clear hnext htell hTK hTlen
    rw [hb1]; cbv
    repeat (rw [hg]; cbv)
    refine ⟨_, hC1 _ _ _ hc, ?_⟩; cbv
    cases cb
    · cbv
      exact ⟨(m + 1, ai .add r 1, es), (fun t => t), ⟨hlt, hradd, hno rfl⟩, by dsimp only; omega, ⟨by rfl, by cbv; try (repeat (first | exact rfl | exact trivial | refine ⟨?_, ?_⟩))⟩⟩
    · cbv
      refine ⟨_, hC1 _ _ _ hte, ?_⟩; cbv
      rw [hfit]; cbv
      exact ⟨(m + 1, ai .add r 1, es ++ [rowP [x0, x1, x2, x3, x4, x5, x6, x7, x8] ++ ([.list 24 eT, .list 7 eS, .int .i64 d] ++ rowP [l0, l1, l2, l3])]), (fun t => bif Nat.beq t 1000 then 27 else t), ⟨hlt, hradd, hyes rfl⟩, by dsimp only; omega, ⟨by rfl, by cbv; try (repeat (first | exact rfl | exact trivial | refine ⟨?_, ?_⟩))⟩⟩
  · have hb1 : ab .lss r (ln eH) = false := by rw [hlnH, F.lss, hr]; simpa using hlt
    have hmE : m = H.length := by omega
    rw [hb1]; cbv
    subst hV
    refine PLe.of_eq ?_
    rw [hes, hmE]
theorem stays1_does {h : List Int} (hh : h.length = 9) (T N : List (List Int)) (d : Int) : Does Tryz.prog 88 [.agg (tolC h T N d)] (.bool true) := by
  obtain ⟨x0, x1, x2, x3, x4, x5, x6, x7, x8, rfl⟩ := list9 hh
  obtain ⟨l0, l1, l2, l3, hlo⟩ : ∃ l0 l1 l2 l3, lotN T N [x0, x1, x2, x3, x4, x5, x6, x7, x8] d = [l0, l1, l2, l3] := ⟨_, _, _, _, rfl⟩
  simp only [tolC, hlo]
  generalize T.map rowP = eT
  generalize (sayL N [x0, x1, x2, x3, x4, x5, x6, x7, x8] d).map rowP = eS
  refine does_of (own := inPl) Tryz.func88 rfl Tryz.ntmps88 (congrArg Array.toList Tryz.results88) (fun us w => Tryz.call88 us w) hTT mixed (Nat.le_of_ble_eq_true rfl) ?_
  intro w0 im0 D0 S Cl hS hC ar har
  have har' := har
  obtain ⟨ai, ab, nz, inr, fi, pk, ix, ln, sb, eqi, sl, fits, mn, mx, nt, be, up, fu, mg, mh, ms⟩ := ar
  have F := facts_of har
  clear har
  cbv
  exact PLe.refl _
theorem inside1_does {h : List Int} (hh : h.length = 9) (T N : List (List Int)) (d : Int) : Does Tryz.prog 112 [.agg (tolC h T N d), .ptr [.int .i64 d]] (.bool (decide (h.getD 6 0 ≤ d) && (lotN T N h d).getD 2 0 == 0)) := by
  obtain ⟨x0, x1, x2, x3, x4, x5, x6, x7, x8, rfl⟩ := list9 hh
  obtain ⟨l0, l1, l2, l3, hlo⟩ : ∃ l0 l1 l2 l3, lotN T N [x0, x1, x2, x3, x4, x5, x6, x7, x8] d = [l0, l1, l2, l3] := ⟨_, _, _, _, rfl⟩
  simp only [tolC, hlo, List.getD_cons_succ, List.getD_cons_zero]
  generalize T.map rowP = eT
  generalize (sayL N [x0, x1, x2, x3, x4, x5, x6, x7, x8] d).map rowP = eS
  obtain ⟨V, hV⟩ : ∃ V, PV.bool (decide (x6 ≤ d) && l2 == 0) = V := ⟨_, rfl⟩
  rw [hV]
  refine does_of (own := inPl) Tryz.func112 rfl Tryz.ntmps112 (congrArg Array.toList Tryz.results112) (fun us w => Tryz.call112 us w) hTT mixed (Nat.le_of_ble_eq_true rfl) ?_
  intro w0 im0 D0 S Cl hS hC ar har
  have har' := har
  obtain ⟨ai, ab, nz, inr, fi, pk, ix, ln, sb, eqi, sl, fits, mn, mx, nt, be, up, fu, mg, mh, ms⟩ := ar
  have F := facts_of har
  clear har
  cbv
  cases c0 : ab .leq x6 d
  · cbv
    rw [F.leq] at c0
    rw [← hV, c0]; exact PLe.refl _
  · cbv
    rw [F.leq] at c0
    rw [← hV, c0, F.eql]; exact PLe.of_eq (by simp)
theorem ended1_does {h : List Int} (hh : h.length = 9) (T N : List (List Int)) (d way : Int) : Does Tryz.prog 114 [.agg (tolC h T N d), .ptr [.int .i64 way]] (.bool ((lotN T N h d).getD 2 0 == way)) := by
  obtain ⟨x0, x1, x2, x3, x4, x5, x6, x7, x8, rfl⟩ := list9 hh
  obtain ⟨l0, l1, l2, l3, hlo⟩ : ∃ l0 l1 l2 l3, lotN T N [x0, x1, x2, x3, x4, x5, x6, x7, x8] d = [l0, l1, l2, l3] := ⟨_, _, _, _, rfl⟩
  simp only [tolC, hlo, List.getD_cons_succ, List.getD_cons_zero]
  generalize T.map rowP = eT
  generalize (sayL N [x0, x1, x2, x3, x4, x5, x6, x7, x8] d).map rowP = eS
  obtain ⟨V, hV⟩ : ∃ V, PV.bool (l2 == way) = V := ⟨_, rfl⟩
  rw [hV]
  refine does_of (own := inPl) Tryz.func114 rfl Tryz.ntmps114 (congrArg Array.toList Tryz.results114) (fun us w => Tryz.call114 us w) hTT mixed (Nat.le_of_ble_eq_true rfl) ?_
  intro w0 im0 D0 S Cl hS hC ar har
  have har' := har
  obtain ⟨ai, ab, nz, inr, fi, pk, ix, ln, sb, eqi, sl, fits, mn, mx, nt, be, up, fu, mg, mh, ms⟩ := ar
  have F := facts_of har
  clear har
  cbv
  rw [← hV, F.eql]; exact PLe.of_eq (by simp)
theorem sourcesS_does {T N : List (List Int)} {d : Int} {H : List (List Int)} (h2 : ∀ x ∈ H, x.length = 9) (h60 : H.length ≤ 60) (p : List Int → Bool) (hp : ∀ x, x.length = 9 → Does Tryz.prog 88 [.agg (tolC x T N d)] (.bool (p x))) :
    DoesF Tryz.prog 86 [.list 16 (H.map fun h => tolC h T N d), .fn (.func 88) [] []] (.list 1 (numP (srcsN p H))) := by
  obtain ⟨V, hV⟩ : ∃ V, numP (srcsN p H) = V := ⟨_, rfl⟩
  rw [hV]
  obtain ⟨eL, hEL⟩ : ∃ es, (H.map fun h => tolC h T N d) = es := ⟨_, rfl⟩
  rw [hEL]
  refine doesF_of (own := inPl) Tryz.func86 rfl Tryz.ntmps86 (congrArg Array.toList Tryz.results86) (fun us w => Tryz.call86 us w) hTT mixed (Nat.le_of_ble_eq_true rfl) ?_
  intro w0 im0 D0 S Cl hS hC ar har
  have har' := har
  obtain ⟨ai, ab, nz, inr, fi, pk, ix, ln, sb, eqi, sl, fits, mn, mx, nt, be, up, fu, mg, mh, ms⟩ := ar
  have F := facts_of har
  clear har
  cbv
  refine hS _ _ _ (sem_mkRow 5 1000 3 1 (by rfl) (by rfl) (sem_loopR (fun x : Nat × Int × List (List PV) => [(kT 1, .t (.c (.p (.fn (.func 88) [] [])))), sR 5 1000, sL 8 16 eL, sI 9 (ln eL), sI 10 x.2.1, rW 1000 3 1 x.2.2]) (fun x => x.1 ≤ H.length ∧ x.2.1 = (x.1 : Int) ∧ x.2.2 = numP (srcsN p (H.take x.1))) (fun x => H.length - x.1) (0, 0, []) (fun t => t) ⟨by rfl, by cbv; try (repeat (first | exact rfl | exact trivial | refine ⟨?_, ?_⟩))⟩ ?_ ?_))
  · exact ⟨by simp, rfl, rfl⟩
  rintro ⟨k, i, es⟩ ⟨hk, hi, hes⟩
  dsimp only at hk hi hes
  have hadd : ai .add i 1 = ((k + 1 : Nat) : Int) := by rw [F.add i 1 (by omega) (by omega), hi]; simp
  have hlen : ln eL = H.length := by rw [F.ln, ← hEL]; simp
  have hfit : ∀ x, fits 8 es [x] = true := fun x => F.fits _ _ _ (by
    have := srcs_len p (H.take k)
    rw [hes, numP_len]; simp only [List.length_take, List.length_singleton] at this ⊢; omega)
  refine sem_of (X := ⟨_, TT, ⟨0, 25, inPl⟩⟩) har' hTT mixed ?_
  intro S1 Cl1 hS1 hC1
  cbv
  by_cases hlt : k < H.length
  · have hb : ab .lss i (ln eL) = true := by rw [hlen, F.lss, hi]; simpa using hlt
    have hg : ix eL i = some (tolC H[k] T N d) := by rw [F.ix _ i k hi, ← hEL]; simp [hlt]
    have hnext := srcs_take (p := p) hlt
    have hpk := hp _ (h2 _ (List.getElem_mem hlt))
    obtain ⟨x0, x1, x2, x3, x4, x5, x6, x7, x8, hx⟩ := list9 (h2 _ (List.getElem_mem hlt))
    rw [hx] at hg hnext hpk
    obtain ⟨l0, l1, l2, l3, hlo⟩ : ∃ l0 l1 l2 l3, lotN T N [x0, x1, x2, x3, x4, x5, x6, x7, x8] d = [l0, l1, l2, l3] := ⟨_, _, _, _, rfl⟩
    obtain ⟨eT, hT⟩ : ∃ es, T.map rowP = es := ⟨_, rfl⟩
    obtain ⟨eS, hS1⟩ : ∃ es, (sayL N [x0, x1, x2, x3, x4, x5, x6, x7, x8] d).map rowP = es := ⟨_, rfl⟩
    simp only [tolC, hlo, hT, hS1] at hg hpk
    simp only [List.getD_cons_zero] at hnext
    obtain ⟨cb, h4⟩ : ∃ z, p [x0, x1, x2, x3, x4, x5, x6, x7, x8] = z := ⟨_, rfl⟩
    rw [h4] at hpk hnext
    have hno : cb = false → es = numP (srcsN p (H.take (k + 1))) := fun h => by rw [hnext, h, hes]; rfl
    have hyes : cb = true → es ++ [[PV.int .i64 x0]] = numP (srcsN p (H.take (k + 1))) := fun h => by rw [hnext, h, hes, ← numP_snoc]; rfl
    rw [hb]; cbv
    repeat (rw [hg]; cbv)
    refine ⟨_, hC1 _ _ _ hpk, ?_⟩; cbv
    cases cb
    · cbv
      exact ⟨(k + 1, ai .add i 1, es), (fun t => t), ⟨hlt, hadd, hno rfl⟩, by dsimp only; omega, ⟨by rfl, by cbv; try (repeat (first | exact rfl | exact trivial | refine ⟨?_, ?_⟩))⟩⟩
    · cbv
      rw [hfit]; cbv
      exact ⟨(k + 1, ai .add i 1, es ++ [[PV.int .i64 x0]]), (fun t => bif Nat.beq t 1000 then 22 else t), ⟨hlt, hadd, hyes rfl⟩, by dsimp only; omega, ⟨by rfl, by cbv; try (repeat (first | exact rfl | exact trivial | refine ⟨?_, ?_⟩))⟩⟩
  · have hb : ab .lss i (ln eL) = false := by rw [hlen, F.lss, hi]; simpa using hlt
    rw [hb]; cbv
    have e : es = numP (srcsN p H) := by rw [hes, List.take_of_length_le (by omega)]
    rw [e, hV]
    exact ⟨PLe.refl _, by rw [← hV]; exact flat_nums _⟩
theorem sourcesI_does {T N : List (List Int)} {d : Int} {H : List (List Int)} (h2 : ∀ x ∈ H, x.length = 9) (h60 : H.length ≤ 60) (p : List Int → Bool) (hp : ∀ x, x.length = 9 → Does Tryz.prog 112 [.agg (tolC x T N d), .ptr [.int .i64 d]] (.bool (p x))) :
    DoesF Tryz.prog 86 [.list 16 (H.map fun h => tolC h T N d), .fn (.func 112) [] [.ptr [.int .i64 d]]] (.list 1 (numP (srcsN p H))) := by
  obtain ⟨V, hV⟩ : ∃ V, numP (srcsN p H) = V := ⟨_, rfl⟩
  rw [hV]
  obtain ⟨eL, hEL⟩ : ∃ es, (H.map fun h => tolC h T N d) = es := ⟨_, rfl⟩
  rw [hEL]
  refine doesF_of (own := inPl) Tryz.func86 rfl Tryz.ntmps86 (congrArg Array.toList Tryz.results86) (fun us w => Tryz.call86 us w) hTT mixed (Nat.le_of_ble_eq_true rfl) ?_
  intro w0 im0 D0 S Cl hS hC ar har
  have har' := har
  obtain ⟨ai, ab, nz, inr, fi, pk, ix, ln, sb, eqi, sl, fits, mn, mx, nt, be, up, fu, mg, mh, ms⟩ := ar
  have F := facts_of har
  clear har
  cbv
  refine hS _ _ _ (sem_mkRow 5 1000 3 1 (by rfl) (by rfl) (sem_loopR (fun x : Nat × Int × List (List PV) => [(kT 1, .t (.c (.p (.fn (.func 112) [] [.ptr [.int .i64 d]])))), sR 5 1000, sL 8 16 eL, sI 9 (ln eL), sI 10 x.2.1, rW 1000 3 1 x.2.2]) (fun x => x.1 ≤ H.length ∧ x.2.1 = (x.1 : Int) ∧ x.2.2 = numP (srcsN p (H.take x.1))) (fun x => H.length - x.1) (0, 0, []) (fun t => t) ⟨by rfl, by cbv; try (repeat (first | exact rfl | exact trivial | refine ⟨?_, ?_⟩))⟩ ?_ ?_))
  · exact ⟨by simp, rfl, rfl⟩
  rintro ⟨k, i, es⟩ ⟨hk, hi, hes⟩
  dsimp only at hk hi hes
  have hadd : ai .add i 1 = ((k + 1 : Nat) : Int) := by rw [F.add i 1 (by omega) (by omega), hi]; simp
  have hlen : ln eL = H.length := by rw [F.ln, ← hEL]; simp
  have hfit : ∀ x, fits 8 es [x] = true := fun x => F.fits _ _ _ (by
    have := srcs_len p (H.take k)
    rw [hes, numP_len]; simp only [List.length_take, List.length_singleton] at this ⊢; omega)
  refine sem_of (X := ⟨_, TT, ⟨0, 25, inPl⟩⟩) har' hTT mixed ?_
  intro S1 Cl1 hS1 hC1
  cbv
  by_cases hlt : k < H.length
  · have hb : ab .lss i (ln eL) = true := by rw [hlen, F.lss, hi]; simpa using hlt
    have hg : ix eL i = some (tolC H[k] T N d) := by rw [F.ix _ i k hi, ← hEL]; simp [hlt]
    have hnext := srcs_take (p := p) hlt
    have hpk := hp _ (h2 _ (List.getElem_mem hlt))
    obtain ⟨x0, x1, x2, x3, x4, x5, x6, x7, x8, hx⟩ := list9 (h2 _ (List.getElem_mem hlt))
    rw [hx] at hg hnext hpk
    obtain ⟨l0, l1, l2, l3, hlo⟩ : ∃ l0 l1 l2 l3, lotN T N [x0, x1, x2, x3, x4, x5, x6, x7, x8] d = [l0, l1, l2, l3] := ⟨_, _, _, _, rfl⟩
    obtain ⟨eT, hT⟩ : ∃ es, T.map rowP = es := ⟨_, rfl⟩
    obtain ⟨eS, hS1⟩ : ∃ es, (sayL N [x0, x1, x2, x3, x4, x5, x6, x7, x8] d).map rowP = es := ⟨_, rfl⟩
    simp only [tolC, hlo, hT, hS1] at hg hpk
    simp only [List.getD_cons_zero] at hnext
    obtain ⟨cb, h4⟩ : ∃ z, p [x0, x1, x2, x3, x4, x5, x6, x7, x8] = z := ⟨_, rfl⟩
    rw [h4] at hpk hnext
    have hno : cb = false → es = numP (srcsN p (H.take (k + 1))) := fun h => by rw [hnext, h, hes]; rfl
    have hyes : cb = true → es ++ [[PV.int .i64 x0]] = numP (srcsN p (H.take (k + 1))) := fun h => by rw [hnext, h, hes, ← numP_snoc]; rfl
    rw [hb]; cbv
    repeat (rw [hg]; cbv)
    refine ⟨_, hC1 _ _ _ hpk, ?_⟩; cbv
    cases cb
    · cbv
      exact ⟨(k + 1, ai .add i 1, es), (fun t => t), ⟨hlt, hadd, hno rfl⟩, by dsimp only; omega, ⟨by rfl, by cbv; try (repeat (first | exact rfl | exact trivial | refine ⟨?_, ?_⟩))⟩⟩
    · cbv
      rw [hfit]; cbv
      exact ⟨(k + 1, ai .add i 1, es ++ [[PV.int .i64 x0]]), (fun t => bif Nat.beq t 1000 then 22 else t), ⟨hlt, hadd, hyes rfl⟩, by dsimp only; omega, ⟨by rfl, by cbv; try (repeat (first | exact rfl | exact trivial | refine ⟨?_, ?_⟩))⟩⟩
  · have hb : ab .lss i (ln eL) = false := by rw [hlen, F.lss, hi]; simpa using hlt
    rw [hb]; cbv
    have e : es = numP (srcsN p H) := by rw [hes, List.take_of_length_le (by omega)]
    rw [e, hV]
    exact ⟨PLe.refl _, by rw [← hV]; exact flat_nums _⟩
theorem sourcesE_does {T N : List (List Int)} {d : Int} {way : Int} {H : List (List Int)} (h2 : ∀ x ∈ H, x.length = 9) (h60 : H.length ≤ 60) (p : List Int → Bool) (hp : ∀ x, x.length = 9 → Does Tryz.prog 114 [.agg (tolC x T N d), .ptr [.int .i64 way]] (.bool (p x))) :
    DoesF Tryz.prog 86 [.list 16 (H.map fun h => tolC h T N d), .fn (.func 114) [] [.ptr [.int .i64 way]]] (.list 1 (numP (srcsN p H))) := by
  obtain ⟨V, hV⟩ : ∃ V, numP (srcsN p H) = V := ⟨_, rfl⟩
  rw [hV]
  obtain ⟨eL, hEL⟩ : ∃ es, (H.map fun h => tolC h T N d) = es := ⟨_, rfl⟩
  rw [hEL]
  refine doesF_of (own := inPl) Tryz.func86 rfl Tryz.ntmps86 (congrArg Array.toList Tryz.results86) (fun us w => Tryz.call86 us w) hTT mixed (Nat.le_of_ble_eq_true rfl) ?_
  intro w0 im0 D0 S Cl hS hC ar har
  have har' := har
  obtain ⟨ai, ab, nz, inr, fi, pk, ix, ln, sb, eqi, sl, fits, mn, mx, nt, be, up, fu, mg, mh, ms⟩ := ar
  have F := facts_of har
  clear har
  cbv
  refine hS _ _ _ (sem_mkRow 5 1000 3 1 (by rfl) (by rfl) (sem_loopR (fun x : Nat × Int × List (List PV) => [(kT 1, .t (.c (.p (.fn (.func 114) [] [.ptr [.int .i64 way]])))), sR 5 1000, sL 8 16 eL, sI 9 (ln eL), sI 10 x.2.1, rW 1000 3 1 x.2.2]) (fun x => x.1 ≤ H.length ∧ x.2.1 = (x.1 : Int) ∧ x.2.2 = numP (srcsN p (H.take x.1))) (fun x => H.length - x.1) (0, 0, []) (fun t => t) ⟨by rfl, by cbv; try (repeat (first | exact rfl | exact trivial | refine ⟨?_, ?_⟩))⟩ ?_ ?_))
  · exact ⟨by simp, rfl, rfl⟩
  rintro ⟨k, i, es⟩ ⟨hk, hi, hes⟩
  dsimp only at hk hi hes
  have hadd : ai .add i 1 = ((k + 1 : Nat) : Int) := by rw [F.add i 1 (by omega) (by omega), hi]; simp
  have hlen : ln eL = H.length := by rw [F.ln, ← hEL]; simp
  have hfit : ∀ x, fits 8 es [x] = true := fun x => F.fits _ _ _ (by
    have := srcs_len p (H.take k)
    rw [hes, numP_len]; simp only [List.length_take, List.length_singleton] at this ⊢; omega)
  refine sem_of (X := ⟨_, TT, ⟨0, 25, inPl⟩⟩) har' hTT mixed ?_
  intro S1 Cl1 hS1 hC1
  cbv
  by_cases hlt : k < H.length
  · have hb : ab .lss i (ln eL) = true := by rw [hlen, F.lss, hi]; simpa using hlt
    have hg : ix eL i = some (tolC H[k] T N d) := by rw [F.ix _ i k hi, ← hEL]; simp [hlt]
    have hnext := srcs_take (p := p) hlt
    have hpk := hp _ (h2 _ (List.getElem_mem hlt))
    obtain ⟨x0, x1, x2, x3, x4, x5, x6, x7, x8, hx⟩ := list9 (h2 _ (List.getElem_mem hlt))
    rw [hx] at hg hnext hpk
    obtain ⟨l0, l1, l2, l3, hlo⟩ : ∃ l0 l1 l2 l3, lotN T N [x0, x1, x2, x3, x4, x5, x6, x7, x8] d = [l0, l1, l2, l3] := ⟨_, _, _, _, rfl⟩
    obtain ⟨eT, hT⟩ : ∃ es, T.map rowP = es := ⟨_, rfl⟩
    obtain ⟨eS, hS1⟩ : ∃ es, (sayL N [x0, x1, x2, x3, x4, x5, x6, x7, x8] d).map rowP = es := ⟨_, rfl⟩
    simp only [tolC, hlo, hT, hS1] at hg hpk
    simp only [List.getD_cons_zero] at hnext
    obtain ⟨cb, h4⟩ : ∃ z, p [x0, x1, x2, x3, x4, x5, x6, x7, x8] = z := ⟨_, rfl⟩
    rw [h4] at hpk hnext
    have hno : cb = false → es = numP (srcsN p (H.take (k + 1))) := fun h => by rw [hnext, h, hes]; rfl
    have hyes : cb = true → es ++ [[PV.int .i64 x0]] = numP (srcsN p (H.take (k + 1))) := fun h => by rw [hnext, h, hes, ← numP_snoc]; rfl
    rw [hb]; cbv
    repeat (rw [hg]; cbv)
    refine ⟨_, hC1 _ _ _ hpk, ?_⟩; cbv
    cases cb
    · cbv
      exact ⟨(k + 1, ai .add i 1, es), (fun t => t), ⟨hlt, hadd, hno rfl⟩, by dsimp only; omega, ⟨by rfl, by cbv; try (repeat (first | exact rfl | exact trivial | refine ⟨?_, ?_⟩))⟩⟩
    · cbv
      rw [hfit]; cbv
      exact ⟨(k + 1, ai .add i 1, es ++ [[PV.int .i64 x0]]), (fun t => bif Nat.beq t 1000 then 22 else t), ⟨hlt, hadd, hyes rfl⟩, by dsimp only; omega, ⟨by rfl, by cbv; try (repeat (first | exact rfl | exact trivial | refine ⟨?_, ?_⟩))⟩⟩
  · have hb : ab .lss i (ln eL) = false := by rw [hlen, F.lss, hi]; simpa using hlt
    rw [hb]; cbv
    have e : es = numP (srcsN p H) := by rw [hes, List.take_of_length_le (by omega)]
    rw [e, hV]
    exact ⟨PLe.refl _, by rw [← hV]; exact flat_nums _⟩
theorem srcs_filter (p q : List Int → Bool) (H : List (List Int)) : srcsN p (H.filter q) = srcsN (fun h => q h && p h) H := by
  unfold srcsN
  rw [List.filter_filter]
  congr 2
  funext h
  rw [Bool.and_comm]
theorem tolL_len (T H N : List (List Int)) (d : Int) : (H.filter (cntH d)).length ≤ H.length := List.length_filter_le ..
theorem pStays_does {T H N : List (List Int)} (h1 : ∀ x ∈ T, x.length = 24) (h2 : ∀ x ∈ H, x.length = 9) (h3 : ∀ x ∈ N, x.length = 7) (d : Int) :
    Does Tryz.prog 25 [accP T H N, .int .i64 d] (.tup [.list 1 (numP (if askE T H N d = 0 then srcsN (cntH d) H else [])), .int .i64 (askE T H N d)]) := by
  have hCk := pcheck_does h1 h2 h3
  have hDy := checkDay_does d
  have hOr := orE_does [err (accOk T H N) 63, err (inB d 0 100000) 6]
  rw [askE_or] at hOr
  have hall := fun (h : askE T H N d = 0) => tellAll_does h1 h2 h3 h
  have hsrc := fun (h : askE T H N d = 0) => sourcesS_does (T := T) (N := N) (d := d) (H := H.filter (cntH d)) (fun x hx => h2 x (List.mem_filter.1 hx).1) (by
    have := (accOk_len (askE_ok h).1).2.1
    have := tolL_len T H N d
    omega) (fun _ => true) (fun x hx => stays1_does hx T N d)
  rw [srcs_filter, show (fun h => cntH d h && true) = cntH d from by funext h; simp] at hsrc
  unfold tolL at hall
  obtain ⟨V, hV⟩ : ∃ V, PV.tup [.list 1 (numP (if askE T H N d = 0 then srcsN (cntH d) H else [])), .int .i64 (askE T H N d)] = V := ⟨_, rfl⟩
  rw [hV]
  generalize err (accOk T H N) 63 = e1 at *
  generalize err (inB d 0 100000) 6 = e2 at *
  generalize askE T H N d = q at *
  generalize (H.filter (cntH d)).map (fun h => tolC h T N d) = eL at *
  generalize hr : srcsN (cntH d) H = rs at *
  obtain ⟨eR, hR⟩ : ∃ es, numP rs = es := ⟨_, rfl⟩
  obtain ⟨eT, hT1⟩ : ∃ es, T.map rowP = es := ⟨_, rfl⟩
  obtain ⟨eH, hH1⟩ : ∃ es, H.map rowP = es := ⟨_, rfl⟩
  obtain ⟨eN, hN1⟩ : ∃ es, N.map rowP = es := ⟨_, rfl⟩
  simp only [accP, hT1, hH1, hN1, hR] at hCk hall hsrc ⊢
  refine does_of (own := inPl) Tryz.func25 rfl Tryz.ntmps25 (congrArg Array.toList Tryz.results25) (fun us w => Tryz.call25 us w) hTT mixed (Nat.le_of_ble_eq_true rfl) ?_
  intro w0 im0 D0 S Cl hS hC ar har
  have har' := har
  obtain ⟨ai, ab, nz, inr, fi, pk, ix, ln, sb, eqi, sl, fits, mn, mx, nt, be, up, fu, mg, mh, ms⟩ := ar
  have F := facts_of har
  clear har
  cbv
  refine ⟨_, hC _ _ _ hCk, ?_⟩; cbv
  refine ⟨_, hC _ _ _ hDy, ?_⟩; cbv
  refine ⟨_, hC _ _ _ hOr, ?_⟩; cbv
  by_cases h0 : q = 0
  · have c0 : ab .neq q 0 = false := by rw [F.neq, h0]; rfl
    rw [c0]; cbv
    refine ⟨_, hC _ _ _ (hall h0), ?_⟩; cbv
    refine ⟨.list 1 eR, hC _ (.mark :: _) (.list 1 eR) (show Can Tryz.prog _ (.mark :: _) (.list 1 eR) from hsrc h0), ?_⟩; cbv
    rw [← hV, if_pos h0, hR, h0]
    exact PLe.refl _
  · have c0 : ab .neq q 0 = true := by rw [F.neq]; simpa using h0
    rw [c0]; cbv
    rw [← hV, if_neg h0]
    exact PLe.tup2 (PLe.nil 1) (PLe.refl _)
theorem pInside_does {T H N : List (List Int)} (h1 : ∀ x ∈ T, x.length = 24) (h2 : ∀ x ∈ H, x.length = 9) (h3 : ∀ x ∈ N, x.length = 7) (d : Int) :
    Does Tryz.prog 47 [accP T H N, .int .i64 d] (.tup [.list 1 (numP (if askE T H N d = 0 then srcsN (insH T N d) H else [])), .int .i64 (askE T H N d)]) := by
  have hCk := pcheck_does h1 h2 h3
  have hDy := checkDay_does d
  have hOr := orE_does [err (accOk T H N) 63, err (inB d 0 100000) 6]
  rw [askE_or] at hOr
  have hall := fun (h : askE T H N d = 0) => tellAll_does h1 h2 h3 h
  have hsrc := fun (h : askE T H N d = 0) => sourcesI_does (T := T) (N := N) (d := d) (H := H.filter (cntH d)) (fun x hx => h2 x (List.mem_filter.1 hx).1) (by
    have := (accOk_len (askE_ok h).1).2.1
    have := tolL_len T H N d
    omega) (fun h => decide (h.getD 6 0 ≤ d) && (lotN T N h d).getD 2 0 == 0) (fun x hx => inside1_does hx T N d)
  rw [srcs_filter, show (fun h => cntH d h && (decide (h.getD 6 0 ≤ d) && (lotN T N h d).getD 2 0 == 0)) = insH T N d from rfl] at hsrc
  unfold tolL at hall
  obtain ⟨V, hV⟩ : ∃ V, PV.tup [.list 1 (numP (if askE T H N d = 0 then srcsN (insH T N d) H else [])), .int .i64 (askE T H N d)] = V := ⟨_, rfl⟩
  rw [hV]
  generalize err (accOk T H N) 63 = e1 at *
  generalize err (inB d 0 100000) 6 = e2 at *
  generalize askE T H N d = q at *
  generalize (H.filter (cntH d)).map (fun h => tolC h T N d) = eL at *
  generalize hr : srcsN (insH T N d) H = rs at *
  obtain ⟨eR, hR⟩ : ∃ es, numP rs = es := ⟨_, rfl⟩
  obtain ⟨eT, hT1⟩ : ∃ es, T.map rowP = es := ⟨_, rfl⟩
  obtain ⟨eH, hH1⟩ : ∃ es, H.map rowP = es := ⟨_, rfl⟩
  obtain ⟨eN, hN1⟩ : ∃ es, N.map rowP = es := ⟨_, rfl⟩
  simp only [accP, hT1, hH1, hN1, hR] at hCk hall hsrc ⊢
  refine does_of (own := inPl) Tryz.func47 rfl Tryz.ntmps47 (congrArg Array.toList Tryz.results47) (fun us w => Tryz.call47 us w) hTT mixed (Nat.le_of_ble_eq_true rfl) ?_
  intro w0 im0 D0 S Cl hS hC ar har
  have har' := har
  obtain ⟨ai, ab, nz, inr, fi, pk, ix, ln, sb, eqi, sl, fits, mn, mx, nt, be, up, fu, mg, mh, ms⟩ := ar
  have F := facts_of har
  clear har
  cbv
  refine ⟨_, hC _ _ _ hCk, ?_⟩; cbv
  refine ⟨_, hC _ _ _ hDy, ?_⟩; cbv
  refine ⟨_, hC _ _ _ hOr, ?_⟩; cbv
  by_cases h0 : q = 0
  · have c0 : ab .neq q 0 = false := by rw [F.neq, h0]; rfl
    rw [c0]; cbv
    refine ⟨_, hC _ _ _ (hall h0), ?_⟩; cbv
    refine ⟨.list 1 eR, hC _ (.mark :: _) (.list 1 eR) (show Can Tryz.prog _ (.mark :: _) (.list 1 eR) from hsrc h0), ?_⟩; cbv
    rw [← hV, if_pos h0, hR, h0]
    exact PLe.refl _
  · have c0 : ab .neq q 0 = true := by rw [F.neq]; simpa using h0
    rw [c0]; cbv
    rw [← hV, if_neg h0]
    exact PLe.tup2 (PLe.nil 1) (PLe.refl _)
theorem find_srt : ∀ (H : List (List Int)) (id : Int) (p : List Int → Bool) (h : List Int), (∀ i j, i < j → j < H.length → (H.getD i []).getD 0 0 < (H.getD j []).getD 0 0) → h ∈ H → h.getD 0 0 = id → p h = true → (∀ x, p x = true → x.getD 0 0 = id) → H.find? p = some h
  | [], _, _, _, _, hm, _, _, _ => absurd hm (by simp)
  | a :: H, id, p, h, hs, hm, hid, hp, hpi => by
    rcases List.mem_cons.1 hm with rfl | hm'
    · exact List.find?_cons_of_pos hp
    · obtain ⟨j, hj, rfl⟩ := List.mem_iff_getElem.1 hm'
      have hlt := hs 0 (j + 1) (by omega) (by simp; omega)
      simp only [List.getD_cons_zero, List.getD_cons_succ] at hlt
      rw [show H.getD j [] = H[j] by simp [List.getD, hj]] at hlt
      have hna : ¬ p a = true := fun h => by have := hpi a h; omega
      rw [List.find?_cons_of_neg hna]
      refine find_srt H id p _ (fun i k h1 h2 => ?_) hm' hid hp hpi
      have := hs (i + 1) (k + 1) (by omega) (by simp; omega)
      simpa using this
theorem ls_srt {ok : List Int → Bool} {m : Nat} {L : List (List Int)} (h : lsOk ok m L = true) : ∀ i j, i < j → j < L.length → (L.getD i []).getD 0 0 < (L.getD j []).getD 0 0 := by
  have step : ∀ j, j + 1 < L.length → (L.getD j []).getD 0 0 < (L.getD (j + 1) []).getD 0 0 := fun j hj => by
    unfold lsOk lsK at h
    simp only [Bool.and_eq_true, List.all_eq_true] at h
    have := h.2 (j + 1) (List.mem_range.2 hj)
    unfold lsAt at this
    simp only [Bool.and_eq_true, Bool.or_eq_true, beq_iff_eq, decide_eq_true_eq, Nat.add_sub_cancel] at this
    omega
  intro i j hij
  induction j with
  | zero => omega
  | succ j ih =>
    intro hj
    have := step j hj
    by_cases he : i = j
    · subst he; exact this
    · have := ih (by omega) (by omega); omega
theorem sta_of {T H N : List (List Int)} {d : Int} (hq : askE T H N d = 0) {h : List Int} (hm : h ∈ H) (hc : cntH d h = true) : staN T H N (h.getD 0 0) d = (h, 0) := by
  have ha := (askE_ok hq).1
  unfold accOk at ha
  simp only [Bool.and_eq_true] at ha
  unfold staN
  rw [if_pos hq, find_srt H (h.getD 0 0) (staP (h.getD 0 0) d) h (ls_srt ha.2.1) hm rfl (by unfold staP; unfold cntH at hc; rw [hc]; simp) (fun x hx => by unfold staP at hx; simp only [Bool.and_eq_true, beq_iff_eq] at hx; exact hx.1)]
theorem ended_eq {T H N : List (List Int)} {way d : Int} (hq : askE T H N d = 0) : endF T H N way d (stsN T H N d) = srcsN (fun h => cntH d h && (lotN T N h d).getD 2 0 == way) H := by
  unfold endF stsN srcsN
  rw [if_pos hq, List.filter_map, List.filter_filter]
  congr 1
  refine List.filter_congr fun x hx => ?_
  cases hc : cntH d x
  · simp
  · have := sta_of (N := N) hq hx hc
    simp only [Function.comp, lotR, this, stR, if_true, Bool.and_true, Bool.true_and]
theorem orE3 (T H N : List (List Int)) (d : Int) (ok : Bool) : orE [err (accOk T H N) 63, err ok 1, err (inB d 0 100000) 6] = thrE T H N ok d := by
  unfold thrE askE err
  cases accOk T H N <;> cases inB d 0 100000 <;> cases ok <;> rfl
theorem thrE_ok {T H N : List (List Int)} {d : Int} {ok : Bool} (h : thrE T H N ok d = 0) : askE T H N d = 0 ∧ ok = true := by
  unfold thrE at h
  split at h
  · split at h
    · exact ⟨h, ‹_›⟩
    · omega
  · omega
theorem pEnded_does {T H N : List (List Int)} (h1 : ∀ x ∈ T, x.length = 24) (h2 : ∀ x ∈ H, x.length = 9) (h3 : ∀ x ∈ N, x.length = 7) (way d : Int) :
    Does Tryz.prog 49 [accP T H N, .int .i64 way, .int .i64 d] (.tup [.list 1 (numP (endN T H N way d)), .int .i64 (thrE T H N (inB way 0 4) d)]) := by
  have hCk := pcheck_does h1 h2 h3
  have hDy := checkDay_does d
  have hWy := checkWay_does way
  have hOr := orE_does [err (accOk T H N) 63, err (inB way 0 4) 1, err (inB d 0 100000) 6]
  rw [orE3] at hOr
  have hall := fun (h : thrE T H N (inB way 0 4) d = 0) => tellAll_does h1 h2 h3 (thrE_ok h).1
  have hsrc := fun (h : thrE T H N (inB way 0 4) d = 0) => sourcesE_does (T := T) (N := N) (d := d) (way := way) (H := H.filter (cntH d)) (fun x hx => h2 x (List.mem_filter.1 hx).1) (by
    have := (accOk_len (askE_ok (thrE_ok h).1).1).2.1
    have := tolL_len T H N d
    omega) (fun h => (lotN T N h d).getD 2 0 == way) (fun x hx => ended1_does hx T N d way)
  rw [srcs_filter] at hsrc
  have he : thrE T H N (inB way 0 4) d = 0 → endN T H N way d = srcsN (fun h => cntH d h && (lotN T N h d).getD 2 0 == way) H := fun h => by
    unfold endN; rw [if_pos h, ended_eq (thrE_ok h).1]
  have hne : thrE T H N (inB way 0 4) d ≠ 0 → endN T H N way d = [] := fun h => by unfold endN; rw [if_neg h]
  unfold tolL at hall
  obtain ⟨V, hV⟩ : ∃ V, PV.tup [.list 1 (numP (endN T H N way d)), .int .i64 (thrE T H N (inB way 0 4) d)] = V := ⟨_, rfl⟩
  rw [hV]
  generalize err (accOk T H N) 63 = e1 at *
  generalize err (inB d 0 100000) 6 = e2 at *
  generalize err (inB way 0 4) 1 = e3 at *
  generalize thrE T H N (inB way 0 4) d = q at *
  generalize (H.filter (cntH d)).map (fun h => tolC h T N d) = eL at *
  generalize hr : srcsN (fun h => cntH d h && (lotN T N h d).getD 2 0 == way) H = rs at *
  generalize endN T H N way d = es at *
  obtain ⟨eR, hR⟩ : ∃ es, numP rs = es := ⟨_, rfl⟩
  obtain ⟨eT, hT1⟩ : ∃ es, T.map rowP = es := ⟨_, rfl⟩
  obtain ⟨eH, hH1⟩ : ∃ es, H.map rowP = es := ⟨_, rfl⟩
  obtain ⟨eN, hN1⟩ : ∃ es, N.map rowP = es := ⟨_, rfl⟩
  simp only [accP, hT1, hH1, hN1, hR] at hCk hall hsrc ⊢
  refine does_of (own := inPl) Tryz.func49 rfl Tryz.ntmps49 (congrArg Array.toList Tryz.results49) (fun us w => Tryz.call49 us w) hTT mixed (Nat.le_of_ble_eq_true rfl) ?_
  intro w0 im0 D0 S Cl hS hC ar har
  have har' := har
  obtain ⟨ai, ab, nz, inr, fi, pk, ix, ln, sb, eqi, sl, fits, mn, mx, nt, be, up, fu, mg, mh, ms⟩ := ar
  have F := facts_of har
  clear har
  cbv
  refine ⟨_, hC _ _ _ hCk, ?_⟩; cbv
  refine ⟨_, hC _ _ _ hWy, ?_⟩; cbv
  refine ⟨_, hC _ _ _ hDy, ?_⟩; cbv
  refine ⟨_, hC _ _ _ hOr, ?_⟩; cbv
  by_cases h0 : q = 0
  · have c0 : ab .neq q 0 = false := by rw [F.neq, h0]; rfl
    rw [c0]; cbv
    refine ⟨_, hC _ _ _ (hall h0), ?_⟩; cbv
    refine ⟨.list 1 eR, hC _ (.mark :: _) (.list 1 eR) (show Can Tryz.prog _ (.mark :: _) (.list 1 eR) from hsrc h0), ?_⟩; cbv
    rw [← hV, he h0, hR, h0]
    exact PLe.refl _
  · have c0 : ab .neq q 0 = true := by rw [F.neq]; simpa using h0
    rw [c0]; cbv
    rw [← hV, hne h0]
    exact PLe.tup2 (PLe.nil 1) (PLe.refl _)
def payN (T N : List (List Int)) (h : List Int) (d : Int) : Int × Int := payQ T h d (lotN T N h d)
theorem dueN_pay {T N : List (List Int)} {h : List Int} {d : Int} (hd : 0 ≤ d ∧ d ≤ 100000) : dueN T N h d = dueP T h (payN T N h d).1 (payN T N h d).2 := (dueQ_eq hd).symm
theorem dueP_sum (T : List (List Int)) (h : List Int) (p s : Int) : (dueP T h p s).getD 0 0 = p ∧ (dueP T h p s).getD 3 0 + (dueP T h p s).getD 1 0 + (dueP T h p s).getD 2 0 = s := by
  unfold dueP
  refine ⟨rfl, ?_⟩
  simp only [List.getD_cons_succ, List.getD_cons_zero]
  omega
theorem Good.payIn {T N : List (List Int)} {h : List Int} {d : Int} (g : Good T N h d) (h1 : ∀ x ∈ T, x.length = 24) : 0 ≤ (payN T N h d).2 ∧ (payN T N h d).2 ≤ 1500000000000 := by
  obtain ⟨a, b, c⟩ := dueN_in (N := N) h1 g.tar g.held g.day
  rw [dueN_pay g.day] at a b c
  have := (dueP_sum T h (payN T N h d).1 (payN T N h d).2).2
  omega
theorem Good.pay {T N : List (List Int)} {h : List Int} {d : Int} (g : Good T N h d) (h1 : ∀ x ∈ T, x.length = 24) (h3 : ∀ x ∈ N, x.length = 7) :
    Does Tryz.prog 110 [.agg (tolC h T N d)] (.tup [.int .i64 (payN T N h d).1, .int .i64 (payN T N h d).2]) := by
  have hday := lotN_day T N h d
  have := g.day
  have hl := lasN_in T N h g.day
  have hc := chgN_in (N := N) h1 g.tar g.held g.day
  exact payment_does (T := T) h1 (fun x hx => h3 x (List.mem_filter.1 hx).1) g.tar g.len g.held rfl (lotN_stop h1 g.tar g.note g.held g.day) (by omega) (by omega) (lotN_own g.note h d) (by rw [chgQ_eq g.day]; unfold chIn; omega)
theorem good_in {T H N : List (List Int)} (h2 : ∀ x ∈ H, x.length = 9) {d : Int} (h : askE T H N d = 0) {x : List Int} (hx : x ∈ H) : Good T N x d := by
  obtain ⟨a, b⟩ := askE_ok h
  exact ⟨h2 _ hx, accOk_H a _ hx, accOk_T a, accOk_N a, b, (accOk_len a).2.2⟩
def sumF (f : List Int → Int) (L : List (List Int)) : Int := (L.map f).sum
theorem sumF_take {f : List Int → Int} {L : List (List Int)} {k : Nat} (h : k < L.length) : sumF f (L.take (k + 1)) = sumF f (L.take k) + f L[k] := by
  unfold sumF; rw [take_last h, List.map_append, List.sum_append]; show _ + (f L[k] + 0) = _; omega
theorem sumF_in {f : List Int → Int} {b : Int} : ∀ {L : List (List Int)}, (∀ x ∈ L, 0 ≤ f x ∧ f x ≤ b) → 0 ≤ sumF f L ∧ sumF f L ≤ b * L.length
  | [], _ => by simp [sumF]
  | x :: L, h => by
    have h1 := h x (by simp)
    have h2 := sumF_in (L := L) fun y hy => h y (by simp [hy])
    unfold sumF at h2 ⊢
    simp only [List.map_cons, List.sum_cons, List.length_cons]
    rw [show ((L.length + 1 : Nat) : Int) = (L.length : Int) + 1 by omega, Int.mul_add]
    omega
def oweF (T N : List (List Int)) (o d : Int) (h : List Int) : Int := if (payN T N h d).1 == 2 + o then (payN T N h d).2 else 0
theorem owe_eq {T H N : List (List Int)} {o d : Int} (hq : askE T H N d = 0) : sumL (oweD T H N o d) (stsN T H N d) = sumF (oweF T N o d) (H.filter (cntH d)) := by
  unfold sumL stsN srcsN sumF
  rw [if_pos hq, List.map_map]
  congr 1
  refine List.map_congr_left fun x hx => ?_
  obtain ⟨hm, hc⟩ := List.mem_filter.1 hx
  have e := sta_of (N := N) hq hm hc
  simp only [Function.comp, oweD, dueR, e, stR, if_true, oweF]
  rw [dueN_pay (askE_ok hq).2, (dueP_sum ..).1, (dueP_sum ..).2]
theorem pOwed_does {T H N : List (List Int)} (h1 : ∀ x ∈ T, x.length = 24) (h2 : ∀ x ∈ H, x.length = 9) (h3 : ∀ x ∈ N, x.length = 7) (o d : Int) :
    Does Tryz.prog 45 [accP T H N, .int .i64 o, .int .i64 d] (.tup [.int .i64 (oweN T H N o d), .int .i64 (thrE T H N (inB o 1 99) d)]) := by
  have hCk := pcheck_does h1 h2 h3
  have hDy := checkDay_does d
  have hWy := checkOwner_does o
  have hOr := orE_does [err (accOk T H N) 63, err (inB o 1 99) 1, err (inB d 0 100000) 6]
  rw [orE3] at hOr
  have hall := fun (h : thrE T H N (inB o 1 99) d = 0) => tellAll_does h1 h2 h3 (thrE_ok h).1
  have he : thrE T H N (inB o 1 99) d = 0 → oweN T H N o d = sumF (oweF T N o d) (H.filter (cntH d)) := fun h => by
    unfold oweN; rw [if_pos h, owe_eq (thrE_ok h).1]
  have hne : thrE T H N (inB o 1 99) d ≠ 0 → oweN T H N o d = 0 := fun h => by unfold oweN; rw [if_neg h]
  have hpo := fun (h : thrE T H N (inB o 1 99) d = 0) => partyOf_does o (by have := inB_iff.1 (thrE_ok h).2; omega) (by have := inB_iff.1 (thrE_ok h).2; omega)
  have hgd : thrE T H N (inB o 1 99) d = 0 → ∀ x ∈ H.filter (cntH d), Good T N x d := fun h x hx => good_in h2 (thrE_ok h).1 (List.mem_filter.1 hx).1
  have hHl : thrE T H N (inB o 1 99) d = 0 → (H.filter (cntH d)).length ≤ 60 := fun h => by
    have := (accOk_len (askE_ok (thrE_ok h).1).1).2.1
    have := tolL_len T H N d
    omega
  unfold tolL at hall
  obtain ⟨V, hV⟩ : ∃ V, PV.tup [.int .i64 (oweN T H N o d), .int .i64 (thrE T H N (inB o 1 99) d)] = V := ⟨_, rfl⟩
  rw [hV]
  generalize err (accOk T H N) 63 = e1 at *
  generalize err (inB d 0 100000) 6 = e2 at *
  generalize err (inB o 1 99) 1 = e3 at *
  generalize thrE T H N (inB o 1 99) d = q at *
  generalize H.filter (cntH d) = Hs at *
  obtain ⟨eL, hEL⟩ : ∃ es, Hs.map (fun h => tolC h T N d) = es := ⟨_, rfl⟩
  generalize oweN T H N o d = res at *
  obtain ⟨eT, hT1⟩ : ∃ es, T.map rowP = es := ⟨_, rfl⟩
  obtain ⟨eH, hH1⟩ : ∃ es, H.map rowP = es := ⟨_, rfl⟩
  obtain ⟨eN, hN1⟩ : ∃ es, N.map rowP = es := ⟨_, rfl⟩
  obtain ⟨tw, htw⟩ : ∃ t, 2 + o = t := ⟨_, rfl⟩
  simp only [accP, hT1, hH1, hN1, hEL, htw] at hCk hall hpo ⊢
  refine does_of (own := inPl) Tryz.func45 rfl Tryz.ntmps45 (congrArg Array.toList Tryz.results45) (fun us w => Tryz.call45 us w) hTT mixed (Nat.le_of_ble_eq_true rfl) ?_
  intro w0 im0 D0 S Cl hS hC ar har
  have har' := har
  obtain ⟨ai, ab, nz, inr, fi, pk, ix, ln, sb, eqi, sl, fits, mn, mx, nt, be, up, fu, mg, mh, ms⟩ := ar
  have F := facts_of har
  clear har
  cbv
  refine ⟨_, hC _ _ _ hCk, ?_⟩; cbv
  refine ⟨_, hC _ _ _ hWy, ?_⟩; cbv
  refine ⟨_, hC _ _ _ hDy, ?_⟩; cbv
  refine ⟨_, hC _ _ _ hOr, ?_⟩; cbv
  by_cases h0 : q = 0
  · have c0 : ab .neq q 0 = false := by rw [F.neq, h0]; rfl
    have hpo := hpo h0
    have hgd := hgd h0
    have hHl := hHl h0
    have hVe : V = .tup [.int .i64 (sumF (oweF T N o d) Hs), .int .i64 0] := by rw [← hV, he h0, h0]
    have hoin : ∀ x ∈ Hs, 0 ≤ oweF T N o d x ∧ oweF T N o d x ≤ 1500000000000 := fun x hx => by
      have := (hgd x hx).payIn h1
      unfold oweF; split <;> omega
    have hsin : ∀ k, k ≤ Hs.length → 0 ≤ sumF (oweF T N o d) (Hs.take k) ∧ sumF (oweF T N o d) (Hs.take k) ≤ 100000000000000 := fun k hk => by
      have := sumF_in (L := Hs.take k) fun x hx => hoin x (List.take_subset _ _ hx)
      simp only [List.length_take] at this
      omega
    have hoi : ∀ k (hk : k < Hs.length), 0 ≤ oweF T N o d Hs[k] ∧ oweF T N o d Hs[k] ≤ 1500000000000 := fun k hk => hoin _ (List.getElem_mem hk)
    have hsn : ∀ k (hk : k < Hs.length), sumF (oweF T N o d) (Hs.take (k + 1)) = sumF (oweF T N o d) (Hs.take k) + oweF T N o d Hs[k] := fun k hk => sumF_take hk
    have hs0 : sumF (oweF T N o d) (Hs.take 0) = 0 := rfl
    have hsl : sumF (oweF T N o d) (Hs.take Hs.length) = sumF (oweF T N o d) Hs := by rw [List.take_length]
    have hoD : ∀ x, oweF T N o d x = if (payN T N x d).1 == tw then (payN T N x d).2 else 0 := fun x => by rw [← htw]; rfl
    rw [← hsl] at hVe
    obtain ⟨fo, hfo⟩ : ∃ f, oweF T N o d = f := ⟨_, rfl⟩
    simp only [hfo] at hVe hsin hoi hsn hs0 hoD
    obtain ⟨sk, hsk⟩ : ∃ s : Nat → Int, (fun k => sumF fo (Hs.take k)) = s := ⟨_, rfl⟩
    have hskd : ∀ k, sumF fo (Hs.take k) = sk k := fun k => by rw [← hsk]
    simp only [hskd] at hVe hsin hsn hs0
    clear hskd hsk hfo hoin hsl he hne hV
    rw [c0]; cbv
    refine ⟨_, hC _ _ _ (hall h0), ?_⟩; cbv
    refine hS _ _ _ (sem_loop (fun x : Nat × Int × Int => [sI 1 o, sI 9 x.2.2, sL 27 16 eL, sI 28 (ln eL), sI 29 x.2.1]) (fun x => x.1 ≤ Hs.length ∧ x.2.1 = (x.1 : Int) ∧ x.2.2 = sk x.1) (fun x => Hs.length - x.1) (fun t => t) (0, 0, 0) (fun t => t) ⟨by rfl, by cbv; try (repeat (first | exact rfl | exact trivial | refine ⟨?_, ?_⟩))⟩ ?_ ?_)
    · exact ⟨by simp, rfl, hs0.symm⟩
    rintro ⟨k, i, s⟩ ⟨hk, hi, hs⟩
    dsimp only at hk hi hs
    have hadd : ai .add i 1 = ((k + 1 : Nat) : Int) := by rw [F.add i 1 (by omega) (by omega), hi]; simp
    have hlen : ln eL = Hs.length := by rw [F.ln, ← hEL]; simp
    refine sem_of (X := ⟨_, TT, ⟨0, 47, inPl⟩⟩) har' hTT mixed ?_
    intro S1 Cl1 hS1 hC1
    cbv
    by_cases hlt : k < Hs.length
    · have hb : ab .lss i (ln eL) = true := by rw [hlen, F.lss, hi]; simpa using hlt
      have hg : ix eL i = some (tolC Hs[k] T N d) := by rw [F.ix _ i k hi, ← hEL]; simp [hlt]
      have gk := hgd _ (List.getElem_mem hlt)
      have hpk := gk.pay h1 h3
      have hnx := hsn k hlt
      have ho := hoi k hlt
      have hsi := hsin k hk
      rw [hoD] at hnx ho
      generalize Hs[k] = x at *
      have gl := gk.len
      clear gk hgd hoi hsn hoD
      obtain ⟨⟨py, pd⟩, hpp⟩ : ∃ p, payN T N x d = p := ⟨_, rfl⟩
      rw [hpp] at hpk hnx ho
      dsimp only at hpk hnx ho
      obtain ⟨x0, x1, x2, x3, x4, x5, x6, x7, x8, rfl⟩ := list9 gl
      obtain ⟨l0, l1, l2, l3, hlo⟩ : ∃ l0 l1 l2 l3, lotN T N [x0, x1, x2, x3, x4, x5, x6, x7, x8] d = [l0, l1, l2, l3] := ⟨_, _, _, _, rfl⟩
      obtain ⟨eS, hS1⟩ : ∃ es, (sayL N [x0, x1, x2, x3, x4, x5, x6, x7, x8] d).map rowP = es := ⟨_, rfl⟩
      simp only [tolC, hlo, hT1, hS1] at hg hpk
      have hno : ab .eql py tw = false → s = sk (k + 1) := fun h => by
        rw [F.eql] at h; rw [hnx, if_neg (by simpa using h), hs]; omega
      have hyes : ab .eql py tw = true → ai .add s pd = sk (k + 1) := fun h => by
        rw [F.eql] at h
        rw [if_pos (by simpa using h)] at hnx ho
        rw [F.add s pd (by omega) (by omega), hnx, hs]
      rw [hb]; cbv
      repeat (rw [hg]; cbv)
      refine ⟨_, hC1 _ _ _ hpk, ?_⟩; cbv
      refine ⟨_, hC1 _ _ _ hpo, ?_⟩; cbv
      cases c1 : ab .eql py tw
      · cbv
        exact ⟨(k + 1, ai .add i 1, s), ⟨hlt, hadd, hno c1⟩, by dsimp only; omega, ⟨by rfl, by cbv; try (repeat (first | exact rfl | exact trivial | refine ⟨?_, ?_⟩))⟩⟩
      · cbv
        exact ⟨(k + 1, ai .add i 1, ai .add s pd), ⟨hlt, hadd, hyes c1⟩, by dsimp only; omega, ⟨by rfl, by cbv; try (repeat (first | exact rfl | exact trivial | refine ⟨?_, ?_⟩))⟩⟩
    · have hb : ab .lss i (ln eL) = false := by rw [hlen, F.lss, hi]; simpa using hlt
      have hkE : k = Hs.length := by omega
      rw [hb]; cbv
      rw [hVe, hs, hkE]
      exact PLe.refl _
  · have c0 : ab .neq q 0 = true := by rw [F.neq]; simpa using h0
    rw [c0]; cbv
    rw [← hV, hne h0]
    exact PLe.refl _
theorem eqPs_rows : ∀ (a b : List Int), eqPs (rowP a) (rowP b) = (a == b)
  | [], [] => rfl
  | [], _ :: _ => rfl
  | _ :: _, [] => rfl
  | a :: a1, b :: b1 => by
    have := eqPs_rows a1 b1
    unfold rowP at this ⊢
    simp only [List.map_cons, eqPs, eqS, this]
    rfl
theorem mFind_new {kn : Nat} {key : List PV} : ∀ {es : List (List PV)}, (∀ e ∈ es, eqPs key (e.take kn) = false) → mFind kn key es = none
  | [], _ => rfl
  | e :: es, h => by
    unfold mFind
    rw [if_neg (by simp [h e (by simp)]), mFind_new fun x hx => h x (by simp [hx])]
    rfl
theorem mSet_new {kn : Nat} {key : List Int} {E : List (List Int)} {v : List PV} (h : ∀ e ∈ E, e.take kn ≠ key) : mSet kn (E.map rowP) (rowP key) v = E.map rowP ++ [rowP key ++ v] := by
  unfold mSet
  rw [mFind_new fun e he => ?_]
  obtain ⟨x, hx, rfl⟩ := List.mem_map.1 he
  rw [show (rowP x).take kn = rowP (x.take kn) by unfold rowP; rw [List.map_take], eqPs_rows]
  simpa using fun hh => h x hx hh.symm
def rcvL (h : List Int) : List Int := if h.getD 5 0 = 0 then [0, 1] else [0, 1, 2 + h.getD 5 0]
theorem receivers_does {h : List Int} (hh : h.length = 9) (hd : 0 ≤ h.getD 5 0 ∧ h.getD 5 0 ≤ 99) : Does Tryz.prog 138 [.agg (rowP h)] (.list 1 (numP (rcvL h))) := by
  have hp := partyOf_does (h.getD 5 0) hd.1 (by omega)
  obtain ⟨V, hV⟩ : ∃ V, PV.list 1 (numP (rcvL h)) = V := ⟨_, rfl⟩
  rw [hV]
  unfold rcvL at hV
  obtain ⟨x0, x1, x2, x3, x4, x5, x6, x7, x8, rfl⟩ := list9 hh
  simp only [List.getD_cons_succ, List.getD_cons_zero] at hp hV
  obtain ⟨t, ht⟩ : ∃ t, 2 + x5 = t := ⟨_, rfl⟩
  rw [ht] at hp hV
  refine does_of (own := inPl) Tryz.func138 rfl Tryz.ntmps138 (congrArg Array.toList Tryz.results138) (fun us w => Tryz.call138 us w) hTT mixed (Nat.le_of_ble_eq_true rfl) ?_
  intro w0 im0 D0 S Cl hS hC ar har
  have har' := har
  obtain ⟨ai, ab, nz, inr, fi, pk, ix, ln, sb, eqi, sl, fits, mn, mx, nt, be, up, fu, mg, mh, ms⟩ := ar
  have F := facts_of har
  clear har
  cbv
  cases c0 : ab .eql x5 0
  · cbv
    refine ⟨_, hC _ _ _ hp, ?_⟩; cbv
    rw [F.eql] at c0
    rw [if_neg (by simpa using c0)] at hV
    rw [← hV]; exact PLe.refl _
  · cbv
    rw [F.eql] at c0
    rw [if_pos (by simpa using c0)] at hV
    rw [← hV]; exact PLe.refl _
theorem ids_lt {ok : List Int → Bool} {m : Nat} {H : List (List Int)} (h : lsOk ok m H = true) (p : List Int → Bool) : ∀ i j (hi : i < (H.filter p).length) (hj : j < (H.filter p).length), i < j → ((H.filter p)[i]).getD 0 0 < ((H.filter p)[j]).getD 0 0 := by
  have h1 : H.Pairwise (fun a b => a.getD 0 0 < b.getD 0 0) := by
    rw [List.pairwise_iff_getElem]
    intro i j hi hj hij
    have := ls_srt h i j hij hj
    rwa [show H.getD i [] = H[i] by simp [List.getD, hi], show H.getD j [] = H[j] by simp [List.getD, hj]] at this
  have h2 := h1.filter p
  rw [List.pairwise_iff_getElem] at h2
  exact fun i j hi hj hij => h2 i j hi hj hij
def dueE (T N : List (List Int)) (d : Int) (h : List Int) : List Int := h.getD 0 0 :: dueN T N h d
theorem dues_does {T H N : List (List Int)} (h1 : ∀ x ∈ T, x.length = 24) (h2 : ∀ x ∈ H, x.length = 9) (h3 : ∀ x ∈ N, x.length = 7) {d : Int} (hq : askE T H N d = 0) :
    Does Tryz.prog 116 [accP T H N, .int .i64 d] (.map false true [.int .i64 0] (((H.filter (cntH d)).map (dueE T N d)).map rowP)) := by
  have hall := tellAll_does h1 h2 h3 hq
  have hgd : ∀ x ∈ H.filter (cntH d), Good T N x d := fun x hx => good_in h2 hq (List.mem_filter.1 hx).1
  have hHl : (H.filter (cntH d)).length ≤ 60 := by
    have := (accOk_len (askE_ok hq).1).2.1
    have := tolL_len T H N d
    omega
  have hid := ids_lt (by have := (askE_ok hq).1; unfold accOk at this; simp only [Bool.and_eq_true] at this; exact this.2.1) (cntH d)
  unfold tolL at hall
  generalize H.filter (cntH d) = Hs at *
  obtain ⟨V, hV⟩ : ∃ V, PV.map false true [.int .i64 0] ((Hs.map (dueE T N d)).map rowP) = V := ⟨_, rfl⟩
  rw [hV]
  obtain ⟨eL, hEL⟩ : ∃ es, Hs.map (fun h => tolC h T N d) = es := ⟨_, rfl⟩
  obtain ⟨eT, hT1⟩ : ∃ es, T.map rowP = es := ⟨_, rfl⟩
  obtain ⟨eH, hH1⟩ : ∃ es, H.map rowP = es := ⟨_, rfl⟩
  obtain ⟨eN, hN1⟩ : ∃ es, N.map rowP = es := ⟨_, rfl⟩
  simp only [accP, hT1, hH1, hN1, hEL] at hall ⊢
  have hfr : ∀ k (hk : k < Hs.length), ∀ e ∈ (Hs.take k).map (dueE T N d), e.take 1 ≠ [(Hs[k]).getD 0 0] := fun k hk e he => by
    obtain ⟨x, hx, rfl⟩ := List.mem_map.1 he
    obtain ⟨j, hj, rfl⟩ := List.mem_iff_getElem.1 hx
    rw [List.getElem_take]
    simp only [List.length_take] at hj
    have := hid j k (by omega) hk (by omega)
    simp only [dueE, List.take_succ_cons, List.take_zero, ne_eq, List.cons.injEq, and_true]
    omega
  have hnx : ∀ k (hk : k < Hs.length), (((Hs.take (k + 1)).map (dueE T N d)).map rowP) = ((Hs.take k).map (dueE T N d)).map rowP ++ [rowP [(Hs[k]).getD 0 0] ++ rowP (dueN T N Hs[k] d)] := fun k hk => by
    rw [take_last hk]; simp only [List.map_append]; rfl
  have hset : ∀ k (hk : k < Hs.length) (v : List PV), mSet 1 (((Hs.take k).map (dueE T N d)).map rowP) (rowP [(Hs[k]).getD 0 0]) v = ((Hs.take k).map (dueE T N d)).map rowP ++ [rowP [(Hs[k]).getD 0 0] ++ v] := fun k hk v => mSet_new (hfr k hk)
  have he0 : ((Hs.take 0).map (dueE T N d)).map rowP = [] := rfl
  have heL : ((Hs.take Hs.length).map (dueE T N d)).map rowP = (Hs.map (dueE T N d)).map rowP := by rw [List.take_length]
  rw [← heL] at hV
  obtain ⟨ek, hek⟩ : ∃ s : Nat → List (List PV), (fun k => ((Hs.take k).map (dueE T N d)).map rowP) = s := ⟨_, rfl⟩
  have hekd : ∀ k, ((Hs.take k).map (dueE T N d)).map rowP = ek k := fun k => by rw [← hek]
  simp only [hekd] at hnx hset he0 hV
  clear hekd hek heL hfr hid
  refine does_of (own := inPl) Tryz.func116 rfl Tryz.ntmps116 (congrArg Array.toList Tryz.results116) (fun us w => Tryz.call116 us w) hTT mixed (Nat.le_of_ble_eq_true rfl) ?_
  intro w0 im0 D0 S Cl hS hC ar har
  have har' := har
  obtain ⟨ai, ab, nz, inr, fi, pk, ix, ln, sb, eqi, sl, fits, mn, mx, nt, be, up, fu, mg, mh, ms⟩ := ar
  have F := facts_of har
  clear har
  cbv
  refine ⟨_, hC _ _ _ hall, ?_⟩; cbv
  refine hS _ _ _ (sem_loop (fun x : Nat × Int × List (List PV) => [(kT 5, .t (.c (.mp 8))), sL 11 16 eL, sI 12 (ln eL), sI 13 x.2.1, (kB 8, .obj (.map false true [.int .i64 0] x.2.2))]) (fun x => x.1 ≤ Hs.length ∧ x.2.1 = (x.1 : Int) ∧ x.2.2 = ek x.1) (fun x => Hs.length - x.1) (fun t => t) (0, 0, []) (fun t => t) ⟨by rfl, by cbv; try (repeat (first | exact rfl | exact trivial | refine ⟨?_, ?_⟩))⟩ ?_ ?_)
  · exact ⟨by simp, rfl, he0.symm⟩
  rintro ⟨k, i, es⟩ ⟨hk, hi, hes⟩
  dsimp only at hk hi hes
  have hadd : ai .add i 1 = ((k + 1 : Nat) : Int) := by rw [F.add i 1 (by omega) (by omega), hi]; simp
  have hlen : ln eL = Hs.length := by rw [F.ln, ← hEL]; simp
  refine sem_of (X := ⟨_, TT, ⟨0, 25, inPl⟩⟩) har' hTT mixed ?_
  intro S1 Cl1 hS1 hC1
  cbv
  by_cases hlt : k < Hs.length
  · have hb : ab .lss i (ln eL) = true := by rw [hlen, F.lss, hi]; simpa using hlt
    have hg : ix eL i = some (tolC Hs[k] T N d) := by rw [F.ix _ i k hi, ← hEL]; simp [hlt]
    have gk := hgd _ (List.getElem_mem hlt)
    have hdu := gk.due h1 h3
    have hn1 := hnx k hlt
    have hs1 := hset k hlt
    rw [← hes] at hs1 hn1
    obtain ⟨g0, g1, g2, g3, hcg⟩ : ∃ g0 g1 g2 g3, dueN T N Hs[k] d = [g0, g1, g2, g3] := by
      unfold dueN dueP; split
      · exact ⟨_, _, _, _, rfl⟩
      · split <;> exact ⟨_, _, _, _, rfl⟩
    rw [hcg] at hdu hn1
    generalize Hs[k] = x at *
    have gl := gk.len
    clear gk hgd hnx hset
    obtain ⟨x0, x1, x2, x3, x4, x5, x6, x7, x8, rfl⟩ := list9 gl
    obtain ⟨l0, l1, l2, l3, hlo⟩ : ∃ l0 l1 l2 l3, lotN T N [x0, x1, x2, x3, x4, x5, x6, x7, x8] d = [l0, l1, l2, l3] := ⟨_, _, _, _, rfl⟩
    obtain ⟨eS, hS1⟩ : ∃ es, (sayL N [x0, x1, x2, x3, x4, x5, x6, x7, x8] d).map rowP = es := ⟨_, rfl⟩
    simp only [tolC, toldP, hlo, hT1, hS1] at hg hdu
    simp only [List.getD_cons_zero] at hn1 hs1
    have hset2 : ms 1 es [.int .i64 x0] [.int .i64 g0, .int .i64 g1, .int .i64 g2, .int .i64 g3] = ek (k + 1) := by rw [F.ms, hn1]; exact hs1 _
    rw [hb]; cbv
    repeat (rw [hg]; cbv)
    refine ⟨_, hC1 _ _ _ hdu, ?_⟩; cbv
    exact ⟨(k + 1, ai .add i 1, ms 1 es [.int .i64 x0] [.int .i64 g0, .int .i64 g1, .int .i64 g2, .int .i64 g3]), ⟨hlt, hadd, hset2⟩, by dsimp only; omega, ⟨by rfl, by cbv; try (repeat (first | exact rfl | exact trivial | refine ⟨?_, ?_⟩))⟩⟩
  · have hb : ab .lss i (ln eL) = false := by rw [hlen, F.lss, hi]; simpa using hlt
    have hkE : k = Hs.length := by omega
    rw [hb]; cbv
    rw [← hV, hes, hkE]
    exact PLe.refl _
def amtE (T N : List (List Int)) (d : Int) (h : List Int) : List (List Int) :=
  ((rcvL h).zip [(dueN T N h d).getD 3 0, (dueN T N h d).getD 1 0, (dueN T N h d).getD 2 0]).map fun x => [h.getD 0 0, (dueN T N h d).getD 0 0, x.1, x.2]
theorem take_ne {e : List Int} {a b c x : Int} (h : e.getD 0 0 ≠ x) (hx : x = a) : e.take 3 ≠ [a, b, c] := fun he => by
  subst hx
  match e, he with
  | y :: _, he =>
    simp only [List.take_succ_cons, List.cons.injEq] at he
    exact h (by simpa using he.1)
theorem amt_step {T N : List (List Int)} {d : Int} {x : List Int} (hd : 0 ≤ x.getD 5 0) {E0 : List (List Int)} (h0 : ∀ e ∈ E0, e.getD 0 0 ≠ x.getD 0 0) {j : Nat} (hj : j < (rcvL x).length) :
    ∃ to am, (numP (rcvL x))[j]? = some [PV.int .i64 to] ∧ ([[PV.int .i64 ((dueN T N x d).getD 3 0)], [PV.int .i64 ((dueN T N x d).getD 1 0)], [PV.int .i64 ((dueN T N x d).getD 2 0)]] : List (List PV))[j]? = some [PV.int .i64 am] ∧
      mSet 3 ((E0 ++ (amtE T N d x).take j).map rowP) [PV.int .i64 (x.getD 0 0), PV.int .i64 ((dueN T N x d).getD 0 0), PV.int .i64 to] [PV.int .i64 am] = (E0 ++ (amtE T N d x).take (j + 1)).map rowP := by
  unfold amtE
  generalize (dueN T N x d).getD 0 0 = g0
  generalize (dueN T N x d).getD 1 0 = g1
  generalize (dueN T N x d).getD 2 0 = g2
  generalize (dueN T N x d).getD 3 0 = g3
  unfold rcvL at hj ⊢
  generalize x.getD 0 0 = x0 at *
  generalize x.getD 5 0 = x5 at *
  have key : ∀ (L : List (List Int)) (to am : Int), (∀ e ∈ L, e.take 3 ≠ [x0, g0, to]) → mSet 3 ((E0 ++ L).map rowP) [PV.int .i64 x0, PV.int .i64 g0, PV.int .i64 to] [PV.int .i64 am] = (E0 ++ (L ++ [[x0, g0, to, am]])).map rowP := fun L to am hL => by
    have := mSet_new (kn := 3) (key := [x0, g0, to]) (E := E0 ++ L) (v := [PV.int .i64 am]) (fun e he => by
      rcases List.mem_append.1 he with h | h
      · exact take_ne (h0 e h) rfl
      · exact hL e h)
    refine this.trans ?_
    simp [rowP]
  split at hj <;> rename_i h5
  · rw [if_pos h5]
    match j, hj with
    | 0, _ => exact ⟨0, g3, rfl, rfl, key [] 0 g3 (by simp)⟩
    | 1, _ => exact ⟨1, g1, rfl, rfl, key [[x0, g0, 0, g3]] 1 g1 (by simp)⟩
  · rw [if_neg h5]
    match j, hj with
    | 0, _ => exact ⟨0, g3, rfl, rfl, key [] 0 g3 (by simp)⟩
    | 1, _ => exact ⟨1, g1, rfl, rfl, key [[x0, g0, 0, g3]] 1 g1 (by simp)⟩
    | 2, _ => exact ⟨2 + x5, g2, rfl, rfl, key [[x0, g0, 0, g3], [x0, g0, 1, g1]] (2 + x5) g2 (by simp; omega)⟩
theorem amtE_len (T N : List (List Int)) (d : Int) (x : List Int) : (amtE T N d x).length = (rcvL x).length := by
  unfold amtE rcvL; split <;> rfl
theorem amtE_id {T N : List (List Int)} {d : Int} {x e : List Int} (h : e ∈ amtE T N d x) : e.getD 0 0 = x.getD 0 0 := by
  unfold amtE at h
  obtain ⟨y, _, rfl⟩ := List.mem_map.1 h
  rfl
def amtL (T H N : List (List Int)) (d : Int) : List (List Int) := (H.filter (cntH d)).flatMap (amtE T N d)
theorem amounts_does {T H N : List (List Int)} (h1 : ∀ x ∈ T, x.length = 24) (h2 : ∀ x ∈ H, x.length = 9) (h3 : ∀ x ∈ N, x.length = 7) {d : Int} (hq : askE T H N d = 0) :
    Does Tryz.prog 103 [accP T H N, .int .i64 d] (.map true false [.int .i64 0, .int .i64 0, .int .i64 0] ((amtL T H N d).map rowP)) := by
  have hall := tellAll_does h1 h2 h3 hq
  have hgd : ∀ x ∈ H.filter (cntH d), Good T N x d := fun x hx => good_in h2 hq (List.mem_filter.1 hx).1
  have hHl : (H.filter (cntH d)).length ≤ 60 := by
    have := (accOk_len (askE_ok hq).1).2.1
    have := tolL_len T H N d
    omega
  have hid := ids_lt (by have := (askE_ok hq).1; unfold accOk at this; simp only [Bool.and_eq_true] at this; exact this.2.1) (cntH d)
  unfold tolL at hall
  unfold amtL
  generalize H.filter (cntH d) = Hs at *
  obtain ⟨V, hV⟩ : ∃ V, PV.map true false [.int .i64 0, .int .i64 0, .int .i64 0] ((Hs.flatMap (amtE T N d)).map rowP) = V := ⟨_, rfl⟩
  rw [hV]
  obtain ⟨eL, hEL⟩ : ∃ es, Hs.map (fun h => tolC h T N d) = es := ⟨_, rfl⟩
  obtain ⟨eT, hT1⟩ : ∃ es, T.map rowP = es := ⟨_, rfl⟩
  obtain ⟨eH, hH1⟩ : ∃ es, H.map rowP = es := ⟨_, rfl⟩
  obtain ⟨eN, hN1⟩ : ∃ es, N.map rowP = es := ⟨_, rfl⟩
  simp only [accP, hT1, hH1, hN1, hEL] at hall ⊢
  have hfr : ∀ k (hk : k < Hs.length), ∀ e ∈ (Hs.take k).flatMap (amtE T N d), e.getD 0 0 ≠ (Hs[k]).getD 0 0 := fun k hk e he => by
    obtain ⟨x, hx, he⟩ := List.mem_flatMap.1 he
    obtain ⟨j, hj, rfl⟩ := List.mem_iff_getElem.1 hx
    rw [List.getElem_take] at he
    simp only [List.length_take] at hj
    have := hid j k (by omega) hk (by omega)
    rw [amtE_id he]
    omega
  have hek : ∀ k (hk : k < Hs.length), ((Hs.take (k + 1)).flatMap (amtE T N d)).map rowP = (((Hs.take k).flatMap (amtE T N d)) ++ (amtE T N d Hs[k]).take (rcvL Hs[k]).length).map rowP := fun k hk => by
    rw [take_last hk, ← amtE_len T N d, List.take_length, List.flatMap_append]
    simp
  have heL : ((Hs.take Hs.length).flatMap (amtE T N d)).map rowP = (Hs.flatMap (amtE T N d)).map rowP := by rw [List.take_length]
  rw [← heL] at hV
  refine does_of (own := inPl) Tryz.func103 rfl Tryz.ntmps103 (congrArg Array.toList Tryz.results103) (fun us w => Tryz.call103 us w) hTT mixed (Nat.le_of_ble_eq_true rfl) ?_
  intro w0 im0 D0 S Cl hS hC ar har
  have har' := har
  obtain ⟨ai, ab, nz, inr, fi, pk, ix, ln, sb, eqi, sl, fits, mn, mx, nt, be, up, fu, mg, mh, ms⟩ := ar
  have F := facts_of har
  clear har
  cbv
  refine ⟨_, hC _ _ _ hall, ?_⟩; cbv
  refine hS _ _ _ (sem_loop (fun x : Nat × Int × List (List PV) => [(kT 5, .t (.c (.mp 12))), sL 15 16 eL, sI 16 (ln eL), sI 17 x.2.1, (kB 12, .obj (.map true false [.int .i64 0, .int .i64 0, .int .i64 0] x.2.2))]) (fun x => x.1 ≤ Hs.length ∧ x.2.1 = (x.1 : Int) ∧ x.2.2 = ((Hs.take x.1).flatMap (amtE T N d)).map rowP) (fun x => Hs.length - x.1) (fun t => t) (0, 0, []) (fun t => t) ⟨by rfl, by cbv; try (repeat (first | exact rfl | exact trivial | refine ⟨?_, ?_⟩))⟩ ?_ ?_)
  · exact ⟨by simp, rfl, rfl⟩
  rintro ⟨k, i, es⟩ ⟨hk, hi, hes⟩
  dsimp only at hk hi hes
  have hadd : ai .add i 1 = ((k + 1 : Nat) : Int) := by rw [F.add i 1 (by omega) (by omega), hi]; simp
  have hlen : ln eL = Hs.length := by rw [F.ln, ← hEL]; simp
  refine sem_of (X := ⟨_, TT, ⟨0, 54, inPl⟩⟩) har' hTT mixed ?_
  intro S1 Cl1 hS1 hC1
  cbv
  by_cases hlt : k < Hs.length
  · have hb : ab .lss i (ln eL) = true := by rw [hlen, F.lss, hi]; simpa using hlt
    have hg : ix eL i = some (tolC Hs[k] T N d) := by rw [F.ix _ i k hi, ← hEL]; simp [hlt]
    have gk := hgd _ (List.getElem_mem hlt)
    have hdu := gk.due h1 h3
    have hb5 := (heldOk_bounds gk.held).2.2.2.1
    have hrc := receivers_does gk.len hb5
    have hst := fun j (hj : j < (rcvL Hs[k]).length) => amt_step (T := T) (N := N) (d := d) hb5.1 (hfr k hlt) hj
    have hk1 := hek k hlt
    have hk0 : es = (((Hs.take k).flatMap (amtE T N d)) ++ (amtE T N d Hs[k]).take 0).map rowP := by rw [hes]; simp
    obtain ⟨g0, g1, g2, g3, hcg⟩ : ∃ g0 g1 g2 g3, dueN T N Hs[k] d = [g0, g1, g2, g3] := by
      unfold dueN dueP; split
      · exact ⟨_, _, _, _, rfl⟩
      · split <;> exact ⟨_, _, _, _, rfl⟩
    rw [hcg] at hdu hst
    obtain ⟨fj, hfj⟩ : ∃ f : Nat → List (List PV), (fun j => (((Hs.take k).flatMap (amtE T N d)) ++ (amtE T N d Hs[k]).take j).map rowP) = f := ⟨_, rfl⟩
    have hfjd : ∀ j, (((Hs.take k).flatMap (amtE T N d)) ++ (amtE T N d Hs[k]).take j).map rowP = fj j := fun j => by rw [← hfj]
    simp only [hfjd] at hst hk1 hk0
    have hRl : (rcvL Hs[k]).length ≤ 3 := by unfold rcvL; split <;> simp
    generalize Hs[k] = x at *
    have gl := gk.len
    clear hfjd hfj gk hgd hek hfr hcg
    obtain ⟨x0, x1, x2, x3, x4, x5, x6, x7, x8, rfl⟩ := list9 gl
    obtain ⟨l0, l1, l2, l3, hlo⟩ : ∃ l0 l1 l2 l3, lotN T N [x0, x1, x2, x3, x4, x5, x6, x7, x8] d = [l0, l1, l2, l3] := ⟨_, _, _, _, rfl⟩
    obtain ⟨eS, hES⟩ : ∃ es, (sayL N [x0, x1, x2, x3, x4, x5, x6, x7, x8] d).map rowP = es := ⟨_, rfl⟩
    simp only [tolC, toldP, hlo, hT1, hES] at hg hdu
    simp only [List.getD_cons_zero, List.getD_cons_succ] at hst
    generalize rcvL [x0, x1, x2, x3, x4, x5, x6, x7, x8] = rc at *
    obtain ⟨eR, hER⟩ : ∃ es, numP rc = es := ⟨_, rfl⟩
    have hlR : ln eR = rc.length := by rw [F.ln, ← hER]; simp [numP]
    rw [hER] at hrc
    simp only [hER] at hst
    rw [hb]; cbv
    repeat (rw [hg]; cbv)
    refine ⟨_, hC1 _ _ _ hdu, ?_⟩; cbv
    refine ⟨_, hC1 _ _ _ hrc, ?_⟩; cbv
    refine hS1 _ _ _ (sem_loop (fun y : Nat × Int × List (List PV) => [(kT 5, .t (.c (.mp 12))), sP 7 7, sP 8 8, sR 9 29, sL 15 16 eL, sI 16 (ln eL), sI 17 i, sL 32 1 eR, sI 33 (ln eR), sI 34 y.2.1, bX 7 123 [cI x0, cI x1, cI x2, cI x3, cI x4, cI x5, cI x6, cI x7, cI x8, cL 24 eT, cL 7 eS, cI d, cI l0, cI l1, cI l2, cI l3], bX 8 66 [cI g0, cI g1, cI g2, cI g3], rW 29 3 1 [[.int .i64 g3], [.int .i64 g1], [.int .i64 g2]], (kB 12, .obj (.map true false [.int .i64 0, .int .i64 0, .int .i64 0] y.2.2))]) (fun y => y.1 ≤ rc.length ∧ y.2.1 = (y.1 : Int) ∧ y.2.2 = fj y.1) (fun y => rc.length - y.1) (fun t => t) (0, 0, es) (fun t => t) ⟨by rfl, by cbv; try (repeat (first | exact rfl | exact trivial | refine ⟨?_, ?_⟩))⟩ ?_ ?_)
    · exact ⟨by simp, rfl, hk0⟩
    rintro ⟨m, r, es'⟩ ⟨hm, hr, hes'⟩
    dsimp only at hm hr hes'
    have hradd : ai .add r 1 = ((m + 1 : Nat) : Int) := by rw [F.add r 1 (by omega) (by omega), hr]; simp
    refine sem_of (X := ⟨_, TT, ⟨0, 54, inPl⟩⟩) har' hTT mixed ?_
    intro S2 Cl2 hS2 hC2
    cbv
    by_cases hlt2 : m < rc.length
    · have hb2 : ab .lss r (ln eR) = true := by rw [hlR, F.lss, hr]; simpa using hlt2
      obtain ⟨to, am, q1, q2, q3⟩ := hst m hlt2
      have hg2 : ix eR r = some [PV.int .i64 to] := by rw [F.ix _ r m hr]; exact q1
      have hg3 : ix [[.int .i64 g3], [.int .i64 g1], [.int .i64 g2]] r = some [PV.int .i64 am] := by rw [F.ix _ r m hr]; exact q2
      have hset : ms 3 es' [.int .i64 x0, .int .i64 g0, .int .i64 to] [.int .i64 am] = fj (m + 1) := by rw [F.ms, hes']; exact q3
      rw [hb2]; cbv
      repeat (rw [hg2]; cbv)
      repeat (rw [hg3]; cbv)
      exact ⟨(m + 1, ai .add r 1, ms 3 es' [.int .i64 x0, .int .i64 g0, .int .i64 to] [.int .i64 am]), ⟨hlt2, hradd, hset⟩, by dsimp only; omega, ⟨by rfl, by cbv; try (repeat (first | exact rfl | exact trivial | refine ⟨?_, ?_⟩))⟩⟩
    · have hb2 : ab .lss r (ln eR) = false := by rw [hlR, F.lss, hr]; simpa using hlt2
      have hmE : m = rc.length := by omega
      rw [hb2]; cbv
      exact ⟨(k + 1, ai .add i 1, es'), ⟨hlt, hadd, by rw [hk1, hes', hmE]⟩, by dsimp only; omega, ⟨by rfl, by cbv; try (repeat (first | exact rfl | exact trivial | refine ⟨?_, ?_⟩))⟩⟩
  · have hb : ab .lss i (ln eL) = false := by rw [hlen, F.lss, hi]; simpa using hlt
    have hkE : k = Hs.length := by omega
    rw [hb]; cbv
    rw [← hV, hes, hkE]
    exact PLe.refl _
theorem eqPs_rowP : ∀ {x y : List Int}, x.length = y.length → eqPs (rowP x) (rowP y) = (x == y)
  | [], [], _ => rfl
  | a :: x, b :: y, h => by
    have ih := eqPs_rowP (x := x) (y := y) (by simpa using h)
    show eqPs (PV.int .i64 a :: rowP x) (PV.int .i64 b :: rowP y) = _
    simp only [eqPs]
    rw [ih]
    show ((a == b) && (x == y)) = (a :: x == b :: y)
    simp
def samK (a b : List (List Int)) (k : Nat) : Bool := a.length == b.length && a.take k == b.take k
theorem rSame_does (a b : List (List Int)) (ha : ∀ x ∈ a, x.length = 5) (hb : ∀ x ∈ b, x.length = 5) (hsm : a.length ≤ 1000000000) :
    Does Tryz.prog 42 [.list 5 (a.map rowP), .list 5 (b.map rowP)] (.bool (a == b)) := by
  obtain ⟨V, hV⟩ : ∃ V, PV.bool (a == b) = V := ⟨_, rfl⟩
  rw [hV]
  refine does_of (own := inPl) Tryz.func42 rfl Tryz.ntmps42 (congrArg Array.toList Tryz.results42) (fun us w => Tryz.call42 us w) hTT mixed (Nat.le_of_ble_eq_true rfl) ?_
  intro w0 im0 D0 S Cl hS hC ar har
  have har' := har
  obtain ⟨ai, ab, nz, inr, fi, pk, ix, ln, sb, eqi, sl, fits, mn, mx, nt, be, up, fu, mg, mh, ms⟩ := ar
  have F := facts_of har
  clear har
  obtain ⟨eA, hA⟩ : ∃ es, a.map rowP = es := ⟨_, rfl⟩
  obtain ⟨eB, hB⟩ : ∃ es, b.map rowP = es := ⟨_, rfl⟩
  have hlA : ln eA = a.length := by rw [F.ln, ← hA]; simp
  have hlB : ln eB = b.length := by rw [F.ln, ← hB]; simp
  have h0 : ab .eql (ln eA) (ln eB) = samK a b 0 := by rw [F.eql, hlA, hlB]; unfold samK; rw [Bool.eq_iff_iff]; simp only [beq_iff_eq, Bool.and_eq_true, List.take_zero, and_true]; omega
  rw [hA, hB]
  cbv
  rw [h0]
  refine hS _ _ _ (sem_loop (fun x : Nat × Int × Bool => [sL 0 5 eA, sL 1 5 eB, sB 5 x.2.2, sI 6 x.2.1]) (fun x => x.1 ≤ a.length ∧ x.2.1 = (x.1 : Int) ∧ x.2.2 = samK a b x.1) (fun x => a.length - x.1) (fun t => t) (0, 0, samK a b 0) (fun t => t) ⟨by rfl, by cbv; try (repeat (first | exact rfl | exact trivial | refine ⟨?_, ?_⟩))⟩ ?_ ?_)
  · exact ⟨by simp, rfl, rfl⟩
  rintro ⟨k, i, s⟩ ⟨hk, hi, hs⟩
  dsimp only at hk hi hs
  have hadd : ai .add i 1 = ((k + 1 : Nat) : Int) := by rw [F.add i 1 (by omega) (by omega), hi]; simp
  by_cases hlt : k < a.length
  · have hb1 : ab .lss i (ln eA) = true := by rw [hlA, F.lss, hi]; simpa using hlt
    cases s
    · skip
      refine sem_of (X := ⟨_, TT, ⟨0, 31, inPl⟩⟩) har' hTT mixed ?_
      intro S1 Cl1 hS1 hC1
      cbv
      rw [hb1]; cbv
      subst hV
      refine PLe.of_eq ?_
      have : samK a b k = false := hs.symm
      unfold samK at this
      congr 1
      refine (Bool.eq_false_iff.2 fun he => ?_).symm
      have he := eq_of_beq he
      rw [he] at this
      simp at this
    · have hlen : a.length = b.length := by
        have : samK a b k = true := hs.symm
        unfold samK at this
        simp only [Bool.and_eq_true, beq_iff_eq] at this
        exact this.1
      have hltb : k < b.length := by omega
      have hgA : ix eA i = some (rowP a[k]) := by rw [F.ix _ i k hi, ← hA]; exact get_rows hlt
      have hgB : ix eB i = some (rowP b[k]) := by rw [F.ix _ i k hi, ← hB]; exact get_rows hltb
      have hnext : eqi (rowP a[k]) (rowP b[k]) = samK a b (k + 1) := by
        have h1 : samK a b k = true := hs.symm
        unfold samK at h1 ⊢
        simp only [Bool.and_eq_true, beq_iff_eq] at h1
        rw [F.eqi, eqPs_rowP (by rw [ha _ (List.getElem_mem hlt), hb _ (List.getElem_mem hltb)]), take_last hlt, take_last hltb, h1.2, Bool.eq_iff_iff]
        simp only [beq_iff_eq, Bool.and_eq_true, h1.1, true_and, List.append_cancel_left_eq, List.cons.injEq, and_true]
      obtain ⟨x0, x1, x2, x3, x4, hx⟩ := list5 (ha _ (List.getElem_mem hlt))
      obtain ⟨y0, y1, y2, y3, y4, hy⟩ := list5 (hb _ (List.getElem_mem hltb))
      rw [hx] at hgA hnext
      rw [hy] at hgB hnext
      obtain ⟨s', hs'⟩ : ∃ s', samK a b (k + 1) = s' := ⟨_, rfl⟩
      rw [hs'] at hnext
      have hnext : eqi [.int .i64 x0, .int .i64 x1, .int .i64 x2, .int .i64 x3, .int .i64 x4] [.int .i64 y0, .int .i64 y1, .int .i64 y2, .int .i64 y3, .int .i64 y4] = s' := hnext
      refine sem_of (X := ⟨_, TT, ⟨0, 31, inPl⟩⟩) har' hTT mixed ?_
      intro S1 Cl1 hS1 hC1
      cbv
      rw [hb1]; cbv
      rw [hgA]; cbv
      rw [hgB]; cbv
      rw [hnext]
      exact ⟨(k + 1, ai .add i 1, s'), ⟨hlt, hadd, hs'.symm⟩, by dsimp only; omega, ⟨by rfl, by cbv; try (repeat (first | exact rfl | exact trivial | refine ⟨?_, ?_⟩))⟩⟩
  · have hb1 : ab .lss i (ln eA) = false := by rw [hlA, F.lss, hi]; simpa using hlt
    refine sem_of (X := ⟨_, TT, ⟨0, 31, inPl⟩⟩) har' hTT mixed ?_
    intro S1 Cl1 hS1 hC1
    cbv
    rw [hb1]; cbv
    subst hV
    refine PLe.of_eq ?_
    rw [hs]
    unfold samK
    have : k = a.length := by omega
    subst this
    congr 1
    rw [List.take_length, Bool.eq_iff_iff]
    simp only [Bool.and_eq_true, beq_iff_eq]
    constructor
    · rintro ⟨h1, h2⟩; rw [h1, List.take_length] at h2; exact h2
    · rintro rfl; simp
set_option maxHeartbeats 4000000
def mvB (T H N : List (List Int)) (s d : Int) (h : List Int) : Bool := !(dueR T H N (h.getD 0 0) d == dueR T (lessL s H) (lessL s N) (h.getD 0 0) d)
def fndB (H N : List (List Int)) (s : Int) : Bool := H.any (isS s) || N.any (isS s)
def movE (T H N : List (List Int)) (s d : Int) : Int := if askE T H N d = 0 then (if fndB H N s = true then 0 else 3) else askE T H N d
def movN (T H N : List (List Int)) (s d : Int) : List Int := if movE T H N s d = 0 then srcsN (mvB T H N s d) H else []
def st0C (e : TypeId) (k : Nat) (es : List (List PV)) (args : List PV) : St := (kT 0, .t (.c (.row 0))) :: (kR 0, .row e k es) :: st0 1 args
section
variable {P : Program}
theorem st0C_at {e : TypeId} {k : Nat} {es : List (List PV)} {args : List PV} {j : Nat} {c : Cont} (h : lk (st0C e k es args) j = c) (hc : c ≠ .none) :
    (j = kT 0 ∧ c = .t (.c (.row 0))) ∨ (j = kR 0 ∧ c = .row e k es) ∨ ∃ q p, args[q]? = some p ∧ j = kT (1 + q) ∧ c = .t (TV.ofPV p) := by
  unfold st0C at h
  rw [lk_cons, lk_cons, ovr_one, ovr_one] at h
  split at h
  · exact .inl ⟨Eq.symm ‹_›, h.symm⟩
  · split at h
    · exact .inr (.inl ⟨Eq.symm ‹_›, h.symm⟩)
    · obtain ⟨q, p, h1, h2, h3⟩ := st0_get args 1 j c h hc
      exact .inr (.inr ⟨q, p, h1, h2, h3⟩)
theorem doesC_of {f : FuncId} {fn : Func} {body : Code} {e : TypeId} {k : Nat} {es : List (List PV)} {args : List PV} {res : PV} {T : TypeId → Lay} {M : Nat} {own : List FuncId} {rs : List ResultVar} (hf : P.funcs[f]? = some fn) (hb : fn.body = some body) (hN : fn.ntmps = M) (hrs : fn.results.toList = rs)
    (hen : ∀ us w, (callFunc f us).run P w = .ok (.enter f us) w) (hT : ∀ t, LayOK P t (T t)) (hm : P.follows .mixedOrders = true) (hle : args.length + 1 ≤ M)
    (h : ∀ (w0 : World) (im0 : Nat → Prop) (D : Env) (S : Code → (Exit → St → Prop) → St → Prop) (Cl : FuncId → List PV → PV → Prop), (∀ c Q σ, SemC P w0 im0 ⟨0, M, own⟩ D none 9 c Q σ → S c Q σ) → (∀ f a v, Can P f a v → Cl f a v) → ∀ ar, ar = Ar.std → acode ⟨ar, T, ⟨0, M, own⟩⟩ Cl S body (retF rs res) (st0C e k es args)) : DoesC P f e k es args res := by
  refine ⟨hen, fun w im imA base x xs us him himA hbase hown hl hk hno hrep => ?_⟩
  have hlen := hrep.len
  obtain ⟨w0, hw0⟩ : ∃ w0 : World, w0 = { w with heap := w.heap.extract 0 base } := ⟨_, rfl⟩
  have h0s : w0.heap.size = base := by rw [hw0]; simp; omega
  have hbel0 : Below w0.heap.size w0 w := by
    refine ⟨by rw [hw0], by rw [hw0], by rw [hw0], by rw [h0s]; exact hbase, fun b hb => ?_⟩
    rw [h0s] at hb
    rw [hw0]
    show w.heap[b]? = (w.heap.extract 0 base)[b]?
    rw [Array.getElem?_extract]
    simp only [Nat.zero_add, Nat.sub_zero, Nat.min_eq_left hbase]
    rw [if_pos hb]
  obtain ⟨D, hD⟩ : ∃ D : Env, D = ⟨fun b => Plain w b ∧ ((im b ∨ imA b) ∨ base ≤ b) ∧ x.ownBlock ≠ some b, w, #[], fun b => Obj.machB w.heap[b]? = true, w.heap.size⟩ := ⟨_, rfl⟩
  have hnb : ∀ q, ¬ isBox (lk (st0C e k es args)) q := fun q hq => by
    rcases hq with ⟨ty, cs, hc⟩ | ⟨o, hc⟩ <;>
    · rcases st0C_at hc (by simp) with ⟨h2, _⟩ | ⟨h2, _⟩ | ⟨_, _, _, h2, _⟩
      · exact (kT_ne_kB _ _) h2.symm
      · exact (kB_ne_kR _ _) h2
      · exact (kT_ne_kB _ _) h2.symm
  have hrow : ∀ t, isRow (lk (st0C e k es args)) t → t = 0 := fun t ⟨e', k', es', hc⟩ => by
    rcases st0C_at hc (by simp) with ⟨h2, _⟩ | ⟨h2, _⟩ | ⟨_, _, _, h2, _⟩
    · exact ((kT_ne_kR _ _) h2.symm).elim
    · exact kR_inj h2
    · exact ((kT_ne_kR _ _) h2.symm).elim
  have him0 : ∀ b, (im b ∨ imA b) → imOf w0.heap.size (fun b => im b ∨ imA b) (fun _ => 0) (fun _ => x) (lk (st0C e k es args)) w b := fun b hb =>
    ⟨hb.elim (him b) (himA b), .inl hb, fun q hq => absurd hq (hnb q), fun t ht e => by
      have := hno b e
      exact hb.elim this.1 this.2⟩
  have hk0 : lk (st0C e k es args) (kR 0) = .row e k es := by
    unfold st0C
    rw [lk_cons, lk_cons, ovr_one, ovr_one, if_neg (kT_ne_kR 0 0), if_pos rfl]
  have hrel : RelAt w0 (fun b => im b ∨ imA b) ⟨0, M, own⟩ D (fun _ => 0) (fun _ => x) (lk (st0C e k es args)) { tmps := (x :: us).toArray ++ Array.replicate (fn.ntmps - (x :: us).toArray.size) undef, defers := [] } w := by
    refine ⟨hbel0, by simp [hN, hlen]; omega, ⟨⟨[], rfl, by simp, by simp⟩, fun b hb => ?_, fun d hd => absurd hd (Nat.not_lt_zero d), fun b hb => ?_, ?_⟩, fun d v hv => ?_, fun q ty cs hc => absurd (.inl ⟨ty, cs, hc⟩) (hnb q), fun q o hc => absurd (.inr ⟨o, hc⟩) (hnb q), fun t e' k' es' hc => ?_, fun q q' hq => absurd hq (hnb q), fun q t hq => absurd hq (hnb q), fun t t' g ht ht' _ _ => (hrow t ht).trans (hrow t' ht').symm, fun i q hq => ?_, fun i t ht => ?_⟩
    · rw [hD] at hb ⊢
      obtain ⟨h1, h2, h3⟩ := hb
      refine ⟨⟨h1, by rw [h0s]; exact h2, fun q hq => absurd hq (hnb q), fun t _ e => h3 e⟩, rfl⟩
    · rw [hD] at hb ⊢
      exact ⟨hb, rfl⟩
    · rw [hD]; exact Nat.le_refl _
    · rcases st0C_at hv (by simp) with ⟨h2, h3⟩ | ⟨h2, _⟩ | ⟨q, p, h1, h2, h3⟩
      · obtain rfl := kT_inj h2
        cases h3
        have : ((x :: us).toArray ++ Array.replicate (fn.ntmps - (x :: us).toArray.size) undef).getD 0 undef = x := by
          simp [Array.getD_eq_getD_getElem?, Array.getElem?_append]
        show RepT _ _ _ _ _ (((x :: us).toArray ++ Array.replicate (fn.ntmps - (x :: us).toArray.size) undef).getD 0 undef)
        rw [this]
        exact ⟨rfl, ownsRow_isSlice hown⟩
      · exact ((kT_ne_kR _ _) h2).elim
      · have hd : d = 1 + q := kT_inj h2
        subst hd
        cases h3
        obtain ⟨u, hu, hp⟩ := hrep.get h1
        have hlt := (List.getElem?_eq_some_iff.1 hu).1
        have hu' : (x :: us)[1 + q]? = some u := by rw [Nat.add_comm]; simpa using hu
        have e1 : ((x :: us).toArray ++ Array.replicate (fn.ntmps - (x :: us).toArray.size) undef).getD (1 + q) undef = u := by
          have hlt' : 1 + q < (x :: us).length := by rw [List.length_cons]; omega
          simp only [Array.getD_eq_getD_getElem?, Array.getElem?_append, List.size_toArray, hlt', if_true, List.getElem?_toArray, hu', Option.getD_some]
        show RepT _ _ _ _ _ (((x :: us).toArray ++ Array.replicate (fn.ntmps - (x :: us).toArray.size) undef).getD (1 + q) undef)
        rw [e1]
        exact TV.ofPV_rep (RepP.keep (fun b hb => ⟨him0 b (.inr hb), rfl⟩) _ _ hp)
    · have ht := hrow t ⟨e', k', es', hc⟩
      subst ht
      rw [hk0] at hc
      cases hc
      exact ⟨xs, by rw [h0s]; exact hown, RepL.keep (fun b hb => ⟨him0 b (.inl hb), rfl⟩) _ _ hl, hk⟩
    · cases hc : lk (st0C e k es args) i with
      | none => rw [hc] at hq; simp [Cont.boxes] at hq
      | _ =>
        rcases st0C_at hc (by simp) with ⟨_, h3⟩ | ⟨_, h3⟩ | ⟨_, _, _, _, h3⟩
        · rw [hc, h3] at hq
          simp [Cont.boxes, TV.boxes, CV.boxes] at hq
        · rw [hc, h3] at hq
          simp [Cont.boxes] at hq
        · rw [hc, h3] at hq
          simp [Cont.boxes, TV.ofPV_boxes] at hq
    · have ht0 : t = 0 := by
        cases hc : lk (st0C e k es args) i with
        | none => rw [hc] at ht; simp [Cont.rows] at ht
        | _ =>
          rcases st0C_at hc (by simp) with ⟨_, h3⟩ | ⟨_, h3⟩ | ⟨_, _, _, _, h3⟩
          · rw [hc, h3] at ht
            simpa [Cont.rows, TV.rows, CV.rows] using ht
          · rw [hc, h3] at ht
            simp [Cont.rows] at ht
          · rw [hc, h3] at ht
            simp [Cont.rows, TV.ofPV_rows] at ht
      subst ht0
      rw [hk0]; simp
  have hsem := acode_ok (X := ⟨Ar.std, T, ⟨0, M, own⟩⟩) (P := P) (w0 := w0) (im0 := fun b => im b ∨ imA b) (D := D) (ro := none) (n := 9) rfl hT hm body _ _ (h w0 _ _ _ _ (fun _ _ _ h => h) (fun _ _ _ h => h) Ar.std rfl)
  refine (callsIn_wide (n := 9)).1 (callsIn_of_wp_marks hf hb trivial (wpIn_mono (hsem _ w ⟨_, _, hrel⟩) ?_) rfl)
  rintro e1 a' w' ⟨σ', hq, bm, rm, hrel'⟩
  have key : retFs rs res σ' → LeavesInM (FW none) 9 P fn a'.tmps (fun e' w' => ∃ u, e' = .returned u ∧ RepP (fun b => im b ∨ ((x.ownBlock = some b ∨ w.heap.size ≤ b) ∧ Plain w' b)) w' res u ∧ w.grownBy w' x.ownBlock) a'.defers .returning w' := by
    intro hq
    obtain ⟨Ds, hd1, hd2, hd3⟩ := hrel'.defs.marks
    rw [hd1]
    refine leaves_marksV Ds w' hd2 (fun b hb => (hd3 b hb).2) fun Y hY => ?_
    have hDs : ∀ b ∈ Ds, w.heap.size ≤ b := fun b hb => by have := (hd3 b hb).1.2; rw [hD] at this; exact this
    have hrelY : RelAt w0 (fun b => im b ∨ imA b) ⟨0, M, own⟩ D bm rm (lk σ') { tmps := a'.tmps, defers := [] } Y := by
      refine hrel'.move hY.os hY.tape hY.output (Nat.le_of_eq hY.size.symm) (fun b _ => ?_) hrel'.size (fun _ _ _ => rfl) (fun hk => ⟨⟨[], rfl, by simp, by simp⟩, hrel'.defs.kept.trans hk, hrel'.defs.pins, fun b hb => ?_, Nat.le_trans hrel'.defs.top (Nat.le_of_eq hY.size.symm)⟩)
      · by_cases hm : b ∈ Ds
        · exact .inr ⟨(hd3 b hm).1.1, by rw [(hd3 b hm).2]; rfl⟩
        · exact .inl (hY.block b hm)
      · have h1 := hrel'.defs.mks b hb
        have hnm : b ∉ Ds := fun hm => by
          have := hDs b hm
          rw [hD] at hb
          have := mach_lt (w := w) hb
          omega
        rw [hY.block b hnm]
        exact h1
    have hgrow : w.grownBy Y x.ownBlock := by
      refine ⟨hrelY.base.os.trans (by rw [hw0]), hrelY.base.tape.trans (by rw [hw0]), hrelY.base.output.trans (by rw [hw0]), by have := hrelY.defs.top; rw [hD] at this; exact this, fun b hb hne => ?_⟩
      by_cases hbb : b < base
      · exact (hrelY.base.block b (by rw [h0s]; exact hbb)).trans (hbel0.block b (by rw [h0s]; exact hbb)).symm
      · cases hmb : Obj.machB w.heap[b]? with
        | true =>
          have := (hrelY.defs.mks b (by rw [hD]; exact hmb)).2
          rw [hD] at this
          exact this
        | false =>
          have := (hrelY.defs.kept b (by rw [hD]; exact ⟨⟨hb, hmb⟩, .inr (by omega), fun e => hne e.symm⟩)).2
          rw [hD] at this
          exact this
    unfold retFs at hq
    split at hq <;> try exact hq.elim
    rename_i t hq9
    split at hq <;> try exact hq.elim
    rename_i r hs
    split at hq <;> try exact hq.elim
    rename_i e9 k9 es9 hc
    obtain ⟨hv, _⟩ : a'.tmps.getD t undef = rm r ∧ _ := hrelY.slots _ _ hs
    obtain ⟨ys, hown9, hl9, hk9⟩ := hrelY.rows r e9 k9 es9 hc
    have hblk : ∀ g, (rm r).ownBlock = some g → x.ownBlock = some g ∨ w.heap.size ≤ g := fun g hg => by
      rcases Nat.lt_or_ge g w.heap.size with hlt | hge
      · by_cases hx : x.ownBlock = some g
        · exact .inl hx
        · exfalso
          have hgb := (hown9.lt g hg).1
          rw [h0s] at hgb
          cases hmb : Obj.machB w.heap[g]? with
          | true =>
            have := (hrelY.defs.mks g (by rw [hD]; exact hmb)).1
            rw [owns_not_mach hown9 hg] at this
            cases this
          | false =>
            have := (hrelY.defs.kept g (by rw [hD]; exact ⟨⟨hlt, hmb⟩, .inr hgb, hx⟩)).1
            exact this.2.2.2 r ⟨e9, k9, es9, hc⟩ hg
      · exact .inr hge
    refine ⟨rm r, ?_, rm r, rfl, hq.1.h _ _ _ ?_, hgrow⟩
    · rw [results_eq, Sem.run_bind, Array.mapM_eq_mapM_toList, hrs, Sem.run_map]
      simp only [List.mapM_cons, List.mapM_nil, resV, Sem.run_bind, Sem.run_pure, Result.andThen_ok, hv]
      rfl
    · simp only [RepP]
      rcases hown9.2 with ⟨hv, h0⟩ | ⟨g, cap, cur, hv, hbg, hgg, hcap, hmx, _, _⟩
      · exact ⟨none, 0, 0, hv, h0.symm, by simp, by simp, .inl (List.eq_nil_of_length_eq_zero h0)⟩
      · refine ⟨_, _, cap, hv, rfl, hcap, hmx, .inr ⟨g, 0, rfl, .inr ⟨hblk g (by rw [hv]; rfl), plain_of hgg rfl⟩, ?_⟩⟩
        refine RepE.of_flat' hk9 (fun j u hu => ?_) (hq.2 _ _ _ _ _ hl9)
        have := hown9.cells (g := g) (by rw [hv]; rfl) j u hu
        rwa [Addr.add_mid] at this
  cases e1 with
  | normal => exact key hq
  | ret => exact key hq
  | _ => exact hq.elim
end
section
variable {P : Program} {w0 : World} {im0 : Nat → Prop} {N : NN} {D : Env} {ro : Option Nat} {n : Nat} {bm : Nat → Nat} {rm : Nat → Value} {L : Lk}
theorem op_run {ops : Array Oper} {i : Nat} {o : Oper} {a : Act} {w w' : World} {v : Value} {Q : Exit → Act → World → Prop} {K : Act → World → Prop} (ho : ops[i]? = some o) (hg : o.guard = none) (hnd : ∀ c, o.op ≠ .defer c)
    (hrun : (execOp a.eval o).run P w = .ok (.value v) w') (hK : K (a.put o.dst v) w') : wpOpIn (FW ro) n P ops Q i K a w := by
  unfold wpOpIn
  simp only [ho]
  rw [show Region.wanted o (yielded ops a.tmps) = true by simp [Region.wanted, hg], if_pos rfl]
  exact ⟨fenceW_about ro o w a, by rw [Oper.semAt_eq _ _ _ hnd, hrun]; exact hK⟩
theorem zero_flat (z : List Value) : ∀ (m : Nat), (Builtin.zeroCells z.toArray m).toList = (List.replicate m z).flatten := fun m => by
  apply List.ext_getElem
  · simp [Builtin.zeroCells, List.length_flatten, List.sum_replicate_nat]
  · intro j h1 h2
    have hj : j < m * z.length := by simpa [Builtin.zeroCells] using h1
    have hz : 0 < z.length := by
      rcases Nat.eq_zero_or_pos z.length with h | h
      · rw [h] at hj; simp at hj
      · exact h
    have e1 : (Builtin.zeroCells z.toArray m).toList[j] = z[j % z.length]'(Nat.mod_lt _ hz) := by
      simp [Builtin.zeroCells, Nat.mod_lt _ hz]
    rw [e1]
    have key : ∀ (m j : Nat) (h : j < (List.replicate m z).flatten.length), (List.replicate m z).flatten[j] = z[j % z.length]'(Nat.mod_lt _ hz) := fun m => by
      induction m with
      | zero => intro j h; simp at h
      | succ m ih =>
        intro j h
        simp only [List.replicate_succ, List.flatten_cons]
        rw [List.getElem_append]
        split
        · rename_i hlt
          congr 1
          exact (Nat.mod_eq_of_lt hlt).symm
        · rename_i hge
          rw [ih (j - z.length)]
          congr 1
          exact (Nat.mod_eq_sub_mod (by omega)).symm
    exact (key m j h2).symm
theorem sem_clear {id t s i d1 d2 d3 : Nat} {ops : Array Oper} {o1 o2 o3 o4 : Oper} {Q : Exit → St → Prop} {σ : St} {T : TypeId → Lay} {e : TypeId} {k bytes : Nat} {eagg : Bool} {ez : List PV} {r : Nat} {es : List (List PV)} {q : Int} {m : Nat}
    (hops : ops = #[o1, o2, o3, o4]) (hg1 : o1.guard = none) (hg2 : o2.guard = none) (hg3 : o3.guard = none) (hg4 : o4.guard = none) (ho1 : o1.op = .move (.tmp s)) (ho2 : o2.op = .move (.tmp i)) (ho3 : o3.op = .slice t (.tmp d1) (some (.tmp d2)) none none)
    (ho4 : o4.op = .call { callee := .builtin .clear, args := #[.tmp d3], argTypes := #[t] }) (hd1 : o1.dst = some d1) (hd2 : o2.dst = some d2) (hd3 : o3.dst = some d3) (hd4 : o4.dst = none)
    (hk1 : okS N d1 = true) (hk2 : okS N d2 = true) (hk3 : okS N d3 = true) (hne1 : d1 ≠ i) (hne2 : d2 ≠ d1) (hT : LayOK P t (T t)) (hlay : T t = .sl e k bytes eagg ez)
    (hs : lk σ (kT s) = .t (.c (.row r))) (hi : lk σ (kT i) = .t (.c (.p (.int .i64 q)))) (hr : lk σ (kR r) = .row e k es) (hq : q = m) (hm : m ≤ es.length)
    (h : Q .normal ((kR r, .row e k (es.take m ++ List.replicate (es.length - m) ez)) :: (kT d3, .t (.c .unk)) :: (kT d2, .t (.c (.p (.int .i64 q)))) :: (kT d1, .t (.c (.row r))) :: σ)) : SemC P w0 im0 N D ro n (.region id ops false) Q σ := by
  subst hops
  rintro a w ⟨bm, rm, hrel⟩
  have hTl := hT
  rw [hlay] at hTl
  obtain ⟨hu, hsz, hag, hzo, hezl, ib, hib, hbytes⟩ := lay_sl hTl
  obtain ⟨zv, _, hzr, _, ie, hie, hiz⟩ := zeroOfB_run hzo w
  have hzl : zv.cells.toList.length = k := by have := (hzr (fun _ => True) w).len; simpa [hezl] using this
  have es1 : a.eval (.tmp s) = rm r := by
    obtain ⟨h1, _⟩ : a.eval (.tmp s) = rm r ∧ _ := hrel.slots s _ hs
    exact h1
  have hslice : ∃ A n c, rm r = .slice A n c := by
    obtain ⟨h1, h2⟩ : a.eval (.tmp s) = rm r ∧ ∃ A n c, a.eval (.tmp s) = .slice A n c := hrel.slots s _ hs
    rw [← h1]; exact h2
  have hrne : lk σ (kR r) ≠ .none := by rw [hr]; simp
  refine wpIn_region ?_
  have hrange : List.range (#[o1, o2, o3, o4] : Array Oper).size = [0, 1, 2, 3] := rfl
  rw [hrange, wpOpsIn_cons]
  refine op_run (o := o1) rfl hg1 (by rw [ho1]; simp) (v := rm r) (w' := w) (by simp [execOp, ho1, es1]) ?_
  rw [hd1]
  have r1 := hrel.put (d := d1) (u := rm r) (v := .c (.row r)) hk1 ⟨rfl, hslice⟩ (by simp [TV.boxes, CV.boxes]) (fun t' ht' => by simp only [TV.rows, CV.rows, List.mem_singleton] at ht'; subst ht'; exact hrne)
  rw [wpOpsIn_cons]
  have ei : (a.put (some d1) (rm r)).eval (.tmp i) = .int .i64 q := by
    refine r1.slots i (.c (.p (.int .i64 q))) ?_
    rw [ovr_one, if_neg (fun e => hne1 (kT_inj e))]; exact hi
  refine op_run (o := o2) rfl hg2 (by rw [ho2]; simp) (v := .int .i64 q) (w' := w) (by simp only [execOp, ho2, ei]; simp) ?_
  rw [hd2]
  have r2 := r1.put (d := d2) (u := .int .i64 q) (v := .c (.p (.int .i64 q))) hk2 rfl (by simp [TV.boxes, CV.boxes]) (by simp [TV.rows, CV.rows])
  rw [wpOpsIn_cons]
  have ex : ((a.put (some d1) (rm r)).put (some d2) (.int .i64 q)).eval (.tmp d1) = rm r := by
    obtain ⟨h1, _⟩ : ((a.put (some d1) (rm r)).put (some d2) (.int .i64 q)).eval (.tmp d1) = rm r ∧ _ := r2.slots d1 (.c (.row r)) (by
      rw [ovr_one, if_neg (fun e => hne2 (kT_inj e)), ovr_one, if_pos rfl])
    exact h1
  have ey : ((a.put (some d1) (rm r)).put (some d2) (.int .i64 q)).eval (.tmp d2) = .int .i64 q := r2.slots d2 (.c (.p (.int .i64 q))) (by rw [ovr_one, if_pos rfl])
  obtain ⟨xs, hown, hl, hkk⟩ := r2.rows r e k es (by
    rw [ovr_one, if_neg (kT_ne_kR _ _), ovr_one, if_neg (kT_ne_kR _ _)]; exact hr)
  generalize (a.put (some d1) (rm r)).put (some d2) (.int .i64 q) = a2 at *
  have hs2 := sizeB_run hsz w
  obtain ⟨A, nn, cap, hv, hnn, hnc, hcm⟩ : ∃ A nn cap, rm r = .slice A nn cap ∧ nn = es.length ∧ nn ≤ cap ∧ cap ≤ maxLen := by
    rcases hown.2 with ⟨hv, h0⟩ | ⟨g, cap, cur, hv, _, _, hcap, hmx, _, _⟩
    · exact ⟨_, _, _, hv, h0.symm, by simp, by simp⟩
    · exact ⟨_, _, _, hv, rfl, hcap, hmx⟩
  subst hnn
  have hsb := bounds_run (P := P) (w := w) (n := es.length) (c := cap) (i := q) (j := es.length) (some (a2.eval (.tmp d2))) none (by simpa using ey) rfl (by omega) (by omega) (by omega) hnc
  have hqm : q.toNat = m := by omega
  have hun := okS_lt hk3
  refine op_run (o := o3) rfl hg3 (by rw [ho3]; simp) (v := .slice (if cap = m then A else A.map (·.add (m * k))) (es.length - m) (cap - m)) (w' := w) (by
    simp only [execOp, ho3, ex, hv, Instr.sliceAt, Sem.run_bind, run_underlying hu w, Result.andThen_ok, Instr.slice, Option.map_none, Option.map_some, hsb, hs2, Sem.run_pure, hqm]
    simp) ?_
  rw [hd3]
  have r3 := r2.put (d := d3) (u := .slice (if cap = m then A else A.map (·.add (m * k))) (es.length - m) (cap - m)) (v := .c .unk) hk3 trivial (by simp [TV.boxes, CV.boxes]) (by simp [TV.rows, CV.rows])
  rw [wpOpsIn_cons]
  have ez3 : (a2.put (some d3) (.slice (if cap = m then A else A.map (·.add (m * k))) (es.length - m) (cap - m))).eval (.tmp d3) = .slice (if cap = m then A else A.map (·.add (m * k))) (es.length - m) (cap - m) := by
    have hlt : d3 < a2.tmps.size := by rw [r2.size]; exact hun
    simp [Act.put, Act.eval, Array.getD_eq_getD_getElem?, hlt]
  obtain ⟨cs9, hrun⟩ := run_builtin (P := P) (w := w) (a := a2.put (some d3) (.slice (if cap = m then A else A.map (·.add (m * k))) (es.length - m) (cap - m))) .clear _ _ ho4
  have fin : ∀ (w' : World), (Builtin.clear_ #[t] o4.type #[.slice (if cap = m then A else A.map (·.add (m * k))) (es.length - m) (cap - m)]).run P w = .ok (.tuple #[]) w' →
      RelAt w0 im0 N D bm rm (lk ((kR r, .row e k (es.take m ++ List.replicate (es.length - m) ez)) :: (kT d3, .t (.c .unk)) :: (kT d2, .t (.c (.p (.int .i64 q)))) :: (kT d1, .t (.c (.row r))) :: σ)) (a2.put (some d3) (.slice (if cap = m then A else A.map (·.add (m * k))) (es.length - m) (cap - m))) w' →
      wpOpIn (FW ro) n P #[o1, o2, o3, o4] (fun e a w => ∃ σ', Q e σ' ∧ Rel w0 im0 N D (lk σ') a w) 3 (fun a' w' => wpOpsIn (FW ro) n P #[o1, o2, o3, o4] (fun e a w => ∃ σ', Q e σ' ∧ Rel w0 im0 N D (lk σ') a w) [] a' w') (a2.put (some d3) (.slice (if cap = m then A else A.map (·.add (m * k))) (es.length - m) (cap - m))) w := fun w' hc hR => by
    refine op_run (o := o4) rfl hg4 (by rw [ho4]; simp) (v := .tuple #[]) (w' := w') (by
      rw [hrun]
      simp only [builtin, List.map_toArray, List.map_cons, List.map_nil, ez3, Sem.run_bind, hc, Result.andThen_ok, Sem.run_pure]) ?_
    rw [hd4]
    exact ⟨_, h, bm, rm, hR⟩
  have hlk : lk ((kR r, .row e k (es.take m ++ List.replicate (es.length - m) ez)) :: (kT d3, .t (.c .unk)) :: (kT d2, .t (.c (.p (.int .i64 q)))) :: (kT d1, .t (.c (.row r))) :: σ) =
      ovr [(kR r, .row e k (es.take m ++ List.replicate (es.length - m) ez))] (ovr [(kT d3, .t (.c .unk))] (ovr [(kT d2, .t (.c (.p (.int .i64 q))))] (ovr [(kT d1, .t (.c (.row r)))] (lk σ)))) := by rw [lk_cons, lk_cons, lk_cons, lk_cons]
  have hrow3 : ovr [(kT d3, .t (.c .unk))] (ovr [(kT d2, .t (.c (.p (.int .i64 q))))] (ovr [(kT d1, .t (.c (.row r)))] (lk σ))) (kR r) = .row e k es := by
    rw [ovr_one, if_neg (kT_ne_kR _ _), ovr_one, if_neg (kT_ne_kR _ _), ovr_one, if_neg (kT_ne_kR _ _)]; exact hr
  have himeq : imOf w0.heap.size im0 bm rm (ovr [(kT d3, .t (.c .unk))] (ovr [(kT d2, .t (.c (.p (.int .i64 q))))] (ovr [(kT d1, .t (.c (.row r)))] (lk σ)))) w = imOf w0.heap.size im0 bm rm (ovr [(kT d2, .t (.c (.p (.int .i64 q))))] (ovr [(kT d1, .t (.c (.row r)))] (lk σ))) w :=
    imOf_congr (fun q => by rw [ovr_one, if_neg (kT_ne_kB _ _)]) (fun q => by rw [ovr_one, if_neg (kT_ne_kR _ _)])
  by_cases hfull : es.length = m
  · have e0 : es.take m ++ List.replicate (es.length - m) ez = es := by rw [hfull]; simp [← hfull]
    refine fin w (by
      rw [show es.length - m = 0 by omega]
      cases hA : (if cap = m then A else A.map (·.add (m * k))) <;> simp [Builtin.clear_, run_underlying hu]) ?_
    rw [hlk, e0]
    have := r3.setRow (d := r) (es' := es) (w' := w) (xs := xs) hrow3 ⟨rfl, rfl, rfl, Nat.le_refl _, fun _ _ _ => rfl⟩ (Nat.le_refl _) hown (by rw [himeq]; exact hl) hkk
    exact this
  · rcases hown.2 with ⟨_, h0⟩ | ⟨g, cap', cur, hv', hbg, hgg, hcap, hmx, hcs, hcur⟩
    · omega
    rw [hv] at hv'
    cases hv'
    have hcm2 : ¬ (cap = m) := by omega
    have ezl : ∀ l : List Value, (List.replicate (es.length - m) l).flatten.length = (es.length - m) * l.length := fun l => by simp [List.length_flatten, List.sum_replicate_nat]
    obtain ⟨zs, hzs⟩ : ∃ zs, zs = (List.replicate (es.length - m) zv.cells.toList).flatten := ⟨_, rfl⟩
    have hzsl : zs.length = (es.length - m) * k := by rw [hzs, ezl, hzl]
    have hz1 : ∀ u ∈ zs, u.oneCell' = true := fun u hu => by
      rw [hzs] at hu
      obtain ⟨y, hy, hu⟩ := List.mem_flatten.1 hu
      rw [List.eq_of_mem_replicate hy] at hu
      have := (zeroOfB_run hzo w)
      obtain ⟨zv', _, _, h1c, ie', hie', hiz'⟩ := this
      rw [hie] at hie'; cases hie'
      rw [hiz] at hiz'; cases hiz'
      exact h1c u hu
    have hlen7 : m * k + (es.length - m) * k = es.length * k := by rw [← Nat.add_mul]; congr 1; omega
    have hcapk : es.length * k ≤ cap * k := Nat.mul_le_mul_right _ hcap
    have hst := run_storeCells_at P g (m * k) e zs 0 cur w hgg (by rw [hzsl, hcs]; omega) hz1
    rw [Nat.add_zero] at hst
    obtain ⟨A1, hA1⟩ : ∃ A1 : Array Value, A1 = (cur.toList.take (m * k) ++ zs ++ cur.toList.drop (m * k + zs.length)).toArray := ⟨_, rfl⟩
    rw [← hA1] at hst
    have hzc : (Builtin.zeroCells zv.cells (es.length - m)).toList = zs := by rw [hzs, ← zero_flat]
    have hadd : (Addr.mk g 0 none).add (m * k) = ⟨g, m * k, none⟩ := by rw [Addr.add_lit, Nat.zero_add]
    have hclr : (Builtin.clear_ #[t] o4.type #[.slice (if cap = m then some ⟨g, 0, none⟩ else (some (Addr.mk g 0 none)).map (·.add (m * k))) (es.length - m) (cap - m)]).run P w = .ok (.tuple #[]) (w.setRow g A1) := by
      rw [if_neg hcm2, Option.map_some, hadd]
      have hne0 : ¬ (es.length - m = 0) := by omega
      obtain ⟨p9, hp9⟩ : ∃ p9, es.length - m = p9 + 1 := ⟨es.length - m - 1, by omega⟩
      have hzc' := hzc
      rw [hp9] at hzc' ⊢
      simp [Builtin.clear_, run_underlying hu, zeroValue, typeInfo, hie, hiz, hzc', hst]
    have hA1l : A1.size = cap * k := by
      rw [hA1]
      simp only [List.size_toArray, List.length_append, List.length_take, List.length_drop, Array.length_toList, hzsl, hcs]
      omega
    have hg1 : (w.setRow g A1).heap[g]? = some (.cells A1 e (0, 0)) := setRow_heap w g cur A1 _ _ hgg
    have hPut := setRow_other w g
    refine fin (w.setRow g A1) hclr ?_
    rw [hlk]
    have hxt : xs.take (m * k) = cur.toList.take (m * k) := by rw [← hcur, List.take_take, Nat.min_eq_left (by omega)]
    have hlen' : (es.take m ++ List.replicate (es.length - m) ez).length = es.length := by rw [List.length_append, List.length_take, List.length_replicate]; omega
    have hfl : (es.take m).flatten.length = m * k := by
      have : ∀ (l : List (List PV)), (∀ y ∈ l, y.length = k) → l.flatten.length = l.length * k := fun l => by
        induction l with
        | nil => simp
        | cons z l ih => intro hz; rw [List.flatten_cons, List.length_append, hz z (by simp), ih fun y hy => hz y (by simp [hy]), List.length_cons, Nat.add_mul]; omega
      rw [this _ (fun y hy => hkk.1 y (List.mem_of_mem_take hy)), List.length_take, Nat.min_eq_left (by omega)]
    have hsetg : w.grownBy (w.setRow g A1) (rm r).ownBlock := by
      rw [hv]
      refine ⟨rfl, rfl, rfl, by simp [World.setRow], fun b hb hbn => hPut b A1 (fun e => hbn (by rw [e]; rfl))⟩
    have := r3.setRow (d := r) (es' := es.take m ++ List.replicate (es.length - m) ez) (w' := w.setRow g A1) (xs := xs.take (m * k) ++ zs) hrow3 hsetg hsetg.size ?_ ?_ ?_
    · exact this
    · rw [hv, hlen']
      refine ⟨by rw [List.length_append, List.length_take, hown.1, hzsl]; omega, .inr ⟨g, cap, A1, rfl, hbg, hg1, hcap, hmx, hA1l, ?_⟩⟩
      rw [hA1, hxt]
      simp only [List.toList_toArray]
      have : (cur.toList.take (m * k) ++ zs).length = es.length * k := by rw [List.length_append, List.length_take, Array.length_toList, hcs, hzsl]; omega
      rw [← this, List.take_left]
    · rw [himeq, List.flatten_append]
      refine RepL.append ?_ ?_
      · have ht := hl.take (m * k)
        have : es.flatten.take (m * k) = (es.take m).flatten := by
          have e1 : es.flatten = (es.take m).flatten ++ (es.drop m).flatten := by rw [← List.flatten_append, List.take_append_drop]
          rw [e1, ← hfl, List.take_left]
        rw [this] at ht
        exact ht
      · rw [hzs]
        have : ∀ j, RepL (imOf w0.heap.size im0 bm rm (ovr [(kT d2, .t (.c (.p (.int .i64 q))))] (ovr [(kT d1, .t (.c (.row r)))] (lk σ))) w) w (List.replicate j ez).flatten (List.replicate j zv.cells.toList).flatten := fun j => by
          induction j with
          | zero => simp [RepL]
          | succ j ih => simp only [List.replicate_succ, List.flatten_cons]; exact (hzr _ _).append ih
        exact this _
    · refine ⟨fun y hy => ?_, fun u hu => ?_⟩
      · rcases List.mem_append.1 hy with hy | hy
        · exact hkk.1 y (List.mem_of_mem_take hy)
        · rw [List.eq_of_mem_replicate hy]; exact hezl
      · rcases List.mem_append.1 hu with hu | hu
        · exact hkk.2 u (List.mem_of_mem_take hu)
        · exact hz1 u hu
end
set_option maxRecDepth 100000
set_option maxHeartbeats 2000000
def cmpI (x y : Int) : Int := if x < y then -1 else if x > y then 1 else 0
theorem isNaN_does (x : Int) : Does Tryz.prog 117 [.int .i64 x] (.bool false) := by
  refine does_of (own := inPl) Tryz.func117 rfl Tryz.ntmps117 (congrArg Array.toList Tryz.results117) (fun us w => Tryz.call117 us w) hTT mixed (Nat.le_of_ble_eq_true rfl) ?_
  intro w0 im0 D0 S Cl hS hC ar har
  have har' := har
  obtain ⟨ai, ab, nz, inr, fi, pk, ix, ln, sb, eqi, sl, fits, mn, mx, nt, be, up, fu, mg, mh, ms⟩ := ar
  have F := facts_of har
  clear har
  have h : ab .neq x x = false := by rw [F.neq]; simp
  cbv
  rw [h]
  exact PLe.refl _
theorem compare_does (x y : Int) : Does Tryz.prog 63 [.int .i64 x, .int .i64 y] (.int .i64 (cmpI x y)) := by
  obtain ⟨V, hV⟩ : ∃ V, PV.int .i64 (cmpI x y) = V := ⟨_, rfl⟩
  rw [hV]
  unfold cmpI at hV
  have hx := isNaN_does x
  have hy := isNaN_does y
  refine does_of (own := inPl) Tryz.func63 rfl Tryz.ntmps63 (congrArg Array.toList Tryz.results63) (fun us w => Tryz.call63 us w) hTT mixed (Nat.le_of_ble_eq_true rfl) ?_
  intro w0 im0 D0 S Cl hS hC ar har
  have har' := har
  obtain ⟨ai, ab, nz, inr, fi, pk, ix, ln, sb, eqi, sl, fits, mn, mx, nt, be, up, fu, mg, mh, ms⟩ := ar
  have F := facts_of har
  clear har
  cbv
  refine ⟨_, hC _ _ _ hx, ?_⟩; cbv
  refine ⟨_, hC _ _ _ hy, ?_⟩; cbv
  cases c0 : ab .lss x y
  · rw [F.lss] at c0
    rw [if_neg (of_decide_eq_false c0)] at hV
    cbv
    cases c1 : ab .gtr x y
    · rw [F.gtr] at c1
      rw [if_neg (of_decide_eq_false c1)] at hV
      cbv
      rw [← hV]; exact PLe.refl _
    · rw [F.gtr] at c1
      rw [if_pos (of_decide_eq_true c1)] at hV
      cbv
      rw [← hV]; exact PLe.refl _
  · rw [F.lss] at c0
    rw [if_pos (of_decide_eq_true c0)] at hV
    cbv
    rw [← hV]; exact PLe.refl _
theorem noted1_does {a b : List Int} (ha : a.length = 7) (hb : b.length = 7) : Does Tryz.prog 62 [.agg (rowP a), .agg (rowP b)] (.int .i64 (cmpI (a.getD 0 0) (b.getD 0 0))) := by
  obtain ⟨a0, a1, a2, a3, a4, a5, a6, rfl⟩ := list7P ha
  obtain ⟨b0, b1, b2, b3, b4, b5, b6, rfl⟩ := list7P hb
  simp only [List.getD_cons_zero]
  have h := compare_does a0 b0
  generalize cmpI a0 b0 = c at *
  refine does_of (own := inPl) Tryz.func62 rfl Tryz.ntmps62 (congrArg Array.toList Tryz.results62) (fun us w => Tryz.call62 us w) hTT mixed (Nat.le_of_ble_eq_true rfl) ?_
  intro w0 im0 D0 S Cl hS hC ar har
  have har' := har
  obtain ⟨ai, ab, nz, inr, fi, pk, ix, ln, sb, eqi, sl, fits, mn, mx, nt, be, up, fu, mg, mh, ms⟩ := ar
  have F := facts_of har
  clear har
  cbv
  refine ⟨_, hC _ _ _ h, ?_⟩; cbv
  exact PLe.refl _
def pstE (T H N : List (List Int)) (D : List Int) : Int := if accOk T H N = true then (if daysOk D = true then 0 else 66) else 63
theorem daysOk_in {D : List Int} (h : daysOk D = true) : D.length ≤ 12 ∧ ∀ d ∈ D, 0 ≤ d ∧ d ≤ 100000 := by
  unfold daysOk dyK at h
  simp only [Bool.and_eq_true, decide_eq_true_eq, List.all_eq_true] at h
  refine ⟨h.1, fun d hd => ?_⟩
  obtain ⟨k, hk, rfl⟩ := List.mem_iff_getElem.1 hd
  have := h.2 k (List.mem_range.2 hk)
  rw [dyAt_eq hk, Bool.and_eq_true] at this
  exact inB_iff.1 this.1
theorem pstE_days {T H N : List (List Int)} {D : List Int} (h : pstE T H N D = 0) : accOk T H N = true ∧ daysOk D = true := by
  unfold pstE at h
  split at h
  · split at h
    · exact ⟨‹_›, ‹_›⟩
    · omega
  · omega
end Go.Proofs.YtjimjdhdnkhfnaaGreat
