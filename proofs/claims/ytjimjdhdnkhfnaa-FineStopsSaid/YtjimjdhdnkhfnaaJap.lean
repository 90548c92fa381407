/- Contracts of functions of the program and of the reference, a calculus of states, and plain facts: a part of a proof. Own text. -/
import Derived.Test.YtjimjdhdnkhfnaaJan
import Derived.Test.YtjimjdhdnkhfnaaJao
import Derived.Lib.SliceRun
import Derived.Lib.AppendZeros
set_option linter.unusedVariables false
set_option linter.unusedSimpArgs false
set_option linter.unusedSectionVars false
set_option linter.unnecessarySimpa false
namespace Go.Proofs.Ytjimjdhdnkhfnaa
open Go Go.RowKit
set_option maxRecDepth 100000
set_option maxHeartbeats 2000000
def payN (T N : List (List Int)) (h : List Int) (d : Int) : Int × Int := payQ T h d (lotN T N h d)
theorem dueN_pay {T N : List (List Int)} {h : List Int} {d : Int} (hd : 0 ≤ d ∧ d ≤ 100000) : dueN T N h d = dueP T h (payN T N h d).1 (payN T N h d).2 := (dueQ_eq hd).symm
theorem dueP_sum (T : List (List Int)) (h : List Int) (p s : Int) : (dueP T h p s).getD 0 0 = p ∧ (dueP T h p s).getD 3 0 + (dueP T h p s).getD 1 0 + (dueP T h p s).getD 2 0 = s := by
  unfold dueP
  refine ⟨rfl, ?_⟩
  simp only [List.getD_cons_succ, List.getD_cons_zero]
  omega
theorem Good.payIn {T N : List (List Int)} {h : List Int} {d : Int} (g : Good T N h d) (h1 : ∀ x ∈ T, x.length = 24) : 0 ≤ (payN T N h d).2 ∧ (payN T N h d).2 ≤ 1500000000000 := by
  obtain ⟨a, b, c⟩ := dueN_in (N := N) h1 g.tar g.held g.day
  rw [dueN_pay g.day] at a b c
  have := (dueP_sum T h (payN T N h d).1 (payN T N h d).2).2
  omega
theorem Good.pay {T N : List (List Int)} {h : List Int} {d : Int} (g : Good T N h d) (h1 : ∀ x ∈ T, x.length = 24) (h3 : ∀ x ∈ N, x.length = 7) :
    Does Try.prog 33 [.agg (tolC h T N d)] (.tup [.int .i64 (payN T N h d).1, .int .i64 (payN T N h d).2]) := by
  have hday := lotN_day T N h d
  have := g.day
  have hl := lasN_in T N h g.day
  have hc := chgN_in (N := N) h1 g.tar g.held g.day
  exact payment_does (T := T) h1 (fun x hx => h3 x (List.mem_filter.1 hx).1) g.tar g.len g.held rfl (lotN_stop h1 g.tar g.note g.held g.day) (by omega) (by omega) (lotN_own g.note h d) (by rw [chgQ_eq g.day]; unfold chIn; omega)
theorem good_in {T H N : List (List Int)} (h2 : ∀ x ∈ H, x.length = 9) {d : Int} (h : askE T H N d = 0) {x : List Int} (hx : x ∈ H) : Good T N x d := by
  obtain ⟨a, b⟩ := askE_ok h
  exact ⟨h2 _ hx, accOk_H a _ hx, accOk_T a, accOk_N a, b, (accOk_len a).2.2⟩
def sumF (f : List Int → Int) (L : List (List Int)) : Int := (L.map f).sum
theorem sumF_take {f : List Int → Int} {L : List (List Int)} {k : Nat} (h : k < L.length) : sumF f (L.take (k + 1)) = sumF f (L.take k) + f L[k] := by
  unfold sumF; rw [take_last h, List.map_append, List.sum_append]; show _ + (f L[k] + 0) = _; omega
theorem sumF_in {f : List Int → Int} {b : Int} : ∀ {L : List (List Int)}, (∀ x ∈ L, 0 ≤ f x ∧ f x ≤ b) → 0 ≤ sumF f L ∧ sumF f L ≤ b * L.length
  | [], _ => by simp [sumF]
  | x :: L, h => by
    have h1 := h x (by simp)
    have h2 := sumF_in (L := L) fun y hy => h y (by simp [hy])
    unfold sumF at h2 ⊢
    simp only [List.map_cons, List.sum_cons, List.length_cons]
    rw [show ((L.length + 1 : Nat) : Int) = (L.length : Int) + 1 by omega, Int.mul_add]
    omega
def oweF (T N : List (List Int)) (o d : Int) (h : List Int) : Int := if (payN T N h d).1 == 2 + o then (payN T N h d).2 else 0
theorem owe_eq {T H N : List (List Int)} {o d : Int} (hq : askE T H N d = 0) : sumL (oweD T H N o d) (stsN T H N d) = sumF (oweF T N o d) (H.filter (cntH d)) := by
  unfold sumL stsN srcsN sumF
  rw [if_pos hq, List.map_map]
  congr 1
  refine List.map_congr_left fun x hx => ?_
  obtain ⟨hm, hc⟩ := List.mem_filter.1 hx
  have e := sta_of (N := N) hq hm hc
  simp only [Function.comp, oweD, dueR, e, stR, if_true, oweF]
  rw [dueN_pay (askE_ok hq).2, (dueP_sum ..).1, (dueP_sum ..).2]
theorem pOwed_does {T H N : List (List Int)} (h1 : ∀ x ∈ T, x.length = 24) (h2 : ∀ x ∈ H, x.length = 9) (h3 : ∀ x ∈ N, x.length = 7) (o d : Int) :
    Does Try.prog 14 [accP T H N, .int .i64 o, .int .i64 d] (.tup [.int .i64 (oweN T H N o d), .int .i64 (thrE T H N (inB o 1 99) d)]) := by
  have hCk := pcheck_does h1 h2 h3
  have hDy := checkDay_does d
  have hWy := checkOwner_does o
  have hOr := orE_does [err (accOk T H N) 63, err (inB o 1 99) 1, err (inB d 0 100000) 6]
  rw [orE3] at hOr
  have hall := fun (h : thrE T H N (inB o 1 99) d = 0) => tellAll_does h1 h2 h3 (thrE_ok h).1
  have he : thrE T H N (inB o 1 99) d = 0 → oweN T H N o d = sumF (oweF T N o d) (H.filter (cntH d)) := fun h => by
    unfold oweN; rw [if_pos h, owe_eq (thrE_ok h).1]
  have hne : thrE T H N (inB o 1 99) d ≠ 0 → oweN T H N o d = 0 := fun h => by unfold oweN; rw [if_neg h]
  have hpo := fun (h : thrE T H N (inB o 1 99) d = 0) => partyOf_does o (by have := inB_iff.1 (thrE_ok h).2; omega) (by have := inB_iff.1 (thrE_ok h).2; omega)
  have hgd : thrE T H N (inB o 1 99) d = 0 → ∀ x ∈ H.filter (cntH d), Good T N x d := fun h x hx => good_in h2 (thrE_ok h).1 (List.mem_filter.1 hx).1
  have hHl : thrE T H N (inB o 1 99) d = 0 → (H.filter (cntH d)).length ≤ 60 := fun h => by
    have := (accOk_len (askE_ok (thrE_ok h).1).1).2.1
    have := tolL_len T H N d
    omega
  unfold tolL at hall
  obtain ⟨V, hV⟩ : ∃ V, PV.tup [.int .i64 (oweN T H N o d), .int .i64 (thrE T H N (inB o 1 99) d)] = V := ⟨_, rfl⟩
  rw [hV]
  generalize err (accOk T H N) 63 = e1 at *
  generalize err (inB d 0 100000) 6 = e2 at *
  generalize err (inB o 1 99) 1 = e3 at *
  generalize thrE T H N (inB o 1 99) d = q at *
  generalize H.filter (cntH d) = Hs at *
  obtain ⟨eL, hEL⟩ : ∃ es, Hs.map (fun h => tolC h T N d) = es := ⟨_, rfl⟩
  generalize oweN T H N o d = res at *
  obtain ⟨eT, hT1⟩ : ∃ es, T.map rowP = es := ⟨_, rfl⟩
  obtain ⟨eH, hH1⟩ : ∃ es, H.map rowP = es := ⟨_, rfl⟩
  obtain ⟨eN, hN1⟩ : ∃ es, N.map rowP = es := ⟨_, rfl⟩
  obtain ⟨tw, htw⟩ : ∃ t, 2 + o = t := ⟨_, rfl⟩
  simp only [accP, hT1, hH1, hN1, hEL, htw] at hCk hall hpo ⊢
  refine does_of (own := inPl) Try.func14 rfl Try.ntmps14 (congrArg Array.toList Try.results14) (fun us w => Try.call14 us w) hTT mixed (Nat.le_of_ble_eq_true rfl) ?_
  intro w0 im0 D0 S Cl hS hC ar har
  have har' := har
  obtain ⟨ai, ab, nz, inr, fi, pk, ix, ln, sb, eqi, sl, fits, mn, mx, nt, be, up, fu, mg, mh, ms⟩ := ar
  have F := facts_of har
  clear har
  cbv
  refine ⟨_, hC _ _ _ hCk, ?_⟩; cbv
  refine ⟨_, hC _ _ _ hWy, ?_⟩; cbv
  refine ⟨_, hC _ _ _ hDy, ?_⟩; cbv
  refine ⟨_, hC _ _ _ hOr, ?_⟩; cbv
  by_cases h0 : q = 0
  · have c0 : ab .neq q 0 = false := by rw [F.neq, h0]; rfl
    have hpo := hpo h0
    have hgd := hgd h0
    have hHl := hHl h0
    have hVe : V = .tup [.int .i64 (sumF (oweF T N o d) Hs), .int .i64 0] := by rw [← hV, he h0, h0]
    have hoin : ∀ x ∈ Hs, 0 ≤ oweF T N o d x ∧ oweF T N o d x ≤ 1500000000000 := fun x hx => by
      have := (hgd x hx).payIn h1
      unfold oweF; split <;> omega
    have hsin : ∀ k, k ≤ Hs.length → 0 ≤ sumF (oweF T N o d) (Hs.take k) ∧ sumF (oweF T N o d) (Hs.take k) ≤ 100000000000000 := fun k hk => by
      have := sumF_in (L := Hs.take k) fun x hx => hoin x (List.take_subset _ _ hx)
      simp only [List.length_take] at this
      omega
    have hoi : ∀ k (hk : k < Hs.length), 0 ≤ oweF T N o d Hs[k] ∧ oweF T N o d Hs[k] ≤ 1500000000000 := fun k hk => hoin _ (List.getElem_mem hk)
    have hsn : ∀ k (hk : k < Hs.length), sumF (oweF T N o d) (Hs.take (k + 1)) = sumF (oweF T N o d) (Hs.take k) + oweF T N o d Hs[k] := fun k hk => sumF_take hk
    have hs0 : sumF (oweF T N o d) (Hs.take 0) = 0 := rfl
    have hsl : sumF (oweF T N o d) (Hs.take Hs.length) = sumF (oweF T N o d) Hs := by rw [List.take_length]
    have hoD : ∀ x, oweF T N o d x = if (payN T N x d).1 == tw then (payN T N x d).2 else 0 := fun x => by rw [← htw]; rfl
    rw [← hsl] at hVe
    obtain ⟨fo, hfo⟩ : ∃ f, oweF T N o d = f := ⟨_, rfl⟩
    simp only [hfo] at hVe hsin hoi hsn hs0 hoD
    obtain ⟨sk, hsk⟩ : ∃ s : Nat → Int, (fun k => sumF fo (Hs.take k)) = s := ⟨_, rfl⟩
    have hskd : ∀ k, sumF fo (Hs.take k) = sk k := fun k => by rw [← hsk]
    simp only [hskd] at hVe hsin hsn hs0
    clear hskd hsk hfo hoin hsl he hne hV
    rw [c0]; cbv
    refine ⟨_, hC _ _ _ (hall h0), ?_⟩; cbv
    refine hS _ _ _ (sem_loop (fun x : Nat × Int × Int => [sI 1 o, sI 9 x.2.2, sL 27 16 eL, sI 28 (ln eL), sI 29 x.2.1]) (fun x => x.1 ≤ Hs.length ∧ x.2.1 = (x.1 : Int) ∧ x.2.2 = sk x.1) (fun x => Hs.length - x.1) (fun t => t) (0, 0, 0) (fun t => t) ⟨by rfl, by cbv; try (repeat (first | exact rfl | exact trivial | refine ⟨?_, ?_⟩))⟩ ?_ ?_)
    · exact ⟨by simp, rfl, hs0.symm⟩
    rintro ⟨k, i, s⟩ ⟨hk, hi, hs⟩
    dsimp only at hk hi hs
    have hadd : ai .add i 1 = ((k + 1 : Nat) : Int) := by rw [F.add i 1 (by omega) (by omega), hi]; simp
    have hlen : ln eL = Hs.length := by rw [F.ln, ← hEL]; simp
    refine sem_of (X := ⟨_, TT, ⟨0, 47, inPl⟩⟩) har' hTT mixed ?_
    intro S1 Cl1 hS1 hC1
    cbv
    by_cases hlt : k < Hs.length
    · have hb : ab .lss i (ln eL) = true := by rw [hlen, F.lss, hi]; simpa using hlt
      have hg : ix eL i = some (tolC Hs[k] T N d) := by rw [F.ix _ i k hi, ← hEL]; simp [hlt]
      have gk := hgd _ (List.getElem_mem hlt)
      have hpk := gk.pay h1 h3
      have hnx := hsn k hlt
      have ho := hoi k hlt
      have hsi := hsin k hk
      rw [hoD] at hnx ho
      generalize Hs[k] = x at *
      have gl := gk.len
      clear gk hgd hoi hsn hoD
      obtain ⟨⟨py, pd⟩, hpp⟩ : ∃ p, payN T N x d = p := ⟨_, rfl⟩
      rw [hpp] at hpk hnx ho
      dsimp only at hpk hnx ho
      obtain ⟨x0, x1, x2, x3, x4, x5, x6, x7, x8, rfl⟩ := list9 gl
      obtain ⟨l0, l1, l2, l3, hlo⟩ : ∃ l0 l1 l2 l3, lotN T N [x0, x1, x2, x3, x4, x5, x6, x7, x8] d = [l0, l1, l2, l3] := ⟨_, _, _, _, rfl⟩
      obtain ⟨eS, hS1⟩ : ∃ es, (sayL N [x0, x1, x2, x3, x4, x5, x6, x7, x8] d).map rowP = es := ⟨_, rfl⟩
      simp only [tolC, hlo, hT1, hS1] at hg hpk
      have hno : ab .eql py tw = false → s = sk (k + 1) := fun h => by
        rw [F.eql] at h; rw [hnx, if_neg (by simpa using h), hs]; omega
      have hyes : ab .eql py tw = true → ai .add s pd = sk (k + 1) := fun h => by
        rw [F.eql] at h
        rw [if_pos (by simpa using h)] at hnx ho
        rw [F.add s pd (by omega) (by omega), hnx, hs]
      rw [hb]; cbv
      repeat (rw [hg]; cbv)
      refine ⟨_, hC1 _ _ _ hpk, ?_⟩; cbv
      refine ⟨_, hC1 _ _ _ hpo, ?_⟩; cbv
      cases c1 : ab .eql py tw
      · cbv
        exact ⟨(k + 1, ai .add i 1, s), ⟨hlt, hadd, hno c1⟩, by dsimp only; omega, ⟨by rfl, by cbv; try (repeat (first | exact rfl | exact trivial | refine ⟨?_, ?_⟩))⟩⟩
      · cbv
        exact ⟨(k + 1, ai .add i 1, ai .add s pd), ⟨hlt, hadd, hyes c1⟩, by dsimp only; omega, ⟨by rfl, by cbv; try (repeat (first | exact rfl | exact trivial | refine ⟨?_, ?_⟩))⟩⟩
    · have hb : ab .lss i (ln eL) = false := by rw [hlen, F.lss, hi]; simpa using hlt
      have hkE : k = Hs.length := by omega
      rw [hb]; cbv
      rw [hVe, hs, hkE]
      exact PLe.refl _
  · have c0 : ab .neq q 0 = true := by rw [F.neq]; simpa using h0
    rw [c0]; cbv
    rw [← hV, hne h0]
    exact PLe.refl _
theorem eqPs_rows : ∀ (a b : List Int), eqPs (rowP a) (rowP b) = (a == b)
  | [], [] => rfl
  | [], _ :: _ => rfl
  | _ :: _, [] => rfl
  | a :: a1, b :: b1 => by
    have := eqPs_rows a1 b1
    unfold rowP at this ⊢
    simp only [List.map_cons, eqPs, eqS, this]
    rfl
theorem mFind_new {kn : Nat} {key : List PV} : ∀ {es : List (List PV)}, (∀ e ∈ es, eqPs key (e.take kn) = false) → mFind kn key es = none
  | [], _ => rfl
  | e :: es, h => by
    unfold mFind
    rw [if_neg (by simp [h e (by simp)]), mFind_new fun x hx => h x (by simp [hx])]
    rfl
theorem mSet_new {kn : Nat} {key : List Int} {E : List (List Int)} {v : List PV} (h : ∀ e ∈ E, e.take kn ≠ key) : mSet kn (E.map rowP) (rowP key) v = E.map rowP ++ [rowP key ++ v] := by
  unfold mSet
  rw [mFind_new fun e he => ?_]
  obtain ⟨x, hx, rfl⟩ := List.mem_map.1 he
  rw [show (rowP x).take kn = rowP (x.take kn) by unfold rowP; rw [List.map_take], eqPs_rows]
  simpa using fun hh => h x hx hh.symm
def rcvL (h : List Int) : List Int := if h.getD 5 0 = 0 then [0, 1] else [0, 1, 2 + h.getD 5 0]
theorem receivers_does {h : List Int} (hh : h.length = 9) (hd : 0 ≤ h.getD 5 0 ∧ h.getD 5 0 ≤ 99) : Does Try.prog 62 [.agg (rowP h)] (.list 1 (numP (rcvL h))) := by
  have hp := partyOf_does (h.getD 5 0) hd.1 (by omega)
  obtain ⟨V, hV⟩ : ∃ V, PV.list 1 (numP (rcvL h)) = V := ⟨_, rfl⟩
  rw [hV]
  unfold rcvL at hV
  obtain ⟨x0, x1, x2, x3, x4, x5, x6, x7, x8, rfl⟩ := list9 hh
  simp only [List.getD_cons_succ, List.getD_cons_zero] at hp hV
  obtain ⟨t, ht⟩ : ∃ t, 2 + x5 = t := ⟨_, rfl⟩
  rw [ht] at hp hV
  refine does_of (own := inPl) Try.func62 rfl Try.ntmps62 (congrArg Array.toList Try.results62) (fun us w => Try.call62 us w) hTT mixed (Nat.le_of_ble_eq_true rfl) ?_
  intro w0 im0 D0 S Cl hS hC ar har
  have har' := har
  obtain ⟨ai, ab, nz, inr, fi, pk, ix, ln, sb, eqi, sl, fits, mn, mx, nt, be, up, fu, mg, mh, ms⟩ := ar
  have F := facts_of har
  clear har
  cbv
  cases c0 : ab .eql x5 0
  · cbv
    refine ⟨_, hC _ _ _ hp, ?_⟩; cbv
    rw [F.eql] at c0
    rw [if_neg (by simpa using c0)] at hV
    rw [← hV]; exact PLe.refl _
  · cbv
    rw [F.eql] at c0
    rw [if_pos (by simpa using c0)] at hV
    rw [← hV]; exact PLe.refl _
theorem ids_lt {ok : List Int → Bool} {m : Nat} {H : List (List Int)} (h : lsOk ok m H = true) (p : List Int → Bool) : ∀ i j (hi : i < (H.filter p).length) (hj : j < (H.filter p).length), i < j → ((H.filter p)[i]).getD 0 0 < ((H.filter p)[j]).getD 0 0 := by
  have h1 : H.Pairwise (fun a b => a.getD 0 0 < b.getD 0 0) := by
    rw [List.pairwise_iff_getElem]
    intro i j hi hj hij
    have := ls_srt h i j hij hj
    rwa [show H.getD i [] = H[i] by simp [List.getD, hi], show H.getD j [] = H[j] by simp [List.getD, hj]] at this
  have h2 := h1.filter p
  rw [List.pairwise_iff_getElem] at h2
  exact fun i j hi hj hij => h2 i j hi hj hij
def amtE (T N : List (List Int)) (d : Int) (h : List Int) : List (List Int) :=
  ((rcvL h).zip [(dueN T N h d).getD 3 0, (dueN T N h d).getD 1 0, (dueN T N h d).getD 2 0]).map fun x => [h.getD 0 0, (dueN T N h d).getD 0 0, x.1, x.2]
theorem take_ne {e : List Int} {a b c x : Int} (h : e.getD 0 0 ≠ x) (hx : x = a) : e.take 3 ≠ [a, b, c] := fun he => by
  subst hx
  match e, he with
  | y :: _, he =>
    simp only [List.take_succ_cons, List.cons.injEq] at he
    exact h (by simpa using he.1)
theorem amt_step {T N : List (List Int)} {d : Int} {x : List Int} (hd : 0 ≤ x.getD 5 0) {E0 : List (List Int)} (h0 : ∀ e ∈ E0, e.getD 0 0 ≠ x.getD 0 0) {j : Nat} (hj : j < (rcvL x).length) :
    ∃ to am, (numP (rcvL x))[j]? = some [PV.int .i64 to] ∧ ([[PV.int .i64 ((dueN T N x d).getD 3 0)], [PV.int .i64 ((dueN T N x d).getD 1 0)], [PV.int .i64 ((dueN T N x d).getD 2 0)]] : List (List PV))[j]? = some [PV.int .i64 am] ∧
      mSet 3 ((E0 ++ (amtE T N d x).take j).map rowP) [PV.int .i64 (x.getD 0 0), PV.int .i64 ((dueN T N x d).getD 0 0), PV.int .i64 to] [PV.int .i64 am] = (E0 ++ (amtE T N d x).take (j + 1)).map rowP := by
  unfold amtE
  generalize (dueN T N x d).getD 0 0 = g0
  generalize (dueN T N x d).getD 1 0 = g1
  generalize (dueN T N x d).getD 2 0 = g2
  generalize (dueN T N x d).getD 3 0 = g3
  unfold rcvL at hj ⊢
  generalize x.getD 0 0 = x0 at *
  generalize x.getD 5 0 = x5 at *
  have key : ∀ (L : List (List Int)) (to am : Int), (∀ e ∈ L, e.take 3 ≠ [x0, g0, to]) → mSet 3 ((E0 ++ L).map rowP) [PV.int .i64 x0, PV.int .i64 g0, PV.int .i64 to] [PV.int .i64 am] = (E0 ++ (L ++ [[x0, g0, to, am]])).map rowP := fun L to am hL => by
    have := mSet_new (kn := 3) (key := [x0, g0, to]) (E := E0 ++ L) (v := [PV.int .i64 am]) (fun e he => by
      rcases List.mem_append.1 he with h | h
      · exact take_ne (h0 e h) rfl
      · exact hL e h)
    refine this.trans ?_
    simp [rowP]
  split at hj <;> rename_i h5
  · rw [if_pos h5]
    match j, hj with
    | 0, _ => exact ⟨0, g3, rfl, rfl, key [] 0 g3 (by simp)⟩
    | 1, _ => exact ⟨1, g1, rfl, rfl, key [[x0, g0, 0, g3]] 1 g1 (by simp)⟩
  · rw [if_neg h5]
    match j, hj with
    | 0, _ => exact ⟨0, g3, rfl, rfl, key [] 0 g3 (by simp)⟩
    | 1, _ => exact ⟨1, g1, rfl, rfl, key [[x0, g0, 0, g3]] 1 g1 (by simp)⟩
    | 2, _ => exact ⟨2 + x5, g2, rfl, rfl, key [[x0, g0, 0, g3], [x0, g0, 1, g1]] (2 + x5) g2 (by simp; omega)⟩
theorem amtE_len (T N : List (List Int)) (d : Int) (x : List Int) : (amtE T N d x).length = (rcvL x).length := by
  unfold amtE rcvL; split <;> rfl
theorem amtE_id {T N : List (List Int)} {d : Int} {x e : List Int} (h : e ∈ amtE T N d x) : e.getD 0 0 = x.getD 0 0 := by
  unfold amtE at h
  obtain ⟨y, _, rfl⟩ := List.mem_map.1 h
  rfl
def amtL (T H N : List (List Int)) (d : Int) : List (List Int) := (H.filter (cntH d)).flatMap (amtE T N d)
theorem amounts_does {T H N : List (List Int)} (h1 : ∀ x ∈ T, x.length = 24) (h2 : ∀ x ∈ H, x.length = 9) (h3 : ∀ x ∈ N, x.length = 7) {d : Int} (hq : askE T H N d = 0) :
    Does Try.prog 28 [accP T H N, .int .i64 d] (.map true false [.int .i64 0, .int .i64 0, .int .i64 0] ((amtL T H N d).map rowP)) := by
  have hall := tellAll_does h1 h2 h3 hq
  have hgd : ∀ x ∈ H.filter (cntH d), Good T N x d := fun x hx => good_in h2 hq (List.mem_filter.1 hx).1
  have hHl : (H.filter (cntH d)).length ≤ 60 := by
    have := (accOk_len (askE_ok hq).1).2.1
    have := tolL_len T H N d
    omega
  have hid := ids_lt (by have := (askE_ok hq).1; unfold accOk at this; simp only [Bool.and_eq_true] at this; exact this.2.1) (cntH d)
  unfold tolL at hall
  unfold amtL
  generalize H.filter (cntH d) = Hs at *
  obtain ⟨V, hV⟩ : ∃ V, PV.map true false [.int .i64 0, .int .i64 0, .int .i64 0] ((Hs.flatMap (amtE T N d)).map rowP) = V := ⟨_, rfl⟩
  rw [hV]
  obtain ⟨eL, hEL⟩ : ∃ es, Hs.map (fun h => tolC h T N d) = es := ⟨_, rfl⟩
  obtain ⟨eT, hT1⟩ : ∃ es, T.map rowP = es := ⟨_, rfl⟩
  obtain ⟨eH, hH1⟩ : ∃ es, H.map rowP = es := ⟨_, rfl⟩
  obtain ⟨eN, hN1⟩ : ∃ es, N.map rowP = es := ⟨_, rfl⟩
  simp only [accP, hT1, hH1, hN1, hEL] at hall ⊢
  have hfr : ∀ k (hk : k < Hs.length), ∀ e ∈ (Hs.take k).flatMap (amtE T N d), e.getD 0 0 ≠ (Hs[k]).getD 0 0 := fun k hk e he => by
    obtain ⟨x, hx, he⟩ := List.mem_flatMap.1 he
    obtain ⟨j, hj, rfl⟩ := List.mem_iff_getElem.1 hx
    rw [List.getElem_take] at he
    simp only [List.length_take] at hj
    have := hid j k (by omega) hk (by omega)
    rw [amtE_id he]
    omega
  have hek : ∀ k (hk : k < Hs.length), ((Hs.take (k + 1)).flatMap (amtE T N d)).map rowP = (((Hs.take k).flatMap (amtE T N d)) ++ (amtE T N d Hs[k]).take (rcvL Hs[k]).length).map rowP := fun k hk => by
    rw [take_last hk, ← amtE_len T N d, List.take_length, List.flatMap_append]
    simp
  have heL : ((Hs.take Hs.length).flatMap (amtE T N d)).map rowP = (Hs.flatMap (amtE T N d)).map rowP := by rw [List.take_length]
  rw [← heL] at hV
  refine does_of (own := inPl) Try.func28 rfl Try.ntmps28 (congrArg Array.toList Try.results28) (fun us w => Try.call28 us w) hTT mixed (Nat.le_of_ble_eq_true rfl) ?_
  intro w0 im0 D0 S Cl hS hC ar har
  have har' := har
  obtain ⟨ai, ab, nz, inr, fi, pk, ix, ln, sb, eqi, sl, fits, mn, mx, nt, be, up, fu, mg, mh, ms⟩ := ar
  have F := facts_of har
  clear har
  cbv
  refine ⟨_, hC _ _ _ hall, ?_⟩; cbv
  refine hS _ _ _ (sem_loop (fun x : Nat × Int × List (List PV) => [(kT 5, .t (.c (.mp 12))), sL 15 16 eL, sI 16 (ln eL), sI 17 x.2.1, (kB 12, .obj (.map true false [.int .i64 0, .int .i64 0, .int .i64 0] x.2.2))]) (fun x => x.1 ≤ Hs.length ∧ x.2.1 = (x.1 : Int) ∧ x.2.2 = ((Hs.take x.1).flatMap (amtE T N d)).map rowP) (fun x => Hs.length - x.1) (fun t => t) (0, 0, []) (fun t => t) ⟨by rfl, by cbv; try (repeat (first | exact rfl | exact trivial | refine ⟨?_, ?_⟩))⟩ ?_ ?_)
  · exact ⟨by simp, rfl, rfl⟩
  rintro ⟨k, i, es⟩ ⟨hk, hi, hes⟩
  dsimp only at hk hi hes
  have hadd : ai .add i 1 = ((k + 1 : Nat) : Int) := by rw [F.add i 1 (by omega) (by omega), hi]; simp
  have hlen : ln eL = Hs.length := by rw [F.ln, ← hEL]; simp
  refine sem_of (X := ⟨_, TT, ⟨0, 54, inPl⟩⟩) har' hTT mixed ?_
  intro S1 Cl1 hS1 hC1
  cbv
  by_cases hlt : k < Hs.length
  · have hb : ab .lss i (ln eL) = true := by rw [hlen, F.lss, hi]; simpa using hlt
    have hg : ix eL i = some (tolC Hs[k] T N d) := by rw [F.ix _ i k hi, ← hEL]; simp [hlt]
    have gk := hgd _ (List.getElem_mem hlt)
    have hdu := gk.due h1 h3
    have hb5 := (heldOk_bounds gk.held).2.2.2.1
    have hrc := receivers_does gk.len hb5
    have hst := fun j (hj : j < (rcvL Hs[k]).length) => amt_step (T := T) (N := N) (d := d) hb5.1 (hfr k hlt) hj
    have hk1 := hek k hlt
    have hk0 : es = (((Hs.take k).flatMap (amtE T N d)) ++ (amtE T N d Hs[k]).take 0).map rowP := by rw [hes]; simp
    obtain ⟨g0, g1, g2, g3, hcg⟩ : ∃ g0 g1 g2 g3, dueN T N Hs[k] d = [g0, g1, g2, g3] := by
      unfold dueN dueP; split
      · exact ⟨_, _, _, _, rfl⟩
      · split <;> exact ⟨_, _, _, _, rfl⟩
    rw [hcg] at hdu hst
    obtain ⟨fj, hfj⟩ : ∃ f : Nat → List (List PV), (fun j => (((Hs.take k).flatMap (amtE T N d)) ++ (amtE T N d Hs[k]).take j).map rowP) = f := ⟨_, rfl⟩
    have hfjd : ∀ j, (((Hs.take k).flatMap (amtE T N d)) ++ (amtE T N d Hs[k]).take j).map rowP = fj j := fun j => by rw [← hfj]
    simp only [hfjd] at hst hk1 hk0
    have hRl : (rcvL Hs[k]).length ≤ 3 := by unfold rcvL; split <;> simp
    generalize Hs[k] = x at *
    have gl := gk.len
    clear hfjd hfj gk hgd hek hfr hcg
    obtain ⟨x0, x1, x2, x3, x4, x5, x6, x7, x8, rfl⟩ := list9 gl
    obtain ⟨l0, l1, l2, l3, hlo⟩ : ∃ l0 l1 l2 l3, lotN T N [x0, x1, x2, x3, x4, x5, x6, x7, x8] d = [l0, l1, l2, l3] := ⟨_, _, _, _, rfl⟩
    obtain ⟨eS, hES⟩ : ∃ es, (sayL N [x0, x1, x2, x3, x4, x5, x6, x7, x8] d).map rowP = es := ⟨_, rfl⟩
    simp only [tolC, toldP, hlo, hT1, hES] at hg hdu
    simp only [List.getD_cons_zero, List.getD_cons_succ] at hst
    generalize rcvL [x0, x1, x2, x3, x4, x5, x6, x7, x8] = rc at *
    obtain ⟨eR, hER⟩ : ∃ es, numP rc = es := ⟨_, rfl⟩
    have hlR : ln eR = rc.length := by rw [F.ln, ← hER]; simp [numP]
    rw [hER] at hrc
    simp only [hER] at hst
    rw [hb]; cbv
    repeat (rw [hg]; cbv)
    refine ⟨_, hC1 _ _ _ hdu, ?_⟩; cbv
    refine ⟨_, hC1 _ _ _ hrc, ?_⟩; cbv
    refine hS1 _ _ _ (sem_loop (fun y : Nat × Int × List (List PV) => [(kT 5, .t (.c (.mp 12))), sP 7 7, sP 8 8, sR 9 29, sL 15 16 eL, sI 16 (ln eL), sI 17 i, sL 32 1 eR, sI 33 (ln eR), sI 34 y.2.1, bX 7 73 [cI x0, cI x1, cI x2, cI x3, cI x4, cI x5, cI x6, cI x7, cI x8, cL 24 eT, cL 7 eS, cI d, cI l0, cI l1, cI l2, cI l3], bX 8 52 [cI g0, cI g1, cI g2, cI g3], rW 29 3 1 [[.int .i64 g3], [.int .i64 g1], [.int .i64 g2]], (kB 12, .obj (.map true false [.int .i64 0, .int .i64 0, .int .i64 0] y.2.2))]) (fun y => y.1 ≤ rc.length ∧ y.2.1 = (y.1 : Int) ∧ y.2.2 = fj y.1) (fun y => rc.length - y.1) (fun t => t) (0, 0, es) (fun t => t) ⟨by rfl, by cbv; try (repeat (first | exact rfl | exact trivial | refine ⟨?_, ?_⟩))⟩ ?_ ?_)
    · exact ⟨by simp, rfl, hk0⟩
    rintro ⟨m, r, es'⟩ ⟨hm, hr, hes'⟩
    dsimp only at hm hr hes'
    have hradd : ai .add r 1 = ((m + 1 : Nat) : Int) := by rw [F.add r 1 (by omega) (by omega), hr]; simp
    refine sem_of (X := ⟨_, TT, ⟨0, 54, inPl⟩⟩) har' hTT mixed ?_
    intro S2 Cl2 hS2 hC2
    cbv
    by_cases hlt2 : m < rc.length
    · have hb2 : ab .lss r (ln eR) = true := by rw [hlR, F.lss, hr]; simpa using hlt2
      obtain ⟨to, am, q1, q2, q3⟩ := hst m hlt2
      have hg2 : ix eR r = some [PV.int .i64 to] := by rw [F.ix _ r m hr]; exact q1
      have hg3 : ix [[.int .i64 g3], [.int .i64 g1], [.int .i64 g2]] r = some [PV.int .i64 am] := by rw [F.ix _ r m hr]; exact q2
      have hset : ms 3 es' [.int .i64 x0, .int .i64 g0, .int .i64 to] [.int .i64 am] = fj (m + 1) := by rw [F.ms, hes']; exact q3
      rw [hb2]; cbv
      repeat (rw [hg2]; cbv)
      repeat (rw [hg3]; cbv)
      exact ⟨(m + 1, ai .add r 1, ms 3 es' [.int .i64 x0, .int .i64 g0, .int .i64 to] [.int .i64 am]), ⟨hlt2, hradd, hset⟩, by dsimp only; omega, ⟨by rfl, by cbv; try (repeat (first | exact rfl | exact trivial | refine ⟨?_, ?_⟩))⟩⟩
    · have hb2 : ab .lss r (ln eR) = false := by rw [hlR, F.lss, hr]; simpa using hlt2
      have hmE : m = rc.length := by omega
      rw [hb2]; cbv
      exact ⟨(k + 1, ai .add i 1, es'), ⟨hlt, hadd, by rw [hk1, hes', hmE]⟩, by dsimp only; omega, ⟨by rfl, by cbv; try (repeat (first | exact rfl | exact trivial | refine ⟨?_, ?_⟩))⟩⟩
  · have hb : ab .lss i (ln eL) = false := by rw [hlen, F.lss, hi]; simpa using hlt
    have hkE : k = Hs.length := by omega
    rw [hb]; cbv
    rw [← hV, hes, hkE]
    exact PLe.refl _
theorem rows_cells {w : World} {A : Option Addr} {k : Nat} {N : List (List Int)} (h : Rw w A N.length k N) (hk : 0 < k) : N.length = 0 ∨ ∃ b, A = some b ∧ ∀ (j : Nat) u, (N.map ints).flatten[j]? = some u → w.cell? (b.add j) = some u := by
  rcases Nat.eq_zero_or_pos N.length with h0 | h0
  · exact .inl h0
  · obtain ⟨g, o, hA, _, _⟩ := h.get 0 h0
    refine .inr ⟨⟨g, o, none⟩, hA, fun j u hu => ?_⟩
    have hw : ∀ x ∈ N.map ints, x.length = k := fun x hx => by
      obtain ⟨y, hy, rfl⟩ := List.mem_map.1 hx
      rw [ints_len]; exact h.wid y hy
    have hj : j < N.length * k := by
      have := (List.getElem?_eq_some_iff.1 hu).1
      rwa [flat_len hw, List.length_map] at this
    have hi : j / k < N.length := Nat.div_lt_of_lt_mul (by rwa [Nat.mul_comm] at hj)
    obtain ⟨g', o', hA', _, hr⟩ := h.get (j / k) hi
    rw [hA] at hA'
    cases hA'
    have e1 := flat_at hw (i := j / k) (by simpa using hi) (j := j % k) (Nat.mod_lt _ hk)
    have e2 : j / k * k + j % k = j := by rw [Nat.mul_comm, Nat.div_add_mod]
    rw [e2] at e1
    rw [e1] at hu
    have := hr (j % k) u (by simpa using hu)
    rw [Nat.add_assoc, e2] at this
    rw [Addr.add_lit]
    exact this
theorem rows_flat (N : List (List Int)) : (N.map rowP).flatten = rowP N.flatten := by
  induction N with
  | nil => rfl
  | cons x N ih => rw [List.map_cons, List.flatten_cons, ih, List.flatten_cons]; unfold rowP; rw [List.map_append]
theorem ints_flat (N : List (List Int)) : (N.map ints).flatten = ints N.flatten := by
  induction N with
  | nil => rfl
  | cons x N ih => rw [List.map_cons, List.flatten_cons, ih, List.flatten_cons]; unfold ints; rw [List.map_append]
theorem rep_flat {im : Nat → Prop} {w : World} (N : List (List Int)) : RepL im w (N.map rowP).flatten (N.map ints).flatten := by
  rw [rows_flat, ints_flat]; exact rep_ints.2 rfl
theorem flat_rows (N : List (List Int)) : FlatL (N.map rowP) := fun im im' w w' us h => by
  rw [rows_flat] at h ⊢
  rw [rep_ints.1 h]
  exact rep_ints.2 rfl
theorem ints_flat_one (N : List (List Int)) : ∀ u ∈ (N.map ints).flatten, u.oneCell' = true := fun u hu => by
  rw [ints_flat] at hu
  exact ints_one' _ u hu
theorem flat_size {N : List (List Int)} {k : Nat} (h : ∀ x ∈ N, x.length = k) : (N.map ints).flatten.length = N.length * k := by
  rw [flat_len (k := k) (fun x hx => by obtain ⟨y, hy, rfl⟩ := List.mem_map.1 hx; rw [ints_len]; exact h y hy), List.length_map]
theorem repN_one {n0 : Nat} {w : World} {e k : Nat} {x : Value} {N : List (List Int)} (h : w.ownsRow n0 e k x N.length (N.map ints).flatten) (hw : ∀ y ∈ N, y.length = k) : RepN n0 w [(e, k, N.map rowP)] [x] := ⟨rfl, fun j r y hr hy => by
    cases j with
    | zero =>
      simp only [List.getElem?_cons_zero, Option.some.injEq] at hr hy
      subst hr; subst hy
      exact ⟨(N.map ints).flatten, by simpa using h, rep_flat N, fun z hz => by obtain ⟨y, hy, rfl⟩ := List.mem_map.1 hz; unfold rowP; rw [List.length_map]; exact hw y hy, ints_flat_one N⟩
    | succ j => simp at hr, fun i j a b g hi hj _ _ => by
    cases i <;> cases j <;> simp at hi hj ⊢⟩
theorem clone7_does {N : List (List Int)} (hw : ∀ x ∈ N, x.length = 7) (hN : N.length ≤ 100000) : DoesO Try.prog 57 [.list 7 (N.map rowP)] false [(49, 7, N.map rowP)] := ⟨fun us w => Try.call57 us w, fun w im us him hr => by
  obtain ⟨u, rfl, hu⟩ := L1 hr
  obtain ⟨A, c, rfl, hR⟩ := rep_rows him hu hw
  obtain ⟨i0, hi, hz0, hz1, hz2⟩ := info_parts (show (Try.prog.info? 49).map (fun i => (i.zero, i.size, i.bytes)) = some (some (.agg (Array.replicate 7 (.int .i64 0))), 7, 56) by kernel_rfl)
  have q22 : ∀ (w : World) (a : Option Addr) (n c n' c' : Nat), (binOp .eql 30 (.slice a n c) (.slice none n' c')).run Try.prog w = .ok (.bool a.isNone) w := fun w a n c n' c' => Lib.run_eql_slice_nil w _ _ a n c n' c' Try.underlying30
  have hcells := rows_cells hR (by decide)
  cases A with
  | none =>
    have h0 : N.length = 0 := hcells.resolve_right (by rintro ⟨b, hb, _⟩; cases hb)
    have hN0 : N = [] := List.eq_nil_of_length_eq_zero h0
    subst hN0
    go_enter Try.func57, Try.ntmps57
    go_wp2
    go_ret
    exact ⟨_, [_], rfl, rfl, repN_one ⟨rfl, .inl ⟨rfl, rfl⟩⟩ hw, Below.refl _ _⟩
  | some b =>
    have hcell : ∀ (j : Nat) u, (N.map ints).flatten[j]? = some u → w.cell? (b.add j) = some u := by
      rcases hcells with h0 | ⟨b', hb', h⟩
      · intro j u hu
        have hN0 : N = [] := List.eq_nil_of_length_eq_zero h0
        subst hN0
        simp at hu
      · cases hb'; exact h
    have hlen := flat_size hw
    have hone := ints_flat_one N
    have hfl := hR.small
    obtain ⟨R, hRR⟩ : ∃ R, (N.map ints).flatten = R := ⟨_, rfl⟩
    rw [hRR] at hcell hlen hone
    have hfin : ∀ n0 w x, w.ownsRow n0 49 7 x N.length R → RepN n0 w [(49, 7, N.map rowP)] [x] := fun n0 w x h => repN_one (by rw [hRR]; exact h) hw
    obtain ⟨n, hn⟩ : ∃ n, N.length = n := ⟨_, rfl⟩
    rw [hn] at hlen hfin hN hfl ⊢
    clear hcells hR hu hr hRR
    go_enter Try.func57, Try.ntmps57
    go_wp2_with (at_builtin; refine wpList_append_own _ rfl _ _ 30 rfl w.heap.size 49 i0 _ 7 56 Try.underlying30 hi hz0 hz1 hz2 rfl (by decide) _ _ _ rfl (World.ownsRow_made w #[] 0 (Nat.le_refl _) (Nat.zero_le _) rfl) b n c R rfl hlen ?qc2 hone ?qc4 ?qc5 ?qc6 ?_)
    case qc2 =>
      intro j u hj
      exact Lib.cell?_alloc_some _ (hcell j u hj)
    case qc4 => unfold maxLen; omega
    case qc5 => omega
    case qc6 => simp
    intro v' w1 hown hgrow hnil
    go_wp2
    go_ret
    refine ⟨v', [v'], rfl, rfl, hfin _ _ _ (by simpa using hown), ?_⟩
    exact ((Below.refl _ w).alloc (Nat.le_refl _) _).grown hgrow (by simp) (by intro k hk; simp [Value.ownBlock] at hk; omega)⟩
theorem clone9_does {N : List (List Int)} (hw : ∀ x ∈ N, x.length = 9) (hN : N.length ≤ 100000) : DoesO Try.prog 56 [.list 9 (N.map rowP)] false [(35, 9, N.map rowP)] := ⟨fun us w => Try.call56 us w, fun w im us him hr => by
  obtain ⟨u, rfl, hu⟩ := L1 hr
  obtain ⟨A, c, rfl, hR⟩ := rep_rows him hu hw
  obtain ⟨i0, hi, hz0, hz1, hz2⟩ := info_parts (show (Try.prog.info? 35).map (fun i => (i.zero, i.size, i.bytes)) = some (some (.agg (Array.replicate 9 (.int .i64 0))), 9, 72) by kernel_rfl)
  have q22 : ∀ (w : World) (a : Option Addr) (n c n' c' : Nat), (binOp .eql 29 (.slice a n c) (.slice none n' c')).run Try.prog w = .ok (.bool a.isNone) w := fun w a n c n' c' => Lib.run_eql_slice_nil w _ _ a n c n' c' Try.underlying29
  have hcells := rows_cells hR (by decide)
  cases A with
  | none =>
    have h0 : N.length = 0 := hcells.resolve_right (by rintro ⟨b, hb, _⟩; cases hb)
    have hN0 : N = [] := List.eq_nil_of_length_eq_zero h0
    subst hN0
    go_enter Try.func56, Try.ntmps56
    go_wp2
    go_ret
    exact ⟨_, [_], rfl, rfl, repN_one ⟨rfl, .inl ⟨rfl, rfl⟩⟩ hw, Below.refl _ _⟩
  | some b =>
    have hcell : ∀ (j : Nat) u, (N.map ints).flatten[j]? = some u → w.cell? (b.add j) = some u := by
      rcases hcells with h0 | ⟨b', hb', h⟩
      · intro j u hu
        have hN0 : N = [] := List.eq_nil_of_length_eq_zero h0
        subst hN0
        simp at hu
      · cases hb'; exact h
    have hlen := flat_size hw
    have hone := ints_flat_one N
    have hfl := hR.small
    obtain ⟨R, hRR⟩ : ∃ R, (N.map ints).flatten = R := ⟨_, rfl⟩
    rw [hRR] at hcell hlen hone
    have hfin : ∀ n0 w x, w.ownsRow n0 35 9 x N.length R → RepN n0 w [(35, 9, N.map rowP)] [x] := fun n0 w x h => repN_one (by rw [hRR]; exact h) hw
    obtain ⟨n, hn⟩ : ∃ n, N.length = n := ⟨_, rfl⟩
    rw [hn] at hlen hfin hN hfl ⊢
    clear hcells hR hu hr hRR
    go_enter Try.func56, Try.ntmps56
    go_wp2_with (at_builtin; refine wpList_append_own _ rfl _ _ 29 rfl w.heap.size 35 i0 _ 9 72 Try.underlying29 hi hz0 hz1 hz2 rfl (by decide) _ _ _ rfl (World.ownsRow_made w #[] 0 (Nat.le_refl _) (Nat.zero_le _) rfl) b n c R rfl hlen ?qc2 hone ?qc4 ?qc5 ?qc6 ?_)
    case qc2 =>
      intro j u hj
      exact Lib.cell?_alloc_some _ (hcell j u hj)
    case qc4 => unfold maxLen; omega
    case qc5 => omega
    case qc6 => simp
    intro v' w1 hown hgrow hnil
    go_wp2
    go_ret
    refine ⟨v', [v'], rfl, rfl, hfin _ _ _ (by simpa using hown), ?_⟩
    exact ((Below.refl _ w).alloc (Nat.le_refl _) _).grown hgrow (by simp) (by intro k hk; simp [Value.ownBlock] at hk; omega)⟩
theorem clone24_does {N : List (List Int)} (hw : ∀ x ∈ N, x.length = 24) (hN : N.length ≤ 100000) : DoesO Try.prog 55 [.list 24 (N.map rowP)] false [(70, 24, N.map rowP)] := ⟨fun us w => Try.call55 us w, fun w im us him hr => by
  obtain ⟨u, rfl, hu⟩ := L1 hr
  obtain ⟨A, c, rfl, hR⟩ := rep_rows him hu hw
  obtain ⟨i0, hi, hz0, hz1, hz2⟩ := info_parts (show (Try.prog.info? 70).map (fun i => (i.zero, i.size, i.bytes)) = some (some (.agg (Array.replicate 24 (.int .i64 0))), 24, 192) by kernel_rfl)
  have q22 : ∀ (w : World) (a : Option Addr) (n c n' c' : Nat), (binOp .eql 28 (.slice a n c) (.slice none n' c')).run Try.prog w = .ok (.bool a.isNone) w := fun w a n c n' c' => Lib.run_eql_slice_nil w _ _ a n c n' c' Try.underlying28
  have hcells := rows_cells hR (by decide)
  cases A with
  | none =>
    have h0 : N.length = 0 := hcells.resolve_right (by rintro ⟨b, hb, _⟩; cases hb)
    have hN0 : N = [] := List.eq_nil_of_length_eq_zero h0
    subst hN0
    go_enter Try.func55, Try.ntmps55
    go_wp2
    go_ret
    exact ⟨_, [_], rfl, rfl, repN_one ⟨rfl, .inl ⟨rfl, rfl⟩⟩ hw, Below.refl _ _⟩
  | some b =>
    have hcell : ∀ (j : Nat) u, (N.map ints).flatten[j]? = some u → w.cell? (b.add j) = some u := by
      rcases hcells with h0 | ⟨b', hb', h⟩
      · intro j u hu
        have hN0 : N = [] := List.eq_nil_of_length_eq_zero h0
        subst hN0
        simp at hu
      · cases hb'; exact h
    have hlen := flat_size hw
    have hone := ints_flat_one N
    have hfl := hR.small
    obtain ⟨R, hRR⟩ : ∃ R, (N.map ints).flatten = R := ⟨_, rfl⟩
    rw [hRR] at hcell hlen hone
    have hfin : ∀ n0 w x, w.ownsRow n0 70 24 x N.length R → RepN n0 w [(70, 24, N.map rowP)] [x] := fun n0 w x h => repN_one (by rw [hRR]; exact h) hw
    obtain ⟨n, hn⟩ : ∃ n, N.length = n := ⟨_, rfl⟩
    rw [hn] at hlen hfin hN hfl ⊢
    clear hcells hR hu hr hRR
    go_enter Try.func55, Try.ntmps55
    go_wp2_with (at_builtin; refine wpList_append_own _ rfl _ _ 28 rfl w.heap.size 70 i0 _ 24 192 Try.underlying28 hi hz0 hz1 hz2 rfl (by decide) _ _ _ rfl (World.ownsRow_made w #[] 0 (Nat.le_refl _) (Nat.zero_le _) rfl) b n c R rfl hlen ?qc2 hone ?qc4 ?qc5 ?qc6 ?_)
    case qc2 =>
      intro j u hj
      exact Lib.cell?_alloc_some _ (hcell j u hj)
    case qc4 => unfold maxLen; omega
    case qc5 => omega
    case qc6 => simp
    intro v' w1 hown hgrow hnil
    go_wp2
    go_ret
    refine ⟨v', [v'], rfl, rfl, hfin _ _ _ (by simpa using hown), ?_⟩
    exact ((Below.refl _ w).alloc (Nat.le_refl _) _).grown hgrow (by simp) (by intro k hk; simp [Value.ownBlock] at hk; omega)⟩
set_option maxHeartbeats 4000000
theorem clone_does {T H N : List (List Int)} (h1 : ∀ x ∈ T, x.length = 24) (h2 : ∀ x ∈ H, x.length = 9) (h3 : ∀ x ∈ N, x.length = 7) (hT : T.length ≤ 100000) (hH : H.length ≤ 100000) (hN : N.length ≤ 100000) :
    DoesO Try.prog 24 [accP T H N] true [(70, 24, T.map rowP), (35, 9, H.map rowP), (49, 7, N.map rowP)] := by
  have hc1 := clone24_does h1 hT
  have hc2 := clone9_does h2 hH
  have hc3 := clone7_does h3 hN
  have f1 := flat_rows T
  have f2 := flat_rows H
  have f3 := flat_rows N
  simp only [accP]
  obtain ⟨eT, hT'⟩ : ∃ es, T.map rowP = es := ⟨_, rfl⟩
  obtain ⟨eH, hH'⟩ : ∃ es, H.map rowP = es := ⟨_, rfl⟩
  obtain ⟨eN, hN'⟩ : ∃ es, N.map rowP = es := ⟨_, rfl⟩
  rw [hT'] at hc1 f1 ⊢
  rw [hH'] at hc2 f2 ⊢
  rw [hN'] at hc3 f3 ⊢
  refine doesO_of (own := inPl) Try.func24 rfl Try.ntmps24 (congrArg Array.toList Try.results24) (fun us w => Try.call24 us w) hTT mixed (Nat.le_of_ble_eq_true rfl) ?_
  intro w0 im0 D0 S Cl hS hC ar har
  have har' := har
  obtain ⟨ai, ab, nz, inr, fi, pk, ix, ln, sb, eqi, sl, fits, mn, mx, nt, be, up, fu, mg, mh, ms⟩ := ar
  have F := facts_of har
  clear har
  cbv
  refine ⟨.own 70 24 eT, hC _ (.mark :: _) (.own 70 24 eT) (show Can Try.prog _ (.mark :: _) (.own 70 24 eT) from hc1), ?_⟩; cbv
  refine ⟨.own 35 9 eH, hC _ (.mark :: _) (.own 35 9 eH) (show Can Try.prog _ (.mark :: _) (.own 35 9 eH) from hc2), ?_⟩; cbv
  refine ⟨.own 49 7 eN, hC _ (.mark :: _) (.own 49 7 eN) (show Can Try.prog _ (.mark :: _) (.own 49 7 eN) from hc3), ?_⟩; cbv
  first | exact ⟨f1, f2, f3⟩ | exact ⟨f1, f2, f3, trivial⟩
def Ris (N : List (List Int)) : Prop := ∀ i j (hi : i < N.length) (hj : j < N.length), i < j → N[i].getD 0 0 < N[j].getD 0 0
theorem ris_ok {ok : List Int → Bool} {most : Nat} {N : List (List Int)} (h : lsOk ok most N = true) : Ris N := by
  unfold lsOk at h
  simp only [Bool.and_eq_true] at h
  have one : ∀ j (hj : j + 1 < N.length), N[j].getD 0 0 < N[j + 1].getD 0 0 := fun j hj => by
    have h2 := h.2
    unfold lsK at h2
    have := List.all_eq_true.1 h2 (j + 1) (List.mem_range.2 hj)
    rw [lsAt_eq hj] at this
    simp only [Bool.and_eq_true, Bool.or_eq_true, beq_iff_eq, decide_eq_true_eq] at this
    have h3 := this.2.resolve_left (by omega)
    have hd : N.getD (j + 1 - 1) [] = N[j] := by rw [List.getD_eq_getElem?_getD]; simp [show j < N.length by omega]
    rw [hd] at h3
    exact h3
  intro i j hi hj hij
  induction j with
  | zero => omega
  | succ j ih =>
    have h1 := one j hj
    rcases Nat.lt_or_ge i j with hlt | hge
    · have := ih (by omega) hlt
      omega
    · have : i = j := by omega
      subst this
      exact h1
theorem atK_at {s : Int} {N : List (List Int)} {a : Nat} (ha : a ≤ N.length) (h1 : ∀ k (hk : k < N.length), k < a → N[k].getD 0 0 < s) (h2 : ∀ k (hk : k < N.length), a ≤ k → ¬ N[k].getD 0 0 < s) : (atK s N).2 = a := by
  have key : ∀ k, k ≤ N.length → (atK s (N.take k)).2 = if k ≤ a then (k : Int) else a := fun k => by
    induction k with
    | zero => intro _; simp [atK]
    | succ k ih =>
      intro hk
      have ih := ih (by omega)
      have hone := atK_one s N k (by omega)
      rw [atK_take (by omega)]
      unfold atF
      dsimp only
      rw [hone, ih]
      by_cases hka : k < a
      · have := h1 k (by omega) hka
        rw [if_pos (decide_eq_true this), if_pos (by omega)]
        omega
      · have := h2 k (by omega) (by omega)
        rw [if_neg (by rw [decide_eq_true_eq]; exact this), if_neg (show ¬ k + 1 ≤ a by omega)]
        split <;> omega
  have := key N.length (Nat.le_refl _)
  rw [List.take_length] at this
  rw [this]
  split <;> omega
theorem any_at {s : Int} {N : List (List Int)} {a : Nat} (hr : Ris N) (ha : a < N.length) (h1 : ∀ k (hk : k < N.length), k < a → N[k].getD 0 0 < s) (h2 : ∀ k (hk : k < N.length), a ≤ k → ¬ N[k].getD 0 0 < s) : N.any (isS s) = (N[a].getD 0 0 == s) := by
  cases hb : N[a].getD 0 0 == s with
  | true => exact List.any_eq_true.2 ⟨_, List.getElem_mem ha, hb⟩
  | false =>
    rw [List.any_eq_false]
    intro x hx
    obtain ⟨k, hk, rfl⟩ := List.mem_iff_getElem.1 hx
    unfold isS
    intro he
    have he := eq_of_beq he
    rcases Nat.lt_trichotomy k a with h | h | h
    · have := h1 k hk h; omega
    · subst h; rw [he] at hb; simp at hb
    · have := hr a k ha hk h
      have := h2 a ha (Nat.le_refl _)
      omega
theorem any_none {s : Int} {N : List (List Int)} (h1 : ∀ k (hk : k < N.length), N[k].getD 0 0 < s) : N.any (isS s) = false := by
  rw [List.any_eq_false]
  intro x hx
  obtain ⟨k, hk, rfl⟩ := List.mem_iff_getElem.1 hx
  unfold isS
  intro he
  have he := eq_of_beq he
  have := h1 k hk
  omega
theorem search_does {N : List (List Int)} (h3 : ∀ x ∈ N, x.length = 7) (hr : Ris N) (hN : N.length ≤ 100000) {n : List Int} (hn7 : n.length = 7) :
    Does Try.prog 21 [.list 7 (N.map rowP), .agg (rowP n), .fn (.func 22) [] []] (.tup [.int .i64 (atK (n.getD 0 0) N).2, .bool (N.any (isS (n.getD 0 0)))]) := by
  have hcmp : ∀ k (hk : k < N.length), Does Try.prog 22 [.agg (rowP N[k]), .agg (rowP n)] (.int .i64 (cmpI (N[k].getD 0 0) (n.getD 0 0))) := fun k hk => noted1_does (h3 _ (List.getElem_mem hk)) hn7
  obtain ⟨n0, n1, n2, n3, n4, n5, n6, rfl⟩ := list7 hn7
  simp only [List.getD_cons_zero] at hcmp ⊢
  obtain ⟨V, hV⟩ : ∃ V, PV.tup [.int .i64 (atK n0 N).2, .bool (N.any (isS n0))] = V := ⟨_, rfl⟩
  rw [hV]
  have hlt0 : ∀ x y : Int, decide (cmpI x y < 0) = decide (x < y) := fun x y => by
    unfold cmpI
    by_cases h : x < y
    · rw [if_pos h, decide_eq_true h]; rfl
    · rw [if_neg h, decide_eq_false h]; split <;> rfl
  have heq0 : ∀ x y : Int, (cmpI x y == 0) = (x == y) := fun x y => by
    unfold cmpI
    by_cases h : x < y
    · rw [if_pos h, beq_eq_false_iff_ne.2 (show x ≠ y by omega)]; rfl
    · rw [if_neg h]
      by_cases h' : x > y
      · rw [if_pos h', beq_eq_false_iff_ne.2 (show x ≠ y by omega)]; rfl
      · rw [if_neg h', beq_iff_eq.2 (show x = y by omega)]; rfl
  have hend0 : ∀ (a : Nat) (z : Int), z = (a : Int) → a = N.length → (∀ k (hk : k < N.length), k < a → N[k].getD 0 0 < n0) → PV.tup [.int .i64 z, .bool false] = V := fun a z hz ha h1 => by
    rw [hz, ← hV, atK_at (a := a) (by omega) h1 (fun k hk h => by omega), any_none (fun k hk => h1 k hk (by omega))]
  have hend1 : ∀ (a : Nat) (z : Int), z = (a : Int) → ∀ (ha : a < N.length), (∀ k (hk : k < N.length), k < a → N[k].getD 0 0 < n0) → (∀ k (hk : k < N.length), a ≤ k → ¬ N[k].getD 0 0 < n0) → PV.tup [.int .i64 z, .bool (N[a].getD 0 0 == n0)] = V := fun a z hz ha h1 h2 => by
    rw [hz, ← hV, atK_at (a := a) (by omega) h1 h2, any_at hr ha h1 h2]
  have hup : ∀ m (hm : m < N.length), N[m].getD 0 0 < n0 → ∀ k (hk : k < N.length), k < m + 1 → N[k].getD 0 0 < n0 := fun m hm h k hk hkm => by
    rcases Nat.lt_or_ge k m with h' | h'
    · have := hr k m hk hm h'; omega
    · have : k = m := by omega
      subst this; exact h
  have hdn : ∀ m (hm : m < N.length), ¬ N[m].getD 0 0 < n0 → ∀ k (hk : k < N.length), m ≤ k → ¬ N[k].getD 0 0 < n0 := fun m hm h k hk hkm => by
    rcases Nat.lt_or_ge m k with h' | h'
    · have := hr m k hm hk h'; omega
    · have : m = k := by omega
      subst this; exact h
  clear hV hr
  refine does_of (own := inPl) Try.func21 rfl Try.ntmps21 (congrArg Array.toList Try.results21) (fun us w => Try.call21 us w) hTT mixed (Nat.le_of_ble_eq_true rfl) ?_
  intro w0 im0 D0 S Cl hS hC ar har
  have har' := har
  obtain ⟨ai, ab, nz, inr, fi, pk, ix, ln, sb, eqi, sl, fits, mn, mx, nt, be, up, fu, mg, mh, ms⟩ := ar
  have F := facts_of har
  clear har
  obtain ⟨eN, hNe⟩ : ∃ es, N.map rowP = es := ⟨_, rfl⟩
  rw [hNe]
  have lN : ln eN = N.length := by rw [F.ln, ← hNe]; simp
  cbv
  refine hS _ _ _ (sem_loop (fun x : Nat × Nat × Int × Int => [sL 0 7 eN, sV 2 (.fn (.func 22) [] []), sP 4 4, sI 8 (ln eN), sI 9 x.2.2.1, sI 10 x.2.2.2, bX 4 49 [cI n0, cI n1, cI n2, cI n3, cI n4, cI n5, cI n6]]) (fun x => x.1 ≤ x.2.1 ∧ x.2.1 ≤ N.length ∧ x.2.2.1 = (x.1 : Int) ∧ x.2.2.2 = (x.2.1 : Int) ∧ (∀ k (hk : k < N.length), k < x.1 → N[k].getD 0 0 < n0) ∧ (∀ k (hk : k < N.length), x.2.1 ≤ k → ¬ N[k].getD 0 0 < n0)) (fun x => x.2.1 - x.1) (fun t => t) (0, N.length, 0, ln eN) (fun t => t) ⟨by rfl, by cbv; try (repeat (first | exact rfl | exact trivial | refine ⟨?_, ?_⟩))⟩ ?_ ?_)
  · exact ⟨by simp, by simp, rfl, lN, fun k _ h => absurd h (Nat.not_lt_zero k), fun k hk h => by dsimp only at h; omega⟩
  rintro ⟨ka, kb, i, j⟩ ⟨hab, hbN, hi, hj, hlo, hhi⟩
  dsimp only at hab hbN hi hj hlo hhi
  have hi : i = (ka : Int) := hi
  have hj : j = (kb : Int) := hj
  by_cases hlt : ka < kb
  · have hb : ab .lss i j = true := by rw [F.lss, hi, hj]; simpa using hlt
    obtain ⟨m, hm⟩ : ∃ m : Nat, (ka + kb) / 2 = m := ⟨_, rfl⟩
    have hmk : ka ≤ m ∧ m < kb := by omega
    have hmN : m < N.length := by omega
    have hw : ai .xor (ai .shr (ai .andNot (ai .add i j) 0) 1) 0 = (m : Int) := by
      rw [F.add i j (by omega) (by omega), F.uw _ (by omega) (by omega), F.shr1 _ (by omega), F.iw _ (by omega) (by omega)]
      omega
    have hadd : ai .add (m : Int) 1 = ((m + 1 : Nat) : Int) := by rw [F.add _ 1 (by omega) (by omega)]; simp
    obtain ⟨t, ht⟩ : ∃ t : Int, (m : Int) = t := ⟨_, rfl⟩
    rw [ht] at hw hadd
    have hg : ix eN t = some (rowP N[m]) := by rw [F.ix _ t m ht.symm, ← hNe]; exact get_rows hmN
    have hc := hcmp m hmN
    have hq := hlt0 (N[m].getD 0 0) n0
    have hu := hup m hmN
    have hd := hdn m hmN
    obtain ⟨y0, y1, y2, y3, y4, y5, y6, hx⟩ := list7P (h3 _ (List.getElem_mem hmN))
    rw [hx] at hg hc hq hu hd
    simp only [List.getD_cons_zero] at hc hq hu hd
    obtain ⟨c, hcc⟩ : ∃ c, cmpI y0 n0 = c := ⟨_, rfl⟩
    rw [hcc] at hc hq
    rw [← F.lss c 0] at hq
    have hc : Does Try.prog 22 [.agg [.int .i64 y0, .int .i64 y1, .int .i64 y2, .int .i64 y3, .int .i64 y4, .int .i64 y5, .int .i64 y6], .agg [.int .i64 n0, .int .i64 n1, .int .i64 n2, .int .i64 n3, .int .i64 n4, .int .i64 n5, .int .i64 n6]] (.int .i64 c) := hc
    have hyes : ab .lss c 0 = true → (∀ k (hk : k < N.length), k < m + 1 → N[k].getD 0 0 < n0) := fun h => hu (of_decide_eq_true (hq.symm.trans h))
    have hno : ab .lss c 0 = false → (∀ k (hk : k < N.length), m ≤ k → ¬ N[k].getD 0 0 < n0) := fun h => hd (of_decide_eq_false (hq.symm.trans h))
    refine sem_of (X := ⟨_, TT, ⟨0, 49, inPl⟩⟩) har' hTT mixed ?_
    intro S1 Cl1 hS1 hC1
    cbv
    rw [hb]; cbv
    rw [hw]; cbv
    repeat (rw [hg]; cbv)
    refine ⟨_, hC1 _ _ _ hc, ?_⟩; cbv
    cases c1 : ab .lss c 0
    · have hno := hno c1
      cbv
      exact ⟨(ka, m, i, t), ⟨hmk.1, Nat.le_of_lt hmN, hi, ht.symm, hlo, hno⟩, by dsimp only; omega, ⟨by rfl, by cbv; try (repeat (first | exact rfl | exact trivial | refine ⟨?_, ?_⟩))⟩⟩
    · have hyes := hyes c1
      cbv
      exact ⟨(m + 1, kb, ai .add t 1, j), ⟨hmk.2, hbN, hadd, hj, hyes, hhi⟩, by dsimp only; omega, ⟨by rfl, by cbv; try (repeat (first | exact rfl | exact trivial | refine ⟨?_, ?_⟩))⟩⟩
  · have hb : ab .lss i j = false := by rw [F.lss, hi, hj]; simpa using hlt
    have hkk : ka = kb := by omega
    subst hkk
    by_cases hka : ka < N.length
    · have hb2 : ab .lss i (ln eN) = true := by rw [lN, F.lss, hi]; simpa using hka
      have hg : ix eN i = some (rowP N[ka]) := by rw [F.ix _ i ka hi, ← hNe]; exact get_rows hka
      have hc := hcmp ka hka
      have hq := heq0 (N[ka].getD 0 0) n0
      have he := hend1 ka i hi hka hlo hhi
      obtain ⟨y0, y1, y2, y3, y4, y5, y6, hx⟩ := list7P (h3 _ (List.getElem_mem hka))
      rw [hx] at hg hc hq he
      simp only [List.getD_cons_zero] at hc hq he
      obtain ⟨c, hcc⟩ : ∃ c, cmpI y0 n0 = c := ⟨_, rfl⟩
      rw [hcc] at hc hq
      rw [← hq, ← F.eql c 0] at he
      have hc : Does Try.prog 22 [.agg [.int .i64 y0, .int .i64 y1, .int .i64 y2, .int .i64 y3, .int .i64 y4, .int .i64 y5, .int .i64 y6], .agg [.int .i64 n0, .int .i64 n1, .int .i64 n2, .int .i64 n3, .int .i64 n4, .int .i64 n5, .int .i64 n6]] (.int .i64 c) := hc
      refine sem_of (X := ⟨_, TT, ⟨0, 49, inPl⟩⟩) har' hTT mixed ?_
      intro S1 Cl1 hS1 hC1
      cbv
      rw [hb]; cbv
      rw [hb2]; cbv
      repeat (rw [hg]; cbv)
      refine ⟨_, hC _ _ _ hc, ?_⟩; cbv
      rw [← he]
      exact PLe.refl _
    · have hb2 : ab .lss i (ln eN) = false := by rw [lN, F.lss, hi]; simpa using hka
      have he := hend0 ka i hi (by omega) hlo
      refine sem_of (X := ⟨_, TT, ⟨0, 49, inPl⟩⟩) har' hTT mixed ?_
      intro S1 Cl1 hS1 hC1
      cbv
      rw [hb]; cbv
      rw [hb2]; cbv
      rw [← he]
      exact PLe.refl _
theorem rep_own {im : Nat → Prop} {w : World} {n0 : Nat} {e k : Nat} {v : Value} {N : List (List Int)} {xs : List Value} (hx : xs = (N.map ints).flatten) (h : w.ownsRow n0 e k v N.length xs) (hw : ∀ x ∈ N, x.length = k) (him : ∀ g, v.ownBlock = some g → im g) : RepP im w (.list k (N.map rowP)) v := by
  subst hx
  simp only [RepP]
  rcases h.2 with ⟨hv, h0⟩ | ⟨g, cap, cur, hv, hbg, hgg, hcap, hm, _, _⟩
  · exact ⟨none, 0, 0, hv, by simpa using h0.symm, by simp, by simp, .inl (by rw [List.eq_nil_of_length_eq_zero h0]; rfl)⟩
  · refine ⟨_, _, cap, hv, by simp, hcap, hm, .inr ⟨g, 0, rfl, him g (by rw [hv]; rfl), ?_⟩⟩
    refine RepE.of_flat' (us := (N.map ints).flatten) ⟨fun y hy => by obtain ⟨x, hx, rfl⟩ := List.mem_map.1 hy; unfold rowP; rw [List.length_map]; exact hw x hx, ints_flat_one N⟩ (fun j u hu => ?_) (rep_flat N)
    have := h.cells (g := g) (by rw [hv]; rfl) j u hu
    rwa [Addr.add_mid] at this
theorem insertEnd_does {N : List (List Int)} (h3 : ∀ x ∈ N, x.length = 7) (hN : N.length ≤ 100000) {n : List Int} (hn7 : n.length = 7) :
    DoesC Try.prog 25 49 7 (N.map rowP) [.int .i64 N.length, .list 7 [rowP n]] (.list 7 ((N ++ [n]).map rowP)) := ⟨fun us w => Try.call25 us w, fun w im imA base x xs us him himA hb hown hl hk hno hr => by
  obtain ⟨x1, us1, rfl, hx1, hr⟩ : ∃ x1 us1, us = x1 :: us1 ∧ RepP imA w (.int .i64 N.length) x1 ∧ RepL imA w [.list 7 [rowP n]] us1 := by simpa only [RepL] using hr
  obtain ⟨x2, rfl, hx2⟩ := L1 hr
  simp only [RepP] at hx1
  subst hx1
  have h1 : ∀ z ∈ [n], z.length = 7 := fun z hz => by simp at hz; rw [hz]; exact hn7
  obtain ⟨A, c, rfl, hR⟩ := rep_rows (T := [n]) himA hx2 h1
  have hcells := rows_cells hR (by decide)
  obtain ⟨b, rfl, hc⟩ : ∃ b, A = some b ∧ ∀ (j : Nat) u, ([n].map ints).flatten[j]? = some u → w.cell? (b.add j) = some u := hcells.resolve_left (by simp)
  rw [rows_flat] at hl
  have hxs : xs = (N.map ints).flatten := by rw [ints_flat]; exact rep_ints.1 hl
  rw [List.length_map] at hown
  obtain ⟨i0, hi, hz0, hz1, hz2⟩ := info_parts (show (Try.prog.info? 49).map (fun i => (i.zero, i.size, i.bytes)) = some (some (.agg (Array.replicate 7 (.int .i64 0))), 7, 56) by kernel_rfl)
  obtain ⟨v', w', hrun, hown', hg, hfr⟩ := append_fresh (P := Try.prog) (w := w) base 30 30 49 i0 _ 7 56 Try.underlying30 hi hz0 hz1 hz2 rfl (by decide) x N.length xs hown (some b) 1 c ([n].map ints).flatten (by simp [ints_len, hn7]) (.inr ⟨b, rfl, hc⟩) (ints_flat_one [n]) (by simp only [maxLen]; omega) (by omega) hb
  have hfin : RepP (fun b => im b ∨ ((x.ownBlock = some b ∨ w.heap.size ≤ b) ∧ Plain w' b)) w' (.list 7 ((N ++ [n]).map rowP)) v' := by
    refine rep_own (n0 := base) (e := 49) (xs := xs ++ ([n].map ints).flatten) (by rw [hxs]; simp) (by simpa using hown') (fun z hz => (List.mem_append.1 hz).elim (h3 z) (h1 z)) (fun g hgb => .inr ⟨(hfr g hgb), ?_⟩)
    exact ⟨(hown'.lt g hgb).2, owns_not_mach hown' hgb⟩
  obtain ⟨m, hm⟩ : ∃ m, N.length = m := ⟨_, rfl⟩
  obtain ⟨Q, hQ⟩ : ∃ Q : Ending → World → Prop, Q = fun e' w' => ∃ u, e' = .returned u ∧ RepP (fun b => im b ∨ ((x.ownBlock = some b ∨ w.heap.size ≤ b) ∧ Plain w' b)) w' (.list 7 ((N ++ [n]).map rowP)) u ∧ w.grownBy w' x.ownBlock := ⟨_, rfl⟩
  have hq : Q (.returned v') w' := by rw [hQ]; exact ⟨v', rfl, hfin, hg⟩
  rw [← hQ]
  rw [hm] at hown ⊢
  have hm5 : m ≤ 100000 := by omega
  have hz : ¬ ((1 : Int) = 0) := by omega
  clear hfin hfr hown' hg hQ hxs hl hcells hR hx2 hr
  rcases hown.2 with ⟨rfl, rfl⟩ | ⟨g, cap, cur, rfl, _, _, hcap, hmx, _, _⟩
  · go_enter Try.func25, Try.ntmps25
    go_wp2_with (at_builtin; refine Lib.wpList_append_run _ rfl _ _ _ _ rfl _ _ rfl rfl _ _ hrun ?_)
    all_goals first | exact hq | (go_ret; exact hq)
  · simp only [maxLen] at hmx
    go_enter Try.func25, Try.ntmps25
    go_wp2_with (at_builtin; refine Lib.wpList_append_run _ rfl _ _ _ _ rfl _ _ rfl rfl _ _ hrun ?_)
    all_goals first | exact hq | (go_ret; exact hq)⟩
theorem noted_does {T H N : List (List Int)} (h1 : ∀ x ∈ T, x.length = 24) (h2 : ∀ x ∈ H, x.length = 9) (h3 : ∀ x ∈ N, x.length = 7) {n : List Int} (hn7 : n.length = 7)
    (hins : ntdE T H N n = 0 → DoesC Try.prog 25 49 7 (N.map rowP) [.int .i64 (atK (n.getD 0 0) N).2, .list 7 [rowP n]] (.list 7 ((insN N n).map rowP))) :
    Does Try.prog 10 [accP T H N, .agg (rowP n)] (.tup [if ntdE T H N n = 0 then accP T H (insN N n) else acc0, .int .i64 (ntdE T H N n)]) := by
  have hCk := pcheck_does h1 h2 h3
  have hCn := checkNote_does n hn7
  have hOr := orE_does [err (accOk T H N) 63, err (noteOk n) 62]
  have hsrch : accOk T H N = true → Does Try.prog 21 [.list 7 (N.map rowP), .agg (rowP n), .fn (.func 22) [] []] (.tup [.int .i64 (atK (n.getD 0 0) N).2, .bool (N.any (isS (n.getD 0 0)))]) := fun ha => by
    have hl := accOk_len ha
    have hr : Ris N := by
      unfold accOk at ha
      simp only [Bool.and_eq_true] at ha
      exact ris_ok ha.2.2
    exact search_does h3 hr (by omega) hn7
  have hcl : accOk T H N = true → DoesO Try.prog 24 [accP T H N] true [(70, 24, T.map rowP), (35, 9, H.map rowP), (49, 7, N.map rowP)] := fun ha => by
    have hl := accOk_len ha
    exact clone_does h1 h2 h3 (by omega) (by omega) (by omega)
  have hN60 : accOk T H N = true → N.length ≤ 60 := fun ha => (accOk_len ha).2.2
  obtain ⟨V, hV⟩ : ∃ V, PV.tup [if ntdE T H N n = 0 then accP T H (insN N n) else acc0, .int .i64 (ntdE T H N n)] = V := ⟨_, rfl⟩
  rw [hV]
  unfold ntdE at hV hins
  obtain ⟨ok, hok⟩ : ∃ e, accOk T H N = e := ⟨_, rfl⟩
  obtain ⟨nk, hnk⟩ : ∃ e, noteOk n = e := ⟨_, rfl⟩
  rw [hok, hnk] at hV hins hOr
  rw [hok] at hCk hsrch hcl hN60
  rw [hnk] at hCn
  clear hok hnk
  obtain ⟨n0, n1, n2, n3, n4, n5, n6, rfl⟩ := list7 hn7
  simp only [List.getD_cons_zero] at hV hins hsrch
  obtain ⟨q, hq⟩ : ∃ q, (atK n0 N).2 = q := ⟨_, rfl⟩
  obtain ⟨an, han⟩ : ∃ an, N.any (isS n0) = an := ⟨_, rfl⟩
  obtain ⟨M, hM⟩ : ∃ M, insN N [n0, n1, n2, n3, n4, n5, n6] = M := ⟨_, rfl⟩
  rw [hq] at hins hsrch
  rw [han] at hV hins hsrch
  rw [hM] at hV hins
  obtain ⟨e1, he1⟩ : ∃ e, err ok 63 = e := ⟨_, rfl⟩
  obtain ⟨e2, he2⟩ : ∃ e, err nk 62 = e := ⟨_, rfl⟩
  rw [he1] at hCk hOr
  rw [he2] at hCn hOr
  obtain ⟨e3, he3⟩ : ∃ e, orE [e1, e2] = e := ⟨_, rfl⟩
  rw [he3] at hOr
  have k0 : ok = false → e3 = 63 := fun h => by subst h; rw [← he3, ← he1, ← he2]; cases nk <;> rfl
  have k1 : ok = true → nk = false → e3 = 62 := fun h h' => by subst h; subst h'; rw [← he3, ← he1, ← he2]; rfl
  have k2 : ok = true → nk = true → e3 = 0 := fun h h' => by subst h; subst h'; rw [← he3, ← he1, ← he2]; rfl
  clear he1 he2 he3 hq han hM
  refine does_of (own := inPl) Try.func10 rfl Try.ntmps10 (congrArg Array.toList Try.results10) (fun us w => Try.call10 us w) hTT mixed (Nat.le_of_ble_eq_true rfl) ?_
  intro w0 im0 D0 S Cl hS hC ar har
  have har' := har
  obtain ⟨ai, ab, nz, inr, fi, pk, ix, ln, sb, eqi, sl, fits, mn, mx, nt, be, up, fu, mg, mh, ms⟩ := ar
  have F := facts_of har
  clear har
  obtain ⟨eT, hT⟩ : ∃ es, T.map rowP = es := ⟨_, rfl⟩
  obtain ⟨eH, hH⟩ : ∃ es, H.map rowP = es := ⟨_, rfl⟩
  obtain ⟨eN, hN⟩ : ∃ es, N.map rowP = es := ⟨_, rfl⟩
  obtain ⟨eM, hMe⟩ : ∃ es, M.map rowP = es := ⟨_, rfl⟩
  simp only [accP, hT, hH, hN, hMe] at hCk hsrch hcl hins hV ⊢
  have lN : ln eN = N.length := by rw [F.ln, ← hN]; simp
  have c60 : ab .eql (ln eN) 60 = decide (N.length = 60) := by
    rw [F.eql, lN]
    by_cases h : N.length = 60
    · rw [h]; rfl
    · rw [decide_eq_false h, beq_eq_false_iff_ne]; intro h'; exact h (by exact_mod_cast h')
  have c63 : ab .neq 63 0 = true := by rw [F.neq]; rfl
  have c62 : ab .neq 62 0 = true := by rw [F.neq]; rfl
  have c00 : ab .neq 0 0 = false := by rw [F.neq]; rfl
  cbv
  refine ⟨_, hC _ _ _ hCk, ?_⟩; cbv
  refine ⟨_, hC _ _ _ hCn, ?_⟩; cbv
  refine ⟨_, hC _ _ _ hOr, ?_⟩; cbv
  cases ok
  · rw [k0 rfl, c63]; cbv
    subst hV
    exact PLe.of_eq rfl
  cases nk
  · rw [k1 rfl rfl, c62]; cbv
    subst hV
    exact PLe.of_eq rfl
  rw [k2 rfl rfl, c00]; cbv
  have hsrch := hsrch rfl
  have hcl := hcl rfl
  simp only [if_true] at hV hins
  refine ⟨_, hC _ _ _ hsrch, ?_⟩; cbv
  cases an
  rotate_left
  · cbv
    subst hV
    exact PLe.of_eq rfl
  simp only [Bool.false_eq_true, if_false] at hV hins
  cbv
  cases c2 : ab .eql (ln eN) 60
  rotate_left
  · rw [c60] at c2
    have h60 : N.length = 60 := by simpa using c2
    rw [if_pos h60] at hV
    cbv
    subst hV
    exact PLe.of_eq rfl
  rw [c60] at c2
  have h60 : ¬ N.length = 60 := by simpa using c2
  rw [if_neg h60] at hV hins
  simp only [if_true] at hV hins
  have hins : DoesC Try.prog 25 49 7 eN [.int .i64 q, .list 7 [[.int .i64 n0, .int .i64 n1, .int .i64 n2, .int .i64 n3, .int .i64 n4, .int .i64 n5, .int .i64 n6]]] (.list 7 eM) := hins trivial
  cbv
  refine ⟨.agg [.own 70 24 eT, .own 35 9 eH, .own 49 7 eN], hC _ (.mark :: _) (.agg [.own 70 24 eT, .own 35 9 eH, .own 49 7 eN]) (show Can Try.prog _ (.mark :: _) (.agg [.own 70 24 eT, .own 35 9 eH, .own 49 7 eN]) from hcl), ?_⟩; cbv
  refine ⟨.list 7 eM, hC _ (.own 49 7 eN :: _) (.list 7 eM) (show Can Try.prog _ (.own 49 7 eN :: _) (.list 7 eM) from hins), ?_⟩; cbv
  subst hV
  exact PLe.of_eq rfl
end Go.Proofs.Ytjimjdhdnkhfnaa
