/- Contracts of functions of the program and of the reference, a calculus of states, and plain facts: a part of a proof. Own text. -/
import Derived.Test.YtjimjdhdnkhfnaaGreatJae
import Derived.Test.YtjimjdhdnkhfnaaGreatJao
import Derived.Test.YtjimjdhdnkhfnaaGreatJaq
import Derived.Lib.SliceRun
set_option linter.unusedVariables false
set_option linter.unusedSimpArgs false
set_option linter.unusedSectionVars false
set_option linter.unnecessarySimpa false
namespace Go.Proofs.YtjimjdhdnkhfnaaGreat
open Go Go.RowKit
set_option maxRecDepth 100000
set_option maxHeartbeats 2000000
theorem PLe.agg {ps qs : List PV} (h : ∀ im w us, RepL im w ps us → RepL im w qs us) : PLe (.agg ps) (.agg qs) := ⟨fun im w u hr => by
  simp only [RepP] at hr ⊢
  obtain ⟨us, rfl, h1⟩ := hr
  exact ⟨us, rfl, h _ _ _ h1⟩⟩
theorem RepL.leC {a b : PV} {ps qs : List PV} (h : PLe a b) (k : ∀ (im : Nat → Prop) (w : World) (us : List Value), RepL im w ps us → RepL im w qs us) : ∀ (im : Nat → Prop) (w : World) (us : List Value), RepL im w (a :: ps) us → RepL im w (b :: qs) us := fun im w us g => by
  simp only [RepL] at g ⊢
  obtain ⟨x, xs, rfl, h1, h2⟩ := g
  exact ⟨x, xs, rfl, h.h _ _ _ h1, k _ _ _ h2⟩
def zeroTP : PV := .agg (rowP zero9 ++ ([.nil, .nil, .int .i64 0] ++ rowP [0, 0, 0, 0]))
theorem zeroTP_le : PLe zeroTP (toldP zero9 [] [] 0 [0, 0, 0, 0]) := PLe.agg (by
  iterate 9 (refine RepL.leC (PLe.refl _) ?_)
  exact RepL.leC (PLe.nil 24) (RepL.leC (PLe.nil 7) (fun im w us h => h)))
def tolN (T H N : List (List Int)) (id d : Int) : PV :=
  if (staN T H N id d).2 = 0 then toldP (staN T H N id d).1 T (sayL N (staN T H N id d).1 d) d (lotN T N (staN T H N id d).1 d) else toldP zero9 [] [] 0 [0, 0, 0, 0]
theorem askE_or (T H N : List (List Int)) (d : Int) : orE [err (accOk T H N) 63, err (inB d 0 100000) 6] = askE T H N d := by
  unfold askE err
  cases accOk T H N <;> cases inB d 0 100000 <;> rfl
theorem oneOf_does {T H N : List (List Int)} (h1 : ∀ x ∈ T, x.length = 24) (h2 : ∀ x ∈ H, x.length = 9) (h3 : ∀ x ∈ N, x.length = 7) (id d : Int) :
    Does Tryz.prog 91 [accP T H N, .int .i64 id, .int .i64 d] (.tup [tolN T H N id d, .int .i64 (staN T H N id d).2]) := by
  obtain ⟨R, hR⟩ : ∃ R, PV.tup [tolN T H N id d, .int .i64 (staN T H N id d).2] = R := ⟨_, rfl⟩
  rw [hR]
  refine does_of (own := inPl) Tryz.func91 rfl Tryz.ntmps91 (congrArg Array.toList Tryz.results91) (fun us w => Tryz.call91 us w) hTT mixed (Nat.le_of_ble_eq_true rfl) ?_
  intro w0 im0 D0 S Cl hS hC ar har
  have har' := har
  obtain ⟨ai, ab, nz, inr, fi, pk, ix, ln, sb, eqi, sl, fits, mn, mx, nt, be, up, fu, mg, mh, ms⟩ := ar
  have F := facts_of har
  clear har
  have hCk := pcheck_does h1 h2 h3
  have hDy := checkDay_does d
  have hOr := orE_does [err (accOk T H N) 63, err (inB d 0 100000) 6]
  rw [askE_or] at hOr
  have hAok := @askE_ok T H N d
  have hcnt := fun (k u : Int) => counts_does k u d
  have htell : askE T H N d = 0 → ∀ x ∈ H, Does Tryz.prog 126 [accP T H N, .agg (rowP x), .int .i64 d] (toldP x T (sayL N x d) d (lotN T N x d)) := fun h x hx => by
    obtain ⟨ha, hd⟩ := hAok h
    have := tell_does h1 h2 h3 ha (h2 x hx) (accOk_H ha x hx) d hd
    rwa [lotQ_eq h1 (accOk_T ha) (accOk_N ha) (accOk_H ha x hx) hd] at this
  have hAlen : askE T H N d = 0 → H.length ≤ 60 := fun h => (accOk_len (hAok h).1).2.1
  have hRe : askE T H N d ≠ 0 → R = .tup [toldP zero9 [] [] 0 [0, 0, 0, 0], .int .i64 (askE T H N d)] := fun h => by
    rw [← hR]; unfold tolN staN; rw [if_neg h, if_neg h]
  have hRn : askE T H N d = 0 → H.find? (staP id d) = none → R = .tup [toldP zero9 [] [] 0 [0, 0, 0, 0], .int .i64 65] := fun h hf => by
    rw [← hR]; unfold tolN staN; rw [if_pos h, hf]; rfl
  have hRs : askE T H N d = 0 → ∀ x, H.find? (staP id d) = some x → R = .tup [toldP x T (sayL N x d) d (lotN T N x d), .int .i64 0] := fun h x hf => by
    rw [← hR]; unfold tolN staN; rw [if_pos h, hf]; rfl
  clear hR hAok
  generalize err (accOk T H N) 63 = e1 at *
  generalize err (inB d 0 100000) 6 = e2 at *
  generalize askE T H N d = q at *
  obtain ⟨eT, hT1⟩ : ∃ es, T.map rowP = es := ⟨_, rfl⟩
  obtain ⟨eH, hH1⟩ : ∃ es, H.map rowP = es := ⟨_, rfl⟩
  obtain ⟨eN, hN1⟩ : ∃ es, N.map rowP = es := ⟨_, rfl⟩
  obtain ⟨fp, hfp⟩ : ∃ fp, staP id d = fp := ⟨_, rfl⟩
  have hfpd : ∀ h, fp h = (h.getD 0 0 == id && cntB (h.getD 7 0) (h.getD 8 0) d) := fun h => by rw [← hfp]; rfl
  rw [hfp] at hRn hRs
  simp only [accP, hT1, hH1, hN1] at hCk htell ⊢
  cbv
  refine ⟨_, hC _ _ _ hCk, ?_⟩; cbv
  refine ⟨_, hC _ _ _ hDy, ?_⟩; cbv
  refine ⟨_, hC _ _ _ hOr, ?_⟩; cbv
  cases c0 : ab .neq q 0
  · have hq : q = 0 := by rw [F.neq] at c0; simpa using c0
    have hHl := hAlen hq
    have htell := htell hq
    have hRn := hRn hq
    have hRs := hRs hq
    clear hAlen hRe
    have hlnH : ln eH = H.length := by rw [F.ln, ← hH1]; simp
    cbv
    refine hS _ _ _ (sem_loop (fun x : Nat × Int => [sI 1 id, sI 2 d, sP 3 3, sP 6 6, sL 22 9 eH, sI 23 (ln eH), sI 24 x.2, bX 3 26 [cL 24 eT, cL 9 eH, cL 7 eN], bX 6 123 [cI 0, cI 0, cI 0, cI 0, cI 0, cI 0, cI 0, cI 0, cI 0, CV.p .nil, CV.p .nil, cI 0, cI 0, cI 0, cI 0, cI 0]]) (fun x => x.1 ≤ H.length ∧ x.2 = (x.1 : Int) ∧ (H.drop x.1).find? fp = H.find? fp) (fun x => H.length - x.1) (fun t => t) (0, 0) (fun t => t) ⟨by rfl, by cbv; try (repeat (first | exact rfl | exact trivial | refine ⟨?_, ?_⟩))⟩ ?_ ?_)
    · exact ⟨by simp, rfl, by simp⟩
    rintro ⟨m, r⟩ ⟨hm, hr, hf⟩
    dsimp only at hm hr hf
    have hradd : ai .add r 1 = ((m + 1 : Nat) : Int) := by rw [F.add r 1 (by omega) (by omega), hr]; simp
    refine sem_of (X := ⟨_, TT, ⟨0, 46, inPl⟩⟩) har' hTT mixed ?_
    intro S1 Cl1 hS1 hC1
    cbv
    by_cases hlt : m < H.length
    · have hb1 : ab .lss r (ln eH) = true := by rw [hlnH, F.lss, hr]; simpa using hlt
      have hg : ix eH r = some (rowP H[m]) := by rw [F.ix _ r m hr, ← hH1]; exact get_rows hlt
      have hmem := List.getElem_mem hlt
      rw [List.drop_eq_getElem_cons hlt] at hf
      have hte := htell _ hmem
      have hyes : fp H[m] = true → R = .tup [toldP H[m] T (sayL N H[m] d) d (lotN T N H[m] d), .int .i64 0] := fun h => hRs _ (by rw [← hf, List.find?_cons_of_pos h])
      have hno : fp H[m] = false → (H.drop (m + 1)).find? fp = H.find? fp := fun h => by rw [← hf, List.find?_cons_of_neg (by simp [h])]
      obtain ⟨x0, x1, x2, x3, x4, x5, x6, x7, x8, hx⟩ := list9 (h2 _ hmem)
      rw [hfpd, hx] at hyes hno
      rw [hx] at hg hte
      simp only [List.getD_cons_succ, List.getD_cons_zero] at hyes hno
      obtain ⟨l0, l1, l2, l3, hlo⟩ : ∃ l0 l1 l2 l3, lotN T N [x0, x1, x2, x3, x4, x5, x6, x7, x8] d = [l0, l1, l2, l3] := ⟨_, _, _, _, rfl⟩
      obtain ⟨eS, hS1⟩ : ∃ es, (sayL N [x0, x1, x2, x3, x4, x5, x6, x7, x8] d).map rowP = es := ⟨_, rfl⟩
      rw [hlo] at hte hyes
      simp only [toldP, hT1, hS1] at hte hyes
      have hc := hcnt x7 x8
      obtain ⟨cb, h4⟩ : ∃ z, cntB x7 x8 d = z := ⟨_, rfl⟩
      rw [h4] at hc hyes hno
      have hno2 : ab .eql x0 id = false → (H.drop (m + 1)).find? fp = H.find? fp := fun h => hno (by rw [F.eql] at h; simp at h; simp [h])
      have hno3 : cb = false → (H.drop (m + 1)).find? fp = H.find? fp := fun h => hno (by simp [h])
      have hyes2 : ab .eql x0 id = true → cb = true → R = .tup [.agg (rowP [x0, x1, x2, x3, x4, x5, x6, x7, x8] ++ ([.list 24 eT, .list 7 eS, .int .i64 d] ++ rowP [l0, l1, l2, l3])), .int .i64 0] := fun h h' => hyes (by rw [F.eql] at h; simp at h; simp [h, h'])
      clear hyes hno htell hRs hRn
      rw [hb1]; cbv
      repeat (rw [hg]; cbv)
      cases c1 : ab .eql x0 id
      · cbv
        exact ⟨(m + 1, ai .add r 1), ⟨hlt, hradd, hno2 c1⟩, by dsimp only; omega, ⟨by rfl, by cbv; try (repeat (first | exact rfl | exact trivial | refine ⟨?_, ?_⟩))⟩⟩
      · cbv
        refine ⟨_, hC1 _ _ _ hc, ?_⟩; cbv
        cases cb
        · cbv
          exact ⟨(m + 1, ai .add r 1), ⟨hlt, hradd, hno3 rfl⟩, by dsimp only; omega, ⟨by rfl, by cbv; try (repeat (first | exact rfl | exact trivial | refine ⟨?_, ?_⟩))⟩⟩
        · cbv
          refine ⟨_, hC1 _ _ _ hte, ?_⟩; cbv
          exact PLe.of_eq (hyes2 c1 rfl).symm
    · have hb1 : ab .lss r (ln eH) = false := by rw [hlnH, F.lss, hr]; simpa using hlt
      have hnone : H.find? fp = none := by rw [← hf, List.drop_of_length_le (by omega)]; rfl
      rw [hb1]; cbv
      rw [hRn hnone]
      exact PLe.tup2 zeroTP_le (PLe.refl _)
  · have hq : q ≠ 0 := by rw [F.neq] at c0; simpa using c0
    cbv
    rw [hRe hq]
    exact PLe.tup2 zeroTP_le (PLe.refl _)
theorem lotN_stop {T N : List (List Int)} (h1 : ∀ x ∈ T, x.length = 24) (hok : ∀ x ∈ T, tarOk x = true) (hN : ∀ n ∈ N, noteOk n = true) {h : List Int} (hhk : heldOk h = true) {d : Int} (hd : 0 ≤ d ∧ d ≤ 100000) : -1 ≤ (lotN T N h d).getD 1 0 := by
  rw [← lotQ_eq h1 hok hN hhk hd]
  exact (firN_in [1, 3] fun n hn => hN n (List.mem_filter.1 hn).1).1
theorem chgQ_eq {T N : List (List Int)} {h : List Int} {d : Int} (hd : 0 ≤ d ∧ d ≤ 100000) : chgQ T h d (lotN T N h d) = chgN T N h d := by
  unfold chgQ chgN
  by_cases hl : d < h.getD 6 0
  · have h2 := lotN_day T N h d
    have hlas : lasN (lotN T N h d) d ≤ d := by
      unfold lasN
      split
      · omega
      · split <;> omega
    have e : dayL (h.getD 6 0) (lasN (lotN T N h d) d) = [] := by
      unfold dayL dayK
      rw [show (lasN (lotN T N h d) d - h.getD 6 0 + 1).toNat = 0 by omega]; rfl
    rw [if_pos hl, if_neg (by omega), e]; rfl
  · rw [if_neg hl, if_pos (by omega)]
theorem dueQ_eq {T N : List (List Int)} {h : List Int} {d : Int} (hd : 0 ≤ d ∧ d ≤ 100000) : dueQ T h d (lotN T N h d) = dueN T N h d := by
  unfold dueQ dueN payQ
  rw [chgQ_eq hd]
  by_cases h2 : (lotN T N h d).getD 2 0 = 2
  · rw [if_pos h2, if_pos h2]
  · rw [if_neg h2, if_neg h2]
    by_cases h3 : (lotN T N h d).getD 2 0 = 3 ∨ (lotN T N h d).getD 0 0 = 0
    · rw [if_pos h3, if_pos h3]
      unfold dueP
      simp
    · rw [if_neg h3, if_neg h3]
structure Good (T N : List (List Int)) (h : List Int) (d : Int) : Prop where
  len : h.length = 9
  held : heldOk h = true
  tar : ∀ x ∈ T, tarOk x = true
  note : ∀ x ∈ N, noteOk x = true
  day : 0 ≤ d ∧ d ≤ 100000
  sixty : N.length ≤ 60
theorem good_of {T H N : List (List Int)} (h2 : ∀ x ∈ H, x.length = 9) {id d : Int} (h : (staN T H N id d).2 = 0) : Good T N (staN T H N id d).1 d := by
  obtain ⟨a, b, c, e, _⟩ := staN_ok h
  exact ⟨h2 _ c, e, accOk_T a, accOk_N a, b, (accOk_len a).2.2⟩
theorem Good.charge {T N : List (List Int)} {h : List Int} {d : Int} (g : Good T N h d) (h1 : ∀ x ∈ T, x.length = 24) (h3 : ∀ x ∈ N, x.length = 7) :
    Does Tryz.prog 98 [toldP h T (sayL N h d) d (lotN T N h d)] (.agg (rowP (chgN T N h d))) := by
  have hday := lotN_day T N h d
  have := g.day
  have hl := lasN_in T N h g.day
  rw [← chgQ_eq g.day]
  exact charge_does h1 (fun x hx => h3 x (List.mem_filter.1 hx).1) g.tar g.len g.held rfl (lotN_stop h1 g.tar g.note g.held g.day) (by omega) (by omega)
theorem Good.due {T N : List (List Int)} {h : List Int} {d : Int} (g : Good T N h d) (h1 : ∀ x ∈ T, x.length = 24) (h3 : ∀ x ∈ N, x.length = 7) :
    Does Tryz.prog 100 [toldP h T (sayL N h d) d (lotN T N h d)] (.agg (rowP (dueN T N h d))) := by
  have hday := lotN_day T N h d
  have := g.day
  have hl := lasN_in T N h g.day
  have hc := chgN_in (N := N) h1 g.tar g.held g.day
  rw [← dueQ_eq g.day]
  exact pdue_does h1 (fun x hx => h3 x (List.mem_filter.1 hx).1) g.tar g.len g.held rfl (lotN_stop h1 g.tar g.note g.held g.day) (by omega) (by omega) (lotN_own g.note h d) (by rw [chgQ_eq g.day]; unfold chIn; omega)
theorem fed1_does (x : Int) : Does Tryz.prog 96 [.int .i64 x] (.int .i64 1) := by
  refine does_of (own := inPl) Tryz.func96 rfl Tryz.ntmps96 (congrArg Array.toList Tryz.results96) (fun us w => Tryz.call96 us w) hTT mixed (Nat.le_of_ble_eq_true rfl) ?_
  intro w0 im0 D0 S Cl hS hC ar har
  have har' := har
  obtain ⟨ai, ab, nz, inr, fi, pk, ix, ln, sb, eqi, sl, fits, mn, mx, nt, be, up, fu, mg, mh, ms⟩ := ar
  have F := facts_of har
  clear har
  cbv
  exact PLe.refl _
theorem sum_one (l : List Int) : sumL (fun _ => 1) l = (l.length : Int) := by
  unfold sumL
  induction l with
  | nil => rfl
  | cons a l ih => simp only [List.map_cons, List.sum_cons, ih, List.length_cons]; omega
theorem Good.fed {T N : List (List Int)} {h : List Int} {d : Int} (g : Good T N h d) (h1 : ∀ x ∈ T, x.length = 24) (h3 : ∀ x ∈ N, x.length = 7) :
    Does Tryz.prog 95 [toldP h T (sayL N h d) d (lotN T N h d), .fn (.func 96) [] []] (.int .i64 ((feN T N d h).getD 0 0)) := by
  have hday := lotN_day T N h d
  have := g.day
  have hl := lasN_in T N h g.day
  obtain ⟨b2, b3, b4, b5, b6⟩ := heldOk_bounds g.held
  have e : (feN T N d h).getD 0 0 = sumL (fun _ => 1) (dayL (h.getD 6 0) (lasN (lotN T N h d) d)) := by
    rw [sum_one]
    show max (lasN (lotN T N h d) d - h.getD 6 0 + 1) 0 = _
    simp only [dayL, dayK, List.length_map, List.length_range]
    omega
  rw [e]
  exact sum_does g.len h1 (fun x hx => h3 x (List.mem_filter.1 hx).1) rfl (by omega) b6 (by omega) 96 [] [] (fun _ => 1) (fun x _ _ => fed1_does x) (fun us w => Tryz.call96 us w) (fun _ => by omega)
section
variable {T H N : List (List Int)} (h1 : ∀ x ∈ T, x.length = 24) (h2 : ∀ x ∈ H, x.length = 9) (h3 : ∀ x ∈ N, x.length = 7)
include h1 h2 h3
theorem pLot_does (id d : Int) : Does Tryz.prog 30 [accP T H N, .int .i64 id, .int .i64 d] (.tup [.agg (rowP (lotR T H N id d).1), .int .i64 (lotR T H N id d).2]) := by
  obtain ⟨R, hR⟩ : ∃ R, PV.tup [.agg (rowP (lotR T H N id d).1), .int .i64 (lotR T H N id d).2] = R := ⟨_, rfl⟩
  rw [hR]
  have ho := oneOf_does h1 h2 h3 id d
  have hg := @good_of T H N h2 id d
  unfold lotR stR at hR
  unfold tolN at ho
  obtain ⟨⟨s, e⟩, hp⟩ : ∃ p, staN T H N id d = p := ⟨_, rfl⟩
  rw [hp] at ho hg hR
  dsimp only at ho hg hR
  refine does_of (own := inPl) Tryz.func30 rfl Tryz.ntmps30 (congrArg Array.toList Tryz.results30) (fun us w => Tryz.call30 us w) hTT mixed (Nat.le_of_ble_eq_true rfl) ?_
  intro w0 im0 D0 S Cl hS hC ar har
  have har' := har
  obtain ⟨ai, ab, nz, inr, fi, pk, ix, ln, sb, eqi, sl, fits, mn, mx, nt, be, up, fu, mg, mh, ms⟩ := ar
  have F := facts_of har
  clear har
  obtain ⟨eT, hT1⟩ : ∃ es, T.map rowP = es := ⟨_, rfl⟩
  obtain ⟨eH, hH1⟩ : ∃ es, H.map rowP = es := ⟨_, rfl⟩
  obtain ⟨eN, hN1⟩ : ∃ es, N.map rowP = es := ⟨_, rfl⟩
  obtain ⟨l0, l1, l2, l3, hlo⟩ : ∃ l0 l1 l2 l3, lotN T N s d = [l0, l1, l2, l3] := ⟨_, _, _, _, rfl⟩
  obtain ⟨eS, hS1⟩ : ∃ es, (sayL N s d).map rowP = es := ⟨_, rfl⟩
  rw [hlo] at ho hR
  simp only [accP, toldP, hT1, hH1, hN1, hS1] at ho ⊢
  by_cases he : e = 0
  · have g := hg he
    rw [if_pos he] at ho hR
    obtain ⟨x0, x1, x2, x3, x4, x5, x6, x7, x8, rfl⟩ := list9 g.len
    clear hS1 hp hlo hg g
    cbv
    refine ⟨_, hC _ _ _ ho, ?_⟩; cbv
    rw [← hR, he]
    exact PLe.refl _
  · rw [if_neg he] at ho hR
    clear hS1 hp hlo hg
    cbv
    refine ⟨_, hC _ _ _ ho, ?_⟩; cbv
    rw [← hR]
    exact PLe.refl _
theorem pFed_does (id d : Int) : Does Tryz.prog 32 [accP T H N, .int .i64 id, .int .i64 d] (.tup [.int .i64 ((stR [0] (feN T N d) (staN T H N id d)).1.getD 0 0), .int .i64 (stR [0] (feN T N d) (staN T H N id d)).2]) := by
  obtain ⟨R, hR⟩ : ∃ R, PV.tup [.int .i64 ((stR [0] (feN T N d) (staN T H N id d)).1.getD 0 0), .int .i64 (stR [0] (feN T N d) (staN T H N id d)).2] = R := ⟨_, rfl⟩
  rw [hR]
  have ho := oneOf_does h1 h2 h3 id d
  have hg := @good_of T H N h2 id d
  unfold stR at hR
  unfold tolN at ho
  obtain ⟨⟨s, e⟩, hp⟩ : ∃ p, staN T H N id d = p := ⟨_, rfl⟩
  rw [hp] at ho hg hR
  dsimp only at ho hg hR
  have hk := fun (h : e = 0) => (hg h).fed h1 h3
  obtain ⟨fv, hfv⟩ : ∃ v, feN T N d s = [v] := ⟨_, rfl⟩
  rw [hfv] at hk hR
  refine does_of (own := inPl) Tryz.func32 rfl Tryz.ntmps32 (congrArg Array.toList Tryz.results32) (fun us w => Tryz.call32 us w) hTT mixed (Nat.le_of_ble_eq_true rfl) ?_
  intro w0 im0 D0 S Cl hS hC ar har
  have har' := har
  obtain ⟨ai, ab, nz, inr, fi, pk, ix, ln, sb, eqi, sl, fits, mn, mx, nt, be, up, fu, mg, mh, ms⟩ := ar
  have F := facts_of har
  clear har
  obtain ⟨eT, hT1⟩ : ∃ es, T.map rowP = es := ⟨_, rfl⟩
  obtain ⟨eH, hH1⟩ : ∃ es, H.map rowP = es := ⟨_, rfl⟩
  obtain ⟨eN, hN1⟩ : ∃ es, N.map rowP = es := ⟨_, rfl⟩
  obtain ⟨l0, l1, l2, l3, hlo⟩ : ∃ l0 l1 l2 l3, lotN T N s d = [l0, l1, l2, l3] := ⟨_, _, _, _, rfl⟩
  obtain ⟨eS, hS1⟩ : ∃ es, (sayL N s d).map rowP = es := ⟨_, rfl⟩
  rw [hlo] at ho hk
  simp only [accP, toldP, hT1, hH1, hN1, hS1] at ho hk ⊢
  by_cases he : e = 0
  · have g := hg he
    have hk := hk he
    rw [if_pos he] at ho hR
    have hc : ab .neq e 0 = false := by rw [F.neq, he]; rfl
    obtain ⟨x0, x1, x2, x3, x4, x5, x6, x7, x8, rfl⟩ := list9 g.len
    clear hS1 hp hlo hg g
    cbv
    refine ⟨_, hC _ _ _ ho, ?_⟩; cbv
    rw [hc]; cbv
    refine ⟨_, hC _ _ _ hk, ?_⟩; cbv
    rw [← hR]
    exact PLe.refl _
  · rw [if_neg he] at ho hR
    have hc : ab .neq e 0 = true := by rw [F.neq]; simpa using he
    clear hS1 hp hlo hg hk
    cbv
    refine ⟨_, hC _ _ _ ho, ?_⟩; cbv
    rw [hc]; cbv
    rw [← hR]
    exact PLe.refl _
theorem pCharged_does (id d : Int) : Does Tryz.prog 34 [accP T H N, .int .i64 id, .int .i64 d] (.tup [.agg (rowP (stR [0, 0, 0] (fun h => chgN T N h d) (staN T H N id d)).1), .int .i64 (stR [0, 0, 0] (fun h => chgN T N h d) (staN T H N id d)).2]) := by
  obtain ⟨R, hR⟩ : ∃ R, PV.tup [.agg (rowP (stR [0, 0, 0] (fun h => chgN T N h d) (staN T H N id d)).1), .int .i64 (stR [0, 0, 0] (fun h => chgN T N h d) (staN T H N id d)).2] = R := ⟨_, rfl⟩
  rw [hR]
  have ho := oneOf_does h1 h2 h3 id d
  have hg := @good_of T H N h2 id d
  unfold stR at hR
  unfold tolN at ho
  obtain ⟨⟨s, e⟩, hp⟩ : ∃ p, staN T H N id d = p := ⟨_, rfl⟩
  rw [hp] at ho hg hR
  dsimp only at ho hg hR
  have hk := fun (h : e = 0) => (hg h).charge h1 h3
  obtain ⟨g0, g1, g2, hcg⟩ : ∃ g0 g1 g2, chgN T N s d = [g0, g1, g2] := by unfold chgN; split <;> exact ⟨_, _, _, rfl⟩
  rw [hcg] at hk hR
  refine does_of (own := inPl) Tryz.func34 rfl Tryz.ntmps34 (congrArg Array.toList Tryz.results34) (fun us w => Tryz.call34 us w) hTT mixed (Nat.le_of_ble_eq_true rfl) ?_
  intro w0 im0 D0 S Cl hS hC ar har
  have har' := har
  obtain ⟨ai, ab, nz, inr, fi, pk, ix, ln, sb, eqi, sl, fits, mn, mx, nt, be, up, fu, mg, mh, ms⟩ := ar
  have F := facts_of har
  clear har
  obtain ⟨eT, hT1⟩ : ∃ es, T.map rowP = es := ⟨_, rfl⟩
  obtain ⟨eH, hH1⟩ : ∃ es, H.map rowP = es := ⟨_, rfl⟩
  obtain ⟨eN, hN1⟩ : ∃ es, N.map rowP = es := ⟨_, rfl⟩
  obtain ⟨l0, l1, l2, l3, hlo⟩ : ∃ l0 l1 l2 l3, lotN T N s d = [l0, l1, l2, l3] := ⟨_, _, _, _, rfl⟩
  obtain ⟨eS, hS1⟩ : ∃ es, (sayL N s d).map rowP = es := ⟨_, rfl⟩
  rw [hlo] at ho hk
  simp only [accP, toldP, hT1, hH1, hN1, hS1] at ho hk ⊢
  by_cases he : e = 0
  · have g := hg he
    have hk := hk he
    rw [if_pos he] at ho hR
    have hc : ab .neq e 0 = false := by rw [F.neq, he]; rfl
    obtain ⟨x0, x1, x2, x3, x4, x5, x6, x7, x8, rfl⟩ := list9 g.len
    clear hS1 hp hlo hg g
    cbv
    refine ⟨_, hC _ _ _ ho, ?_⟩; cbv
    rw [hc]; cbv
    refine ⟨_, hC _ _ _ hk, ?_⟩; cbv
    rw [← hR]
    exact PLe.refl _
  · rw [if_neg he] at ho hR
    have hc : ab .neq e 0 = true := by rw [F.neq]; simpa using he
    clear hS1 hp hlo hg hk
    cbv
    refine ⟨_, hC _ _ _ ho, ?_⟩; cbv
    rw [hc]; cbv
    rw [← hR]
    exact PLe.refl _
theorem pDues_does (id d : Int) : Does Tryz.prog 36 [accP T H N, .int .i64 id, .int .i64 d] (.tup [.agg (rowP (stR [0, 0, 0, 0] (fun h => dueN T N h d) (staN T H N id d)).1), .int .i64 (stR [0, 0, 0, 0] (fun h => dueN T N h d) (staN T H N id d)).2]) := by
  obtain ⟨R, hR⟩ : ∃ R, PV.tup [.agg (rowP (stR [0, 0, 0, 0] (fun h => dueN T N h d) (staN T H N id d)).1), .int .i64 (stR [0, 0, 0, 0] (fun h => dueN T N h d) (staN T H N id d)).2] = R := ⟨_, rfl⟩
  rw [hR]
  have ho := oneOf_does h1 h2 h3 id d
  have hg := @good_of T H N h2 id d
  unfold stR at hR
  unfold tolN at ho
  obtain ⟨⟨s, e⟩, hp⟩ : ∃ p, staN T H N id d = p := ⟨_, rfl⟩
  rw [hp] at ho hg hR
  dsimp only at ho hg hR
  have hk := fun (h : e = 0) => (hg h).due h1 h3
  obtain ⟨g0, g1, g2, g3, hcg⟩ : ∃ g0 g1 g2 g3, dueN T N s d = [g0, g1, g2, g3] := by
    unfold dueN dueP; split
    · exact ⟨_, _, _, _, rfl⟩
    · split <;> exact ⟨_, _, _, _, rfl⟩
  rw [hcg] at hk hR
  refine does_of (own := inPl) Tryz.func36 rfl Tryz.ntmps36 (congrArg Array.toList Tryz.results36) (fun us w => Tryz.call36 us w) hTT mixed (Nat.le_of_ble_eq_true rfl) ?_
  intro w0 im0 D0 S Cl hS hC ar har
  have har' := har
  obtain ⟨ai, ab, nz, inr, fi, pk, ix, ln, sb, eqi, sl, fits, mn, mx, nt, be, up, fu, mg, mh, ms⟩ := ar
  have F := facts_of har
  clear har
  obtain ⟨eT, hT1⟩ : ∃ es, T.map rowP = es := ⟨_, rfl⟩
  obtain ⟨eH, hH1⟩ : ∃ es, H.map rowP = es := ⟨_, rfl⟩
  obtain ⟨eN, hN1⟩ : ∃ es, N.map rowP = es := ⟨_, rfl⟩
  obtain ⟨l0, l1, l2, l3, hlo⟩ : ∃ l0 l1 l2 l3, lotN T N s d = [l0, l1, l2, l3] := ⟨_, _, _, _, rfl⟩
  obtain ⟨eS, hS1⟩ : ∃ es, (sayL N s d).map rowP = es := ⟨_, rfl⟩
  rw [hlo] at ho hk
  simp only [accP, toldP, hT1, hH1, hN1, hS1] at ho hk ⊢
  by_cases he : e = 0
  · have g := hg he
    have hk := hk he
    rw [if_pos he] at ho hR
    have hc : ab .neq e 0 = false := by rw [F.neq, he]; rfl
    obtain ⟨x0, x1, x2, x3, x4, x5, x6, x7, x8, rfl⟩ := list9 g.len
    clear hS1 hp hlo hg g
    cbv
    refine ⟨_, hC _ _ _ ho, ?_⟩; cbv
    rw [hc]; cbv
    refine ⟨_, hC _ _ _ hk, ?_⟩; cbv
    rw [← hR]
    exact PLe.refl _
  · rw [if_neg he] at ho hR
    have hc : ab .neq e 0 = true := by rw [F.neq]; simpa using he
    clear hS1 hp hlo hg hk
    cbv
    refine ⟨_, hC _ _ _ ho, ?_⟩; cbv
    rw [hc]; cbv
    rw [← hR]
    exact PLe.refl _
end
theorem tolN_form {T H N : List (List Int)} (h2 : ∀ x ∈ H, x.length = 9) (h3 : ∀ x ∈ N, x.length = 7) (id d : Int) :
    ∃ h TA L kn lt, tolN T H N id d = toldP h TA L kn lt ∧ h.length = 9 ∧ lt.length = 4 ∧ (notN T H N id d).1 = L.map (fun n => n.getD 0 0) ∧ (∀ x ∈ L, x.length = 7) ∧ L.length ≤ 60 := by
  unfold tolN notN stR
  by_cases h : (staN T H N id d).2 = 0
  · have g := good_of (N := N) h2 h
    have hl := sayL_len N (staN T H N id d).1 d
    have := g.sixty
    rw [if_pos h, if_pos h]
    exact ⟨_, _, _, _, _, rfl, g.len, rfl, rfl, fun x hx => h3 x (List.mem_filter.1 hx).1, by omega⟩
  · rw [if_neg h, if_neg h]
    exact ⟨_, _, _, _, _, rfl, rfl, rfl, rfl, by simp, by simp⟩
theorem pNotes_does {T H N : List (List Int)} (h1 : ∀ x ∈ T, x.length = 24) (h2 : ∀ x ∈ H, x.length = 9) (h3 : ∀ x ∈ N, x.length = 7) (id d : Int) :
    Does Tryz.prog 27 [accP T H N, .int .i64 id, .int .i64 d] (.tup [.list 1 (numP (notN T H N id d).1), .int .i64 (notN T H N id d).2]) := by
  have ho := oneOf_does h1 h2 h3 id d
  have hn2 : (notN T H N id d).2 = (staN T H N id d).2 := by
    unfold notN stR; split
    · rename_i h; exact h.symm
    · rfl
  obtain ⟨h, TA, L, kn, lt, e1, hh, hl, e2, hL7, hL60⟩ := tolN_form (T := T) h2 h3 id d
  rw [e1] at ho
  rw [hn2, e2]
  generalize (staN T H N id d).2 = e at *
  obtain ⟨V, hV⟩ : ∃ V, PV.tup [.list 1 (numP (L.map fun n => n.getD 0 0)), .int .i64 e] = V := ⟨_, rfl⟩
  rw [hV]
  clear e1 e2 hn2
  refine does_of (own := inPl) Tryz.func27 rfl Tryz.ntmps27 (congrArg Array.toList Tryz.results27) (fun us w => Tryz.call27 us w) hTT mixed (Nat.le_of_ble_eq_true rfl) ?_
  intro w0 im0 D0 S Cl hS hC ar har
  have har' := har
  obtain ⟨ai, ab, nz, inr, fi, pk, ix, ln, sb, eqi, sl, fits, mn, mx, nt, be, up, fu, mg, mh, ms⟩ := ar
  have F := facts_of har
  clear har
  obtain ⟨a, b, c, f, g, i', j, k', l, rfl⟩ := list9 hh
  obtain ⟨l0, l1, l2, l3, rfl⟩ := list4 hl
  obtain ⟨eT, hT⟩ : ∃ es, T.map rowP = es := ⟨_, rfl⟩
  obtain ⟨eH, hH⟩ : ∃ es, H.map rowP = es := ⟨_, rfl⟩
  obtain ⟨eN, hN⟩ : ∃ es, N.map rowP = es := ⟨_, rfl⟩
  obtain ⟨eA, hA⟩ : ∃ es, TA.map rowP = es := ⟨_, rfl⟩
  obtain ⟨eL, hEL⟩ : ∃ es, L.map rowP = es := ⟨_, rfl⟩
  simp only [accP, toldP, hT, hH, hN, hA, hEL] at ho ⊢
  cbv
  refine ⟨_, hC _ _ _ ho, ?_⟩; cbv
  refine hS _ _ _ (sem_mkRow 10 1000 3 1 (by rfl) (by rfl) (sem_loopR (fun x : Nat × Int × List (List PV) => [sI 9 e, sR 10 1000, sL 21 7 eL, sI 22 (ln eL), sI 23 x.2.1, rW 1000 3 1 x.2.2]) (fun x => x.1 ≤ L.length ∧ x.2.1 = (x.1 : Int) ∧ x.2.2 = numP ((L.take x.1).map fun n => n.getD 0 0)) (fun x => L.length - x.1) (0, 0, []) (fun t => t) ⟨by rfl, by cbv; try (repeat (first | exact rfl | exact trivial | refine ⟨?_, ?_⟩))⟩ ?_ ?_))
  · exact ⟨by simp, rfl, rfl⟩
  rintro ⟨k, i, es⟩ ⟨hk, hi, hes⟩
  dsimp only at hk hi hes
  have hadd : ai .add i 1 = ((k + 1 : Nat) : Int) := by rw [F.add i 1 (by omega) (by omega), hi]; simp
  have hlen : ln eL = L.length := by rw [F.ln, ← hEL]; simp
  have hfit : ∀ x, fits 8 es [x] = true := fun x => F.fits _ _ _ (by
    rw [hes, numP_len]; simp only [List.length_map, List.length_take, List.length_singleton]; omega)
  refine sem_of (X := ⟨_, TT, ⟨0, 35, inPl⟩⟩) har' hTT mixed ?_
  intro S1 Cl1 hS1 hC1
  cbv
  by_cases hlt : k < L.length
  · have hb : ab .lss i (ln eL) = true := by rw [hlen, F.lss, hi]; simpa using hlt
    have hg : ix eL i = some (rowP L[k]) := by rw [F.ix _ i k hi, ← hEL]; exact get_rows hlt
    have hnext : es ++ [[PV.int .i64 (L[k].getD 0 0)]] = numP ((L.take (k + 1)).map fun n => n.getD 0 0) := by rw [take_last hlt, List.map_append, hes]; exact (numP_snoc _ _).symm
    obtain ⟨y0, y1, y2, y3, y4, y5, y6, hx⟩ := list7P (hL7 _ (List.getElem_mem hlt))
    rw [hx] at hg hnext
    simp only [List.getD_cons_zero] at hnext
    rw [hb]; cbv
    rw [hg]; cbv
    rw [hfit]; cbv
    exact ⟨(k + 1, ai .add i 1, es ++ [[PV.int .i64 y0]]), (fun t => bif Nat.beq t 1000 then 31 else t), ⟨hlt, hadd, hnext⟩, by dsimp only; omega, ⟨by rfl, by cbv; try (repeat (first | exact rfl | exact trivial | refine ⟨?_, ?_⟩))⟩⟩
  · have hb : ab .lss i (ln eL) = false := by rw [hlen, F.lss, hi]; simpa using hlt
    rw [hb]; cbv
    subst hV
    refine PLe.of_eq ?_
    rw [hes, List.take_of_length_le (by omega)]
def tolC (h : List Int) (T N : List (List Int)) (d : Int) : List PV := rowP h ++ ([.list 24 (T.map rowP), .list 7 ((sayL N h d).map rowP), .int .i64 d] ++ rowP (lotN T N h d))
def tolL (T H N : List (List Int)) (d : Int) : List (List PV) := (H.filter (cntH d)).map fun h => tolC h T N d
theorem tellAll_does {T H N : List (List Int)} (h1 : ∀ x ∈ T, x.length = 24) (h2 : ∀ x ∈ H, x.length = 9) (h3 : ∀ x ∈ N, x.length = 7) {d : Int} (hq : askE T H N d = 0) :
    Does Tryz.prog 87 [accP T H N, .int .i64 d] (.list 16 (tolL T H N d)) := by
  obtain ⟨V, hV⟩ : ∃ V, PV.list 16 (tolL T H N d) = V := ⟨_, rfl⟩
  rw [hV]
  obtain ⟨ha, hd⟩ := askE_ok hq
  have h60 := (accOk_len ha).2.1
  have htell : ∀ x ∈ H, Does Tryz.prog 126 [accP T H N, .agg (rowP x), .int .i64 d] (.agg (tolC x T N d)) := fun x hx => by
    have := tell_does h1 h2 h3 ha (h2 x hx) (accOk_H ha x hx) d hd
    rwa [lotQ_eq h1 (accOk_T ha) (accOk_N ha) (accOk_H ha x hx) hd] at this
  have hcnt := fun (k u : Int) => counts_does k u d
  have hTK : ∀ k, k < H.length → tolL T (H.take (k + 1)) N d = if cntH d (H.getD k []) = true then tolL T (H.take k) N d ++ [tolC (H.getD k []) T N d] else tolL T (H.take k) N d := fun k hk => by
    unfold tolL
    rw [take_last hk, List.filter_append, List.getD_eq_getElem?_getD, List.getElem?_eq_getElem hk, Option.getD_some]
    by_cases hc : cntH d H[k] = true
    · simp [hc]
    · simp [hc]
  have hTlen : ∀ k, (tolL T (H.take k) N d).length ≤ H.length := fun k => by
    unfold tolL
    have := List.length_filter_le (cntH d) (H.take k)
    simp only [List.length_map, List.length_take] at this ⊢; omega
  have hTall : tolL T (H.take H.length) N d = tolL T H N d := by rw [List.take_length]
  have hT0 : tolL T (H.take 0) N d = [] := rfl
  obtain ⟨tk, htk⟩ : ∃ tk : Nat → List (List PV), (fun k => tolL T (H.take k) N d) = tk := ⟨_, rfl⟩
  have htkd : ∀ k, tolL T (H.take k) N d = tk k := fun k => by rw [← htk]
  rw [← hTall] at hV
  simp only [htkd] at hTK hTlen hT0 hV
  clear htkd htk hTall
  refine does_of (own := inPl) Tryz.func87 rfl Tryz.ntmps87 (congrArg Array.toList Tryz.results87) (fun us w => Tryz.call87 us w) hTT mixed (Nat.le_of_ble_eq_true rfl) ?_
  intro w0 im0 D0 S Cl hS hC ar har
  have har' := har
  obtain ⟨ai, ab, nz, inr, fi, pk, ix, ln, sb, eqi, sl, fits, mn, mx, nt, be, up, fu, mg, mh, ms⟩ := ar
  have F := facts_of har
  clear har
  obtain ⟨eT, hT1⟩ : ∃ es, T.map rowP = es := ⟨_, rfl⟩
  obtain ⟨eH, hH1⟩ : ∃ es, H.map rowP = es := ⟨_, rfl⟩
  obtain ⟨eN, hN1⟩ : ∃ es, N.map rowP = es := ⟨_, rfl⟩
  have hlnH : ln eH = H.length := by rw [F.ln, ← hH1]; simp
  simp only [accP, hT1, hH1, hN1] at htell ⊢
  cbv
  refine hS _ _ _ (sem_mkRow 5 1000 123 16 (by rfl) (by rfl) (sem_loopR (fun x : Nat × Int × List (List PV) => [sI 1 d, sP 2 2, sR 5 1000, sL 9 9 eH, sI 10 (ln eH), sI 11 x.2.1, bX 2 26 [cL 24 eT, cL 9 eH, cL 7 eN], rW 1000 123 16 x.2.2]) (fun x => x.1 ≤ H.length ∧ x.2.1 = (x.1 : Int) ∧ x.2.2 = tk x.1) (fun x => H.length - x.1) (0, 0, []) (fun t => t) ⟨by rfl, by cbv; try (repeat (first | exact rfl | exact trivial | refine ⟨?_, ?_⟩))⟩ ?_ ?_))
  · exact ⟨by simp, rfl, hT0.symm⟩
  rintro ⟨m, r, es⟩ ⟨hm, hr, hes⟩
  dsimp only at hm hr hes
  have hradd : ai .add r 1 = ((m + 1 : Nat) : Int) := by rw [F.add r 1 (by omega) (by omega), hr]; simp
  have hfit : ∀ x, fits 160 es [x] = true := fun x => F.fits _ _ _ (by
    have := hTlen m
    rw [hes]; simp only [List.length_singleton]; omega)
  refine sem_of (X := ⟨_, TT, ⟨0, 30, inPl⟩⟩) har' hTT mixed ?_
  intro S1 Cl1 hS1 hC1
  cbv
  by_cases hlt : m < H.length
  · have hb1 : ab .lss r (ln eH) = true := by rw [hlnH, F.lss, hr]; simpa using hlt
    have hg : ix eH r = some (rowP H[m]) := by rw [F.ix _ r m hr, ← hH1]; exact get_rows hlt
    have hte := htell _ (List.getElem_mem hlt)
    have hnext := hTK m hlt
    rw [List.getD_eq_getElem?_getD, List.getElem?_eq_getElem hlt, Option.getD_some] at hnext
    obtain ⟨x0, x1, x2, x3, x4, x5, x6, x7, x8, hx⟩ := list9 (h2 _ (List.getElem_mem hlt))
    rw [hx] at hg hte hnext
    obtain ⟨l0, l1, l2, l3, hlo⟩ : ∃ l0 l1 l2 l3, lotN T N [x0, x1, x2, x3, x4, x5, x6, x7, x8] d = [l0, l1, l2, l3] := ⟨_, _, _, _, rfl⟩
    obtain ⟨eS, hS1⟩ : ∃ es, (sayL N [x0, x1, x2, x3, x4, x5, x6, x7, x8] d).map rowP = es := ⟨_, rfl⟩
    simp only [tolC, hlo, hT1, hS1, cntH, List.getD_cons_succ, List.getD_cons_zero] at hte hnext
    have hc := hcnt x7 x8
    obtain ⟨cb, h4⟩ : ∃ z, cntB x7 x8 d = z := ⟨_, rfl⟩
    rw [h4] at hc hnext
    have hyes : cb = true → es ++ [rowP [x0, x1, x2, x3, x4, x5, x6, x7, x8] ++ ([.list 24 eT, .list 7 eS, .int .i64 d] ++ rowP [l0, l1, l2, l3])] = tk (m + 1) := fun h => by rw [hnext, if_pos h, hes]
    have hno : cb = false → es = tk (m + 1) := fun h => by rw [hnext, if_neg (by simp [h]), hes]
    clear hnext htell hTK hTlen
    rw [hb1]; cbv
    repeat (rw [hg]; cbv)
    refine ⟨_, hC1 _ _ _ hc, ?_⟩; cbv
    cases cb
    · cbv
      exact ⟨(m + 1, ai .add r 1, es), (fun t => t), ⟨hlt, hradd, hno rfl⟩, by dsimp only; omega, ⟨by rfl, by cbv; try (repeat (first | exact rfl | exact trivial | refine ⟨?_, ?_⟩))⟩⟩
    · cbv
      refine ⟨_, hC1 _ _ _ hte, ?_⟩; cbv
      rw [hfit]; cbv
      exact ⟨(m + 1, ai .add r 1, es ++ [rowP [x0, x1, x2, x3, x4, x5, x6, x7, x8] ++ ([.list 24 eT, .list 7 eS, .int .i64 d] ++ rowP [l0, l1, l2, l3])]), (fun t => bif Nat.beq t 1000 then 27 else t), ⟨hlt, hradd, hyes rfl⟩, by dsimp only; omega, ⟨by rfl, by cbv; try (repeat (first | exact rfl | exact trivial | refine ⟨?_, ?_⟩))⟩⟩
  · have hb1 : ab .lss r (ln eH) = false := by rw [hlnH, F.lss, hr]; simpa using hlt
    have hmE : m = H.length := by omega
    rw [hb1]; cbv
    subst hV
    refine PLe.of_eq ?_
    rw [hes, hmE]
theorem leq_eq {ab : BinOp → Int → Int → Bool} (h : ∀ x y, ab .leq x y = decide (x ≤ y)) (x y : Int) : ab .leq x y = decide (x ≤ y) := h x y
theorem stays1_does {h : List Int} (hh : h.length = 9) (T N : List (List Int)) (d : Int) : Does Tryz.prog 88 [.agg (tolC h T N d)] (.bool true) := by
  obtain ⟨x0, x1, x2, x3, x4, x5, x6, x7, x8, rfl⟩ := list9 hh
  obtain ⟨l0, l1, l2, l3, hlo⟩ : ∃ l0 l1 l2 l3, lotN T N [x0, x1, x2, x3, x4, x5, x6, x7, x8] d = [l0, l1, l2, l3] := ⟨_, _, _, _, rfl⟩
  simp only [tolC, hlo]
  generalize T.map rowP = eT
  generalize (sayL N [x0, x1, x2, x3, x4, x5, x6, x7, x8] d).map rowP = eS
  refine does_of (own := inPl) Tryz.func88 rfl Tryz.ntmps88 (congrArg Array.toList Tryz.results88) (fun us w => Tryz.call88 us w) hTT mixed (Nat.le_of_ble_eq_true rfl) ?_
  intro w0 im0 D0 S Cl hS hC ar har
  have har' := har
  obtain ⟨ai, ab, nz, inr, fi, pk, ix, ln, sb, eqi, sl, fits, mn, mx, nt, be, up, fu, mg, mh, ms⟩ := ar
  have F := facts_of har
  clear har
  cbv
  exact PLe.refl _
theorem inside1_does {h : List Int} (hh : h.length = 9) (T N : List (List Int)) (d : Int) : Does Tryz.prog 112 [.agg (tolC h T N d), .ptr [.int .i64 d]] (.bool (decide (h.getD 6 0 ≤ d) && (lotN T N h d).getD 2 0 == 0)) := by
  obtain ⟨x0, x1, x2, x3, x4, x5, x6, x7, x8, rfl⟩ := list9 hh
  obtain ⟨l0, l1, l2, l3, hlo⟩ : ∃ l0 l1 l2 l3, lotN T N [x0, x1, x2, x3, x4, x5, x6, x7, x8] d = [l0, l1, l2, l3] := ⟨_, _, _, _, rfl⟩
  simp only [tolC, hlo, List.getD_cons_succ, List.getD_cons_zero]
  generalize T.map rowP = eT
  generalize (sayL N [x0, x1, x2, x3, x4, x5, x6, x7, x8] d).map rowP = eS
  obtain ⟨V, hV⟩ : ∃ V, PV.bool (decide (x6 ≤ d) && l2 == 0) = V := ⟨_, rfl⟩
  rw [hV]
  refine does_of (own := inPl) Tryz.func112 rfl Tryz.ntmps112 (congrArg Array.toList Tryz.results112) (fun us w => Tryz.call112 us w) hTT mixed (Nat.le_of_ble_eq_true rfl) ?_
  intro w0 im0 D0 S Cl hS hC ar har
  have har' := har
  obtain ⟨ai, ab, nz, inr, fi, pk, ix, ln, sb, eqi, sl, fits, mn, mx, nt, be, up, fu, mg, mh, ms⟩ := ar
  have F := facts_of har
  clear har
  cbv
  cases c0 : ab .leq x6 d
  · cbv
    rw [F.leq] at c0
    rw [← hV, c0]; exact PLe.refl _
  · cbv
    rw [F.leq] at c0
    rw [← hV, c0, F.eql]; exact PLe.of_eq (by simp)
theorem ended1_does {h : List Int} (hh : h.length = 9) (T N : List (List Int)) (d way : Int) : Does Tryz.prog 114 [.agg (tolC h T N d), .ptr [.int .i64 way]] (.bool ((lotN T N h d).getD 2 0 == way)) := by
  obtain ⟨x0, x1, x2, x3, x4, x5, x6, x7, x8, rfl⟩ := list9 hh
  obtain ⟨l0, l1, l2, l3, hlo⟩ : ∃ l0 l1 l2 l3, lotN T N [x0, x1, x2, x3, x4, x5, x6, x7, x8] d = [l0, l1, l2, l3] := ⟨_, _, _, _, rfl⟩
  simp only [tolC, hlo, List.getD_cons_succ, List.getD_cons_zero]
  generalize T.map rowP = eT
  generalize (sayL N [x0, x1, x2, x3, x4, x5, x6, x7, x8] d).map rowP = eS
  obtain ⟨V, hV⟩ : ∃ V, PV.bool (l2 == way) = V := ⟨_, rfl⟩
  rw [hV]
  refine does_of (own := inPl) Tryz.func114 rfl Tryz.ntmps114 (congrArg Array.toList Tryz.results114) (fun us w => Tryz.call114 us w) hTT mixed (Nat.le_of_ble_eq_true rfl) ?_
  intro w0 im0 D0 S Cl hS hC ar har
  have har' := har
  obtain ⟨ai, ab, nz, inr, fi, pk, ix, ln, sb, eqi, sl, fits, mn, mx, nt, be, up, fu, mg, mh, ms⟩ := ar
  have F := facts_of har
  clear har
  cbv
  rw [← hV, F.eql]; exact PLe.of_eq (by simp)
theorem sourcesS_does {T N : List (List Int)} {d : Int} {H : List (List Int)} (h2 : ∀ x ∈ H, x.length = 9) (h60 : H.length ≤ 60) (p : List Int → Bool) (hp : ∀ x, x.length = 9 → Does Tryz.prog 88 [.agg (tolC x T N d)] (.bool (p x))) :
    DoesF Tryz.prog 86 [.list 16 (H.map fun h => tolC h T N d), .fn (.func 88) [] []] (.list 1 (numP (srcsN p H))) := by
  obtain ⟨V, hV⟩ : ∃ V, numP (srcsN p H) = V := ⟨_, rfl⟩
  rw [hV]
  obtain ⟨eL, hEL⟩ : ∃ es, (H.map fun h => tolC h T N d) = es := ⟨_, rfl⟩
  rw [hEL]
  refine doesF_of (own := inPl) Tryz.func86 rfl Tryz.ntmps86 (congrArg Array.toList Tryz.results86) (fun us w => Tryz.call86 us w) hTT mixed (Nat.le_of_ble_eq_true rfl) ?_
  intro w0 im0 D0 S Cl hS hC ar har
  have har' := har
  obtain ⟨ai, ab, nz, inr, fi, pk, ix, ln, sb, eqi, sl, fits, mn, mx, nt, be, up, fu, mg, mh, ms⟩ := ar
  have F := facts_of har
  clear har
  cbv
  refine hS _ _ _ (sem_mkRow 5 1000 3 1 (by rfl) (by rfl) (sem_loopR (fun x : Nat × Int × List (List PV) => [(kT 1, .t (.c (.p (.fn (.func 88) [] [])))), sR 5 1000, sL 8 16 eL, sI 9 (ln eL), sI 10 x.2.1, rW 1000 3 1 x.2.2]) (fun x => x.1 ≤ H.length ∧ x.2.1 = (x.1 : Int) ∧ x.2.2 = numP (srcsN p (H.take x.1))) (fun x => H.length - x.1) (0, 0, []) (fun t => t) ⟨by rfl, by cbv; try (repeat (first | exact rfl | exact trivial | refine ⟨?_, ?_⟩))⟩ ?_ ?_))
  · exact ⟨by simp, rfl, rfl⟩
  rintro ⟨k, i, es⟩ ⟨hk, hi, hes⟩
  dsimp only at hk hi hes
  have hadd : ai .add i 1 = ((k + 1 : Nat) : Int) := by rw [F.add i 1 (by omega) (by omega), hi]; simp
  have hlen : ln eL = H.length := by rw [F.ln, ← hEL]; simp
  have hfit : ∀ x, fits 8 es [x] = true := fun x => F.fits _ _ _ (by
    have := srcs_len p (H.take k)
    rw [hes, numP_len]; simp only [List.length_take, List.length_singleton] at this ⊢; omega)
  refine sem_of (X := ⟨_, TT, ⟨0, 25, inPl⟩⟩) har' hTT mixed ?_
  intro S1 Cl1 hS1 hC1
  cbv
  by_cases hlt : k < H.length
  · have hb : ab .lss i (ln eL) = true := by rw [hlen, F.lss, hi]; simpa using hlt
    have hg : ix eL i = some (tolC H[k] T N d) := by rw [F.ix _ i k hi, ← hEL]; simp [hlt]
    have hnext := srcs_take (p := p) hlt
    have hpk := hp _ (h2 _ (List.getElem_mem hlt))
    obtain ⟨x0, x1, x2, x3, x4, x5, x6, x7, x8, hx⟩ := list9 (h2 _ (List.getElem_mem hlt))
    rw [hx] at hg hnext hpk
    obtain ⟨l0, l1, l2, l3, hlo⟩ : ∃ l0 l1 l2 l3, lotN T N [x0, x1, x2, x3, x4, x5, x6, x7, x8] d = [l0, l1, l2, l3] := ⟨_, _, _, _, rfl⟩
    obtain ⟨eT, hT⟩ : ∃ es, T.map rowP = es := ⟨_, rfl⟩
    obtain ⟨eS, hS1⟩ : ∃ es, (sayL N [x0, x1, x2, x3, x4, x5, x6, x7, x8] d).map rowP = es := ⟨_, rfl⟩
    simp only [tolC, hlo, hT, hS1] at hg hpk
    simp only [List.getD_cons_zero] at hnext
    obtain ⟨cb, h4⟩ : ∃ z, p [x0, x1, x2, x3, x4, x5, x6, x7, x8] = z := ⟨_, rfl⟩
    rw [h4] at hpk hnext
    have hno : cb = false → es = numP (srcsN p (H.take (k + 1))) := fun h => by rw [hnext, h, hes]; rfl
    have hyes : cb = true → es ++ [[PV.int .i64 x0]] = numP (srcsN p (H.take (k + 1))) := fun h => by rw [hnext, h, hes, ← numP_snoc]; rfl
    rw [hb]; cbv
    repeat (rw [hg]; cbv)
    refine ⟨_, hC1 _ _ _ hpk, ?_⟩; cbv
    cases cb
    · cbv
      exact ⟨(k + 1, ai .add i 1, es), (fun t => t), ⟨hlt, hadd, hno rfl⟩, by dsimp only; omega, ⟨by rfl, by cbv; try (repeat (first | exact rfl | exact trivial | refine ⟨?_, ?_⟩))⟩⟩
    · cbv
      rw [hfit]; cbv
      exact ⟨(k + 1, ai .add i 1, es ++ [[PV.int .i64 x0]]), (fun t => bif Nat.beq t 1000 then 22 else t), ⟨hlt, hadd, hyes rfl⟩, by dsimp only; omega, ⟨by rfl, by cbv; try (repeat (first | exact rfl | exact trivial | refine ⟨?_, ?_⟩))⟩⟩
  · have hb : ab .lss i (ln eL) = false := by rw [hlen, F.lss, hi]; simpa using hlt
    rw [hb]; cbv
    have e : es = numP (srcsN p H) := by rw [hes, List.take_of_length_le (by omega)]
    rw [e, hV]
    exact ⟨PLe.refl _, by rw [← hV]; exact flat_nums _⟩
theorem sourcesI_does {T N : List (List Int)} {d : Int} {H : List (List Int)} (h2 : ∀ x ∈ H, x.length = 9) (h60 : H.length ≤ 60) (p : List Int → Bool) (hp : ∀ x, x.length = 9 → Does Tryz.prog 112 [.agg (tolC x T N d), .ptr [.int .i64 d]] (.bool (p x))) :
    DoesF Tryz.prog 86 [.list 16 (H.map fun h => tolC h T N d), .fn (.func 112) [] [.ptr [.int .i64 d]]] (.list 1 (numP (srcsN p H))) := by
  obtain ⟨V, hV⟩ : ∃ V, numP (srcsN p H) = V := ⟨_, rfl⟩
  rw [hV]
  obtain ⟨eL, hEL⟩ : ∃ es, (H.map fun h => tolC h T N d) = es := ⟨_, rfl⟩
  rw [hEL]
  refine doesF_of (own := inPl) Tryz.func86 rfl Tryz.ntmps86 (congrArg Array.toList Tryz.results86) (fun us w => Tryz.call86 us w) hTT mixed (Nat.le_of_ble_eq_true rfl) ?_
  intro w0 im0 D0 S Cl hS hC ar har
  have har' := har
  obtain ⟨ai, ab, nz, inr, fi, pk, ix, ln, sb, eqi, sl, fits, mn, mx, nt, be, up, fu, mg, mh, ms⟩ := ar
  have F := facts_of har
  clear har
  cbv
  refine hS _ _ _ (sem_mkRow 5 1000 3 1 (by rfl) (by rfl) (sem_loopR (fun x : Nat × Int × List (List PV) => [(kT 1, .t (.c (.p (.fn (.func 112) [] [.ptr [.int .i64 d]])))), sR 5 1000, sL 8 16 eL, sI 9 (ln eL), sI 10 x.2.1, rW 1000 3 1 x.2.2]) (fun x => x.1 ≤ H.length ∧ x.2.1 = (x.1 : Int) ∧ x.2.2 = numP (srcsN p (H.take x.1))) (fun x => H.length - x.1) (0, 0, []) (fun t => t) ⟨by rfl, by cbv; try (repeat (first | exact rfl | exact trivial | refine ⟨?_, ?_⟩))⟩ ?_ ?_))
  · exact ⟨by simp, rfl, rfl⟩
  rintro ⟨k, i, es⟩ ⟨hk, hi, hes⟩
  dsimp only at hk hi hes
  have hadd : ai .add i 1 = ((k + 1 : Nat) : Int) := by rw [F.add i 1 (by omega) (by omega), hi]; simp
  have hlen : ln eL = H.length := by rw [F.ln, ← hEL]; simp
  have hfit : ∀ x, fits 8 es [x] = true := fun x => F.fits _ _ _ (by
    have := srcs_len p (H.take k)
    rw [hes, numP_len]; simp only [List.length_take, List.length_singleton] at this ⊢; omega)
  refine sem_of (X := ⟨_, TT, ⟨0, 25, inPl⟩⟩) har' hTT mixed ?_
  intro S1 Cl1 hS1 hC1
  cbv
  by_cases hlt : k < H.length
  · have hb : ab .lss i (ln eL) = true := by rw [hlen, F.lss, hi]; simpa using hlt
    have hg : ix eL i = some (tolC H[k] T N d) := by rw [F.ix _ i k hi, ← hEL]; simp [hlt]
    have hnext := srcs_take (p := p) hlt
    have hpk := hp _ (h2 _ (List.getElem_mem hlt))
    obtain ⟨x0, x1, x2, x3, x4, x5, x6, x7, x8, hx⟩ := list9 (h2 _ (List.getElem_mem hlt))
    rw [hx] at hg hnext hpk
    obtain ⟨l0, l1, l2, l3, hlo⟩ : ∃ l0 l1 l2 l3, lotN T N [x0, x1, x2, x3, x4, x5, x6, x7, x8] d = [l0, l1, l2, l3] := ⟨_, _, _, _, rfl⟩
    obtain ⟨eT, hT⟩ : ∃ es, T.map rowP = es := ⟨_, rfl⟩
    obtain ⟨eS, hS1⟩ : ∃ es, (sayL N [x0, x1, x2, x3, x4, x5, x6, x7, x8] d).map rowP = es := ⟨_, rfl⟩
    simp only [tolC, hlo, hT, hS1] at hg hpk
    simp only [List.getD_cons_zero] at hnext
    obtain ⟨cb, h4⟩ : ∃ z, p [x0, x1, x2, x3, x4, x5, x6, x7, x8] = z := ⟨_, rfl⟩
    rw [h4] at hpk hnext
    have hno : cb = false → es = numP (srcsN p (H.take (k + 1))) := fun h => by rw [hnext, h, hes]; rfl
    have hyes : cb = true → es ++ [[PV.int .i64 x0]] = numP (srcsN p (H.take (k + 1))) := fun h => by rw [hnext, h, hes, ← numP_snoc]; rfl
    rw [hb]; cbv
    repeat (rw [hg]; cbv)
    refine ⟨_, hC1 _ _ _ hpk, ?_⟩; cbv
    cases cb
    · cbv
      exact ⟨(k + 1, ai .add i 1, es), (fun t => t), ⟨hlt, hadd, hno rfl⟩, by dsimp only; omega, ⟨by rfl, by cbv; try (repeat (first | exact rfl | exact trivial | refine ⟨?_, ?_⟩))⟩⟩
    · cbv
      rw [hfit]; cbv
      exact ⟨(k + 1, ai .add i 1, es ++ [[PV.int .i64 x0]]), (fun t => bif Nat.beq t 1000 then 22 else t), ⟨hlt, hadd, hyes rfl⟩, by dsimp only; omega, ⟨by rfl, by cbv; try (repeat (first | exact rfl | exact trivial | refine ⟨?_, ?_⟩))⟩⟩
  · have hb : ab .lss i (ln eL) = false := by rw [hlen, F.lss, hi]; simpa using hlt
    rw [hb]; cbv
    have e : es = numP (srcsN p H) := by rw [hes, List.take_of_length_le (by omega)]
    rw [e, hV]
    exact ⟨PLe.refl _, by rw [← hV]; exact flat_nums _⟩
theorem sourcesE_does {T N : List (List Int)} {d : Int} {way : Int} {H : List (List Int)} (h2 : ∀ x ∈ H, x.length = 9) (h60 : H.length ≤ 60) (p : List Int → Bool) (hp : ∀ x, x.length = 9 → Does Tryz.prog 114 [.agg (tolC x T N d), .ptr [.int .i64 way]] (.bool (p x))) :
    DoesF Tryz.prog 86 [.list 16 (H.map fun h => tolC h T N d), .fn (.func 114) [] [.ptr [.int .i64 way]]] (.list 1 (numP (srcsN p H))) := by
  obtain ⟨V, hV⟩ : ∃ V, numP (srcsN p H) = V := ⟨_, rfl⟩
  rw [hV]
  obtain ⟨eL, hEL⟩ : ∃ es, (H.map fun h => tolC h T N d) = es := ⟨_, rfl⟩
  rw [hEL]
  refine doesF_of (own := inPl) Tryz.func86 rfl Tryz.ntmps86 (congrArg Array.toList Tryz.results86) (fun us w => Tryz.call86 us w) hTT mixed (Nat.le_of_ble_eq_true rfl) ?_
  intro w0 im0 D0 S Cl hS hC ar har
  have har' := har
  obtain ⟨ai, ab, nz, inr, fi, pk, ix, ln, sb, eqi, sl, fits, mn, mx, nt, be, up, fu, mg, mh, ms⟩ := ar
  have F := facts_of har
  clear har
  cbv
  refine hS _ _ _ (sem_mkRow 5 1000 3 1 (by rfl) (by rfl) (sem_loopR (fun x : Nat × Int × List (List PV) => [(kT 1, .t (.c (.p (.fn (.func 114) [] [.ptr [.int .i64 way]])))), sR 5 1000, sL 8 16 eL, sI 9 (ln eL), sI 10 x.2.1, rW 1000 3 1 x.2.2]) (fun x => x.1 ≤ H.length ∧ x.2.1 = (x.1 : Int) ∧ x.2.2 = numP (srcsN p (H.take x.1))) (fun x => H.length - x.1) (0, 0, []) (fun t => t) ⟨by rfl, by cbv; try (repeat (first | exact rfl | exact trivial | refine ⟨?_, ?_⟩))⟩ ?_ ?_))
  · exact ⟨by simp, rfl, rfl⟩
  rintro ⟨k, i, es⟩ ⟨hk, hi, hes⟩
  dsimp only at hk hi hes
  have hadd : ai .add i 1 = ((k + 1 : Nat) : Int) := by rw [F.add i 1 (by omega) (by omega), hi]; simp
  have hlen : ln eL = H.length := by rw [F.ln, ← hEL]; simp
  have hfit : ∀ x, fits 8 es [x] = true := fun x => F.fits _ _ _ (by
    have := srcs_len p (H.take k)
    rw [hes, numP_len]; simp only [List.length_take, List.length_singleton] at this ⊢; omega)
  refine sem_of (X := ⟨_, TT, ⟨0, 25, inPl⟩⟩) har' hTT mixed ?_
  intro S1 Cl1 hS1 hC1
  cbv
  by_cases hlt : k < H.length
  · have hb : ab .lss i (ln eL) = true := by rw [hlen, F.lss, hi]; simpa using hlt
    have hg : ix eL i = some (tolC H[k] T N d) := by rw [F.ix _ i k hi, ← hEL]; simp [hlt]
    have hnext := srcs_take (p := p) hlt
    have hpk := hp _ (h2 _ (List.getElem_mem hlt))
    obtain ⟨x0, x1, x2, x3, x4, x5, x6, x7, x8, hx⟩ := list9 (h2 _ (List.getElem_mem hlt))
    rw [hx] at hg hnext hpk
    obtain ⟨l0, l1, l2, l3, hlo⟩ : ∃ l0 l1 l2 l3, lotN T N [x0, x1, x2, x3, x4, x5, x6, x7, x8] d = [l0, l1, l2, l3] := ⟨_, _, _, _, rfl⟩
    obtain ⟨eT, hT⟩ : ∃ es, T.map rowP = es := ⟨_, rfl⟩
    obtain ⟨eS, hS1⟩ : ∃ es, (sayL N [x0, x1, x2, x3, x4, x5, x6, x7, x8] d).map rowP = es := ⟨_, rfl⟩
    simp only [tolC, hlo, hT, hS1] at hg hpk
    simp only [List.getD_cons_zero] at hnext
    obtain ⟨cb, h4⟩ : ∃ z, p [x0, x1, x2, x3, x4, x5, x6, x7, x8] = z := ⟨_, rfl⟩
    rw [h4] at hpk hnext
    have hno : cb = false → es = numP (srcsN p (H.take (k + 1))) := fun h => by rw [hnext, h, hes]; rfl
    have hyes : cb = true → es ++ [[PV.int .i64 x0]] = numP (srcsN p (H.take (k + 1))) := fun h => by rw [hnext, h, hes, ← numP_snoc]; rfl
    rw [hb]; cbv
    repeat (rw [hg]; cbv)
    refine ⟨_, hC1 _ _ _ hpk, ?_⟩; cbv
    cases cb
    · cbv
      exact ⟨(k + 1, ai .add i 1, es), (fun t => t), ⟨hlt, hadd, hno rfl⟩, by dsimp only; omega, ⟨by rfl, by cbv; try (repeat (first | exact rfl | exact trivial | refine ⟨?_, ?_⟩))⟩⟩
    · cbv
      rw [hfit]; cbv
      exact ⟨(k + 1, ai .add i 1, es ++ [[PV.int .i64 x0]]), (fun t => bif Nat.beq t 1000 then 22 else t), ⟨hlt, hadd, hyes rfl⟩, by dsimp only; omega, ⟨by rfl, by cbv; try (repeat (first | exact rfl | exact trivial | refine ⟨?_, ?_⟩))⟩⟩
  · have hb : ab .lss i (ln eL) = false := by rw [hlen, F.lss, hi]; simpa using hlt
    rw [hb]; cbv
    have e : es = numP (srcsN p H) := by rw [hes, List.take_of_length_le (by omega)]
    rw [e, hV]
    exact ⟨PLe.refl _, by rw [← hV]; exact flat_nums _⟩
theorem srcs_filter (p q : List Int → Bool) (H : List (List Int)) : srcsN p (H.filter q) = srcsN (fun h => q h && p h) H := by
  unfold srcsN
  rw [List.filter_filter]
  congr 2
  funext h
  rw [Bool.and_comm]
theorem tolL_len (T H N : List (List Int)) (d : Int) : (H.filter (cntH d)).length ≤ H.length := List.length_filter_le ..
theorem pStays_does {T H N : List (List Int)} (h1 : ∀ x ∈ T, x.length = 24) (h2 : ∀ x ∈ H, x.length = 9) (h3 : ∀ x ∈ N, x.length = 7) (d : Int) :
    Does Tryz.prog 25 [accP T H N, .int .i64 d] (.tup [.list 1 (numP (if askE T H N d = 0 then srcsN (cntH d) H else [])), .int .i64 (askE T H N d)]) := by
  have hCk := pcheck_does h1 h2 h3
  have hDy := checkDay_does d
  have hOr := orE_does [err (accOk T H N) 63, err (inB d 0 100000) 6]
  rw [askE_or] at hOr
  have hall := fun (h : askE T H N d = 0) => tellAll_does h1 h2 h3 h
  have hsrc := fun (h : askE T H N d = 0) => sourcesS_does (T := T) (N := N) (d := d) (H := H.filter (cntH d)) (fun x hx => h2 x (List.mem_filter.1 hx).1) (by
    have := (accOk_len (askE_ok h).1).2.1
    have := tolL_len T H N d
    omega) (fun _ => true) (fun x hx => stays1_does hx T N d)
  rw [srcs_filter, show (fun h => cntH d h && true) = cntH d from by funext h; simp] at hsrc
  unfold tolL at hall
  obtain ⟨V, hV⟩ : ∃ V, PV.tup [.list 1 (numP (if askE T H N d = 0 then srcsN (cntH d) H else [])), .int .i64 (askE T H N d)] = V := ⟨_, rfl⟩
  rw [hV]
  generalize err (accOk T H N) 63 = e1 at *
  generalize err (inB d 0 100000) 6 = e2 at *
  generalize askE T H N d = q at *
  generalize (H.filter (cntH d)).map (fun h => tolC h T N d) = eL at *
  generalize hr : srcsN (cntH d) H = rs at *
  obtain ⟨eR, hR⟩ : ∃ es, numP rs = es := ⟨_, rfl⟩
  obtain ⟨eT, hT1⟩ : ∃ es, T.map rowP = es := ⟨_, rfl⟩
  obtain ⟨eH, hH1⟩ : ∃ es, H.map rowP = es := ⟨_, rfl⟩
  obtain ⟨eN, hN1⟩ : ∃ es, N.map rowP = es := ⟨_, rfl⟩
  simp only [accP, hT1, hH1, hN1, hR] at hCk hall hsrc ⊢
  refine does_of (own := inPl) Tryz.func25 rfl Tryz.ntmps25 (congrArg Array.toList Tryz.results25) (fun us w => Tryz.call25 us w) hTT mixed (Nat.le_of_ble_eq_true rfl) ?_
  intro w0 im0 D0 S Cl hS hC ar har
  have har' := har
  obtain ⟨ai, ab, nz, inr, fi, pk, ix, ln, sb, eqi, sl, fits, mn, mx, nt, be, up, fu, mg, mh, ms⟩ := ar
  have F := facts_of har
  clear har
  cbv
  refine ⟨_, hC _ _ _ hCk, ?_⟩; cbv
  refine ⟨_, hC _ _ _ hDy, ?_⟩; cbv
  refine ⟨_, hC _ _ _ hOr, ?_⟩; cbv
  by_cases h0 : q = 0
  · have c0 : ab .neq q 0 = false := by rw [F.neq, h0]; rfl
    rw [c0]; cbv
    refine ⟨_, hC _ _ _ (hall h0), ?_⟩; cbv
    refine ⟨.list 1 eR, hC _ (.mark :: _) (.list 1 eR) (show Can Tryz.prog _ (.mark :: _) (.list 1 eR) from hsrc h0), ?_⟩; cbv
    rw [← hV, if_pos h0, hR, h0]
    exact PLe.refl _
  · have c0 : ab .neq q 0 = true := by rw [F.neq]; simpa using h0
    rw [c0]; cbv
    rw [← hV, if_neg h0]
    exact PLe.tup2 (PLe.nil 1) (PLe.refl _)
theorem pInside_does {T H N : List (List Int)} (h1 : ∀ x ∈ T, x.length = 24) (h2 : ∀ x ∈ H, x.length = 9) (h3 : ∀ x ∈ N, x.length = 7) (d : Int) :
    Does Tryz.prog 47 [accP T H N, .int .i64 d] (.tup [.list 1 (numP (if askE T H N d = 0 then srcsN (insH T N d) H else [])), .int .i64 (askE T H N d)]) := by
  have hCk := pcheck_does h1 h2 h3
  have hDy := checkDay_does d
  have hOr := orE_does [err (accOk T H N) 63, err (inB d 0 100000) 6]
  rw [askE_or] at hOr
  have hall := fun (h : askE T H N d = 0) => tellAll_does h1 h2 h3 h
  have hsrc := fun (h : askE T H N d = 0) => sourcesI_does (T := T) (N := N) (d := d) (H := H.filter (cntH d)) (fun x hx => h2 x (List.mem_filter.1 hx).1) (by
    have := (accOk_len (askE_ok h).1).2.1
    have := tolL_len T H N d
    omega) (fun h => decide (h.getD 6 0 ≤ d) && (lotN T N h d).getD 2 0 == 0) (fun x hx => inside1_does hx T N d)
  rw [srcs_filter, show (fun h => cntH d h && (decide (h.getD 6 0 ≤ d) && (lotN T N h d).getD 2 0 == 0)) = insH T N d from rfl] at hsrc
  unfold tolL at hall
  obtain ⟨V, hV⟩ : ∃ V, PV.tup [.list 1 (numP (if askE T H N d = 0 then srcsN (insH T N d) H else [])), .int .i64 (askE T H N d)] = V := ⟨_, rfl⟩
  rw [hV]
  generalize err (accOk T H N) 63 = e1 at *
  generalize err (inB d 0 100000) 6 = e2 at *
  generalize askE T H N d = q at *
  generalize (H.filter (cntH d)).map (fun h => tolC h T N d) = eL at *
  generalize hr : srcsN (insH T N d) H = rs at *
  obtain ⟨eR, hR⟩ : ∃ es, numP rs = es := ⟨_, rfl⟩
  obtain ⟨eT, hT1⟩ : ∃ es, T.map rowP = es := ⟨_, rfl⟩
  obtain ⟨eH, hH1⟩ : ∃ es, H.map rowP = es := ⟨_, rfl⟩
  obtain ⟨eN, hN1⟩ : ∃ es, N.map rowP = es := ⟨_, rfl⟩
  simp only [accP, hT1, hH1, hN1, hR] at hCk hall hsrc ⊢
  refine does_of (own := inPl) Tryz.func47 rfl Tryz.ntmps47 (congrArg Array.toList Tryz.results47) (fun us w => Tryz.call47 us w) hTT mixed (Nat.le_of_ble_eq_true rfl) ?_
  intro w0 im0 D0 S Cl hS hC ar har
  have har' := har
  obtain ⟨ai, ab, nz, inr, fi, pk, ix, ln, sb, eqi, sl, fits, mn, mx, nt, be, up, fu, mg, mh, ms⟩ := ar
  have F := facts_of har
  clear har
  cbv
  refine ⟨_, hC _ _ _ hCk, ?_⟩; cbv
  refine ⟨_, hC _ _ _ hDy, ?_⟩; cbv
  refine ⟨_, hC _ _ _ hOr, ?_⟩; cbv
  by_cases h0 : q = 0
  · have c0 : ab .neq q 0 = false := by rw [F.neq, h0]; rfl
    rw [c0]; cbv
    refine ⟨_, hC _ _ _ (hall h0), ?_⟩; cbv
    refine ⟨.list 1 eR, hC _ (.mark :: _) (.list 1 eR) (show Can Tryz.prog _ (.mark :: _) (.list 1 eR) from hsrc h0), ?_⟩; cbv
    rw [← hV, if_pos h0, hR, h0]
    exact PLe.refl _
  · have c0 : ab .neq q 0 = true := by rw [F.neq]; simpa using h0
    rw [c0]; cbv
    rw [← hV, if_neg h0]
    exact PLe.tup2 (PLe.nil 1) (PLe.refl _)
theorem find_srt : ∀ (H : List (List Int)) (id : Int) (p : List Int → Bool) (h : List Int), (∀ i j, i < j → j < H.length → (H.getD i []).getD 0 0 < (H.getD j []).getD 0 0) → h ∈ H → h.getD 0 0 = id → p h = true → (∀ x, p x = true → x.getD 0 0 = id) → H.find? p = some h
  | [], _, _, _, _, hm, _, _, _ => absurd hm (by simp)
  | a :: H, id, p, h, hs, hm, hid, hp, hpi => by
    rcases List.mem_cons.1 hm with rfl | hm'
    · exact List.find?_cons_of_pos hp
    · obtain ⟨j, hj, rfl⟩ := List.mem_iff_getElem.1 hm'
      have hlt := hs 0 (j + 1) (by omega) (by simp; omega)
      simp only [List.getD_cons_zero, List.getD_cons_succ] at hlt
      rw [show H.getD j [] = H[j] by simp [List.getD, hj]] at hlt
      have hna : ¬ p a = true := fun h => by have := hpi a h; omega
      rw [List.find?_cons_of_neg hna]
      refine find_srt H id p _ (fun i k h1 h2 => ?_) hm' hid hp hpi
      have := hs (i + 1) (k + 1) (by omega) (by simp; omega)
      simpa using this
theorem ls_srt {ok : List Int → Bool} {m : Nat} {L : List (List Int)} (h : lsOk ok m L = true) : ∀ i j, i < j → j < L.length → (L.getD i []).getD 0 0 < (L.getD j []).getD 0 0 := by
  have step : ∀ j, j + 1 < L.length → (L.getD j []).getD 0 0 < (L.getD (j + 1) []).getD 0 0 := fun j hj => by
    unfold lsOk lsK at h
    simp only [Bool.and_eq_true, List.all_eq_true] at h
    have := h.2 (j + 1) (List.mem_range.2 hj)
    unfold lsAt at this
    simp only [Bool.and_eq_true, Bool.or_eq_true, beq_iff_eq, decide_eq_true_eq, Nat.add_sub_cancel] at this
    omega
  intro i j hij
  induction j with
  | zero => omega
  | succ j ih =>
    intro hj
    have := step j hj
    by_cases he : i = j
    · subst he; exact this
    · have := ih (by omega) (by omega); omega
theorem sta_of {T H N : List (List Int)} {d : Int} (hq : askE T H N d = 0) {h : List Int} (hm : h ∈ H) (hc : cntH d h = true) : staN T H N (h.getD 0 0) d = (h, 0) := by
  have ha := (askE_ok hq).1
  unfold accOk at ha
  simp only [Bool.and_eq_true] at ha
  unfold staN
  rw [if_pos hq, find_srt H (h.getD 0 0) (staP (h.getD 0 0) d) h (ls_srt ha.2.1) hm rfl (by unfold staP; unfold cntH at hc; rw [hc]; simp) (fun x hx => by unfold staP at hx; simp only [Bool.and_eq_true, beq_iff_eq] at hx; exact hx.1)]
theorem ended_eq {T H N : List (List Int)} {way d : Int} (hq : askE T H N d = 0) : endF T H N way d (stsN T H N d) = srcsN (fun h => cntH d h && (lotN T N h d).getD 2 0 == way) H := by
  unfold endF stsN srcsN
  rw [if_pos hq, List.filter_map, List.filter_filter]
  congr 1
  refine List.filter_congr fun x hx => ?_
  cases hc : cntH d x
  · simp
  · have := sta_of (N := N) hq hx hc
    simp only [Function.comp, lotR, this, stR, if_true, Bool.and_true, Bool.true_and]
theorem orE3 (T H N : List (List Int)) (d : Int) (ok : Bool) : orE [err (accOk T H N) 63, err ok 1, err (inB d 0 100000) 6] = thrE T H N ok d := by
  unfold thrE askE err
  cases accOk T H N <;> cases inB d 0 100000 <;> cases ok <;> rfl
theorem thrE_ok {T H N : List (List Int)} {d : Int} {ok : Bool} (h : thrE T H N ok d = 0) : askE T H N d = 0 ∧ ok = true := by
  unfold thrE at h
  split at h
  · split at h
    · exact ⟨h, ‹_›⟩
    · omega
  · omega
theorem pEnded_does {T H N : List (List Int)} (h1 : ∀ x ∈ T, x.length = 24) (h2 : ∀ x ∈ H, x.length = 9) (h3 : ∀ x ∈ N, x.length = 7) (way d : Int) :
    Does Tryz.prog 49 [accP T H N, .int .i64 way, .int .i64 d] (.tup [.list 1 (numP (endN T H N way d)), .int .i64 (thrE T H N (inB way 0 4) d)]) := by
  have hCk := pcheck_does h1 h2 h3
  have hDy := checkDay_does d
  have hWy := checkWay_does way
  have hOr := orE_does [err (accOk T H N) 63, err (inB way 0 4) 1, err (inB d 0 100000) 6]
  rw [orE3] at hOr
  have hall := fun (h : thrE T H N (inB way 0 4) d = 0) => tellAll_does h1 h2 h3 (thrE_ok h).1
  have hsrc := fun (h : thrE T H N (inB way 0 4) d = 0) => sourcesE_does (T := T) (N := N) (d := d) (way := way) (H := H.filter (cntH d)) (fun x hx => h2 x (List.mem_filter.1 hx).1) (by
    have := (accOk_len (askE_ok (thrE_ok h).1).1).2.1
    have := tolL_len T H N d
    omega) (fun h => (lotN T N h d).getD 2 0 == way) (fun x hx => ended1_does hx T N d way)
  rw [srcs_filter] at hsrc
  have he : thrE T H N (inB way 0 4) d = 0 → endN T H N way d = srcsN (fun h => cntH d h && (lotN T N h d).getD 2 0 == way) H := fun h => by
    unfold endN; rw [if_pos h, ended_eq (thrE_ok h).1]
  have hne : thrE T H N (inB way 0 4) d ≠ 0 → endN T H N way d = [] := fun h => by unfold endN; rw [if_neg h]
  unfold tolL at hall
  obtain ⟨V, hV⟩ : ∃ V, PV.tup [.list 1 (numP (endN T H N way d)), .int .i64 (thrE T H N (inB way 0 4) d)] = V := ⟨_, rfl⟩
  rw [hV]
  generalize err (accOk T H N) 63 = e1 at *
  generalize err (inB d 0 100000) 6 = e2 at *
  generalize err (inB way 0 4) 1 = e3 at *
  generalize thrE T H N (inB way 0 4) d = q at *
  generalize (H.filter (cntH d)).map (fun h => tolC h T N d) = eL at *
  generalize hr : srcsN (fun h => cntH d h && (lotN T N h d).getD 2 0 == way) H = rs at *
  generalize endN T H N way d = es at *
  obtain ⟨eR, hR⟩ : ∃ es, numP rs = es := ⟨_, rfl⟩
  obtain ⟨eT, hT1⟩ : ∃ es, T.map rowP = es := ⟨_, rfl⟩
  obtain ⟨eH, hH1⟩ : ∃ es, H.map rowP = es := ⟨_, rfl⟩
  obtain ⟨eN, hN1⟩ : ∃ es, N.map rowP = es := ⟨_, rfl⟩
  simp only [accP, hT1, hH1, hN1, hR] at hCk hall hsrc ⊢
  refine does_of (own := inPl) Tryz.func49 rfl Tryz.ntmps49 (congrArg Array.toList Tryz.results49) (fun us w => Tryz.call49 us w) hTT mixed (Nat.le_of_ble_eq_true rfl) ?_
  intro w0 im0 D0 S Cl hS hC ar har
  have har' := har
  obtain ⟨ai, ab, nz, inr, fi, pk, ix, ln, sb, eqi, sl, fits, mn, mx, nt, be, up, fu, mg, mh, ms⟩ := ar
  have F := facts_of har
  clear har
  cbv
  refine ⟨_, hC _ _ _ hCk, ?_⟩; cbv
  refine ⟨_, hC _ _ _ hWy, ?_⟩; cbv
  refine ⟨_, hC _ _ _ hDy, ?_⟩; cbv
  refine ⟨_, hC _ _ _ hOr, ?_⟩; cbv
  by_cases h0 : q = 0
  · have c0 : ab .neq q 0 = false := by rw [F.neq, h0]; rfl
    rw [c0]; cbv
    refine ⟨_, hC _ _ _ (hall h0), ?_⟩; cbv
    refine ⟨.list 1 eR, hC _ (.mark :: _) (.list 1 eR) (show Can Tryz.prog _ (.mark :: _) (.list 1 eR) from hsrc h0), ?_⟩; cbv
    rw [← hV, he h0, hR, h0]
    exact PLe.refl _
  · have c0 : ab .neq q 0 = true := by rw [F.neq]; simpa using h0
    rw [c0]; cbv
    rw [← hV, hne h0]
    exact PLe.tup2 (PLe.nil 1) (PLe.refl _)
def payN (T N : List (List Int)) (h : List Int) (d : Int) : Int × Int := payQ T h d (lotN T N h d)
theorem dueN_pay {T N : List (List Int)} {h : List Int} {d : Int} (hd : 0 ≤ d ∧ d ≤ 100000) : dueN T N h d = dueP T h (payN T N h d).1 (payN T N h d).2 := (dueQ_eq hd).symm
theorem dueP_sum (T : List (List Int)) (h : List Int) (p s : Int) : (dueP T h p s).getD 0 0 = p ∧ (dueP T h p s).getD 3 0 + (dueP T h p s).getD 1 0 + (dueP T h p s).getD 2 0 = s := by
  unfold dueP
  refine ⟨rfl, ?_⟩
  simp only [List.getD_cons_succ, List.getD_cons_zero]
  omega
theorem Good.payIn {T N : List (List Int)} {h : List Int} {d : Int} (g : Good T N h d) (h1 : ∀ x ∈ T, x.length = 24) : 0 ≤ (payN T N h d).2 ∧ (payN T N h d).2 ≤ 1500000000000 := by
  obtain ⟨a, b, c⟩ := dueN_in (N := N) h1 g.tar g.held g.day
  rw [dueN_pay g.day] at a b c
  have := (dueP_sum T h (payN T N h d).1 (payN T N h d).2).2
  omega
theorem Good.pay {T N : List (List Int)} {h : List Int} {d : Int} (g : Good T N h d) (h1 : ∀ x ∈ T, x.length = 24) (h3 : ∀ x ∈ N, x.length = 7) :
    Does Tryz.prog 110 [.agg (tolC h T N d)] (.tup [.int .i64 (payN T N h d).1, .int .i64 (payN T N h d).2]) := by
  have hday := lotN_day T N h d
  have := g.day
  have hl := lasN_in T N h g.day
  have hc := chgN_in (N := N) h1 g.tar g.held g.day
  exact payment_does (T := T) h1 (fun x hx => h3 x (List.mem_filter.1 hx).1) g.tar g.len g.held rfl (lotN_stop h1 g.tar g.note g.held g.day) (by omega) (by omega) (lotN_own g.note h d) (by rw [chgQ_eq g.day]; unfold chIn; omega)
theorem good_in {T H N : List (List Int)} (h2 : ∀ x ∈ H, x.length = 9) {d : Int} (h : askE T H N d = 0) {x : List Int} (hx : x ∈ H) : Good T N x d := by
  obtain ⟨a, b⟩ := askE_ok h
  exact ⟨h2 _ hx, accOk_H a _ hx, accOk_T a, accOk_N a, b, (accOk_len a).2.2⟩
def sumF (f : List Int → Int) (L : List (List Int)) : Int := (L.map f).sum
theorem sumF_take {f : List Int → Int} {L : List (List Int)} {k : Nat} (h : k < L.length) : sumF f (L.take (k + 1)) = sumF f (L.take k) + f L[k] := by
  unfold sumF; rw [take_last h, List.map_append, List.sum_append]; show _ + (f L[k] + 0) = _; omega
theorem sumF_in {f : List Int → Int} {b : Int} : ∀ {L : List (List Int)}, (∀ x ∈ L, 0 ≤ f x ∧ f x ≤ b) → 0 ≤ sumF f L ∧ sumF f L ≤ b * L.length
  | [], _ => by simp [sumF]
  | x :: L, h => by
    have h1 := h x (by simp)
    have h2 := sumF_in (L := L) fun y hy => h y (by simp [hy])
    unfold sumF at h2 ⊢
    simp only [List.map_cons, List.sum_cons, List.length_cons]
    rw [show ((L.length + 1 : Nat) : Int) = (L.length : Int) + 1 by omega, Int.mul_add]
    omega
def oweF (T N : List (List Int)) (o d : Int) (h : List Int) : Int := if (payN T N h d).1 == 2 + o then (payN T N h d).2 else 0
theorem owe_eq {T H N : List (List Int)} {o d : Int} (hq : askE T H N d = 0) : sumL (oweD T H N o d) (stsN T H N d) = sumF (oweF T N o d) (H.filter (cntH d)) := by
  unfold sumL stsN srcsN sumF
  rw [if_pos hq, List.map_map]
  congr 1
  refine List.map_congr_left fun x hx => ?_
  obtain ⟨hm, hc⟩ := List.mem_filter.1 hx
  have e := sta_of (N := N) hq hm hc
  simp only [Function.comp, oweD, dueR, e, stR, if_true, oweF]
  rw [dueN_pay (askE_ok hq).2, (dueP_sum ..).1, (dueP_sum ..).2]
theorem pOwed_does {T H N : List (List Int)} (h1 : ∀ x ∈ T, x.length = 24) (h2 : ∀ x ∈ H, x.length = 9) (h3 : ∀ x ∈ N, x.length = 7) (o d : Int) :
    Does Tryz.prog 45 [accP T H N, .int .i64 o, .int .i64 d] (.tup [.int .i64 (oweN T H N o d), .int .i64 (thrE T H N (inB o 1 99) d)]) := by
  have hCk := pcheck_does h1 h2 h3
  have hDy := checkDay_does d
  have hWy := checkOwner_does o
  have hOr := orE_does [err (accOk T H N) 63, err (inB o 1 99) 1, err (inB d 0 100000) 6]
  rw [orE3] at hOr
  have hall := fun (h : thrE T H N (inB o 1 99) d = 0) => tellAll_does h1 h2 h3 (thrE_ok h).1
  have he : thrE T H N (inB o 1 99) d = 0 → oweN T H N o d = sumF (oweF T N o d) (H.filter (cntH d)) := fun h => by
    unfold oweN; rw [if_pos h, owe_eq (thrE_ok h).1]
  have hne : thrE T H N (inB o 1 99) d ≠ 0 → oweN T H N o d = 0 := fun h => by unfold oweN; rw [if_neg h]
  have hpo := fun (h : thrE T H N (inB o 1 99) d = 0) => partyOf_does o (by have := inB_iff.1 (thrE_ok h).2; omega) (by have := inB_iff.1 (thrE_ok h).2; omega)
  have hgd : thrE T H N (inB o 1 99) d = 0 → ∀ x ∈ H.filter (cntH d), Good T N x d := fun h x hx => good_in h2 (thrE_ok h).1 (List.mem_filter.1 hx).1
  have hHl : thrE T H N (inB o 1 99) d = 0 → (H.filter (cntH d)).length ≤ 60 := fun h => by
    have := (accOk_len (askE_ok (thrE_ok h).1).1).2.1
    have := tolL_len T H N d
    omega
  unfold tolL at hall
  obtain ⟨V, hV⟩ : ∃ V, PV.tup [.int .i64 (oweN T H N o d), .int .i64 (thrE T H N (inB o 1 99) d)] = V := ⟨_, rfl⟩
  rw [hV]
  generalize err (accOk T H N) 63 = e1 at *
  generalize err (inB d 0 100000) 6 = e2 at *
  generalize err (inB o 1 99) 1 = e3 at *
  generalize thrE T H N (inB o 1 99) d = q at *
  generalize H.filter (cntH d) = Hs at *
  obtain ⟨eL, hEL⟩ : ∃ es, Hs.map (fun h => tolC h T N d) = es := ⟨_, rfl⟩
  generalize oweN T H N o d = res at *
  obtain ⟨eT, hT1⟩ : ∃ es, T.map rowP = es := ⟨_, rfl⟩
  obtain ⟨eH, hH1⟩ : ∃ es, H.map rowP = es := ⟨_, rfl⟩
  obtain ⟨eN, hN1⟩ : ∃ es, N.map rowP = es := ⟨_, rfl⟩
  obtain ⟨tw, htw⟩ : ∃ t, 2 + o = t := ⟨_, rfl⟩
  simp only [accP, hT1, hH1, hN1, hEL, htw] at hCk hall hpo ⊢
  refine does_of (own := inPl) Tryz.func45 rfl Tryz.ntmps45 (congrArg Array.toList Tryz.results45) (fun us w => Tryz.call45 us w) hTT mixed (Nat.le_of_ble_eq_true rfl) ?_
  intro w0 im0 D0 S Cl hS hC ar har
  have har' := har
  obtain ⟨ai, ab, nz, inr, fi, pk, ix, ln, sb, eqi, sl, fits, mn, mx, nt, be, up, fu, mg, mh, ms⟩ := ar
  have F := facts_of har
  clear har
  cbv
  refine ⟨_, hC _ _ _ hCk, ?_⟩; cbv
  refine ⟨_, hC _ _ _ hWy, ?_⟩; cbv
  refine ⟨_, hC _ _ _ hDy, ?_⟩; cbv
  refine ⟨_, hC _ _ _ hOr, ?_⟩; cbv
  by_cases h0 : q = 0
  · have c0 : ab .neq q 0 = false := by rw [F.neq, h0]; rfl
    have hpo := hpo h0
    have hgd := hgd h0
    have hHl := hHl h0
    have hVe : V = .tup [.int .i64 (sumF (oweF T N o d) Hs), .int .i64 0] := by rw [← hV, he h0, h0]
    have hoin : ∀ x ∈ Hs, 0 ≤ oweF T N o d x ∧ oweF T N o d x ≤ 1500000000000 := fun x hx => by
      have := (hgd x hx).payIn h1
      unfold oweF; split <;> omega
    have hsin : ∀ k, k ≤ Hs.length → 0 ≤ sumF (oweF T N o d) (Hs.take k) ∧ sumF (oweF T N o d) (Hs.take k) ≤ 100000000000000 := fun k hk => by
      have := sumF_in (L := Hs.take k) fun x hx => hoin x (List.take_subset _ _ hx)
      simp only [List.length_take] at this
      omega
    have hoi : ∀ k (hk : k < Hs.length), 0 ≤ oweF T N o d Hs[k] ∧ oweF T N o d Hs[k] ≤ 1500000000000 := fun k hk => hoin _ (List.getElem_mem hk)
    have hsn : ∀ k (hk : k < Hs.length), sumF (oweF T N o d) (Hs.take (k + 1)) = sumF (oweF T N o d) (Hs.take k) + oweF T N o d Hs[k] := fun k hk => sumF_take hk
    have hs0 : sumF (oweF T N o d) (Hs.take 0) = 0 := rfl
    have hsl : sumF (oweF T N o d) (Hs.take Hs.length) = sumF (oweF T N o d) Hs := by rw [List.take_length]
    have hoD : ∀ x, oweF T N o d x = if (payN T N x d).1 == tw then (payN T N x d).2 else 0 := fun x => by rw [← htw]; rfl
    rw [← hsl] at hVe
    obtain ⟨fo, hfo⟩ : ∃ f, oweF T N o d = f := ⟨_, rfl⟩
    simp only [hfo] at hVe hsin hoi hsn hs0 hoD
    obtain ⟨sk, hsk⟩ : ∃ s : Nat → Int, (fun k => sumF fo (Hs.take k)) = s := ⟨_, rfl⟩
    have hskd : ∀ k, sumF fo (Hs.take k) = sk k := fun k => by rw [← hsk]
    simp only [hskd] at hVe hsin hsn hs0
    clear hskd hsk hfo hoin hsl he hne hV
    rw [c0]; cbv
    refine ⟨_, hC _ _ _ (hall h0), ?_⟩; cbv
    refine hS _ _ _ (sem_loop (fun x : Nat × Int × Int => [sI 1 o, sI 9 x.2.2, sL 27 16 eL, sI 28 (ln eL), sI 29 x.2.1]) (fun x => x.1 ≤ Hs.length ∧ x.2.1 = (x.1 : Int) ∧ x.2.2 = sk x.1) (fun x => Hs.length - x.1) (fun t => t) (0, 0, 0) (fun t => t) ⟨by rfl, by cbv; try (repeat (first | exact rfl | exact trivial | refine ⟨?_, ?_⟩))⟩ ?_ ?_)
    · exact ⟨by simp, rfl, hs0.symm⟩
    rintro ⟨k, i, s⟩ ⟨hk, hi, hs⟩
    dsimp only at hk hi hs
    have hadd : ai .add i 1 = ((k + 1 : Nat) : Int) := by rw [F.add i 1 (by omega) (by omega), hi]; simp
    have hlen : ln eL = Hs.length := by rw [F.ln, ← hEL]; simp
    refine sem_of (X := ⟨_, TT, ⟨0, 47, inPl⟩⟩) har' hTT mixed ?_
    intro S1 Cl1 hS1 hC1
    cbv
    by_cases hlt : k < Hs.length
    · have hb : ab .lss i (ln eL) = true := by rw [hlen, F.lss, hi]; simpa using hlt
      have hg : ix eL i = some (tolC Hs[k] T N d) := by rw [F.ix _ i k hi, ← hEL]; simp [hlt]
      have gk := hgd _ (List.getElem_mem hlt)
      have hpk := gk.pay h1 h3
      have hnx := hsn k hlt
      have ho := hoi k hlt
      have hsi := hsin k hk
      rw [hoD] at hnx ho
      generalize Hs[k] = x at *
      have gl := gk.len
      clear gk hgd hoi hsn hoD
      obtain ⟨⟨py, pd⟩, hpp⟩ : ∃ p, payN T N x d = p := ⟨_, rfl⟩
      rw [hpp] at hpk hnx ho
      dsimp only at hpk hnx ho
      obtain ⟨x0, x1, x2, x3, x4, x5, x6, x7, x8, rfl⟩ := list9 gl
      obtain ⟨l0, l1, l2, l3, hlo⟩ : ∃ l0 l1 l2 l3, lotN T N [x0, x1, x2, x3, x4, x5, x6, x7, x8] d = [l0, l1, l2, l3] := ⟨_, _, _, _, rfl⟩
      obtain ⟨eS, hS1⟩ : ∃ es, (sayL N [x0, x1, x2, x3, x4, x5, x6, x7, x8] d).map rowP = es := ⟨_, rfl⟩
      simp only [tolC, hlo, hT1, hS1] at hg hpk
      have hno : ab .eql py tw = false → s = sk (k + 1) := fun h => by
        rw [F.eql] at h; rw [hnx, if_neg (by simpa using h), hs]; omega
      have hyes : ab .eql py tw = true → ai .add s pd = sk (k + 1) := fun h => by
        rw [F.eql] at h
        rw [if_pos (by simpa using h)] at hnx ho
        rw [F.add s pd (by omega) (by omega), hnx, hs]
      rw [hb]; cbv
      repeat (rw [hg]; cbv)
      refine ⟨_, hC1 _ _ _ hpk, ?_⟩; cbv
      refine ⟨_, hC1 _ _ _ hpo, ?_⟩; cbv
      cases c1 : ab .eql py tw
      · cbv
        exact ⟨(k + 1, ai .add i 1, s), ⟨hlt, hadd, hno c1⟩, by dsimp only; omega, ⟨by rfl, by cbv; try (repeat (first | exact rfl | exact trivial | refine ⟨?_, ?_⟩))⟩⟩
      · cbv
        exact ⟨(k + 1, ai .add i 1, ai .add s pd), ⟨hlt, hadd, hyes c1⟩, by dsimp only; omega, ⟨by rfl, by cbv; try (repeat (first | exact rfl | exact trivial | refine ⟨?_, ?_⟩))⟩⟩
    · have hb : ab .lss i (ln eL) = false := by rw [hlen, F.lss, hi]; simpa using hlt
      have hkE : k = Hs.length := by omega
      rw [hb]; cbv
      rw [hVe, hs, hkE]
      exact PLe.refl _
  · have c0 : ab .neq q 0 = true := by rw [F.neq]; simpa using h0
    rw [c0]; cbv
    rw [← hV, hne h0]
    exact PLe.refl _
theorem eqPs_rows : ∀ (a b : List Int), eqPs (rowP a) (rowP b) = (a == b)
  | [], [] => rfl
  | [], _ :: _ => rfl
  | _ :: _, [] => rfl
  | a :: a1, b :: b1 => by
    have := eqPs_rows a1 b1
    unfold rowP at this ⊢
    simp only [List.map_cons, eqPs, eqS, this]
    rfl
theorem mFind_new {kn : Nat} {key : List PV} : ∀ {es : List (List PV)}, (∀ e ∈ es, eqPs key (e.take kn) = false) → mFind kn key es = none
  | [], _ => rfl
  | e :: es, h => by
    unfold mFind
    rw [if_neg (by simp [h e (by simp)]), mFind_new fun x hx => h x (by simp [hx])]
    rfl
theorem mSet_new {kn : Nat} {key : List Int} {E : List (List Int)} {v : List PV} (h : ∀ e ∈ E, e.take kn ≠ key) : mSet kn (E.map rowP) (rowP key) v = E.map rowP ++ [rowP key ++ v] := by
  unfold mSet
  rw [mFind_new fun e he => ?_]
  obtain ⟨x, hx, rfl⟩ := List.mem_map.1 he
  rw [show (rowP x).take kn = rowP (x.take kn) by unfold rowP; rw [List.map_take], eqPs_rows]
  simpa using fun hh => h x hx hh.symm
def rcvL (h : List Int) : List Int := if h.getD 5 0 = 0 then [0, 1] else [0, 1, 2 + h.getD 5 0]
theorem receivers_does {h : List Int} (hh : h.length = 9) (hd : 0 ≤ h.getD 5 0 ∧ h.getD 5 0 ≤ 99) : Does Tryz.prog 138 [.agg (rowP h)] (.list 1 (numP (rcvL h))) := by
  have hp := partyOf_does (h.getD 5 0) hd.1 (by omega)
  obtain ⟨V, hV⟩ : ∃ V, PV.list 1 (numP (rcvL h)) = V := ⟨_, rfl⟩
  rw [hV]
  unfold rcvL at hV
  obtain ⟨x0, x1, x2, x3, x4, x5, x6, x7, x8, rfl⟩ := list9 hh
  simp only [List.getD_cons_succ, List.getD_cons_zero] at hp hV
  obtain ⟨t, ht⟩ : ∃ t, 2 + x5 = t := ⟨_, rfl⟩
  rw [ht] at hp hV
  refine does_of (own := inPl) Tryz.func138 rfl Tryz.ntmps138 (congrArg Array.toList Tryz.results138) (fun us w => Tryz.call138 us w) hTT mixed (Nat.le_of_ble_eq_true rfl) ?_
  intro w0 im0 D0 S Cl hS hC ar har
  have har' := har
  obtain ⟨ai, ab, nz, inr, fi, pk, ix, ln, sb, eqi, sl, fits, mn, mx, nt, be, up, fu, mg, mh, ms⟩ := ar
  have F := facts_of har
  clear har
  cbv
  cases c0 : ab .eql x5 0
  · cbv
    refine ⟨_, hC _ _ _ hp, ?_⟩; cbv
    rw [F.eql] at c0
    rw [if_neg (by simpa using c0)] at hV
    rw [← hV]; exact PLe.refl _
  · cbv
    rw [F.eql] at c0
    rw [if_pos (by simpa using c0)] at hV
    rw [← hV]; exact PLe.refl _
theorem ids_lt {ok : List Int → Bool} {m : Nat} {H : List (List Int)} (h : lsOk ok m H = true) (p : List Int → Bool) : ∀ i j (hi : i < (H.filter p).length) (hj : j < (H.filter p).length), i < j → ((H.filter p)[i]).getD 0 0 < ((H.filter p)[j]).getD 0 0 := by
  have h1 : H.Pairwise (fun a b => a.getD 0 0 < b.getD 0 0) := by
    rw [List.pairwise_iff_getElem]
    intro i j hi hj hij
    have := ls_srt h i j hij hj
    rwa [show H.getD i [] = H[i] by simp [List.getD, hi], show H.getD j [] = H[j] by simp [List.getD, hj]] at this
  have h2 := h1.filter p
  rw [List.pairwise_iff_getElem] at h2
  exact fun i j hi hj hij => h2 i j hi hj hij
def dueE (T N : List (List Int)) (d : Int) (h : List Int) : List Int := h.getD 0 0 :: dueN T N h d
theorem dues_does {T H N : List (List Int)} (h1 : ∀ x ∈ T, x.length = 24) (h2 : ∀ x ∈ H, x.length = 9) (h3 : ∀ x ∈ N, x.length = 7) {d : Int} (hq : askE T H N d = 0) :
    Does Tryz.prog 116 [accP T H N, .int .i64 d] (.map false true [.int .i64 0] (((H.filter (cntH d)).map (dueE T N d)).map rowP)) := by
  have hall := tellAll_does h1 h2 h3 hq
  have hgd : ∀ x ∈ H.filter (cntH d), Good T N x d := fun x hx => good_in h2 hq (List.mem_filter.1 hx).1
  have hHl : (H.filter (cntH d)).length ≤ 60 := by
    have := (accOk_len (askE_ok hq).1).2.1
    have := tolL_len T H N d
    omega
  have hid := ids_lt (by have := (askE_ok hq).1; unfold accOk at this; simp only [Bool.and_eq_true] at this; exact this.2.1) (cntH d)
  unfold tolL at hall
  generalize H.filter (cntH d) = Hs at *
  obtain ⟨V, hV⟩ : ∃ V, PV.map false true [.int .i64 0] ((Hs.map (dueE T N d)).map rowP) = V := ⟨_, rfl⟩
  rw [hV]
  obtain ⟨eL, hEL⟩ : ∃ es, Hs.map (fun h => tolC h T N d) = es := ⟨_, rfl⟩
  obtain ⟨eT, hT1⟩ : ∃ es, T.map rowP = es := ⟨_, rfl⟩
  obtain ⟨eH, hH1⟩ : ∃ es, H.map rowP = es := ⟨_, rfl⟩
  obtain ⟨eN, hN1⟩ : ∃ es, N.map rowP = es := ⟨_, rfl⟩
  simp only [accP, hT1, hH1, hN1, hEL] at hall ⊢
  have hfr : ∀ k (hk : k < Hs.length), ∀ e ∈ (Hs.take k).map (dueE T N d), e.take 1 ≠ [(Hs[k]).getD 0 0] := fun k hk e he => by
    obtain ⟨x, hx, rfl⟩ := List.mem_map.1 he
    obtain ⟨j, hj, rfl⟩ := List.mem_iff_getElem.1 hx
    rw [List.getElem_take]
    simp only [List.length_take] at hj
    have := hid j k (by omega) hk (by omega)
    simp only [dueE, List.take_succ_cons, List.take_zero, ne_eq, List.cons.injEq, and_true]
    omega
  have hnx : ∀ k (hk : k < Hs.length), (((Hs.take (k + 1)).map (dueE T N d)).map rowP) = ((Hs.take k).map (dueE T N d)).map rowP ++ [rowP [(Hs[k]).getD 0 0] ++ rowP (dueN T N Hs[k] d)] := fun k hk => by
    rw [take_last hk]; simp only [List.map_append]; rfl
  have hset : ∀ k (hk : k < Hs.length) (v : List PV), mSet 1 (((Hs.take k).map (dueE T N d)).map rowP) (rowP [(Hs[k]).getD 0 0]) v = ((Hs.take k).map (dueE T N d)).map rowP ++ [rowP [(Hs[k]).getD 0 0] ++ v] := fun k hk v => mSet_new (hfr k hk)
  have he0 : ((Hs.take 0).map (dueE T N d)).map rowP = [] := rfl
  have heL : ((Hs.take Hs.length).map (dueE T N d)).map rowP = (Hs.map (dueE T N d)).map rowP := by rw [List.take_length]
  rw [← heL] at hV
  obtain ⟨ek, hek⟩ : ∃ s : Nat → List (List PV), (fun k => ((Hs.take k).map (dueE T N d)).map rowP) = s := ⟨_, rfl⟩
  have hekd : ∀ k, ((Hs.take k).map (dueE T N d)).map rowP = ek k := fun k => by rw [← hek]
  simp only [hekd] at hnx hset he0 hV
  clear hekd hek heL hfr hid
  refine does_of (own := inPl) Tryz.func116 rfl Tryz.ntmps116 (congrArg Array.toList Tryz.results116) (fun us w => Tryz.call116 us w) hTT mixed (Nat.le_of_ble_eq_true rfl) ?_
  intro w0 im0 D0 S Cl hS hC ar har
  have har' := har
  obtain ⟨ai, ab, nz, inr, fi, pk, ix, ln, sb, eqi, sl, fits, mn, mx, nt, be, up, fu, mg, mh, ms⟩ := ar
  have F := facts_of har
  clear har
  cbv
  refine ⟨_, hC _ _ _ hall, ?_⟩; cbv
  refine hS _ _ _ (sem_loop (fun x : Nat × Int × List (List PV) => [(kT 5, .t (.c (.mp 8))), sL 11 16 eL, sI 12 (ln eL), sI 13 x.2.1, (kB 8, .obj (.map false true [.int .i64 0] x.2.2))]) (fun x => x.1 ≤ Hs.length ∧ x.2.1 = (x.1 : Int) ∧ x.2.2 = ek x.1) (fun x => Hs.length - x.1) (fun t => t) (0, 0, []) (fun t => t) ⟨by rfl, by cbv; try (repeat (first | exact rfl | exact trivial | refine ⟨?_, ?_⟩))⟩ ?_ ?_)
  · exact ⟨by simp, rfl, he0.symm⟩
  rintro ⟨k, i, es⟩ ⟨hk, hi, hes⟩
  dsimp only at hk hi hes
  have hadd : ai .add i 1 = ((k + 1 : Nat) : Int) := by rw [F.add i 1 (by omega) (by omega), hi]; simp
  have hlen : ln eL = Hs.length := by rw [F.ln, ← hEL]; simp
  refine sem_of (X := ⟨_, TT, ⟨0, 25, inPl⟩⟩) har' hTT mixed ?_
  intro S1 Cl1 hS1 hC1
  cbv
  by_cases hlt : k < Hs.length
  · have hb : ab .lss i (ln eL) = true := by rw [hlen, F.lss, hi]; simpa using hlt
    have hg : ix eL i = some (tolC Hs[k] T N d) := by rw [F.ix _ i k hi, ← hEL]; simp [hlt]
    have gk := hgd _ (List.getElem_mem hlt)
    have hdu := gk.due h1 h3
    have hn1 := hnx k hlt
    have hs1 := hset k hlt
    rw [← hes] at hs1 hn1
    obtain ⟨g0, g1, g2, g3, hcg⟩ : ∃ g0 g1 g2 g3, dueN T N Hs[k] d = [g0, g1, g2, g3] := by
      unfold dueN dueP; split
      · exact ⟨_, _, _, _, rfl⟩
      · split <;> exact ⟨_, _, _, _, rfl⟩
    rw [hcg] at hdu hn1
    generalize Hs[k] = x at *
    have gl := gk.len
    clear gk hgd hnx hset
    obtain ⟨x0, x1, x2, x3, x4, x5, x6, x7, x8, rfl⟩ := list9 gl
    obtain ⟨l0, l1, l2, l3, hlo⟩ : ∃ l0 l1 l2 l3, lotN T N [x0, x1, x2, x3, x4, x5, x6, x7, x8] d = [l0, l1, l2, l3] := ⟨_, _, _, _, rfl⟩
    obtain ⟨eS, hS1⟩ : ∃ es, (sayL N [x0, x1, x2, x3, x4, x5, x6, x7, x8] d).map rowP = es := ⟨_, rfl⟩
    simp only [tolC, toldP, hlo, hT1, hS1] at hg hdu
    simp only [List.getD_cons_zero] at hn1 hs1
    have hset2 : ms 1 es [.int .i64 x0] [.int .i64 g0, .int .i64 g1, .int .i64 g2, .int .i64 g3] = ek (k + 1) := by rw [F.ms, hn1]; exact hs1 _
    rw [hb]; cbv
    repeat (rw [hg]; cbv)
    refine ⟨_, hC1 _ _ _ hdu, ?_⟩; cbv
    exact ⟨(k + 1, ai .add i 1, ms 1 es [.int .i64 x0] [.int .i64 g0, .int .i64 g1, .int .i64 g2, .int .i64 g3]), ⟨hlt, hadd, hset2⟩, by dsimp only; omega, ⟨by rfl, by cbv; try (repeat (first | exact rfl | exact trivial | refine ⟨?_, ?_⟩))⟩⟩
  · have hb : ab .lss i (ln eL) = false := by rw [hlen, F.lss, hi]; simpa using hlt
    have hkE : k = Hs.length := by omega
    rw [hb]; cbv
    rw [← hV, hes, hkE]
    exact PLe.refl _
def amtE (T N : List (List Int)) (d : Int) (h : List Int) : List (List Int) :=
  ((rcvL h).zip [(dueN T N h d).getD 3 0, (dueN T N h d).getD 1 0, (dueN T N h d).getD 2 0]).map fun x => [h.getD 0 0, (dueN T N h d).getD 0 0, x.1, x.2]
theorem take_ne {e : List Int} {a b c x : Int} (h : e.getD 0 0 ≠ x) (hx : x = a) : e.take 3 ≠ [a, b, c] := fun he => by
  subst hx
  match e, he with
  | y :: _, he =>
    simp only [List.take_succ_cons, List.cons.injEq] at he
    exact h (by simpa using he.1)
theorem amt_step {T N : List (List Int)} {d : Int} {x : List Int} (hd : 0 ≤ x.getD 5 0) {E0 : List (List Int)} (h0 : ∀ e ∈ E0, e.getD 0 0 ≠ x.getD 0 0) {j : Nat} (hj : j < (rcvL x).length) :
    ∃ to am, (numP (rcvL x))[j]? = some [PV.int .i64 to] ∧ ([[PV.int .i64 ((dueN T N x d).getD 3 0)], [PV.int .i64 ((dueN T N x d).getD 1 0)], [PV.int .i64 ((dueN T N x d).getD 2 0)]] : List (List PV))[j]? = some [PV.int .i64 am] ∧
      mSet 3 ((E0 ++ (amtE T N d x).take j).map rowP) [PV.int .i64 (x.getD 0 0), PV.int .i64 ((dueN T N x d).getD 0 0), PV.int .i64 to] [PV.int .i64 am] = (E0 ++ (amtE T N d x).take (j + 1)).map rowP := by
  unfold amtE
  generalize (dueN T N x d).getD 0 0 = g0
  generalize (dueN T N x d).getD 1 0 = g1
  generalize (dueN T N x d).getD 2 0 = g2
  generalize (dueN T N x d).getD 3 0 = g3
  unfold rcvL at hj ⊢
  generalize x.getD 0 0 = x0 at *
  generalize x.getD 5 0 = x5 at *
  have key : ∀ (L : List (List Int)) (to am : Int), (∀ e ∈ L, e.take 3 ≠ [x0, g0, to]) → mSet 3 ((E0 ++ L).map rowP) [PV.int .i64 x0, PV.int .i64 g0, PV.int .i64 to] [PV.int .i64 am] = (E0 ++ (L ++ [[x0, g0, to, am]])).map rowP := fun L to am hL => by
    have := mSet_new (kn := 3) (key := [x0, g0, to]) (E := E0 ++ L) (v := [PV.int .i64 am]) (fun e he => by
      rcases List.mem_append.1 he with h | h
      · exact take_ne (h0 e h) rfl
      · exact hL e h)
    refine this.trans ?_
    simp [rowP]
  split at hj <;> rename_i h5
  · rw [if_pos h5]
    match j, hj with
    | 0, _ => exact ⟨0, g3, rfl, rfl, key [] 0 g3 (by simp)⟩
    | 1, _ => exact ⟨1, g1, rfl, rfl, key [[x0, g0, 0, g3]] 1 g1 (by simp)⟩
  · rw [if_neg h5]
    match j, hj with
    | 0, _ => exact ⟨0, g3, rfl, rfl, key [] 0 g3 (by simp)⟩
    | 1, _ => exact ⟨1, g1, rfl, rfl, key [[x0, g0, 0, g3]] 1 g1 (by simp)⟩
    | 2, _ => exact ⟨2 + x5, g2, rfl, rfl, key [[x0, g0, 0, g3], [x0, g0, 1, g1]] (2 + x5) g2 (by simp; omega)⟩
theorem amtE_len (T N : List (List Int)) (d : Int) (x : List Int) : (amtE T N d x).length = (rcvL x).length := by
  unfold amtE rcvL; split <;> rfl
theorem amtE_id {T N : List (List Int)} {d : Int} {x e : List Int} (h : e ∈ amtE T N d x) : e.getD 0 0 = x.getD 0 0 := by
  unfold amtE at h
  obtain ⟨y, _, rfl⟩ := List.mem_map.1 h
  rfl
def amtL (T H N : List (List Int)) (d : Int) : List (List Int) := (H.filter (cntH d)).flatMap (amtE T N d)
theorem amounts_does {T H N : List (List Int)} (h1 : ∀ x ∈ T, x.length = 24) (h2 : ∀ x ∈ H, x.length = 9) (h3 : ∀ x ∈ N, x.length = 7) {d : Int} (hq : askE T H N d = 0) :
    Does Tryz.prog 103 [accP T H N, .int .i64 d] (.map true false [.int .i64 0, .int .i64 0, .int .i64 0] ((amtL T H N d).map rowP)) := by
  have hall := tellAll_does h1 h2 h3 hq
  have hgd : ∀ x ∈ H.filter (cntH d), Good T N x d := fun x hx => good_in h2 hq (List.mem_filter.1 hx).1
  have hHl : (H.filter (cntH d)).length ≤ 60 := by
    have := (accOk_len (askE_ok hq).1).2.1
    have := tolL_len T H N d
    omega
  have hid := ids_lt (by have := (askE_ok hq).1; unfold accOk at this; simp only [Bool.and_eq_true] at this; exact this.2.1) (cntH d)
  unfold tolL at hall
  unfold amtL
  generalize H.filter (cntH d) = Hs at *
  obtain ⟨V, hV⟩ : ∃ V, PV.map true false [.int .i64 0, .int .i64 0, .int .i64 0] ((Hs.flatMap (amtE T N d)).map rowP) = V := ⟨_, rfl⟩
  rw [hV]
  obtain ⟨eL, hEL⟩ : ∃ es, Hs.map (fun h => tolC h T N d) = es := ⟨_, rfl⟩
  obtain ⟨eT, hT1⟩ : ∃ es, T.map rowP = es := ⟨_, rfl⟩
  obtain ⟨eH, hH1⟩ : ∃ es, H.map rowP = es := ⟨_, rfl⟩
  obtain ⟨eN, hN1⟩ : ∃ es, N.map rowP = es := ⟨_, rfl⟩
  simp only [accP, hT1, hH1, hN1, hEL] at hall ⊢
  have hfr : ∀ k (hk : k < Hs.length), ∀ e ∈ (Hs.take k).flatMap (amtE T N d), e.getD 0 0 ≠ (Hs[k]).getD 0 0 := fun k hk e he => by
    obtain ⟨x, hx, he⟩ := List.mem_flatMap.1 he
    obtain ⟨j, hj, rfl⟩ := List.mem_iff_getElem.1 hx
    rw [List.getElem_take] at he
    simp only [List.length_take] at hj
    have := hid j k (by omega) hk (by omega)
    rw [amtE_id he]
    omega
  have hek : ∀ k (hk : k < Hs.length), ((Hs.take (k + 1)).flatMap (amtE T N d)).map rowP = (((Hs.take k).flatMap (amtE T N d)) ++ (amtE T N d Hs[k]).take (rcvL Hs[k]).length).map rowP := fun k hk => by
    rw [take_last hk, ← amtE_len T N d, List.take_length, List.flatMap_append]
    simp
  have heL : ((Hs.take Hs.length).flatMap (amtE T N d)).map rowP = (Hs.flatMap (amtE T N d)).map rowP := by rw [List.take_length]
  rw [← heL] at hV
  refine does_of (own := inPl) Tryz.func103 rfl Tryz.ntmps103 (congrArg Array.toList Tryz.results103) (fun us w => Tryz.call103 us w) hTT mixed (Nat.le_of_ble_eq_true rfl) ?_
  intro w0 im0 D0 S Cl hS hC ar har
  have har' := har
  obtain ⟨ai, ab, nz, inr, fi, pk, ix, ln, sb, eqi, sl, fits, mn, mx, nt, be, up, fu, mg, mh, ms⟩ := ar
  have F := facts_of har
  clear har
  cbv
  refine ⟨_, hC _ _ _ hall, ?_⟩; cbv
  refine hS _ _ _ (sem_loop (fun x : Nat × Int × List (List PV) => [(kT 5, .t (.c (.mp 12))), sL 15 16 eL, sI 16 (ln eL), sI 17 x.2.1, (kB 12, .obj (.map true false [.int .i64 0, .int .i64 0, .int .i64 0] x.2.2))]) (fun x => x.1 ≤ Hs.length ∧ x.2.1 = (x.1 : Int) ∧ x.2.2 = ((Hs.take x.1).flatMap (amtE T N d)).map rowP) (fun x => Hs.length - x.1) (fun t => t) (0, 0, []) (fun t => t) ⟨by rfl, by cbv; try (repeat (first | exact rfl | exact trivial | refine ⟨?_, ?_⟩))⟩ ?_ ?_)
  · exact ⟨by simp, rfl, rfl⟩
  rintro ⟨k, i, es⟩ ⟨hk, hi, hes⟩
  dsimp only at hk hi hes
  have hadd : ai .add i 1 = ((k + 1 : Nat) : Int) := by rw [F.add i 1 (by omega) (by omega), hi]; simp
  have hlen : ln eL = Hs.length := by rw [F.ln, ← hEL]; simp
  refine sem_of (X := ⟨_, TT, ⟨0, 54, inPl⟩⟩) har' hTT mixed ?_
  intro S1 Cl1 hS1 hC1
  cbv
  by_cases hlt : k < Hs.length
  · have hb : ab .lss i (ln eL) = true := by rw [hlen, F.lss, hi]; simpa using hlt
    have hg : ix eL i = some (tolC Hs[k] T N d) := by rw [F.ix _ i k hi, ← hEL]; simp [hlt]
    have gk := hgd _ (List.getElem_mem hlt)
    have hdu := gk.due h1 h3
    have hb5 := (heldOk_bounds gk.held).2.2.2.1
    have hrc := receivers_does gk.len hb5
    have hst := fun j (hj : j < (rcvL Hs[k]).length) => amt_step (T := T) (N := N) (d := d) hb5.1 (hfr k hlt) hj
    have hk1 := hek k hlt
    have hk0 : es = (((Hs.take k).flatMap (amtE T N d)) ++ (amtE T N d Hs[k]).take 0).map rowP := by rw [hes]; simp
    obtain ⟨g0, g1, g2, g3, hcg⟩ : ∃ g0 g1 g2 g3, dueN T N Hs[k] d = [g0, g1, g2, g3] := by
      unfold dueN dueP; split
      · exact ⟨_, _, _, _, rfl⟩
      · split <;> exact ⟨_, _, _, _, rfl⟩
    rw [hcg] at hdu hst
    obtain ⟨fj, hfj⟩ : ∃ f : Nat → List (List PV), (fun j => (((Hs.take k).flatMap (amtE T N d)) ++ (amtE T N d Hs[k]).take j).map rowP) = f := ⟨_, rfl⟩
    have hfjd : ∀ j, (((Hs.take k).flatMap (amtE T N d)) ++ (amtE T N d Hs[k]).take j).map rowP = fj j := fun j => by rw [← hfj]
    simp only [hfjd] at hst hk1 hk0
    have hRl : (rcvL Hs[k]).length ≤ 3 := by unfold rcvL; split <;> simp
    generalize Hs[k] = x at *
    have gl := gk.len
    clear hfjd hfj gk hgd hek hfr hcg
    obtain ⟨x0, x1, x2, x3, x4, x5, x6, x7, x8, rfl⟩ := list9 gl
    obtain ⟨l0, l1, l2, l3, hlo⟩ : ∃ l0 l1 l2 l3, lotN T N [x0, x1, x2, x3, x4, x5, x6, x7, x8] d = [l0, l1, l2, l3] := ⟨_, _, _, _, rfl⟩
    obtain ⟨eS, hES⟩ : ∃ es, (sayL N [x0, x1, x2, x3, x4, x5, x6, x7, x8] d).map rowP = es := ⟨_, rfl⟩
    simp only [tolC, toldP, hlo, hT1, hES] at hg hdu
    simp only [List.getD_cons_zero, List.getD_cons_succ] at hst
    generalize rcvL [x0, x1, x2, x3, x4, x5, x6, x7, x8] = rc at *
    obtain ⟨eR, hER⟩ : ∃ es, numP rc = es := ⟨_, rfl⟩
    have hlR : ln eR = rc.length := by rw [F.ln, ← hER]; simp [numP]
    rw [hER] at hrc
    simp only [hER] at hst
    rw [hb]; cbv
    repeat (rw [hg]; cbv)
    refine ⟨_, hC1 _ _ _ hdu, ?_⟩; cbv
    refine ⟨_, hC1 _ _ _ hrc, ?_⟩; cbv
    refine hS1 _ _ _ (sem_loop (fun y : Nat × Int × List (List PV) => [(kT 5, .t (.c (.mp 12))), sP 7 7, sP 8 8, sR 9 29, sL 15 16 eL, sI 16 (ln eL), sI 17 i, sL 32 1 eR, sI 33 (ln eR), sI 34 y.2.1, bX 7 123 [cI x0, cI x1, cI x2, cI x3, cI x4, cI x5, cI x6, cI x7, cI x8, cL 24 eT, cL 7 eS, cI d, cI l0, cI l1, cI l2, cI l3], bX 8 66 [cI g0, cI g1, cI g2, cI g3], rW 29 3 1 [[.int .i64 g3], [.int .i64 g1], [.int .i64 g2]], (kB 12, .obj (.map true false [.int .i64 0, .int .i64 0, .int .i64 0] y.2.2))]) (fun y => y.1 ≤ rc.length ∧ y.2.1 = (y.1 : Int) ∧ y.2.2 = fj y.1) (fun y => rc.length - y.1) (fun t => t) (0, 0, es) (fun t => t) ⟨by rfl, by cbv; try (repeat (first | exact rfl | exact trivial | refine ⟨?_, ?_⟩))⟩ ?_ ?_)
    · exact ⟨by simp, rfl, hk0⟩
    rintro ⟨m, r, es'⟩ ⟨hm, hr, hes'⟩
    dsimp only at hm hr hes'
    have hradd : ai .add r 1 = ((m + 1 : Nat) : Int) := by rw [F.add r 1 (by omega) (by omega), hr]; simp
    refine sem_of (X := ⟨_, TT, ⟨0, 54, inPl⟩⟩) har' hTT mixed ?_
    intro S2 Cl2 hS2 hC2
    cbv
    by_cases hlt2 : m < rc.length
    · have hb2 : ab .lss r (ln eR) = true := by rw [hlR, F.lss, hr]; simpa using hlt2
      obtain ⟨to, am, q1, q2, q3⟩ := hst m hlt2
      have hg2 : ix eR r = some [PV.int .i64 to] := by rw [F.ix _ r m hr]; exact q1
      have hg3 : ix [[.int .i64 g3], [.int .i64 g1], [.int .i64 g2]] r = some [PV.int .i64 am] := by rw [F.ix _ r m hr]; exact q2
      have hset : ms 3 es' [.int .i64 x0, .int .i64 g0, .int .i64 to] [.int .i64 am] = fj (m + 1) := by rw [F.ms, hes']; exact q3
      rw [hb2]; cbv
      repeat (rw [hg2]; cbv)
      repeat (rw [hg3]; cbv)
      exact ⟨(m + 1, ai .add r 1, ms 3 es' [.int .i64 x0, .int .i64 g0, .int .i64 to] [.int .i64 am]), ⟨hlt2, hradd, hset⟩, by dsimp only; omega, ⟨by rfl, by cbv; try (repeat (first | exact rfl | exact trivial | refine ⟨?_, ?_⟩))⟩⟩
    · have hb2 : ab .lss r (ln eR) = false := by rw [hlR, F.lss, hr]; simpa using hlt2
      have hmE : m = rc.length := by omega
      rw [hb2]; cbv
      exact ⟨(k + 1, ai .add i 1, es'), ⟨hlt, hadd, by rw [hk1, hes', hmE]⟩, by dsimp only; omega, ⟨by rfl, by cbv; try (repeat (first | exact rfl | exact trivial | refine ⟨?_, ?_⟩))⟩⟩
  · have hb : ab .lss i (ln eL) = false := by rw [hlen, F.lss, hi]; simpa using hlt
    have hkE : k = Hs.length := by omega
    rw [hb]; cbv
    rw [← hV, hes, hkE]
    exact PLe.refl _
theorem rows_cells {w : World} {A : Option Addr} {k : Nat} {N : List (List Int)} (h : Rw w A N.length k N) (hk : 0 < k) : N.length = 0 ∨ ∃ b, A = some b ∧ ∀ (j : Nat) u, (N.map ints).flatten[j]? = some u → w.cell? (b.add j) = some u := by
  rcases Nat.eq_zero_or_pos N.length with h0 | h0
  · exact .inl h0
  · obtain ⟨g, o, hA, _, _⟩ := h.get 0 h0
    refine .inr ⟨⟨g, o, none⟩, hA, fun j u hu => ?_⟩
    have hw : ∀ x ∈ N.map ints, x.length = k := fun x hx => by
      obtain ⟨y, hy, rfl⟩ := List.mem_map.1 hx
      rw [ints_len]; exact h.wid y hy
    have hj : j < N.length * k := by
      have := (List.getElem?_eq_some_iff.1 hu).1
      rwa [flat_len hw, List.length_map] at this
    have hi : j / k < N.length := Nat.div_lt_of_lt_mul (by rwa [Nat.mul_comm] at hj)
    obtain ⟨g', o', hA', _, hr⟩ := h.get (j / k) hi
    rw [hA] at hA'
    cases hA'
    have e1 := flat_at hw (i := j / k) (by simpa using hi) (j := j % k) (Nat.mod_lt _ hk)
    have e2 : j / k * k + j % k = j := by rw [Nat.mul_comm, Nat.div_add_mod]
    rw [e2] at e1
    rw [e1] at hu
    have := hr (j % k) u (by simpa using hu)
    rw [Nat.add_assoc, e2] at this
    rw [Addr.add_lit]
    exact this
theorem rows_flat (N : List (List Int)) : (N.map rowP).flatten = rowP N.flatten := by
  induction N with
  | nil => rfl
  | cons x N ih => rw [List.map_cons, List.flatten_cons, ih, List.flatten_cons]; unfold rowP; rw [List.map_append]
theorem ints_flat (N : List (List Int)) : (N.map ints).flatten = ints N.flatten := by
  induction N with
  | nil => rfl
  | cons x N ih => rw [List.map_cons, List.flatten_cons, ih, List.flatten_cons]; unfold ints; rw [List.map_append]
theorem rep_flat {im : Nat → Prop} {w : World} (N : List (List Int)) : RepL im w (N.map rowP).flatten (N.map ints).flatten := by
  rw [rows_flat, ints_flat]; exact rep_ints.2 rfl
theorem flat_rows (N : List (List Int)) : FlatL (N.map rowP) := fun im im' w w' us h => by
  rw [rows_flat] at h ⊢
  rw [rep_ints.1 h]
  exact rep_ints.2 rfl
theorem ints_flat_one (N : List (List Int)) : ∀ u ∈ (N.map ints).flatten, u.oneCell' = true := fun u hu => by
  rw [ints_flat] at hu
  exact ints_one' _ u hu
theorem flat_size {N : List (List Int)} {k : Nat} (h : ∀ x ∈ N, x.length = k) : (N.map ints).flatten.length = N.length * k := by
  rw [flat_len (k := k) (fun x hx => by obtain ⟨y, hy, rfl⟩ := List.mem_map.1 hx; rw [ints_len]; exact h y hy), List.length_map]
theorem repN_one {n0 : Nat} {w : World} {e k : Nat} {x : Value} {N : List (List Int)} (h : w.ownsRow n0 e k x N.length (N.map ints).flatten) (hw : ∀ y ∈ N, y.length = k) : RepN n0 w [(e, k, N.map rowP)] [x] := ⟨rfl, fun j r y hr hy => by
    cases j with
    | zero =>
      simp only [List.getElem?_cons_zero, Option.some.injEq] at hr hy
      subst hr; subst hy
      exact ⟨(N.map ints).flatten, by simpa using h, rep_flat N, fun z hz => by obtain ⟨y, hy, rfl⟩ := List.mem_map.1 hz; unfold rowP; rw [List.length_map]; exact hw y hy, ints_flat_one N⟩
    | succ j => simp at hr, fun i j a b g hi hj _ _ => by
    cases i <;> cases j <;> simp at hi hj ⊢⟩
theorem clone7_does {N : List (List Int)} (hw : ∀ x ∈ N, x.length = 7) (hN : N.length ≤ 100000) : DoesO Tryz.prog 120 [.list 7 (N.map rowP)] false [(34, 7, N.map rowP)] := ⟨fun us w => Tryz.call120 us w, fun w im us him hr => by
  obtain ⟨u, rfl, hu⟩ := L1 hr
  obtain ⟨A, c, rfl, hR⟩ := rep_rows him hu hw
  obtain ⟨i0, hi, hz0, hz1, hz2⟩ := info_parts (show (Tryz.prog.info? 34).map (fun i => (i.zero, i.size, i.bytes)) = some (some (.agg (Array.replicate 7 (.int .i64 0))), 7, 56) by kernel_rfl)
  have q22 : ∀ (w : World) (a : Option Addr) (n c n' c' : Nat), (binOp .eql 24 (.slice a n c) (.slice none n' c')).run Tryz.prog w = .ok (.bool a.isNone) w := fun w a n c n' c' => Lib.run_eql_slice_nil w _ _ a n c n' c' Tryz.underlying24
  have hcells := rows_cells hR (by decide)
  cases A with
  | none =>
    have h0 : N.length = 0 := hcells.resolve_right (by rintro ⟨b, hb, _⟩; cases hb)
    have hN0 : N = [] := List.eq_nil_of_length_eq_zero h0
    subst hN0
    go_enter Tryz.func120, Tryz.ntmps120
    go_wp2
    go_ret
    exact ⟨_, [_], rfl, rfl, repN_one ⟨rfl, .inl ⟨rfl, rfl⟩⟩ hw, Below.refl _ _⟩
  | some b =>
    have hcell : ∀ (j : Nat) u, (N.map ints).flatten[j]? = some u → w.cell? (b.add j) = some u := by
      rcases hcells with h0 | ⟨b', hb', h⟩
      · intro j u hu
        have hN0 : N = [] := List.eq_nil_of_length_eq_zero h0
        subst hN0
        simp at hu
      · cases hb'; exact h
    have hlen := flat_size hw
    have hone := ints_flat_one N
    have hfl := hR.small
    obtain ⟨R, hRR⟩ : ∃ R, (N.map ints).flatten = R := ⟨_, rfl⟩
    rw [hRR] at hcell hlen hone
    have hfin : ∀ n0 w x, w.ownsRow n0 34 7 x N.length R → RepN n0 w [(34, 7, N.map rowP)] [x] := fun n0 w x h => repN_one (by rw [hRR]; exact h) hw
    obtain ⟨n, hn⟩ : ∃ n, N.length = n := ⟨_, rfl⟩
    rw [hn] at hlen hfin hN hfl ⊢
    clear hcells hR hu hr hRR
    go_enter Tryz.func120, Tryz.ntmps120
    go_wp2_with (at_builtin; refine wpList_append_own _ rfl _ _ 24 rfl w.heap.size 34 i0 _ 7 56 Tryz.underlying24 hi hz0 hz1 hz2 rfl (by decide) _ _ _ rfl (World.ownsRow_made w #[] 0 (Nat.le_refl _) (Nat.zero_le _) rfl) b n c R rfl hlen ?qc2 hone ?qc4 ?qc5 ?qc6 ?_)
    case qc2 =>
      intro j u hj
      exact Lib.cell?_alloc_some _ (hcell j u hj)
    case qc4 => unfold maxLen; omega
    case qc5 => omega
    case qc6 => simp
    intro v' w1 hown hgrow hnil
    go_wp2
    go_ret
    refine ⟨v', [v'], rfl, rfl, hfin _ _ _ (by simpa using hown), ?_⟩
    exact ((Below.refl _ w).alloc (Nat.le_refl _) _).grown hgrow (by simp) (by intro k hk; simp [Value.ownBlock] at hk; omega)⟩
theorem clone9_does {N : List (List Int)} (hw : ∀ x ∈ N, x.length = 9) (hN : N.length ≤ 100000) : DoesO Tryz.prog 119 [.list 9 (N.map rowP)] false [(32, 9, N.map rowP)] := ⟨fun us w => Tryz.call119 us w, fun w im us him hr => by
  obtain ⟨u, rfl, hu⟩ := L1 hr
  obtain ⟨A, c, rfl, hR⟩ := rep_rows him hu hw
  obtain ⟨i0, hi, hz0, hz1, hz2⟩ := info_parts (show (Tryz.prog.info? 32).map (fun i => (i.zero, i.size, i.bytes)) = some (some (.agg (Array.replicate 9 (.int .i64 0))), 9, 72) by kernel_rfl)
  have q22 : ∀ (w : World) (a : Option Addr) (n c n' c' : Nat), (binOp .eql 23 (.slice a n c) (.slice none n' c')).run Tryz.prog w = .ok (.bool a.isNone) w := fun w a n c n' c' => Lib.run_eql_slice_nil w _ _ a n c n' c' Tryz.underlying23
  have hcells := rows_cells hR (by decide)
  cases A with
  | none =>
    have h0 : N.length = 0 := hcells.resolve_right (by rintro ⟨b, hb, _⟩; cases hb)
    have hN0 : N = [] := List.eq_nil_of_length_eq_zero h0
    subst hN0
    go_enter Tryz.func119, Tryz.ntmps119
    go_wp2
    go_ret
    exact ⟨_, [_], rfl, rfl, repN_one ⟨rfl, .inl ⟨rfl, rfl⟩⟩ hw, Below.refl _ _⟩
  | some b =>
    have hcell : ∀ (j : Nat) u, (N.map ints).flatten[j]? = some u → w.cell? (b.add j) = some u := by
      rcases hcells with h0 | ⟨b', hb', h⟩
      · intro j u hu
        have hN0 : N = [] := List.eq_nil_of_length_eq_zero h0
        subst hN0
        simp at hu
      · cases hb'; exact h
    have hlen := flat_size hw
    have hone := ints_flat_one N
    have hfl := hR.small
    obtain ⟨R, hRR⟩ : ∃ R, (N.map ints).flatten = R := ⟨_, rfl⟩
    rw [hRR] at hcell hlen hone
    have hfin : ∀ n0 w x, w.ownsRow n0 32 9 x N.length R → RepN n0 w [(32, 9, N.map rowP)] [x] := fun n0 w x h => repN_one (by rw [hRR]; exact h) hw
    obtain ⟨n, hn⟩ : ∃ n, N.length = n := ⟨_, rfl⟩
    rw [hn] at hlen hfin hN hfl ⊢
    clear hcells hR hu hr hRR
    go_enter Tryz.func119, Tryz.ntmps119
    go_wp2_with (at_builtin; refine wpList_append_own _ rfl _ _ 23 rfl w.heap.size 32 i0 _ 9 72 Tryz.underlying23 hi hz0 hz1 hz2 rfl (by decide) _ _ _ rfl (World.ownsRow_made w #[] 0 (Nat.le_refl _) (Nat.zero_le _) rfl) b n c R rfl hlen ?qc2 hone ?qc4 ?qc5 ?qc6 ?_)
    case qc2 =>
      intro j u hj
      exact Lib.cell?_alloc_some _ (hcell j u hj)
    case qc4 => unfold maxLen; omega
    case qc5 => omega
    case qc6 => simp
    intro v' w1 hown hgrow hnil
    go_wp2
    go_ret
    refine ⟨v', [v'], rfl, rfl, hfin _ _ _ (by simpa using hown), ?_⟩
    exact ((Below.refl _ w).alloc (Nat.le_refl _) _).grown hgrow (by simp) (by intro k hk; simp [Value.ownBlock] at hk; omega)⟩
theorem clone24_does {N : List (List Int)} (hw : ∀ x ∈ N, x.length = 24) (hN : N.length ≤ 100000) : DoesO Tryz.prog 118 [.list 24 (N.map rowP)] false [(30, 24, N.map rowP)] := ⟨fun us w => Tryz.call118 us w, fun w im us him hr => by
  obtain ⟨u, rfl, hu⟩ := L1 hr
  obtain ⟨A, c, rfl, hR⟩ := rep_rows him hu hw
  obtain ⟨i0, hi, hz0, hz1, hz2⟩ := info_parts (show (Tryz.prog.info? 30).map (fun i => (i.zero, i.size, i.bytes)) = some (some (.agg (Array.replicate 24 (.int .i64 0))), 24, 192) by kernel_rfl)
  have q22 : ∀ (w : World) (a : Option Addr) (n c n' c' : Nat), (binOp .eql 22 (.slice a n c) (.slice none n' c')).run Tryz.prog w = .ok (.bool a.isNone) w := fun w a n c n' c' => Lib.run_eql_slice_nil w _ _ a n c n' c' Tryz.underlying22
  have hcells := rows_cells hR (by decide)
  cases A with
  | none =>
    have h0 : N.length = 0 := hcells.resolve_right (by rintro ⟨b, hb, _⟩; cases hb)
    have hN0 : N = [] := List.eq_nil_of_length_eq_zero h0
    subst hN0
    go_enter Tryz.func118, Tryz.ntmps118
    go_wp2
    go_ret
    exact ⟨_, [_], rfl, rfl, repN_one ⟨rfl, .inl ⟨rfl, rfl⟩⟩ hw, Below.refl _ _⟩
  | some b =>
    have hcell : ∀ (j : Nat) u, (N.map ints).flatten[j]? = some u → w.cell? (b.add j) = some u := by
      rcases hcells with h0 | ⟨b', hb', h⟩
      · intro j u hu
        have hN0 : N = [] := List.eq_nil_of_length_eq_zero h0
        subst hN0
        simp at hu
      · cases hb'; exact h
    have hlen := flat_size hw
    have hone := ints_flat_one N
    have hfl := hR.small
    obtain ⟨R, hRR⟩ : ∃ R, (N.map ints).flatten = R := ⟨_, rfl⟩
    rw [hRR] at hcell hlen hone
    have hfin : ∀ n0 w x, w.ownsRow n0 30 24 x N.length R → RepN n0 w [(30, 24, N.map rowP)] [x] := fun n0 w x h => repN_one (by rw [hRR]; exact h) hw
    obtain ⟨n, hn⟩ : ∃ n, N.length = n := ⟨_, rfl⟩
    rw [hn] at hlen hfin hN hfl ⊢
    clear hcells hR hu hr hRR
    go_enter Tryz.func118, Tryz.ntmps118
    go_wp2_with (at_builtin; refine wpList_append_own _ rfl _ _ 22 rfl w.heap.size 30 i0 _ 24 192 Tryz.underlying22 hi hz0 hz1 hz2 rfl (by decide) _ _ _ rfl (World.ownsRow_made w #[] 0 (Nat.le_refl _) (Nat.zero_le _) rfl) b n c R rfl hlen ?qc2 hone ?qc4 ?qc5 ?qc6 ?_)
    case qc2 =>
      intro j u hj
      exact Lib.cell?_alloc_some _ (hcell j u hj)
    case qc4 => unfold maxLen; omega
    case qc5 => omega
    case qc6 => simp
    intro v' w1 hown hgrow hnil
    go_wp2
    go_ret
    refine ⟨v', [v'], rfl, rfl, hfin _ _ _ (by simpa using hown), ?_⟩
    exact ((Below.refl _ w).alloc (Nat.le_refl _) _).grown hgrow (by simp) (by intro k hk; simp [Value.ownBlock] at hk; omega)⟩
end Go.Proofs.YtjimjdhdnkhfnaaGreat
