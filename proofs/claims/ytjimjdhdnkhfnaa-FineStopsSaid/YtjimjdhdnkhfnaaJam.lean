/- Contracts of functions of the program and of the reference, a calculus of states, and plain facts: a part of a proof. Own text. -/
import Derived.Test.YtjimjdhdnkhfnaaJal
set_option linter.unusedVariables false
set_option linter.unusedSimpArgs false
set_option linter.unusedSectionVars false
namespace Go.Proofs.Ytjimjdhdnkhfnaa
open Go Go.RowKit
set_option maxHeartbeats 4000000
set_option maxRecDepth 100000
theorem fromOf_any (n : List Int) (hn : n.length = 24) (w : World) :
    Calls Try.prog 43 #[.agg ⟨ints n⟩] w fun e w' => e = .returned (.int .i64 (n.getD 0 0)) ∧ Below w.heap.size w w' := by
  go_enter Try.func43, Try.ntmps43
  go_upto_region 1 with fail
  generalize hW : (World.alloc _ _) = W
  have HB : Hid (Below w.heap.size w W) := Lib.hid (by subst hW; go_grown)
  have KD : Bx W (w.heap.size) 70 (ints n) := by subst hW; repeat (first | (refine Bx.newAt _ _ _ ?_; first | rfl | (simp only [World.size_alloc]; done) | (simp only [World.size_alloc]; omega)) | refine Bx.old ?_ _)
  have hWs : Hid (W.heap.size = w.heap.size + 1) := Lib.hid (by subst hW; simp)
  clear hW
  have KDl := KD.lt; have KDc := KD.get; have KDf := KD.fr
  have c0 : W.cell? ⟨w.heap.size, 0, none⟩ = some (.int .i64 (n.getD 0 0)) := by rw [KD.get]; exact ints_get (by omega)
  clear KDc
  obtain ⟨y, hy⟩ : ∃ y, n.getD 0 0 = y := ⟨_, rfl⟩
  rw [hy] at c0
  have Hy := Lib.hid hy
  clear hy
  go_wp2
  go_ret
  exact ⟨by rw [Hy.out]; rfl, HB.out⟩
theorem validTars_any (A : Option Addr) (n c : Nat) (L : List (List Int)) (most : Nat) (w : World) (hL : Rw w A n 24 L) (hm : most ≤ 1000) :
    Calls Try.prog 41 #[.slice A n c, .int .i64 (most : Int), .func (.func 42) #[] #[], .func (.func 43) #[] #[]] w fun e w' => e = .returned (.bool (lsOk tarOk most L)) ∧ Below w.heap.size w w' := by
  have hs := hL.small
  have Hn : Hid (n = L.length) := Lib.hid hL.len
  have HL := Lib.hid hL
  clear hL
  by_cases hnm : (n : Int) > (most : Int)
  · have HX : Hid (lsOk tarOk most L = false) := Lib.hid (by unfold lsOk; rw [decide_eq_false (by rw [← Hn.out]; omega)]; rfl)
    go_enter Try.func41, Try.ntmps41
    go_wp2
    go_ret; exact ⟨by rw [HX.out]; rfl, Below.refl _ _⟩
  · have HX : Hid (lsOk tarOk most L = lsK tarOk L L.length) := Lib.hid (by unfold lsOk; rw [decide_eq_true (by rw [← Hn.out]; omega)]; rfl)
    go_enter Try.func41, Try.ntmps41
    go_wp2_with fail
    go_loopw [17] (fun i wr => ∃ (k : Nat), k ≤ n ∧ i = .int .i64 k ∧ lsK tarOk L k = true ∧ Below w.heap.size w wr) (fun i _ => n - (intOf i).toNat)
    case atStart => exact ⟨0, by omega, rfl, rfl, Below.refl _ _⟩
    case round =>
      obtain ⟨k, hk, rfl, hr, hb⟩ := hrel
      have Hr := Lib.hid hr
      have HB := Lib.hid hb
      clear hr hb
      by_cases hlt : k < n
      · have hkl : k < L.length := by rw [← Hn.out]; exact hlt
        obtain ⟨b, o, rfl, hbl, hc⟩ := (HL.out.keep HB.out).get k hkl
        have h7 : (L[k]).length = 24 := HL.out.at hkl
        have Hs := Lib.hid (lsK_succ tarOk L k)
        have Ha := Lib.hid (lsAt_eq (ok := tarOk) hkl)
        have Hbad := Lib.hid (fun h => lsK_bad (ok := tarOk) hkl h)
        have Hc := Lib.hid hc
        have HCk := Lib.hid (fun W => checkTariff_any L[k] h7 W)
        have HSo : Hid (∀ (x : List Int) (_ : x.length = 24) W, Calls Try.prog 43 #[.agg ⟨ints x⟩] W fun e w' => e = .returned (.int .i64 (x.getD 0 0)) ∧ Below W.heap.size W w') := Lib.hid (fun x hx W => fromOf_any x hx W)
        have HRw := Lib.hid (HL.out.keep HB.out)
        generalize L[k] = q at *
        generalize tarOk q = okq at *
        clear hc
        go_upto_region 6 with (first
          | (refine wpList_getAt 70 20 rfl rfl Hc.out rfl Try.underlying70 rfl (sz_t h7) ?_)
          | (refine wpList_putNew 70 10 21 rfl rfl rfl rfl (sa_t h7) (show 24 = (ints q).length by rw [ints_len, h7]) (ints_one _) ?_; intro U KU hbu hsu; replace KU : Bx U wr.heap.size 70 (ints q) := KU; have KUl := KU.lt; replace HB := Lib.hid (up HB.out hbu)))
        cases okq
        · replace HCk : Hid (∀ W, Calls Try.prog 42 #[.agg ⟨ints q⟩] W fun e w' => e = .returned (.int .i64 60) ∧ Below W.heap.size W w') := HCk
          have Hbd : Hid (lsK tarOk L L.length = false) := Lib.hid (Hbad.out (by rw [Ha.out]; rfl))
          simp only [Act.put]
          refine wp_region_grow (by kernel_rfl) (by kernel_rfl) ?_
          go_big_quiet_step (fail)
          refine wpQuiet_row 70 (.tmp 10) (by kernel_rfl) rfl rfl (by rintro _ ⟨z9, rfl⟩; exact rangeAt_keep KU.range KU.lt (grow_below U z9)) Try.underlying70 rfl (sz_t h7) ?_
          simp only [Act.put, List.setIfInBounds_toArray, List.set_cons_zero, List.set_cons_succ]
          repeat (go_big_quiet_step ((go_at_call 42; exact quiet_grow rfl (HCk.out _))))
          refine wpQuiet_nil ?_
          intro z
          have hbz := grow_below U z
          generalize grow U z = V at *
          clear KUl KU
          replace HB := Lib.hid (up HB.out hbz)
          clear hbz
          go_wp2
          go_ret; exact ⟨by rw [HX.out, Hbd.out]; rfl, HB.out⟩
        · replace HCk : Hid (∀ W, Calls Try.prog 42 #[.agg ⟨ints q⟩] W fun e w' => e = .returned (.int .i64 0) ∧ Below W.heap.size W w') := HCk
          rcases Nat.eq_zero_or_pos k with rfl | hk0
          · have Hgd : Hid (lsK tarOk L (0 + 1) = true) := Lib.hid (by rw [Hs.out, Hr.out, Ha.out]; rfl)
            simp only [Act.put]
            refine wp_region_grow (by kernel_rfl) (by kernel_rfl) ?_
            go_big_quiet_step (fail)
            refine wpQuiet_row 70 (.tmp 10) (by kernel_rfl) rfl rfl (by rintro _ ⟨z9, rfl⟩; exact rangeAt_keep KU.range KU.lt (grow_below U z9)) Try.underlying70 rfl (sz_t h7) ?_
            simp only [Act.put, List.setIfInBounds_toArray, List.set_cons_zero, List.set_cons_succ]
            repeat (go_big_quiet_step ((go_at_call 42; exact quiet_grow rfl (HCk.out _))))
            refine wpQuiet_nil ?_
            intro z
            have hbz := grow_below U z
            generalize grow U z = V at *
            clear KUl KU
            replace HB := Lib.hid (up HB.out hbz)
            clear hbz
            go_wp2
            exact ⟨⟨0 + 1, by omega, by go_num, Hgd.out, HB.out⟩, by simp [intOf]; omega⟩
          · obtain ⟨k1, hk1⟩ : ∃ k1 : Nat, (k : Int) - 1 = (k1 : Int) := ⟨k - 1, by omega⟩
            have hkk : k1 + 1 = k := by omega
            have hk1l : k1 < L.length := by omega
            have e1 : IntKind.i64.wrap ((k : Int) - 1) = (k1 : Int) := by rw [IntWalk.i64_in _ (by omega), hk1]
            have hkpos : (k : Int) > 0 := by omega
            have hk1n : k1 < n := by omega
            obtain ⟨b2, o2, eb, hbl2, hc2⟩ := HRw.out.get k1 hk1l
            cases eb
            have hp7 : (L[k1]).length = 24 := HRw.out.at hk1l
            have Hg2 : Hid (L.getD (k - 1) [] = L[k1]) := Lib.hid (by rw [show k - 1 = k1 by omega]; simp [hk1l])
            generalize L[k1] = p at *
            have hbU : b < U.heap.size := by omega
            have hcp := rangeAt_keep hc2 hbl hbu
            clear hc2 hkk
            replace HSo : Hid (∀ (x : List Int) (_ : x.length = 24) W, Calls Try.prog 43 #[.agg ⟨ints x⟩] W fun e w' => e = .returned (.int .i64 (x.getD 0 0)) ∧ Below W.heap.size W w') := HSo
            have HSq := Lib.hid (fun W => HSo.out q h7 W)
            have HSp := Lib.hid (fun W => HSo.out p hp7 W)
            by_cases hpq : p.getD 0 0 < q.getD 0 0
            · have Hgd : Hid (lsK tarOk L (k + 1) = true) := Lib.hid (by rw [Hs.out, Hr.out, Ha.out, Hg2.out, decide_eq_true hpq]; simp)
              generalize p.getD 0 0 = p0 at *
              generalize q.getD 0 0 = q0 at *
              have hge : ¬ p0 ≥ q0 := by omega
              simp only [Act.put]
              refine wp_region_grow (by kernel_rfl) (by kernel_rfl) ?_
              go_big_quiet_step (fail)
              refine wpQuiet_row 70 (.tmp 10) (by kernel_rfl) rfl rfl (by rintro _ ⟨z9, rfl⟩; exact rangeAt_keep KU.range KU.lt (grow_below U z9)) Try.underlying70 rfl (sz_t h7) ?_
              simp only [Act.put, List.setIfInBounds_toArray, List.set_cons_zero, List.set_cons_succ]
              iterate 11 (go_big_quiet_step ((go_at_call 42; exact quiet_grow rfl (HCk.out _))))
              refine wpQuiet_row 70 (.tmp 34) (by kernel_rfl) rfl rfl (by rintro _ ⟨z9, rfl⟩; exact rangeAt_keep hcp hbU (grow_below U z9)) Try.underlying70 rfl (sz_t hp7) ?_
              simp only [Act.put, List.setIfInBounds_toArray, List.set_cons_zero, List.set_cons_succ]
              iterate 2 (go_big_quiet_step ((go_at_call 43; exact quiet_grow rfl (HSp.out _))))
              refine wpQuiet_row 70 (.tmp 10) (by kernel_rfl) rfl rfl (by rintro _ ⟨z9, rfl⟩; exact rangeAt_keep KU.range KU.lt (grow_below U z9)) Try.underlying70 rfl (sz_t h7) ?_
              simp only [Act.put, List.setIfInBounds_toArray, List.set_cons_zero, List.set_cons_succ]
              repeat (go_big_quiet_step ((go_at_call 43; exact quiet_grow rfl (HSq.out _))))
              refine wpQuiet_nil ?_
              intro z
              have hbz := grow_below U z
              generalize grow U z = V at *
              clear KUl KU hcp hbU
              replace HB := Lib.hid (up HB.out hbz)
              clear hbz hbu hsu
              go_wp2
              exact ⟨⟨k + 1, by omega, by go_num, Hgd.out, HB.out⟩, by simp [intOf]; omega⟩
            · have Hbd : Hid (lsK tarOk L L.length = false) := Lib.hid (Hbad.out (by rw [Ha.out, Hg2.out, decide_eq_false hpq]; simp; omega))
              generalize p.getD 0 0 = p0 at *
              generalize q.getD 0 0 = q0 at *
              have hge : p0 ≥ q0 := by omega
              simp only [Act.put]
              refine wp_region_grow (by kernel_rfl) (by kernel_rfl) ?_
              go_big_quiet_step (fail)
              refine wpQuiet_row 70 (.tmp 10) (by kernel_rfl) rfl rfl (by rintro _ ⟨z9, rfl⟩; exact rangeAt_keep KU.range KU.lt (grow_below U z9)) Try.underlying70 rfl (sz_t h7) ?_
              simp only [Act.put, List.setIfInBounds_toArray, List.set_cons_zero, List.set_cons_succ]
              iterate 11 (go_big_quiet_step ((go_at_call 42; exact quiet_grow rfl (HCk.out _))))
              refine wpQuiet_row 70 (.tmp 34) (by kernel_rfl) rfl rfl (by rintro _ ⟨z9, rfl⟩; exact rangeAt_keep hcp hbU (grow_below U z9)) Try.underlying70 rfl (sz_t hp7) ?_
              simp only [Act.put, List.setIfInBounds_toArray, List.set_cons_zero, List.set_cons_succ]
              iterate 2 (go_big_quiet_step ((go_at_call 43; exact quiet_grow rfl (HSp.out _))))
              refine wpQuiet_row 70 (.tmp 10) (by kernel_rfl) rfl rfl (by rintro _ ⟨z9, rfl⟩; exact rangeAt_keep KU.range KU.lt (grow_below U z9)) Try.underlying70 rfl (sz_t h7) ?_
              simp only [Act.put, List.setIfInBounds_toArray, List.set_cons_zero, List.set_cons_succ]
              repeat (go_big_quiet_step ((go_at_call 43; exact quiet_grow rfl (HSq.out _))))
              refine wpQuiet_nil ?_
              intro z
              have hbz := grow_below U z
              generalize grow U z = V at *
              clear KUl KU hcp hbU
              replace HB := Lib.hid (up HB.out hbz)
              clear hbz hbu hsu
              go_wp2
              go_ret; exact ⟨by rw [HX.out, Hbd.out]; rfl, HB.out⟩
      · obtain rfl : k = n := by omega
        have Hfin : Hid (lsK tarOk L L.length = true) := Lib.hid (by rw [← Hn.out]; exact Hr.out)
        go_wp2
        go_ret; exact ⟨by rw [HX.out, Hfin.out]; rfl, HB.out⟩
end Go.Proofs.Ytjimjdhdnkhfnaa
namespace Go.Proofs.Ytjimjdhdnkhfnaa
open Go Go.RowKit
set_option maxHeartbeats 2000000
set_option maxRecDepth 100000
def accOk (T H N : List (List Int)) : Bool := lsOk tarOk 8 T && (lsOk heldOk 60 H && lsOk noteOk 60 N)
theorem check_any (A : Option Addr) (n c : Nat) (T : List (List Int)) (S : Option Addr) (r s : Nat) (H : List (List Int)) (B : Option Addr) (m e : Nat) (N : List (List Int)) (w : World) (hT : Rw w A n 24 T) (hH : Rw w S r 9 H) (hN : Rw w B m 7 N) :
    Calls Try.prog 19 #[.agg #[.slice A n c, .slice S r s, .slice B m e]] w fun e w' => e = .returned (.int .i64 (err (accOk T H N) 63)) ∧ Below w.heap.size w w' := by
  have HA : Hid (accOk T H N = (lsOk tarOk 8 T && (lsOk heldOk 60 H && lsOk noteOk 60 N))) := Lib.hid rfl
  have H1 := Lib.hid (fun W (hW : Below w.heap.size w W) => validTars_any A n c T 8 W (hT.keep hW) (by decide))
  have H2 := Lib.hid (fun W (hW : Below w.heap.size w W) => validStays_any S r s H 60 W (hH.keep hW) (by decide))
  have H3 := Lib.hid (fun W (hW : Below w.heap.size w W) => validNotes_any B m e N 60 W (hN.keep hW) (by decide))
  generalize lsOk tarOk 8 T = x at *
  generalize lsOk heldOk 60 H = y at *
  generalize lsOk noteOk 60 N = z at *
  clear hT hH hN
  go_enter Try.func19, Try.ntmps19
  go_upto_region 1 with fail
  generalize hW : (World.alloc _ _) = W
  have HB : Hid (Below w.heap.size w W) := Lib.hid (by subst hW; go_grown)
  have KA : Bx W (w.heap.size) 32 [.slice A n c, .slice S r s, .slice B m e] := by subst hW; repeat (first | (refine Bx.newAt _ _ _ ?_; first | rfl | (simp only [World.size_alloc]; done) | (simp only [World.size_alloc]; omega)) | refine Bx.old ?_ _)
  have hWs : Hid (W.heap.size = w.heap.size + 1) := Lib.hid (by subst hW; simp)
  clear hW
  have KAl := KA.lt; have KAc := KA.get; have KAf := KA.fr
  go_wp2_with (first
    | (go_at_call 41; refine (H1.out _ HB.out).mono ?_; rintro e1 X ⟨rfl, hbx⟩; cases x <;> (clear KAl KAc KAf; replace KA := KA.keep hbx; have KAl := KA.lt; have KAc := KA.get; have KAf := KA.fr; replace HB := Lib.hid (up HB.out hbx); clear hbx))
    | (go_at_call 44; refine (H2.out _ HB.out).mono ?_; rintro e1 X ⟨rfl, hbx⟩; cases y <;> (clear KAl KAc KAf; replace KA := KA.keep hbx; have KAl := KA.lt; have KAc := KA.get; have KAf := KA.fr; replace HB := Lib.hid (up HB.out hbx); clear hbx))
    | (go_at_call 47; refine (H3.out _ HB.out).mono ?_; rintro e1 X ⟨rfl, hbx⟩; cases z <;> (clear KAl KAc KAf; replace KA := KA.keep hbx; have KAl := KA.lt; have KAc := KA.get; have KAf := KA.fr; replace HB := Lib.hid (up HB.out hbx); clear hbx))
    | (go_at_call 49; refine (unless_any _ _ _).mono ?_; rintro e1 w' ⟨rfl, rfl⟩))
  all_goals (go_ret; exact ⟨by rw [HA.out]; rfl, HB.out⟩)
def dyAt (D : List Int) (i : Nat) : Bool := inB (D.getD i 0) 0 100000 && (i == 0 || decide (D.getD (i - 1) 0 < D.getD i 0))
def dyK (D : List Int) (k : Nat) : Bool := (List.range k).all (dyAt D)
def daysOk (D : List Int) : Bool := decide (D.length ≤ 12) && dyK D D.length
theorem dyK_succ (D : List Int) (k : Nat) : dyK D (k + 1) = (dyK D k && dyAt D k) := by
  unfold dyK; rw [List.range_succ, List.all_append]; simp
theorem dyK_bad {D : List Int} {k : Nat} (h : k < D.length) (hb : dyAt D k = false) : dyK D D.length = false := by
  unfold dyK; rw [List.all_eq_false]; exact ⟨k, List.mem_range.2 h, by simp [hb]⟩
theorem dyAt_eq {D : List Int} {k : Nat} (h : k < D.length) : dyAt D k = (inB D[k] 0 100000 && (k == 0 || decide (D.getD (k - 1) 0 < D[k]))) := by
  unfold dyAt; rw [show D.getD k 0 = D[k] by simp [h]]
theorem sameDay_any (x : Int) (w : World) :
    Calls Try.prog 60 #[.int .i64 x] w fun e w' => e = .returned (.int .i64 x) ∧ w = w' := by
  go_enter Try.func60, Try.ntmps60
  go_wp2; go_ret; exact ⟨rfl, rfl⟩
theorem validDays_any (A : Option Addr) (n c : Nat) (D : List Int) (w : World) (hD : Is w A n D) :
    Calls Try.prog 61 #[.slice A n c, .int .i64 12, .func (.func 31) #[] #[], .func (.func 60) #[] #[]] w fun e w' => e = .returned (.bool (daysOk D)) ∧ w = w' := by
  have hs := hD.small
  have Hn : Hid (n = D.length) := Lib.hid hD.len
  have HD := Lib.hid hD
  clear hD
  by_cases hnm : (n : Int) > (12 : Int)
  · have HX : Hid (daysOk D = false) := Lib.hid (by unfold daysOk; rw [decide_eq_false (by rw [← Hn.out]; omega)]; rfl)
    go_enter Try.func61, Try.ntmps61
    go_wp2
    go_ret; exact ⟨by rw [HX.out]; rfl, rfl⟩
  · have HX : Hid (daysOk D = dyK D D.length) := Lib.hid (by unfold daysOk; rw [decide_eq_true (by rw [← Hn.out]; omega)]; rfl)
    go_enter Try.func61, Try.ntmps61
    go_wp2_with fail
    go_loopw [17] (fun i wr => ∃ (k : Nat), k ≤ n ∧ i = .int .i64 k ∧ dyK D k = true ∧ w = wr) (fun i _ => n - (intOf i).toNat)
    case atStart => exact ⟨0, by omega, rfl, rfl, rfl⟩
    case round =>
      obtain ⟨k, hk, rfl, hr, rfl⟩ := hrel
      have Hr := Lib.hid hr
      clear hr
      by_cases hlt : k < n
      · have hkl : k < D.length := by rw [← Hn.out]; exact hlt
        obtain ⟨b, o, rfl, hbl, hc⟩ := HD.out.get k hkl
        have Hs := Lib.hid (dyK_succ D k)
        have Ha := Lib.hid (dyAt_eq hkl)
        have Hbad := Lib.hid (fun h => dyK_bad hkl h)
        have HRw := HD
        generalize D[k] = q at *
        have HCk := Lib.hid (checkDay_any q w)
        generalize hq : inB q 0 100000 = okq at *
        have Hq := Lib.hid hq
        clear hq
        cases okq
        · replace HCk : Hid (Calls Try.prog 31 #[.int .i64 q] w fun e w' => e = .returned (.int .i64 6) ∧ w = w') := HCk
          have Hbd : Hid (dyK D D.length = false) := Lib.hid (Hbad.out (by rw [Ha.out]; rfl))
          go_wp2_with (go_at_call 31; refine HCk.out.mono ?_; rintro e1 w' ⟨rfl, rfl⟩)
          go_ret; exact ⟨by rw [HX.out, Hbd.out]; rfl, rfl⟩
        · replace HCk : Hid (Calls Try.prog 31 #[.int .i64 q] w fun e w' => e = .returned (.int .i64 0) ∧ w = w') := HCk
          rcases Nat.eq_zero_or_pos k with rfl | hk0
          · rw [Nat.add_zero] at hc
            have Hgd : Hid (dyK D (0 + 1) = true) := Lib.hid (by rw [Hs.out, Hr.out, Ha.out]; rfl)
            go_wp2_with (go_at_call 31; refine HCk.out.mono ?_; rintro e1 w' ⟨rfl, rfl⟩)
            exact ⟨⟨0 + 1, by omega, by go_num, Hgd.out, trivial⟩, by simp [intOf]; omega⟩
          · obtain ⟨k1, hk1⟩ : ∃ k1 : Nat, (k : Int) - 1 = (k1 : Int) := ⟨k - 1, by omega⟩
            have hkk : k1 + 1 = k := by omega
            have hk1l : k1 < D.length := by omega
            have e1 : IntKind.i64.wrap ((k : Int) - 1) = (k1 : Int) := by rw [IntWalk.i64_in _ (by omega), hk1]
            have hkpos : (k : Int) > 0 := by omega
            have hk1n : k1 < n := by omega
            obtain ⟨b2, o2, eb, hbl2, hc2⟩ := HRw.out.get k1 hk1l
            cases eb
            have Hg2 : Hid (D.getD (k - 1) 0 = D[k1]) := Lib.hid (by rw [show k - 1 = k1 by omega]; simp [hk1l])
            generalize D[k1] = p at *
            clear hkk
            by_cases hpq : p < q
            · have Hgd : Hid (dyK D (k + 1) = true) := Lib.hid (by rw [Hs.out, Hr.out, Ha.out, Hg2.out]; simp [hpq])
              have hge : ¬ p ≥ q := by omega
              go_wp2_with (first | (go_at_call 31; refine HCk.out.mono ?_; rintro e2 w' ⟨rfl, rfl⟩) | (go_at_call 60; refine (sameDay_any _ _).mono ?_; rintro e2 w' ⟨rfl, rfl⟩))
              exact ⟨⟨k + 1, by omega, by go_num, Hgd.out, trivial⟩, by simp [intOf]; omega⟩
            · have Hbd : Hid (dyK D D.length = false) := Lib.hid (Hbad.out (by rw [Ha.out, Hg2.out]; simp [hpq]; omega))
              have hge : p ≥ q := by omega
              go_wp2_with (first | (go_at_call 31; refine HCk.out.mono ?_; rintro e2 w' ⟨rfl, rfl⟩) | (go_at_call 60; refine (sameDay_any _ _).mono ?_; rintro e2 w' ⟨rfl, rfl⟩))
              go_ret; exact ⟨by rw [HX.out, Hbd.out]; rfl, rfl⟩
      · obtain rfl : k = n := by omega
        have Hfin : Hid (dyK D D.length = true) := Lib.hid (by rw [← Hn.out]; exact Hr.out)
        go_wp2
        go_ret; exact ⟨by rw [HX.out, Hfin.out]; rfl, rfl⟩
theorem checkDays_any (A : Option Addr) (n c : Nat) (D : List Int) (w : World) (hD : Is w A n D) :
    Calls Try.prog 27 #[.slice A n c] w fun e w' => e = .returned (.int .i64 (err (daysOk D) 66)) ∧ Below w.heap.size w w' := by
  have HV := Lib.hid (fun W (hW : Below w.heap.size w W) => validDays_any A n c D W (hD.keep hW))
  generalize daysOk D = x at *
  clear hD
  go_enter Try.func27, Try.ntmps27
  go_wp2_with (first
    | (go_at_call 61; refine (HV.out _ (by go_grown)).mono ?_; rintro e1 X ⟨rfl, rfl⟩)
    | (go_at_call 49; refine (unless_any _ _ _).mono ?_; rintro e1 w' ⟨rfl, rfl⟩))
  go_ret
  exact ⟨rfl, by go_grown⟩
end Go.Proofs.Ytjimjdhdnkhfnaa

namespace Go.Proofs.Ytjimjdhdnkhfnaa
open Go Go.RowKit
set_option maxHeartbeats 2000000
set_option maxRecDepth 100000
def askE (T H N : List (List Int)) (d : Int) : Int := if accOk T H N = true then err (inB d 0 100000) 6 else 63
end Go.Proofs.Ytjimjdhdnkhfnaa
namespace Go.Proofs.Ytjimjdhdnkhfnaa
open Go Go.RowKit
set_option maxHeartbeats 2000000
set_option maxRecDepth 100000
def zero9 : List Int := [0, 0, 0, 0, 0, 0, 0, 0, 0]
def staP (id day : Int) (h : List Int) : Bool := h.getD 0 0 == id && cntB (h.getD 7 0) (h.getD 8 0) day
def staN (T H N : List (List Int)) (id day : Int) : List Int × Int :=
  if askE T H N day = 0 then (match H.find? (staP id day) with | some h => (h, 0) | none => (zero9, 65)) else (zero9, askE T H N day)
end Go.Proofs.Ytjimjdhdnkhfnaa

namespace Go.Proofs.Ytjimjdhdnkhfnaa
open Go Go.RowKit
set_option maxHeartbeats 2000000
set_option maxRecDepth 100000
theorem fed_any (h : List Int) (A : Option Addr) (n c : Nat) (B : Option Addr) (m d : Nat) (kn : Int) (lt : List Int) (w : World) (hh : h.length = 9) (hl : lt.length = 4) (hd : -1 ≤ lt.getD 3 0 ∧ lt.getD 3 0 ≤ 1000000) :
    Calls Try.prog 69 #[.agg ⟨tld h A n c B m d kn lt⟩] w fun e w' => ∃ bF bL, e = .returned (.func (.func 84) #[] #[.pointer (some ⟨bF, 0, none⟩), .pointer (some ⟨bL, 0, none⟩)]) ∧ Below w.heap.size w w' ∧
      Bx w' bF 3 [.int .i64 (h.getD 6 0)] ∧ Bx w' bL 3 [.int .i64 (lasN lt kn)] ∧ w.heap.size ≤ bF ∧ w.heap.size ≤ bL := by
  have HLs : Hid (lasN lt kn = if lt.getD 2 0 = 0 then kn else if lt.getD 2 0 = 2 then lt.getD 3 0 else lt.getD 3 0 - 1) := Lib.hid rfl
  obtain ⟨d1, d2⟩ := hd
  have HC : Hid (∀ (X : World), Bx X w.heap.size 73 (tld h A n c B m d kn lt) → X.cell? ⟨w.heap.size, 6, none⟩ = some (.int .i64 (h.getD 6 0)) ∧ X.cell? ⟨w.heap.size, 11, none⟩ = some (.int .i64 kn) ∧ X.cell? ⟨w.heap.size, 14, none⟩ = some (.int .i64 (lt.getD 2 0)) ∧ X.cell? ⟨w.heap.size, 15, none⟩ = some (.int .i64 (lt.getD 3 0))) :=
    Lib.hid (fun X K => ⟨by rw [K.get]; exact tld_h hh (by omega), by rw [K.get]; exact tld_11 hh, by rw [K.get]; exact tld_l (j := 2) hh (by omega), by rw [K.get]; exact tld_l (j := 3) hh (by omega)⟩)
  generalize lasN lt kn = last at *
  generalize h.getD 6 0 = h6 at *
  generalize lt.getD 2 0 = en at *
  generalize lt.getD 3 0 = dy at *
  by_cases h0 : en = 0
  · have h0b : (en == 0) = true := by simpa using h0
    have hlast : last = kn := by rw [HLs.out, if_pos h0]
    subst hlast
    clear h0 HLs
    go_enter Try.func69, Try.ntmps69
    go_upto_region 1 with fail
    generalize hW : (World.alloc _ _) = W
    have HB : Hid (Below w.heap.size w W) := Lib.hid (by subst hW; go_grown)
    have KD : Bx W (w.heap.size) 73 (tld h A n c B m d last lt) := by subst hW; repeat (first | (refine Bx.newAt _ _ _ ?_; first | rfl | (simp only [World.size_alloc]; done) | (simp only [World.size_alloc]; omega)) | refine Bx.old ?_ _)
    have hWs : Hid (W.heap.size = w.heap.size + 1) := Lib.hid (by subst hW; simp)
    clear hW
    have KDl := KD.lt; have KDc := KD.get; have KDf := KD.fr
    obtain ⟨c6, c11, c14, c15⟩ := HC.out _ KD
    clear KDc
    go_wp2_with (go_at_call 78; refine (daysFrom_any _ _ _).mono ?_; rintro e X ⟨rfl, hbx, kf, kl⟩)
    go_ret
    exact ⟨_, _, rfl, up HB.out hbx, kf, kl, by omega, by omega⟩
  · have h0b : (en == 0) = false := by simpa using h0
    by_cases h2 : en = 2
    · have h2b : (en == 2) = true := by simpa using h2
      have hlast : last = dy := by rw [HLs.out, if_neg h0, if_pos h2]
      subst hlast
      clear h0 h2 HLs
      go_enter Try.func69, Try.ntmps69
      go_upto_region 1 with fail
      generalize hW : (World.alloc _ _) = W
      have HB : Hid (Below w.heap.size w W) := Lib.hid (by subst hW; go_grown)
      have KD : Bx W (w.heap.size) 73 (tld h A n c B m d kn lt) := by subst hW; repeat (first | (refine Bx.newAt _ _ _ ?_; first | rfl | (simp only [World.size_alloc]; done) | (simp only [World.size_alloc]; omega)) | refine Bx.old ?_ _)
      have hWs : Hid (W.heap.size = w.heap.size + 1) := Lib.hid (by subst hW; simp)
      clear hW
      have KDl := KD.lt; have KDc := KD.get; have KDf := KD.fr
      obtain ⟨c6, c11, c14, c15⟩ := HC.out _ KD
      clear KDc
      go_wp2_with (go_at_call 78; refine (daysFrom_any _ _ _).mono ?_; rintro e X ⟨rfl, hbx, kf, kl⟩)
      go_ret
      exact ⟨_, _, rfl, up HB.out hbx, kf, kl, by omega, by omega⟩
    · have h2b : (en == 2) = false := by simpa using h2
      have hlast : last = dy - 1 := by rw [HLs.out, if_neg h0, if_neg h2]
      have Hlast := Lib.hid hlast
      clear h0 h2 HLs hlast
      go_enter Try.func69, Try.ntmps69
      go_upto_region 1 with fail
      generalize hW : (World.alloc _ _) = W
      have HB : Hid (Below w.heap.size w W) := Lib.hid (by subst hW; go_grown)
      have KD : Bx W (w.heap.size) 73 (tld h A n c B m d kn lt) := by subst hW; repeat (first | (refine Bx.newAt _ _ _ ?_; first | rfl | (simp only [World.size_alloc]; done) | (simp only [World.size_alloc]; omega)) | refine Bx.old ?_ _)
      have hWs : Hid (W.heap.size = w.heap.size + 1) := Lib.hid (by subst hW; simp)
      clear hW
      have KDl := KD.lt; have KDc := KD.get; have KDf := KD.fr
      obtain ⟨c6, c11, c14, c15⟩ := HC.out _ KD
      clear KDc
      go_wp2_with (go_at_call 78; refine (daysFrom_any _ _ _).mono ?_; rintro e X ⟨rfl, hbx, kf, kl⟩)
      go_ret
      exact ⟨_, _, rfl, up HB.out hbx, kf, by rw [Hlast.out]; exact kl, by omega, by omega⟩
end Go.Proofs.Ytjimjdhdnkhfnaa
namespace Go.Proofs.Ytjimjdhdnkhfnaa
open Go Go.RowKit Go.Shelf
attribute [local go_sem] Oper.semAt_some
set_option maxHeartbeats 2000000
set_option maxRecDepth 100000
def sumL (f : Int → Int) (l : List Int) : Int := (l.map f).sum
theorem sumL_snoc (f : Int → Int) (l : List Int) (x : Int) : sumL f (l ++ [x]) = sumL f l + f x := by simp [sumL]
structure SumI (w : World) (tv : List Value) (fv : Value) (s : Int) (bF bL : Nat) (f0 l0 : Int) (X : World) : Prop where
  bel : Below w.heap.size w X
  kd : Bx X w.heap.size 73 tv
  kf : Bx X (w.heap.size + 1) 95 [fv]
  kn : Bx X (w.heap.size + 1 + 1) 3 [.int .i64 s]
  kF : Bx X bF 3 [.int .i64 f0]
  kL : Bx X bL 3 [.int .i64 l0]
theorem SumI.keepB {w X Y : World} {tv : List Value} {fv : Value} {s : Int} {bF bL : Nat} {f0 l0 : Int} {B : Nat} (h : SumI w tv fv s bF bL f0 l0 X) (hb : Below B X Y) (hB : w.heap.size + 1 + 1 < B) (hF : bF < B) (hL : bL < B) : SumI w tv fv s bF bL f0 l0 Y :=
  ⟨h.bel.trans (hb.mono (by omega)), h.kd.keepB hb (by omega), h.kf.keepB hb (by omega), h.kn.keepB hb (by omega), h.kF.keepB hb hF, h.kL.keepB hb hL⟩
theorem sum_any (g : FuncId) (fa lb : Array Value) (f : Int → Int) (h : List Int) (A : Option Addr) (n c : Nat) (B : Option Addr) (m d : Nat) (kn : Int) (lt : List Int) (w : World) (hh : h.length = 9) (hl : lt.length = 4) (hd : -1 ≤ lt.getD 3 0 ∧ lt.getD 3 0 ≤ 1000000)
    (h6 : 0 ≤ h.getD 6 0 ∧ h.getD 6 0 ≤ 100000) (hL : lasN lt kn ≤ 1000000)
    (eg : ∀ args w, (callFunc g args).run Try.prog w = .ok (.enter g args) w)
    (hf : ∀ X x, Below w.heap.size w X → h.getD 6 0 ≤ x → x ≤ lasN lt kn → Calls Try.prog g (fa ++ #[.int .i64 x] ++ lb) X fun e X' => e = .returned (.int .i64 (f x)) ∧ Below X.heap.size X X')
    (hr : ∀ x, 0 ≤ f x ∧ f x ≤ 1000000) :
    Calls Try.prog 37 #[.agg ⟨tld h A n c B m d kn lt⟩, .func (.func g) fa lb] w fun e w' => e = .returned (.int .i64 (sumL f (dayL (h.getD 6 0) (lasN lt kn)))) ∧ Below w.heap.size w w' := by
  have HFd := Lib.hid (fun W => fed_any h A n c B m d kn lt W hh hl hd)
  have Hf := Lib.hid hf
  have Hr := Lib.hid hr
  have Hsz := Lib.hid (sz_tld (h := h) (A := A) (n := n) (c := c) (B := B) (m := m) (d := d) (kn := kn) hh hl)
  clear hf hr
  generalize h.getD 6 0 = f0 at *
  generalize lasN lt kn = l0 at *
  obtain ⟨f1, f2⟩ := h6
  refine (callsIn_wide (n := 9)).1 (callsIn_of_wp_marks Try.func37 rfl trivial ?_ rfl)
  simp only [Try.ntmps37, List.size_toArray, List.length_cons, List.length_nil, Nat.reduceAdd, Nat.reduceSub, Array.replicate_succ, Array.replicate_zero, List.push_toArray, List.append_toArray, List.nil_append, List.cons_append]
  refine wpIn_wide.2 ?_
  go_upto_region 1 with fail
  generalize hW : (World.alloc _ _) = W
  have HB : Hid (Below w.heap.size w W) := Lib.hid (by subst hW; go_grown)
  have KD : Bx W (w.heap.size) 73 (tld h A n c B m d kn lt) := by subst hW; repeat (first | (refine Bx.newAt _ _ _ ?_; first | rfl | (simp only [World.size_alloc]; done) | (simp only [World.size_alloc]; omega)) | refine Bx.old ?_ _)
  have KF : Bx W (w.heap.size + 1) 95 [.func (.func g) fa lb] := by subst hW; repeat (first | (refine Bx.newAt _ _ _ ?_; first | rfl | (simp only [World.size_alloc]; done) | (simp only [World.size_alloc]; omega)) | refine Bx.old ?_ _)
  have hWs : Hid (W.heap.size = w.heap.size + 1 + 1) := Lib.hid (by subst hW; simp)
  clear hW
  have KDl := KD.lt; have KDc := KD.get; have KDf := KD.fr; have KFl := KF.lt; have KFc := KF.get; have KFf := KF.fr
  clear KDl KDc KDf KFl KFc KFf
  go_upto_region 2 with fail
  rw [hWs.out]
  generalize hV : W.alloc (.cells #[.int .i64 0] 3) = V
  have hbV : Below W.heap.size W V := by subst hV; exact up_alloc _ _
  have KN : Bx V (w.heap.size + 1 + 1) 3 [.int .i64 0] := by subst hV; rw [← hWs.out]; exact Bx.new _ _ _
  clear hV
  replace KD := KD.keep hbV; replace KF := KF.keep hbV
  replace HB := Lib.hid (up HB.out hbV)
  clear hbV
  go_wp2_with (first
    | (refine wpList_get 73 2 rfl rfl KD rfl Try.underlying73 rfl Hsz.out ?_)
    | (go_at_call 69; refine (HFd.out _).mono ?_; rintro e U ⟨bF, bL, rfl, hbu, kF, kL, hFg, hLg⟩))
  have hNV := KN.lt
  have hFU := kF.lt; have hLU := kL.lt
  have hwU : w.heap.size + 1 + 1 < U.heap.size := by have := hbu.size; omega
  have I0 : SumI w (tld h A n c B m d kn lt) (.func (.func g) fa lb) 0 bF bL f0 l0 U := ⟨up HB.out hbu, KD.keep hbu, KF.keep hbu, KN.keep hbu, kF, kL⟩
  have hFn : bF ≠ w.heap.size + 1 + 1 := by omega
  have hLn : bL ≠ w.heap.size + 1 + 1 := by omega
  clear KD KF KN hbu HB kF kL hFg hLg hNV
  refine (wpIn_wide (n := 9)).1 ?_
  have hit := days_iter bF bL f0 l0 U (by omega) (by omega)
  have hML : (dayL f0 l0).length ≤ 1000001 := by unfold dayL dayK; rw [List.length_map, List.length_range]; omega
  refine rangeFunc_law (by omega) (gf := 84) (fa := #[]) (lb := #[.pointer (some ⟨bF, 0, none⟩), .pointer (some ⟨bL, 0, none⟩)]) rfl (enters_of Try.func84 (by kernel_rfl) rfl) hit (Below.refl _ _) (fun _ => rfl)
    (fun pre X => SumI w (tld h A n c B m d kn lt) (.func (.func g) fa lb) (sumL f pre) bF bL f0 l0 X ∧ 0 ≤ sumL f pre ∧ sumL f pre ≤ (pre.length : Int) * 1000000)
    (fun _ _ _ => False)
    ?_ ?_ ?_ ⟨I0, by simp [sumL], by simp [sumL]⟩ ?_ ?_ ?_
  · rintro pre X ⟨hI, _⟩
    exact ⟨hI.kF, hI.kL⟩
  · rintro s X Y ⟨h1, h2⟩ hb
    exact ⟨h1.keepB hb hwU hFU hLU, h2⟩
  · rintro cd s X o hx
    exact hx
  · rintro l pre x X ⟨t, ht⟩ - ⟨hI, hs1, hs2⟩ hsz
    have hpl : pre.length ≤ 1000000 := by rw [ht] at hML; simp at hML; omega
    have hxm : x ∈ dayL f0 l0 := by rw [ht]; simp
    have hx2 : f0 ≤ x ∧ x ≤ l0 := by
      unfold dayL dayK at hxm
      obtain ⟨i, hi, rfl⟩ := List.mem_map.1 hxm
      have := List.mem_range.1 hi
      omega
    have HI := Lib.hid hI
    have Hsn := Lib.hid (sumL_snoc f pre x)
    obtain ⟨r1, r2⟩ := Hr.out x
    clear ht hI hxm
    simp only [enc1]
    gi_wp2
    refine ⟨Above.refl _ _, ?_⟩
    intro Y hY1 hY2
    have KY := HI.out.keepB hY1 hwU hFU hLU
    have hsY := hY1.size
    clear hY1 hY2 HI
    obtain ⟨kb, kd, kf, kn', kF, kL⟩ := KY
    have HB := Lib.hid kb
    have HcF := Lib.hid (Hf.out Y x kb hx2.1 hx2.2)
    clear kb
    have kfl := kf.lt; have kfc := kf.get; have kff := kf.fr; have kn'l := kn'.lt; have kn'c := kn'.get; have kn'f := kn'.fr
    generalize sumL f pre = S at *
    have hplm : (pre.length : Int) * 1000000 ≤ 1000000000000 := by omega
    have hSb : S + f x ≤ 2000000000000 := by omega
    have e1 : IntKind.i64.wrap (S + f x) = S + f x := by rw [IntWalk.i64_in _ (by omega)]
    gi_wp2
    gi_region_with (refine ⟨trivial, (CallsIn.inRound l (callsIn_wide.2 (Hf.out _ x (by first | exact HB.out | exact HB.out.drew | go_grown) hx2.1 hx2.2))).mono ?_⟩; rintro e Z ⟨rfl, hbz⟩; have KnZ := kn'.drew.keep hbz; have KfZ := kf.drew.keep hbz; have z1 := KnZ.get; have z2 := KnZ.fr; have z3 := KfZ.get; have z4 := KnZ.lt; have z5 := KfZ.lt)
    all_goals
      have p1 := Put.cell Z (w.heap.size + 1 + 1) 0 (.int .i64 (S + f x))
      have k1 : Bx _ (w.heap.size + 1 + 1) 3 [.int .i64 (S + f x)] := KnZ.cell 0 (.int .i64 (S + f x))
      generalize Z.setCell ⟨w.heap.size + 1 + 1, 0, none⟩ _ = Y2 at *
      have hAZ : Above U.heap.size Y Z := ⟨hbz.size, fun i _ hlt => hbz.block i hlt⟩
      exact ⟨hAZ.trans (Above.put p1 (by omega)), ⟨upP (up HB.out.drew hbz) p1 (by omega), (kd.drew.keep hbz).put p1 (by omega), KfZ.put p1 (by omega), by rw [Hsn.out]; exact k1, (kF.drew.keep hbz).put p1 hFn, (kL.drew.keep hbz).put p1 hLn⟩, by rw [Hsn.out]; omega, by rw [Hsn.out, List.length_append, List.length_singleton]; omega⟩
  · rintro xs X hS ⟨hI, hs1, hs2⟩ hdef
    have Hdef := Lib.hid hdef
    have hdl := (Array.getElem?_eq_some_iff.1 hdef).1
    subst hS
    clear hdef
    obtain ⟨kb, kd, kf, kn', kF, kL⟩ := hI
    have HB := Lib.hid kb
    clear kb
    have kn'l := kn'.lt; have kn'c := kn'.get; have kn'f := kn'.fr
    gi_wp2
    go_wp2
    refine bodyPostM_marks [U.heap.size] rfl (by simp) ?_ fun Z hZ => ⟨_, results_tmp rfl _ _ _, ?_, hZ.below HB.out (by intro D hD; simp at hD; omega)⟩
    · intro D hD
      simp at hD; subst hD; exact Hdef.out
    · rfl
  · rintro cd pre X _ hx
    exact absurd hx id
end Go.Proofs.Ytjimjdhdnkhfnaa

namespace Go.Proofs.Ytjimjdhdnkhfnaa
open Go Go.RowKit
set_option maxHeartbeats 2000000
set_option maxRecDepth 100000
def firS (ks : List Int) (acc : Int) (n : List Int) : Int := if (ks.contains (n.getD 2 0) && (acc == -1 || decide (n.getD 4 0 < acc))) = true then n.getD 4 0 else acc
def firK (ks : List Int) (N : List (List Int)) (k : Nat) : Int := (N.take k).foldl (firS ks) (-1)
def firN (ks : List Int) (N : List (List Int)) : Int := N.foldl (firS ks) (-1)
theorem firK_succ {ks : List Int} {N : List (List Int)} {k : Nat} (h : k < N.length) : firK ks N (k + 1) = firS ks (firK ks N k) N[k] := by
  unfold firK; rw [List.take_succ_eq_append_getElem h, List.foldl_append]; rfl
theorem firK_all (ks : List Int) (N : List (List Int)) : firK ks N N.length = firN ks N := by unfold firK firN; rw [List.take_length]
theorem first_any (h : List Int) (A : Option Addr) (n c : Nat) (B : Option Addr) (m d : Nat) (N : List (List Int)) (kn : Int) (lt : List Int) (L : Option Addr) (r s : Nat) (ks : List Int) (w : World)
    (hh : h.length = 9) (hlt : lt.length = 4) (hN : Rw w B m 7 N) (hks : Is w L r ks) :
    Calls Try.prog 67 #[.agg ⟨tld h A n c B m d kn lt⟩, .slice L r s] w fun e w' => e = .returned (.int .i64 (firN ks N)) ∧ Below w.heap.size w w' := by
  have hm := hN.small
  have Hm : Hid (m = N.length) := Lib.hid hN.len
  have HN := Lib.hid hN; have HK := Lib.hid hks
  clear hN hks
  go_enter Try.func67, Try.ntmps67
  go_upto_region 1 with fail
  generalize hW : (World.alloc _ _) = W
  have HB : Hid (Below w.heap.size w W) := Lib.hid (by subst hW; go_grown)
  have KD : Bx W (w.heap.size) 73 (tld h A n c B m d kn lt) := by subst hW; repeat (first | (refine Bx.newAt _ _ _ ?_; first | rfl | (simp only [World.size_alloc]; done) | (simp only [World.size_alloc]; omega)) | refine Bx.old ?_ _)
  have hWs : Hid (W.heap.size = w.heap.size + 1) := Lib.hid (by subst hW; simp)
  clear hW
  have KDl := KD.lt; have KDc := KD.get; have KDf := KD.fr
  have c10 : W.cell? ⟨w.heap.size, 10, none⟩ = some (.slice B m d) := by rw [KD.get]; exact tld_10 hh
  clear KDc
  go_wp2_with fail
  go_loopw [5, 11] (fun y i wr => ∃ (k : Nat), k ≤ m ∧ i = .int .i64 k ∧ y = .int .i64 (firK ks N k) ∧ Below w.heap.size w wr) (fun _ i _ => m - (intOf i).toNat)
  case atStart => exact ⟨0, by omega, rfl, rfl, HB.out⟩
  case round =>
    clear c10 KDl KDf KD HB
    obtain ⟨k, hk, rfl, rfl, hb⟩ := hrel
    have HB := Lib.hid hb
    clear hb
    by_cases hkm : k < m
    · have hkl : k < N.length := by rw [← Hm.out]; exact hkm
      obtain ⟨b, o, rfl, hbl, hc⟩ := (HN.out.keep HB.out).get k hkl
      have h7 : (N[k]).length = 7 := HN.out.at hkl
      have Hs := Lib.hid (firK_succ (ks := ks) hkl)
      generalize firK ks N k = acc at *
      generalize N[k] = q at *
      obtain ⟨q0, q1, q2, q3, q4, q5, q6, rfl⟩ := list7 h7
      replace Hs : Hid (firK ks N (k + 1) = if (ks.contains q2 && (acc == -1 || decide (q4 < acc))) = true then q4 else acc) := Hs
      have Hc := Lib.hid hc
      have HCo : Hid (∀ W, Below w.heap.size w W → Calls Try.prog 77 #[.slice L r s, .int .i64 q2] W fun e w' => e = .returned (.bool (ks.contains q2)) ∧ W = w') := Lib.hid (fun W hW => Contains_any L r s ks q2 W (HK.out.keep hW))
      generalize ks.contains q2 = z at Hs HCo
      clear hc
      go_wp2_with (first
        | (refine wpList_getAt 49 13 rfl rfl Hc.out rfl Try.underlying49 rfl (sz_n h7) ?_)
        | (refine wpList_putNew 49 7 14 rfl rfl rfl rfl (sa_n h7) rfl (ints_one _) ?_; intro U KU hbu hsu; replace KU : Bx U wr.heap.size 49 [.int .i64 q0, .int .i64 q1, .int .i64 q2, .int .i64 q3, .int .i64 q4, .int .i64 q5, .int .i64 q6] := KU; have KUl := KU.lt; have KUc := KU.get; replace HB := Lib.hid (up HB.out hbu))
        | (go_at_call 77; refine (HCo.out _ HB.out).mono ?_; rintro e w' ⟨rfl, rfl⟩; cases z))
      all_goals (refine ⟨⟨k + 1, by omega, by go_num, ?_, HB.out⟩, by simp [intOf]; omega⟩; rw [Hs.out]; clear Hs HCo; first | (simp [*]; done) | (by_cases e1 : acc = -1 <;> by_cases e2 : q4 < acc <;> simp_all <;> omega))
    · obtain rfl : k = m := by omega
      have Hf := Lib.hid (firK_all ks N)
      rw [← Hm.out] at Hf
      generalize firK ks N k = acc at *
      go_wp2
      go_ret
      exact ⟨ret_int Hf.out, HB.out⟩
end Go.Proofs.Ytjimjdhdnkhfnaa
namespace Go.Proofs.Ytjimjdhdnkhfnaa
open Go Go.RowKit
set_option maxHeartbeats 4000000
set_option maxRecDepth 100000
def zero7 : List Int := [0, 0, 0, 0, 0, 0, 0]
def ownS (jc : List Int × List Int) (n : List Int) : List Int × List Int :=
  if (n.getD 2 0 == 3 && decide (n.getD 5 0 ≥ jc.1.getD 5 0)) = true then (n, jc.2)
  else if (n.getD 2 0 == 1 && (jc.2.getD 3 0 == 0 || decide (n.getD 4 0 < jc.2.getD 4 0))) = true then (jc.1, n) else jc
def ownK (N : List (List Int)) (k : Nat) : List Int × List Int := (N.take k).foldl ownS (zero7, zero7)
def ownN (N : List (List Int)) : Int := orE [(N.foldl ownS (zero7, zero7)).1.getD 3 0, (N.foldl ownS (zero7, zero7)).2.getD 3 0]
theorem ownK_succ {N : List (List Int)} {k : Nat} (h : k < N.length) : ownK N (k + 1) = ownS (ownK N k) N[k] := by
  unfold ownK; rw [List.take_succ_eq_append_getElem h, List.foldl_append]; rfl
theorem ownK_len {N : List (List Int)} (hN : ∀ x ∈ N, x.length = 7) : ∀ k, k ≤ N.length → (ownK N k).1.length = 7 ∧ (ownK N k).2.length = 7
  | 0, _ => ⟨rfl, rfl⟩
  | k + 1, h => by
    rw [ownK_succ (by omega)]
    have ih := ownK_len hN k (by omega)
    have hk := hN N[k] (List.getElem_mem _)
    unfold ownS
    split
    · exact ⟨hk, ih.2⟩
    · split
      · exact ⟨ih.1, hk⟩
      · exact ih
theorem owner_any (h : List Int) (A : Option Addr) (n c : Nat) (B : Option Addr) (m d : Nat) (N : List (List Int)) (kn : Int) (lt : List Int) (w : World)
    (hh : h.length = 9) (hN : Rw w B m 7 N) :
    Calls Try.prog 66 #[.agg ⟨tld h A n c B m d kn lt⟩] w fun e w' => e = .returned (.int .i64 (ownN N)) ∧ Below w.heap.size w w' := by
  have hm := hN.small
  have Hm : Hid (m = N.length) := Lib.hid hN.len
  have HL := Lib.hid (ownK_len hN.wid)
  have HN := Lib.hid hN
  clear hN
  go_enter Try.func66, Try.ntmps66
  go_upto_region 2 with fail
  generalize hW : (World.alloc _ _) = W
  have HB : Hid (Below w.heap.size w W) := Lib.hid (by subst hW; go_grown)
  have KD : Bx W (w.heap.size) 73 (tld h A n c B m d kn lt) := by subst hW; repeat (first | (refine Bx.newAt _ _ _ ?_; first | rfl | (simp only [World.size_alloc]; done) | (simp only [World.size_alloc]; omega)) | refine Bx.old ?_ _)
  have KJ : Bx W (w.heap.size + 1) 49 (ints zero7) := by subst hW; repeat (first | (refine Bx.newAt _ _ _ ?_; first | rfl | (simp only [World.size_alloc]; done) | (simp only [World.size_alloc]; omega)) | refine Bx.old ?_ _)
  have KC : Bx W (w.heap.size + 1 + 1) 49 (ints zero7) := by subst hW; repeat (first | (refine Bx.newAt _ _ _ ?_; first | rfl | (simp only [World.size_alloc]; done) | (simp only [World.size_alloc]; omega)) | refine Bx.old ?_ _)
  have hWs : Hid (W.heap.size = w.heap.size + 1 + 1 + 1) := Lib.hid (by subst hW; simp)
  clear hW
  have KDl := KD.lt; have KDc := KD.get; have KDf := KD.fr; have KJl := KJ.lt; have KJc := KJ.get; have KJf := KJ.fr; have KCl := KC.lt; have KCc := KC.get; have KCf := KC.fr
  have c10 : W.cell? ⟨w.heap.size, 10, none⟩ = some (.slice B m d) := by rw [KD.get]; exact tld_10 hh
  clear KDc
  go_upto_region 3 with fail
  go_wp2_with fail
  have hWz := hWs.out
  clear KJl KJc KJf KCl KCc KCf
  go_loopw [10] (fun i wr => ∃ (k : Nat), k ≤ m ∧ i = .int .i64 k ∧ Bx wr (w.heap.size + 1) 49 (ints (ownK N k).1) ∧ Bx wr (w.heap.size + 1 + 1) 49 (ints (ownK N k).2) ∧ Below w.heap.size w wr) (fun i _ => m - (intOf i).toNat)
  case atStart => exact ⟨0, by omega, rfl, KJ, KC, HB.out⟩
  case round =>
    clear c10 KDl KDf KD HB KJ KC hWz
    obtain ⟨k, hk, rfl, KJ, KC, hb⟩ := hrel
    have HB := Lib.hid hb
    clear hb
    obtain ⟨l1, l2⟩ := HL.out k (by rw [← Hm.out]; exact hk)
    by_cases hkm : k < m
    · have hkl : k < N.length := by rw [← Hm.out]; exact hkm
      obtain ⟨b, o, rfl, hbl, hc⟩ := (HN.out.keep HB.out).get k hkl
      have h7 : (N[k]).length = 7 := HN.out.at hkl
      have Hs := Lib.hid (ownK_succ hkl)
      generalize ownK N k = jc at *
      generalize N[k] = q at *
      obtain ⟨j, c⟩ := jc
      obtain ⟨q0, q1, q2, q3, q4, q5, q6, rfl⟩ := list7 h7
      obtain ⟨j0, j1, j2, j3, j4, j5, j6, rfl⟩ := list7 l1
      obtain ⟨c0, c1, c2, c3, c4, c5, c6, rfl⟩ := list7 l2
      replace Hs : Hid (ownK N (k + 1) = if (q2 == 3 && decide (q5 ≥ j5)) = true then ([q0, q1, q2, q3, q4, q5, q6], [c0, c1, c2, c3, c4, c5, c6]) else if (q2 == 1 && (c3 == 0 || decide (q4 < c4))) = true then ([j0, j1, j2, j3, j4, j5, j6], [q0, q1, q2, q3, q4, q5, q6]) else ([j0, j1, j2, j3, j4, j5, j6], [c0, c1, c2, c3, c4, c5, c6])) := Hs
      replace KJ : Bx wr (w.heap.size + 1) 49 [.int .i64 j0, .int .i64 j1, .int .i64 j2, .int .i64 j3, .int .i64 j4, .int .i64 j5, .int .i64 j6] := KJ
      replace KC : Bx wr (w.heap.size + 1 + 1) 49 [.int .i64 c0, .int .i64 c1, .int .i64 c2, .int .i64 c3, .int .i64 c4, .int .i64 c5, .int .i64 c6] := KC
      have Hc := Lib.hid hc
      clear hc l1 l2
      have KJl := KJ.lt; have KJc := KJ.get; have KJf := KJ.fr; have KCl := KC.lt; have KCc := KC.get; have KCf := KC.fr
      rcases Bool.eq_false_or_eq_true (q2 == 3) with h3b | h3b
      · by_cases h5 : q5 ≥ j5
        · skip
          have Hs' : Hid (ownK N (k + 1) = ([q0, q1, q2, q3, q4, q5, q6], [c0, c1, c2, c3, c4, c5, c6])) := Lib.hid (by rw [Hs.out]; simp only [h3b, Bool.true_and, Bool.false_and]; simp [*])
          clear Hs
          go_upto_region 5 with (first
            | (refine wpList_getAt 49 12 rfl rfl Hc.out rfl Try.underlying49 rfl (sz_n h7) ?_)
            | (refine wpList_putNew 49 6 13 rfl rfl rfl rfl (sa_n h7) rfl (ints_one _) ?_; intro U KU hbu hsu; replace KU : Bx U wr.heap.size 49 [.int .i64 q0, .int .i64 q1, .int .i64 q2, .int .i64 q3, .int .i64 q4, .int .i64 q5, .int .i64 q6] := KU; have KUl := KU.lt; have KUc := KU.get; have hJU : w.heap.size + 1 + 1 < wr.heap.size := KCl; clear KJl KJc KJf; replace KJ := KJ.keep hbu; have KJl := KJ.lt; have KJc := KJ.get; have KJf := KJ.fr; clear KCl KCc KCf; replace KC := KC.keep hbu; have KCl := KC.lt; have KCc := KC.get; have KCf := KC.fr; replace HB := Lib.hid (up HB.out hbu); clear hbu))
          clear KJf KCf
          go_wp2_with (refine wpList_put 49 3 25 rfl rfl KJ rfl rfl (by kernel_rfl) rfl (by simp [Value.oneCell']) ?_; intro V KV hp)
          exact ⟨⟨k + 1, by omega, by go_num, by rw [Hs'.out]; exact KV, by rw [Hs'.out]; exact KC.put hp (by omega), upP HB.out hp (by omega)⟩, by simp [intOf]; omega⟩
        · have h1b : (q2 == 1) = false := by rw [eq_of_beq h3b]; rfl
          have Hs' : Hid (ownK N (k + 1) = ([j0, j1, j2, j3, j4, j5, j6], [c0, c1, c2, c3, c4, c5, c6])) := Lib.hid (by rw [Hs.out]; simp only [h3b, Bool.true_and, Bool.false_and]; simp [*])
          clear Hs
          go_upto_region 5 with (first
            | (refine wpList_getAt 49 12 rfl rfl Hc.out rfl Try.underlying49 rfl (sz_n h7) ?_)
            | (refine wpList_putNew 49 6 13 rfl rfl rfl rfl (sa_n h7) rfl (ints_one _) ?_; intro U KU hbu hsu; replace KU : Bx U wr.heap.size 49 [.int .i64 q0, .int .i64 q1, .int .i64 q2, .int .i64 q3, .int .i64 q4, .int .i64 q5, .int .i64 q6] := KU; have KUl := KU.lt; have KUc := KU.get; have hJU : w.heap.size + 1 + 1 < wr.heap.size := KCl; clear KJl KJc KJf; replace KJ := KJ.keep hbu; have KJl := KJ.lt; have KJc := KJ.get; have KJf := KJ.fr; clear KCl KCc KCf; replace KC := KC.keep hbu; have KCl := KC.lt; have KCc := KC.get; have KCf := KC.fr; replace HB := Lib.hid (up HB.out hbu); clear hbu))
          clear KJf KCf
          go_wp2
          exact ⟨⟨k + 1, by omega, by go_num, by rw [Hs'.out]; exact KJ, by rw [Hs'.out]; exact KC, HB.out⟩, by simp [intOf]; omega⟩
      · rcases Bool.eq_false_or_eq_true (q2 == 1) with h1b | h1b
        · rcases Bool.eq_false_or_eq_true (c3 == 0) with h0b | h0b
          · skip
            have Hs' : Hid (ownK N (k + 1) = ([j0, j1, j2, j3, j4, j5, j6], [q0, q1, q2, q3, q4, q5, q6])) := Lib.hid (by rw [Hs.out]; simp only [h3b, Bool.true_and, Bool.false_and]; simp [*])
            clear Hs
            go_upto_region 5 with (first
              | (refine wpList_getAt 49 12 rfl rfl Hc.out rfl Try.underlying49 rfl (sz_n h7) ?_)
              | (refine wpList_putNew 49 6 13 rfl rfl rfl rfl (sa_n h7) rfl (ints_one _) ?_; intro U KU hbu hsu; replace KU : Bx U wr.heap.size 49 [.int .i64 q0, .int .i64 q1, .int .i64 q2, .int .i64 q3, .int .i64 q4, .int .i64 q5, .int .i64 q6] := KU; have KUl := KU.lt; have KUc := KU.get; have hJU : w.heap.size + 1 + 1 < wr.heap.size := KCl; clear KJl KJc KJf; replace KJ := KJ.keep hbu; have KJl := KJ.lt; have KJc := KJ.get; have KJf := KJ.fr; clear KCl KCc KCf; replace KC := KC.keep hbu; have KCl := KC.lt; have KCc := KC.get; have KCf := KC.fr; replace HB := Lib.hid (up HB.out hbu); clear hbu))
            clear KJf KCf
            go_wp2_with (refine wpList_put 49 4 42 rfl rfl KC rfl rfl (by kernel_rfl) rfl (by simp [Value.oneCell']) ?_; intro V KV hp)
            exact ⟨⟨k + 1, by omega, by go_num, by rw [Hs'.out]; exact KJ.put hp (by omega), by rw [Hs'.out]; exact KV, upP HB.out hp (by omega)⟩, by simp [intOf]; omega⟩
          · by_cases h4 : q4 < c4
            · skip
              have Hs' : Hid (ownK N (k + 1) = ([j0, j1, j2, j3, j4, j5, j6], [q0, q1, q2, q3, q4, q5, q6])) := Lib.hid (by rw [Hs.out]; simp only [h3b, Bool.true_and, Bool.false_and]; simp [*])
              clear Hs
              go_upto_region 5 with (first
                | (refine wpList_getAt 49 12 rfl rfl Hc.out rfl Try.underlying49 rfl (sz_n h7) ?_)
                | (refine wpList_putNew 49 6 13 rfl rfl rfl rfl (sa_n h7) rfl (ints_one _) ?_; intro U KU hbu hsu; replace KU : Bx U wr.heap.size 49 [.int .i64 q0, .int .i64 q1, .int .i64 q2, .int .i64 q3, .int .i64 q4, .int .i64 q5, .int .i64 q6] := KU; have KUl := KU.lt; have KUc := KU.get; have hJU : w.heap.size + 1 + 1 < wr.heap.size := KCl; clear KJl KJc KJf; replace KJ := KJ.keep hbu; have KJl := KJ.lt; have KJc := KJ.get; have KJf := KJ.fr; clear KCl KCc KCf; replace KC := KC.keep hbu; have KCl := KC.lt; have KCc := KC.get; have KCf := KC.fr; replace HB := Lib.hid (up HB.out hbu); clear hbu))
              clear KJf KCf
              go_wp2_with (refine wpList_put 49 4 42 rfl rfl KC rfl rfl (by kernel_rfl) rfl (by simp [Value.oneCell']) ?_; intro V KV hp)
              exact ⟨⟨k + 1, by omega, by go_num, by rw [Hs'.out]; exact KJ.put hp (by omega), by rw [Hs'.out]; exact KV, upP HB.out hp (by omega)⟩, by simp [intOf]; omega⟩
            · skip
              have Hs' : Hid (ownK N (k + 1) = ([j0, j1, j2, j3, j4, j5, j6], [c0, c1, c2, c3, c4, c5, c6])) := Lib.hid (by rw [Hs.out]; simp only [h3b, Bool.true_and, Bool.false_and]; simp [*])
              clear Hs
              go_upto_region 5 with (first
                | (refine wpList_getAt 49 12 rfl rfl Hc.out rfl Try.underlying49 rfl (sz_n h7) ?_)
                | (refine wpList_putNew 49 6 13 rfl rfl rfl rfl (sa_n h7) rfl (ints_one _) ?_; intro U KU hbu hsu; replace KU : Bx U wr.heap.size 49 [.int .i64 q0, .int .i64 q1, .int .i64 q2, .int .i64 q3, .int .i64 q4, .int .i64 q5, .int .i64 q6] := KU; have KUl := KU.lt; have KUc := KU.get; have hJU : w.heap.size + 1 + 1 < wr.heap.size := KCl; clear KJl KJc KJf; replace KJ := KJ.keep hbu; have KJl := KJ.lt; have KJc := KJ.get; have KJf := KJ.fr; clear KCl KCc KCf; replace KC := KC.keep hbu; have KCl := KC.lt; have KCc := KC.get; have KCf := KC.fr; replace HB := Lib.hid (up HB.out hbu); clear hbu))
              clear KJf KCf
              go_wp2
              exact ⟨⟨k + 1, by omega, by go_num, by rw [Hs'.out]; exact KJ, by rw [Hs'.out]; exact KC, HB.out⟩, by simp [intOf]; omega⟩
        · skip
          have Hs' : Hid (ownK N (k + 1) = ([j0, j1, j2, j3, j4, j5, j6], [c0, c1, c2, c3, c4, c5, c6])) := Lib.hid (by rw [Hs.out]; simp only [h3b, Bool.true_and, Bool.false_and]; simp [*])
          clear Hs
          go_upto_region 5 with (first
            | (refine wpList_getAt 49 12 rfl rfl Hc.out rfl Try.underlying49 rfl (sz_n h7) ?_)
            | (refine wpList_putNew 49 6 13 rfl rfl rfl rfl (sa_n h7) rfl (ints_one _) ?_; intro U KU hbu hsu; replace KU : Bx U wr.heap.size 49 [.int .i64 q0, .int .i64 q1, .int .i64 q2, .int .i64 q3, .int .i64 q4, .int .i64 q5, .int .i64 q6] := KU; have KUl := KU.lt; have KUc := KU.get; have hJU : w.heap.size + 1 + 1 < wr.heap.size := KCl; clear KJl KJc KJf; replace KJ := KJ.keep hbu; have KJl := KJ.lt; have KJc := KJ.get; have KJf := KJ.fr; clear KCl KCc KCf; replace KC := KC.keep hbu; have KCl := KC.lt; have KCc := KC.get; have KCf := KC.fr; replace HB := Lib.hid (up HB.out hbu); clear hbu))
          clear KJf KCf
          go_wp2
          exact ⟨⟨k + 1, by omega, by go_num, by rw [Hs'.out]; exact KJ, by rw [Hs'.out]; exact KC, HB.out⟩, by simp [intOf]; omega⟩
    · obtain rfl : k = m := by omega
      have Hf : Hid (ownN N = orE [(ownK N k).1.getD 3 0, (ownK N k).2.getD 3 0]) := Lib.hid (by unfold ownN ownK; rw [Hm.out, List.take_length])
      generalize ownK N k = jc at *
      obtain ⟨j, c⟩ := jc
      obtain ⟨j0, j1, j2, j3, j4, j5, j6, rfl⟩ := list7 l1
      obtain ⟨c0, c1, c2, c3, c4, c5, c6, rfl⟩ := list7 l2
      replace Hf : Hid (ownN N = orE [j3, c3]) := Hf
      replace KJ : Bx wr (w.heap.size + 1) 49 [.int .i64 j0, .int .i64 j1, .int .i64 j2, .int .i64 j3, .int .i64 j4, .int .i64 j5, .int .i64 j6] := KJ
      replace KC : Bx wr (w.heap.size + 1 + 1) 49 [.int .i64 c0, .int .i64 c1, .int .i64 c2, .int .i64 c3, .int .i64 c4, .int .i64 c5, .int .i64 c6] := KC
      have KJl := KJ.lt; have KJc := KJ.get; have KJf := KJ.fr; have KCl := KC.lt; have KCc := KC.get; have KCf := KC.fr
      go_wp2_with (go_at_call 76; refine (OrI_any _ _ _ [j3, c3] _ (isC wr 3 [j3, c3] (by simp))).mono ?_; rintro e V ⟨rfl, rfl⟩)
      go_ret
      exact ⟨ret_int Hf.out.symm, up HB.out (up_alloc _ _)⟩
end Go.Proofs.Ytjimjdhdnkhfnaa
