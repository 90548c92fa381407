/- Contracts of functions of the program and of the reference, and plain facts: a part of a proof. Own text. -/
import Derived.Test.YtbieopkohkomoaaJh
set_option linter.unusedVariables false
set_option linter.unusedSimpArgs false
set_option linter.unusedSectionVars false
namespace Go.Proofs.Ytbieopkohkomoaa
open Go.RowKit
set_option maxHeartbeats 400000
set_option maxRecDepth 100000

/-- The error of the one of a list, and the one. -/
def oneE (e : Int) (l : List Int) : Int := if e = 0 then (match l with | [] => 3 | [_] => 0 | _ => 17) else e
def oneV (e : Int) (l : List Int) : Int := if e = 0 then (match l with | [x] => x | _ => 0) else 0
theorem oneE_no {e : Int} (l : List Int) (h : e ≠ 0) : oneE e l = e := if_neg h
theorem oneV_no {e : Int} (l : List Int) (h : e ≠ 0) : oneV e l = 0 := if_neg h
theorem one_nil {e : Int} {l : List Int} (h : e = 0) (hl : l.length = 0) : oneE e l = 3 ∧ oneV e l = 0 := by
  obtain rfl : l = [] := List.eq_nil_of_length_eq_zero hl
  subst h; exact ⟨rfl, rfl⟩
theorem one_one {e : Int} {l : List Int} (h : e = 0) (hl : l.length = 1) : oneE e l = 0 ∧ oneV e l = l[0] := by
  match l, hl with
  | [x], _ => subst h; exact ⟨rfl, rfl⟩
theorem one_more {e : Int} {l : List Int} (h : e = 0) (hl : 1 < l.length) : oneE e l = 17 ∧ oneV e l = 0 := by
  match l, hl with
  | x :: y :: r, _ => subst h; exact ⟨rfl, rfl⟩

theorem owner_any' (w0 w1 w2 w3 w4 F : Int) (A : Option Addr) (n c : Nat) (gs : List Giv) (r : Rd) (w : World) (hg : Gs w A n gs) (hnc : n ≤ c) (e1 : Int) (l : List Int) (he1 : brE w0 w1 w2 w3 w4 F gs r = e1) (hl : own (brG w0 w1 w2 w3 w4 F gs r) = l) :
    Calls Try.prog 34 #[.agg #[.int .i64 w0, .int .i64 w1, .int .i64 w2, .int .i64 w3, .int .i64 w4, .int .i64 F, .slice A n c], .agg #[.int .i64 r.r0, .int .i64 r.r1, .int .i64 r.r2, .int .i64 r.r3, .int .i64 r.r4, .int .i64 r.r5]] w fun e w' =>
      e = .returned (.tuple #[.int .i64 (oneV e1 l), .int .i64 (oneE e1 l)]) ∧ Below w.heap.size w w' := by
  have HE1 := Lib.hid he1
  have HL := Lib.hid hl
  have Hll : Hid ((brG w0 w1 w2 w3 w4 F gs r).length = l.length) := Lib.hid (by rw [← hl]; simp [own])
  clear he1 hl
  go_enter Try.func34, Try.ntmps34
  go_wp2_with fail
  generalize hW : (World.alloc _ _) = W
  have HW : Hid (Below w.heap.size w W) := Lib.hid (by subst hW; go_grown)
  clear hW
  refine (owners_any w0 w1 w2 w3 w4 F A n c gs r W (hg.keep HW.out) hnc).mono ?_
  rintro e x1 ⟨v, rfl, hown, hb1⟩
  have HB1 := Lib.hid hb1
  clear hb1
  rw [Hll.out, HL.out] at hown
  rw [HE1.out]
  obtain ⟨B, c', rfl, hc', hi⟩ := Is.of_own hown
  have HI := Lib.hid hi
  clear hi hown
  by_cases he : e1 = 0
  rotate_left
  · have hb : (e1 != 0) = true := by simpa using he
    have He := Lib.hid he
    clear he
    go_wp2
    go_ret2
    exact ⟨ret_ii (oneV_no _ He.out).symm (oneE_no _ He.out).symm, up HW.out HB1.out⟩
  have He := Lib.hid he
  have hb : (e1 != 0) = false := by simpa using he
  clear he
  generalize hk : l.length = k at *
  have Hk := Lib.hid hk
  clear hk
  rcases Nat.lt_trichotomy k 1 with h1 | h1 | h1
  · obtain rfl : k = 0 := by omega
    go_wp2
    go_ret2
    exact ⟨ret_ii (one_nil He.out Hk.out).2.symm (one_nil He.out Hk.out).1.symm, up HW.out HB1.out⟩
  · obtain rfl := h1
    have hl0 : 0 < l.length := by rw [Hk.out]; omega
    obtain ⟨b, o, rfl, hbl, hc⟩ := HI.out.get 0 hl0
    have Hv := Lib.hid (one_one He.out Hk.out)
    generalize l[0] = x at *
    rw [Nat.add_zero] at hc
    go_wp2
    go_ret2
    exact ⟨ret_ii Hv.out.2.symm Hv.out.1.symm, up HW.out HB1.out⟩
  · have hb0 : ((k : Int) == 0) = false := by simp; omega
    go_wp2
    go_ret2
    exact ⟨ret_ii (one_more He.out (by rw [Hk.out]; exact h1)).2.symm (one_more He.out (by rw [Hk.out]; exact h1)).1.symm, up HW.out HB1.out⟩

theorem refOwner_any' (w0 w1 w2 w3 w4 F : Int) (A : Option Addr) (n c : Nat) (gs : List Giv) (r : Rd) (w : World) (hg : Gs w A n gs) (e1 : Int) (l : List Int) (he1 : brE w0 w1 w2 w3 w4 F gs r = e1) (hl : own (brG w0 w1 w2 w3 w4 F gs r) = l) :
    Calls Try.prog 35 #[.agg #[.int .i64 w0, .int .i64 w1, .int .i64 w2, .int .i64 w3, .int .i64 w4, .int .i64 F, .slice A n c], .agg #[.int .i64 r.r0, .int .i64 r.r1, .int .i64 r.r2, .int .i64 r.r3, .int .i64 r.r4, .int .i64 r.r5]] w fun e w' =>
      e = .returned (.tuple #[.int .i64 (oneV e1 l), .int .i64 (oneE e1 l)]) ∧ Below w.heap.size w w' := by
  have HE1 := Lib.hid he1
  have HL := Lib.hid hl
  have Hll : Hid ((brG w0 w1 w2 w3 w4 F gs r).length = l.length) := Lib.hid (by rw [← hl]; simp [own])
  clear he1 hl
  go_enter Try.func35, Try.ntmps35
  go_wp2_with fail
  generalize hW : (World.alloc _ _) = W
  have HW : Hid (Below w.heap.size w W) := Lib.hid (by subst hW; go_grown)
  clear hW
  refine (refOwners_any w0 w1 w2 w3 w4 F A n c gs r W (hg.keep HW.out)).mono ?_
  rintro e x1 ⟨v, rfl, hown, hb1⟩
  have HB1 := Lib.hid hb1
  clear hb1
  rw [Hll.out, HL.out] at hown
  rw [HE1.out]
  obtain ⟨B, c', rfl, hc', hi⟩ := Is.of_own hown
  have HI := Lib.hid hi
  clear hi hown
  by_cases he : e1 = 0
  rotate_left
  · have hb : (e1 != 0) = true := by simpa using he
    have He := Lib.hid he
    clear he
    go_wp2
    go_ret2
    exact ⟨ret_ii (oneV_no _ He.out).symm (oneE_no _ He.out).symm, up HW.out HB1.out⟩
  have He := Lib.hid he
  have hb : (e1 != 0) = false := by simpa using he
  clear he
  generalize hk : l.length = k at *
  have Hk := Lib.hid hk
  clear hk
  rcases Nat.lt_trichotomy k 1 with h1 | h1 | h1
  · obtain rfl : k = 0 := by omega
    go_wp2
    go_ret2
    exact ⟨ret_ii (one_nil He.out Hk.out).2.symm (one_nil He.out Hk.out).1.symm, up HW.out HB1.out⟩
  · obtain rfl := h1
    have hl0 : 0 < l.length := by rw [Hk.out]; omega
    obtain ⟨b, o, rfl, hbl, hc⟩ := HI.out.get 0 hl0
    have Hv := Lib.hid (one_one He.out Hk.out)
    generalize l[0] = x at *
    rw [Nat.add_zero] at hc
    go_wp2
    go_ret2
    exact ⟨ret_ii Hv.out.2.symm Hv.out.1.symm, up HW.out HB1.out⟩
  · have hb0 : ((k : Int) == 0) = false := by simp; omega
    have hb1 : ((k : Int) == 1) = false := by simp; omega
    go_wp2
    go_ret2
    exact ⟨ret_ii (one_more He.out (by rw [Hk.out]; exact h1)).2.symm (one_more He.out (by rw [Hk.out]; exact h1)).1.symm, up HW.out HB1.out⟩
end Go.Proofs.Ytbieopkohkomoaa

namespace Go.Proofs.Ytbieopkohkomoaa
open Go.RowKit
set_option maxHeartbeats 400000
set_option maxRecDepth 100000

/-- The error of several readings; the marks that are possible for all. -/
def ofE (w0 w1 w2 w3 w4 F : Int) (gs : List Giv) (rs : List Rd) : Int := if okB w0 w1 w2 w3 w4 F gs = true then (if 60 < rs.length then 2 else if rs.all Rd.ok = true then 0 else 12) else 13
def ofG (w0 w1 w2 w3 w4 F : Int) (gs : List Giv) (rs : List Rd) : List Giv := if ofE w0 w1 w2 w3 w4 F gs rs = 0 then possG w0 w1 w2 w3 w4 F rs gs else []
theorem ofE_13 {w0 w1 w2 w3 w4 F : Int} {gs : List Giv} {rs : List Rd} (h : okB w0 w1 w2 w3 w4 F gs = false) : ofE w0 w1 w2 w3 w4 F gs rs = 13 := by unfold ofE; rw [if_neg (by simp [h])]
theorem ofE_2 {w0 w1 w2 w3 w4 F : Int} {gs : List Giv} {rs : List Rd} (h : okB w0 w1 w2 w3 w4 F gs = true) (h2 : 60 < rs.length) : ofE w0 w1 w2 w3 w4 F gs rs = 2 := by unfold ofE; rw [if_pos h, if_pos h2]
theorem ofE_12 {w0 w1 w2 w3 w4 F : Int} {gs : List Giv} {rs : List Rd} (h : okB w0 w1 w2 w3 w4 F gs = true) (h2 : ¬ 60 < rs.length) (h3 : rs.all Rd.ok = false) : ofE w0 w1 w2 w3 w4 F gs rs = 12 := by unfold ofE; rw [if_pos h, if_neg h2, if_neg (by simp [h3])]
theorem ofE_0 {w0 w1 w2 w3 w4 F : Int} {gs : List Giv} {rs : List Rd} (h : okB w0 w1 w2 w3 w4 F gs = true) (h2 : ¬ 60 < rs.length) (h3 : rs.all Rd.ok = true) : ofE w0 w1 w2 w3 w4 F gs rs = 0 := by unfold ofE; rw [if_pos h, if_neg h2, if_pos h3]
theorem all_no {rs : List Rd} {k : Nat} (hk : k < rs.length) (h : rs[k].ok = false) : rs.all Rd.ok = false := by
  rw [List.all_eq_false]; exact ⟨rs[k], List.getElem_mem hk, by rw [h]; simp⟩

theorem of_any' (w0 w1 w2 w3 w4 F : Int) (A : Option Addr) (n c : Nat) (gs : List Giv) (B : Option Addr) (n' c' : Nat) (rs : List Rd) (w : World) (hg : Gs w A n gs) (hnc : n ≤ c) (hr : Rs w B n' rs) :
    Calls Try.prog 36 #[.agg #[.int .i64 w0, .int .i64 w1, .int .i64 w2, .int .i64 w3, .int .i64 w4, .int .i64 F, .slice A n c], .slice B n' c'] w fun e w' =>
      ∃ v, e = .returned (.tuple #[v, .int .i64 (ofE w0 w1 w2 w3 w4 F gs rs)]) ∧ w'.ownsRow w.heap.size 3 1 v (ofG w0 w1 w2 w3 w4 F gs rs).length (ints (own (ofG w0 w1 w2 w3 w4 F gs rs))) ∧ Below w.heap.size w w' := by
  have hn' := hr.small
  have Hl : Hid (n = gs.length) := Lib.hid hg.len
  have Hr : Hid (n' = rs.length) := Lib.hid hr.len
  go_enter Try.func36, Try.ntmps36
  go_wp2_with fail
  generalize hW : (World.alloc _ _) = W
  have HW : Hid (Below w.heap.size w W) := Lib.hid (by subst hW; go_grown)
  have KM : Bk W w.heap.size [.int .i64 w0, .int .i64 w1, .int .i64 w2, .int .i64 w3, .int .i64 w4, .int .i64 F, .slice A n c] := ⟨by subst hW; simp only [World.size_alloc]; omega, by subst hW; intro j; simp [go_sem]⟩
  clear hW
  have KMl := KM.lt; have KMc := KM.get
  have HG := Lib.hid (hg.keep HW.out)
  have HR := Lib.hid (hr.keep HW.out)
  cases hb : okB w0 w1 w2 w3 w4 F gs
  · have Hb := Lib.hid hb
    clear hb
    refine (check_no _ _ _ _ _ _ _ _ _ gs _ HG.out hnc Hb.out).mono ?_; rintro e x1 ⟨rfl, hb1⟩; clear KMl KMc; replace KM := KM.keep hb1; have KMl := KM.lt; have KMc := KM.get; have HB1 := Lib.hid hb1; clear hb1
    go_wp2
    go_ret2
    refine ⟨_, by rw [ofE_13 Hb.out]; rfl, ?_, up HW.out HB1.out⟩
    unfold ofG; rw [ofE_13 Hb.out]; exact World.ownsRow_nil _ _ _ _
  have Hb := Lib.hid hb
  clear hb
  refine (check_yes _ _ _ _ _ _ _ _ _ gs _ HG.out hnc Hb.out).mono ?_; rintro e V ⟨rfl, hb1⟩; replace HG := Lib.hid (HG.out.keep hb1); replace HR := Lib.hid (HR.out.keep hb1); clear KMl KMc; replace KM := KM.keep hb1; have KMl := KM.lt; have KMc := KM.get; have HB1 := Lib.hid hb1; clear hb1
  have h40 : n ≤ 40 := by have := Hl.out; have := okB_40 Hb.out; omega
  by_cases h60 : 60 < n'
  · have H60 : Hid (60 < rs.length) := Lib.hid (by rw [← Hr.out]; exact h60)
    go_wp2
    go_ret2
    refine ⟨_, by rw [ofE_2 Hb.out H60.out]; rfl, ?_, up HW.out HB1.out⟩
    unfold ofG; rw [ofE_2 Hb.out H60.out]; exact World.ownsRow_nil _ _ _ _
  have H60 : Hid (¬ 60 < rs.length) := Lib.hid (by rw [← Hr.out]; exact h60)
  go_wp2
  go_loopw [20] (fun i wr => ∃ (k : Nat) (z : Gr), k ≤ n' ∧ i = .int .i64 k ∧ wr = grow V z ∧ (rs.take k).all Rd.ok = true) (fun i _ => n' - (intOf i).toNat)
  case atStart => exact ⟨0, ⟨#[], V.drawn⟩, by omega, rfl, by simp [grow], rfl⟩
  case round =>
    obtain ⟨k, z, hk, rfl, rfl, hall⟩ := hrel
    have Hall := Lib.hid hall; clear hall
    have e1 : w.heap.size < V.heap.size + z.blocks.size := by omega
    by_cases hlt : k < n'
    · have hkl : k < rs.length := by rw [← Hr.out]; exact hlt
      have Htk : Hid (rs.take (k + 1) = rs.take k ++ [rs[k]]) := Lib.hid (List.take_succ_eq_append_getElem hkl)
      have Hno := Lib.hid (all_no hkl)
      obtain ⟨b, o, rfl, hbl, hc⟩ := HR.out.get k hkl
      obtain ⟨c0, c1, c2, c3, c4, c5⟩ := hc
      generalize rs[k] = r at *
      have e5 : b < V.heap.size + z.blocks.size := by omega
      cases hrk : r.ok
      · have Hk := Lib.hid hrk
        clear hrk
        go_wp2_with (go_at_call 18; refine (checkReading_no _ _ _ _ _ _ _ Hk.out).mono ?_; rintro e x2 ⟨rfl, hb2⟩; have HB2 := Lib.hid hb2; clear hb2)
        go_ret2
        refine ⟨_, by rw [ofE_12 Hb.out H60.out (Hno.out Hk.out)]; rfl, ?_, up HW.out (up HB1.out (up (grow_below V z) (up (up_alloc _ _) HB2.out)))⟩
        unfold ofG; rw [ofE_12 Hb.out H60.out (Hno.out Hk.out)]; exact World.ownsRow_nil _ _ _ _
      · have Hk := Lib.hid hrk
        clear hrk
        go_wp2_with (go_at_call 18; refine (checkReading_yes _ _ _ _ _ _ _ Hk.out).mono ?_; rintro e x2 ⟨rfl, hb2⟩; have HB2 := Lib.hid (up (grow_below V z) (up (up_alloc _ _) hb2)); clear hb2)
        obtain ⟨y, rfl⟩ := below_grow HB2.out
        refine ⟨⟨k + 1, y, by omega, by go_num, rfl, ?_⟩, by simp [intOf]; omega⟩
        rw [Htk.out, List.all_append, Hall.out]; simp [Hk.out]
    · obtain rfl : k = n' := by omega
      have Hall2 : Hid (rs.all Rd.ok = true) := Lib.hid (by
        have := Hall.out
        rwa [List.take_of_length_le (by rw [← Hr.out]; exact Nat.le_refl _)] at this)
      have hpl : (possG w0 w1 w2 w3 w4 F rs gs).length ≤ 40 := Nat.le_trans (possG_len w0 w1 w2 w3 w4 F rs gs) (okB_40 Hb.out)
      go_wp2_with (first
        | (go_at_call 85; refine (possibleMarks_any _ _ _ _ _ _ _ _ _ gs _ _ _ rs _ (HG.out.keep (grow_below V z)) (HR.out.keep (grow_below V z)) (okB_ok Hb.out) h40).mono ?_; rintro e x1 ⟨v, rfl, hown, hb1⟩; obtain ⟨A', c', rfl, _, _, hgs⟩ := Gs.of_own hown; have HG2 := Lib.hid (hgs (by omega)); clear hgs hown; have HB3 := Lib.hid (up HW.out (up HB1.out (up (grow_below V z) hb1))))
        | (go_at_call 84; refine (ownersOf_any _ _ _ _ _ HG2.out (by omega)).mono ?_; rintro e x2 ⟨v, rfl, hown, hb2⟩; have Hown := Lib.hid hown; clear hown))
      go_ret2
      refine ⟨_, by rw [ofE_0 Hb.out H60.out Hall2.out]; rfl, ?_, up HB3.out hb2⟩
      unfold ofG; rw [ofE_0 Hb.out H60.out Hall2.out]
      exact own_mono Hown.out HB3.out.size

set_option maxHeartbeats 800000 in
theorem refOf_any' (w0 w1 w2 w3 w4 F : Int) (A : Option Addr) (n c : Nat) (gs : List Giv) (B : Option Addr) (n' c' : Nat) (rs : List Rd) (w : World) (hg : Gs w A n gs) (hr : Rs w B n' rs) :
    Calls Try.prog 37 #[.agg #[.int .i64 w0, .int .i64 w1, .int .i64 w2, .int .i64 w3, .int .i64 w4, .int .i64 F, .slice A n c], .slice B n' c'] w fun e w' =>
      ∃ v, e = .returned (.tuple #[v, .int .i64 (ofE w0 w1 w2 w3 w4 F gs rs)]) ∧ w'.ownsRow w.heap.size 3 1 v (ofG w0 w1 w2 w3 w4 F gs rs).length (ints (own (ofG w0 w1 w2 w3 w4 F gs rs))) ∧ Below w.heap.size w w' := by
  have hn' := hr.small
  have Hl : Hid (n = gs.length) := Lib.hid hg.len
  have Hr : Hid (n' = rs.length) := Lib.hid hr.len
  obtain ⟨i0, hi, hz0, hz1, hz2⟩ := info_parts info3
  have HI := Lib.hid hi
  have HZ0 := Lib.hid hz0
  have HZ1 := Lib.hid hz1
  have HZ2 := Lib.hid hz2
  clear hi hz0 hz1 hz2
  go_enter Try.func37, Try.ntmps37
  go_wp2_with fail
  generalize hW : (World.alloc _ _) = W
  have HW : Hid (Below w.heap.size w W) := Lib.hid (by subst hW; go_grown)
  have KM : Bk W w.heap.size [.int .i64 w0, .int .i64 w1, .int .i64 w2, .int .i64 w3, .int .i64 w4, .int .i64 F, .slice A n c] := ⟨by subst hW; simp only [World.size_alloc]; omega, by subst hW; intro j; simp [go_sem]⟩
  clear hW
  have KMl := KM.lt; have KMc := KM.get
  have HG := Lib.hid (hg.keep HW.out)
  have HR := Lib.hid (hr.keep HW.out)
  cases hb : okB w0 w1 w2 w3 w4 F gs
  · have Hb := Lib.hid hb
    clear hb
    refine (refCheck_no _ _ _ _ _ _ _ _ _ gs _ HG.out Hb.out).mono ?_; rintro e x1 ⟨rfl, hb1⟩; clear KMl KMc; replace KM := KM.keep hb1; have KMl := KM.lt; have KMc := KM.get; have HB1 := Lib.hid hb1; clear hb1
    go_wp2
    go_ret2
    refine ⟨_, by rw [ofE_13 Hb.out]; rfl, ?_, up HW.out HB1.out⟩
    unfold ofG; rw [ofE_13 Hb.out]; exact World.ownsRow_nil _ _ _ _
  have Hb := Lib.hid hb
  clear hb
  refine (refCheck_yes _ _ _ _ _ _ _ _ _ gs _ HG.out Hb.out).mono ?_; rintro e V ⟨rfl, hb1⟩; replace HG := Lib.hid (HG.out.keep hb1); replace HR := Lib.hid (HR.out.keep hb1); clear KMl KMc; replace KM := KM.keep hb1; have KMl := KM.lt; have KMc := KM.get; have HB1 := Lib.hid hb1; clear hb1
  have h40 : n ≤ 40 := by have := Hl.out; have := okB_40 Hb.out; omega
  by_cases h60 : 60 < n'
  · have H60 : Hid (60 < rs.length) := Lib.hid (by rw [← Hr.out]; exact h60)
    go_wp2
    go_ret2
    refine ⟨_, by rw [ofE_2 Hb.out H60.out]; rfl, ?_, up HW.out HB1.out⟩
    unfold ofG; rw [ofE_2 Hb.out H60.out]; exact World.ownsRow_nil _ _ _ _
  have H60 : Hid (¬ 60 < rs.length) := Lib.hid (by rw [← Hr.out]; exact h60)
  go_wp2
  go_loopw [6] (fun i wr => ∃ (k : Nat) (z : Gr), k ≤ n' ∧ i = .int .i64 k ∧ wr = grow V z ∧ (rs.take k).all Rd.ok = true) (fun i _ => n' - (intOf i).toNat)
  case atStart => exact ⟨0, ⟨#[], V.drawn⟩, by omega, rfl, by simp [grow], rfl⟩
  case round =>
    obtain ⟨k, z, hk, rfl, rfl, hall⟩ := hrel
    have Hall := Lib.hid hall; clear hall
    have e1 : w.heap.size < V.heap.size + z.blocks.size := by omega
    by_cases hlt : k < n'
    · have hkl : k < rs.length := by rw [← Hr.out]; exact hlt
      have Htk : Hid (rs.take (k + 1) = rs.take k ++ [rs[k]]) := Lib.hid (List.take_succ_eq_append_getElem hkl)
      have Hno := Lib.hid (all_no hkl)
      obtain ⟨b, o, rfl, hbl, hc⟩ := HR.out.get k hkl
      obtain ⟨c0, c1, c2, c3, c4, c5⟩ := hc
      generalize rs[k] = r at *
      have e5 : b < V.heap.size + z.blocks.size := by omega
      cases hrk : r.ok
      · have Hk := Lib.hid hrk
        clear hrk
        go_wp2_with (go_at_call 19; refine (refCheckReading_no _ _ _ _ _ _ _ Hk.out).mono ?_; rintro e x2 ⟨rfl, hb2⟩; have HB2 := Lib.hid hb2; clear hb2)
        go_ret2
        refine ⟨_, by rw [ofE_12 Hb.out H60.out (Hno.out Hk.out)]; rfl, ?_, up HW.out (up HB1.out (up (grow_below V z) HB2.out))⟩
        unfold ofG; rw [ofE_12 Hb.out H60.out (Hno.out Hk.out)]; exact World.ownsRow_nil _ _ _ _
      · have Hk := Lib.hid hrk
        clear hrk
        go_wp2_with (go_at_call 19; refine (refCheckReading_yes _ _ _ _ _ _ _ Hk.out).mono ?_; rintro e x2 ⟨rfl, hb2⟩; have HB2 := Lib.hid (up (grow_below V z) hb2); clear hb2)
        obtain ⟨y, rfl⟩ := below_grow HB2.out
        go_wp2
        refine ⟨⟨k + 1, y, by omega, by go_num, rfl, ?_⟩, by simp [intOf]; omega⟩
        rw [Htk.out, List.all_append, Hall.out]; simp [Hk.out]
    obtain rfl : k = n' := by omega
    have Hall2 : Hid (rs.all Rd.ok = true) := Lib.hid (by
      have := Hall.out
      rwa [List.take_of_length_le (by rw [← Hr.out]; exact Nat.le_refl _)] at this)
    go_wp2
    generalize hU : grow V z = U
    have hbU : Below V.heap.size V U := by subst hU; exact grow_below V z
    clear hU e1
    replace HG := Lib.hid (HG.out.keep hbU)
    replace HR := Lib.hid (HR.out.keep hbU)
    clear KMl KMc; replace KM := KM.keep hbU; have KMl := KM.lt; have KMc := KM.get; have HU := Lib.hid hbU; clear hbU
    have HK := Lib.hid (okB_ok Hb.out)
    go_loopw [7, 8] (fun v i wr => ∃ (k : Nat) (z : Gr), k ≤ n ∧ i = .int .i64 k ∧ wr = grow U z ∧ (grow U z).ownsRow U.heap.size 3 1 v (possG w0 w1 w2 w3 w4 F rs (gs.take k)).length (ints (own (possG w0 w1 w2 w3 w4 F rs (gs.take k))))) (fun _ i _ => n - (intOf i).toNat)
    case atStart => exact ⟨0, ⟨#[], U.drawn⟩, by omega, rfl, by simp [grow], World.ownsRow_nil _ _ _ _⟩
    case round =>
      obtain ⟨j, y, hj, rfl, rfl, hown⟩ := hrel
      have Hown := Lib.hid hown; clear hown
      have hklen : (possG w0 w1 w2 w3 w4 F rs (gs.take j)).length ≤ 40 := Nat.le_trans (possG_len w0 w1 w2 w3 w4 F rs (gs.take j)) (by simp; omega)
      have e1 : w.heap.size < U.heap.size + y.blocks.size := by omega
      by_cases hlt2 : j < n
      rotate_left
      · obtain rfl : j = n := by omega
        have Hf : Hid (possG w0 w1 w2 w3 w4 F rs (gs.take j) = possG w0 w1 w2 w3 w4 F rs gs) := Lib.hid (by rw [List.take_of_length_le (by rw [← Hl.out]; exact Nat.le_refl _)])
        go_wp2
        go_ret2
        refine ⟨_, by rw [ofE_0 Hb.out H60.out Hall2.out]; rfl, ?_, up HW.out (up HB1.out (up HU.out (grow_below U y)))⟩
        unfold ofG; rw [ofE_0 Hb.out H60.out Hall2.out, if_pos rfl, ← Hf.out]
        exact own_mono Hown.out (by have := HW.out.size; have := HB1.out.size; have := HU.out.size; omega)
      have hkl : j < gs.length := by rw [← Hl.out]; exact hlt2
      have Htk : Hid (gs.take (j + 1) = gs.take j ++ [gs[j]]) := Lib.hid (List.take_succ_eq_append_getElem hkl)
      obtain ⟨b, o, rfl, hbb, hc⟩ := HG.out.get j hkl
      obtain ⟨c0, c1, c2, c3, c4, c5, c6⟩ := hc
      obtain ⟨⟨p0, q0⟩, ⟨p1, q1⟩, ⟨p2, q2⟩, ⟨p3, q3⟩, ⟨p4, q4⟩, ⟨p5, q5⟩⟩ := HK.out _ (List.getElem_mem hkl)
      generalize gs[j] = g at *
      generalize hX : possG w0 w1 w2 w3 w4 F rs (gs.take j) = X at *
      have HX := Lib.hid hX
      clear hX
      generalize hnX : X.length = nX at *
      have HnX := Lib.hid hnX
      clear hnX
      go_wp2
      go_loopw [9, 10] (fun a q wr => ∃ (m : Nat) (x : Gr) (t : Bool), m ≤ k ∧ q = .int .i64 m ∧ a = .bool t ∧ wr = grow U x ∧ Below (grow U y).heap.size (grow U y) (grow U x) ∧ (rs.take m).all (possR w0 w1 w2 w3 w4 F g) = t) (fun _ q _ => k - (intOf q).toNat)
      case atStart => exact ⟨0, y, true, by omega, rfl, rfl, rfl, Below.refl _ _, rfl⟩
      case round =>
        obtain ⟨m, x, t, hm, rfl, rfl, rfl, hbx, ht⟩ := hrel
        have HBx := Lib.hid hbx
        have Ht := Lib.hid ht
        clear hbx ht
        have f1 : w.heap.size < U.heap.size + x.blocks.size := by omega
        have f5 : b < U.heap.size + x.blocks.size := by omega
        by_cases hlt3 : m < k
        · have hml : m < rs.length := by rw [← Hr.out]; exact hlt3
          have Htm : Hid (rs.take (m + 1) = rs.take m ++ [rs[m]]) := Lib.hid (List.take_succ_eq_append_getElem hml)
          obtain ⟨b2, o2, rfl, hb2, hc2⟩ := HR.out.get m hml
          obtain ⟨d0, d1, d2, d3, d4, d5⟩ := hc2
          generalize rs[m] = r at *
          have f6 : b2 < U.heap.size + x.blocks.size := by omega
          have Hp : Hid (possR w0 w1 w2 w3 w4 F g r = decide (wcost w0 w1 w2 w3 w4 g.m0 g.m1 g.m2 g.m3 g.m4 g.m5 r.r0 r.r1 r.r2 r.r3 r.r4 r.r5 ≤ F)) := Lib.hid rfl
          cases t
          · go_wp2
            refine wp_region_grow (by kernel_rfl) (by kernel_rfl) ?_
            repeat (go_big_quiet_step ((fail)))
            refine wpQuiet_nil ?_
            intro x1
            obtain ⟨x2, hx2⟩ := grow_grow U x x1
            have HBy : Hid (Below (grow U y).heap.size (grow U y) (grow U x2)) := Lib.hid (by rw [← hx2]; exact up HBx.out (grow_below _ x1))
            rw [hx2]
            clear hx2
            go_wp2
            refine ⟨⟨m + 1, x2, false, by omega, by go_num, rfl, rfl, HBy.out, ?_⟩, by simp [intOf]; omega⟩
            rw [Htm.out, List.all_append, Ht.out]; rfl
          · by_cases hp : wcost w0 w1 w2 w3 w4 g.m0 g.m1 g.m2 g.m3 g.m4 g.m5 r.r0 r.r1 r.r2 r.r3 r.r4 r.r5 ≤ F
            · have Hy : Hid (possR w0 w1 w2 w3 w4 F g r = true) := Lib.hid (by rw [Hp.out]; simpa using hp)
              go_wp2
              refine wp_region_grow (by kernel_rfl) (by kernel_rfl) ?_
              repeat (go_big_quiet_step ((go_at_call 79; exact quiet_grow rfl (refCost_any _ _ _ _ _ _ _ _ _ _ _ _ _ _ _ _ _ _ p0 q0 p1 q1 p2 q2 p3 q3 p4 q4 p5 q5))))
              refine wpQuiet_nil ?_
              intro x1
              obtain ⟨x2, hx2⟩ := grow_grow U x x1
              have HBy : Hid (Below (grow U y).heap.size (grow U y) (grow U x2)) := Lib.hid (by rw [← hx2]; exact up HBx.out (grow_below _ x1))
              rw [hx2]
              clear hx2
              go_wp2
              refine ⟨⟨m + 1, x2, true, by omega, by go_num, rfl, rfl, HBy.out, ?_⟩, by simp [intOf]; omega⟩
              rw [Htm.out, List.all_append, Ht.out]; simp [Hy.out]
            · have Hy : Hid (possR w0 w1 w2 w3 w4 F g r = false) := Lib.hid (by rw [Hp.out]; simpa using hp)
              have hpd : decide (wcost w0 w1 w2 w3 w4 g.m0 g.m1 g.m2 g.m3 g.m4 g.m5 r.r0 r.r1 r.r2 r.r3 r.r4 r.r5 ≤ F) = false := by simpa using hp
              go_wp2
              refine wp_region_grow (by kernel_rfl) (by kernel_rfl) ?_
              repeat (go_big_quiet_step ((go_at_call 79; exact quiet_grow rfl (refCost_any _ _ _ _ _ _ _ _ _ _ _ _ _ _ _ _ _ _ p0 q0 p1 q1 p2 q2 p3 q3 p4 q4 p5 q5))))
              refine wpQuiet_nil ?_
              intro x1
              obtain ⟨x2, hx2⟩ := grow_grow U x x1
              have HBy : Hid (Below (grow U y).heap.size (grow U y) (grow U x2)) := Lib.hid (by rw [← hx2]; exact up HBx.out (grow_below _ x1))
              rw [hx2]
              clear hx2
              go_wp2
              refine ⟨⟨m + 1, x2, false, by omega, by go_num, rfl, rfl, HBy.out, ?_⟩, by simp [intOf]; omega⟩
              rw [Htm.out, List.all_append, Ht.out]; simp [Hy.out]
        obtain rfl : m = k := by omega
        have Hpa : Hid (possAll w0 w1 w2 w3 w4 F rs g = t) := Lib.hid (by
          have := Ht.out
          rwa [List.take_of_length_le (by rw [← Hr.out]; exact Nat.le_refl _)] at this)
        have Ho : Hid ((grow U x).ownsRow U.heap.size 3 1 _ nX (ints (own X))) := Lib.hid (own_below Hown.out HBx.out)
        cases t
        · go_wp2
          refine ⟨⟨j + 1, x, by omega, by go_num, rfl, ?_⟩, by simp [intOf]; omega⟩
          rw [Htk.out, possG_no Hpa.out, HX.out, HnX.out]
          exact Ho.out
        · go_wp2_with (at_builtin; refine wpList_append_own _ rfl _ _ 54 rfl U.heap.size 3 i0 (.int .i64 0) 1 8 Try.underlying54 HI.out HZ0.out HZ1.out HZ2.out rfl (by decide) _ _ _ rfl (Ho.out.alloc _) ⟨U.heap.size + x.blocks.size, 0, none⟩ 1 1 [.int .i64 g.o] rfl rfl ?c1 ?c2 ?c3 ?c4 ?c5 ?_)
          case c1 =>
            intro j u hu
            rw [Addr.add_lit, World.cell?_alloc_at _ _ _ _ (by simp), Nat.zero_add]
            simpa using hu
          case c2 => intro u hu; simp at hu; subst hu; rfl
          case c3 => unfold maxLen; omega
          case c4 => omega
          case c5 => simp; omega
          intro v' w' hown' hgr _
          have hbel : Below U.heap.size U w' := (up (grow_below U x) (up_alloc _ _)).grown hgr (by simp; omega) (fun q hq => (Ho.out.lt q hq).1)
          have Hown' := Lib.hid hown'
          clear hown' hgr
          obtain ⟨y2, rfl⟩ := below_grow hbel
          go_wp2
          refine ⟨⟨j + 1, y2, by omega, by go_num, rfl, ?_⟩, by simp [intOf]; omega⟩
          rw [Htk.out, possG_yes Hpa.out, HX.out, own_snoc, ints_snoc, List.length_append, HnX.out]
          exact Hown'.out
end Go.Proofs.Ytbieopkohkomoaa

namespace Go.Proofs.Ytbieopkohkomoaa
open Go Go.RowKit
set_option maxHeartbeats 400000
set_option maxRecDepth 100000

theorem arePlaces_any (A : Option Addr) (n c : Nat) (l : List Int) (w : World) (hg : Is w A n l) :
    Calls Try.prog 101 #[.slice A n c] w fun e w' => e = .returned (.bool (riseB l (-1))) ∧ Below w.heap.size w w' := by
  have hn := hg.small
  have Hl : Hid (n = l.length) := Lib.hid hg.len
  have HR : Hid (allK (plAt l) l.length = riseB l (-1)) := Lib.hid (by have := rise_all l l.length (Nat.le_refl _); rwa [List.take_length] at this)
  go_enter Try.func101, Try.ntmps101
  go_wp2
  go_loopw [3] (fun i wr => ∃ (k : Nat) (z : Gr), k ≤ n ∧ i = .int .i64 k ∧ wr = grow w z ∧ allK (plAt l) k = true) (fun i _ => n - (intOf i).toNat)
  case atStart => exact ⟨0, ⟨#[], w.drawn⟩, by omega, rfl, by simp [grow], rfl⟩
  case round =>
    obtain ⟨k, z, hk, rfl, rfl, hall⟩ := hrel
    have Hall := Lib.hid hall; clear hall
    by_cases hlt : k < n
    rotate_left
    · obtain rfl : k = n := by omega
      go_wp2
      go_ret
      refine ⟨congrArg (fun v => Ending.returned (Value.bool v)) ?_, grow_below w z⟩
      rw [← HR.out, ← Hl.out, Hall.out]
    have hkl : k < l.length := by rw [← Hl.out]; exact hlt
    have Hno := Lib.hid (fun h => allK_no (plAt l) k h l.length hkl)
    have Hat : Hid (plAt l k = (decide (0 ≤ l[k]) && decide (l[k] ≤ 5) && (k == 0 || decide (l.getD (k - 1) 0 < l[k])))) := Lib.hid (by
      unfold plAt; rw [show l.getD k 0 = l[k] by simp [List.getD, List.getElem?_eq_getElem hkl]])
    obtain ⟨b, o, rfl, hb, hc⟩ := hg.get k hkl
    have HG := Lib.hid hg
    clear hg
    generalize l[k] = x at *
    have e5 : b < w.heap.size + z.blocks.size := by omega
    by_cases hin : 0 ≤ x ∧ x ≤ 5
    rotate_left
    · have Hin := Lib.hid hin
      clear hin
      go_wp2
      refine wp_region_grow (by kernel_rfl) (by kernel_rfl) ?_
      repeat (go_big_quiet_step ((go_at_call 67; exact quiet_grow rfl (in_no _ _ _ _ Hin.out))))
      refine wpQuiet_nil ?_
      intro z1
      obtain ⟨y, hy⟩ := grow_grow w z z1
      rw [hy]
      clear hy
      go_wp2
      go_ret
      refine ⟨congrArg (fun v => Ending.returned (Value.bool v)) ?_, grow_below w y⟩
      rw [← HR.out, Hno.out (by rw [Hat.out]; have := Hin.out; simp; intros; omega)]
    have Hin := Lib.hid hin
    clear hin
    match k, hk, hlt, hkl, hc, Hall, Hno, Hat with
    | 0, hk, hlt, hkl, hc, Hall, Hno, Hat =>
      have h0 : decide ((0 : Int) < ((0 : Nat) : Int)) = false := by simp
      rw [Nat.add_zero] at hc
      go_wp2
      refine wp_region_grow (by kernel_rfl) (by kernel_rfl) ?_
      repeat (go_big_quiet_step ((go_at_call 67; exact quiet_grow rfl (in_yes _ _ _ _ Hin.out))))
      refine wpQuiet_nil ?_
      intro z1
      obtain ⟨y, hy⟩ := grow_grow w z z1
      rw [hy]
      clear hy
      go_wp2
      refine ⟨⟨1, y, by omega, by go_num, rfl, ?_⟩, by simp [intOf]; omega⟩
      rw [allK, Hall.out, Hat.out]; have := Hin.out; simp; omega
    | j + 1, hk, hlt, hkl, hc, Hall, Hno, Hat =>
      have hjl : j < l.length := by omega
      have Hg2 : Hid (l.getD (j + 1 - 1) 0 = l[j]) := Lib.hid (by simp [List.getD, List.getElem?_eq_getElem hjl])
      obtain ⟨b', o', hbo, hb', hc'⟩ := HG.out.get j hjl
      obtain ⟨rfl, rfl⟩ : b = b' ∧ o = o' := by simpa using hbo
      clear hbo hb'
      rw [Hg2.out] at Hat
      generalize l[j] = p at *
      have h0 : (0 : Int) < ((j + 1 : Nat) : Int) := by omega
      have h0d : decide ((0 : Int) < ((j + 1 : Nat) : Int)) = true := decide_eq_true h0
      have hwr : IntKind.i64.wrap (((j + 1 : Nat) : Int) - 1) = (j : Int) := by rw [IntWalk.i64_in _ (by omega)]; omega
      have hwr2 : IntKind.i64.wrap ((j : Int) + 1 - 1) = (j : Int) := by rw [IntWalk.i64_in _ (by omega)]; omega
      have hwr3 : IntKind.i64.wrap (j : Int) = (j : Int) := IntWalk.i64_in _ (by omega)
      by_cases hpx : p < x
      · have hd : decide (x ≤ p) = false := by simp; omega
        go_wp2
        refine wp_region_grow (by kernel_rfl) (by kernel_rfl) ?_
        repeat (go_big_quiet_step ((go_at_call 67; exact quiet_grow rfl (in_yes _ _ _ _ Hin.out))))
        refine wpQuiet_nil ?_
        intro z1
        obtain ⟨y, hy⟩ := grow_grow w z z1
        rw [hy]
        clear hy hwr hwr2 hwr3
        go_wp2
        refine ⟨⟨j + 1 + 1, y, by omega, by go_num, rfl, ?_⟩, by simp [intOf]; omega⟩
        rw [allK, Hall.out, Hat.out]; have := Hin.out; simp; omega
      · have hd : decide (x ≤ p) = true := by simp; omega
        go_wp2
        refine wp_region_grow (by kernel_rfl) (by kernel_rfl) ?_
        repeat (go_big_quiet_step ((go_at_call 67; exact quiet_grow rfl (in_yes _ _ _ _ Hin.out))))
        refine wpQuiet_nil ?_
        intro z1
        obtain ⟨y, hy⟩ := grow_grow w z z1
        rw [hy]
        clear hy hwr hwr2 hwr3
        go_wp2
        go_ret
        refine ⟨congrArg (fun v => Ending.returned (Value.bool v)) ?_, grow_below w y⟩
        rw [← HR.out, Hno.out (by rw [Hat.out]; simp; intros; omega)]

/-- The owners of a valid book rise; so a mark is found by its owner. -/
theorem own_lt {w0 w1 w2 w3 w4 F : Int} {gs : List Giv} (h : okB w0 w1 w2 w3 w4 F gs = true) : ∀ (j : Nat) (hj : j < gs.length) (i : Nat) (hi : i < j), (gs[i]'(by omega)).o < gs[j].o := by
  have hall : allK (okAt w0 w1 w2 w3 w4 F gs) gs.length = true := by
    unfold okB at h
    simp only [Bool.and_eq_true] at h
    exact h.2
  intro j
  induction j with
  | zero => intro hj i hi; omega
  | succ j ih =>
    intro hj i hi
    have hat := allK_at hall (j + 1) hj
    rw [okAt_some (List.getElem?_eq_getElem hj)] at hat
    simp only [Bool.and_eq_true, decide_eq_true_eq] at hat
    have h1 : lastO gs (j + 1) = gs[j].o := by simp [lastO, List.getD, List.getElem?_eq_getElem (show j < gs.length by omega)]
    have h2 := hat.1.1.1
    rw [h1] at h2
    by_cases e : i = j
    · subst e; exact h2
    · have := ih (by omega) i (by omega); omega
theorem pos_at : ∀ (l : List Int) (j : Nat) (k : Nat) (hj : j < l.length), (∀ i (hi : i < j), (l[i]'(by omega)) ≠ l[j]) → pos l l[j] k = ((k + j : Nat) : Int)
  | [], j, k, hj, _ => by simp at hj
  | y :: r, 0, k, hj, _ => by
    show pos (y :: r) y k = _
    rw [pos_yes r k rfl]; rfl
  | y :: r, j + 1, k, hj, h => by
    have h0 := h 0 (by omega)
    simp only [List.getElem_cons_zero, List.getElem_cons_succ] at h0 ⊢
    rw [pos_no r k h0, pos_at r j (k + 1) (by simpa using hj) (fun i hi => by simpa using h (i + 1) (by omega))]
    congr 1; omega
theorem found_at {w0 w1 w2 w3 w4 F : Int} {gs : List Giv} (h : okB w0 w1 w2 w3 w4 F gs = true) {g : Giv} (hg : g ∈ gs) : ∃ j, ∃ hj : j < gs.length, pos (own gs) g.o 0 = (j : Int) ∧ gs[j] = g := by
  obtain ⟨j, hj, rfl⟩ := List.mem_iff_getElem.1 hg
  refine ⟨j, hj, ?_, rfl⟩
  have e : gs[j].o = (own gs)[j]'(by simpa [own] using hj) := by simp [own]
  rw [e, pos_at (own gs) j 0 (by simpa [own] using hj) (fun i hi => by
    have := own_lt h j hj i hi
    simp only [own, List.getElem_map]
    omega)]
  congr 1; omega
theorem refIndex_at {w0 w1 w2 w3 w4 F x : Int} (A : Option Addr) (n c : Nat) (gs : List Giv) (w : World) (hg : Gs w A n gs) (j : Nat) (hj : pos (own gs) x 0 = (j : Int)) :
    Calls Try.prog 66 #[.agg #[.int .i64 w0, .int .i64 w1, .int .i64 w2, .int .i64 w3, .int .i64 w4, .int .i64 F, .slice A n c], .int .i64 x] w fun e w' => e = .returned (.int .i64 (j : Int)) ∧ Below w.heap.size w w' :=
  (refIndex_any _ _ _ _ _ _ _ A n c gs w hg).mono fun e w' h => ⟨by rw [h.1, hj], h.2⟩
theorem g6_map (f : Int → Int) (a0 a1 a2 a3 a4 a5 i : Int) : g6 (f a0) (f a1) (f a2) (f a3) (f a4) (f a5) i = f (g6 a0 a1 a2 a3 a4 a5 i) := by
  unfold g6
  split
  · rfl
  · split
    · rfl
    · split
      · rfl
      · split
        · rfl
        · split <;> rfl
theorem meetAll_snoc (a b : Rd) (l : List Int) (x : Int) : meetAll a b (l ++ [x]) = (meetAll a b l && meetB a b x) := by simp [meetAll]
theorem g6_bd {a0 a1 a2 a3 a4 a5 : Int} (h : okM a0 a1 a2 a3 a4 a5 = true) {i : Int} (h0 : 0 ≤ i) (h1 : i < 6) : 0 ≤ g6 a0 a1 a2 a3 a4 a5 i ∧ g6 a0 a1 a2 a3 a4 a5 i < 5 := by
  obtain ⟨⟨p0, q0⟩, ⟨p1, q1⟩, ⟨p2, q2⟩, ⟨p3, q3⟩, ⟨p4, q4⟩, ⟨p5, q5⟩⟩ := (okM_iff _ _ _ _ _ _).1 h
  rcases (by omega : i = 0 ∨ i = 1 ∨ i = 2 ∨ i = 3 ∨ i = 4 ∨ i = 5) with rfl | rfl | rfl | rfl | rfl | rfl <;> exact ⟨by assumption, by assumption⟩

theorem settleAt_no {rs : List Rd} {l : List Int} {k : Nat} {a x : Rd} (h : rs[k]? = some a) (hx : x ∈ rs.take k) (hm : meetAll a x l = true) : settleAt rs l k = false := by
  rw [settleAt_some h, List.all_eq_false]
  exact ⟨x, hx, by rw [hm]; simp⟩

theorem put6_bk {w : World} {N : Nat} {c0 c1 c2 c3 c4 c5 : Value} {ty : TypeId} (h : w.heap[N]? = some (.cells #[c0, c1, c2, c3, c4, c5] ty (0, 0))) (v0 v1 v2 v3 v4 v5 : Value) :
    Bk ((((((w.setCell ⟨N, 0, none⟩ v0).setCell ⟨N, 1, none⟩ v1).setCell ⟨N, 2, none⟩ v2).setCell ⟨N, 3, none⟩ v3).setCell ⟨N, 4, none⟩ v4).setCell ⟨N, 5, none⟩ v5) N [v0, v1, v2, v3, v4, v5] := by
  obtain ⟨n1, n2, n3⟩ := made6 h
  refine ⟨by simpa [World.setCell] using n1, fun j => ?_⟩
  by_cases hj : j < 6
  · refine put6 w N v0 v1 v2 v3 v4 v5 (fun i hi => ?_) j hj
    rw [n2 i]
    rcases (by omega : i = 0 ∨ i = 1 ∨ i = 2 ∨ i = 3 ∨ i = 4 ∨ i = 5) with rfl | rfl | rfl | rfl | rfl | rfl <;> rfl
  · have hne : ∀ q, q < 6 → (Addr.mk N q none) ≠ ⟨N, j, none⟩ := fun q hq e => by injection e with _ e2; omega
    rw [World.cell?_setCell_other _ _ _ _ (hne 5 (by omega)), World.cell?_setCell_other _ _ _ _ (hne 4 (by omega)), World.cell?_setCell_other _ _ _ _ (hne 3 (by omega)), World.cell?_setCell_other _ _ _ _ (hne 2 (by omega)), World.cell?_setCell_other _ _ _ _ (hne 1 (by omega)), World.cell?_setCell_other _ _ _ _ (hne 0 (by omega)), n2 j]
    rw [List.getElem?_eq_none (by simp; omega), List.getElem?_eq_none (by simp; omega)]

set_option maxHeartbeats 1600000 in
theorem settles_any (w0 w1 w2 w3 w4 F : Int) (A : Option Addr) (n c : Nat) (gs : List Giv) (r : Rd) (B : Option Addr) (n' c' : Nat) (l : List Int) (w : World) (hg : Gs w A n gs) (hok : okB w0 w1 w2 w3 w4 F gs = true) (hl : Is w B n' l) (hin : ∀ i ∈ l, 0 ≤ i ∧ i < 6) :
    Calls Try.prog 97 #[.agg #[.int .i64 w0, .int .i64 w1, .int .i64 w2, .int .i64 w3, .int .i64 w4, .int .i64 F, .slice A n c], .agg #[.int .i64 r.r0, .int .i64 r.r1, .int .i64 r.r2, .int .i64 r.r3, .int .i64 r.r4, .int .i64 r.r5], .slice B n' c'] w fun e w' => e = .returned (.bool (settleB (rowsOf w0 w1 w2 w3 w4 (possG w0 w1 w2 w3 w4 F [r] gs)) l)) ∧ Below w.heap.size w w' := by
  have hn' := hl.small
  have Hl : Hid (n = gs.length) := Lib.hid hg.len
  have Hl' : Hid (n' = l.length) := Lib.hid hl.len
  have Hok := Lib.hid hok
  have Hin := Lib.hid hin
  have h40 : n ≤ 40 := by have := Hl.out; have := okB_40 hok; omega
  clear hok hin
  go_enter Try.func97, Try.ntmps97
  go_wp2_with fail
  generalize hW : (World.alloc _ _) = W
  have HW : Hid (Below w.heap.size w W) := Lib.hid (by subst hW; go_grown)
  have KM : Bk W w.heap.size [.int .i64 w0, .int .i64 w1, .int .i64 w2, .int .i64 w3, .int .i64 w4, .int .i64 F, .slice A n c] := ⟨by subst hW; simp only [World.size_alloc]; omega, by subst hW; intro j; simp [go_sem]⟩
  clear hW
  have HG := Lib.hid (hg.keep HW.out)
  have HI := Lib.hid (hl.keep HW.out)
  clear hg hl
  refine (refOwnersL_any w0 w1 w2 w3 w4 F A n c gs r W HG.out (okB_ok Hok.out) h40).mono ?_
  rintro e V ⟨v, rfl, hown, hb1⟩
  obtain ⟨A2, c2, rfl, _, hi2⟩ := Is.of_own hown
  clear hown
  have HO := Lib.hid hi2
  clear hi2
  replace HG := Lib.hid (HG.out.keep hb1); replace HI := Lib.hid (HI.out.keep hb1); replace KM := KM.keep hb1
  have HB1 := Lib.hid hb1
  clear hb1
  have hpl : (possG w0 w1 w2 w3 w4 F [r] gs).length ≤ 40 := Nat.le_trans (possG_len w0 w1 w2 w3 w4 F [r] gs) (okB_40 Hok.out)
  have HSub : Hid (∀ g ∈ possG w0 w1 w2 w3 w4 F [r] gs, g ∈ gs) := Lib.hid (possG_sub)
  generalize hP : possG w0 w1 w2 w3 w4 F [r] gs = P at *
  have HP := Lib.hid hP
  clear hP
  generalize hm : P.length = m at *
  have Hm := Lib.hid hm
  clear hm
  generalize hrs : rowsOf w0 w1 w2 w3 w4 P = rs
  have Hrs := Lib.hid hrs
  have Hrl : Hid (rs.length = m) := Lib.hid (by rw [← hrs, ← Hm.out]; simp [rowsOf])
  clear hrs
  have Hat : Hid (∀ k (hk : k < P.length), rs[k]? = some (rowOf w0 w1 w2 w3 w4 P[k])) := Lib.hid (fun k hk => by rw [← Hrs.out]; simp [rowsOf, hk])
  have KMl := KM.lt; have KMc := KM.get
  go_wp2
  go_loopw [8] (fun i wr => ∃ (k : Nat) (z : Gr), k ≤ m ∧ i = .int .i64 k ∧ wr = grow V z ∧ allK (settleAt rs l) k = true) (fun i _ => m - (intOf i).toNat)
  case atStart => exact ⟨0, ⟨#[], V.drawn⟩, by omega, rfl, by simp [grow], rfl⟩
  case round =>
    obtain ⟨k, z, hk, rfl, rfl, hall⟩ := hrel
    have Hall := Lib.hid hall; clear hall
    by_cases hlt : k < m
    rotate_left
    · obtain rfl : k = m := by omega
      go_wp2
      go_ret
      refine ⟨congrArg (fun v => Ending.returned (Value.bool v)) ?_, up HW.out (up HB1.out (grow_below V z))⟩
      rw [HP.out, Hrs.out]
      unfold settleB
      rw [Hrl.out, Hall.out]
    have hkP : k < P.length := by rw [Hm.out]; exact hlt
    have Hra := Lib.hid (Hat.out k hkP)
    have hmem := HSub.out _ (List.getElem_mem hkP)
    obtain ⟨ja, hja, hpa, hga⟩ := found_at Hok.out hmem
    have Hoka := Lib.hid (okB_ok Hok.out _ hmem)
    have hown_a : (own P)[k]'(by simpa [own] using hkP) = P[k].o := by simp [own]
    obtain ⟨b2, o2, rfl, hb2, hc2⟩ := HO.out.get k (by simpa [own] using hkP)
    rw [hown_a] at hc2
    clear hown_a hmem
    generalize P[k] = a at *
    have Hpa := Lib.hid hpa
    clear hpa
    obtain ⟨bg, og, rfl, hbg, hga2⟩ := HG.out.get ja hja
    rw [hga] at hga2
    obtain ⟨a0', a1', a2', a3', a4', a5', a6'⟩ := hga2
    clear hga
    have hjan : ja < n := by rw [Hl.out]; exact hja
    go_wp2
    go_loopw [9] (fun j wr => ∃ (q : Nat) (y : Gr), q ≤ k ∧ j = .int .i64 q ∧ wr = grow V y ∧ ((rs.take k).take q).all (fun b => !meetAll (rowOf w0 w1 w2 w3 w4 a) b l) = true) (fun j _ => k - (intOf j).toNat)
    case atStart => exact ⟨0, z, by omega, rfl, rfl, rfl⟩
    case round =>
      obtain ⟨q, y, hq, rfl, rfl, hpa⟩ := hrel
      have Hpa2 := Lib.hid hpa
      clear hpa
      by_cases hqk : q < k
      rotate_left
      · obtain rfl : q = k := by omega
        go_wp2
        refine ⟨⟨q + 1, y, by omega, by go_num, rfl, ?_⟩, by simp [intOf]; omega⟩
        show (allK (settleAt rs l) q && settleAt rs l q) = true
        have := Hpa2.out
        rw [List.take_of_length_le (by simp; omega)] at this
        rw [Hall.out, settleAt_some Hra.out, this]; rfl
      have hqP : q < P.length := by rw [Hm.out]; omega
      have Hrq := Lib.hid (Hat.out q hqP)
      have hmemq := HSub.out _ (List.getElem_mem hqP)
      obtain ⟨jq, hjq, hpq, hgq⟩ := found_at Hok.out hmemq
      have Hokq := Lib.hid (okB_ok Hok.out _ hmemq)
      have hown_q : (own P)[q]'(by simpa [own] using hqP) = P[q].o := by simp [own]
      obtain ⟨b3, o3, hbo3, hb3, hc3⟩ := HO.out.get q (by simpa [own] using hqP)
      obtain ⟨rfl, rfl⟩ : b2 = b3 ∧ o2 = o3 := by simpa using hbo3
      clear hbo3 hb3
      rw [hown_q] at hc3
      clear hown_q hmemq
      have Htq : Hid ((rs.take k).take (q + 1) = (rs.take k).take q ++ [rowOf w0 w1 w2 w3 w4 P[q]] ∧ rowOf w0 w1 w2 w3 w4 P[q] ∈ rs.take k) := Lib.hid (by
        have hql : q < (rs.take k).length := by rw [List.length_take, Hrl.out]; omega
        have e : (rs.take k)[q] = rowOf w0 w1 w2 w3 w4 P[q] := by
          have := Hrq.out
          rw [List.getElem?_eq_getElem (by rw [Hrl.out]; omega)] at this
          rw [List.getElem_take]
          exact Option.some.inj this
        exact ⟨by rw [List.take_succ_eq_append_getElem hql, e], by rw [← e]; exact List.getElem_mem hql⟩)
      generalize P[q] = d at *
      have Hpq := Lib.hid hpq
      clear hpq
      obtain ⟨bg2, og2, hbo, hbg2, hgq2⟩ := HG.out.get jq hjq
      obtain ⟨rfl, rfl⟩ : bg = bg2 ∧ og = og2 := by simpa using hbo
      clear hbo hbg2
      rw [hgq] at hgq2
      obtain ⟨d0', d1', d2', d3', d4', d5', d6'⟩ := hgq2
      clear hgq
      have hjqn : jq < n := by rw [Hl.out]; exact hjq
      have e2 : b2 < V.heap.size + y.blocks.size := by omega
      have e1 : w.heap.size < V.heap.size + y.blocks.size := by omega
      have e5 : bg < V.heap.size + y.blocks.size := by omega
      go_wp2
      have HbY := Lib.hid (grow_below V y)
      refine wp_region_alloc 12 11 10 (.cells #[.int .i64 0, .int .i64 0, .int .i64 0, .int .i64 0, .int .i64 0, .int .i64 0] 28) (by kernel_rfl) rfl (fun N => by kernel_rfl) (by decide) (fun a w => by simp [execOp, Act.eval, go_sem]) (by kernel_rfl) ?_
      apply Exists.intro
      refine ⟨fun b N hbN => ?_, fun N => ?_, fun W9 N hW9 hN9 hblk => ?_⟩
      · have hbV := up HbY.out hbN
        have KMb := KM.keep hbV
        have KMbl := KMb.lt
        have KMbc := KMb.get
        have e1b : w.heap.size < b.heap.size := KMb.lt
        have e2b : b2 < b.heap.size := by have := hbV.size; omega
        have e5b : bg < b.heap.size := by have := hbV.size; omega
        have u3 := (hbV.cell (p := ⟨b2, o2 + k, none⟩) hb2).trans hc2
        have u4 := (hbV.cell (p := ⟨bg, og + ja * 7 + 1, none⟩) hbg).trans a1'
        have u5 := (hbV.cell (p := ⟨bg, og + ja * 7 + 2, none⟩) hbg).trans a2'
        have u6 := (hbV.cell (p := ⟨bg, og + ja * 7 + 3, none⟩) hbg).trans a3'
        have u7 := (hbV.cell (p := ⟨bg, og + ja * 7 + 4, none⟩) hbg).trans a4'
        have u8 := (hbV.cell (p := ⟨bg, og + ja * 7 + 5, none⟩) hbg).trans a5'
        have u9 := (hbV.cell (p := ⟨bg, og + ja * 7 + 6, none⟩) hbg).trans a6'
        have HGb := Lib.hid (HG.out.keep hbV)
        simp only [List.set_cons_succ, List.set_cons_zero, ptrOp, List.take_succ_cons, List.take_zero]
        repeat (go_big_quiet_step ((go_at_call 66; exact quiet_grow rfl (refIndex_at _ _ _ gs _ (HGb.out.keep (grow_below _ _)) ja Hpa.out))))
        refine wpQuiet_nil ?_
        rfl
      · rfl
      simp only [List.drop_succ_cons, List.drop_zero]
      obtain ⟨n1, n2, n3⟩ := made6 hblk
      go_wp2
      have KA := put6_bk hblk (.int .i64 a.m0) (.int .i64 a.m1) (.int .i64 a.m2) (.int .i64 a.m3) (.int .i64 a.m4) (.int .i64 a.m5)
      have hbU := put6_below (up HbY.out hW9) (Nat.le_trans HbY.out.size hN9) (.int .i64 a.m0) (.int .i64 a.m1) (.int .i64 a.m2) (.int .i64 a.m3) (.int .i64 a.m4) (.int .i64 a.m5)
      generalize World.setCell _ ⟨N, 5, none⟩ _ = U at KA hbU ⊢
      clear n1 n2 n3 hblk hW9 hN9 e1 e2 e5
      have HbU := Lib.hid hbU
      clear hbU
      generalize N = NA at *
      refine wp_region_alloc 12 11 11 (.cells #[.int .i64 0, .int .i64 0, .int .i64 0, .int .i64 0, .int .i64 0, .int .i64 0] 28) (by kernel_rfl) rfl (fun N => by kernel_rfl) (by decide) (fun a w => by simp [execOp, Act.eval, go_sem]) (by kernel_rfl) ?_
      apply Exists.intro
      refine ⟨fun b N hbN => ?_, fun N => ?_, fun W9 N hW9 hN9 hblk => ?_⟩
      · have hbV := up HbU.out hbN
        have KMb := KM.keep hbV
        have KMbl := KMb.lt
        have KMbc := KMb.get
        have e1b : w.heap.size < b.heap.size := KMb.lt
        have e2b : b2 < b.heap.size := by have := hbV.size; omega
        have e5b : bg < b.heap.size := by have := hbV.size; omega
        have u3 := (hbV.cell (p := ⟨b2, o2 + q, none⟩) hb2).trans hc3
        have u4 := (hbV.cell (p := ⟨bg, og + jq * 7 + 1, none⟩) hbg).trans d1'
        have u5 := (hbV.cell (p := ⟨bg, og + jq * 7 + 2, none⟩) hbg).trans d2'
        have u6 := (hbV.cell (p := ⟨bg, og + jq * 7 + 3, none⟩) hbg).trans d3'
        have u7 := (hbV.cell (p := ⟨bg, og + jq * 7 + 4, none⟩) hbg).trans d4'
        have u8 := (hbV.cell (p := ⟨bg, og + jq * 7 + 5, none⟩) hbg).trans d5'
        have u9 := (hbV.cell (p := ⟨bg, og + jq * 7 + 6, none⟩) hbg).trans d6'
        have HGb := Lib.hid (HG.out.keep hbV)
        simp only [List.set_cons_succ, List.set_cons_zero, ptrOp, List.take_succ_cons, List.take_zero]
        repeat (go_big_quiet_step ((go_at_call 66; exact quiet_grow rfl (refIndex_at _ _ _ gs _ (HGb.out.keep (grow_below _ _)) jq Hpq.out))))
        refine wpQuiet_nil ?_
        rfl
      · rfl
      simp only [List.drop_succ_cons, List.drop_zero]
      obtain ⟨n1, n2, n3⟩ := made6 hblk
      go_wp2
      have KD := put6_bk hblk (.int .i64 d.m0) (.int .i64 d.m1) (.int .i64 d.m2) (.int .i64 d.m3) (.int .i64 d.m4) (.int .i64 d.m5)
      have hbX := put6_below hW9 hN9 (.int .i64 d.m0) (.int .i64 d.m1) (.int .i64 d.m2) (.int .i64 d.m3) (.int .i64 d.m4) (.int .i64 d.m5)
      generalize World.setCell _ ⟨N, 5, none⟩ _ = X at KD hbX ⊢
      have HbX := Lib.hid (up HbU.out hbX)
      have KAX := KA.keep hbX
      have KMX := KM.keep HbX.out
      have HIX := Lib.hid (HI.out.keep HbX.out)
      clear n1 n2 n3 hblk hW9 hN9 hbX
      have HWT : Hid (∀ s : Int, 0 ≤ s → s < 5 → [Value.int .i64 w0, .int .i64 w1, .int .i64 w2, .int .i64 w3, .int .i64 w4, .int .i64 F, .slice (some ⟨bg, og, none⟩) n c][s.toNat]? = some (.int .i64 (g5 w0 w1 w2 w3 w4 s))) := Lib.hid (fun s h0 h1 => by
        rcases (by omega : s = 0 ∨ s = 1 ∨ s = 2 ∨ s = 3 ∨ s = 4) with rfl | rfl | rfl | rfl | rfl <;> rfl)
      have l1 := KAX.lt
      have l2 := KD.lt
      have l3 := KMX.lt
      go_loopw [12, 13] (fun t i wr => ∃ (u : Nat) (x : Gr) (p : Bool), u ≤ n' ∧ i = .int .i64 u ∧ t = .bool p ∧ wr = grow X x ∧ (!meetAll (rowOf w0 w1 w2 w3 w4 a) (rowOf w0 w1 w2 w3 w4 d) (l.take u)) = p) (fun _ i _ => n' - (intOf i).toNat)
      case atStart => exact ⟨0, ⟨#[], X.drawn⟩, false, by omega, rfl, rfl, by simp [grow], rfl⟩
      case round =>
        obtain ⟨u, x, pb, hu, rfl, rfl, rfl, hpb⟩ := hrel
        have Hpb := Lib.hid hpb
        clear hpb
        have l4 : NA < X.heap.size + x.blocks.size := by omega
        have l5 : N < X.heap.size + x.blocks.size := by omega
        have l6 : w.heap.size < X.heap.size + x.blocks.size := by omega
        by_cases hlt3 : u < n'
        · have hul : u < l.length := by rw [← Hl'.out]; exact hlt3
          have Htu : Hid (l.take (u + 1) = l.take u ++ [l[u]]) := Lib.hid (List.take_succ_eq_append_getElem hul)
          obtain ⟨hx0, hx6⟩ := Hin.out _ (List.getElem_mem hul)
          obtain ⟨b4, o4, rfl, hb4, hc4⟩ := HIX.out.get u hul
          generalize l[u] = s at *
          have l7 : b4 < X.heap.size + x.blocks.size := by omega
          obtain ⟨sa0, sa5⟩ := g6_bd ((okM_iff _ _ _ _ _ _).2 Hoka.out) hx0 hx6
          obtain ⟨sd0, sd5⟩ := g6_bd ((okM_iff _ _ _ _ _ _).2 Hokq.out) hx0 hx6
          have ca : X.cell? ⟨NA, s.toNat, none⟩ = some (.int .i64 (g6 a.m0 a.m1 a.m2 a.m3 a.m4 a.m5 s)) := (KAX.get _).trans (at6 _ _ _ _ _ _ s hx0 hx6)
          have cd : X.cell? ⟨N, s.toNat, none⟩ = some (.int .i64 (g6 d.m0 d.m1 d.m2 d.m3 d.m4 d.m5 s)) := (KD.get _).trans (at6 _ _ _ _ _ _ s hx0 hx6)
          have HmB : Hid (meetB (rowOf w0 w1 w2 w3 w4 a) (rowOf w0 w1 w2 w3 w4 d) s = (band (g5 w0 w1 w2 w3 w4 (g6 a.m0 a.m1 a.m2 a.m3 a.m4 a.m5 s)) (g5 w0 w1 w2 w3 w4 (g6 d.m0 d.m1 d.m2 d.m3 d.m4 d.m5 s)) != 0)) := Lib.hid (by
            unfold meetB rowOf; dsimp only; rw [g6_map (g5 w0 w1 w2 w3 w4), g6_map (g5 w0 w1 w2 w3 w4)])
          generalize g6 a.m0 a.m1 a.m2 a.m3 a.m4 a.m5 s = sa at *
          generalize g6 d.m0 d.m1 d.m2 d.m3 d.m4 d.m5 s = sd at *
          have cw : X.cell? ⟨w.heap.size, sa.toNat, none⟩ = some (.int .i64 (g5 w0 w1 w2 w3 w4 sa)) := (KMX.get _).trans (HWT.out sa sa0 sa5)
          have cw2 : X.cell? ⟨w.heap.size, sd.toNat, none⟩ = some (.int .i64 (g5 w0 w1 w2 w3 w4 sd)) := (KMX.get _).trans (HWT.out sd sd0 sd5)
          generalize g5 w0 w1 w2 w3 w4 sa = ya at *
          generalize g5 w0 w1 w2 w3 w4 sd = yd at *
          cases pb
          · cases hz : (band ya yd == 0)
            all_goals
              have Hz := Lib.hid hz
              have hz2 : (bits BinOp.and IntKind.i64 ya yd == 0) = _ := hz
              clear hz
              go_wp2
              refine wp_region_grow (by kernel_rfl) (by kernel_rfl) ?_
              repeat (go_big_quiet_step ((fail)))
              refine wpQuiet_nil ?_
              intro x1
              obtain ⟨x2, hx2⟩ := grow_grow X x x1
              rw [hx2]
              clear hx2
              go_wp2
              refine ⟨⟨u + 1, x2, _, by omega, by go_num, rfl, rfl, ?_⟩, by simp [intOf]; omega⟩
              have hpm : meetAll (rowOf w0 w1 w2 w3 w4 a) (rowOf w0 w1 w2 w3 w4 d) (l.take u) = true := by simpa using Hpb.out
              rw [Htu.out, meetAll_snoc, hpm, HmB.out, bne, Hz.out]; rfl
          · go_wp2
            refine wp_region_grow (by kernel_rfl) (by kernel_rfl) ?_
            repeat (go_big_quiet_step ((fail)))
            refine wpQuiet_nil ?_
            intro x1
            obtain ⟨x2, hx2⟩ := grow_grow X x x1
            rw [hx2]
            clear hx2
            go_wp2
            refine ⟨⟨u + 1, x2, true, by omega, by go_num, rfl, rfl, ?_⟩, by simp [intOf]; omega⟩
            have hpm : meetAll (rowOf w0 w1 w2 w3 w4 a) (rowOf w0 w1 w2 w3 w4 d) (l.take u) = false := by simpa using Hpb.out
            rw [Htu.out, meetAll_snoc, hpm]; rfl
        · obtain rfl : u = n' := by omega
          have Hfull : Hid ((!meetAll (rowOf w0 w1 w2 w3 w4 a) (rowOf w0 w1 w2 w3 w4 d) l) = pb) := Lib.hid (by
            have := Hpb.out
            rwa [List.take_of_length_le (by rw [← Hl'.out]; exact Nat.le_refl _)] at this)
          cases pb
          · go_wp2
            go_ret
            refine ⟨congrArg (fun v => Ending.returned (Value.bool v)) ?_, up HW.out (up HB1.out (up HbX.out (grow_below X x)))⟩
            rw [HP.out, Hrs.out]
            unfold settleB
            rw [allK_no (settleAt rs l) k (settleAt_no Hra.out Htq.out.2 (by simpa using Hfull.out)) rs.length (by rw [Hrl.out]; exact hlt)]
          · go_wp2
            obtain ⟨y2, hy2⟩ := below_grow (up HbX.out (grow_below X x))
            refine ⟨⟨q + 1, y2, by omega, by go_num, hy2, ?_⟩, by simp [intOf]; omega⟩
            rw [Htq.out.1, List.all_append, Hpa2.out]
            simp [show meetAll (rowOf w0 w1 w2 w3 w4 a) (rowOf w0 w1 w2 w3 w4 d) l = false by simpa using Hfull.out]
end Go.Proofs.Ytbieopkohkomoaa

namespace Go.Proofs.Ytbieopkohkomoaa
open Go Go.RowKit
set_option maxHeartbeats 400000
set_option maxRecDepth 100000

/-- The error of CheckLook. -/
def clE (w0 w1 w2 w3 w4 F : Int) (gs : List Giv) (r : Rd) (l : List Int) : Int := if brE w0 w1 w2 w3 w4 F gs r = 0 then (if riseB l (-1) = true then (if settleB (rowsOf w0 w1 w2 w3 w4 (possG w0 w1 w2 w3 w4 F [r] gs)) l = true then 0 else 18) else 18) else brE w0 w1 w2 w3 w4 F gs r
theorem clE_1 {w0 w1 w2 w3 w4 F : Int} {gs : List Giv} {r : Rd} (l : List Int) (h : brE w0 w1 w2 w3 w4 F gs r ≠ 0) : clE w0 w1 w2 w3 w4 F gs r l = brE w0 w1 w2 w3 w4 F gs r := if_neg h
theorem clE_2 {w0 w1 w2 w3 w4 F : Int} {gs : List Giv} {r : Rd} {l : List Int} (h : brE w0 w1 w2 w3 w4 F gs r = 0) (h2 : riseB l (-1) = false) : clE w0 w1 w2 w3 w4 F gs r l = 18 := by unfold clE; rw [if_pos h, if_neg (by simp [h2])]
theorem clE_3 {w0 w1 w2 w3 w4 F : Int} {gs : List Giv} {r : Rd} {l : List Int} (h : brE w0 w1 w2 w3 w4 F gs r = 0) (h2 : riseB l (-1) = true) (h3 : settleB (rowsOf w0 w1 w2 w3 w4 (possG w0 w1 w2 w3 w4 F [r] gs)) l = false) : clE w0 w1 w2 w3 w4 F gs r l = 18 := by unfold clE; rw [if_pos h, if_pos h2, if_neg (by simp [h3])]
theorem clE_4 {w0 w1 w2 w3 w4 F : Int} {gs : List Giv} {r : Rd} {l : List Int} (h : brE w0 w1 w2 w3 w4 F gs r = 0) (h2 : riseB l (-1) = true) (h3 : settleB (rowsOf w0 w1 w2 w3 w4 (possG w0 w1 w2 w3 w4 F [r] gs)) l = true) : clE w0 w1 w2 w3 w4 F gs r l = 0 := by unfold clE; rw [if_pos h, if_pos h2, if_pos h3]
theorem brE_ok {w0 w1 w2 w3 w4 F : Int} {gs : List Giv} {r : Rd} (h : brE w0 w1 w2 w3 w4 F gs r = 0) : okB w0 w1 w2 w3 w4 F gs = true ∧ r.ok = true := by
  unfold brE at h
  obtain ⟨o1, o2⟩ := firstE2_0 h
  exact ⟨err_0 (by decide) o1, err_0 (by decide) o2⟩

theorem checkLook_any (w0 w1 w2 w3 w4 F : Int) (A : Option Addr) (n c : Nat) (gs : List Giv) (r : Rd) (B : Option Addr) (n' c' : Nat) (l : List Int) (w : World) (hg : Gs w A n gs) (hnc : n ≤ c) (hl : Is w B n' l) :
    Calls Try.prog 52 #[.agg #[.int .i64 w0, .int .i64 w1, .int .i64 w2, .int .i64 w3, .int .i64 w4, .int .i64 F, .slice A n c], .agg #[.int .i64 r.r0, .int .i64 r.r1, .int .i64 r.r2, .int .i64 r.r3, .int .i64 r.r4, .int .i64 r.r5], .slice B n' c'] w fun e w' => e = .returned (.int .i64 (clE w0 w1 w2 w3 w4 F gs r l)) ∧ Below w.heap.size w w' := by
  have Hl : Hid (n = gs.length) := Lib.hid hg.len
  go_enter Try.func52, Try.ntmps52
  go_wp2_with fail
  generalize hW : (World.alloc _ _) = W
  have HW : Hid (Below w.heap.size w W) := Lib.hid (by subst hW; go_grown)
  have KM : Bk W w.heap.size [.int .i64 w0, .int .i64 w1, .int .i64 w2, .int .i64 w3, .int .i64 w4, .int .i64 F, .slice A n c] := ⟨by subst hW; simp only [World.size_alloc]; omega, by subst hW; intro j; simp [go_sem]⟩
  have KR : Bk W (w.heap.size + 1) [.int .i64 r.r0, .int .i64 r.r1, .int .i64 r.r2, .int .i64 r.r3, .int .i64 r.r4, .int .i64 r.r5] := ⟨by subst hW; simp only [World.size_alloc]; omega, by subst hW; intro j; simp [go_sem]⟩
  clear hW
  have KMl := KM.lt; have KMc := KM.get; have KRl := KR.lt; have KRc := KR.get
  have HG := Lib.hid (hg.keep HW.out)
  have HI := Lib.hid (hl.keep HW.out)
  refine wp_region_grow_tail 4 (by kernel_rfl) (by kernel_rfl) ?_
  simp only [List.take_succ_cons, List.take_zero, List.drop_succ_cons, List.drop_zero]
  repeat (go_big_quiet_step ((first | (go_at_call 20; exact quiet_grow rfl (check_any _ _ _ _ _ _ _ _ _ gs _ (HG.out.keep (grow_below _ _)) hnc)) | (go_at_call 18; exact quiet_grow rfl (checkReading_any _ _ _ _ _ _ _)))))
  refine wpQuiet_nil ?_
  intro z
  go_wp2_with fail
  refine Calls.mono (first_any _ _ _ _ _ (is2 _ _ _ _ _ (by simp))) ?_
  rintro e x1 ⟨rfl, rfl⟩
  rw [show firstE [err (okB w0 w1 w2 w3 w4 F gs) 13, err (okR r.r0 r.r1 r.r2 r.r3 r.r4 r.r5) 12] = brE w0 w1 w2 w3 w4 F gs r from rfl]
  generalize hV : World.alloc (grow W z) _ = V
  have hb : Below W.heap.size W V := by subst hV; exact up (grow_below W z) (up_alloc _ _)
  clear hV
  replace HG := Lib.hid (HG.out.keep hb)
  replace HI := Lib.hid (HI.out.keep hb)
  clear KMl KMc KRl KRc; replace KM := KM.keep hb; have KMl := KM.lt; have KMc := KM.get; replace KR := KR.keep hb; have KRl := KR.lt; have KRc := KR.get; have HV := Lib.hid hb; clear hb
  by_cases hE : brE w0 w1 w2 w3 w4 F gs r = 0
  rotate_left
  · have HE := Lib.hid hE
    have hb : (brE w0 w1 w2 w3 w4 F gs r != 0) = true := by simpa using hE
    clear hE
    go_wp2
    go_ret
    exact ⟨congrArg (fun v => Ending.returned (Value.int .i64 v)) (clE_1 l HE.out).symm, up HW.out HV.out⟩
  have HE := Lib.hid hE
  have Ob := Lib.hid (brE_ok hE).1
  rw [hE]
  clear hE
  have h40 : n ≤ 40 := by have := Hl.out; have := okB_40 Ob.out; omega
  cases hr : riseB l (-1)
  · have Hr := Lib.hid hr
    clear hr
    go_wp2_with (go_at_call 99; refine (validLook_any _ _ _ l _ HI.out).mono ?_; rintro e x2 ⟨rfl, rfl⟩; rw [Hr.out])
    go_ret
    exact ⟨congrArg (fun v => Ending.returned (Value.int .i64 v)) (clE_2 HE.out Hr.out).symm, up HW.out HV.out⟩
  have Hr := Lib.hid hr
  have Hin := Lib.hid (riseB_in l (-1) (by omega) hr)
  clear hr
  have Hs2 : Hid (settleB (rowsOf w0 w1 w2 w3 w4 (possG w0 w1 w2 w3 w4 F [r] gs)) l = false → clE w0 w1 w2 w3 w4 F gs r l = 18) := Lib.hid (fun h => clE_3 HE.out Hr.out h)
  have Hs3 : Hid (settleB (rowsOf w0 w1 w2 w3 w4 (possG w0 w1 w2 w3 w4 F [r] gs)) l = true → clE w0 w1 w2 w3 w4 F gs r l = 0) := Lib.hid (fun h => clE_4 HE.out Hr.out h)
  go_wp2_with (first
    | (go_at_call 99; refine (validLook_any _ _ _ l _ HI.out).mono ?_; rintro e x2 ⟨rfl, rfl⟩; rw [Hr.out])
    | (go_at_call 93; refine (possibleRows_any _ _ _ _ _ _ _ _ _ gs r _ HG.out (okB_ok Ob.out) h40).mono ?_; rintro e U0 ⟨v, rfl, hown, hb1⟩; have HU0 := Lib.hid hb1; clear hb1; obtain ⟨B1, c1, rfl, hcp, hrs⟩ := Rs.of_own hown; have HR0 := Lib.hid hrs; clear hrs hown)
    | fail)
  refine (settle_any _ _ _ _ _ _ _ l _ HR0.out hcp (HI.out.keep HU0.out) Hin.out).mono ?_
  rintro e U1 ⟨rfl, hb2⟩
  have HB := Lib.hid (up HW.out (up HV.out (up HU0.out hb2)))
  clear hb2
  cases hs : settleB (rowsOf w0 w1 w2 w3 w4 (possG w0 w1 w2 w3 w4 F [r] gs)) l
  · have Hs := Lib.hid hs
    clear hs
    go_wp2
    go_ret
    exact ⟨congrArg (fun v => Ending.returned (Value.int .i64 v)) (Hs2.out Hs.out).symm, HB.out⟩
  · have Hs := Lib.hid hs
    clear hs
    go_wp2
    go_ret
    exact ⟨congrArg (fun v => Ending.returned (Value.int .i64 v)) (Hs3.out Hs.out).symm, HB.out⟩

theorem refCheckLook_any (w0 w1 w2 w3 w4 F : Int) (A : Option Addr) (n c : Nat) (gs : List Giv) (r : Rd) (B : Option Addr) (n' c' : Nat) (l : List Int) (w : World) (hg : Gs w A n gs) (hl : Is w B n' l) :
    Calls Try.prog 53 #[.agg #[.int .i64 w0, .int .i64 w1, .int .i64 w2, .int .i64 w3, .int .i64 w4, .int .i64 F, .slice A n c], .agg #[.int .i64 r.r0, .int .i64 r.r1, .int .i64 r.r2, .int .i64 r.r3, .int .i64 r.r4, .int .i64 r.r5], .slice B n' c'] w fun e w' => e = .returned (.int .i64 (clE w0 w1 w2 w3 w4 F gs r l)) ∧ Below w.heap.size w w' := by
  go_enter Try.func53, Try.ntmps53
  go_wp2_with fail
  generalize hW : (World.alloc _ _) = W
  have HW : Hid (Below w.heap.size w W) := Lib.hid (by subst hW; go_grown)
  have KM : Bk W w.heap.size [.int .i64 w0, .int .i64 w1, .int .i64 w2, .int .i64 w3, .int .i64 w4, .int .i64 F, .slice A n c] := ⟨by subst hW; simp only [World.size_alloc]; omega, by subst hW; intro j; simp [go_sem]⟩
  have KR : Bk W (w.heap.size + 1) [.int .i64 r.r0, .int .i64 r.r1, .int .i64 r.r2, .int .i64 r.r3, .int .i64 r.r4, .int .i64 r.r5] := ⟨by subst hW; simp only [World.size_alloc]; omega, by subst hW; intro j; simp [go_sem]⟩
  clear hW
  have HG := Lib.hid (hg.keep HW.out)
  have HI := Lib.hid (hl.keep HW.out)
  refine (refOwners_any w0 w1 w2 w3 w4 F A n c gs r W HG.out).mono ?_
  rintro e V ⟨v, rfl, _, hb⟩
  replace HG := Lib.hid (HG.out.keep hb)
  replace HI := Lib.hid (HI.out.keep hb)
  replace KM := KM.keep hb; replace KR := KR.keep hb
  have HV := Lib.hid hb
  clear hb
  have KMl := KM.lt; have KMc := KM.get; have KRl := KR.lt; have KRc := KR.get
  by_cases hE : brE w0 w1 w2 w3 w4 F gs r = 0
  rotate_left
  · have HE := Lib.hid hE
    have hb : (brE w0 w1 w2 w3 w4 F gs r != 0) = true := by simpa using hE
    clear hE
    go_wp2
    go_ret
    exact ⟨congrArg (fun v => Ending.returned (Value.int .i64 v)) (clE_1 l HE.out).symm, up HW.out HV.out⟩
  have HE := Lib.hid hE
  have Ob := Lib.hid (brE_ok hE).1
  rw [hE]
  clear hE
  cases hr : riseB l (-1)
  · have Hr := Lib.hid hr
    clear hr
    go_wp2_with (go_at_call 101; refine (arePlaces_any _ _ _ l _ HI.out).mono ?_; rintro e x2 ⟨rfl, hb2⟩; rw [Hr.out])
    go_ret
    exact ⟨congrArg (fun v => Ending.returned (Value.int .i64 v)) (clE_2 HE.out Hr.out).symm, up HW.out (up HV.out hb2)⟩
  have Hr := Lib.hid hr
  have Hin := Lib.hid (riseB_in l (-1) (by omega) hr)
  clear hr
  have Hs2 : Hid (settleB (rowsOf w0 w1 w2 w3 w4 (possG w0 w1 w2 w3 w4 F [r] gs)) l = false → clE w0 w1 w2 w3 w4 F gs r l = 18) := Lib.hid (fun h => clE_3 HE.out Hr.out h)
  have Hs3 : Hid (settleB (rowsOf w0 w1 w2 w3 w4 (possG w0 w1 w2 w3 w4 F [r] gs)) l = true → clE w0 w1 w2 w3 w4 F gs r l = 0) := Lib.hid (fun h => clE_4 HE.out Hr.out h)
  go_wp2_with fail
  refine (arePlaces_any _ _ _ l _ HI.out).mono ?_
  rintro e x2 ⟨rfl, hb2⟩
  rw [Hr.out]
  replace HG := Lib.hid (HG.out.keep hb2)
  replace HI := Lib.hid (HI.out.keep hb2)
  clear KMl KMc KRl KRc; replace KM := KM.keep hb2; have KMl := KM.lt; have KMc := KM.get; replace KR := KR.keep hb2; have KRl := KR.lt; have KRc := KR.get; have HB2 := Lib.hid hb2; clear hb2
  go_wp2_with fail
  refine (settles_any w0 w1 w2 w3 w4 F A n c gs r B n' c' l _ HG.out Ob.out HI.out Hin.out).mono ?_
  rintro e U1 ⟨rfl, hb3⟩
  have HB := Lib.hid (up HW.out (up HV.out (up HB2.out hb3)))
  clear hb3
  cases hs : settleB (rowsOf w0 w1 w2 w3 w4 (possG w0 w1 w2 w3 w4 F [r] gs)) l
  · have Hs := Lib.hid hs
    clear hs
    go_wp2
    go_ret
    exact ⟨congrArg (fun v => Ending.returned (Value.int .i64 v)) (Hs2.out Hs.out).symm, HB.out⟩
  · have Hs := Lib.hid hs
    clear hs
    go_wp2
    go_ret
    exact ⟨congrArg (fun v => Ending.returned (Value.int .i64 v)) (Hs3.out Hs.out).symm, HB.out⟩
end Go.Proofs.Ytbieopkohkomoaa

namespace Go.Proofs.Ytbieopkohkomoaa
open Go Go.RowKit
set_option maxHeartbeats 400000
set_option maxRecDepth 100000

theorem ownG_take (w0 w1 w2 w3 w4 : Int) (s : Rd) (l : List Int) (P : List Giv) (k : Nat) (hk : k < P.length) : keepG w0 w1 w2 w3 w4 s l (P.take (k + 1)) = if meetAll (rowOf w0 w1 w2 w3 w4 P[k]) s l = true then keepG w0 w1 w2 w3 w4 s l (P.take k) ++ [P[k]] else keepG w0 w1 w2 w3 w4 s l (P.take k) := by
  rw [List.take_succ_eq_append_getElem hk]
  cases h : meetAll (rowOf w0 w1 w2 w3 w4 P[k]) s l
  · rw [keepG_no h]; simp
  · rw [keepG_yes h]; simp

set_option maxHeartbeats 1600000 in
theorem refLooked_any (w0 w1 w2 w3 w4 F : Int) (A : Option Addr) (n c : Nat) (gs : List Giv) (r s : Rd) (B : Option Addr) (n' c' : Nat) (l : List Int) (w : World) (hg : Gs w A n gs) (hl : Is w B n' l) :
    Calls Try.prog 51 #[.agg #[.int .i64 w0, .int .i64 w1, .int .i64 w2, .int .i64 w3, .int .i64 w4, .int .i64 F, .slice A n c], .agg #[.int .i64 r.r0, .int .i64 r.r1, .int .i64 r.r2, .int .i64 r.r3, .int .i64 r.r4, .int .i64 r.r5, .int .i64 s.r0, .int .i64 s.r1, .int .i64 s.r2, .int .i64 s.r3, .int .i64 s.r4, .int .i64 s.r5, .slice B n' c']] w fun e w' =>
      ∃ v, e = .returned (.tuple #[v, .int .i64 (lookE w0 w1 w2 w3 w4 F gs r s l)]) ∧ w'.ownsRow w.heap.size 3 1 v (lookG w0 w1 w2 w3 w4 F gs r s l).length (ints (own (lookG w0 w1 w2 w3 w4 F gs r s l))) ∧ Below w.heap.size w w' := by
  have hn' := hl.small
  have Hl : Hid (n = gs.length) := Lib.hid hg.len
  have Hl' : Hid (n' = l.length) := Lib.hid hl.len
  obtain ⟨i0, hi, hz0, hz1, hz2⟩ := info_parts info3
  have HI0 := Lib.hid hi
  have HZ0 := Lib.hid hz0
  have HZ1 := Lib.hid hz1
  have HZ2 := Lib.hid hz2
  clear hi hz0 hz1 hz2
  go_enter Try.func51, Try.ntmps51
  go_wp2_with fail
  generalize hW : (World.alloc _ _) = W
  have HW : Hid (Below w.heap.size w W) := Lib.hid (by subst hW; go_grown)
  have KM : Bk W w.heap.size [.int .i64 w0, .int .i64 w1, .int .i64 w2, .int .i64 w3, .int .i64 w4, .int .i64 F, .slice A n c] := ⟨by subst hW; simp only [World.size_alloc]; omega, by subst hW; intro j; simp [go_sem]⟩
  have KS : Bk W (w.heap.size + 1) [.int .i64 r.r0, .int .i64 r.r1, .int .i64 r.r2, .int .i64 r.r3, .int .i64 r.r4, .int .i64 r.r5, .int .i64 s.r0, .int .i64 s.r1, .int .i64 s.r2, .int .i64 s.r3, .int .i64 s.r4, .int .i64 s.r5, .slice B n' c'] := ⟨by subst hW; simp only [World.size_alloc]; omega, by subst hW; intro j; simp [go_sem]⟩
  clear hW
  have HG := Lib.hid (hg.keep HW.out)
  have HI := Lib.hid (hl.keep HW.out)
  clear hg hl
  have HlE : Hid (lookE3 w0 w1 w2 w3 w4 F gs r s = if brE w0 w1 w2 w3 w4 F gs r = 0 then err s.ok 12 else brE w0 w1 w2 w3 w4 F gs r) := Lib.hid (by
    unfold lookE3 brE
    rw [firstE_cons, firstE_cons, firstE_cons, firstE_cons, firstE_cons]
    by_cases h1 : err (okB w0 w1 w2 w3 w4 F gs) 13 = 0
    · rw [if_pos h1, if_pos h1]
      by_cases h2 : err r.ok 12 = 0
      · rw [if_pos h2, if_pos h2]
        by_cases h3 : err s.ok 12 = 0
        · rw [if_pos h3, h3]; rfl
        · rw [if_neg h3]; rfl
      · rw [if_neg h2, if_neg h2, if_neg h2]
    · rw [if_neg h1, if_neg h1, if_neg h1])
  refine (refOwners_any w0 w1 w2 w3 w4 F A n c gs r W HG.out).mono ?_
  rintro e V ⟨v, rfl, hown, hb⟩
  replace HG := Lib.hid (HG.out.keep hb)
  replace HI := Lib.hid (HI.out.keep hb)
  replace KM := KM.keep hb; replace KS := KS.keep hb
  have HV := Lib.hid hb
  clear hb
  have KMl := KM.lt; have KMc := KM.get; have KSl := KS.lt; have KSc := KS.get
  by_cases hE : brE w0 w1 w2 w3 w4 F gs r = 0
  rotate_left
  · have HE := Lib.hid hE
    have hb : (brE w0 w1 w2 w3 w4 F gs r != 0) = true := by simpa using hE
    have Hx : Hid (lookE w0 w1 w2 w3 w4 F gs r s l = brE w0 w1 w2 w3 w4 F gs r) := Lib.hid (by
      have e3 := HlE.out
      rw [if_neg hE] at e3
      unfold lookE
      rw [e3, if_neg hE])
    clear hE hown
    go_wp2
    go_ret2
    refine ⟨_, by rw [Hx.out]; rfl, ?_, up HW.out HV.out⟩
    unfold lookG; rw [Hx.out, if_neg HE.out]; exact World.ownsRow_nil _ _ _ _
  have HE := Lib.hid hE
  have Ob := Lib.hid (brE_ok hE).1
  have Hbr : Hid (brG w0 w1 w2 w3 w4 F gs r = possG w0 w1 w2 w3 w4 F [r] gs) := Lib.hid (by unfold brG; rw [if_pos hE])
  rw [Hbr.out] at hown
  rw [hE]
  obtain ⟨A2, c2, rfl, _, hi2⟩ := Is.of_own hown
  have HO := Lib.hid hi2
  have H3 : Hid (lookE3 w0 w1 w2 w3 w4 F gs r s = err s.ok 12) := Lib.hid (by have e3 := HlE.out; rwa [if_pos hE] at e3)
  clear hE hown hi2 Hbr
  have h40 : n ≤ 40 := by have := Hl.out; have := okB_40 Ob.out; omega
  cases hs : s.ok
  · have Hs := Lib.hid hs
    have Hx : Hid (lookE w0 w1 w2 w3 w4 F gs r s l = 12) := Lib.hid (by
      unfold lookE
      rw [H3.out, err_f (b := s.ok) 12 (by simp [hs]), if_neg (by decide)])
    clear hs
    go_wp2_with (go_at_call 19; refine (refCheckReading_no _ _ _ _ _ _ _ Hs.out).mono ?_; rintro e x2 ⟨rfl, hb2⟩)
    go_ret2
    refine ⟨_, by rw [Hx.out]; rfl, ?_, up HW.out (up HV.out hb2)⟩
    unfold lookG; rw [Hx.out, if_neg (by decide)]; exact World.ownsRow_nil _ _ _ _
  have Hs := Lib.hid hs
  have H0 : Hid (lookE3 w0 w1 w2 w3 w4 F gs r s = 0) := Lib.hid (by rw [H3.out, err_t (b := s.ok) 12 hs])
  clear hs
  go_wp2_with fail
  refine (refCheckReading_yes _ _ _ _ _ _ _ Hs.out).mono ?_
  rintro e x2 ⟨rfl, hb2⟩
  replace HG := Lib.hid (HG.out.keep hb2)
  replace HI := Lib.hid (HI.out.keep hb2)
  replace HO := Lib.hid (HO.out.keep hb2)
  clear KMl KMc KSl KSc; replace KM := KM.keep hb2; have KMl := KM.lt; have KMc := KM.get; replace KS := KS.keep hb2; have KSl := KS.lt; have KSc := KS.get; have HB2 := Lib.hid hb2; clear hb2
  cases hr : riseB l (-1)
  · have Hr := Lib.hid hr
    clear hr
    go_wp2_with (go_at_call 101; refine (arePlaces_any _ _ _ l _ HI.out).mono ?_; rintro e x3 ⟨rfl, hb3⟩; rw [Hr.out])
    go_ret2
    refine ⟨_, by rw [lookE_18 H0.out Hr.out]; rfl, ?_, up HW.out (up HV.out (up HB2.out hb3))⟩
    unfold lookG; rw [lookE_18 H0.out Hr.out]; exact World.ownsRow_nil _ _ _ _
  have Hr := Lib.hid hr
  have Hin := Lib.hid (riseB_in l (-1) (by omega) hr)
  clear hr
  go_wp2_with fail
  refine (arePlaces_any _ _ _ l _ HI.out).mono ?_
  rintro e U ⟨rfl, hb3⟩
  rw [Hr.out]
  replace HG := Lib.hid (HG.out.keep hb3)
  replace HI := Lib.hid (HI.out.keep hb3)
  replace HO := Lib.hid (HO.out.keep hb3)
  clear KMl KMc KSl KSc; replace KM := KM.keep hb3; have KMl := KM.lt; have KMc := KM.get; replace KS := KS.keep hb3; have KSl := KS.lt; have KSc := KS.get; have HB3 := Lib.hid hb3; clear hb3
  have HBA := Lib.hid (up HW.out (up HV.out (up HB2.out HB3.out)))
  clear HV HB2 HB3
  have hpl : (possG w0 w1 w2 w3 w4 F [r] gs).length ≤ 40 := Nat.le_trans (possG_len w0 w1 w2 w3 w4 F [r] gs) (okB_40 Ob.out)
  have HSub : Hid (∀ g ∈ possG w0 w1 w2 w3 w4 F [r] gs, g ∈ gs) := Lib.hid (possG_sub)
  have HLG : Hid (lookG w0 w1 w2 w3 w4 F gs r s l = keepG w0 w1 w2 w3 w4 s l (possG w0 w1 w2 w3 w4 F [r] gs)) := Lib.hid (by unfold lookG; rw [lookE_0 H0.out Hr.out, if_pos rfl])
  have HLE := Lib.hid (lookE_0 H0.out Hr.out)
  generalize hP : possG w0 w1 w2 w3 w4 F [r] gs = P at *
  clear hP
  generalize hm : P.length = m at *
  have Hm := Lib.hid hm
  clear hm
  go_wp2
  go_loopw [8, 9] (fun v i wr => ∃ (k : Nat) (z : Gr), k ≤ m ∧ i = .int .i64 k ∧ wr = grow U z ∧ (grow U z).ownsRow U.heap.size 3 1 v (keepG w0 w1 w2 w3 w4 s l (P.take k)).length (ints (own (keepG w0 w1 w2 w3 w4 s l (P.take k))))) (fun _ i _ => m - (intOf i).toNat)
  case atStart => exact ⟨0, ⟨#[], U.drawn⟩, by omega, rfl, by simp [grow], World.ownsRow_nil _ _ _ _⟩
  case round =>
    obtain ⟨k, z, hk, rfl, rfl, hown⟩ := hrel
    have Hown := Lib.hid hown; clear hown
    have hklen : (keepG w0 w1 w2 w3 w4 s l (P.take k)).length ≤ 40 := Nat.le_trans (keepG_len w0 w1 w2 w3 w4 s l (P.take k)) (by simp; omega)
    by_cases hlt : k < m
    rotate_left
    · obtain rfl : k = m := by omega
      have Hf : Hid (keepG w0 w1 w2 w3 w4 s l (P.take k) = keepG w0 w1 w2 w3 w4 s l P) := Lib.hid (by rw [List.take_of_length_le (by rw [Hm.out]; exact Nat.le_refl _)])
      go_wp2
      go_ret2
      refine ⟨_, by rw [HLE.out]; rfl, ?_, up HBA.out (grow_below U z)⟩
      rw [HLG.out, ← Hf.out]
      exact own_mono Hown.out HBA.out.size
    have hkP : k < P.length := by rw [Hm.out]; exact hlt
    have Htk := Lib.hid (ownG_take w0 w1 w2 w3 w4 s l P k hkP)
    have hmem := HSub.out _ (List.getElem_mem hkP)
    obtain ⟨ja, hja, hpa, hga⟩ := found_at Ob.out hmem
    have Hoka := Lib.hid (okB_ok Ob.out _ hmem)
    have hown_a : (own P)[k]'(by simpa [own] using hkP) = P[k].o := by simp [own]
    obtain ⟨b2, o2, rfl, hb2, hc2⟩ := HO.out.get k (by simpa [own] using hkP)
    rw [hown_a] at hc2
    clear hown_a hmem
    generalize P[k] = a at *
    have Hpa := Lib.hid hpa
    clear hpa
    obtain ⟨bg, og, rfl, hbg, hga2⟩ := HG.out.get ja hja
    rw [hga] at hga2
    obtain ⟨a0', a1', a2', a3', a4', a5', a6'⟩ := hga2
    clear hga
    have hjan : ja < n := by rw [Hl.out]; exact hja
    generalize hX : keepG w0 w1 w2 w3 w4 s l (P.take k) = Xk at *
    have HX := Lib.hid hX
    clear hX
    generalize hnX : Xk.length = nX at *
    have HnX := Lib.hid hnX
    clear hnX
    have e2 : b2 < U.heap.size + z.blocks.size := by omega
    have e1 : w.heap.size < U.heap.size + z.blocks.size := by omega
    have HbY := Lib.hid (grow_below U z)
    go_wp2
    refine wp_region_alloc 12 11 10 (.cells #[.int .i64 0, .int .i64 0, .int .i64 0, .int .i64 0, .int .i64 0, .int .i64 0] 28) (by kernel_rfl) rfl (fun N => by kernel_rfl) (by decide) (fun a w => by simp [execOp, Act.eval, go_sem]) (by kernel_rfl) ?_
    apply Exists.intro
    refine ⟨fun b N hbN => ?_, fun N => ?_, fun W9 N hW9 hN9 hblk => ?_⟩
    · have hbV := up HbY.out hbN
      have KMb := KM.keep hbV
      have KMbl := KMb.lt
      have KMbc := KMb.get
      have e1b : w.heap.size < b.heap.size := KMb.lt
      have e2b : b2 < b.heap.size := by have := hbV.size; omega
      have e5b : bg < b.heap.size := by have := hbV.size; omega
      have u3 := (hbV.cell (p := ⟨b2, o2 + k, none⟩) hb2).trans hc2
      have u4 := (hbV.cell (p := ⟨bg, og + ja * 7 + 1, none⟩) hbg).trans a1'
      have u5 := (hbV.cell (p := ⟨bg, og + ja * 7 + 2, none⟩) hbg).trans a2'
      have u6 := (hbV.cell (p := ⟨bg, og + ja * 7 + 3, none⟩) hbg).trans a3'
      have u7 := (hbV.cell (p := ⟨bg, og + ja * 7 + 4, none⟩) hbg).trans a4'
      have u8 := (hbV.cell (p := ⟨bg, og + ja * 7 + 5, none⟩) hbg).trans a5'
      have u9 := (hbV.cell (p := ⟨bg, og + ja * 7 + 6, none⟩) hbg).trans a6'
      have HGb := Lib.hid (HG.out.keep hbV)
      simp only [List.set_cons_succ, List.set_cons_zero, ptrOp, List.take_succ_cons, List.take_zero]
      repeat (go_big_quiet_step ((go_at_call 66; exact quiet_grow rfl (refIndex_at _ _ _ gs _ (HGb.out.keep (grow_below _ _)) ja Hpa.out))))
      refine wpQuiet_nil ?_
      rfl
    · rfl
    simp only [List.drop_succ_cons, List.drop_zero]
    obtain ⟨n1, n2, n3⟩ := made6 hblk
    go_wp2
    have KA := put6_bk hblk (.int .i64 a.m0) (.int .i64 a.m1) (.int .i64 a.m2) (.int .i64 a.m3) (.int .i64 a.m4) (.int .i64 a.m5)
    have hbX := put6_below hW9 hN9 (.int .i64 a.m0) (.int .i64 a.m1) (.int .i64 a.m2) (.int .i64 a.m3) (.int .i64 a.m4) (.int .i64 a.m5)
    generalize World.setCell _ ⟨N, 5, none⟩ _ = X at KA hbX ⊢
    have HbX := Lib.hid (up HbY.out hbX)
    have HOX := Lib.hid (own_below Hown.out hbX)
    have KMX := KM.keep HbX.out
    have KSX := KS.keep HbX.out
    have HIX := Lib.hid (HI.out.keep HbX.out)
    have hc2X := (HbX.out.cell (p := ⟨b2, o2 + k, none⟩) hb2).trans hc2
    have hb2X : b2 < X.heap.size := by have := HbX.out.size; omega
    clear n1 n2 n3 hblk hW9 hN9 hbX e1 e2 hc2
    have HWT : Hid (∀ s : Int, 0 ≤ s → s < 5 → [Value.int .i64 w0, .int .i64 w1, .int .i64 w2, .int .i64 w3, .int .i64 w4, .int .i64 F, .slice (some ⟨bg, og, none⟩) n c][s.toNat]? = some (.int .i64 (g5 w0 w1 w2 w3 w4 s))) := Lib.hid (fun s h0 h1 => by
      rcases (by omega : s = 0 ∨ s = 1 ∨ s = 2 ∨ s = 3 ∨ s = 4) with rfl | rfl | rfl | rfl | rfl <;> rfl)
    have HST : Hid (∀ i : Int, 0 ≤ i → i < 6 → [Value.int .i64 r.r0, .int .i64 r.r1, .int .i64 r.r2, .int .i64 r.r3, .int .i64 r.r4, .int .i64 r.r5, .int .i64 s.r0, .int .i64 s.r1, .int .i64 s.r2, .int .i64 s.r3, .int .i64 s.r4, .int .i64 s.r5, .slice B n' c'][6 + i.toNat]? = some (.int .i64 (g6 s.r0 s.r1 s.r2 s.r3 s.r4 s.r5 i))) := Lib.hid (fun i h0 h1 => by
      rcases (by omega : i = 0 ∨ i = 1 ∨ i = 2 ∨ i = 3 ∨ i = 4 ∨ i = 5) with rfl | rfl | rfl | rfl | rfl | rfl <;> rfl)
    have l1 := KA.lt
    have l2 := KSX.lt
    have l3 := KMX.lt
    have cB : X.cell? ⟨w.heap.size + 1, 12, none⟩ = some (.slice B n' c') := KSX.get 12
    go_loopw [11, 12] (fun t i wr => ∃ (u : Nat) (x : Gr) (p : Bool), u ≤ n' ∧ i = .int .i64 u ∧ t = .bool p ∧ wr = grow X x ∧ meetAll (rowOf w0 w1 w2 w3 w4 a) s (l.take u) = p) (fun _ i _ => n' - (intOf i).toNat)
    case atStart => exact ⟨0, ⟨#[], X.drawn⟩, true, by omega, rfl, rfl, by simp [grow], rfl⟩
    case round =>
      obtain ⟨u, x, pb, hu, rfl, rfl, rfl, hpb⟩ := hrel
      have Hpb := Lib.hid hpb
      clear hpb
      have l4 : N < X.heap.size + x.blocks.size := by omega
      have l5 : w.heap.size + 1 < X.heap.size + x.blocks.size := by omega
      have l6 : w.heap.size < X.heap.size + x.blocks.size := by omega
      have l8 : b2 < X.heap.size + x.blocks.size := by omega
      by_cases hlt3 : u < n'
      · have hul : u < l.length := by rw [← Hl'.out]; exact hlt3
        have Htu : Hid (l.take (u + 1) = l.take u ++ [l[u]]) := Lib.hid (List.take_succ_eq_append_getElem hul)
        obtain ⟨hx0, hx6⟩ := Hin.out _ (List.getElem_mem hul)
        obtain ⟨b4, o4, rfl, hb4, hc4⟩ := HIX.out.get u hul
        generalize l[u] = p at *
        have l7 : b4 < X.heap.size + x.blocks.size := by omega
        obtain ⟨sa0, sa5⟩ := g6_bd ((okM_iff _ _ _ _ _ _).2 Hoka.out) hx0 hx6
        have ca : X.cell? ⟨N, p.toNat, none⟩ = some (.int .i64 (g6 a.m0 a.m1 a.m2 a.m3 a.m4 a.m5 p)) := (KA.get _).trans (at6 _ _ _ _ _ _ p hx0 hx6)
        have cs : X.cell? ⟨w.heap.size + 1, 6 + p.toNat, none⟩ = some (.int .i64 (g6 s.r0 s.r1 s.r2 s.r3 s.r4 s.r5 p)) := (KSX.get _).trans (HST.out p hx0 hx6)
        have HmB : Hid (meetB (rowOf w0 w1 w2 w3 w4 a) s p = (band (g5 w0 w1 w2 w3 w4 (g6 a.m0 a.m1 a.m2 a.m3 a.m4 a.m5 p)) (g6 s.r0 s.r1 s.r2 s.r3 s.r4 s.r5 p) != 0)) := Lib.hid (by
          unfold meetB rowOf; dsimp only; rw [g6_map (g5 w0 w1 w2 w3 w4)])
        generalize g6 a.m0 a.m1 a.m2 a.m3 a.m4 a.m5 p = sa at *
        generalize g6 s.r0 s.r1 s.r2 s.r3 s.r4 s.r5 p = ys at *
        have cw : X.cell? ⟨w.heap.size, sa.toNat, none⟩ = some (.int .i64 (g5 w0 w1 w2 w3 w4 sa)) := (KMX.get _).trans (HWT.out sa sa0 sa5)
        generalize g5 w0 w1 w2 w3 w4 sa = ya at *
        cases pb
        · go_wp2
          refine wp_region_grow (by kernel_rfl) (by kernel_rfl) ?_
          repeat (go_big_quiet_step ((fail)))
          refine wpQuiet_nil ?_
          intro x1
          obtain ⟨x2, hx2⟩ := grow_grow X x x1
          rw [hx2]
          clear hx2
          go_wp2
          refine ⟨⟨u + 1, x2, false, by omega, by go_num, rfl, rfl, ?_⟩, by simp [intOf]; omega⟩
          rw [Htu.out, meetAll_snoc, Hpb.out]; rfl
        · cases hz : (band ya ys != 0)
          all_goals
            have Hz := Lib.hid hz
            have hz2 : (bits BinOp.and IntKind.i64 ya ys != 0) = _ := hz
            clear hz
            go_wp2
            refine wp_region_grow (by kernel_rfl) (by kernel_rfl) ?_
            repeat (go_big_quiet_step ((fail)))
            refine wpQuiet_nil ?_
            intro x1
            obtain ⟨x2, hx2⟩ := grow_grow X x x1
            rw [hx2]
            clear hx2
            go_wp2
            refine ⟨⟨u + 1, x2, _, by omega, by go_num, rfl, rfl, ?_⟩, by simp [intOf]; omega⟩
            rw [Htu.out, meetAll_snoc, Hpb.out, HmB.out, Hz.out]; rfl
      · obtain rfl : u = n' := by omega
        have Hfull : Hid (meetAll (rowOf w0 w1 w2 w3 w4 a) s l = pb) := Lib.hid (by
          have := Hpb.out
          rwa [List.take_of_length_le (by rw [← Hl'.out]; exact Nat.le_refl _)] at this)
        have Ho : Hid ((grow X x).ownsRow U.heap.size 3 1 _ nX (ints (own Xk))) := Lib.hid (own_below HOX.out (grow_below X x))
        cases pb
        · go_wp2
          obtain ⟨y2, hy2⟩ := below_grow (up HbX.out (grow_below X x))
          refine ⟨⟨k + 1, y2, by omega, by go_num, hy2, ?_⟩, by simp [intOf]; omega⟩
          rw [← hy2, Htk.out, if_neg (by simp [Hfull.out]), HnX.out]
          exact Ho.out
        · go_wp2_with (at_builtin; refine wpList_append_own _ rfl _ _ 54 rfl U.heap.size 3 i0 (.int .i64 0) 1 8 Try.underlying54 HI0.out HZ0.out HZ1.out HZ2.out rfl (by decide) _ _ _ rfl (Ho.out.alloc _) ⟨X.heap.size + x.blocks.size, 0, none⟩ 1 1 [.int .i64 a.o] rfl rfl ?c1 ?c2 ?c3 ?c4 ?c5 ?_)
          case c1 =>
            intro j u hu
            rw [Addr.add_lit, World.cell?_alloc_at _ _ _ _ (by simp), Nat.zero_add]
            simpa using hu
          case c2 => intro u hu; simp at hu; subst hu; rfl
          case c3 => unfold maxLen; omega
          case c4 => omega
          case c5 => have := HbX.out.size; simp; omega
          intro v' w' hown' hgr _
          have hbel : Below U.heap.size U w' := (up HbX.out (up (grow_below X x) (up_alloc _ _))).grown hgr (by have := HbX.out.size; simp; omega) (fun q hq => (Ho.out.lt q hq).1)
          have Hown' := Lib.hid hown'
          clear hown' hgr
          obtain ⟨y2, rfl⟩ := below_grow hbel
          go_wp2
          refine ⟨⟨k + 1, y2, by omega, by go_num, rfl, ?_⟩, by simp [intOf]; omega⟩
          rw [Htk.out, if_pos Hfull.out, own_snoc, ints_snoc, List.length_append, HnX.out]
          exact Hown'.out
end Go.Proofs.Ytbieopkohkomoaa

namespace Go.Proofs.Ytbieopkohkomoaa
open Go Go.RowKit
set_option maxHeartbeats 400000
set_option maxRecDepth 100000

theorem ahead_any (A B : Option Addr) (n c n' c' : Nat) (l l' : List Int) (w : World) (hg : Is w A n l) (hg' : Is w B n' l') :
    Calls Try.prog 98 #[.slice A n c, .slice B n' c'] w fun e w' => e = .returned (.bool (aheadL l l')) ∧ Below w.heap.size w w' := by
  have hn := hg.small
  have hn' := hg'.small
  have Hl : Hid (n = l.length) := Lib.hid hg.len
  have Hl' : Hid (n' = l'.length) := Lib.hid hg'.len
  go_enter Try.func98, Try.ntmps98
  go_wp2
  go_loopw [5] (fun i wr => ∃ (k : Nat) (z : Gr), k ≤ n ∧ k ≤ n' ∧ i = .int .i64 k ∧ wr = grow w z ∧ aheadL (l.drop k) (l'.drop k) = aheadL l l') (fun i _ => n - (intOf i).toNat)
  case atStart => exact ⟨0, ⟨#[], w.drawn⟩, by omega, by omega, rfl, by simp [grow], rfl⟩
  case round =>
    obtain ⟨k, z, hk, hk', rfl, rfl, hp⟩ := hrel
    have Hp := Lib.hid hp
    clear hp
    by_cases h1 : k < n
    rotate_left
    · obtain rfl : k = n := by omega
      have Hres : Hid (aheadL l l' = decide (k < n')) := Lib.hid (by
        rw [← Hp.out, List.drop_of_length_le (by rw [← Hl.out]; exact Nat.le_refl _)]
        by_cases h2 : k < n'
        · rw [List.drop_eq_getElem_cons (by rw [← Hl'.out]; exact h2)]
          simp [aheadL, h2]
        · rw [List.drop_of_length_le (by rw [← Hl'.out]; omega)]
          simp [aheadL, h2])
      go_wp2
      go_ret
      refine ⟨congrArg (fun v => Ending.returned (Value.bool v)) ?_, grow_below w z⟩
      rw [Hres.out]
      all_goals first | rfl | (rw [Bool.eq_iff_iff]; simp)
    by_cases h2 : k < n'
    rotate_left
    · obtain rfl : k = n' := by omega
      have Hres : Hid (aheadL l l' = false) := Lib.hid (by
        rw [← Hp.out, show l'.drop k = [] from List.drop_of_length_le (by rw [← Hl'.out]; exact Nat.le_refl _), List.drop_eq_getElem_cons (by rw [← Hl.out]; exact h1)]
        rfl)
      have hnk : ¬ n < k := by omega
      go_wp2
      go_ret
      refine ⟨congrArg (fun v => Ending.returned (Value.bool v)) ?_, grow_below w z⟩
      rw [Hres.out]
      all_goals first | rfl | (simp; omega)
    have hkl : k < l.length := by rw [← Hl.out]; exact h1
    have hkl' : k < l'.length := by rw [← Hl'.out]; exact h2
    have Hstep : Hid (aheadL (l.drop k) (l'.drop k) = if l[k] = l'[k] then aheadL (l.drop (k + 1)) (l'.drop (k + 1)) else decide (l[k] < l'[k])) := Lib.hid (by
      rw [List.drop_eq_getElem_cons hkl, List.drop_eq_getElem_cons hkl']; rfl)
    obtain ⟨b, o, rfl, hb, hc⟩ := hg.get k hkl
    obtain ⟨b', o', rfl, hb', hc'⟩ := hg'.get k hkl'
    generalize l[k] = x at *
    generalize l'[k] = y at *
    have e1 : b < w.heap.size + z.blocks.size := by omega
    have e2 : b' < w.heap.size + z.blocks.size := by omega
    by_cases hxy : x = y
    · have hbb : (x == y) = true := by simpa using hxy
      have hbn : (x != y) = false := by simpa using hxy
      have Hxy := Lib.hid hxy
      clear hxy
      go_wp2
      refine wp_region_grow (by kernel_rfl) (by kernel_rfl) ?_
      repeat (go_big_quiet_step ((fail)))
      refine wpQuiet_nil ?_
      intro z1
      obtain ⟨y1, hy1⟩ := grow_grow w z z1
      rw [hy1]
      clear hy1
      go_wp2
      refine ⟨⟨k + 1, y1, by omega, by omega, by go_num, rfl, ?_⟩, by simp [intOf]; omega⟩
      rw [← Hp.out, Hstep.out, if_pos Hxy.out]
    · have hbb : (x == y) = false := by simpa using hxy
      have hbn : (x != y) = true := by simpa using hxy
      have Hxy := Lib.hid hxy
      clear hxy
      go_wp2
      refine wp_region_grow (by kernel_rfl) (by kernel_rfl) ?_
      repeat (go_big_quiet_step ((fail)))
      refine wpQuiet_nil ?_
      intro z1
      obtain ⟨y1, hy1⟩ := grow_grow w z z1
      rw [hy1]
      clear hy1
      have f1 : b < w.heap.size + y1.blocks.size := by omega
      have f2 : b' < w.heap.size + y1.blocks.size := by omega
      go_wp2
      refine wp_region_grow (by kernel_rfl) (by kernel_rfl) ?_
      repeat (go_big_quiet_step ((fail)))
      refine wpQuiet_nil ?_
      intro z2
      obtain ⟨y2, hy2⟩ := grow_grow w y1 z2
      rw [hy2]
      clear hy2
      go_wp2
      go_ret
      refine ⟨congrArg (fun v => Ending.returned (Value.bool v)) ?_, grow_below w y2⟩
      rw [← Hp.out, Hstep.out, if_neg Hxy.out]

theorem chK_in (a : Int) (k : Nat) : ∀ x ∈ chK a k, 0 ≤ x ∧ x < k := by
  induction k with
  | zero => intro x hx; simp [chK] at hx
  | succ k ih =>
    intro x hx
    unfold chK at hx
    split at hx
    · rcases List.mem_append.1 hx with h | h
      · have := ih x h; omega
      · simp at h; omega
    · have := ih x hx; omega

/-- What the best so far looks like in memory. -/
def BestAt (w : World) (v : Value) (f : Bool) : Option (List Int) → Prop
  | none => v = .slice none 0 0 ∧ f = false
  | some b => f = true ∧ ∃ A n c, v = .slice A n c ∧ n ≤ c ∧ Is w A n b
theorem BestAt.keep {w w' : World} {v : Value} {f : Bool} {o : Option (List Int)} (h : BestAt w v f o) (hb : Below w.heap.size w w') : BestAt w' v f o := by
  cases o with
  | none => exact h
  | some b =>
    obtain ⟨h1, A, n, c, h2, h3, h4⟩ := h
    exact ⟨h1, A, n, c, h2, h3, h4.keep hb⟩
theorem is_nil (w : World) : Is w none 0 [] := ⟨rfl, by omega, fun k hk => by simp at hk⟩
theorem lkK_step (P : List Int → Bool) (k : Nat) : lkK P (k + 1) = if P (chK k 6) = true then (match lkK P k with | none => some (chK k 6) | some b => if betL (chK k 6) b = true then some (chK k 6) else some b) else lkK P k := rfl

set_option maxHeartbeats 1600000 in
theorem refLook_any (w0 w1 w2 w3 w4 F : Int) (A : Option Addr) (n c : Nat) (gs : List Giv) (r : Rd) (w : World) (hg : Gs w A n gs) :
    Calls Try.prog 49 #[.agg #[.int .i64 w0, .int .i64 w1, .int .i64 w2, .int .i64 w3, .int .i64 w4, .int .i64 F, .slice A n c], .agg #[.int .i64 r.r0, .int .i64 r.r1, .int .i64 r.r2, .int .i64 r.r3, .int .i64 r.r4, .int .i64 r.r5]] w fun e w' =>
      ∃ B k c', e = .returned (.tuple #[.slice B k c', .int .i64 (brE w0 w1 w2 w3 w4 F gs r)]) ∧ Is w' B k (lookR w0 w1 w2 w3 w4 F gs r) ∧ Below w.heap.size w w' := by
  go_enter Try.func49, Try.ntmps49
  go_wp2_with fail
  generalize hW : (World.alloc _ _) = W
  have HW : Hid (Below w.heap.size w W) := Lib.hid (by subst hW; go_grown)
  have KM : Bk W w.heap.size [.int .i64 w0, .int .i64 w1, .int .i64 w2, .int .i64 w3, .int .i64 w4, .int .i64 F, .slice A n c] := ⟨by subst hW; simp only [World.size_alloc]; omega, by subst hW; intro j; simp [go_sem]⟩
  have KR : Bk W (w.heap.size + 1) [.int .i64 r.r0, .int .i64 r.r1, .int .i64 r.r2, .int .i64 r.r3, .int .i64 r.r4, .int .i64 r.r5] := ⟨by subst hW; simp only [World.size_alloc]; omega, by subst hW; intro j; simp [go_sem]⟩
  clear hW
  have HG := Lib.hid (hg.keep HW.out)
  clear hg
  refine (refOwners_any w0 w1 w2 w3 w4 F A n c gs r W HG.out).mono ?_
  rintro e V ⟨v, rfl, hown, hb⟩
  obtain ⟨A2, c2, rfl, _, _⟩ := Is.of_own hown
  clear hown
  replace HG := Lib.hid (HG.out.keep hb)
  replace KM := KM.keep hb; replace KR := KR.keep hb
  have HV := Lib.hid hb
  clear hb
  by_cases hE : brE w0 w1 w2 w3 w4 F gs r = 0
  rotate_left
  · have HE := Lib.hid hE
    have hb : (brE w0 w1 w2 w3 w4 F gs r != 0) = true := by simpa using hE
    clear hE
    go_wp2
    go_ret2
    refine ⟨none, 0, 0, rfl, ?_, up HW.out HV.out⟩
    unfold lookR; rw [if_neg HE.out]; exact is_nil V
  have HE := Lib.hid hE
  have Ob := Lib.hid (brE_ok hE).1
  obtain ⟨P, hP⟩ : ∃ P, settleB (rowsOf w0 w1 w2 w3 w4 (possG w0 w1 w2 w3 w4 F [r] gs)) = P := ⟨_, rfl⟩
  have HLR : Hid (lookR w0 w1 w2 w3 w4 F gs r = (lkK P 64).getD []) := Lib.hid (by unfold lookR lookL; rw [if_pos hE, hP, look_same])
  have HP := Lib.hid hP
  clear hP
  rw [hE]
  clear hE
  go_wp2
  go_loopw [8, 9, 10] (fun v f i wr => ∃ (k : Nat) (z : Gr) (g : Bool), k ≤ 64 ∧ i = .int .i64 k ∧ f = .bool g ∧ wr = grow V z ∧ BestAt (grow V z) v g (lkK P k)) (fun _ _ i _ => 64 - (intOf i).toNat)
  case atStart => exact ⟨0, ⟨#[], V.drawn⟩, false, by omega, rfl, rfl, by simp [grow], rfl, rfl⟩
  case round =>
    obtain ⟨k, z, g, hk, rfl, rfl, rfl, hbest⟩ := hrel
    have Hbest := Lib.hid hbest
    clear hbest
    have HGy := Lib.hid (HG.out.keep (grow_below V z))
    have Hlk := Lib.hid (lkK_step P k)
    generalize hO : lkK P k = O at *
    have HO := Lib.hid hO
    clear hO
    by_cases hlt : k < 64
    rotate_left
    · obtain rfl : k = 64 := by omega
      cases O with
      | none =>
        obtain ⟨rfl, rfl⟩ := Hbest.out
        go_wp2
        go_ret2
        refine ⟨none, 0, ⟨0, by rw [HE.out]; rfl⟩, ?_, up HW.out (up HV.out (grow_below V z))⟩
        rw [HLR.out, HO.out]; exact is_nil _
      | some b =>
        obtain ⟨rfl, A3, n3, c3, rfl, hnc3, hb3⟩ := Hbest.out
        have Hb3 := Lib.hid hb3
        clear hb3
        go_wp2
        go_ret2
        refine ⟨A3, n3, ⟨c3, by rw [HE.out]; rfl⟩, ?_, up HW.out (up HV.out (grow_below V z))⟩
        rw [HLR.out, HO.out]; exact Hb3.out
    have Hin := Lib.hid (chK_in (k : Int) 6)
    cases O with
    | none =>
      obtain ⟨rfl, rfl⟩ := Hbest.out
      clear Hbest
      go_wp2_with fail
      refine (chosen_any (k : Int) (grow V z)).mono ?_
      rintro e V1 ⟨v, rfl, hown, hb⟩
      obtain ⟨A4, c4, rfl, hn4, hi4⟩ := Is.of_own hown
      clear hown
      have hb1 := up (grow_below V z) hb
      clear hb
      obtain ⟨y, rfl⟩ := below_grow hb1
      have KM1 := KM.keep hb1
      have KR1 := KR.keep hb1
      have HG1 := Lib.hid (HG.out.keep hb1)
      have Hi4 := Lib.hid hi4
      have Hln : Hid ((chK (k : Int) 6).length = (chK (k : Int) 6).length) := Lib.hid rfl
      clear hi4 hb1
      generalize hX : chK (k : Int) 6 = X at *
      have HX := Lib.hid hX
      clear hX
      generalize hnX : X.length = nX at *
      have HnX := Lib.hid hnX
      clear hnX
      have KM1l := KM1.lt; have KM1c := KM1.get; have KR1l := KR1.lt; have KR1c := KR1.get
      go_wp2_with fail
      refine (settles_any w0 w1 w2 w3 w4 F A n c gs r A4 _ c4 X (grow V y) HG1.out Ob.out Hi4.out Hin.out).mono ?_
      rintro e V2 ⟨he, hb2⟩
      rw [HP.out] at he
      subst he
      clear KM1l KM1c KR1l KR1c
      replace Hi4 := Lib.hid (Hi4.out.keep hb2)
      replace hb2 := up (grow_below V y) hb2
      obtain ⟨y2, rfl⟩ := below_grow hb2
      clear hb2 KM1 KR1 HG1
      cases hp : P X
      · have Hst : Hid (lkK P (k + 1) = none) := Lib.hid (by rw [Hlk.out, hp]; simp)
        clear hp
        go_wp2_with fail
        refine ⟨⟨k + 1, y2, _, by omega, by go_num, rfl, rfl, ?_⟩, by simp [intOf]; omega⟩
        rw [Hst.out]
        exact ⟨rfl, rfl⟩
      have Hst : Hid (lkK P (k + 1) = some X) := Lib.hid (by rw [Hlk.out, hp]; simp)
      clear hp
      go_wp2_with fail
      refine ⟨⟨k + 1, y2, _, by omega, by go_num, rfl, rfl, ?_⟩, by simp [intOf]; omega⟩
      rw [Hst.out]
      exact ⟨rfl, A4, nX, c4, rfl, hn4, Hi4.out⟩
    | some b =>
      obtain ⟨rfl, A3, n3, c3, rfl, hnc3, hb3⟩ := Hbest.out
      have Hb3 := Lib.hid hb3
      have Hb3n : Hid (n3 = b.length) := Lib.hid hb3.len
      clear hb3
      clear Hbest
      go_wp2_with fail
      refine (chosen_any (k : Int) (grow V z)).mono ?_
      rintro e V1 ⟨v, rfl, hown, hb⟩
      obtain ⟨A4, c4, rfl, hn4, hi4⟩ := Is.of_own hown
      clear hown
      replace Hb3 := Lib.hid (Hb3.out.keep hb)
      have hb1 := up (grow_below V z) hb
      clear hb
      obtain ⟨y, rfl⟩ := below_grow hb1
      have KM1 := KM.keep hb1
      have KR1 := KR.keep hb1
      have HG1 := Lib.hid (HG.out.keep hb1)
      have Hi4 := Lib.hid hi4
      have Hln : Hid ((chK (k : Int) 6).length = (chK (k : Int) 6).length) := Lib.hid rfl
      clear hi4 hb1
      generalize hX : chK (k : Int) 6 = X at *
      have HX := Lib.hid hX
      clear hX
      generalize hnX : X.length = nX at *
      have HnX := Lib.hid hnX
      clear hnX
      have KM1l := KM1.lt; have KM1c := KM1.get; have KR1l := KR1.lt; have KR1c := KR1.get
      go_wp2_with fail
      refine (settles_any w0 w1 w2 w3 w4 F A n c gs r A4 _ c4 X (grow V y) HG1.out Ob.out Hi4.out Hin.out).mono ?_
      rintro e V2 ⟨he, hb2⟩
      rw [HP.out] at he
      subst he
      clear KM1l KM1c KR1l KR1c
      replace Hi4 := Lib.hid (Hi4.out.keep hb2)
      replace Hb3 := Lib.hid (Hb3.out.keep hb2)
      replace hb2 := up (grow_below V y) hb2
      obtain ⟨y2, rfl⟩ := below_grow hb2
      clear hb2 KM1 KR1 HG1
      cases hp : P X
      · have Hst : Hid (lkK P (k + 1) = some b) := Lib.hid (by rw [Hlk.out, hp]; simp)
        clear hp
        go_wp2_with fail
        refine ⟨⟨k + 1, y2, _, by omega, by go_num, rfl, rfl, ?_⟩, by simp [intOf]; omega⟩
        rw [Hst.out]
        exact ⟨rfl, A3, n3, c3, rfl, hnc3, Hb3.out⟩
      have Hst : Hid (lkK P (k + 1) = if betL X b = true then some X else some b) := Lib.hid (by rw [Hlk.out, hp, if_pos rfl])
      clear hp
      by_cases hlen : nX < n3
      · have Hlen := Lib.hid hlen
        go_wp2_with fail
        refine ⟨⟨k + 1, y2, _, by omega, by go_num, rfl, rfl, ?_⟩, by simp [intOf]; omega⟩
        rw [Hst.out, if_pos (by unfold betL; rw [HnX.out, ← Hb3n.out]; simp [Hlen.out])]
        exact ⟨rfl, A4, nX, c4, rfl, hn4, Hi4.out⟩
      by_cases heq : nX = n3
      rotate_left
      · have hbe : ((nX : Int) == (n3 : Int)) = false := by rw [beq_eq_false_iff_ne]; omega
        have Hlen := Lib.hid hlen
        have Heq := Lib.hid heq
        clear heq
        go_wp2_with fail
        refine ⟨⟨k + 1, y2, _, by omega, by go_num, rfl, rfl, ?_⟩, by simp [intOf]; omega⟩
        rw [Hst.out, if_neg (by unfold betL; rw [HnX.out, ← Hb3n.out]; simp [Hlen.out, Heq.out])]
        exact ⟨rfl, A3, n3, c3, rfl, hnc3, Hb3.out⟩
      subst heq
      have hbe : ((nX : Int) == (nX : Int)) = true := by simp
      have Hbet : Hid (betL X b = aheadL X b) := Lib.hid (by unfold betL; rw [HnX.out, ← Hb3n.out]; simp)
      go_wp2_with fail
      refine (ahead_any A4 A3 nX c4 nX c3 X b (grow V y2) Hi4.out Hb3.out).mono ?_
      rintro e V3 ⟨rfl, hb3⟩
      replace Hi4 := Lib.hid (Hi4.out.keep hb3)
      replace Hb3 := Lib.hid (Hb3.out.keep hb3)
      replace hb3 := up (grow_below V y2) hb3
      obtain ⟨y3, rfl⟩ := below_grow hb3
      clear hb3
      cases ha : aheadL X b
      · have Hst2 : Hid (lkK P (k + 1) = some b) := Lib.hid (by rw [Hst.out, Hbet.out, ha]; simp)
        clear ha
        go_wp2_with fail
        refine ⟨⟨k + 1, y3, _, by omega, by go_num, rfl, rfl, ?_⟩, by simp [intOf]; omega⟩
        rw [Hst2.out]
        exact ⟨rfl, A3, nX, c3, rfl, hnc3, Hb3.out⟩
      · have Hst2 : Hid (lkK P (k + 1) = some X) := Lib.hid (by rw [Hst.out, Hbet.out, ha]; simp)
        clear ha
        go_wp2_with fail
        refine ⟨⟨k + 1, y3, _, by omega, by go_num, rfl, rfl, ?_⟩, by simp [intOf]; omega⟩
        rw [Hst2.out]
        exact ⟨rfl, A4, nX, c4, rfl, hn4, Hi4.out⟩
end Go.Proofs.Ytbieopkohkomoaa

