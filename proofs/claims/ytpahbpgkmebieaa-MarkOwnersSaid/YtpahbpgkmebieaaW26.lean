/- The owners of several readings, both ways. Own text. -/
import Derived.Test.YtpahbpgkmebieaaW25
namespace Go.Proofs.Ytpahbpgkmebieaa
open Go.RowKit
set_option maxHeartbeats 400000
set_option maxRecDepth 100000

/-- The error of several readings; the marks that are possible for all. -/
def ofE (w0 w1 w2 w3 w4 F : Int) (gs : List Giv) (rs : List Rd) : Int := if okB w0 w1 w2 w3 w4 F gs = true then (if 60 < rs.length then 2 else if rs.all Rd.ok = true then 0 else 12) else 13
def ofG (w0 w1 w2 w3 w4 F : Int) (gs : List Giv) (rs : List Rd) : List Giv := if ofE w0 w1 w2 w3 w4 F gs rs = 0 then possG w0 w1 w2 w3 w4 F rs gs else []
theorem ofE_13 {w0 w1 w2 w3 w4 F : Int} {gs : List Giv} {rs : List Rd} (h : okB w0 w1 w2 w3 w4 F gs = false) : ofE w0 w1 w2 w3 w4 F gs rs = 13 := by unfold ofE; rw [if_neg (by simp [h])]
theorem ofE_2 {w0 w1 w2 w3 w4 F : Int} {gs : List Giv} {rs : List Rd} (h : okB w0 w1 w2 w3 w4 F gs = true) (h2 : 60 < rs.length) : ofE w0 w1 w2 w3 w4 F gs rs = 2 := by unfold ofE; rw [if_pos h, if_pos h2]
theorem ofE_12 {w0 w1 w2 w3 w4 F : Int} {gs : List Giv} {rs : List Rd} (h : okB w0 w1 w2 w3 w4 F gs = true) (h2 : ¬ 60 < rs.length) (h3 : rs.all Rd.ok = false) : ofE w0 w1 w2 w3 w4 F gs rs = 12 := by unfold ofE; rw [if_pos h, if_neg h2, if_neg (by simp [h3])]
theorem ofE_0 {w0 w1 w2 w3 w4 F : Int} {gs : List Giv} {rs : List Rd} (h : okB w0 w1 w2 w3 w4 F gs = true) (h2 : ¬ 60 < rs.length) (h3 : rs.all Rd.ok = true) : ofE w0 w1 w2 w3 w4 F gs rs = 0 := by unfold ofE; rw [if_pos h, if_neg h2, if_pos h3]
theorem all_no {rs : List Rd} {k : Nat} (hk : k < rs.length) (h : rs[k].ok = false) : rs.all Rd.ok = false := by
  rw [List.all_eq_false]; exact ⟨rs[k], List.getElem_mem hk, by rw [h]; simp⟩

theorem of_any' (w0 w1 w2 w3 w4 F : Int) (A : Option Addr) (n c : Nat) (gs : List Giv) (B : Option Addr) (n' c' : Nat) (rs : List Rd) (w : World) (hg : Gs w A n gs) (hnc : n ≤ c) (hr : Rs w B n' rs) :
    Calls Try.prog 36 #[.agg #[.int .i64 w0, .int .i64 w1, .int .i64 w2, .int .i64 w3, .int .i64 w4, .int .i64 F, .slice A n c], .slice B n' c'] w fun e w' =>
      ∃ v, e = .returned (.tuple #[v, .int .i64 (ofE w0 w1 w2 w3 w4 F gs rs)]) ∧ w'.ownsRow w.heap.size 3 1 v (ofG w0 w1 w2 w3 w4 F gs rs).length (ints (own (ofG w0 w1 w2 w3 w4 F gs rs))) ∧ Below w.heap.size w w' := by
  have hn' := hr.small
  have Hl : Hid (n = gs.length) := Lib.hid hg.len
  have Hr : Hid (n' = rs.length) := Lib.hid hr.len
  go_enter Try.func36, Try.ntmps36
  go_wp2_with fail
  generalize hW : (World.alloc _ _) = W
  have HW : Hid (Below w.heap.size w W) := Lib.hid (by subst hW; go_grown)
  have KM : Bk W w.heap.size [.int .i64 w0, .int .i64 w1, .int .i64 w2, .int .i64 w3, .int .i64 w4, .int .i64 F, .slice A n c] := ⟨by subst hW; simp only [World.size_alloc]; omega, by subst hW; intro j; simp [go_sem]⟩
  clear hW
  have KMl := KM.lt; have KMc := KM.get
  have HG := Lib.hid (hg.keep HW.out)
  have HR := Lib.hid (hr.keep HW.out)
  cases hb : okB w0 w1 w2 w3 w4 F gs
  · have Hb := Lib.hid hb
    clear hb
    refine (check_no _ _ _ _ _ _ _ _ _ gs _ HG.out hnc Hb.out).mono ?_; rintro e x1 ⟨rfl, hb1⟩; clear KMl KMc; replace KM := KM.keep hb1; have KMl := KM.lt; have KMc := KM.get; have HB1 := Lib.hid hb1; clear hb1
    go_wp2
    go_ret2
    refine ⟨_, by rw [ofE_13 Hb.out]; rfl, ?_, up HW.out HB1.out⟩
    unfold ofG; rw [ofE_13 Hb.out]; exact World.ownsRow_nil _ _ _ _
  have Hb := Lib.hid hb
  clear hb
  refine (check_yes _ _ _ _ _ _ _ _ _ gs _ HG.out hnc Hb.out).mono ?_; rintro e V ⟨rfl, hb1⟩; replace HG := Lib.hid (HG.out.keep hb1); replace HR := Lib.hid (HR.out.keep hb1); clear KMl KMc; replace KM := KM.keep hb1; have KMl := KM.lt; have KMc := KM.get; have HB1 := Lib.hid hb1; clear hb1
  have h40 : n ≤ 40 := by have := Hl.out; have := okB_40 Hb.out; omega
  by_cases h60 : 60 < n'
  · have H60 : Hid (60 < rs.length) := Lib.hid (by rw [← Hr.out]; exact h60)
    go_wp2
    go_ret2
    refine ⟨_, by rw [ofE_2 Hb.out H60.out]; rfl, ?_, up HW.out HB1.out⟩
    unfold ofG; rw [ofE_2 Hb.out H60.out]; exact World.ownsRow_nil _ _ _ _
  have H60 : Hid (¬ 60 < rs.length) := Lib.hid (by rw [← Hr.out]; exact h60)
  go_wp2
  go_loopw [20] (fun i wr => ∃ (k : Nat) (z : Gr), k ≤ n' ∧ i = .int .i64 k ∧ wr = grow V z ∧ (rs.take k).all Rd.ok = true) (fun i _ => n' - (intOf i).toNat)
  case atStart => exact ⟨0, ⟨#[], V.drawn⟩, by omega, rfl, by simp [grow], rfl⟩
  case round =>
    obtain ⟨k, z, hk, rfl, rfl, hall⟩ := hrel
    have Hall := Lib.hid hall; clear hall
    have e1 : w.heap.size < V.heap.size + z.blocks.size := by omega
    by_cases hlt : k < n'
    · have hkl : k < rs.length := by rw [← Hr.out]; exact hlt
      have Htk : Hid (rs.take (k + 1) = rs.take k ++ [rs[k]]) := Lib.hid (List.take_succ_eq_append_getElem hkl)
      have Hno := Lib.hid (all_no hkl)
      obtain ⟨b, o, rfl, hbl, hc⟩ := HR.out.get k hkl
      obtain ⟨c0, c1, c2, c3, c4, c5⟩ := hc
      generalize rs[k] = r at *
      have e5 : b < V.heap.size + z.blocks.size := by omega
      cases hrk : r.ok
      · have Hk := Lib.hid hrk
        clear hrk
        go_wp2_with (go_at_call 18; refine (checkReading_no _ _ _ _ _ _ _ Hk.out).mono ?_; rintro e x2 ⟨rfl, hb2⟩; have HB2 := Lib.hid hb2; clear hb2)
        go_ret2
        refine ⟨_, by rw [ofE_12 Hb.out H60.out (Hno.out Hk.out)]; rfl, ?_, up HW.out (up HB1.out (up (grow_below V z) (up (up_alloc _ _) HB2.out)))⟩
        unfold ofG; rw [ofE_12 Hb.out H60.out (Hno.out Hk.out)]; exact World.ownsRow_nil _ _ _ _
      · have Hk := Lib.hid hrk
        clear hrk
        go_wp2_with (go_at_call 18; refine (checkReading_yes _ _ _ _ _ _ _ Hk.out).mono ?_; rintro e x2 ⟨rfl, hb2⟩; have HB2 := Lib.hid (up (grow_below V z) (up (up_alloc _ _) hb2)); clear hb2)
        obtain ⟨y, rfl⟩ := below_grow HB2.out
        refine ⟨⟨k + 1, y, by omega, by go_num, rfl, ?_⟩, by simp [intOf]; omega⟩
        rw [Htk.out, List.all_append, Hall.out]; simp [Hk.out]
    · obtain rfl : k = n' := by omega
      have Hall2 : Hid (rs.all Rd.ok = true) := Lib.hid (by
        have := Hall.out
        rwa [List.take_of_length_le (by rw [← Hr.out]; exact Nat.le_refl _)] at this)
      have hpl : (possG w0 w1 w2 w3 w4 F rs gs).length ≤ 40 := Nat.le_trans (possG_len w0 w1 w2 w3 w4 F rs gs) (okB_40 Hb.out)
      go_wp2_with (first
        | (go_at_call 85; refine (possibleMarks_any _ _ _ _ _ _ _ _ _ gs _ _ _ rs _ (HG.out.keep (grow_below V z)) (HR.out.keep (grow_below V z)) (okB_ok Hb.out) h40).mono ?_; rintro e x1 ⟨v, rfl, hown, hb1⟩; obtain ⟨A', c', rfl, _, _, hgs⟩ := Gs.of_own hown; have HG2 := Lib.hid (hgs (by omega)); clear hgs hown; have HB3 := Lib.hid (up HW.out (up HB1.out (up (grow_below V z) hb1))))
        | (go_at_call 84; refine (ownersOf_any _ _ _ _ _ HG2.out (by omega)).mono ?_; rintro e x2 ⟨v, rfl, hown, hb2⟩; have Hown := Lib.hid hown; clear hown))
      go_ret2
      refine ⟨_, by rw [ofE_0 Hb.out H60.out Hall2.out]; rfl, ?_, up HB3.out hb2⟩
      unfold ofG; rw [ofE_0 Hb.out H60.out Hall2.out]
      exact own_mono Hown.out HB3.out.size

set_option maxHeartbeats 800000 in
theorem refOf_any' (w0 w1 w2 w3 w4 F : Int) (A : Option Addr) (n c : Nat) (gs : List Giv) (B : Option Addr) (n' c' : Nat) (rs : List Rd) (w : World) (hg : Gs w A n gs) (hr : Rs w B n' rs) :
    Calls Try.prog 37 #[.agg #[.int .i64 w0, .int .i64 w1, .int .i64 w2, .int .i64 w3, .int .i64 w4, .int .i64 F, .slice A n c], .slice B n' c'] w fun e w' =>
      ∃ v, e = .returned (.tuple #[v, .int .i64 (ofE w0 w1 w2 w3 w4 F gs rs)]) ∧ w'.ownsRow w.heap.size 3 1 v (ofG w0 w1 w2 w3 w4 F gs rs).length (ints (own (ofG w0 w1 w2 w3 w4 F gs rs))) ∧ Below w.heap.size w w' := by
  have hn' := hr.small
  have Hl : Hid (n = gs.length) := Lib.hid hg.len
  have Hr : Hid (n' = rs.length) := Lib.hid hr.len
  obtain ⟨i0, hi, hz0, hz1, hz2⟩ := info_parts info3
  have HI := Lib.hid hi
  have HZ0 := Lib.hid hz0
  have HZ1 := Lib.hid hz1
  have HZ2 := Lib.hid hz2
  clear hi hz0 hz1 hz2
  go_enter Try.func37, Try.ntmps37
  go_wp2_with fail
  generalize hW : (World.alloc _ _) = W
  have HW : Hid (Below w.heap.size w W) := Lib.hid (by subst hW; go_grown)
  have KM : Bk W w.heap.size [.int .i64 w0, .int .i64 w1, .int .i64 w2, .int .i64 w3, .int .i64 w4, .int .i64 F, .slice A n c] := ⟨by subst hW; simp only [World.size_alloc]; omega, by subst hW; intro j; simp [go_sem]⟩
  clear hW
  have KMl := KM.lt; have KMc := KM.get
  have HG := Lib.hid (hg.keep HW.out)
  have HR := Lib.hid (hr.keep HW.out)
  cases hb : okB w0 w1 w2 w3 w4 F gs
  · have Hb := Lib.hid hb
    clear hb
    refine (refCheck_no _ _ _ _ _ _ _ _ _ gs _ HG.out Hb.out).mono ?_; rintro e x1 ⟨rfl, hb1⟩; clear KMl KMc; replace KM := KM.keep hb1; have KMl := KM.lt; have KMc := KM.get; have HB1 := Lib.hid hb1; clear hb1
    go_wp2
    go_ret2
    refine ⟨_, by rw [ofE_13 Hb.out]; rfl, ?_, up HW.out HB1.out⟩
    unfold ofG; rw [ofE_13 Hb.out]; exact World.ownsRow_nil _ _ _ _
  have Hb := Lib.hid hb
  clear hb
  refine (refCheck_yes _ _ _ _ _ _ _ _ _ gs _ HG.out Hb.out).mono ?_; rintro e V ⟨rfl, hb1⟩; replace HG := Lib.hid (HG.out.keep hb1); replace HR := Lib.hid (HR.out.keep hb1); clear KMl KMc; replace KM := KM.keep hb1; have KMl := KM.lt; have KMc := KM.get; have HB1 := Lib.hid hb1; clear hb1
  have h40 : n ≤ 40 := by have := Hl.out; have := okB_40 Hb.out; omega
  by_cases h60 : 60 < n'
  · have H60 : Hid (60 < rs.length) := Lib.hid (by rw [← Hr.out]; exact h60)
    go_wp2
    go_ret2
    refine ⟨_, by rw [ofE_2 Hb.out H60.out]; rfl, ?_, up HW.out HB1.out⟩
    unfold ofG; rw [ofE_2 Hb.out H60.out]; exact World.ownsRow_nil _ _ _ _
  have H60 : Hid (¬ 60 < rs.length) := Lib.hid (by rw [← Hr.out]; exact h60)
  go_wp2
  go_loopw [6] (fun i wr => ∃ (k : Nat) (z : Gr), k ≤ n' ∧ i = .int .i64 k ∧ wr = grow V z ∧ (rs.take k).all Rd.ok = true) (fun i _ => n' - (intOf i).toNat)
  case atStart => exact ⟨0, ⟨#[], V.drawn⟩, by omega, rfl, by simp [grow], rfl⟩
  case round =>
    obtain ⟨k, z, hk, rfl, rfl, hall⟩ := hrel
    have Hall := Lib.hid hall; clear hall
    have e1 : w.heap.size < V.heap.size + z.blocks.size := by omega
    by_cases hlt : k < n'
    · have hkl : k < rs.length := by rw [← Hr.out]; exact hlt
      have Htk : Hid (rs.take (k + 1) = rs.take k ++ [rs[k]]) := Lib.hid (List.take_succ_eq_append_getElem hkl)
      have Hno := Lib.hid (all_no hkl)
      obtain ⟨b, o, rfl, hbl, hc⟩ := HR.out.get k hkl
      obtain ⟨c0, c1, c2, c3, c4, c5⟩ := hc
      generalize rs[k] = r at *
      have e5 : b < V.heap.size + z.blocks.size := by omega
      cases hrk : r.ok
      · have Hk := Lib.hid hrk
        clear hrk
        go_wp2_with (go_at_call 19; refine (refCheckReading_no _ _ _ _ _ _ _ Hk.out).mono ?_; rintro e x2 ⟨rfl, hb2⟩; have HB2 := Lib.hid hb2; clear hb2)
        go_ret2
        refine ⟨_, by rw [ofE_12 Hb.out H60.out (Hno.out Hk.out)]; rfl, ?_, up HW.out (up HB1.out (up (grow_below V z) HB2.out))⟩
        unfold ofG; rw [ofE_12 Hb.out H60.out (Hno.out Hk.out)]; exact World.ownsRow_nil _ _ _ _
      · have Hk := Lib.hid hrk
        clear hrk
        go_wp2_with (go_at_call 19; refine (refCheckReading_yes _ _ _ _ _ _ _ Hk.out).mono ?_; rintro e x2 ⟨rfl, hb2⟩; have HB2 := Lib.hid (up (grow_below V z) hb2); clear hb2)
        obtain ⟨y, rfl⟩ := below_grow HB2.out
        go_wp2
        refine ⟨⟨k + 1, y, by omega, by go_num, rfl, ?_⟩, by simp [intOf]; omega⟩
        rw [Htk.out, List.all_append, Hall.out]; simp [Hk.out]
    obtain rfl : k = n' := by omega
    have Hall2 : Hid (rs.all Rd.ok = true) := Lib.hid (by
      have := Hall.out
      rwa [List.take_of_length_le (by rw [← Hr.out]; exact Nat.le_refl _)] at this)
    go_wp2
    generalize hU : grow V z = U
    have hbU : Below V.heap.size V U := by subst hU; exact grow_below V z
    clear hU e1
    replace HG := Lib.hid (HG.out.keep hbU)
    replace HR := Lib.hid (HR.out.keep hbU)
    clear KMl KMc; replace KM := KM.keep hbU; have KMl := KM.lt; have KMc := KM.get; have HU := Lib.hid hbU; clear hbU
    have HK := Lib.hid (okB_ok Hb.out)
    go_loopw [7, 8] (fun v i wr => ∃ (k : Nat) (z : Gr), k ≤ n ∧ i = .int .i64 k ∧ wr = grow U z ∧ (grow U z).ownsRow U.heap.size 3 1 v (possG w0 w1 w2 w3 w4 F rs (gs.take k)).length (ints (own (possG w0 w1 w2 w3 w4 F rs (gs.take k))))) (fun _ i _ => n - (intOf i).toNat)
    case atStart => exact ⟨0, ⟨#[], U.drawn⟩, by omega, rfl, by simp [grow], World.ownsRow_nil _ _ _ _⟩
    case round =>
      obtain ⟨j, y, hj, rfl, rfl, hown⟩ := hrel
      have Hown := Lib.hid hown; clear hown
      have hklen : (possG w0 w1 w2 w3 w4 F rs (gs.take j)).length ≤ 40 := Nat.le_trans (possG_len w0 w1 w2 w3 w4 F rs (gs.take j)) (by simp; omega)
      have e1 : w.heap.size < U.heap.size + y.blocks.size := by omega
      by_cases hlt2 : j < n
      rotate_left
      · obtain rfl : j = n := by omega
        have Hf : Hid (possG w0 w1 w2 w3 w4 F rs (gs.take j) = possG w0 w1 w2 w3 w4 F rs gs) := Lib.hid (by rw [List.take_of_length_le (by rw [← Hl.out]; exact Nat.le_refl _)])
        go_wp2
        go_ret2
        refine ⟨_, by rw [ofE_0 Hb.out H60.out Hall2.out]; rfl, ?_, up HW.out (up HB1.out (up HU.out (grow_below U y)))⟩
        unfold ofG; rw [ofE_0 Hb.out H60.out Hall2.out, if_pos rfl, ← Hf.out]
        exact own_mono Hown.out (by have := HW.out.size; have := HB1.out.size; have := HU.out.size; omega)
      have hkl : j < gs.length := by rw [← Hl.out]; exact hlt2
      have Htk : Hid (gs.take (j + 1) = gs.take j ++ [gs[j]]) := Lib.hid (List.take_succ_eq_append_getElem hkl)
      obtain ⟨b, o, rfl, hbb, hc⟩ := HG.out.get j hkl
      obtain ⟨c0, c1, c2, c3, c4, c5, c6⟩ := hc
      obtain ⟨⟨p0, q0⟩, ⟨p1, q1⟩, ⟨p2, q2⟩, ⟨p3, q3⟩, ⟨p4, q4⟩, ⟨p5, q5⟩⟩ := HK.out _ (List.getElem_mem hkl)
      generalize gs[j] = g at *
      generalize hX : possG w0 w1 w2 w3 w4 F rs (gs.take j) = X at *
      have HX := Lib.hid hX
      clear hX
      generalize hnX : X.length = nX at *
      have HnX := Lib.hid hnX
      clear hnX
      go_wp2
      go_loopw [9, 10] (fun a q wr => ∃ (m : Nat) (x : Gr) (t : Bool), m ≤ k ∧ q = .int .i64 m ∧ a = .bool t ∧ wr = grow U x ∧ Below (grow U y).heap.size (grow U y) (grow U x) ∧ (rs.take m).all (possR w0 w1 w2 w3 w4 F g) = t) (fun _ q _ => k - (intOf q).toNat)
      case atStart => exact ⟨0, y, true, by omega, rfl, rfl, rfl, Below.refl _ _, rfl⟩
      case round =>
        obtain ⟨m, x, t, hm, rfl, rfl, rfl, hbx, ht⟩ := hrel
        have HBx := Lib.hid hbx
        have Ht := Lib.hid ht
        clear hbx ht
        have f1 : w.heap.size < U.heap.size + x.blocks.size := by omega
        have f5 : b < U.heap.size + x.blocks.size := by omega
        by_cases hlt3 : m < k
        · have hml : m < rs.length := by rw [← Hr.out]; exact hlt3
          have Htm : Hid (rs.take (m + 1) = rs.take m ++ [rs[m]]) := Lib.hid (List.take_succ_eq_append_getElem hml)
          obtain ⟨b2, o2, rfl, hb2, hc2⟩ := HR.out.get m hml
          obtain ⟨d0, d1, d2, d3, d4, d5⟩ := hc2
          generalize rs[m] = r at *
          have f6 : b2 < U.heap.size + x.blocks.size := by omega
          have Hp : Hid (possR w0 w1 w2 w3 w4 F g r = decide (wcost w0 w1 w2 w3 w4 g.m0 g.m1 g.m2 g.m3 g.m4 g.m5 r.r0 r.r1 r.r2 r.r3 r.r4 r.r5 ≤ F)) := Lib.hid rfl
          cases t
          · go_wp2
            refine wp_region_grow (by kernel_rfl) (by kernel_rfl) ?_
            repeat (go_big_quiet_step ((fail)))
            refine wpQuiet_nil ?_
            intro x1
            obtain ⟨x2, hx2⟩ := grow_grow U x x1
            have HBy : Hid (Below (grow U y).heap.size (grow U y) (grow U x2)) := Lib.hid (by rw [← hx2]; exact up HBx.out (grow_below _ x1))
            rw [hx2]
            clear hx2
            go_wp2
            refine ⟨⟨m + 1, x2, false, by omega, by go_num, rfl, rfl, HBy.out, ?_⟩, by simp [intOf]; omega⟩
            rw [Htm.out, List.all_append, Ht.out]; rfl
          · by_cases hp : wcost w0 w1 w2 w3 w4 g.m0 g.m1 g.m2 g.m3 g.m4 g.m5 r.r0 r.r1 r.r2 r.r3 r.r4 r.r5 ≤ F
            · have Hy : Hid (possR w0 w1 w2 w3 w4 F g r = true) := Lib.hid (by rw [Hp.out]; simpa using hp)
              go_wp2
              refine wp_region_grow (by kernel_rfl) (by kernel_rfl) ?_
              repeat (go_big_quiet_step ((go_at_call 79; exact quiet_grow rfl (refCost_any _ _ _ _ _ _ _ _ _ _ _ _ _ _ _ _ _ _ p0 q0 p1 q1 p2 q2 p3 q3 p4 q4 p5 q5))))
              refine wpQuiet_nil ?_
              intro x1
              obtain ⟨x2, hx2⟩ := grow_grow U x x1
              have HBy : Hid (Below (grow U y).heap.size (grow U y) (grow U x2)) := Lib.hid (by rw [← hx2]; exact up HBx.out (grow_below _ x1))
              rw [hx2]
              clear hx2
              go_wp2
              refine ⟨⟨m + 1, x2, true, by omega, by go_num, rfl, rfl, HBy.out, ?_⟩, by simp [intOf]; omega⟩
              rw [Htm.out, List.all_append, Ht.out]; simp [Hy.out]
            · have Hy : Hid (possR w0 w1 w2 w3 w4 F g r = false) := Lib.hid (by rw [Hp.out]; simpa using hp)
              have hpd : decide (wcost w0 w1 w2 w3 w4 g.m0 g.m1 g.m2 g.m3 g.m4 g.m5 r.r0 r.r1 r.r2 r.r3 r.r4 r.r5 ≤ F) = false := by simpa using hp
              go_wp2
              refine wp_region_grow (by kernel_rfl) (by kernel_rfl) ?_
              repeat (go_big_quiet_step ((go_at_call 79; exact quiet_grow rfl (refCost_any _ _ _ _ _ _ _ _ _ _ _ _ _ _ _ _ _ _ p0 q0 p1 q1 p2 q2 p3 q3 p4 q4 p5 q5))))
              refine wpQuiet_nil ?_
              intro x1
              obtain ⟨x2, hx2⟩ := grow_grow U x x1
              have HBy : Hid (Below (grow U y).heap.size (grow U y) (grow U x2)) := Lib.hid (by rw [← hx2]; exact up HBx.out (grow_below _ x1))
              rw [hx2]
              clear hx2
              go_wp2
              refine ⟨⟨m + 1, x2, false, by omega, by go_num, rfl, rfl, HBy.out, ?_⟩, by simp [intOf]; omega⟩
              rw [Htm.out, List.all_append, Ht.out]; simp [Hy.out]
        obtain rfl : m = k := by omega
        have Hpa : Hid (possAll w0 w1 w2 w3 w4 F rs g = t) := Lib.hid (by
          have := Ht.out
          rwa [List.take_of_length_le (by rw [← Hr.out]; exact Nat.le_refl _)] at this)
        have Ho : Hid ((grow U x).ownsRow U.heap.size 3 1 _ nX (ints (own X))) := Lib.hid (own_below Hown.out HBx.out)
        cases t
        · go_wp2
          refine ⟨⟨j + 1, x, by omega, by go_num, rfl, ?_⟩, by simp [intOf]; omega⟩
          rw [Htk.out, possG_no Hpa.out, HX.out, HnX.out]
          exact Ho.out
        · go_wp2_with (at_builtin; refine wpList_append_own _ rfl _ _ 54 rfl U.heap.size 3 i0 (.int .i64 0) 1 8 Try.underlying54 HI.out HZ0.out HZ1.out HZ2.out rfl (by decide) _ _ _ rfl (Ho.out.alloc _) ⟨U.heap.size + x.blocks.size, 0, none⟩ 1 1 [.int .i64 g.o] rfl rfl ?c1 ?c2 ?c3 ?c4 ?c5 ?_)
          case c1 =>
            intro j u hu
            rw [Addr.add_lit, World.cell?_alloc_at _ _ _ _ (by simp), Nat.zero_add]
            simpa using hu
          case c2 => intro u hu; simp at hu; subst hu; rfl
          case c3 => unfold maxLen; omega
          case c4 => omega
          case c5 => simp; omega
          intro v' w' hown' hgr _
          have hbel : Below U.heap.size U w' := (up (grow_below U x) (up_alloc _ _)).grown hgr (by simp; omega) (fun q hq => (Ho.out.lt q hq).1)
          have Hown' := Lib.hid hown'
          clear hown' hgr
          obtain ⟨y2, rfl⟩ := below_grow hbel
          go_wp2
          refine ⟨⟨j + 1, y2, by omega, by go_num, rfl, ?_⟩, by simp [intOf]; omega⟩
          rw [Htk.out, possG_yes Hpa.out, HX.out, own_snoc, ints_snoc, List.length_append, HnX.out]
          exact Hown'.out
end Go.Proofs.Ytpahbpgkmebieaa
