/- The one owner, both ways. Own text. -/
import Derived.Test.YtpahbpgkmebieaaW24
namespace Go.Proofs.Ytpahbpgkmebieaa
open Go.RowKit
set_option maxHeartbeats 400000
set_option maxRecDepth 100000

/-- The error of the one of a list, and the one. -/
def oneE (e : Int) (l : List Int) : Int := if e = 0 then (match l with | [] => 3 | [_] => 0 | _ => 17) else e
def oneV (e : Int) (l : List Int) : Int := if e = 0 then (match l with | [x] => x | _ => 0) else 0
theorem oneE_no {e : Int} (l : List Int) (h : e ≠ 0) : oneE e l = e := if_neg h
theorem oneV_no {e : Int} (l : List Int) (h : e ≠ 0) : oneV e l = 0 := if_neg h
theorem one_nil {e : Int} {l : List Int} (h : e = 0) (hl : l.length = 0) : oneE e l = 3 ∧ oneV e l = 0 := by
  obtain rfl : l = [] := List.eq_nil_of_length_eq_zero hl
  subst h; exact ⟨rfl, rfl⟩
theorem one_one {e : Int} {l : List Int} (h : e = 0) (hl : l.length = 1) : oneE e l = 0 ∧ oneV e l = l[0] := by
  match l, hl with
  | [x], _ => subst h; exact ⟨rfl, rfl⟩
theorem one_more {e : Int} {l : List Int} (h : e = 0) (hl : 1 < l.length) : oneE e l = 17 ∧ oneV e l = 0 := by
  match l, hl with
  | x :: y :: r, _ => subst h; exact ⟨rfl, rfl⟩

theorem owner_any' (w0 w1 w2 w3 w4 F : Int) (A : Option Addr) (n c : Nat) (gs : List Giv) (r : Rd) (w : World) (hg : Gs w A n gs) (hnc : n ≤ c) (e1 : Int) (l : List Int) (he1 : brE w0 w1 w2 w3 w4 F gs r = e1) (hl : own (brG w0 w1 w2 w3 w4 F gs r) = l) :
    Calls Try.prog 34 #[.agg #[.int .i64 w0, .int .i64 w1, .int .i64 w2, .int .i64 w3, .int .i64 w4, .int .i64 F, .slice A n c], .agg #[.int .i64 r.r0, .int .i64 r.r1, .int .i64 r.r2, .int .i64 r.r3, .int .i64 r.r4, .int .i64 r.r5]] w fun e w' =>
      e = .returned (.tuple #[.int .i64 (oneV e1 l), .int .i64 (oneE e1 l)]) ∧ Below w.heap.size w w' := by
  have HE1 := Lib.hid he1
  have HL := Lib.hid hl
  have Hll : Hid ((brG w0 w1 w2 w3 w4 F gs r).length = l.length) := Lib.hid (by rw [← hl]; simp [own])
  clear he1 hl
  go_enter Try.func34, Try.ntmps34
  go_wp2_with fail
  generalize hW : (World.alloc _ _) = W
  have HW : Hid (Below w.heap.size w W) := Lib.hid (by subst hW; go_grown)
  clear hW
  refine (owners_any w0 w1 w2 w3 w4 F A n c gs r W (hg.keep HW.out) hnc).mono ?_
  rintro e x1 ⟨v, rfl, hown, hb1⟩
  have HB1 := Lib.hid hb1
  clear hb1
  rw [Hll.out, HL.out] at hown
  rw [HE1.out]
  obtain ⟨B, c', rfl, hc', hi⟩ := Is.of_own hown
  have HI := Lib.hid hi
  clear hi hown
  by_cases he : e1 = 0
  rotate_left
  · have hb : (e1 != 0) = true := by simpa using he
    have He := Lib.hid he
    clear he
    go_wp2
    go_ret2
    exact ⟨ret_ii (oneV_no _ He.out).symm (oneE_no _ He.out).symm, up HW.out HB1.out⟩
  have He := Lib.hid he
  have hb : (e1 != 0) = false := by simpa using he
  clear he
  generalize hk : l.length = k at *
  have Hk := Lib.hid hk
  clear hk
  rcases Nat.lt_trichotomy k 1 with h1 | h1 | h1
  · obtain rfl : k = 0 := by omega
    go_wp2
    go_ret2
    exact ⟨ret_ii (one_nil He.out Hk.out).2.symm (one_nil He.out Hk.out).1.symm, up HW.out HB1.out⟩
  · obtain rfl := h1
    have hl0 : 0 < l.length := by rw [Hk.out]; omega
    obtain ⟨b, o, rfl, hbl, hc⟩ := HI.out.get 0 hl0
    have Hv := Lib.hid (one_one He.out Hk.out)
    generalize l[0] = x at *
    rw [Nat.add_zero] at hc
    go_wp2
    go_ret2
    exact ⟨ret_ii Hv.out.2.symm Hv.out.1.symm, up HW.out HB1.out⟩
  · have hb0 : ((k : Int) == 0) = false := by simp; omega
    go_wp2
    go_ret2
    exact ⟨ret_ii (one_more He.out (by rw [Hk.out]; exact h1)).2.symm (one_more He.out (by rw [Hk.out]; exact h1)).1.symm, up HW.out HB1.out⟩

theorem refOwner_any' (w0 w1 w2 w3 w4 F : Int) (A : Option Addr) (n c : Nat) (gs : List Giv) (r : Rd) (w : World) (hg : Gs w A n gs) (e1 : Int) (l : List Int) (he1 : brE w0 w1 w2 w3 w4 F gs r = e1) (hl : own (brG w0 w1 w2 w3 w4 F gs r) = l) :
    Calls Try.prog 35 #[.agg #[.int .i64 w0, .int .i64 w1, .int .i64 w2, .int .i64 w3, .int .i64 w4, .int .i64 F, .slice A n c], .agg #[.int .i64 r.r0, .int .i64 r.r1, .int .i64 r.r2, .int .i64 r.r3, .int .i64 r.r4, .int .i64 r.r5]] w fun e w' =>
      e = .returned (.tuple #[.int .i64 (oneV e1 l), .int .i64 (oneE e1 l)]) ∧ Below w.heap.size w w' := by
  have HE1 := Lib.hid he1
  have HL := Lib.hid hl
  have Hll : Hid ((brG w0 w1 w2 w3 w4 F gs r).length = l.length) := Lib.hid (by rw [← hl]; simp [own])
  clear he1 hl
  go_enter Try.func35, Try.ntmps35
  go_wp2_with fail
  generalize hW : (World.alloc _ _) = W
  have HW : Hid (Below w.heap.size w W) := Lib.hid (by subst hW; go_grown)
  clear hW
  refine (refOwners_any w0 w1 w2 w3 w4 F A n c gs r W (hg.keep HW.out)).mono ?_
  rintro e x1 ⟨v, rfl, hown, hb1⟩
  have HB1 := Lib.hid hb1
  clear hb1
  rw [Hll.out, HL.out] at hown
  rw [HE1.out]
  obtain ⟨B, c', rfl, hc', hi⟩ := Is.of_own hown
  have HI := Lib.hid hi
  clear hi hown
  by_cases he : e1 = 0
  rotate_left
  · have hb : (e1 != 0) = true := by simpa using he
    have He := Lib.hid he
    clear he
    go_wp2
    go_ret2
    exact ⟨ret_ii (oneV_no _ He.out).symm (oneE_no _ He.out).symm, up HW.out HB1.out⟩
  have He := Lib.hid he
  have hb : (e1 != 0) = false := by simpa using he
  clear he
  generalize hk : l.length = k at *
  have Hk := Lib.hid hk
  clear hk
  rcases Nat.lt_trichotomy k 1 with h1 | h1 | h1
  · obtain rfl : k = 0 := by omega
    go_wp2
    go_ret2
    exact ⟨ret_ii (one_nil He.out Hk.out).2.symm (one_nil He.out Hk.out).1.symm, up HW.out HB1.out⟩
  · obtain rfl := h1
    have hl0 : 0 < l.length := by rw [Hk.out]; omega
    obtain ⟨b, o, rfl, hbl, hc⟩ := HI.out.get 0 hl0
    have Hv := Lib.hid (one_one He.out Hk.out)
    generalize l[0] = x at *
    rw [Nat.add_zero] at hc
    go_wp2
    go_ret2
    exact ⟨ret_ii Hv.out.2.symm Hv.out.1.symm, up HW.out HB1.out⟩
  · have hb0 : ((k : Int) == 0) = false := by simp; omega
    have hb1 : ((k : Int) == 1) = false := by simp; omega
    go_wp2
    go_ret2
    exact ⟨ret_ii (one_more He.out (by rw [Hk.out]; exact h1)).2.symm (one_more He.out (by rw [Hk.out]; exact h1)).1.symm, up HW.out HB1.out⟩
end Go.Proofs.Ytpahbpgkmebieaa
