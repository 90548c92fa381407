/- Whether a mark book is valid: the program's Check. Own text. -/
import Derived.Test.YtpahbpgkmebieaaW7
namespace Go.Proofs.Ytpahbpgkmebieaa
open Go.RowKit
set_option maxHeartbeats 400000
set_option maxRecDepth 100000

def Giv.okB (g : Giv) : Bool := okM g.m0 g.m1 g.m2 g.m3 g.m4 g.m5
theorem Giv.ok_of {g : Giv} (h : g.okB = true) : g.ok := (okM_iff _ _ _ _ _ _).1 h
/-- The owner ahead of number k. -/
def lastO (gs : List Giv) (k : Nat) : Int := match k with | 0 => 0 | k + 1 => (gs.getD k default).o
/-- Number k is as it must be. -/
def okAt (w0 w1 w2 w3 w4 F : Int) (gs : List Giv) (k : Nat) : Bool :=
  match gs[k]? with
  | none => true
  | some g => decide (lastO gs k < g.o) && (decide (1 ≤ g.o) && decide (g.o ≤ 99)) && g.okB && !nearB w0 w1 w2 w3 w4 F g.m0 g.m1 g.m2 g.m3 g.m4 g.m5 (gs.take k)
def okB (w0 w1 w2 w3 w4 F : Int) (gs : List Giv) : Bool :=
  okW w0 w1 w2 w3 w4 && (decide (0 ≤ F) && decide (F ≤ 2)) && decide (gs.length ≤ 40) && allK (okAt w0 w1 w2 w3 w4 F gs) gs.length

theorem okAt_some {w0 w1 w2 w3 w4 F : Int} {gs : List Giv} {k : Nat} {g : Giv} (h : gs[k]? = some g) :
    okAt w0 w1 w2 w3 w4 F gs k = (decide (lastO gs k < g.o) && (decide (1 ≤ g.o) && decide (g.o ≤ 99)) && g.okB && !nearB w0 w1 w2 w3 w4 F g.m0 g.m1 g.m2 g.m3 g.m4 g.m5 (gs.take k)) := by
  unfold okAt; rw [h]
theorem allK_at {f : Nat → Bool} {n : Nat} (h : allK f n = true) : ∀ k, k < n → f k = true := by
  intro k hk
  cases e : f k
  · rw [allK_no f k e n hk] at h; cases h
  · rfl
/-- All marks ahead are valid. -/
theorem ok_take {w0 w1 w2 w3 w4 F : Int} {gs : List Giv} {k : Nat} (h : allK (okAt w0 w1 w2 w3 w4 F gs) k = true) : ∀ g ∈ gs.take k, g.ok := by
  intro g hg
  obtain ⟨j, hj, rfl⟩ := List.getElem_of_mem hg
  have hj2 : j < k ∧ j < gs.length := by simp at hj; omega
  have h1 := allK_at h j hj2.1
  rw [okAt_some (List.getElem?_eq_getElem hj2.2)] at h1
  simp only [Bool.and_eq_true] at h1
  rw [List.getElem_take]
  exact Giv.ok_of h1.1.2

theorem checkWear_yes (a0 a1 a2 a3 a4 : Int) (w : World) (h : okW a0 a1 a2 a3 a4 = true) : Calls Try.prog 16 #[.agg #[.int .i64 a0, .int .i64 a1, .int .i64 a2, .int .i64 a3, .int .i64 a4]] w fun e w' => e = .returned (.int .i64 0) ∧ Below w.heap.size w w' :=
  (checkWear_any _ _ _ _ _ w).mono fun e w' g => ⟨by rw [g.1, err_t _ h], g.2⟩
theorem checkWear_no (a0 a1 a2 a3 a4 : Int) (w : World) (h : okW a0 a1 a2 a3 a4 = false) : Calls Try.prog 16 #[.agg #[.int .i64 a0, .int .i64 a1, .int .i64 a2, .int .i64 a3, .int .i64 a4]] w fun e w' => e = .returned (.int .i64 11) ∧ Below w.heap.size w w' :=
  (checkWear_any _ _ _ _ _ w).mono fun e w' g => ⟨by rw [g.1, err_f _ (by rw [h]; simp)], g.2⟩
theorem checkMark_yes (a0 a1 a2 a3 a4 a5 : Int) (w : World) (h : okM a0 a1 a2 a3 a4 a5 = true) : Calls Try.prog 14 #[.agg #[.int .i64 a0, .int .i64 a1, .int .i64 a2, .int .i64 a3, .int .i64 a4, .int .i64 a5]] w fun e w' => e = .returned (.int .i64 0) ∧ Below w.heap.size w w' :=
  (checkMark_any _ _ _ _ _ _ w).mono fun e w' g => ⟨by rw [g.1, err_t _ h], g.2⟩
theorem checkMark_no (a0 a1 a2 a3 a4 a5 : Int) (w : World) (h : okM a0 a1 a2 a3 a4 a5 = false) : Calls Try.prog 14 #[.agg #[.int .i64 a0, .int .i64 a1, .int .i64 a2, .int .i64 a3, .int .i64 a4, .int .i64 a5]] w fun e w' => e = .returned (.int .i64 10) ∧ Below w.heap.size w w' :=
  (checkMark_any _ _ _ _ _ _ w).mono fun e w' g => ⟨by rw [g.1, err_f _ (by rw [h]; simp)], g.2⟩

theorem check_any (w0 w1 w2 w3 w4 F : Int) (A : Option Addr) (n c : Nat) (gs : List Giv) (w : World) (hg : Gs w A n gs) (hnc : n ≤ c) :
    Calls Try.prog 20 #[.agg #[.int .i64 w0, .int .i64 w1, .int .i64 w2, .int .i64 w3, .int .i64 w4, .int .i64 F, .slice A n c]] w fun e w' => e = .returned (.int .i64 (err (okB w0 w1 w2 w3 w4 F gs) 13)) ∧ Below w.heap.size w w' := by
  have hn := hg.small
  have Hl : Hid (n = gs.length) := Lib.hid hg.len
  go_enter Try.func20, Try.ntmps20
  go_wp2_with fail
  generalize hW : (World.alloc _ _) = W
  have HW : Hid (Below w.heap.size w W) := Lib.hid (by subst hW; go_grown)
  have hs : w.heap.size < W.heap.size := by subst hW; simp
  have cm : ∀ j, W.cell? ⟨w.heap.size, j, none⟩ = [Value.int .i64 w0, .int .i64 w1, .int .i64 w2, .int .i64 w3, .int .i64 w4, .int .i64 F, .slice A n c][j]? := by subst hW; intro j; simp [go_sem]
  clear hW
  cases hw : okW w0 w1 w2 w3 w4
  · refine (checkWear_no w0 w1 w2 w3 w4 W hw).mono ?_
    rintro e x1 ⟨rfl, hb1⟩
    obtain ⟨z, rfl⟩ := below_grow hb1
    have Hw := Lib.hid hw
    clear hw
    go_wp2
    go_ret
    refine ⟨congrArg (fun v => Ending.returned (Value.int .i64 v)) ?_, up HW.out (grow_below W z)⟩
    rw [err_f]; unfold okB; rw [Hw.out]; simp
  refine (checkWear_yes w0 w1 w2 w3 w4 W hw).mono ?_
  rintro e x1 ⟨rfl, hb1⟩
  obtain ⟨z0, rfl⟩ := below_grow hb1
  have Hw := Lib.hid hw
  clear hw hb1
  by_cases hF : 0 ≤ F ∧ F ≤ 2
  rotate_left
  · go_wp2_with (go_at_call 70; refine (places_dec _ _).mono ?_; rintro e x1 (⟨rfl, hi, rfl⟩ | ⟨rfl, hi, rfl⟩))
    · exact absurd hi hF
    · go_ret
      refine ⟨congrArg (fun v => Ending.returned (Value.int .i64 v)) ?_, up HW.out (grow_below W z0)⟩
      rw [err_f]; unfold okB; simp; intros; omega
  obtain ⟨hF0, hF2⟩ := hF
  by_cases h40 : 40 < n
  · go_wp2_with (go_at_call 70; refine (places_dec _ _).mono ?_; rintro e x1 (⟨rfl, hi, rfl⟩ | ⟨rfl, hi, rfl⟩))
    · go_ret
      refine ⟨congrArg (fun v => Ending.returned (Value.int .i64 v)) ?_, up HW.out (grow_below W z0)⟩
      rw [err_f]; unfold okB; rw [← Hl.out]; simp; intros; omega
    · exact absurd ⟨hF0, hF2⟩ hi
  go_wp2_with (go_at_call 70; refine (places_dec _ _).mono ?_; rintro e x1 (⟨rfl, hi, rfl⟩ | ⟨rfl, hi, rfl⟩))
  rotate_left
  · exact absurd ⟨hF0, hF2⟩ hi
  clear hi
  have hg1 := hg.keep HW.out
  go_loopw [3, 25] (fun l i wr => ∃ (k : Nat) (z : Gr), k ≤ n ∧ i = .int .i64 k ∧ l = .int .i64 (lastO gs k) ∧ wr = grow W z ∧ allK (okAt w0 w1 w2 w3 w4 F gs) k = true) (fun _ i _ => n - (intOf i).toNat)
  case atStart => exact ⟨0, z0, by omega, rfl, rfl, rfl, rfl⟩
  case round =>
    obtain ⟨k, z, hk, rfl, rfl, rfl, hall⟩ := hrel
    have e1 : w.heap.size < W.heap.size + z.blocks.size := by omega
    have e3 : w.heap.size < W.heap.size + z.blocks.size + 1 := by omega
    have hsz : w.heap.size < (grow W z).heap.size := by simp; omega
    by_cases hlt : k < n
    · have hkl : k < gs.length := by rw [← Hl.out]; exact hlt
      have hga : gs[k]? = some gs[k] := List.getElem?_eq_getElem hkl
      have Hat := Lib.hid (okAt_some (w0 := w0) (w1 := w1) (w2 := w2) (w3 := w3) (w4 := w4) (F := F) hga)
      have Hno := Lib.hid (fun h => allK_no (okAt w0 w1 w2 w3 w4 F gs) k h gs.length hkl)
      have hok := ok_take hall
      have hgt := hg1.take k hk
      have Hnx : Hid (lastO gs (k + 1) = gs[k].o) := Lib.hid (by show (gs.getD k default).o = _; simp [hkl])
      obtain ⟨b, o, rfl, hb, hc⟩ := hg1.get k hkl
      obtain ⟨c0, c1, c2, c3, c4, c5, c6⟩ := hc
      have Hall := Lib.hid hall
      generalize gs[k] = g at *
      generalize lastO gs k = L at *
      have Hgt := Lib.hid hgt
      have Hok := Lib.hid hok
      have Hga := Lib.hid hga
      clear hall hga hgt hok
      have fin : ∀ (x1 : World), Below W.heap.size W x1 → okAt w0 w1 w2 w3 w4 F gs k = false → Ending.returned (Value.int .i64 13) = Ending.returned (Value.int .i64 (err (okB w0 w1 w2 w3 w4 F gs) 13)) ∧ Below w.heap.size w x1 := fun y hy h =>
        ⟨by rw [err_f]; unfold okB; rw [Hno.out h]; simp, up HW.out hy⟩
      have Fin := Lib.hid fin
      clear fin
      have e5 : b < W.heap.size + z.blocks.size := by omega
      by_cases c1 : g.o ≤ L
      · go_wp2
        go_ret
        exact Fin.out _ (up (grow_below W z) (up_alloc _ _)) (by rw [Hat.out]; simp; intros; omega)
      by_cases c2 : 1 ≤ g.o ∧ g.o ≤ 99
      rotate_left
      · go_wp2_with (go_at_call 71; refine (owner_dec _ _).mono ?_; rintro e x1 (⟨rfl, hi, rfl⟩ | ⟨rfl, hi, rfl⟩))
        · exact absurd hi c2
        · go_ret
          exact Fin.out _ (up (grow_below W z) (up_alloc _ _)) (by rw [Hat.out]; simp; intros; omega)
      cases hm : okM g.m0 g.m1 g.m2 g.m3 g.m4 g.m5
      · have Hm := Lib.hid hm
        clear hm
        go_wp2_with (first
          | (go_at_call 71; refine (owner_dec _ _).mono ?_; rintro e x1 (⟨rfl, hi, rfl⟩ | ⟨rfl, hi, rfl⟩))
          | (go_at_call 14; refine (checkMark_no _ _ _ _ _ _ _ Hm.out).mono ?_; rintro e x1 ⟨rfl, hb2⟩))
        · go_ret
          exact Fin.out _ (up (grow_below W z) (up (up_alloc _ _) hb2)) (by rw [Hat.out]; unfold Giv.okB; rw [Hm.out]; simp)
        · exact absurd c2 hi
      · have Hm := Lib.hid hm
        obtain ⟨⟨p0, q0⟩, ⟨p1, q1⟩, ⟨p2, q2⟩, ⟨p3, q3⟩, ⟨p4, q4⟩, ⟨p5, q5⟩⟩ := (okM_iff _ _ _ _ _ _).1 hm
        clear hm
        go_wp2_with (first
          | (go_at_call 71; refine (owner_dec _ _).mono ?_; rintro e x1 (⟨rfl, hi, rfl⟩ | ⟨rfl, hi, rfl⟩))
          | (go_at_call 14; refine (checkMark_yes _ _ _ _ _ _ _ Hm.out).mono ?_; rintro e x1 ⟨rfl, hb2⟩; obtain ⟨z2, rfl⟩ := below_grow hb2; clear hb2))
        · generalize hV : grow (World.alloc _ _) z2 = V
          have HV : Hid (Below W.heap.size W V) := Lib.hid (by subst hV; exact up (grow_below W z) (up (up_alloc _ _) (grow_below _ _)))
          have v1 : w.heap.size < V.heap.size := by subst hV; simp; omega
          have v2 : W.heap.size + z.blocks.size < V.heap.size := by subst hV; simp; omega
          have cv : ∀ j, V.cell? ⟨w.heap.size, j, none⟩ = [Value.int .i64 w0, .int .i64 w1, .int .i64 w2, .int .i64 w3, .int .i64 w4, .int .i64 F, .slice (some ⟨b, o, none⟩) n c][j]? := by
            intro j; rw [← cm j]; exact HV.out.cell (p := ⟨w.heap.size, j, none⟩) hs
          have cg : ∀ j, V.cell? ⟨W.heap.size + z.blocks.size, j, none⟩ = [Value.int .i64 g.o, .int .i64 g.m0, .int .i64 g.m1, .int .i64 g.m2, .int .i64 g.m3, .int .i64 g.m4, .int .i64 g.m5][j]? := by
            subst hV; intro j
            rw [grow_cell_lt _ _ _ _ (by simp), World.cell?_alloc_at _ _ _ _ (by simp)]; simp
          have HG := Lib.hid (Hgt.out.keep HV.out)
          clear hV
          refine wp_region_grow (by kernel_rfl) (by kernel_rfl) ?_
          repeat (go_big_quiet_step ((go_at_call 72; exact quiet_grow rfl (near_any _ _ _ _ _ _ _ _ _ _ _ _ _ _ _ _ _ (by assumption) (by assumption) (by assumption) (by assumption) (by assumption) (by assumption) (by assumption) (by assumption) (by assumption) (by assumption) (by assumption) (by assumption) hF0 hF2 (HG.out.keep (grow_below _ _)) Hok.out))))
          refine wpQuiet_nil ?_
          intro z3
          cases hne : nearB w0 w1 w2 w3 w4 F g.m0 g.m1 g.m2 g.m3 g.m4 g.m5 (gs.take k)
          · have Hne := Lib.hid hne
            clear hne
            go_wp2
            obtain ⟨y, hy⟩ := below_grow (up HV.out (grow_below V z3))
            refine ⟨⟨k + 1, y, by omega, by go_num, by rw [Hnx.out], hy, ?_⟩, by simp [intOf]; omega⟩
            show (allK (okAt w0 w1 w2 w3 w4 F gs) k && okAt w0 w1 w2 w3 w4 F gs k) = true
            rw [Hall.out, Hat.out, Hne.out]; unfold Giv.okB; rw [Hm.out]; simp; omega
          · have Hne := Lib.hid hne
            clear hne
            go_wp2
            go_ret
            exact Fin.out _ (up HV.out (grow_below V z3)) (by rw [Hat.out, Hne.out]; simp)
        · exact absurd c2 hi
    · obtain rfl : k = n := by omega
      go_wp2
      go_ret
      refine ⟨congrArg (fun v => Ending.returned (Value.int .i64 v)) ?_, up HW.out (grow_below W z)⟩
      rw [err_t]; unfold okB; rw [Hw.out, ← Hl.out, hall]; simp; omega
end Go.Proofs.Ytpahbpgkmebieaa
