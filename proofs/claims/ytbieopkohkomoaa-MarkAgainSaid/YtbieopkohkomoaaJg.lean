/- Contracts of functions of the program and of the reference, and plain facts: a part of a proof. Own text. -/
import Derived.Test.YtbieopkohkomoaaJf
import Derived.Deep.Cut
set_option linter.unusedVariables false
set_option linter.unusedSimpArgs false
set_option linter.unusedSectionVars false
namespace Go.Proofs.Ytbieopkohkomoaa
open Go Go.RowKit
set_option maxHeartbeats 400000
set_option maxRecDepth 100000

def Rd.giv (r : Rd) (x : Int) : Giv := ⟨x, r.r0, r.r1, r.r2, r.r3, r.r4, r.r5⟩
def giveE (w0 w1 w2 w3 w4 F : Int) (gs : List Giv) (x : Int) : Int := if newE w0 w1 w2 w3 w4 F gs x = 0 then (nextR w0 w1 w2 w3 w4 F gs).2 else newE w0 w1 w2 w3 w4 F gs x
def giveL (w0 w1 w2 w3 w4 F : Int) (gs : List Giv) (x : Int) : List Giv := cg (giveE w0 w1 w2 w3 w4 F gs x) (insG ((nextR w0 w1 w2 w3 w4 F gs).1.giv x) gs)
theorem newE_ok {w0 w1 w2 w3 w4 F x : Int} {gs : List Giv} (h : newE w0 w1 w2 w3 w4 F gs x = 0) : okB w0 w1 w2 w3 w4 F gs = true ∧ (1 ≤ x ∧ x ≤ 99) ∧ pos (own gs) x 0 < 0 := by
  unfold newE findE at h
  by_cases h1 : okB w0 w1 w2 w3 w4 F gs = true <;> by_cases h2 : 1 ≤ x ∧ x ≤ 99 <;> by_cases h3 : 0 ≤ pos (own gs) x 0 <;> simp [h1, h2, h3] at h
  exact ⟨h1, h2, by omega⟩
theorem pos_none (l : List Giv) (x : Int) : ∀ k : Nat, pos (own l) x k < 0 → ∀ y ∈ l, y.o ≠ x := by
  induction l with
  | nil => intro k _ y hy; simp at hy
  | cons a r ih =>
    intro k h y hy
    have hne : a.o ≠ x := fun e => by
      rw [show own (a :: r) = a.o :: own r from rfl, pos_yes _ _ e] at h; omega
    rw [show own (a :: r) = a.o :: own r from rfl, pos_no _ _ hne] at h
    rcases List.mem_cons.1 hy with rfl | hy
    · exact hne
    · exact ih (k + 1) h y hy
/-- As the reference asks. -/
theorem newE_ref (w0 w1 w2 w3 w4 F x : Int) (gs : List Giv) : newE w0 w1 w2 w3 w4 F gs x = if (if okB w0 w1 w2 w3 w4 F gs = true then if 1 ≤ x ∧ x ≤ 99 then (0 : Int) else 15 else 13) = 0 then (if 0 ≤ pos (own gs) x 0 then 15 else 0) else (if okB w0 w1 w2 w3 w4 F gs = true then if 1 ≤ x ∧ x ≤ 99 then (0 : Int) else 15 else 13) := by
  unfold newE findE
  by_cases h1 : okB w0 w1 w2 w3 w4 F gs = true <;> by_cases h2 : 1 ≤ x ∧ x ≤ 99 <;> by_cases h3 : 0 ≤ pos (own gs) x 0 <;> simp [h1, h2, h3]

set_option maxHeartbeats 600000 in
theorem give_any (w0 w1 w2 w3 w4 F x : Int) (A : Option Addr) (n c : Nat) (gs : List Giv) (w : World) (hg : Gs w A n gs) (hnc : n ≤ c) :
    Calls Try.prog 41 #[.agg #[.int .i64 w0, .int .i64 w1, .int .i64 w2, .int .i64 w3, .int .i64 w4, .int .i64 F, .slice A n c], .int .i64 x] w fun e w' =>
      ∃ B k c', e = .returned (.tuple #[.agg #[.int .i64 (cv (giveE w0 w1 w2 w3 w4 F gs x) w0), .int .i64 (cv (giveE w0 w1 w2 w3 w4 F gs x) w1), .int .i64 (cv (giveE w0 w1 w2 w3 w4 F gs x) w2), .int .i64 (cv (giveE w0 w1 w2 w3 w4 F gs x) w3), .int .i64 (cv (giveE w0 w1 w2 w3 w4 F gs x) w4), .int .i64 (cv (giveE w0 w1 w2 w3 w4 F gs x) F), .slice B k c'], .int .i64 (giveE w0 w1 w2 w3 w4 F gs x)]) ∧ k ≤ c' ∧ Gs w' B k (giveL w0 w1 w2 w3 w4 F gs x) ∧ Below w.heap.size w w' := by
  have Hl : Hid (n = gs.length) := Lib.hid hg.len
  go_enter Try.func41, Try.ntmps41
  go_wp2_with fail
  generalize hW : (World.alloc _ _) = W
  have HW : Hid (Below w.heap.size w W) := Lib.hid (by subst hW; go_grown)
  have KM : Bk W w.heap.size [.int .i64 w0, .int .i64 w1, .int .i64 w2, .int .i64 w3, .int .i64 w4, .int .i64 F, .slice A n c] := ⟨by subst hW; simp only [World.size_alloc]; omega, by subst hW; intro j; simp [go_sem]⟩
  have KX : Bk W (w.heap.size + 1) [.int .i64 0, .int .i64 0, .int .i64 0, .int .i64 0, .int .i64 0, .int .i64 0, .slice none 0 0] := ⟨by subst hW; simp only [World.size_alloc]; omega, by subst hW; intro j; simp [go_sem]⟩
  have HFX : Hid (∀ j, W.frozen? ⟨w.heap.size + 1, j, none⟩ = false) := Lib.hid (by subst hW; intro j; simp [go_sem])
  clear hW
  have HG := Lib.hid (hg.keep HW.out)
  clear hg
  refine (checkNew_any w0 w1 w2 w3 w4 F x A n c gs W HG.out hnc).mono ?_
  rintro e V ⟨rfl, hb1⟩
  have HEE : Hid (giveE w0 w1 w2 w3 w4 F gs x = if newE w0 w1 w2 w3 w4 F gs x = 0 then (nextR w0 w1 w2 w3 w4 F gs).2 else newE w0 w1 w2 w3 w4 F gs x) := Lib.hid rfl
  have HT : Hid (giveL w0 w1 w2 w3 w4 F gs x = cg (giveE w0 w1 w2 w3 w4 F gs x) (insG ((nextR w0 w1 w2 w3 w4 F gs).1.giv x) gs)) := Lib.hid rfl
  have HF : Hid (newE w0 w1 w2 w3 w4 F gs x = 0 → okB w0 w1 w2 w3 w4 F gs = true ∧ (1 ≤ x ∧ x ≤ 99) ∧ pos (own gs) x 0 < 0) := Lib.hid newE_ok
  generalize newE w0 w1 w2 w3 w4 F gs x = E at *
  have HB1 := Lib.hid hb1
  replace HFX := Lib.hid (fun j => (HB1.out.frozen (p := ⟨w.heap.size + 1, j, none⟩) KX.lt).trans (HFX.out j))
  replace KM := KM.keep HB1.out
  replace KX := KX.keep HB1.out
  replace HG := Lib.hid (HG.out.keep HB1.out)
  clear hb1
  by_cases hE : E = 0
  rotate_left
  · have b0 : (E == 0) = false := by simpa using hE
    have b1 : (E != 0) = true := by simpa using hE
    have HE := Lib.hid hE
    have FX1 := HFX.out
    clear hE
    have KMl := KM.lt; have KMc := KM.get; have KXl := KX.lt; have KXc := KX.get
    go_wp2
    have P := put7 V (w.heap.size + 1) (.int .i64 0) (.int .i64 0) (.int .i64 0) (.int .i64 0) (.int .i64 0) (.int .i64 0) (.slice none 0 0) (bk_some (KX))
    have O := own_put7 (w := V) (World.ownsRow_nil V (w.heap.size + 2) 30 7) (b := w.heap.size + 1) (by omega) (.int .i64 0) (.int .i64 0) (.int .i64 0) (.int .i64 0) (.int .i64 0) (.int .i64 0) (.slice none 0 0)
    have BB := put7_below (w := V) (up HW.out HB1.out) (by omega : _ ≤ w.heap.size + 1) (.int .i64 0) (.int .i64 0) (.int .i64 0) (.int .i64 0) (.int .i64 0) (.int .i64 0) (.slice none 0 0)
    generalize World.setCell _ ⟨w.heap.size + 1, 6, none⟩ _ = U at P O BB ⊢
    have p0 := P 0 (by omega); have p1 := P 1 (by omega); have p2 := P 2 (by omega); have p3 := P 3 (by omega); have p4 := P 4 (by omega); have p5 := P 5 (by omega); have p6 := P 6 (by omega)
    clear P
    simp at p0 p1 p2 p3 p4 p5 p6
    refine bodyPost_ret (v := .tuple #[.agg #[.int .i64 0, .int .i64 0, .int .i64 0, .int .i64 0, .int .i64 0, .int .i64 0, .slice none 0 0], .int .i64 E]) (by simp [results, Try.results41, go_sem, p0, p1, p2, p3, p4, p5, p6]) rfl ?_
    clear p0 p1 p2 p3 p4 p5 p6
    have HEF : Hid (giveE w0 w1 w2 w3 w4 F gs x = E) := Lib.hid (by rw [HEE.out, if_neg HE.out])
    refine ⟨none, 0, 0, ?_, Nat.le_refl _, ?_, BB⟩
    · rw [HEF.out]; simp only [cv_e HE.out]
    · rw [HT.out, HEF.out, cg_e HE.out]; exact ⟨rfl, by decide, fun k hk => by simp at hk⟩
  subst hE
  obtain ⟨hok, _, hps⟩ := HF.out rfl
  have h40 : n ≤ 40 := by have := Hl.out; have := okB_40 hok; omega
  have Hne := Lib.hid (pos_none gs x 0 hps)
  clear hok hps HF
  have KMl := KM.lt; have KMc := KM.get; have KXl := KX.lt; have KXc := KX.get
  go_wp2_with fail
  refine (next_any w0 w1 w2 w3 w4 F A n c gs V HG.out hnc).mono ?_
  rintro e V3 ⟨rfl, hb3⟩
  clear KMl KMc KXl KXc
  have HB3 := Lib.hid hb3
  replace HFX := Lib.hid (fun j => (HB3.out.frozen (p := ⟨w.heap.size + 1, j, none⟩) KX.lt).trans (HFX.out j))
  replace KM := KM.keep HB3.out
  replace KX := KX.keep HB3.out
  replace HG := Lib.hid (HG.out.keep HB3.out)
  clear hb3
  generalize hnx : nextR w0 w1 w2 w3 w4 F gs = N at *
  obtain ⟨m, E2⟩ := N
  have HEF : Hid (giveE w0 w1 w2 w3 w4 F gs x = E2) := Lib.hid (by rw [HEE.out]; simp)
  clear hnx HEE
  unfold encR
  dsimp only
  have FX0 := HFX.out
  have KMl := KM.lt; have KMc := KM.get; have KXl := KX.lt; have KXc := KX.get
  go_upto_region 5 with (fail)
  generalize hV4 : World.alloc V3 _ = V4
  have hb4 : Below V3.heap.size V3 V4 := by subst hV4; exact up_alloc _ _
  have KB : Bk V4 V3.heap.size [.int .i64 m.r0, .int .i64 m.r1, .int .i64 m.r2, .int .i64 m.r3, .int .i64 m.r4, .int .i64 m.r5] := ⟨by subst hV4; simp, by subst hV4; intro j; simp [go_sem]⟩
  clear hV4 FX0
  clear KMl KMc KXl KXc
  have HB4 := Lib.hid hb4
  replace HFX := Lib.hid (fun j => (HB4.out.frozen (p := ⟨w.heap.size + 1, j, none⟩) KX.lt).trans (HFX.out j))
  replace KM := KM.keep HB4.out
  replace KX := KX.keep HB4.out
  replace HG := Lib.hid (HG.out.keep HB4.out)
  clear hb4
  by_cases hE2 : E2 = 0
  rotate_left
  · have b0 : (E2 == 0) = false := by simpa using hE2
    have b1 : (E2 != 0) = true := by simpa using hE2
    have HE := Lib.hid hE2
    have FX1 := HFX.out
    clear hE2
    have KMl := KM.lt; have KMc := KM.get; have KXl := KX.lt; have KXc := KX.get
    go_wp2
    have P := put7 V4 (w.heap.size + 1) (.int .i64 0) (.int .i64 0) (.int .i64 0) (.int .i64 0) (.int .i64 0) (.int .i64 0) (.slice none 0 0) (bk_some (KX))
    have O := own_put7 (w := V4) (World.ownsRow_nil V4 (w.heap.size + 2) 30 7) (b := w.heap.size + 1) (by omega) (.int .i64 0) (.int .i64 0) (.int .i64 0) (.int .i64 0) (.int .i64 0) (.int .i64 0) (.slice none 0 0)
    have BB := put7_below (w := V4) (up HW.out (up HB1.out (up HB3.out HB4.out))) (by omega : _ ≤ w.heap.size + 1) (.int .i64 0) (.int .i64 0) (.int .i64 0) (.int .i64 0) (.int .i64 0) (.int .i64 0) (.slice none 0 0)
    generalize World.setCell _ ⟨w.heap.size + 1, 6, none⟩ _ = U at P O BB ⊢
    have p0 := P 0 (by omega); have p1 := P 1 (by omega); have p2 := P 2 (by omega); have p3 := P 3 (by omega); have p4 := P 4 (by omega); have p5 := P 5 (by omega); have p6 := P 6 (by omega)
    clear P
    simp at p0 p1 p2 p3 p4 p5 p6
    refine bodyPost_ret (v := .tuple #[.agg #[.int .i64 0, .int .i64 0, .int .i64 0, .int .i64 0, .int .i64 0, .int .i64 0, .slice none 0 0], .int .i64 E2]) (by simp [results, Try.results41, go_sem, p0, p1, p2, p3, p4, p5, p6]) rfl ?_
    clear p0 p1 p2 p3 p4 p5 p6
    refine ⟨none, 0, 0, ?_, Nat.le_refl _, ?_, BB⟩
    · rw [HEF.out]; simp only [cv_e HE.out]
    · rw [HT.out, HEF.out, cg_e HE.out]; exact ⟨rfl, by decide, fun k hk => by simp at hk⟩
  subst hE2
  have FX1 := HFX.out
  have hxl := KX.lt
  have hlen : (insG (m.giv x) gs).length ≤ 100000 := by rw [ins_len]; have := Hl.out; omega
  have KMl := KM.lt; have KMc := KM.get; have KBl := KB.lt; have KBc := KB.get
  go_wp2_with (go_at_call 90; refine (with_any w0 w1 w2 w3 w4 F A n c gs (m.giv x) V4 HG.out hnc h40).mono ?_; rintro e x5 ⟨B, k', c', rfl, hkc, hown, hb5⟩; have Hown := Lib.hid hown; have HB5 := Lib.hid hb5; have KX5 := KX.keep hb5; have KX5c := KX5.get; have FX5 : ∀ j, x5.frozen? ⟨w.heap.size + 1, j, none⟩ = false := fun j => (hb5.frozen (p := ⟨w.heap.size + 1, j, none⟩) hxl).trans (FX1 j); clear hown hb5)
  have P := put7 x5 (w.heap.size + 1) (.int .i64 w0) (.int .i64 w1) (.int .i64 w2) (.int .i64 w3) (.int .i64 w4) (.int .i64 F) (.slice B k' c') (bk_some (KX5))
  have O := own_put7 (w := x5) (Hown.out) (b := w.heap.size + 1) (by omega) (.int .i64 w0) (.int .i64 w1) (.int .i64 w2) (.int .i64 w3) (.int .i64 w4) (.int .i64 F) (.slice B k' c')
  have BB := put7_below (w := x5) (up HW.out (up HB1.out (up HB3.out (up HB4.out HB5.out)))) (by omega : _ ≤ w.heap.size + 1) (.int .i64 w0) (.int .i64 w1) (.int .i64 w2) (.int .i64 w3) (.int .i64 w4) (.int .i64 F) (.slice B k' c')
  generalize World.setCell _ ⟨w.heap.size + 1, 6, none⟩ _ = U at P O BB ⊢
  have p0 := P 0 (by omega); have p1 := P 1 (by omega); have p2 := P 2 (by omega); have p3 := P 3 (by omega); have p4 := P 4 (by omega); have p5 := P 5 (by omega); have p6 := P 6 (by omega)
  clear P
  simp at p0 p1 p2 p3 p4 p5 p6
  refine bodyPost_ret (v := .tuple #[.agg #[.int .i64 w0, .int .i64 w1, .int .i64 w2, .int .i64 w3, .int .i64 w4, .int .i64 F, .slice B k' c'], .int .i64 0]) (by simp [results, Try.results41, go_sem, p0, p1, p2, p3, p4, p5, p6]) rfl ?_
  clear p0 p1 p2 p3 p4 p5 p6
  refine ⟨B, k', c', ?_, hkc, ?_, BB⟩
  · rw [HEF.out]; rfl
  · rw [HT.out, HEF.out]; exact gs_own O hlen

set_option maxHeartbeats 600000 in
theorem refGive_any (w0 w1 w2 w3 w4 F x : Int) (A : Option Addr) (n c : Nat) (gs : List Giv) (w : World) (hg : Gs w A n gs) (hnc : n ≤ c) :
    Calls Try.prog 42 #[.agg #[.int .i64 w0, .int .i64 w1, .int .i64 w2, .int .i64 w3, .int .i64 w4, .int .i64 F, .slice A n c], .int .i64 x] w fun e w' =>
      ∃ B k c', e = .returned (.tuple #[.agg #[.int .i64 (cv (giveE w0 w1 w2 w3 w4 F gs x) w0), .int .i64 (cv (giveE w0 w1 w2 w3 w4 F gs x) w1), .int .i64 (cv (giveE w0 w1 w2 w3 w4 F gs x) w2), .int .i64 (cv (giveE w0 w1 w2 w3 w4 F gs x) w3), .int .i64 (cv (giveE w0 w1 w2 w3 w4 F gs x) w4), .int .i64 (cv (giveE w0 w1 w2 w3 w4 F gs x) F), .slice B k c'], .int .i64 (giveE w0 w1 w2 w3 w4 F gs x)]) ∧ k ≤ c' ∧ Gs w' B k (giveL w0 w1 w2 w3 w4 F gs x) ∧ Below w.heap.size w w' := by
  have Hl : Hid (n = gs.length) := Lib.hid hg.len
  go_enter Try.func42, Try.ntmps42
  go_wp2_with fail
  generalize hW : (World.alloc _ _) = W
  have HW : Hid (Below w.heap.size w W) := Lib.hid (by subst hW; go_grown)
  have KM : Bk W w.heap.size [.int .i64 w0, .int .i64 w1, .int .i64 w2, .int .i64 w3, .int .i64 w4, .int .i64 F, .slice A n c] := ⟨by subst hW; simp only [World.size_alloc]; omega, by subst hW; intro j; simp [go_sem]⟩
  have KX : Bk W (w.heap.size + 1) [.int .i64 0, .int .i64 0, .int .i64 0, .int .i64 0, .int .i64 0, .int .i64 0, .slice none 0 0] := ⟨by subst hW; simp only [World.size_alloc]; omega, by subst hW; intro j; simp [go_sem]⟩
  have HFX : Hid (∀ j, W.frozen? ⟨w.heap.size + 1, j, none⟩ = false) := Lib.hid (by subst hW; intro j; simp [go_sem])
  clear hW
  have HG := Lib.hid (hg.keep HW.out)
  clear hg
  refine (refAsked_any w0 w1 w2 w3 w4 F x A n c gs W HG.out).mono ?_
  rintro e V0 ⟨rfl, hb1⟩
  have HEE : Hid (giveE w0 w1 w2 w3 w4 F gs x = if newE w0 w1 w2 w3 w4 F gs x = 0 then (nextR w0 w1 w2 w3 w4 F gs).2 else newE w0 w1 w2 w3 w4 F gs x) := Lib.hid rfl
  have HT : Hid (giveL w0 w1 w2 w3 w4 F gs x = cg (giveE w0 w1 w2 w3 w4 F gs x) (insG ((nextR w0 w1 w2 w3 w4 F gs).1.giv x) gs)) := Lib.hid rfl
  have HF : Hid (newE w0 w1 w2 w3 w4 F gs x = 0 → okB w0 w1 w2 w3 w4 F gs = true ∧ (1 ≤ x ∧ x ≤ 99) ∧ pos (own gs) x 0 < 0) := Lib.hid newE_ok
  have HEv := Lib.hid (newE_ref w0 w1 w2 w3 w4 F x gs)
  generalize (if okB w0 w1 w2 w3 w4 F gs = true then if 1 ≤ x ∧ x ≤ 99 then (0 : Int) else 15 else 13) = E0 at *
  generalize newE w0 w1 w2 w3 w4 F gs x = E at *
  have HB0 := Lib.hid hb1
  replace HFX := Lib.hid (fun j => (HB0.out.frozen (p := ⟨w.heap.size + 1, j, none⟩) KX.lt).trans (HFX.out j))
  replace KM := KM.keep HB0.out
  replace KX := KX.keep HB0.out
  replace HG := Lib.hid (HG.out.keep HB0.out)
  clear hb1
  by_cases hE0 : E0 = 0
  rotate_left
  · have HE0 : Hid (E = E0) := Lib.hid (by rw [HEv.out, if_neg hE0])
    have hE : E0 ≠ 0 := hE0
    have HEq := HE0.out
    subst HEq
    clear hE0 HE0 HEv
    have b0 : (E == 0) = false := by simpa using hE
    have b1 : (E != 0) = true := by simpa using hE
    have HE := Lib.hid hE
    have FX1 := HFX.out
    clear hE
    have KMl := KM.lt; have KMc := KM.get; have KXl := KX.lt; have KXc := KX.get
    go_wp2
    have P := put7 V0 (w.heap.size + 1) (.int .i64 0) (.int .i64 0) (.int .i64 0) (.int .i64 0) (.int .i64 0) (.int .i64 0) (.slice none 0 0) (bk_some (KX))
    have O := own_put7 (w := V0) (World.ownsRow_nil V0 (w.heap.size + 2) 30 7) (b := w.heap.size + 1) (by omega) (.int .i64 0) (.int .i64 0) (.int .i64 0) (.int .i64 0) (.int .i64 0) (.int .i64 0) (.slice none 0 0)
    have BB := put7_below (w := V0) (up HW.out HB0.out) (by omega : _ ≤ w.heap.size + 1) (.int .i64 0) (.int .i64 0) (.int .i64 0) (.int .i64 0) (.int .i64 0) (.int .i64 0) (.slice none 0 0)
    generalize World.setCell _ ⟨w.heap.size + 1, 6, none⟩ _ = U at P O BB ⊢
    have p0 := P 0 (by omega); have p1 := P 1 (by omega); have p2 := P 2 (by omega); have p3 := P 3 (by omega); have p4 := P 4 (by omega); have p5 := P 5 (by omega); have p6 := P 6 (by omega)
    clear P
    simp at p0 p1 p2 p3 p4 p5 p6
    refine bodyPost_ret (v := .tuple #[.agg #[.int .i64 0, .int .i64 0, .int .i64 0, .int .i64 0, .int .i64 0, .int .i64 0, .slice none 0 0], .int .i64 E]) (by simp [results, Try.results42, go_sem, p0, p1, p2, p3, p4, p5, p6]) rfl ?_
    clear p0 p1 p2 p3 p4 p5 p6
    have HEF : Hid (giveE w0 w1 w2 w3 w4 F gs x = E) := Lib.hid (by rw [HEE.out, if_neg HE.out])
    refine ⟨none, 0, 0, ?_, Nat.le_refl _, ?_, BB⟩
    · rw [HEF.out]; simp only [cv_e HE.out]
    · rw [HT.out, HEF.out, cg_e HE.out]; exact ⟨rfl, by decide, fun k hk => by simp at hk⟩
  subst hE0
  have KMl := KM.lt; have KMc := KM.get; have KXl := KX.lt; have KXc := KX.get
  go_wp2_with fail
  refine (refIndex_any w0 w1 w2 w3 w4 F x A n c gs V0 HG.out).mono ?_
  rintro e V ⟨rfl, hb2⟩
  clear KMl KMc KXl KXc
  have HB0' := Lib.hid hb2
  have HB2 := Lib.hid hb2
  replace HFX := Lib.hid (fun j => (HB2.out.frozen (p := ⟨w.heap.size + 1, j, none⟩) KX.lt).trans (HFX.out j))
  replace KM := KM.keep HB2.out
  replace KX := KX.keep HB2.out
  replace HG := Lib.hid (HG.out.keep HB2.out)
  clear hb2
  have HB1 := Lib.hid (up HB0.out HB2.out)
  have HPe : Hid (pos (own gs) x 0 = pos (own gs) x 0) := Lib.hid rfl
  generalize hP : pos (own gs) x 0 = P0 at *
  by_cases hp : 0 ≤ P0
  · have HE : Hid (E = 15) := Lib.hid (by rw [HEv.out]; simp [hp])
    clear hP
    have hp' : ¬ P0 < 0 := by omega
    have FX1 := HFX.out
    have KMl := KM.lt; have KMc := KM.get; have KXl := KX.lt; have KXc := KX.get
    go_wp2
    have P := put7 V (w.heap.size + 1) (.int .i64 0) (.int .i64 0) (.int .i64 0) (.int .i64 0) (.int .i64 0) (.int .i64 0) (.slice none 0 0) (bk_some (KX))
    have O := own_put7 (w := V) (World.ownsRow_nil V (w.heap.size + 2) 30 7) (b := w.heap.size + 1) (by omega) (.int .i64 0) (.int .i64 0) (.int .i64 0) (.int .i64 0) (.int .i64 0) (.int .i64 0) (.slice none 0 0)
    have BB := put7_below (w := V) (up HW.out HB1.out) (by omega : _ ≤ w.heap.size + 1) (.int .i64 0) (.int .i64 0) (.int .i64 0) (.int .i64 0) (.int .i64 0) (.int .i64 0) (.slice none 0 0)
    generalize World.setCell _ ⟨w.heap.size + 1, 6, none⟩ _ = U at P O BB ⊢
    have p0 := P 0 (by omega); have p1 := P 1 (by omega); have p2 := P 2 (by omega); have p3 := P 3 (by omega); have p4 := P 4 (by omega); have p5 := P 5 (by omega); have p6 := P 6 (by omega)
    clear P
    simp at p0 p1 p2 p3 p4 p5 p6
    refine bodyPost_ret (v := .tuple #[.agg #[.int .i64 0, .int .i64 0, .int .i64 0, .int .i64 0, .int .i64 0, .int .i64 0, .slice none 0 0], .int .i64 15]) (by simp [results, Try.results42, go_sem, p0, p1, p2, p3, p4, p5, p6]) rfl ?_
    clear p0 p1 p2 p3 p4 p5 p6
    have HEF : Hid (giveE w0 w1 w2 w3 w4 F gs x = 15) := Lib.hid (by rw [HEE.out, HE.out]; rfl)
    refine ⟨none, 0, 0, ?_, Nat.le_refl _, ?_, BB⟩
    · rw [HEF.out]; rfl
    · rw [HT.out, HEF.out]; exact ⟨rfl, by decide, fun k hk => by simp [cg] at hk⟩
  have HE : E = 0 := by rw [HEv.out]; simp [hp]
  subst HE
  obtain ⟨hok, _, hps⟩ := HF.out rfl
  have h40 : n ≤ 40 := by have := Hl.out; have := okB_40 hok; omega
  have Hne := Lib.hid (pos_none gs x 0 (by rw [hP]; exact hps))
  have hp' : P0 < 0 := hps
  clear hok hps HF hP hp HEv
  have KMl := KM.lt; have KMc := KM.get; have KXl := KX.lt; have KXc := KX.get
  go_wp2_with fail
  refine (refNext_any w0 w1 w2 w3 w4 F A n c gs V HG.out).mono ?_
  rintro e V3 ⟨rfl, hb3⟩
  clear KMl KMc KXl KXc
  have HB3 := Lib.hid hb3
  replace HFX := Lib.hid (fun j => (HB3.out.frozen (p := ⟨w.heap.size + 1, j, none⟩) KX.lt).trans (HFX.out j))
  replace KM := KM.keep HB3.out
  replace KX := KX.keep HB3.out
  replace HG := Lib.hid (HG.out.keep HB3.out)
  clear hb3
  generalize hnx : nextR w0 w1 w2 w3 w4 F gs = N at *
  obtain ⟨m, E2⟩ := N
  have HEF : Hid (giveE w0 w1 w2 w3 w4 F gs x = E2) := Lib.hid (by rw [HEE.out]; simp)
  clear hnx HEE
  unfold encR
  dsimp only
  have FX0 := HFX.out
  have KMl := KM.lt; have KMc := KM.get; have KXl := KX.lt; have KXc := KX.get
  go_upto_region 7 with (fail)
  generalize hV4 : World.alloc V3 _ = V4
  have hb4 : Below V3.heap.size V3 V4 := by subst hV4; exact up_alloc _ _
  have KB : Bk V4 V3.heap.size [.int .i64 m.r0, .int .i64 m.r1, .int .i64 m.r2, .int .i64 m.r3, .int .i64 m.r4, .int .i64 m.r5] := ⟨by subst hV4; simp, by subst hV4; intro j; simp [go_sem]⟩
  clear hV4 FX0
  clear KMl KMc KXl KXc
  have HB4 := Lib.hid hb4
  replace HFX := Lib.hid (fun j => (HB4.out.frozen (p := ⟨w.heap.size + 1, j, none⟩) KX.lt).trans (HFX.out j))
  replace KM := KM.keep HB4.out
  replace KX := KX.keep HB4.out
  replace HG := Lib.hid (HG.out.keep HB4.out)
  clear hb4
  by_cases hE2 : E2 = 0
  rotate_left
  · have b0 : (E2 == 0) = false := by simpa using hE2
    have b1 : (E2 != 0) = true := by simpa using hE2
    have HE := Lib.hid hE2
    have FX1 := HFX.out
    clear hE2
    have KMl := KM.lt; have KMc := KM.get; have KXl := KX.lt; have KXc := KX.get
    go_wp2
    have P := put7 V4 (w.heap.size + 1) (.int .i64 0) (.int .i64 0) (.int .i64 0) (.int .i64 0) (.int .i64 0) (.int .i64 0) (.slice none 0 0) (bk_some (KX))
    have O := own_put7 (w := V4) (World.ownsRow_nil V4 (w.heap.size + 2) 30 7) (b := w.heap.size + 1) (by omega) (.int .i64 0) (.int .i64 0) (.int .i64 0) (.int .i64 0) (.int .i64 0) (.int .i64 0) (.slice none 0 0)
    have BB := put7_below (w := V4) (up HW.out (up HB1.out (up HB3.out HB4.out))) (by omega : _ ≤ w.heap.size + 1) (.int .i64 0) (.int .i64 0) (.int .i64 0) (.int .i64 0) (.int .i64 0) (.int .i64 0) (.slice none 0 0)
    generalize World.setCell _ ⟨w.heap.size + 1, 6, none⟩ _ = U at P O BB ⊢
    have p0 := P 0 (by omega); have p1 := P 1 (by omega); have p2 := P 2 (by omega); have p3 := P 3 (by omega); have p4 := P 4 (by omega); have p5 := P 5 (by omega); have p6 := P 6 (by omega)
    clear P
    simp at p0 p1 p2 p3 p4 p5 p6
    refine bodyPost_ret (v := .tuple #[.agg #[.int .i64 0, .int .i64 0, .int .i64 0, .int .i64 0, .int .i64 0, .int .i64 0, .slice none 0 0], .int .i64 E2]) (by simp [results, Try.results42, go_sem, p0, p1, p2, p3, p4, p5, p6]) rfl ?_
    clear p0 p1 p2 p3 p4 p5 p6
    refine ⟨none, 0, 0, ?_, Nat.le_refl _, ?_, BB⟩
    · rw [HEF.out]; simp only [cv_e HE.out]
    · rw [HT.out, HEF.out, cg_e HE.out]; exact ⟨rfl, by decide, fun k hk => by simp at hk⟩
  subst hE2
  have FX1 := HFX.out
  have hxl := KX.lt
  have hlen : (insG (m.giv x) gs).length ≤ 100000 := by rw [ins_len]; have := Hl.out; omega
  have KMl := KM.lt; have KMc := KM.get; have KBl := KB.lt; have KBc := KB.get
  go_wp2_with (go_at_call 91; refine (refWith_any w0 w1 w2 w3 w4 F A n c gs (m.giv x) V4 HG.out hnc h40 Hne.out).mono ?_; rintro e x5 ⟨B, k', c', rfl, hkc, hown, hb5⟩; have Hown := Lib.hid hown; have HB5 := Lib.hid hb5; have KX5 := KX.keep hb5; have KX5c := KX5.get; have FX5 : ∀ j, x5.frozen? ⟨w.heap.size + 1, j, none⟩ = false := fun j => (hb5.frozen (p := ⟨w.heap.size + 1, j, none⟩) hxl).trans (FX1 j); clear hown hb5)
  have P := put7 x5 (w.heap.size + 1) (.int .i64 w0) (.int .i64 w1) (.int .i64 w2) (.int .i64 w3) (.int .i64 w4) (.int .i64 F) (.slice B k' c') (bk_some (KX5))
  have O := own_put7 (w := x5) (Hown.out) (b := w.heap.size + 1) (by omega) (.int .i64 w0) (.int .i64 w1) (.int .i64 w2) (.int .i64 w3) (.int .i64 w4) (.int .i64 F) (.slice B k' c')
  have BB := put7_below (w := x5) (up HW.out (up HB1.out (up HB3.out (up HB4.out HB5.out)))) (by omega : _ ≤ w.heap.size + 1) (.int .i64 w0) (.int .i64 w1) (.int .i64 w2) (.int .i64 w3) (.int .i64 w4) (.int .i64 F) (.slice B k' c')
  generalize World.setCell _ ⟨w.heap.size + 1, 6, none⟩ _ = U at P O BB ⊢
  have p0 := P 0 (by omega); have p1 := P 1 (by omega); have p2 := P 2 (by omega); have p3 := P 3 (by omega); have p4 := P 4 (by omega); have p5 := P 5 (by omega); have p6 := P 6 (by omega)
  clear P
  simp at p0 p1 p2 p3 p4 p5 p6
  refine bodyPost_ret (v := .tuple #[.agg #[.int .i64 w0, .int .i64 w1, .int .i64 w2, .int .i64 w3, .int .i64 w4, .int .i64 F, .slice B k' c'], .int .i64 0]) (by simp [results, Try.results42, go_sem, p0, p1, p2, p3, p4, p5, p6]) rfl ?_
  clear p0 p1 p2 p3 p4 p5 p6
  refine ⟨B, k', c', ?_, hkc, ?_, BB⟩
  · rw [HEF.out]; rfl
  · rw [HT.out, HEF.out]; exact gs_own O hlen
end Go.Proofs.Ytbieopkohkomoaa

namespace Go.Proofs.Ytbieopkohkomoaa
open Go Go.RowKit
set_option maxHeartbeats 400000
set_option maxRecDepth 100000

def addE0 (w0 w1 w2 w3 w4 F : Int) (gs : List Giv) (g : Giv) : Int := firstE [newE w0 w1 w2 w3 w4 F gs g.o, err g.okB 10]
def addE (w0 w1 w2 w3 w4 F : Int) (gs : List Giv) (g : Giv) : Int := if addE0 w0 w1 w2 w3 w4 F gs g = 0 then (if gs.length = 40 then 16 else if nearB w0 w1 w2 w3 w4 F g.m0 g.m1 g.m2 g.m3 g.m4 g.m5 gs = true then 19 else 0) else addE0 w0 w1 w2 w3 w4 F gs g
def addL (w0 w1 w2 w3 w4 F : Int) (gs : List Giv) (g : Giv) : List Giv := cg (addE w0 w1 w2 w3 w4 F gs g) (insG g gs)

set_option maxHeartbeats 600000 in
theorem add_any (w0 w1 w2 w3 w4 F : Int) (A : Option Addr) (n c : Nat) (gs : List Giv) (g : Giv) (w : World) (hg : Gs w A n gs) (hnc : n ≤ c) :
    Calls Try.prog 43 #[.agg #[.int .i64 w0, .int .i64 w1, .int .i64 w2, .int .i64 w3, .int .i64 w4, .int .i64 F, .slice A n c], .agg #[.int .i64 g.o, .int .i64 g.m0, .int .i64 g.m1, .int .i64 g.m2, .int .i64 g.m3, .int .i64 g.m4, .int .i64 g.m5]] w fun e w' =>
      ∃ B k c', e = .returned (.tuple #[.agg #[.int .i64 (cv (addE w0 w1 w2 w3 w4 F gs g) w0), .int .i64 (cv (addE w0 w1 w2 w3 w4 F gs g) w1), .int .i64 (cv (addE w0 w1 w2 w3 w4 F gs g) w2), .int .i64 (cv (addE w0 w1 w2 w3 w4 F gs g) w3), .int .i64 (cv (addE w0 w1 w2 w3 w4 F gs g) w4), .int .i64 (cv (addE w0 w1 w2 w3 w4 F gs g) F), .slice B k c'], .int .i64 (addE w0 w1 w2 w3 w4 F gs g)]) ∧ k ≤ c' ∧ Gs w' B k (addL w0 w1 w2 w3 w4 F gs g) ∧ Below w.heap.size w w' := by
  have Hl : Hid (n = gs.length) := Lib.hid hg.len
  go_enter Try.func43, Try.ntmps43
  go_wp2_with fail
  generalize hW : (World.alloc _ _) = W
  have HW : Hid (Below w.heap.size w W) := Lib.hid (by subst hW; go_grown)
  have KM : Bk W w.heap.size [.int .i64 w0, .int .i64 w1, .int .i64 w2, .int .i64 w3, .int .i64 w4, .int .i64 F, .slice A n c] := ⟨by subst hW; simp only [World.size_alloc]; omega, by subst hW; intro j; simp [go_sem]⟩
  have KG : Bk W (w.heap.size + 1) [.int .i64 g.o, .int .i64 g.m0, .int .i64 g.m1, .int .i64 g.m2, .int .i64 g.m3, .int .i64 g.m4, .int .i64 g.m5] := ⟨by subst hW; simp only [World.size_alloc]; omega, by subst hW; intro j; simp [go_sem]⟩
  have KX : Bk W (w.heap.size + 2) [.int .i64 0, .int .i64 0, .int .i64 0, .int .i64 0, .int .i64 0, .int .i64 0, .slice none 0 0] := ⟨by subst hW; simp only [World.size_alloc]; omega, by subst hW; intro j; simp [go_sem]⟩
  have HFX : Hid (∀ j, W.frozen? ⟨w.heap.size + 2, j, none⟩ = false) := Lib.hid (by subst hW; intro j; simp [go_sem])
  clear hW
  have HG := Lib.hid (hg.keep HW.out)
  clear hg
  have HEE : Hid (addE w0 w1 w2 w3 w4 F gs g = if addE0 w0 w1 w2 w3 w4 F gs g = 0 then (if gs.length = 40 then 16 else if nearB w0 w1 w2 w3 w4 F g.m0 g.m1 g.m2 g.m3 g.m4 g.m5 gs = true then 19 else 0) else addE0 w0 w1 w2 w3 w4 F gs g) := Lib.hid rfl
  have HT : Hid (addL w0 w1 w2 w3 w4 F gs g = cg (addE w0 w1 w2 w3 w4 F gs g) (insG g gs)) := Lib.hid rfl
  have HE0 : Hid (firstE [newE w0 w1 w2 w3 w4 F gs g.o, err (okM g.m0 g.m1 g.m2 g.m3 g.m4 g.m5) 10] = addE0 w0 w1 w2 w3 w4 F gs g) := Lib.hid rfl
  have HF : Hid (addE0 w0 w1 w2 w3 w4 F gs g = 0 → newE w0 w1 w2 w3 w4 F gs g.o = 0 ∧ g.okB = true) := Lib.hid (fun h => by
    unfold addE0 at h
    obtain ⟨h1, h2⟩ := firstE2_0 h
    exact ⟨h1, err_0 (by decide) h2⟩)
  have HNE : Hid (newE w0 w1 w2 w3 w4 F gs g.o = 0 → okB w0 w1 w2 w3 w4 F gs = true ∧ (1 ≤ g.o ∧ g.o ≤ 99) ∧ pos (own gs) g.o 0 < 0) := Lib.hid newE_ok
  have KMl := KM.lt; have KMc := KM.get; have KGl := KG.lt; have KGc := KG.get
  refine wp_region_grow_tail 7 (by kernel_rfl) (by kernel_rfl) ?_
  simp only [List.take_succ_cons, List.take_zero, List.drop_succ_cons, List.drop_zero]
  repeat (go_big_quiet_step ((first | (go_at_call 89; exact quiet_grow rfl (checkNew_any _ _ _ _ _ _ _ _ _ _ gs _ (HG.out.keep (by first | exact Below.refl _ _ | exact grow_below _ _)) hnc)) | (go_at_call 14; exact quiet_grow rfl (checkMark_any _ _ _ _ _ _ _)))))
  refine wpQuiet_nil ?_
  intro z
  have hbz := grow_below W z
  generalize grow W z = V at *
  clear KMl KMc KGl KGc
  have HB1 := Lib.hid hbz
  replace HFX := Lib.hid (fun j => (HB1.out.frozen (p := ⟨w.heap.size + 2, j, none⟩) KX.lt).trans (HFX.out j))
  replace KM := KM.keep HB1.out
  replace KG := KG.keep HB1.out
  replace KX := KX.keep HB1.out
  replace HG := Lib.hid (HG.out.keep HB1.out)
  clear hbz
  have KMl := KM.lt; have KMc := KM.get; have KGl := KG.lt; have KGc := KG.get
  go_wp2_with fail
  refine (first_any _ _ _ _ _ (is2 _ _ _ _ _ (by simp))).mono ?_
  rintro e x1 ⟨rfl, rfl⟩
  rw [HE0.out]
  generalize hV1 : World.alloc V _ = V1
  have hb2 : Below V.heap.size V V1 := by subst hV1; exact up_alloc _ _
  clear hV1
  clear KMl KMc KGl KGc
  have HB2 := Lib.hid hb2
  replace HFX := Lib.hid (fun j => (HB2.out.frozen (p := ⟨w.heap.size + 2, j, none⟩) KX.lt).trans (HFX.out j))
  replace KM := KM.keep HB2.out
  replace KG := KG.keep HB2.out
  replace KX := KX.keep HB2.out
  replace HG := Lib.hid (HG.out.keep HB2.out)
  clear hb2
  generalize addE0 w0 w1 w2 w3 w4 F gs g = E at *
  by_cases hE : E = 0
  rotate_left
  · have b0 : (E == 0) = false := by simpa using hE
    have b1 : (E != 0) = true := by simpa using hE
    have HE := Lib.hid hE
    clear hE
    have FX1 := HFX.out
    have KMl := KM.lt; have KMc := KM.get; have KGl := KG.lt; have KGc := KG.get; have KXl := KX.lt; have KXc := KX.get
    go_wp2
    have P := put7 V1 (w.heap.size + 1 + 1) (.int .i64 0) (.int .i64 0) (.int .i64 0) (.int .i64 0) (.int .i64 0) (.int .i64 0) (.slice none 0 0) (bk_some (KX))
    have O := own_put7 (w := V1) (World.ownsRow_nil V1 (w.heap.size + 3) 30 7) (b := w.heap.size + 1 + 1) (by omega) (.int .i64 0) (.int .i64 0) (.int .i64 0) (.int .i64 0) (.int .i64 0) (.int .i64 0) (.slice none 0 0)
    have BB := put7_below (w := V1) (up HW.out (up HB1.out HB2.out)) (by omega : _ ≤ w.heap.size + 1 + 1) (.int .i64 0) (.int .i64 0) (.int .i64 0) (.int .i64 0) (.int .i64 0) (.int .i64 0) (.slice none 0 0)
    generalize World.setCell _ ⟨w.heap.size + 1 + 1, 6, none⟩ _ = U at P O BB ⊢
    have p0 := P 0 (by omega); have p1 := P 1 (by omega); have p2 := P 2 (by omega); have p3 := P 3 (by omega); have p4 := P 4 (by omega); have p5 := P 5 (by omega); have p6 := P 6 (by omega)
    clear P
    simp at p0 p1 p2 p3 p4 p5 p6
    refine bodyPost_ret (v := .tuple #[.agg #[.int .i64 0, .int .i64 0, .int .i64 0, .int .i64 0, .int .i64 0, .int .i64 0, .slice none 0 0], .int .i64 E]) (by simp [results, Try.results43, go_sem, p0, p1, p2, p3, p4, p5, p6]) rfl ?_
    clear p0 p1 p2 p3 p4 p5 p6
    have HEF : Hid (addE w0 w1 w2 w3 w4 F gs g = E) := Lib.hid (by rw [HEE.out, if_neg HE.out])
    have HEn : Hid ((E : Int) ≠ 0) := Lib.hid (HE.out)
    refine ⟨none, 0, 0, ?_, Nat.le_refl _, ?_, BB⟩
    · rw [HEF.out]; simp only [cv_e HEn.out]
    · rw [HT.out, HEF.out, cg_e HEn.out]; exact ⟨rfl, by decide, fun k hk => by simp at hk⟩
  subst hE
  obtain ⟨hnew, hgo⟩ := HF.out rfl
  obtain ⟨hok, _, hps⟩ := HNE.out hnew
  have h40 : n ≤ 40 := by have := Hl.out; have := okB_40 hok; omega
  obtain ⟨⟨m0, k0⟩, ⟨m1, k1⟩, ⟨m2, k2⟩, ⟨m3, k3⟩, ⟨m4, k4⟩, ⟨m5, k5⟩⟩ := Giv.ok_of hgo
  obtain ⟨how, hF0, hF2⟩ := okB_F hok
  have Hok := Lib.hid (okB_ok hok)
  clear hnew hgo hok hps how HF HNE HE0
  by_cases hn40 : n = 40
  · have HL : Hid (gs.length = 40) := Lib.hid (by rw [← Hl.out]; exact hn40)
    subst hn40
    have FX1 := HFX.out
    have KMl := KM.lt; have KMc := KM.get; have KGl := KG.lt; have KGc := KG.get; have KXl := KX.lt; have KXc := KX.get
    go_wp2
    have P := put7 V1 (w.heap.size + 1 + 1) (.int .i64 0) (.int .i64 0) (.int .i64 0) (.int .i64 0) (.int .i64 0) (.int .i64 0) (.slice none 0 0) (bk_some (KX))
    have O := own_put7 (w := V1) (World.ownsRow_nil V1 (w.heap.size + 3) 30 7) (b := w.heap.size + 1 + 1) (by omega) (.int .i64 0) (.int .i64 0) (.int .i64 0) (.int .i64 0) (.int .i64 0) (.int .i64 0) (.slice none 0 0)
    have BB := put7_below (w := V1) (up HW.out (up HB1.out HB2.out)) (by omega : _ ≤ w.heap.size + 1 + 1) (.int .i64 0) (.int .i64 0) (.int .i64 0) (.int .i64 0) (.int .i64 0) (.int .i64 0) (.slice none 0 0)
    generalize World.setCell _ ⟨w.heap.size + 1 + 1, 6, none⟩ _ = U at P O BB ⊢
    have p0 := P 0 (by omega); have p1 := P 1 (by omega); have p2 := P 2 (by omega); have p3 := P 3 (by omega); have p4 := P 4 (by omega); have p5 := P 5 (by omega); have p6 := P 6 (by omega)
    clear P
    simp at p0 p1 p2 p3 p4 p5 p6
    refine bodyPost_ret (v := .tuple #[.agg #[.int .i64 0, .int .i64 0, .int .i64 0, .int .i64 0, .int .i64 0, .int .i64 0, .slice none 0 0], .int .i64 16]) (by simp [results, Try.results43, go_sem, p0, p1, p2, p3, p4, p5, p6]) rfl ?_
    clear p0 p1 p2 p3 p4 p5 p6
    have HEF : Hid (addE w0 w1 w2 w3 w4 F gs g = 16) := Lib.hid (by rw [HEE.out, HL.out]; rfl)
    have HEn : Hid ((16 : Int) ≠ 0) := Lib.hid (by decide)
    refine ⟨none, 0, 0, ?_, Nat.le_refl _, ?_, BB⟩
    · rw [HEF.out]; simp only [cv_e HEn.out]
    · rw [HT.out, HEF.out, cg_e HEn.out]; exact ⟨rfl, by decide, fun k hk => by simp at hk⟩
  have HL : Hid (gs.length ≠ 40) := Lib.hid (by rw [← Hl.out]; exact hn40)
  have hn40' : ((n : Int) == 40) = false := by rw [beq_eq_false_iff_ne]; omega
  have hn41 : (n == 40) = false := by simpa using hn40
  clear hn40
  have KMl := KM.lt; have KMc := KM.get; have KGl := KG.lt; have KGc := KG.get
  go_wp2_with fail
  refine (near_any w0 w1 w2 w3 w4 F g.m0 g.m1 g.m2 g.m3 g.m4 g.m5 A n c gs V1 m0 k0 m1 k1 m2 k2 m3 k3 m4 k4 m5 k5 hF0 hF2 HG.out Hok.out).mono ?_
  rintro e V2 ⟨rfl, hb3⟩
  clear KMl KMc KGl KGc
  have HB3 := Lib.hid hb3
  replace HFX := Lib.hid (fun j => (HB3.out.frozen (p := ⟨w.heap.size + 2, j, none⟩) KX.lt).trans (HFX.out j))
  replace KM := KM.keep HB3.out
  replace KG := KG.keep HB3.out
  replace KX := KX.keep HB3.out
  replace HG := Lib.hid (HG.out.keep HB3.out)
  clear hb3
  generalize hN : nearB w0 w1 w2 w3 w4 F g.m0 g.m1 g.m2 g.m3 g.m4 g.m5 gs = N at *
  cases N
  rotate_left
  · clear hN
    have FX1 := HFX.out
    have KMl := KM.lt; have KMc := KM.get; have KGl := KG.lt; have KGc := KG.get; have KXl := KX.lt; have KXc := KX.get
    go_wp2
    have P := put7 V2 (w.heap.size + 1 + 1) (.int .i64 0) (.int .i64 0) (.int .i64 0) (.int .i64 0) (.int .i64 0) (.int .i64 0) (.slice none 0 0) (bk_some (KX))
    have O := own_put7 (w := V2) (World.ownsRow_nil V2 (w.heap.size + 3) 30 7) (b := w.heap.size + 1 + 1) (by omega) (.int .i64 0) (.int .i64 0) (.int .i64 0) (.int .i64 0) (.int .i64 0) (.int .i64 0) (.slice none 0 0)
    have BB := put7_below (w := V2) (up HW.out (up HB1.out (up HB2.out HB3.out))) (by omega : _ ≤ w.heap.size + 1 + 1) (.int .i64 0) (.int .i64 0) (.int .i64 0) (.int .i64 0) (.int .i64 0) (.int .i64 0) (.slice none 0 0)
    generalize World.setCell _ ⟨w.heap.size + 1 + 1, 6, none⟩ _ = U at P O BB ⊢
    have p0 := P 0 (by omega); have p1 := P 1 (by omega); have p2 := P 2 (by omega); have p3 := P 3 (by omega); have p4 := P 4 (by omega); have p5 := P 5 (by omega); have p6 := P 6 (by omega)
    clear P
    simp at p0 p1 p2 p3 p4 p5 p6
    refine bodyPost_ret (v := .tuple #[.agg #[.int .i64 0, .int .i64 0, .int .i64 0, .int .i64 0, .int .i64 0, .int .i64 0, .slice none 0 0], .int .i64 19]) (by simp [results, Try.results43, go_sem, p0, p1, p2, p3, p4, p5, p6]) rfl ?_
    clear p0 p1 p2 p3 p4 p5 p6
    have HEF : Hid (addE w0 w1 w2 w3 w4 F gs g = 19) := Lib.hid (by rw [HEE.out, if_pos (by trivial), if_neg HL.out]; simp)
    have HEn : Hid ((19 : Int) ≠ 0) := Lib.hid (by decide)
    refine ⟨none, 0, 0, ?_, Nat.le_refl _, ?_, BB⟩
    · rw [HEF.out]; simp only [cv_e HEn.out]
    · rw [HT.out, HEF.out, cg_e HEn.out]; exact ⟨rfl, by decide, fun k hk => by simp at hk⟩
  have HEF : Hid (addE w0 w1 w2 w3 w4 F gs g = 0) := Lib.hid (by rw [HEE.out, if_pos (by trivial), if_neg HL.out]; simp)
  clear hN HEE
  have FX1 := HFX.out
  have hxl := KX.lt
  have hlen : (insG g gs).length ≤ 100000 := by rw [ins_len]; have := Hl.out; omega
  have KMl := KM.lt; have KMc := KM.get; have KGl := KG.lt; have KGc := KG.get
  go_wp2_with (go_at_call 90; refine (with_any w0 w1 w2 w3 w4 F A n c gs g V2 HG.out hnc h40).mono ?_; rintro e x5 ⟨B, k', c', rfl, hkc, hown, hb5⟩; have Hown := Lib.hid hown; have HB5 := Lib.hid hb5; have KX5 := KX.keep hb5; have KX5c := KX5.get; have FX5 : ∀ j, x5.frozen? ⟨w.heap.size + 2, j, none⟩ = false := fun j => (hb5.frozen (p := ⟨w.heap.size + 2, j, none⟩) hxl).trans (FX1 j); clear hown hb5)
  have P := put7 x5 (w.heap.size + 1 + 1) (.int .i64 w0) (.int .i64 w1) (.int .i64 w2) (.int .i64 w3) (.int .i64 w4) (.int .i64 F) (.slice B k' c') (bk_some (KX5))
  have O := own_put7 (w := x5) (Hown.out) (b := w.heap.size + 1 + 1) (by omega) (.int .i64 w0) (.int .i64 w1) (.int .i64 w2) (.int .i64 w3) (.int .i64 w4) (.int .i64 F) (.slice B k' c')
  have BB := put7_below (w := x5) (up HW.out (up HB1.out (up HB2.out (up HB3.out HB5.out)))) (by omega : _ ≤ w.heap.size + 1 + 1) (.int .i64 w0) (.int .i64 w1) (.int .i64 w2) (.int .i64 w3) (.int .i64 w4) (.int .i64 F) (.slice B k' c')
  generalize World.setCell _ ⟨w.heap.size + 1 + 1, 6, none⟩ _ = U at P O BB ⊢
  have p0 := P 0 (by omega); have p1 := P 1 (by omega); have p2 := P 2 (by omega); have p3 := P 3 (by omega); have p4 := P 4 (by omega); have p5 := P 5 (by omega); have p6 := P 6 (by omega)
  clear P
  simp at p0 p1 p2 p3 p4 p5 p6
  refine bodyPost_ret (v := .tuple #[.agg #[.int .i64 w0, .int .i64 w1, .int .i64 w2, .int .i64 w3, .int .i64 w4, .int .i64 F, .slice B k' c'], .int .i64 0]) (by simp [results, Try.results43, go_sem, p0, p1, p2, p3, p4, p5, p6]) rfl ?_
  clear p0 p1 p2 p3 p4 p5 p6
  refine ⟨B, k', c', ?_, hkc, ?_, BB⟩
  · rw [HEF.out]; rfl
  · rw [HT.out, HEF.out]; exact gs_own O hlen
end Go.Proofs.Ytbieopkohkomoaa

namespace Go.Proofs.Ytbieopkohkomoaa
open Go Go.RowKit
set_option maxHeartbeats 400000
set_option maxRecDepth 100000

theorem addE0_if (w0 w1 w2 w3 w4 F : Int) (gs : List Giv) (g : Giv) : addE0 w0 w1 w2 w3 w4 F gs g = if newE w0 w1 w2 w3 w4 F gs g.o = 0 then (if g.okB = true then 0 else 10) else newE w0 w1 w2 w3 w4 F gs g.o := by
  unfold addE0 firstE firstE err
  by_cases h1 : newE w0 w1 w2 w3 w4 F gs g.o = 0 <;> by_cases h2 : g.okB = true <;> simp [h1, h2, firstE]

set_option maxHeartbeats 600000 in
theorem refAdd_any (w0 w1 w2 w3 w4 F : Int) (A : Option Addr) (n c : Nat) (gs : List Giv) (g : Giv) (w : World) (hg : Gs w A n gs) (hnc : n ≤ c) :
    Calls Try.prog 44 #[.agg #[.int .i64 w0, .int .i64 w1, .int .i64 w2, .int .i64 w3, .int .i64 w4, .int .i64 F, .slice A n c], .agg #[.int .i64 g.o, .int .i64 g.m0, .int .i64 g.m1, .int .i64 g.m2, .int .i64 g.m3, .int .i64 g.m4, .int .i64 g.m5]] w fun e w' =>
      ∃ B k c', e = .returned (.tuple #[.agg #[.int .i64 (cv (addE w0 w1 w2 w3 w4 F gs g) w0), .int .i64 (cv (addE w0 w1 w2 w3 w4 F gs g) w1), .int .i64 (cv (addE w0 w1 w2 w3 w4 F gs g) w2), .int .i64 (cv (addE w0 w1 w2 w3 w4 F gs g) w3), .int .i64 (cv (addE w0 w1 w2 w3 w4 F gs g) w4), .int .i64 (cv (addE w0 w1 w2 w3 w4 F gs g) F), .slice B k c'], .int .i64 (addE w0 w1 w2 w3 w4 F gs g)]) ∧ k ≤ c' ∧ Gs w' B k (addL w0 w1 w2 w3 w4 F gs g) ∧ Below w.heap.size w w' := by
  have Hl : Hid (n = gs.length) := Lib.hid hg.len
  go_enter Try.func44, Try.ntmps44
  go_wp2_with fail
  generalize hW : (World.alloc _ _) = W
  have HW : Hid (Below w.heap.size w W) := Lib.hid (by subst hW; go_grown)
  have KM : Bk W w.heap.size [.int .i64 w0, .int .i64 w1, .int .i64 w2, .int .i64 w3, .int .i64 w4, .int .i64 F, .slice A n c] := ⟨by subst hW; simp only [World.size_alloc]; omega, by subst hW; intro j; simp [go_sem]⟩
  have KG : Bk W (w.heap.size + 1) [.int .i64 g.o, .int .i64 g.m0, .int .i64 g.m1, .int .i64 g.m2, .int .i64 g.m3, .int .i64 g.m4, .int .i64 g.m5] := ⟨by subst hW; simp only [World.size_alloc]; omega, by subst hW; intro j; simp [go_sem]⟩
  have KX : Bk W (w.heap.size + 2) [.int .i64 0, .int .i64 0, .int .i64 0, .int .i64 0, .int .i64 0, .int .i64 0, .slice none 0 0] := ⟨by subst hW; simp only [World.size_alloc]; omega, by subst hW; intro j; simp [go_sem]⟩
  have HFX : Hid (∀ j, W.frozen? ⟨w.heap.size + 2, j, none⟩ = false) := Lib.hid (by subst hW; intro j; simp [go_sem])
  clear hW
  have HG := Lib.hid (hg.keep HW.out)
  clear hg
  have HEE : Hid (addE w0 w1 w2 w3 w4 F gs g = if addE0 w0 w1 w2 w3 w4 F gs g = 0 then (if gs.length = 40 then 16 else if nearB w0 w1 w2 w3 w4 F g.m0 g.m1 g.m2 g.m3 g.m4 g.m5 gs = true then 19 else 0) else addE0 w0 w1 w2 w3 w4 F gs g) := Lib.hid rfl
  have HT : Hid (addL w0 w1 w2 w3 w4 F gs g = cg (addE w0 w1 w2 w3 w4 F gs g) (insG g gs)) := Lib.hid rfl
  have HA := Lib.hid (addE0_if w0 w1 w2 w3 w4 F gs g)
  have HEv := Lib.hid (newE_ref w0 w1 w2 w3 w4 F g.o gs)
  have HF : Hid (newE w0 w1 w2 w3 w4 F gs g.o = 0 → okB w0 w1 w2 w3 w4 F gs = true ∧ (1 ≤ g.o ∧ g.o ≤ 99) ∧ pos (own gs) g.o 0 < 0) := Lib.hid newE_ok
  have KMl := KM.lt; have KMc := KM.get; have KGl := KG.lt; have KGc := KG.get
  go_wp2_with fail
  refine (refAsked_any w0 w1 w2 w3 w4 F g.o A n c gs W HG.out).mono ?_
  rintro e V0 ⟨rfl, hb1⟩
  clear KMl KMc KGl KGc
  have HB0 := Lib.hid hb1
  replace HFX := Lib.hid (fun j => (HB0.out.frozen (p := ⟨w.heap.size + 2, j, none⟩) KX.lt).trans (HFX.out j))
  replace KM := KM.keep HB0.out
  replace KG := KG.keep HB0.out
  replace KX := KX.keep HB0.out
  replace HG := Lib.hid (HG.out.keep HB0.out)
  clear hb1
  generalize (if okB w0 w1 w2 w3 w4 F gs = true then if 1 ≤ g.o ∧ g.o ≤ 99 then (0 : Int) else 15 else 13) = E0 at *
  generalize newE w0 w1 w2 w3 w4 F gs g.o = E at *
  generalize addE0 w0 w1 w2 w3 w4 F gs g = D at *
  by_cases hE : E0 = 0
  rotate_left
  · have HE : Hid (E = E0) := Lib.hid (by rw [HEv.out, if_neg hE])
    have HD : Hid (D = E0) := Lib.hid (by rw [HA.out, HE.out, if_neg hE])
    have b0 : (E0 == 0) = false := by simpa using hE
    have b1 : (E0 != 0) = true := by simpa using hE
    have HE0n := Lib.hid hE
    clear hE HA HEv
    have FX1 := HFX.out
    have KMl := KM.lt; have KMc := KM.get; have KGl := KG.lt; have KGc := KG.get; have KXl := KX.lt; have KXc := KX.get
    go_wp2
    have P := put7 V0 (w.heap.size + 1 + 1) (.int .i64 0) (.int .i64 0) (.int .i64 0) (.int .i64 0) (.int .i64 0) (.int .i64 0) (.slice none 0 0) (bk_some (KX))
    have O := own_put7 (w := V0) (World.ownsRow_nil V0 (w.heap.size + 3) 30 7) (b := w.heap.size + 1 + 1) (by omega) (.int .i64 0) (.int .i64 0) (.int .i64 0) (.int .i64 0) (.int .i64 0) (.int .i64 0) (.slice none 0 0)
    have BB := put7_below (w := V0) (up HW.out HB0.out) (by omega : _ ≤ w.heap.size + 1 + 1) (.int .i64 0) (.int .i64 0) (.int .i64 0) (.int .i64 0) (.int .i64 0) (.int .i64 0) (.slice none 0 0)
    generalize World.setCell _ ⟨w.heap.size + 1 + 1, 6, none⟩ _ = U at P O BB ⊢
    have p0 := P 0 (by omega); have p1 := P 1 (by omega); have p2 := P 2 (by omega); have p3 := P 3 (by omega); have p4 := P 4 (by omega); have p5 := P 5 (by omega); have p6 := P 6 (by omega)
    clear P
    simp at p0 p1 p2 p3 p4 p5 p6
    refine bodyPost_ret (v := .tuple #[.agg #[.int .i64 0, .int .i64 0, .int .i64 0, .int .i64 0, .int .i64 0, .int .i64 0, .slice none 0 0], .int .i64 E0]) (by simp [results, Try.results44, go_sem, p0, p1, p2, p3, p4, p5, p6]) rfl ?_
    clear p0 p1 p2 p3 p4 p5 p6
    have HEF : Hid (addE w0 w1 w2 w3 w4 F gs g = E0) := Lib.hid (by rw [HEE.out, HD.out, if_neg HE0n.out])
    have HEn : Hid ((E0 : Int) ≠ 0) := Lib.hid (HE0n.out)
    refine ⟨none, 0, 0, ?_, Nat.le_refl _, ?_, BB⟩
    · rw [HEF.out]; simp only [cv_e HEn.out]
    · rw [HT.out, HEF.out, cg_e HEn.out]; exact ⟨rfl, by decide, fun k hk => by simp at hk⟩
  subst hE
  have KMl := KM.lt; have KMc := KM.get; have KGl := KG.lt; have KGc := KG.get
  go_wp2_with fail
  refine (refIndex_any w0 w1 w2 w3 w4 F g.o A n c gs V0 HG.out).mono ?_
  rintro e V ⟨rfl, hb2⟩
  clear KMl KMc KGl KGc
  have HB1 := Lib.hid hb2
  replace HFX := Lib.hid (fun j => (HB1.out.frozen (p := ⟨w.heap.size + 2, j, none⟩) KX.lt).trans (HFX.out j))
  replace KM := KM.keep HB1.out
  replace KG := KG.keep HB1.out
  replace KX := KX.keep HB1.out
  replace HG := Lib.hid (HG.out.keep HB1.out)
  clear hb2
  generalize hP : pos (own gs) g.o 0 = P0 at *
  by_cases hp : 0 ≤ P0
  · have HE : Hid (E = 15) := Lib.hid (by rw [HEv.out]; simp [hp])
    have HD : Hid (D = 15) := Lib.hid (by rw [HA.out, HE.out]; rfl)
    clear hP HA HEv
    have hp' : ¬ P0 < 0 := by omega
    have FX1 := HFX.out
    have KMl := KM.lt; have KMc := KM.get; have KGl := KG.lt; have KGc := KG.get; have KXl := KX.lt; have KXc := KX.get
    go_wp2
    have P := put7 V (w.heap.size + 1 + 1) (.int .i64 0) (.int .i64 0) (.int .i64 0) (.int .i64 0) (.int .i64 0) (.int .i64 0) (.slice none 0 0) (bk_some (KX))
    have O := own_put7 (w := V) (World.ownsRow_nil V (w.heap.size + 3) 30 7) (b := w.heap.size + 1 + 1) (by omega) (.int .i64 0) (.int .i64 0) (.int .i64 0) (.int .i64 0) (.int .i64 0) (.int .i64 0) (.slice none 0 0)
    have BB := put7_below (w := V) (up HW.out (up HB0.out HB1.out)) (by omega : _ ≤ w.heap.size + 1 + 1) (.int .i64 0) (.int .i64 0) (.int .i64 0) (.int .i64 0) (.int .i64 0) (.int .i64 0) (.slice none 0 0)
    generalize World.setCell _ ⟨w.heap.size + 1 + 1, 6, none⟩ _ = U at P O BB ⊢
    have p0 := P 0 (by omega); have p1 := P 1 (by omega); have p2 := P 2 (by omega); have p3 := P 3 (by omega); have p4 := P 4 (by omega); have p5 := P 5 (by omega); have p6 := P 6 (by omega)
    clear P
    simp at p0 p1 p2 p3 p4 p5 p6
    refine bodyPost_ret (v := .tuple #[.agg #[.int .i64 0, .int .i64 0, .int .i64 0, .int .i64 0, .int .i64 0, .int .i64 0, .slice none 0 0], .int .i64 15]) (by simp [results, Try.results44, go_sem, p0, p1, p2, p3, p4, p5, p6]) rfl ?_
    clear p0 p1 p2 p3 p4 p5 p6
    have HEF : Hid (addE w0 w1 w2 w3 w4 F gs g = 15) := Lib.hid (by rw [HEE.out, HD.out]; rfl)
    have HEn : Hid ((15 : Int) ≠ 0) := Lib.hid (by decide)
    refine ⟨none, 0, 0, ?_, Nat.le_refl _, ?_, BB⟩
    · rw [HEF.out]; simp only [cv_e HEn.out]
    · rw [HT.out, HEF.out, cg_e HEn.out]; exact ⟨rfl, by decide, fun k hk => by simp at hk⟩
  have HE : E = 0 := by rw [HEv.out]; simp [hp]
  subst HE
  obtain ⟨hok, _, hps⟩ := HF.out rfl
  have h40 : n ≤ 40 := by have := Hl.out; have := okB_40 hok; omega
  have Hne := Lib.hid (pos_none gs g.o 0 (by rw [hP]; exact hps))
  have hp' : P0 < 0 := hps
  obtain ⟨how, hF0, hF2⟩ := okB_F hok
  have Hok := Lib.hid (okB_ok hok)
  have How := Lib.hid how
  clear hok hps HF hP hp HEv how
  have KMl := KM.lt; have KMc := KM.get; have KGl := KG.lt; have KGc := KG.get
  cases hgo : g.okB
  · have HD : Hid (D = 10) := Lib.hid (by rw [HA.out, hgo]; simp)
    clear HA
    go_wp2_with fail
    refine (refCheckMark_no g.m0 g.m1 g.m2 g.m3 g.m4 g.m5 V hgo).mono ?_
    rintro e V2 ⟨rfl, hb3⟩
    clear hgo
    clear KMl KMc KGl KGc
    have HB2 := Lib.hid hb3
    replace HFX := Lib.hid (fun j => (HB2.out.frozen (p := ⟨w.heap.size + 2, j, none⟩) KX.lt).trans (HFX.out j))
    replace KM := KM.keep HB2.out
    replace KG := KG.keep HB2.out
    replace KX := KX.keep HB2.out
    replace HG := Lib.hid (HG.out.keep HB2.out)
    clear hb3
    have FX1 := HFX.out
    have KMl := KM.lt; have KMc := KM.get; have KGl := KG.lt; have KGc := KG.get; have KXl := KX.lt; have KXc := KX.get
    go_wp2
    have P := put7 V2 (w.heap.size + 1 + 1) (.int .i64 0) (.int .i64 0) (.int .i64 0) (.int .i64 0) (.int .i64 0) (.int .i64 0) (.slice none 0 0) (bk_some (KX))
    have O := own_put7 (w := V2) (World.ownsRow_nil V2 (w.heap.size + 3) 30 7) (b := w.heap.size + 1 + 1) (by omega) (.int .i64 0) (.int .i64 0) (.int .i64 0) (.int .i64 0) (.int .i64 0) (.int .i64 0) (.slice none 0 0)
    have BB := put7_below (w := V2) (up HW.out (up HB0.out (up HB1.out HB2.out))) (by omega : _ ≤ w.heap.size + 1 + 1) (.int .i64 0) (.int .i64 0) (.int .i64 0) (.int .i64 0) (.int .i64 0) (.int .i64 0) (.slice none 0 0)
    generalize World.setCell _ ⟨w.heap.size + 1 + 1, 6, none⟩ _ = U at P O BB ⊢
    have p0 := P 0 (by omega); have p1 := P 1 (by omega); have p2 := P 2 (by omega); have p3 := P 3 (by omega); have p4 := P 4 (by omega); have p5 := P 5 (by omega); have p6 := P 6 (by omega)
    clear P
    simp at p0 p1 p2 p3 p4 p5 p6
    refine bodyPost_ret (v := .tuple #[.agg #[.int .i64 0, .int .i64 0, .int .i64 0, .int .i64 0, .int .i64 0, .int .i64 0, .slice none 0 0], .int .i64 10]) (by simp [results, Try.results44, go_sem, p0, p1, p2, p3, p4, p5, p6]) rfl ?_
    clear p0 p1 p2 p3 p4 p5 p6
    have HEF : Hid (addE w0 w1 w2 w3 w4 F gs g = 10) := Lib.hid (by rw [HEE.out, HD.out]; rfl)
    have HEn : Hid ((10 : Int) ≠ 0) := Lib.hid (by decide)
    refine ⟨none, 0, 0, ?_, Nat.le_refl _, ?_, BB⟩
    · rw [HEF.out]; simp only [cv_e HEn.out]
    · rw [HT.out, HEF.out, cg_e HEn.out]; exact ⟨rfl, by decide, fun k hk => by simp at hk⟩
  have HD : D = 0 := by rw [HA.out, hgo]; simp
  subst HD
  clear HA
  go_wp2_with fail
  refine (refCheckMark_yes g.m0 g.m1 g.m2 g.m3 g.m4 g.m5 V hgo).mono ?_
  rintro e V1 ⟨rfl, hb3⟩
  clear KMl KMc KGl KGc
  have HB2 := Lib.hid hb3
  replace HFX := Lib.hid (fun j => (HB2.out.frozen (p := ⟨w.heap.size + 2, j, none⟩) KX.lt).trans (HFX.out j))
  replace KM := KM.keep HB2.out
  replace KG := KG.keep HB2.out
  replace KX := KX.keep HB2.out
  replace HG := Lib.hid (HG.out.keep HB2.out)
  clear hb3
  obtain ⟨⟨m0, k0⟩, ⟨m1, k1⟩, ⟨m2, k2⟩, ⟨m3, k3⟩, ⟨m4, k4⟩, ⟨m5, k5⟩⟩ := Giv.ok_of hgo
  clear hgo
  by_cases hn40 : n = 40
  · have HL : Hid (gs.length = 40) := Lib.hid (by rw [← Hl.out]; exact hn40)
    subst hn40
    have FX1 := HFX.out
    have KMl := KM.lt; have KMc := KM.get; have KGl := KG.lt; have KGc := KG.get; have KXl := KX.lt; have KXc := KX.get
    go_wp2
    have P := put7 V1 (w.heap.size + 1 + 1) (.int .i64 0) (.int .i64 0) (.int .i64 0) (.int .i64 0) (.int .i64 0) (.int .i64 0) (.slice none 0 0) (bk_some (KX))
    have O := own_put7 (w := V1) (World.ownsRow_nil V1 (w.heap.size + 3) 30 7) (b := w.heap.size + 1 + 1) (by omega) (.int .i64 0) (.int .i64 0) (.int .i64 0) (.int .i64 0) (.int .i64 0) (.int .i64 0) (.slice none 0 0)
    have BB := put7_below (w := V1) (up HW.out (up HB0.out (up HB1.out HB2.out))) (by omega : _ ≤ w.heap.size + 1 + 1) (.int .i64 0) (.int .i64 0) (.int .i64 0) (.int .i64 0) (.int .i64 0) (.int .i64 0) (.slice none 0 0)
    generalize World.setCell _ ⟨w.heap.size + 1 + 1, 6, none⟩ _ = U at P O BB ⊢
    have p0 := P 0 (by omega); have p1 := P 1 (by omega); have p2 := P 2 (by omega); have p3 := P 3 (by omega); have p4 := P 4 (by omega); have p5 := P 5 (by omega); have p6 := P 6 (by omega)
    clear P
    simp at p0 p1 p2 p3 p4 p5 p6
    refine bodyPost_ret (v := .tuple #[.agg #[.int .i64 0, .int .i64 0, .int .i64 0, .int .i64 0, .int .i64 0, .int .i64 0, .slice none 0 0], .int .i64 16]) (by simp [results, Try.results44, go_sem, p0, p1, p2, p3, p4, p5, p6]) rfl ?_
    clear p0 p1 p2 p3 p4 p5 p6
    have HEF : Hid (addE w0 w1 w2 w3 w4 F gs g = 16) := Lib.hid (by rw [HEE.out, HL.out]; rfl)
    have HEn : Hid ((16 : Int) ≠ 0) := Lib.hid (by decide)
    refine ⟨none, 0, 0, ?_, Nat.le_refl _, ?_, BB⟩
    · rw [HEF.out]; simp only [cv_e HEn.out]
    · rw [HT.out, HEF.out, cg_e HEn.out]; exact ⟨rfl, by decide, fun k hk => by simp at hk⟩
  have HL : Hid (gs.length ≠ 40) := Lib.hid (by rw [← Hl.out]; exact hn40)
  have hn40' : ((n : Int) == 40) = false := by rw [beq_eq_false_iff_ne]; omega
  have hn41 : (n == 40) = false := by simpa using hn40
  clear hn40
  have KMl := KM.lt; have KMc := KM.get; have KGl := KG.lt; have KGc := KG.get
  go_wp2_with fail
  refine (refNear_any w0 w1 w2 w3 w4 F g.m0 g.m1 g.m2 g.m3 g.m4 g.m5 A n c gs V1 m0 k0 m1 k1 m2 k2 m3 k3 m4 k4 m5 k5 hF0 hF2 HG.out Hok.out).mono ?_
  rintro e V2 ⟨rfl, hb4⟩
  have HNr : Hid (nearB w0 w1 w2 w3 w4 F g.m0 g.m1 g.m2 g.m3 g.m4 g.m5 gs = refNearB w0 w1 w2 w3 w4 F g.m0 g.m1 g.m2 g.m3 g.m4 g.m5 gs) := Lib.hid (near_eq How.out hF0 Hok.out)
  rw [HNr.out] at HEE
  clear HNr
  clear KMl KMc KGl KGc
  have HB3 := Lib.hid hb4
  replace HFX := Lib.hid (fun j => (HB3.out.frozen (p := ⟨w.heap.size + 2, j, none⟩) KX.lt).trans (HFX.out j))
  replace KM := KM.keep HB3.out
  replace KG := KG.keep HB3.out
  replace KX := KX.keep HB3.out
  replace HG := Lib.hid (HG.out.keep HB3.out)
  clear hb4
  generalize hN : refNearB w0 w1 w2 w3 w4 F g.m0 g.m1 g.m2 g.m3 g.m4 g.m5 gs = N at *
  cases N
  rotate_left
  · clear hN
    have FX1 := HFX.out
    have KMl := KM.lt; have KMc := KM.get; have KGl := KG.lt; have KGc := KG.get; have KXl := KX.lt; have KXc := KX.get
    go_wp2
    have P := put7 V2 (w.heap.size + 1 + 1) (.int .i64 0) (.int .i64 0) (.int .i64 0) (.int .i64 0) (.int .i64 0) (.int .i64 0) (.slice none 0 0) (bk_some (KX))
    have O := own_put7 (w := V2) (World.ownsRow_nil V2 (w.heap.size + 3) 30 7) (b := w.heap.size + 1 + 1) (by omega) (.int .i64 0) (.int .i64 0) (.int .i64 0) (.int .i64 0) (.int .i64 0) (.int .i64 0) (.slice none 0 0)
    have BB := put7_below (w := V2) (up HW.out (up HB0.out (up HB1.out (up HB2.out HB3.out)))) (by omega : _ ≤ w.heap.size + 1 + 1) (.int .i64 0) (.int .i64 0) (.int .i64 0) (.int .i64 0) (.int .i64 0) (.int .i64 0) (.slice none 0 0)
    generalize World.setCell _ ⟨w.heap.size + 1 + 1, 6, none⟩ _ = U at P O BB ⊢
    have p0 := P 0 (by omega); have p1 := P 1 (by omega); have p2 := P 2 (by omega); have p3 := P 3 (by omega); have p4 := P 4 (by omega); have p5 := P 5 (by omega); have p6 := P 6 (by omega)
    clear P
    simp at p0 p1 p2 p3 p4 p5 p6
    refine bodyPost_ret (v := .tuple #[.agg #[.int .i64 0, .int .i64 0, .int .i64 0, .int .i64 0, .int .i64 0, .int .i64 0, .slice none 0 0], .int .i64 19]) (by simp [results, Try.results44, go_sem, p0, p1, p2, p3, p4, p5, p6]) rfl ?_
    clear p0 p1 p2 p3 p4 p5 p6
    have HEF : Hid (addE w0 w1 w2 w3 w4 F gs g = 19) := Lib.hid (by rw [HEE.out, if_pos (by trivial), if_neg HL.out]; simp)
    have HEn : Hid ((19 : Int) ≠ 0) := Lib.hid (by decide)
    refine ⟨none, 0, 0, ?_, Nat.le_refl _, ?_, BB⟩
    · rw [HEF.out]; simp only [cv_e HEn.out]
    · rw [HT.out, HEF.out, cg_e HEn.out]; exact ⟨rfl, by decide, fun k hk => by simp at hk⟩
  have HEF : Hid (addE w0 w1 w2 w3 w4 F gs g = 0) := Lib.hid (by rw [HEE.out, if_pos (by trivial), if_neg HL.out]; simp)
  clear hN HEE
  have FX1 := HFX.out
  have hxl := KX.lt
  have hlen : (insG g gs).length ≤ 100000 := by rw [ins_len]; have := Hl.out; omega
  have KMl := KM.lt; have KMc := KM.get; have KGl := KG.lt; have KGc := KG.get
  go_wp2_with (go_at_call 91; refine (refWith_any w0 w1 w2 w3 w4 F A n c gs g V2 HG.out hnc h40 Hne.out).mono ?_; rintro e x5 ⟨B, k', c', rfl, hkc, hown, hb5⟩; have Hown := Lib.hid hown; have HB5 := Lib.hid hb5; have KX5 := KX.keep hb5; have KX5c := KX5.get; have FX5 : ∀ j, x5.frozen? ⟨w.heap.size + 2, j, none⟩ = false := fun j => (hb5.frozen (p := ⟨w.heap.size + 2, j, none⟩) hxl).trans (FX1 j); clear hown hb5)
  have P := put7 x5 (w.heap.size + 1 + 1) (.int .i64 w0) (.int .i64 w1) (.int .i64 w2) (.int .i64 w3) (.int .i64 w4) (.int .i64 F) (.slice B k' c') (bk_some (KX5))
  have O := own_put7 (w := x5) (Hown.out) (b := w.heap.size + 1 + 1) (by omega) (.int .i64 w0) (.int .i64 w1) (.int .i64 w2) (.int .i64 w3) (.int .i64 w4) (.int .i64 F) (.slice B k' c')
  have BB := put7_below (w := x5) (up HW.out (up HB0.out (up HB1.out (up HB2.out (up HB3.out HB5.out))))) (by omega : _ ≤ w.heap.size + 1 + 1) (.int .i64 w0) (.int .i64 w1) (.int .i64 w2) (.int .i64 w3) (.int .i64 w4) (.int .i64 F) (.slice B k' c')
  generalize World.setCell _ ⟨w.heap.size + 1 + 1, 6, none⟩ _ = U at P O BB ⊢
  have p0 := P 0 (by omega); have p1 := P 1 (by omega); have p2 := P 2 (by omega); have p3 := P 3 (by omega); have p4 := P 4 (by omega); have p5 := P 5 (by omega); have p6 := P 6 (by omega)
  clear P
  simp at p0 p1 p2 p3 p4 p5 p6
  refine bodyPost_ret (v := .tuple #[.agg #[.int .i64 w0, .int .i64 w1, .int .i64 w2, .int .i64 w3, .int .i64 w4, .int .i64 F, .slice B k' c'], .int .i64 0]) (by simp [results, Try.results44, go_sem, p0, p1, p2, p3, p4, p5, p6]) rfl ?_
  clear p0 p1 p2 p3 p4 p5 p6
  refine ⟨B, k', c', ?_, hkc, ?_, BB⟩
  · rw [HEF.out]; rfl
  · rw [HT.out, HEF.out]; exact gs_own O hlen
end Go.Proofs.Ytbieopkohkomoaa

namespace Go.Proofs.Ytbieopkohkomoaa
open Go Go.RowKit
set_option maxHeartbeats 400000
set_option maxRecDepth 100000

/-- Does a set have a place? -/
def bitB (s k : Nat) : Bool := bits BinOp.and IntKind.i64 ((s : Int) / 2 ^ (5 - k)) 1 == 1
/-- The places of a set below k, rising. -/
def plK (s : Nat) : Nat → List Int
  | 0 => []
  | k + 1 => if bitB s k = true then plK s k ++ [(k : Int)] else plK s k
theorem plK_len (s k : Nat) : (plK s k).length ≤ k := by
  induction k with
  | zero => exact Nat.le_refl _
  | succ k ih =>
    unfold plK
    split
    · simp; omega
    · omega
theorem plK_in (s k : Nat) : ∀ x ∈ plK s k, 0 ≤ x ∧ x < k := by
  induction k with
  | zero => intro x hx; simp [plK] at hx
  | succ k ih =>
    intro x hx
    unfold plK at hx
    split at hx
    · rcases List.mem_append.1 hx with h | h
      · have := ih x h; omega
      · simp at h; omega
    · have := ih x hx; omega

theorem placesOf_any (s : Nat) (hs : s < 64) (w : World) :
    Calls Try.prog 111 #[.int .i64 s] w fun e w' => ∃ v, e = .returned v ∧ w'.ownsRow w.heap.size 3 1 v (plK s 6).length (ints (plK s 6)) ∧ Below w.heap.size w w' := by
  obtain ⟨i0, hi, hz0, hz1, hz2⟩ := info_parts info3
  have HI := Lib.hid hi
  have HZ0 := Lib.hid hz0
  have HZ1 := Lib.hid hz1
  have HZ2 := Lib.hid hz2
  clear hi hz0 hz1 hz2
  go_enter Try.func111, Try.ntmps111
  go_wp2
  go_loopw [3, 5] (fun v i wr => ∃ (k : Nat) (z : Gr), k ≤ 6 ∧ i = .int .i64 k ∧ wr = grow w z ∧ (grow w z).ownsRow w.heap.size 3 1 v (plK s k).length (ints (plK s k))) (fun _ i _ => 6 - (intOf i).toNat)
  case atStart => exact ⟨0, ⟨#[], w.drawn⟩, by omega, rfl, by simp [grow], World.ownsRow_nil _ _ _ _⟩
  case round =>
    obtain ⟨k, z, hk, rfl, rfl, hown⟩ := hrel
    have Hown := Lib.hid hown; clear hown
    by_cases hlt : k < 6
    · have hln := plK_len s k
      have Hy : Hid (bitB s k = true → plK s (k + 1) = plK s k ++ [(k : Int)]) := Lib.hid (fun h => by rw [plK, if_pos h])
      have Hn : Hid (bitB s k = false → plK s (k + 1) = plK s k) := Lib.hid (fun h => by rw [plK, if_neg (by rw [h]; simp)])
      generalize hX : plK s k = X at *
      have HX := Lib.hid hX
      clear hX
      generalize hnX : X.length = nX at *
      have HnX := Lib.hid hnX
      clear hnX
      cases hh : bitB s k
      · have Hh := Lib.hid hh
        have hb : (bits BinOp.and IntKind.i64 ((s : Int) / 2 ^ (5 - k)) 1 == 1) = false := hh
        clear hh
        go_wp2
        refine ⟨⟨k + 1, z, by omega, by go_num, rfl, ?_⟩, by simp [intOf]; omega⟩
        rw [Hn.out Hh.out, HnX.out]; exact Hown.out
      · have Hh := Lib.hid hh
        have hb : (bits BinOp.and IntKind.i64 ((s : Int) / 2 ^ (5 - k)) 1 == 1) = true := hh
        clear hh
        go_wp2_with (at_builtin; refine wpList_append_own _ rfl _ _ 54 rfl w.heap.size 3 i0 (.int .i64 0) 1 8 Try.underlying54 HI.out HZ0.out HZ1.out HZ2.out rfl (by decide) _ _ _ rfl (Hown.out.alloc _) ⟨w.heap.size + z.blocks.size, 0, none⟩ 1 1 [.int .i64 k] rfl rfl ?c1 ?c2 ?c3 ?c4 ?c5 ?_)
        case c1 =>
          intro j u hu
          rw [Addr.add_lit, World.cell?_alloc_at _ _ _ _ (by simp), Nat.zero_add]
          simpa using hu
        case c2 => intro u hu; simp at hu; subst hu; rfl
        case c3 => unfold maxLen; omega
        case c4 => omega
        case c5 => simp; omega
        intro v' w' hown' hgr _
        have hbel : Below w.heap.size w w' := (up (grow_below w z) (up_alloc _ _)).grown hgr (by simp; omega) (fun q hq => (Hown.out.lt q hq).1)
        have Hown' := Lib.hid hown'
        clear hown' hgr
        obtain ⟨y3, rfl⟩ := below_grow hbel
        go_wp2
        refine ⟨⟨k + 1, y3, by omega, by go_num, rfl, ?_⟩, by simp [intOf]; omega⟩
        rw [Hy.out Hh.out, ints_snoc, List.length_append, HnX.out]
        exact Hown'.out
    · obtain rfl : k = 6 := by omega
      go_wp2
      go_ret
      exact ⟨_, rfl, Hown.out, grow_below w z⟩
end Go.Proofs.Ytbieopkohkomoaa

namespace Go.Proofs.Ytbieopkohkomoaa
open Go Go.RowKit Go.Shelf
attribute [local go_sem] Oper.semAt_some
set_option maxHeartbeats 400000
set_option maxRecDepth 100000

/-- The lists of n places of the first m sets, from the greatest set down. -/
def procL (n : Nat) : Nat → List (List Int)
  | 0 => []
  | m + 1 => if (plK (63 - m) 6).length = n then procL n m ++ [plK (63 - m) 6] else procL n m
def encL (x : List Int × Value) : Array Value := #[x.2]
/-- A list that is yielded lies there. -/
def LiesL (B : Nat) (x : List Int × Value) (X : World) : Prop := ∃ A k c, x.2 = .slice A k c ∧ k ≤ c ∧ Is X A k x.1 ∧ ∀ p, A = some p → B ≤ p.block
theorem Is.of_own2 {w : World} {base n : Nat} {v : Value} {l : List Int} (h : w.ownsRow base 3 1 v n (ints l)) : ∃ A c, v = .slice A n c ∧ n ≤ c ∧ Is w A n l ∧ ∀ p, A = some p → base ≤ p.block := by
  obtain ⟨A, c, rfl, hnc, his⟩ := Is.of_own h
  refine ⟨A, c, rfl, hnc, his, ?_⟩
  rintro p rfl
  rcases h.2 with ⟨h1, h2⟩ | ⟨g, cap, cur, h1, h2, _⟩
  · cases h1
  · cases h1; exact h2

theorem lists_iter (n nb : Nat) (w : World) (hnb : nb < w.heap.size) :
    Iter Try.prog 110 #[.pointer (some ⟨nb, 0, none⟩)] encL LiesL (fun X => X.cell? ⟨nb, 0, none⟩ = some (.int .i64 n))
      (fun xs => xs.map Prod.fst = procL n 64) (fun pre => ∃ m, m < 64 ∧ (plK (63 - m) 6).length = n ∧ pre.map Prod.fst = procL n (m + 1)) w := by
  intro N l J Jx W hn hW hJ hKx hY h0
  refine callsIn_of_wp Try.func110 rfl trivial ?_ rfl
  simp only [Try.ntmps110, List.size_toArray, List.length_cons, List.length_nil, Nat.reduceAdd, Nat.reduceSub, Array.replicate_succ, Array.replicate_zero, List.push_toArray, List.append_toArray, List.nil_append, List.cons_append]
  have HJ := Lib.hid hJ
  have HY := Lib.hid hY
  have HKx := Lib.hid hKx
  clear hJ hY hKx
  gi_wp2
  gi_loopw [3] (fun s wr => ∃ (t : Nat) (pre : List (List Int × Value)), t ≤ 64 ∧ s = .int .i64 ((t : Int) - 1) ∧ pre.map Prod.fst = procL n (64 - t) ∧ J pre wr ∧ W.heap.size ≤ wr.heap.size) (fun s _ => (intOf s + 1).toNat)
  case atStart => exact ⟨64, [], by omega, rfl, rfl, h0, by omega⟩
  case round =>
    obtain ⟨t, pre, ht, rfl, hpre, hjp, hsz⟩ := hrel
    have Hpre := Lib.hid hpre
    clear hpre
    cases t with
    | zero =>
      gi_wp2
      exact bodyPost_end (results_none rfl _ _ _) rfl ⟨⟨_, rfl⟩, .inl ⟨pre, Hpre.out, hjp⟩⟩
    | succ t =>
      have Hp : Hid ((plK t 6).length = n → procL n (64 - t) = procL n (64 - (t + 1)) ++ [plK t 6]) := Lib.hid (fun h => by
        obtain ⟨m, hm⟩ : ∃ m, 64 - t = m + 1 := ⟨63 - t, by omega⟩
        rw [hm, show 64 - (t + 1) = m by omega, procL, show 63 - m = t by omega, if_pos h])
      have Hq : Hid ((plK t 6).length ≠ n → procL n (64 - t) = procL n (64 - (t + 1))) := Lib.hid (fun h => by
        obtain ⟨m, hm⟩ : ∃ m, 64 - t = m + 1 := ⟨63 - t, by omega⟩
        rw [hm, show 64 - (t + 1) = m by omega, procL, show 63 - m = t by omega, if_neg h])
      have e1 : ((t + 1 : Nat) : Int) - 1 = (t : Int) := by omega
      rw [e1]
      have cn : wr.cell? ⟨nb, 0, none⟩ = some (.int .i64 n) := HKx.out _ _ hjp
      have hnw : nb < wr.heap.size := by have := hW.size; omega
      by_cases hlen : (plK t 6).length = n
      · have Hlen := Lib.hid hlen
        gi_wp2_with (refine ⟨trivial, fun h => (by cases h), (callsIn_wide.2 (placesOf_any t (by omega) wr)).mono ?_⟩; rintro e x1 ⟨v, rfl, hown, hb1⟩; obtain ⟨A0, c0, rfl, hkc, his, hfar⟩ := Is.of_own2 hown; clear hown; have cn1 : x1.cell? ⟨nb, 0, none⟩ = some (.int .i64 n) := (hb1.cell (p := ⟨nb, 0, none⟩) hnw).trans cn; have HJ1 := Lib.hid (HJ.out _ _ _ hjp (hb1.mono hsz)); obtain ⟨fn, tmps, assign, body, hy, hR⟩ := HY.out pre (plK t 6, .slice A0 (plK t 6).length c0) x1 ⟨63 - t, by omega, by rw [show 63 - (63 - t) = t by omega]; exact hlen, by rw [List.map_append, Hpre.out, show 63 - t + 1 = 64 - t by omega, Hp.out hlen]; rfl⟩ ⟨_, _, _, rfl, hkc, his, fun p hp => Nat.le_trans hsz (hfar p hp)⟩ HJ1.out (by have := hb1.size; omega); dsimp only [encL] at hy; rw [hlen] at hy ⊢)
        refine ⟨fun h => (by cases h), hR.mono ?_⟩
        rintro e W' (⟨rfl, hJ', hAb⟩ | ⟨rfl, hJx'⟩)
        · have hs2 : W.heap.size ≤ W'.heap.size := by have := hb1.size; have := hAb.size; omega
          have HJ' := Lib.hid hJ'
          clear hJ' hR hy
          gi_wp2
          refine ⟨⟨t, _, by omega, by go_num, ?_, HJ'.out, hs2⟩, by simp [intOf]⟩
          rw [List.map_append, Hpre.out, Hp.out Hlen.out]; rfl
        · have HJx := Lib.hid hJx'
          clear hJx' hR hy
          gi_wp2
          refine bodyPost_ret (results_none rfl _ _ _) rfl ⟨⟨_, rfl⟩, .inr ⟨_, ⟨63 - t, by omega, by rw [show 63 - (63 - t) = t by omega]; exact Hlen.out, ?_⟩, HJx.out⟩⟩
          rw [List.map_append, Hpre.out, show 63 - t + 1 = 64 - t by omega, Hp.out Hlen.out]; rfl
      · have Hlen := Lib.hid hlen
        have hlb : (((plK t 6).length : Int) == (n : Int)) = false := by simp; omega
        gi_wp2_with (refine ⟨trivial, fun h => (by cases h), (callsIn_wide.2 (placesOf_any t (by omega) wr)).mono ?_⟩; rintro e x1 ⟨v, rfl, hown, hb1⟩; obtain ⟨A0, c0, rfl, hkc, his⟩ := Is.of_own hown; clear hown; have cn1 : x1.cell? ⟨nb, 0, none⟩ = some (.int .i64 n) := (hb1.cell (p := ⟨nb, 0, none⟩) hnw).trans cn)
        refine ⟨fun f h => (by cases h), ?_⟩
        have hs2 : W.heap.size ≤ x1.heap.size := by have := hb1.size; omega
        have HJ1 := Lib.hid (HJ.out _ _ _ hjp (hb1.mono hsz))
        gi_wp2
        refine ⟨⟨t, pre, by omega, by go_num, ?_, HJ1.out, hs2⟩, by simp [intOf]⟩
        rw [Hpre.out, Hq.out Hlen.out]
end Go.Proofs.Ytbieopkohkomoaa

namespace Go.Proofs.Ytbieopkohkomoaa
open Go Go.RowKit Go.Shelf
attribute [local go_sem] Oper.semAt_some
set_option maxHeartbeats 400000
set_option maxRecDepth 100000

theorem listsOf_any (n : Nat) (w : World) :
    Calls Try.prog 94 #[.int .i64 n] w fun e w' => e = .returned (.func (.func 110) #[] #[.pointer (some ⟨w.heap.size, 0, none⟩)]) ∧ w' = w.alloc (.cells #[.int .i64 n] 3) := by
  go_enter Try.func94, Try.ntmps94
  go_wp2
  go_ret
  exact ⟨rfl, rfl⟩

/-- Another world but at some blocks. -/
structure OffD (Ds : List Nat) (X Y : World) : Prop where
  os : Y.os = X.os
  tape : Y.tape = X.tape
  output : Y.output = X.output
  size : Y.heap.size = X.heap.size
  block : ∀ b, b ∉ Ds → Y.heap[b]? = X.heap[b]?
theorem OffD.below {Ds : List Nat} {X Y Z : World} {B : Nat} (h : OffD Ds X Y) (hb : Below B Z X) (hD : ∀ D ∈ Ds, B ≤ D) : Below B Z Y :=
  hb.trans ⟨h.os, h.tape, h.output, Nat.le_of_eq h.size.symm, fun k hk => h.block k (fun hm => by have := hD k hm; omega)⟩
def mkD (D : Nat) : Deferred := { target := .collected D, args := #[] }
theorem leaves_marks {F : Fence} {n : Nat} {P : Program} {fn : Func} {tmps : Array Value} {R : Ending → World → Prop} : ∀ (Ds : List Nat) (X : World), Ds.Nodup →
    (∀ D ∈ Ds, X.heap[D]? = some (.deferred (some []))) → (∀ Y, OffD Ds X Y → ∃ v, (results fn tmps).run P Y = .ok v Y ∧ R (.returned v) Y) →
    LeavesInM F n P fn tmps R (Ds.map mkD) .returning X
  | [], X, _, _, h => by
    obtain ⟨v, h1, h2⟩ := h X ⟨rfl, rfl, rfl, rfl, fun _ _ => rfl⟩
    exact ⟨v, h1, h2⟩
  | D :: Ds, X, hn, hD, h => by
    refine ⟨by simp, .inl ⟨D, _, rfl, run_takeDeferred (hD D (List.mem_cons_self ..)), ?_⟩⟩
    obtain ⟨hn1, hn2⟩ := List.nodup_cons.1 hn
    refine leaves_marks Ds _ hn2 (fun E hE => (World.putObj_heap_other (by rintro rfl; exact hn1 hE)).trans (hD E (List.mem_cons_of_mem _ hE))) fun Y hY => h Y ⟨hY.os, hY.tape, hY.output, by rw [hY.size]; simp [World.putObj], fun b hb => ?_⟩
    rw [hY.block b (fun hm => hb (List.mem_cons_of_mem _ hm))]
    exact World.putObj_heap_other (by rintro rfl; exact hb (List.mem_cons_self ..))
theorem bodyPostM_marks {F : Fence} {n : Nat} {P : Program} {fn : Func} {R : Ending → World → Prop} {a : Act} {w : World} (Ds : List Nat) (hd : a.defers = Ds.map mkD) (hn : Ds.Nodup)
    (hk : ∀ D ∈ Ds, w.heap[D]? = some (.deferred (some []))) (h : ∀ Y, OffD Ds w Y → ∃ v, (results fn a.tmps).run P Y = .ok v Y ∧ R (.returned v) Y) : bodyPostM F n P fn R .ret a w := by
  show LeavesInM F n P fn a.tmps R a.defers .returning w; rw [hd]; exact leaves_marks Ds w hn hk h

/-- The lists of places, in their order; the first one that settles rows. -/
def allL : Nat → List (List Int)
  | 0 => []
  | n + 1 => allL n ++ procL n 64
def lookL (rs : List Rd) : List Int := ((allL 7).find? (settleB rs)).getD []
def lookR (w0 w1 w2 w3 w4 F : Int) (gs : List Giv) (r : Rd) : List Int := if brE w0 w1 w2 w3 w4 F gs r = 0 then lookL (rowsOf w0 w1 w2 w3 w4 (possG w0 w1 w2 w3 w4 F [r] gs)) else []

theorem procL_pre (n : Nat) : ∀ (m j : Nat), ∃ t, procL n (m + j) = procL n m ++ t
  | m, 0 => ⟨[], by simp⟩
  | m, j + 1 => by
    obtain ⟨t, ht⟩ := procL_pre n m j
    rw [← Nat.add_assoc, procL]
    split
    · exact ⟨t ++ [plK (63 - (m + j)) 6], by rw [ht, List.append_assoc]⟩
    · exact ⟨t, ht⟩
theorem allL_pre : ∀ (m j : Nat), ∃ t, allL (m + j) = allL m ++ t
  | m, 0 => ⟨[], by simp⟩
  | m, j + 1 => by
    obtain ⟨t, ht⟩ := allL_pre m j
    exact ⟨t ++ procL (m + j) 64, by rw [← Nat.add_assoc, allL, ht, List.append_assoc]⟩
theorem procL_in (n m : Nat) : ∀ l ∈ procL n m, ∀ i ∈ l, 0 ≤ i ∧ i < 6 := by
  induction m with
  | zero => intro l hl; simp [procL] at hl
  | succ m ih =>
    intro l hl
    rw [procL] at hl
    split at hl
    · rcases List.mem_append.1 hl with h | h
      · exact ih l h
      · simp at h; subst h; exact plK_in _ 6
    · exact ih l hl
theorem find_none_of {p : List Int → Bool} {l : List (List Int)} (h : ∀ x ∈ l, p x = false) : l.find? p = none := by
  rw [List.find?_eq_none]; intro x hx; rw [h x hx]; simp
theorem lookL_none {rs : List Rd} (h : ∀ l ∈ allL 7, settleB rs l = false) : lookL rs = [] := by
  unfold lookL; rw [find_none_of h]; rfl
theorem lookL_some {rs : List Rd} {k m : Nat} {pre : List (List Int × Value)} {x : List Int × Value} (hk : k < 7) (hm : m < 64) (h0 : ∀ l ∈ allL k, settleB rs l = false)
    (hp : (pre ++ [x]).map Prod.fst = procL k (m + 1)) (h1 : ∀ y ∈ pre, settleB rs y.1 = false) (h2 : settleB rs x.1 = true) : lookL rs = x.1 := by
  obtain ⟨t, ht⟩ := allL_pre (k + 1) (6 - k)
  obtain ⟨t', ht'⟩ := procL_pre k (m + 1) (63 - m)
  rw [show k + 1 + (6 - k) = 7 by omega] at ht
  rw [show m + 1 + (63 - m) = 64 by omega] at ht'
  unfold lookL
  rw [ht, allL, ht', ← hp, List.map_append, List.append_assoc, List.append_assoc, List.append_assoc, List.find?_append, find_none_of h0, List.find?_append,
    find_none_of (l := pre.map Prod.fst) (by intro l hl; obtain ⟨y, hy, rfl⟩ := List.mem_map.1 hl; exact h1 y hy)]
  simp [h2]
theorem Is.off {w w' : World} {A : Option Addr} {n : Nat} {l : List Int} (h : Is w A n l) (hs : w.heap.size ≤ w'.heap.size) (hA : ∀ p, A = some p → p.block < w.heap.size → w'.heap[p.block]? = w.heap[p.block]?) : Is w' A n l :=
  ⟨h.len, h.small, fun k hk => by
    obtain ⟨b, o, e, hb, hc⟩ := h.get k hk
    exact ⟨b, o, e, by omega, (World.cell?_of_block (a := ⟨b, o + k, none⟩) (hA ⟨b, o, none⟩ e hb)).trans hc⟩⟩

theorem look_any (w0 w1 w2 w3 w4 F : Int) (A : Option Addr) (n c : Nat) (gs : List Giv) (r : Rd) (w : World) (hg : Gs w A n gs) (hnc : n ≤ c) :
    Calls Try.prog 48 #[.agg #[.int .i64 w0, .int .i64 w1, .int .i64 w2, .int .i64 w3, .int .i64 w4, .int .i64 F, .slice A n c], .agg #[.int .i64 r.r0, .int .i64 r.r1, .int .i64 r.r2, .int .i64 r.r3, .int .i64 r.r4, .int .i64 r.r5]] w fun e w' =>
      ∃ B k c', e = .returned (.tuple #[.slice B k c', .int .i64 (brE w0 w1 w2 w3 w4 F gs r)]) ∧ k ≤ c' ∧ Is w' B k (lookR w0 w1 w2 w3 w4 F gs r) ∧ Below w.heap.size w w' := by
  have Hl : Hid (n = gs.length) := Lib.hid hg.len
  refine (callsIn_wide (n := 9)).1 (callsIn_of_wp_marks Try.func48 rfl trivial ?_ rfl)
  simp only [Try.ntmps48, List.size_toArray, List.length_cons, List.length_nil, Nat.reduceAdd, Nat.reduceSub, Array.replicate_succ, Array.replicate_zero, List.push_toArray, List.append_toArray, List.nil_append, List.cons_append]
  refine wpIn_wide.2 ?_
  go_wp2_with fail
  generalize hW : (World.alloc _ _) = W
  have HW : Hid (Below w.heap.size w W) := Lib.hid (by subst hW; go_grown)
  have hs : w.heap.size + 1 < W.heap.size := by subst hW; simp
  have hs0 : w.heap.size < W.heap.size := by omega
  have cm : ∀ j, W.cell? ⟨w.heap.size, j, none⟩ = [Value.int .i64 w0, .int .i64 w1, .int .i64 w2, .int .i64 w3, .int .i64 w4, .int .i64 F, .slice A n c][j]? := by subst hW; intro j; simp [go_sem]
  have cr : ∀ j, W.cell? ⟨w.heap.size + 1, j, none⟩ = [Value.int .i64 r.r0, .int .i64 r.r1, .int .i64 r.r2, .int .i64 r.r3, .int .i64 r.r4, .int .i64 r.r5][j]? := by subst hW; intro j; simp [go_sem]
  clear hW
  refine wp_scope_straight ?_
  have Hg1 := Lib.hid (hg.keep HW.out)
  go_wp2_with fail
  refine wp_region_grow_tail 4 (by kernel_rfl) (by kernel_rfl) ?_
  simp only [List.take_succ_cons, List.take_zero, List.drop_succ_cons, List.drop_zero]
  repeat (go_big_quiet_step ((first | (go_at_call 20; exact quiet_grow rfl (check_any _ _ _ _ _ _ _ _ _ gs _ (Hg1.out.keep (grow_below _ _)) hnc)) | (go_at_call 18; exact quiet_grow rfl (checkReading_any _ _ _ _ _ _ _)))))
  refine wpQuiet_nil ?_
  intro z
  go_wp2_with fail
  refine Calls.mono (first_any _ _ _ _ _ (is2 _ _ _ _ _ (by simp))) ?_
  rintro e x1 ⟨rfl, rfl⟩
  rw [show firstE [err (okB w0 w1 w2 w3 w4 F gs) 13, err (okR r.r0 r.r1 r.r2 r.r3 r.r4 r.r5) 12] = brE w0 w1 w2 w3 w4 F gs r from rfl]
  generalize hV : World.alloc (grow W z) _ = V
  have HV : Hid (Below W.heap.size W V) := Lib.hid (by subst hV; exact up (grow_below W z) (up_alloc _ _))
  clear hV
  have v1 : w.heap.size + 1 < V.heap.size := by have := HV.out.size; omega
  have v0 : w.heap.size < V.heap.size := by omega
  have cm2 : ∀ j, V.cell? ⟨w.heap.size, j, none⟩ = [Value.int .i64 w0, .int .i64 w1, .int .i64 w2, .int .i64 w3, .int .i64 w4, .int .i64 F, .slice A n c][j]? := fun j => (HV.out.cell (p := ⟨w.heap.size, j, none⟩) hs0).trans (cm j)
  have cr2 : ∀ j, V.cell? ⟨w.heap.size + 1, j, none⟩ = [Value.int .i64 r.r0, .int .i64 r.r1, .int .i64 r.r2, .int .i64 r.r3, .int .i64 r.r4, .int .i64 r.r5][j]? := fun j => (HV.out.cell (p := ⟨w.heap.size + 1, j, none⟩) hs).trans (cr j)
  clear cm cr
  have HgV := Lib.hid (hg.keep (up HW.out HV.out))
  by_cases hE : brE w0 w1 w2 w3 w4 F gs r = 0
  rotate_left
  · have HE := Lib.hid hE
    have hb : (brE w0 w1 w2 w3 w4 F gs r != 0) = true := by simpa using hE
    clear hE
    go_wp2
    refine noGoto_ret (bodyPostM_ret0 (results_tmp2 rfl _ _ _) rfl ⟨none, 0, 0, rfl, Nat.le_refl _, ?_, up HW.out HV.out⟩)
    unfold lookR; rw [if_neg HE.out]; exact ⟨rfl, by omega, fun k hk => by simp at hk⟩
  have HE := Lib.hid hE
  rw [hE]
  have hE1 := hE
  unfold brE at hE1
  have Ob : Hid (okB w0 w1 w2 w3 w4 F gs = true) := Lib.hid (by
    cases h : okB w0 w1 w2 w3 w4 F gs
    · rw [h] at hE1; simp [err, firstE] at hE1
    · rfl)
  clear hE hE1
  have h40 : n ≤ 40 := by have := Hl.out; have := okB_40 Ob.out; omega
  go_wp2_with (go_at_call 93; refine (possibleRows_any _ _ _ _ _ _ _ _ _ gs r _ HgV.out (okB_ok Ob.out) h40).mono ?_; rintro e U0 ⟨v, rfl, hown, hb1⟩; have HU0 := Lib.hid hb1; clear hb1; obtain ⟨B1, c1, rfl, hcp, hrs⟩ := Rs.of_own hown; have HR0 := Lib.hid hrs; clear hrs hown)
  refine wp_label ?_
  go_wp2
  have hNp : (rowsOf w0 w1 w2 w3 w4 (possG w0 w1 w2 w3 w4 F [r] gs)).length = (possG w0 w1 w2 w3 w4 F [r] gs).length := rowsOf_len _ _ _ _ _ _
  generalize hU : World.alloc _ (.cells #[.slice none 0 0] 54) = U
  have HU : Hid (Below V.heap.size V U) := Lib.hid (by subst hU; exact up HU0.out (up (up_alloc _ _) (up_alloc _ _)))
  have HR : Hid (Rs U B1 (possG w0 w1 w2 w3 w4 F [r] gs).length (rowsOf w0 w1 w2 w3 w4 (possG w0 w1 w2 w3 w4 F [r] gs))) := Lib.hid (HR0.out.keep (by subst hU; exact up (up_alloc _ _) (up_alloc _ _)))
  have hUs : U.heap.size = U0.heap.size + 1 + 1 := by subst hU; simp
  have F7 : U.cell? ⟨U0.heap.size, 0, none⟩ = some (.slice B1 (possG w0 w1 w2 w3 w4 F [r] gs).length c1) := by subst hU; simp [go_sem]
  have F8 : U.cell? ⟨U0.heap.size + 1, 0, none⟩ = some (.slice none 0 0) := by subst hU; simp [go_sem]
  have Z8 : U.frozen? ⟨U0.heap.size + 1, 0, none⟩ = false := by subst hU; simp [go_sem]
  have hVU0 : V.heap.size ≤ U0.heap.size := HU0.out.size
  clear hU cm2 cr2 HU0 HR0
  have HLk : Hid (lookR w0 w1 w2 w3 w4 F gs r = lookL (rowsOf w0 w1 w2 w3 w4 (possG w0 w1 w2 w3 w4 F [r] gs))) := Lib.hid (by unfold lookR; rw [if_pos HE.out])
  generalize rowsOf w0 w1 w2 w3 w4 (possG w0 w1 w2 w3 w4 F [r] gs) = rs at *
  generalize (possG w0 w1 w2 w3 w4 F [r] gs).length = pn at *
  have HBw : Hid (Below w.heap.size w V) := Lib.hid (up HW.out HV.out)
  generalize Value.agg #[.int .i64 w0, .int .i64 w1, .int .i64 w2, .int .i64 w3, .int .i64 w4, .int .i64 F, .slice A n c] = BK
  generalize Value.agg #[.int .i64 r.r0, .int .i64 r.r1, .int .i64 r.r2, .int .i64 r.r3, .int .i64 r.r4, .int .i64 r.r5] = RD
  generalize Value.int .i64 (err (okB w0 w1 w2 w3 w4 F gs) 13) = E1
  generalize Value.int .i64 (err (okR r.r0 r.r1 r.r2 r.r3 r.r4 r.r5) 12) = E2
  generalize Value.slice (some ⟨W.heap.size + z.blocks.size, 0, none⟩) 2 2 = S15
  refine (wpIn_wide (n := 9)).1 ?_
  refine wpIn_loop (fun a wr => ∃ (k : Nat) (Ds : List Nat) (t9 t24 t25 t26 t27 t33 : Value), a = { tmps := #[BK, RD, .pointer (some ⟨w.heap.size, 0, none⟩), .pointer (some ⟨w.heap.size + 1, 0, none⟩), .slice none 0 0, .int .i64 0, .int .i64 0, .pointer (some ⟨U0.heap.size, 0, none⟩), .pointer (some ⟨U0.heap.size + 1, 0, none⟩), t9, undef, BK, E1, RD, E2, S15, .int .i64 0, .int .i64 0, .bool false, undef, BK, RD, .slice B1 pn c1, .int .i64 k, t24, t25, t26, t27, undef, undef, undef, undef, undef, t33, undef], defers := Ds.map mkD } ∧ k ≤ 7 ∧ Below U.heap.size U wr ∧ Ds.Nodup ∧ (∀ D ∈ Ds, U.heap.size ≤ D ∧ wr.heap[D]? = some (.deferred (some []))) ∧ (∀ l ∈ allL k, settleB rs l = false)) (fun a _ => (7 - intOf (a.tmps.getD 23 undef)).toNat) ⟨0, [], _, _, _, _, _, _, rfl, by omega, Below.refl _ _, List.nodup_nil, by simp, by simp [allL]⟩ ?_
  rintro a wr ⟨k, Ds, t9, t24, t25, t26, t27, t33, rfl, hk, hbw, hnd, hds, hno⟩
  have Hbw := Lib.hid hbw
  have Hds := Lib.hid hds
  have Hno := Lib.hid hno
  have u7 : U0.heap.size < U.heap.size := by omega
  have u8 : U0.heap.size + 1 < U.heap.size := by omega
  have f8 : wr.cell? ⟨U0.heap.size + 1, 0, none⟩ = some (.slice none 0 0) := (hbw.cell (p := ⟨U0.heap.size + 1, 0, none⟩) u8).trans F8
  have HDw : Hid (∀ D ∈ Ds, D < wr.heap.size) := Lib.hid (fun D hD => (Array.getElem?_eq_some_iff.1 (hds D hD).2).1)
  clear hbw hds hno
  by_cases hlt : k < 7
  rotate_left
  · obtain rfl : k = 7 := by omega
    gi_wp2
    go_wp2
    refine noGoto_ret (bodyPostM_marks Ds rfl hnd (fun D h => (Hds.out D h).2) fun Y hY => ⟨_, results_tmp2 rfl _ _ _, none, 0, 0, by rw [HE.out]; rfl, Nat.le_refl _, ?_, ?_⟩)
    · rw [HLk.out, lookL_none Hno.out]; exact ⟨rfl, by omega, fun k hk => by simp at hk⟩
    · exact hY.below (up HBw.out (up HU.out Hbw.out)) (fun D h => by have := (Hds.out D h).1; omega)
  gi_wp2_with (refine ⟨trivial, (callsIn_wide.2 (listsOf_any k wr)).mono ?_⟩; rintro e x1 ⟨rfl, rfl⟩)
  generalize hX1 : wr.alloc _ = X1
  have x1s : X1.heap.size = wr.heap.size + 1 := by subst hX1; simp
  have HX1 : Hid (Below wr.heap.size wr X1) := Lib.hid (by subst hX1; exact up_alloc _ _)
  have hc1 : X1.cell? ⟨wr.heap.size, 0, none⟩ = some (.int .i64 k) := by subst hX1; simp [go_sem]
  clear hX1
  have Hx1s := Lib.hid x1s
  have hUw : U.heap.size ≤ wr.heap.size := Hbw.out.size
  have HUX : Hid (Below U.heap.size U X1) := Lib.hid (Hbw.out.trans (HX1.out.mono hUw))
  have n1 : wr.heap.size < X1.heap.size := by omega
  have n8 : U0.heap.size + 1 < X1.heap.size := by omega
  have n9 : U.heap.size < X1.heap.size := by omega
  have HUs := Lib.hid hUs
  clear x1s hUs
  refine rangeFunc_law (by omega) (gf := 110) (lb := #[.pointer (some ⟨wr.heap.size, 0, none⟩)]) rfl (enters_of Try.func110 (by kernel_rfl) rfl) (lists_iter k wr.heap.size X1 n1) (Below.refl _ _) (fun _ => rfl)
    (fun pre X => Below X1.heap.size X1 X ∧ ∀ x ∈ pre, settleB rs x.1 = false)
    (fun c pre X => c = .exit 0 ∧ ∃ pre0 x, pre = pre0 ++ [x] ∧ (∀ y ∈ pre0, settleB rs y.1 = false) ∧ settleB rs x.1 = true ∧ Below V.heap.size V X ∧ X.cell? ⟨U0.heap.size + 1, 0, none⟩ = some x.2 ∧ LiesL (X1.heap.size + 2) x X ∧ ∀ D ∈ Ds, X.heap[D]? = some (.deferred (some [])))
    ?_ ?_ ?_ ⟨Below.refl _ _, by simp⟩ ?_ ?_ ?_
  · rintro pre X ⟨h, _⟩
    exact (h.cell (p := ⟨wr.heap.size, 0, none⟩) n1).trans hc1
  · rintro s X Y ⟨h1, h2⟩ hb
    exact ⟨h1.trans hb, h2⟩
  · rintro c s X o ⟨rfl, pre0, x, rfl, h0, h1, h2, h3, ⟨A0, kk, cc, h4, h5, h6, h7⟩, h8⟩
    refine ⟨rfl, pre0, x, rfl, h0, h1, h2.trans (below_putObj X (by have := HU.out.size; omega) o), (cell_putObj X (U0.heap.size + 1) 0 (X1.heap.size + 1) o (by omega)).trans h3, ⟨A0, kk, cc, h4, h5, ?_, h7⟩, fun D hD => ?_⟩
    · refine h6.off (by simp [World.putObj]) fun p hp _ => World.putObj_heap_other ?_
      have := h7 p hp; omega
    · refine (World.putObj_heap_other ?_).trans (h8 D hD)
      have := HDw.out D hD; have := Hx1s.out; omega
  · rintro l pre ⟨xl, xv⟩ X ⟨m, hm, hlen, hsp⟩ ⟨A0, kk, cc, hx2, hkc, his, hfar⟩ ⟨hbx, hno2⟩ hsz
    simp only at hx2
    subst hx2
    have Hin : Hid (∀ i ∈ xl, 0 ≤ i ∧ i < 6) := Lib.hid (procL_in k (m + 1) xl (by rw [← hsp]; simp))
    have Hsp := Lib.hid hsp
    have Hno2 := Lib.hid hno2
    have Hbx := Lib.hid hbx
    have His := Lib.hid his
    have Hfar := Lib.hid hfar
    clear hsp hno2 hbx his hfar
    simp only [encL]
    gi_wp2
    refine ⟨Above.refl _ _, ?_⟩
    intro Y hY1 hY2
    have HXY : Hid (Below X1.heap.size X1 Y) := Lib.hid (Hbx.out.trans hY1)
    have HUY : Hid (Below U.heap.size U Y) := Lib.hid (HUX.out.trans (HXY.out.mono (by omega)))
    have HisY : Hid (Is Y A0 kk xl) := Lib.hid (His.out.off hY2.size fun p hp hlt => hY2.block _ (Hfar.out p hp) hlt)
    have HRY := Lib.hid (HR.out.keep HUY.out)
    have y8 : U0.heap.size + 1 < Y.heap.size := by have := HXY.out.size; omega
    have y7 : U0.heap.size < Y.heap.size := by omega
    have f7 : Y.cell? ⟨U0.heap.size, 0, none⟩ = some (.slice B1 pn c1) := (HUY.out.cell (p := ⟨U0.heap.size, 0, none⟩) u7).trans F7
    have f8' : Y.cell? ⟨U0.heap.size + 1, 0, none⟩ = some (.slice none 0 0) := (HUY.out.cell (p := ⟨U0.heap.size + 1, 0, none⟩) u8).trans F8
    have z8 : Y.frozen? ⟨U0.heap.size + 1, 0, none⟩ = false := (HUY.out.frozen (p := ⟨U0.heap.size + 1, 0, none⟩) u8).trans Z8
    clear hY1 hY2
    cases hst : settleB rs xl
    · have Hst := Lib.hid hst
      clear hst
      gi_wp2_with (refine ⟨trivial, (CallsIn.inRound l (callsIn_wide.2 (settle_any _ _ _ rs _ _ _ xl _ HRY.out hcp HisY.out Hin.out))).mono ?_⟩; rintro e x1 ⟨rfl, hb1⟩; obtain ⟨y, rfl⟩ := below_grow hb1; clear hb1; rw [Hst.out])
      refine ⟨Above.of_below (grow_below Y y), HXY.out.trans ((grow_below Y y).mono (by have := HXY.out.size; omega)), ?_⟩
      rintro a b hm
      rcases List.mem_append.1 hm with hm | hm
      · exact Hno2.out (a, b) hm
      · simp at hm
        obtain ⟨rfl, rfl⟩ := hm
        exact Hst.out
    · have Hst := Lib.hid hst
      clear hst
      gi_wp2_with (refine ⟨trivial, (CallsIn.inRound l (callsIn_wide.2 (settle_any _ _ _ rs _ _ _ xl _ HRY.out hcp HisY.out Hin.out))).mono ?_⟩; rintro e x1 ⟨rfl, hb1⟩; obtain ⟨y, rfl⟩ := below_grow hb1; clear hb1; rw [Hst.out])
      refine ⟨(Above.of_below (grow_below Y y)).trans (Above.setCell _ n8 _), rfl, pre, xl, _, rfl, fun a b hm => Hno2.out (a, b) hm, Hst.out, ?_, World.cell?_setCell_same' _ _ _ ?_, ⟨A0, kk, cc, rfl, hkc, ?_, Hfar.out⟩, fun D hD => ?_⟩
      · exact ((HU.out.trans (HUY.out.mono HU.out.size)).trans ((grow_below Y y).mono (by have := HUY.out.size; have := HU.out.size; omega))).setCell (p := ⟨U0.heap.size + 1, 0, none⟩) (Nat.le_succ_of_le hVU0) _
      · rw [(grow_below Y y).cell (p := ⟨U0.heap.size + 1, 0, none⟩) y8, f8']; rfl
      · exact (HisY.out.keep (grow_below Y y)).off (by simp [World.setCell]) fun p hp _ => Below.heap_setCell _ _ _ _ (by have := Hfar.out p hp; show p.block ≠ U0.heap.size + 1; omega)
      · have e1 := HDw.out D hD
        have e2 := (Hds.out D hD)
        have e3 := Hx1s.out
        have e4 := HXY.out.size
        rw [Below.heap_setCell _ _ _ _ (by show D ≠ U0.heap.size + 1; omega), (grow_below Y y).block D (by omega), HXY.out.block D (by omega), HX1.out.block D e1, e2.2]
  · rintro xs X hS ⟨hbx, hno2⟩ hdef
    have HS := Lib.hid hS
    have Hbx := Lib.hid hbx
    have Hno2 := Lib.hid hno2
    have Hdef := Lib.hid hdef
    clear hS hbx hno2 hdef
    gi_wp2
    refine ⟨⟨k + 1, X1.heap.size :: Ds, _, _, _, _, _, _, rfl, by omega, HUX.out.trans (Hbx.out.mono (by omega)), List.nodup_cons.2 ⟨fun hm => by have := HDw.out _ hm; have := Hx1s.out; omega, hnd⟩, ?_, ?_⟩, by simp [intOf]; omega⟩
    · intro D hD
      rcases List.mem_cons.1 hD with rfl | hD
      · exact ⟨by omega, Hdef.out⟩
      · have e1 := HDw.out D hD
        have e3 := Hx1s.out
        exact ⟨(Hds.out D hD).1, by rw [Hbx.out.block D (by omega), HX1.out.block D e1, (Hds.out D hD).2]⟩
    · intro l hl
      rw [allL] at hl
      rcases List.mem_append.1 hl with hl | hl
      · exact Hno.out l hl
      · rw [← HS.out] at hl
        obtain ⟨y, hy, rfl⟩ := List.mem_map.1 hl
        exact Hno2.out y hy
  · rintro c pre X ⟨m, hm, hlen, hsp⟩ ⟨rfl, pre0, ⟨xl, xv⟩, rfl, h0, h1, h2, h3, ⟨A0, kk, cc, h4, h5, h6, h7⟩, h8⟩ hdef
    simp only at h4
    subst h4
    have Hsp := Lib.hid hsp
    have H0 := Lib.hid h0
    have H1 := Lib.hid h1
    have H2 := Lib.hid h2
    have H6 := Lib.hid h6
    have H7 := Lib.hid h7
    have H8 := Lib.hid h8
    have Hdef := Lib.hid hdef
    clear hsp h0 h1 h2 h6 h7 h8 hdef
    gi_wp2
    go_wp2
    refine noGoto_ret (bodyPostM_marks (X1.heap.size :: Ds) rfl (List.nodup_cons.2 ⟨fun hm => by have := HDw.out _ hm; have := Hx1s.out; omega, hnd⟩) ?_ fun Y hY => ⟨_, results_tmp2 rfl _ _ _, A0, kk, cc, by rw [HE.out]; rfl, h5, ?_, ?_⟩)
    · intro D hD
      rcases List.mem_cons.1 hD with rfl | hD
      · exact Hdef.out
      · exact H8.out D hD
    · rw [HLk.out, lookL_some hlt hm Hno.out Hsp.out H0.out H1.out]
      refine H6.out.off (Nat.le_of_eq hY.size.symm) fun p hp _ => hY.block _ fun hD => ?_
      have e1 := H7.out p hp
      rcases List.mem_cons.1 hD with hD | hD
      · omega
      · have := HDw.out _ hD; have := Hx1s.out; omega
    · refine hY.below (up HBw.out H2.out) fun D hD => ?_
      have e5 := HBw.out.size
      have e6 := HU.out.size
      rcases List.mem_cons.1 hD with hD | hD
      · omega
      · have := (Hds.out D hD).1; omega
end Go.Proofs.Ytbieopkohkomoaa

namespace Go.Proofs.Ytbieopkohkomoaa
open Go Go.RowKit
set_option maxHeartbeats 400000
set_option maxRecDepth 100000

def bookG : List Giv := [⟨1, 0, 0, 0, 0, 0, 0⟩, ⟨2, 2, 0, 0, 0, 0, 0⟩, ⟨3, 3, 0, 0, 0, 0, 2⟩]
theorem f1 : brE 1 3 4 24 24 0 bookG ⟨31, 1, 1, 1, 1, 31⟩ = 0 := by kernel_rfl
theorem f2 : own (brG 1 3 4 24 24 0 bookG ⟨31, 1, 1, 1, 1, 31⟩) = [1, 2, 3] := by kernel_rfl
theorem f3 : lookR 1 3 4 24 24 0 bookG ⟨31, 1, 1, 1, 1, 31⟩ = [0] := by kernel_rfl
theorem f4 : lookE 1 3 4 24 24 0 bookG ⟨31, 1, 1, 1, 1, 31⟩ ⟨16, 1, 1, 1, 1, 1⟩ [0] = 0 := by kernel_rfl
theorem f5 : own (lookG 1 3 4 24 24 0 bookG ⟨31, 1, 1, 1, 1, 31⟩ ⟨16, 1, 1, 1, 1, 1⟩ [0]) = [3] := by kernel_rfl
theorem f6 : nextR 1 3 4 24 24 0 bookG = (⟨0, 0, 0, 0, 0, 2⟩, 0) := by
  unfold nextR
  rw [if_pos (by kernel_rfl), if_neg (by decide), find_hit (k := 2) (pre := [markNo 0, markNo 1]) (m := ⟨0, 0, 0, 0, 0, 2⟩) (by omega) (by kernel_rfl) (by intro x hx; simp at hx; rcases hx with rfl | rfl <;> kernel_rfl) (by kernel_rfl)]
theorem f7 : wornE 1 3 4 24 24 3 1 0 0 0 0 = 0 := by kernel_rfl
theorem g2 : (brG 1 3 4 24 24 0 bookG ⟨31, 1, 1, 1, 1, 31⟩).length = 3 := by kernel_rfl
theorem g5' : (lookG 1 3 4 24 24 0 bookG ⟨31, 1, 1, 1, 1, 31⟩ ⟨16, 1, 1, 1, 1, 1⟩ [0]).length = 1 := by kernel_rfl
theorem d1 : distV 1 3 4 24 24 2 1 0 0 0 0 3 2 0 0 0 0 = 2 := by kernel_rfl
theorem d2 : distE 1 3 4 24 24 2 1 0 0 0 0 3 2 0 0 0 0 = 0 := by kernel_rfl
theorem n0 : wornV 1 3 4 24 24 3 1 0 0 0 0 [1, 0] 0 = 16 := by kernel_rfl
theorem n1 : wornV 1 3 4 24 24 3 1 0 0 0 0 [1, 0] 1 = 1 := by kernel_rfl
theorem n2 : wornV 1 3 4 24 24 3 1 0 0 0 0 [1, 0] 2 = 1 := by kernel_rfl
theorem n3 : wornV 1 3 4 24 24 3 1 0 0 0 0 [1, 0] 3 = 1 := by kernel_rfl
theorem n4 : wornV 1 3 4 24 24 3 1 0 0 0 0 [1, 0] 4 = 1 := by kernel_rfl
theorem n5 : wornV 1 3 4 24 24 3 1 0 0 0 0 [1, 0] 5 = 1 := by kernel_rfl

theorem book_any (w : World) : Calls Try.prog 74 #[] w fun e w' => ∃ A, e = .returned (.agg #[.int .i64 1, .int .i64 3, .int .i64 4, .int .i64 24, .int .i64 24, .int .i64 0, .slice A 3 3]) ∧ Gs w' A 3 bookG ∧ Below w.heap.size w w' := by
  go_enter Try.func74, Try.ntmps74
  go_wp2
  refine bodyPost_ret (v := .agg #[.int .i64 1, .int .i64 3, .int .i64 4, .int .i64 24, .int .i64 24, .int .i64 0, .slice (some ⟨w.heap.size + 1, 0, none⟩) 3 3]) (by simp [results, Try.results74, go_sem]) rfl ⟨_, rfl, ⟨rfl, by decide, fun k hk => ?_⟩, by go_grown⟩
  refine ⟨w.heap.size + 1, 0, rfl, by simp, ?_⟩
  rcases (by simp [bookG] at hk; omega : k = 0 ∨ k = 1 ∨ k = 2) with rfl | rfl | rfl <;> (constructor <;> simp [go_sem, bookG])

theorem is1 (w : World) (a : Int) (t : TypeId) (B : Nat) (hB : B = w.heap.size) : Is (w.alloc (.cells #[.int .i64 a] t)) (some ⟨B, 0, none⟩) 1 [a] := by
  subst hB
  exact ⟨rfl, by decide, fun k hk => ⟨w.heap.size, 0, rfl, by simp, by
    obtain rfl : k = 0 := by simp at hk; omega
    simp [go_sem]⟩⟩
end Go.Proofs.Ytbieopkohkomoaa

