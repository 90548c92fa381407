/- Contracts of functions of the program and of the reference, and plain facts: a part of a proof. Own text. -/
import Derived.Test.YtbieopkohkomoaaJj
set_option linter.unusedVariables false
set_option linter.unusedSimpArgs false
set_option linter.unusedSectionVars false
namespace Go.Proofs.Ytbieopkohkomoaa
open Go Go.RowKit
set_option maxHeartbeats 400000
set_option maxRecDepth 100000

set_option maxHeartbeats 600000 in
theorem addErr_any (w0 w1 w2 w3 w4 F : Int) (A : Option Addr) (n c : Nat) (gs : List Giv) (g : Giv) (w : World) (hg : Gs w A n gs) (hnc : n ≤ c) (hErr : addE w0 w1 w2 w3 w4 F gs g ≠ 0) :
    Calls Try.prog 43 #[.agg #[.int .i64 w0, .int .i64 w1, .int .i64 w2, .int .i64 w3, .int .i64 w4, .int .i64 F, .slice A n c], .agg #[.int .i64 g.o, .int .i64 g.m0, .int .i64 g.m1, .int .i64 g.m2, .int .i64 g.m3, .int .i64 g.m4, .int .i64 g.m5]] w fun e w' =>
      e = .returned (.tuple #[.agg #[.int .i64 0, .int .i64 0, .int .i64 0, .int .i64 0, .int .i64 0, .int .i64 0, .slice none 0 0], .int .i64 (addE w0 w1 w2 w3 w4 F gs g)]) ∧ Below w.heap.size w w' := by
  have HErr := Lib.hid hErr
  clear hErr
  have Hl : Hid (n = gs.length) := Lib.hid hg.len
  go_enter Try.func43, Try.ntmps43
  go_wp2_with fail
  generalize hW : (World.alloc _ _) = W
  have HW : Hid (Below w.heap.size w W) := Lib.hid (by subst hW; go_grown)
  have KM : Bk W w.heap.size [.int .i64 w0, .int .i64 w1, .int .i64 w2, .int .i64 w3, .int .i64 w4, .int .i64 F, .slice A n c] := ⟨by subst hW; simp only [World.size_alloc]; omega, by subst hW; intro j; simp [go_sem]⟩
  have KG : Bk W (w.heap.size + 1) [.int .i64 g.o, .int .i64 g.m0, .int .i64 g.m1, .int .i64 g.m2, .int .i64 g.m3, .int .i64 g.m4, .int .i64 g.m5] := ⟨by subst hW; simp only [World.size_alloc]; omega, by subst hW; intro j; simp [go_sem]⟩
  have KX : Bk W (w.heap.size + 2) [.int .i64 0, .int .i64 0, .int .i64 0, .int .i64 0, .int .i64 0, .int .i64 0, .slice none 0 0] := ⟨by subst hW; simp only [World.size_alloc]; omega, by subst hW; intro j; simp [go_sem]⟩
  have HFX : Hid (∀ j, W.frozen? ⟨w.heap.size + 2, j, none⟩ = false) := Lib.hid (by subst hW; intro j; simp [go_sem])
  clear hW
  have HG := Lib.hid (hg.keep HW.out)
  clear hg
  have HEE : Hid (addE w0 w1 w2 w3 w4 F gs g = if addE0 w0 w1 w2 w3 w4 F gs g = 0 then (if gs.length = 40 then 16 else if nearB w0 w1 w2 w3 w4 F g.m0 g.m1 g.m2 g.m3 g.m4 g.m5 gs = true then 19 else 0) else addE0 w0 w1 w2 w3 w4 F gs g) := Lib.hid rfl
  have HE0 : Hid (firstE [newE w0 w1 w2 w3 w4 F gs g.o, err (okM g.m0 g.m1 g.m2 g.m3 g.m4 g.m5) 10] = addE0 w0 w1 w2 w3 w4 F gs g) := Lib.hid rfl
  have HF : Hid (addE0 w0 w1 w2 w3 w4 F gs g = 0 → newE w0 w1 w2 w3 w4 F gs g.o = 0 ∧ g.okB = true) := Lib.hid (fun h => by
    unfold addE0 at h
    obtain ⟨h1, h2⟩ := firstE2_0 h
    exact ⟨h1, err_0 (by decide) h2⟩)
  have HNE : Hid (newE w0 w1 w2 w3 w4 F gs g.o = 0 → okB w0 w1 w2 w3 w4 F gs = true ∧ (1 ≤ g.o ∧ g.o ≤ 99) ∧ pos (own gs) g.o 0 < 0) := Lib.hid newE_ok
  have KMl := KM.lt; have KMc := KM.get; have KGl := KG.lt; have KGc := KG.get
  refine wp_region_grow_tail 7 (by kernel_rfl) (by kernel_rfl) ?_
  simp only [List.take_succ_cons, List.take_zero, List.drop_succ_cons, List.drop_zero]
  repeat (go_big_quiet_step ((first | (go_at_call 89; exact quiet_grow rfl (checkNew_any _ _ _ _ _ _ _ _ _ _ gs _ (HG.out.keep (by first | exact Below.refl _ _ | exact grow_below _ _)) hnc)) | (go_at_call 14; exact quiet_grow rfl (checkMark_any _ _ _ _ _ _ _)))))
  refine wpQuiet_nil ?_
  intro z
  have hbz := grow_below W z
  generalize grow W z = V at *
  clear KMl KMc KGl KGc
  have HB1 := Lib.hid hbz
  replace HFX := Lib.hid (fun j => (HB1.out.frozen (p := ⟨w.heap.size + 2, j, none⟩) KX.lt).trans (HFX.out j))
  replace KM := KM.keep HB1.out
  replace KG := KG.keep HB1.out
  replace KX := KX.keep HB1.out
  replace HG := Lib.hid (HG.out.keep HB1.out)
  clear hbz
  have KMl := KM.lt; have KMc := KM.get; have KGl := KG.lt; have KGc := KG.get
  go_wp2_with fail
  refine (first_any _ _ _ _ _ (is2 _ _ _ _ _ (by simp))).mono ?_
  rintro e x1 ⟨rfl, rfl⟩
  rw [HE0.out]
  generalize hV1 : World.alloc V _ = V1
  have hb2 : Below V.heap.size V V1 := by subst hV1; exact up_alloc _ _
  clear hV1
  clear KMl KMc KGl KGc
  have HB2 := Lib.hid hb2
  replace HFX := Lib.hid (fun j => (HB2.out.frozen (p := ⟨w.heap.size + 2, j, none⟩) KX.lt).trans (HFX.out j))
  replace KM := KM.keep HB2.out
  replace KG := KG.keep HB2.out
  replace KX := KX.keep HB2.out
  replace HG := Lib.hid (HG.out.keep HB2.out)
  clear hb2
  generalize addE0 w0 w1 w2 w3 w4 F gs g = E at *
  by_cases hE : E = 0
  rotate_left
  · have b0 : (E == 0) = false := by simpa using hE
    have b1 : (E != 0) = true := by simpa using hE
    have HE := Lib.hid hE
    clear hE
    have FX1 := HFX.out
    have KMl := KM.lt; have KMc := KM.get; have KGl := KG.lt; have KGc := KG.get; have KXl := KX.lt; have KXc := KX.get
    go_wp2
    have P := put7 V1 (w.heap.size + 1 + 1) (.int .i64 0) (.int .i64 0) (.int .i64 0) (.int .i64 0) (.int .i64 0) (.int .i64 0) (.slice none 0 0) (bk_some (KX))
    have O := own_put7 (w := V1) (World.ownsRow_nil V1 (w.heap.size + 3) 30 7) (b := w.heap.size + 1 + 1) (by omega) (.int .i64 0) (.int .i64 0) (.int .i64 0) (.int .i64 0) (.int .i64 0) (.int .i64 0) (.slice none 0 0)
    have BB := put7_below (w := V1) (up HW.out (up HB1.out HB2.out)) (by omega : _ ≤ w.heap.size + 1 + 1) (.int .i64 0) (.int .i64 0) (.int .i64 0) (.int .i64 0) (.int .i64 0) (.int .i64 0) (.slice none 0 0)
    generalize World.setCell _ ⟨w.heap.size + 1 + 1, 6, none⟩ _ = U at P O BB ⊢
    have p0 := P 0 (by omega); have p1 := P 1 (by omega); have p2 := P 2 (by omega); have p3 := P 3 (by omega); have p4 := P 4 (by omega); have p5 := P 5 (by omega); have p6 := P 6 (by omega)
    clear P
    simp at p0 p1 p2 p3 p4 p5 p6
    refine bodyPost_ret (v := .tuple #[.agg #[.int .i64 0, .int .i64 0, .int .i64 0, .int .i64 0, .int .i64 0, .int .i64 0, .slice none 0 0], .int .i64 E]) (by simp [results, Try.results43, go_sem, p0, p1, p2, p3, p4, p5, p6]) rfl ?_
    clear p0 p1 p2 p3 p4 p5 p6
    have HEF : Hid (addE w0 w1 w2 w3 w4 F gs g = E) := Lib.hid (by rw [HEE.out, if_neg HE.out])
    exact ⟨by rw [HEF.out], BB⟩
  subst hE
  obtain ⟨hnew, hgo⟩ := HF.out rfl
  obtain ⟨hok, _, hps⟩ := HNE.out hnew
  have h40 : n ≤ 40 := by have := Hl.out; have := okB_40 hok; omega
  obtain ⟨⟨m0, k0⟩, ⟨m1, k1⟩, ⟨m2, k2⟩, ⟨m3, k3⟩, ⟨m4, k4⟩, ⟨m5, k5⟩⟩ := Giv.ok_of hgo
  obtain ⟨how, hF0, hF2⟩ := okB_F hok
  have Hok := Lib.hid (okB_ok hok)
  clear hnew hgo hok hps how HF HNE HE0
  by_cases hn40 : n = 40
  · have HL : Hid (gs.length = 40) := Lib.hid (by rw [← Hl.out]; exact hn40)
    subst hn40
    have FX1 := HFX.out
    have KMl := KM.lt; have KMc := KM.get; have KGl := KG.lt; have KGc := KG.get; have KXl := KX.lt; have KXc := KX.get
    go_wp2
    have P := put7 V1 (w.heap.size + 1 + 1) (.int .i64 0) (.int .i64 0) (.int .i64 0) (.int .i64 0) (.int .i64 0) (.int .i64 0) (.slice none 0 0) (bk_some (KX))
    have O := own_put7 (w := V1) (World.ownsRow_nil V1 (w.heap.size + 3) 30 7) (b := w.heap.size + 1 + 1) (by omega) (.int .i64 0) (.int .i64 0) (.int .i64 0) (.int .i64 0) (.int .i64 0) (.int .i64 0) (.slice none 0 0)
    have BB := put7_below (w := V1) (up HW.out (up HB1.out HB2.out)) (by omega : _ ≤ w.heap.size + 1 + 1) (.int .i64 0) (.int .i64 0) (.int .i64 0) (.int .i64 0) (.int .i64 0) (.int .i64 0) (.slice none 0 0)
    generalize World.setCell _ ⟨w.heap.size + 1 + 1, 6, none⟩ _ = U at P O BB ⊢
    have p0 := P 0 (by omega); have p1 := P 1 (by omega); have p2 := P 2 (by omega); have p3 := P 3 (by omega); have p4 := P 4 (by omega); have p5 := P 5 (by omega); have p6 := P 6 (by omega)
    clear P
    simp at p0 p1 p2 p3 p4 p5 p6
    refine bodyPost_ret (v := .tuple #[.agg #[.int .i64 0, .int .i64 0, .int .i64 0, .int .i64 0, .int .i64 0, .int .i64 0, .slice none 0 0], .int .i64 16]) (by simp [results, Try.results43, go_sem, p0, p1, p2, p3, p4, p5, p6]) rfl ?_
    clear p0 p1 p2 p3 p4 p5 p6
    have HEF : Hid (addE w0 w1 w2 w3 w4 F gs g = 16) := Lib.hid (by rw [HEE.out, HL.out]; rfl)
    exact ⟨by rw [HEF.out], BB⟩
  have HL : Hid (gs.length ≠ 40) := Lib.hid (by rw [← Hl.out]; exact hn40)
  have hn40' : ((n : Int) == 40) = false := by rw [beq_eq_false_iff_ne]; omega
  have hn41 : (n == 40) = false := by simpa using hn40
  clear hn40
  have KMl := KM.lt; have KMc := KM.get; have KGl := KG.lt; have KGc := KG.get
  go_wp2_with fail
  refine (near_any w0 w1 w2 w3 w4 F g.m0 g.m1 g.m2 g.m3 g.m4 g.m5 A n c gs V1 m0 k0 m1 k1 m2 k2 m3 k3 m4 k4 m5 k5 hF0 hF2 HG.out Hok.out).mono ?_
  rintro e V2 ⟨rfl, hb3⟩
  clear KMl KMc KGl KGc
  have HB3 := Lib.hid hb3
  replace HFX := Lib.hid (fun j => (HB3.out.frozen (p := ⟨w.heap.size + 2, j, none⟩) KX.lt).trans (HFX.out j))
  replace KM := KM.keep HB3.out
  replace KG := KG.keep HB3.out
  replace KX := KX.keep HB3.out
  replace HG := Lib.hid (HG.out.keep HB3.out)
  clear hb3
  generalize hN : nearB w0 w1 w2 w3 w4 F g.m0 g.m1 g.m2 g.m3 g.m4 g.m5 gs = N at *
  cases N
  rotate_left
  · clear hN
    have FX1 := HFX.out
    have KMl := KM.lt; have KMc := KM.get; have KGl := KG.lt; have KGc := KG.get; have KXl := KX.lt; have KXc := KX.get
    go_wp2
    have P := put7 V2 (w.heap.size + 1 + 1) (.int .i64 0) (.int .i64 0) (.int .i64 0) (.int .i64 0) (.int .i64 0) (.int .i64 0) (.slice none 0 0) (bk_some (KX))
    have O := own_put7 (w := V2) (World.ownsRow_nil V2 (w.heap.size + 3) 30 7) (b := w.heap.size + 1 + 1) (by omega) (.int .i64 0) (.int .i64 0) (.int .i64 0) (.int .i64 0) (.int .i64 0) (.int .i64 0) (.slice none 0 0)
    have BB := put7_below (w := V2) (up HW.out (up HB1.out (up HB2.out HB3.out))) (by omega : _ ≤ w.heap.size + 1 + 1) (.int .i64 0) (.int .i64 0) (.int .i64 0) (.int .i64 0) (.int .i64 0) (.int .i64 0) (.slice none 0 0)
    generalize World.setCell _ ⟨w.heap.size + 1 + 1, 6, none⟩ _ = U at P O BB ⊢
    have p0 := P 0 (by omega); have p1 := P 1 (by omega); have p2 := P 2 (by omega); have p3 := P 3 (by omega); have p4 := P 4 (by omega); have p5 := P 5 (by omega); have p6 := P 6 (by omega)
    clear P
    simp at p0 p1 p2 p3 p4 p5 p6
    refine bodyPost_ret (v := .tuple #[.agg #[.int .i64 0, .int .i64 0, .int .i64 0, .int .i64 0, .int .i64 0, .int .i64 0, .slice none 0 0], .int .i64 19]) (by simp [results, Try.results43, go_sem, p0, p1, p2, p3, p4, p5, p6]) rfl ?_
    clear p0 p1 p2 p3 p4 p5 p6
    have HEF : Hid (addE w0 w1 w2 w3 w4 F gs g = 19) := Lib.hid (by rw [HEE.out, if_pos (by trivial), if_neg HL.out]; simp)
    exact ⟨by rw [HEF.out], BB⟩
  have HEF : Hid (addE w0 w1 w2 w3 w4 F gs g = 0) := Lib.hid (by rw [HEE.out, if_pos (by trivial), if_neg HL.out]; simp)
  exact absurd HEF.out HErr.out
end Go.Proofs.Ytbieopkohkomoaa

namespace Go.Proofs.Ytbieopkohkomoaa
open Go Go.RowKit
set_option maxHeartbeats 400000
set_option maxRecDepth 100000

theorem find_upto {P : Rd → Bool} : ∀ n : Nat, (∃ k, k < n ∧ (upto n).find? P = some (markNo k) ∧ P (markNo k) = true ∧ ∀ j, j < k → P (markNo j) = false) ∨ ((upto n).find? P = none ∧ ∀ k, k < n → P (markNo k) = false)
  | 0 => .inr ⟨rfl, fun k hk => by omega⟩
  | n + 1 => by
    have e : upto (n + 1) = upto n ++ [markNo n] := upto_succ n
    rw [e, List.find?_append]
    rcases find_upto (P := P) n with ⟨k, hk, h1, h2, h3⟩ | ⟨h1, h2⟩
    · left; exact ⟨k, by omega, by rw [h1]; rfl, h2, h3⟩
    · rw [h1]
      cases hp : P (markNo n)
      · right; exact ⟨by simp [hp], fun k hk => by
          by_cases h : k = n
          · subst h; exact hp
          · exact h2 k (by omega)⟩
      · left; exact ⟨n, by omega, by simp [hp], hp, h2⟩
theorem next_cases {w0 w1 w2 w3 w4 F : Int} {gs : List Giv} (h : okB w0 w1 w2 w3 w4 F gs = true) (hl : gs.length < 40) :
    (∃ k, k < 15625 ∧ nextR w0 w1 w2 w3 w4 F gs = (markNo k, 0) ∧ apAll w0 w1 w2 w3 w4 F gs (markNo k) = true ∧ ∀ j, j < k → apAll w0 w1 w2 w3 w4 F gs (markNo j) = false) ∨ (nextR w0 w1 w2 w3 w4 F gs = (zeroR, 16) ∧ ∀ k, k < 15625 → apAll w0 w1 w2 w3 w4 F gs (markNo k) = false) := by
  unfold nextR
  rw [if_pos h, if_neg (by omega)]
  rcases find_upto (P := apAll w0 w1 w2 w3 w4 F gs) 15625 with ⟨k, hk, h1, h2, h3⟩ | ⟨h1, h2⟩
  · left; exact ⟨k, hk, by rw [h1], h2, h3⟩
  · right; exact ⟨by rw [h1], h2⟩
theorem near_not_ap (w0 w1 w2 w3 w4 F : Int) (gs : List Giv) (m : Rd) : nearB w0 w1 w2 w3 w4 F m.r0 m.r1 m.r2 m.r3 m.r4 m.r5 gs = !apAll w0 w1 w2 w3 w4 F gs m := by
  unfold nearB apAll
  induction gs with
  | nil => rfl
  | cons g l ih => rw [List.any_cons, List.all_cons, ih, Bool.not_and]
theorem pos_no_own (l : List Giv) (x : Int) : ∀ k : Nat, (∀ y ∈ l, y.o ≠ x) → pos (own l) x k = -1 := by
  induction l with
  | nil => intro k _; rfl
  | cons a r ih =>
    intro k h
    rw [show own (a :: r) = a.o :: own r from rfl, pos_no _ _ (h a (List.mem_cons_self ..))]
    exact ih (k + 1) (fun y hy => h y (List.mem_cons_of_mem _ hy))
theorem pos_at_own (l : List Giv) : ∀ (k i : Nat) (h : i < l.length), (∀ j (hj : j < l.length), j < i → l[j].o ≠ l[i].o) → pos (own l) l[i].o k = k + i := by
  induction l with
  | nil => intro k i h; simp at h
  | cons a r ih =>
    intro k i h hne
    cases i with
    | zero => rw [show own (a :: r) = a.o :: own r from rfl]; simp only [List.getElem_cons_zero]; rw [pos_yes _ _ rfl]; omega
    | succ i =>
      have h0 := hne 0 (by simp) (by omega)
      simp only [List.getElem_cons_zero, List.getElem_cons_succ] at h0
      rw [show own (a :: r) = a.o :: own r from rfl]
      simp only [List.getElem_cons_succ]
      rw [pos_no _ _ h0, ih (k + 1) i (by simpa using h) (fun j hj hji => by
        have := hne (j + 1) (by simpa using hj) (by omega)
        simpa using this)]
      omega
theorem newE_free {w0 w1 w2 w3 w4 F x : Int} {gs : List Giv} (h : okB w0 w1 w2 w3 w4 F gs = true) (hx : 1 ≤ x ∧ x ≤ 99) (hne : ∀ y ∈ gs, y.o ≠ x) : newE w0 w1 w2 w3 w4 F gs x = 0 := by
  unfold newE findE
  rw [pos_no_own gs x 0 hne]
  simp [h, hx]
theorem addE_free {w0 w1 w2 w3 w4 F x : Int} {gs : List Giv} (k : Nat) (h : okB w0 w1 w2 w3 w4 F gs = true) (hl : gs.length < 40) (hx : 1 ≤ x ∧ x ≤ 99) (hne : ∀ y ∈ gs, y.o ≠ x) :
    addE w0 w1 w2 w3 w4 F gs ((markNo k).giv x) = if apAll w0 w1 w2 w3 w4 F gs (markNo k) = true then 0 else 19 := by
  have h0 : addE0 w0 w1 w2 w3 w4 F gs ((markNo k).giv x) = 0 := by
    unfold addE0
    rw [show ((markNo k).giv x).o = x from rfl, newE_free h hx hne, markNo_ok]; rfl
  unfold addE
  rw [if_pos h0, if_neg (by omega)]
  have := near_not_ap w0 w1 w2 w3 w4 F gs (markNo k)
  rw [show nearB w0 w1 w2 w3 w4 F ((markNo k).giv x).m0 ((markNo k).giv x).m1 ((markNo k).giv x).m2 ((markNo k).giv x).m3 ((markNo k).giv x).m4 ((markNo k).giv x).m5 gs = !apAll w0 w1 w2 w3 w4 F gs (markNo k) from this]
  cases apAll w0 w1 w2 w3 w4 F gs (markNo k) <;> rfl
theorem ins_last {g : Giv} : ∀ l : List Giv, (∀ y ∈ l, y.o < g.o) → insG g l = l ++ [g]
  | [], _ => rfl
  | x :: r, h => by
    rw [insG, if_pos (h x (List.mem_cons_self ..)), ins_last r (fun y hy => h y (List.mem_cons_of_mem _ hy))]; rfl
theorem lastO_le {gs : List Giv} {b : Int} (hb : 0 ≤ b) (h : ∀ y ∈ gs, y.o ≤ b) : lastO gs gs.length ≤ b := by
  cases hg : gs.length with
  | zero => exact hb
  | succ j =>
    simp only [lastO]
    rw [List.getD_eq_getElem?_getD, List.getElem?_eq_getElem (by omega)]
    exact h _ (List.getElem_mem _)
theorem rise_ne {w0 w1 w2 w3 w4 F : Int} {gs : List Giv} (h : okB w0 w1 w2 w3 w4 F gs = true) (i j : Nat) (hi : i < gs.length) (hj : j < gs.length) (hji : j < i) : gs[j].o ≠ gs[i].o := by
  have := (List.pairwise_iff_getElem.1 (ok_pair h)) j i hj hi hji
  have := this.1
  omega
theorem find_at {w0 w1 w2 w3 w4 F : Int} {gs : List Giv} (h : okB w0 w1 w2 w3 w4 F gs = true) (i : Nat) (hi : i < gs.length) : findE w0 w1 w2 w3 w4 F gs gs[i].o = 0 ∧ findI w0 w1 w2 w3 w4 F gs gs[i].o = i := by
  have hp := pos_at_own gs 0 i hi (fun j hj hji => rise_ne h i j hi hj hji)
  have ho : 1 ≤ gs[i].o ∧ gs[i].o ≤ 99 := by
    simp only [okB, Bool.and_eq_true] at h
    have := allK_at h.2 i hi
    rw [okAt_some (List.getElem?_eq_getElem hi)] at this
    simp only [Bool.and_eq_true, decide_eq_true_eq] at this
    exact this.1.1.2
  unfold findE findI
  rw [hp]
  simp [h, ho.1, ho.2]
/-- The book with the next mark. -/
theorem next_book {w0 w1 w2 w3 w4 F : Int} {gs : List Giv} {k : Nat} (h : okB w0 w1 w2 w3 w4 F gs = true) (hl : gs.length ≤ 9) (ho : ∀ y ∈ gs, y.o ≤ 48) (hk : apAll w0 w1 w2 w3 w4 F gs (markNo k) = true) :
    insG ((markNo k).giv 99) gs = gs ++ [(markNo k).giv 99] ∧ okB w0 w1 w2 w3 w4 F (gs ++ [(markNo k).giv 99]) = true := by
  refine ⟨ins_last gs (fun y hy => by have := ho y hy; show y.o < 99; omega), okB_snoc h (by omega) ?_ ?_ (markNo_ok k 99) ?_⟩
  · have := lastO_le (b := 48) (by omega) ho
    show _ < (99 : Int); omega
  · show 1 ≤ (99 : Int) ∧ (99 : Int) ≤ 99; omega
  · have := near_not_ap w0 w1 w2 w3 w4 F gs (markNo k)
    rw [hk] at this; exact this
theorem next_take {w0 w1 w2 w3 w4 F : Int} {gs : List Giv} {g : Giv} (h : okB w0 w1 w2 w3 w4 F (gs ++ [g]) = true) : findE w0 w1 w2 w3 w4 F (gs ++ [g]) g.o = 0 ∧ takeL w0 w1 w2 w3 w4 F (gs ++ [g]) g.o = gs := by
  have hi : gs.length < (gs ++ [g]).length := by simp
  have := find_at h gs.length hi
  rw [show (gs ++ [g])[gs.length] = g by simp] at this
  refine ⟨this.1, ?_⟩
  unfold takeL
  rw [this.1, this.2, Int.toNat_natCast, cg_0]
  simp [List.eraseIdx_append_of_length_le]
theorem next_found {w0 w1 w2 w3 w4 F : Int} {gs : List Giv} {g : Giv} (h : okB w0 w1 w2 w3 w4 F (gs ++ [g]) = true) (i : Nat) (hi : i < gs.length) : findE w0 w1 w2 w3 w4 F (gs ++ [g]) gs[i].o = 0 ∧ foundM w0 w1 w2 w3 w4 F (gs ++ [g]) gs[i].o = gs[i] := by
  have hi2 : i < (gs ++ [g]).length := by simp; omega
  have e : (gs ++ [g])[i] = gs[i] := by rw [List.getElem_append_left hi]
  have := find_at h i hi2
  rw [e] at this
  refine ⟨this.1, ?_⟩
  unfold foundM
  rw [if_pos this.1, this.2, Int.toNat_natCast, List.getD_eq_getElem?_getD, List.getElem?_eq_getElem hi2, e]; rfl
theorem val_no (k : Nat) (hk : k < 15625) : valR (markNo k) = k := by
  unfold valR markNo
  simp only
  omega
end Go.Proofs.Ytbieopkohkomoaa

