/- Contracts of functions of the program and of the reference, and plain facts: a part of a proof. Own text. -/
import Derived.Test.YtaieidigpilbfaaGreatJg
import Derived.Test.YtaieidigpilbfaaGreatJl
set_option linter.unusedVariables false
set_option linter.unusedSimpArgs false
set_option linter.unusedSectionVars false
namespace Go.Proofs.YtaieidigpilbfaaGreat
open Go Go.RowKit
set_option maxHeartbeats 2000000
set_option maxRecDepth 100000

theorem thB_r {K : List Kd} {x : St} (h : stB K x = true) (d : Int) : rthB x d = thB x d := by
  have h1 := stB_in h
  unfold thB rthB
  rcases h1.2 with ho | ho
  · rw [ho]; simp
  · have h1 : ¬ x.o < 0 := by omega
    have h2 : (x.o == -1) = false := by simp; omega
    rw [h2]; simp [h1]
section
variable (A : Option Addr) (n c : Nat) (P : List Int) (B : Option Addr) (m d : Nat) (K : List Kd) (L : Option Addr) (r s : Nat) (l : List St) (dd : Int) (w : World) (hp : Is w A n P) (hg : Ks w B m K) (hl : Ss w L r l)
include hp hg hl
theorem rThere_any : Calls Tryz.prog 49 #[.agg #[.slice A n c, .slice B m d], .slice L r s, .int .i64 dd] w fun e w' => ∃ v, e = .returned (.tuple #[v, .int .i64 (thrE P K l dd)]) ∧ OI w' w.heap.size v (if thrE P K l dd = 0 then thL l dd else []) ∧ Below w.heap.size w w' := by
  have Hr : Hid (r = l.length) := Lib.hid hl.len
  have Hp := Lib.hid hp; have Hg := Lib.hid hg; have Hl := Lib.hid hl
  clear hp hg hl
  by_cases h1 : ssE P K l = 0
  rotate_left
  · have HT : Hid (thrE P K l dd = ssE P K l) := Lib.hid (by unfold thrE orE; rw [if_neg h1])
    have HX : Hid ((if thrE P K l dd = 0 then thL l dd else []) = []) := Lib.hid (by rw [HT.out, if_neg h1])
    rw [HX.out, HT.out]
    have hne : (ssE P K l != 0) = true := by simpa using h1
    clear h1 HX HT
    obtain ⟨E, hE⟩ : ∃ E, ssE P K l = E := ⟨_, rfl⟩
    rw [hE] at hne; rw [hE]
    have HE := Lib.hid hE
    clear hE
    go_enter Tryz.func49, Tryz.ntmps49
    go_upto_region 1 with fail
    generalize hW : (World.alloc _ _) = W
    have HB : Hid (Below w.heap.size w W) := Lib.hid (by subst hW; go_grown)
    have KY : Bx W (w.heap.size) 25 [.slice A n c, .slice B m d] := by subst hW; repeat (first | (refine Bx.newAt _ _ _ ?_; first | rfl | (simp only [World.size_alloc]; done) | (simp only [World.size_alloc]; omega)) | refine Bx.old ?_ _)
    clear hW
    have KYl := KY.lt; have KYc := KY.get; have KYf := KY.fr
    go_wp2_with (go_at_call 57; refine (rcheckStays_any A n c P B m d K L r s l _ (Hp.out.keep HB.out) (Hg.out.keep HB.out) (Hl.out.keep HB.out)).mono ?_; rw [HE.out]; rintro e X ⟨rfl, hbx⟩; clear KYl KYc KYf; replace KY := KY.keep hbx; have KYl := KY.lt; have KYc := KY.get; have KYf := KY.fr; replace HB := Lib.hid (up HB.out hbx); clear hbx)
    go_ret2
    exact ⟨.slice none 0 0, rfl, OI.nil _ _, HB.out⟩
  · obtain ⟨hy, h40, hss⟩ := ssE_0 h1
    have Hss := Lib.hid hss
    have hr : r ≤ 40 := by rw [Hr.out]; exact h40
    have HE := Lib.hid h1
    cases hin : inB dd 0 100000
    · have HT : Hid (thrE P K l dd = 6) := Lib.hid (by unfold thrE orE; rw [if_pos h1, hin]; rfl)
      have HX : Hid ((if thrE P K l dd = 0 then thL l dd else []) = []) := Lib.hid (by rw [HT.out]; rfl)
      have HF := Lib.hid hin
      rw [HX.out, HT.out]
      clear h1 HX HT hin hy hss h40
      go_enter Tryz.func49, Tryz.ntmps49
      go_upto_region 1 with fail
      generalize hW : (World.alloc _ _) = W
      have HB : Hid (Below w.heap.size w W) := Lib.hid (by subst hW; go_grown)
      have KY : Bx W (w.heap.size) 25 [.slice A n c, .slice B m d] := by subst hW; repeat (first | (refine Bx.newAt _ _ _ ?_; first | rfl | (simp only [World.size_alloc]; done) | (simp only [World.size_alloc]; omega)) | refine Bx.old ?_ _)
      clear hW
      have KYl := KY.lt; have KYc := KY.get; have KYf := KY.fr
      go_wp2_with (first
        | (go_at_call 57; refine (rcheckStays_any A n c P B m d K L r s l _ (Hp.out.keep HB.out) (Hg.out.keep HB.out) (Hl.out.keep HB.out)).mono ?_; rw [HE.out]; rintro e X ⟨rfl, hbx⟩; clear KYl KYc KYf; replace KY := KY.keep hbx; have KYl := KY.lt; have KYc := KY.get; have KYf := KY.fr; replace HB := Lib.hid (up HB.out hbx); clear hbx)
        | (go_at_call 72; refine (rwithin_any _ _ _ _).mono ?_; rw [HF.out]; rintro e V ⟨rfl, rfl⟩))
      go_ret2
      exact ⟨.slice none 0 0, rfl, OI.nil _ _, HB.out⟩
    · have HT : Hid (thrE P K l dd = 0) := Lib.hid (by unfold thrE orE; rw [if_pos h1, hin]; rfl)
      have HX : Hid ((if thrE P K l dd = 0 then thL l dd else []) = thL l dd) := Lib.hid (by rw [if_pos HT.out])
      have HF := Lib.hid hin
      rw [HX.out, HT.out]
      clear h1 HX HT hin hy hss h40
      go_enter Tryz.func49, Tryz.ntmps49
      go_upto_region 1 with fail
      generalize hW : (World.alloc _ _) = W
      have HB : Hid (Below w.heap.size w W) := Lib.hid (by subst hW; go_grown)
      have KY : Bx W (w.heap.size) 25 [.slice A n c, .slice B m d] := by subst hW; repeat (first | (refine Bx.newAt _ _ _ ?_; first | rfl | (simp only [World.size_alloc]; done) | (simp only [World.size_alloc]; omega)) | refine Bx.old ?_ _)
      clear hW
      have KYl := KY.lt; have KYc := KY.get; have KYf := KY.fr
      go_upto_region 6 with (first
        | (go_at_call 57; refine (rcheckStays_any A n c P B m d K L r s l _ (Hp.out.keep HB.out) (Hg.out.keep HB.out) (Hl.out.keep HB.out)).mono ?_; rw [HE.out]; rintro e X ⟨rfl, hbx⟩; clear KYl KYc KYf; replace KY := KY.keep hbx; have KYl := KY.lt; have KYc := KY.get; have KYf := KY.fr; replace HB := Lib.hid (up HB.out hbx); clear hbx)
        | (go_at_call 72; refine (rwithin_any _ _ _ _).mono ?_; rw [HF.out]; rintro e V ⟨rfl, rfl⟩))
      clear KYl KYc KYf
      clear KY
      go_wp2_with fail
      go_loopw [9, 23] (fun v i wr => ∃ (k : Nat), k ≤ r ∧ i = .int .i64 k ∧ OI wr w.heap.size v (thK l dd k) ∧ Below w.heap.size w wr) (fun _ i _ => r - (intOf i).toNat)
      case atStart => exact ⟨0, by omega, rfl, OI.nil _ _, HB.out⟩
      case round =>
        clear HB
        obtain ⟨k, hk, rfl, ho, hb⟩ := hrel
        have HB := Lib.hid hb; have HO := Lib.hid ho
        obtain ⟨A, c, rfl⟩ := ho.shape
        have hsw := hb.size
        clear hb ho
        by_cases hlt : k < r
        · have hkl : k < l.length := by rw [← Hr.out]; exact hlt
          have HR := Lib.hid (thB_r (List.all_eq_true.1 Hss.out l[k] (List.getElem_mem hkl)) dd)
          obtain ⟨b, o, rfl, hb, hcs⟩ := (Hl.out.keep HB.out).get k hkl
          obtain ⟨c0, c1, c2⟩ := hcs
          have hth := thK_len l dd k
          cases hT : thB l[k] dd
          · have HK : Hid (thK l dd (k + 1) = thK l dd k) := Lib.hid (by rw [thK, if_neg (by simp [hkl, hT])])
            have HT : Hid (rthB l[k] dd = false) := Lib.hid (HR.out.trans hT)
            clear hT HR
            generalize l[k] = x at *
            go_wp2_with (first
              | (refine wpList_putNew 76 11 27 rfl rfl rfl rfl (by kernel_rfl) rfl (by simp [Value.oneCell']) ?_; intro U KX hbu hsu; have KXl := KX.lt; have KXc := KX.get; have KXf := KX.fr)
              | (go_at_call 110; refine (rIsThere_any x dd _).mono ?_; rintro e V ⟨rfl, hbv⟩; rw [HT.out]))
            have hb2 := up hbu hbv
            exact ⟨⟨k + 1, by omega, by go_num, by rw [HK.out]; exact HO.out.keep hb2, up HB.out hb2⟩, by simp [intOf]; omega⟩
          · have HK : Hid (thK l dd (k + 1) = thK l dd k ++ [(k : Int)]) := Lib.hid (by rw [thK, if_pos (by simp [hkl, hT])])
            have HT : Hid (rthB l[k] dd = true) := Lib.hid (HR.out.trans hT)
            clear hT HR
            generalize l[k] = x at *
            go_wp2_with (first
              | (refine wpList_putNew 76 11 27 rfl rfl rfl rfl (by kernel_rfl) rfl (by simp [Value.oneCell']) ?_; intro U KX hbu hsu; have KXl := KX.lt; have KXc := KX.get; have KXf := KX.fr)
              | (go_at_call 110; refine (rIsThere_any x dd _).mono ?_; rintro e V ⟨rfl, hbv⟩; rw [HT.out]; have hb2 := up hbu hbv; have hb3 := up hb2 (up_alloc V (.cells #[.int .i64 (k : Int)] 3)); have HOV := Lib.hid (HO.out.keep hb3); have HB3 := Lib.hid (up HB.out hb3); have hcV : (V.alloc (.cells #[.int .i64 (k : Int)] 3)).cell? ⟨V.heap.size, 0, none⟩ = some (.int .i64 (k : Int)) := (by rw [cell_of_row _ _ _ _ _ _ (heap_alloc_new _ _)]; rfl); have HcV := Lib.hid hcV; clear hcV)
              | (at_builtin; refine wpList_appI HOV.out (.tmp 31) (.tmp 33) rfl rfl rfl rfl HcV.out (by omega) (by have := HB3.out.size; omega) ?_; intro A3 c3 U3 hO hB4; have HO4 := Lib.hid hO; have HB4 := Lib.hid (HB3.out.trans hB4); clear hO hB4))
            exact ⟨⟨k + 1, by omega, by go_num, by rw [HK.out]; exact HO4.out, HB4.out⟩, by simp [intOf]; omega⟩
        · obtain rfl : k = r := by omega
          have HE2 : Hid (thK l dd k = thL l dd) := Lib.hid (by unfold thL; rw [Hr.out])
          go_wp2
          go_ret2
          exact ⟨_, rfl, by rw [← HE2.out]; exact HO.out, HB.out⟩
theorem rEaten_any : Calls Tryz.prog 53 #[.agg #[.slice A n c, .slice B m d], .slice L r s, .int .i64 dd] w fun e w' => e = .returned (.tuple #[.int .i64 (if thrE P K l dd = 0 then eatL K l dd else 0), .int .i64 (thrE P K l dd)]) ∧ Below w.heap.size w w' := by
  have HTh := Lib.hid (fun (W : World) (hb : Below w.heap.size w W) => rThere_any A n c P B m d K L r s l dd W (hp.keep hb) (hg.keep hb) (hl.keep hb))
  have Hp := Lib.hid hp; have Hg := Lib.hid hg; have Hl := Lib.hid hl
  clear hp hg hl
  have HT : Hid (thrE P K l dd = orE [ssE P K l, err (inB dd 0 100000) 6]) := Lib.hid rfl
  by_cases h0 : thrE P K l dd = 0
  · obtain ⟨h1, h2⟩ := orE2_0 (HT.out.symm.trans h0)
    obtain ⟨hy, h40, hss⟩ := ssE_0 h1
    have Hss := Lib.hid hss
    have HK := Lib.hid (yOk_k hy).2.2
    have hd := inB_iff.1 (err_0 h2 (by decide))
    have HX : Hid ((if thrE P K l dd = 0 then eatL K l dd else 0) = eatL K l dd) := Lib.hid (by rw [if_pos h0])
    have H0 := Lib.hid h0
    rw [HX.out, H0.out]
    rw [H0.out] at HTh
    clear h0 h1 h2 HT hss hy HX
    go_enter Tryz.func53, Tryz.ntmps53
    go_upto_region 1 with fail
    generalize hW : (World.alloc _ _) = W
    have HB : Hid (Below w.heap.size w W) := Lib.hid (by subst hW; go_grown)
    have KY : Bx W (w.heap.size) 25 [.slice A n c, .slice B m d] := by subst hW; repeat (first | (refine Bx.newAt _ _ _ ?_; first | rfl | (simp only [World.size_alloc]; done) | (simp only [World.size_alloc]; omega)) | refine Bx.old ?_ _)
    clear hW
    have KYl := KY.lt; have KYc := KY.get; have KYf := KY.fr
    go_wp2_with (first
      | (go_at_call 49; refine (HTh.out _ HB.out).mono ?_; rintro e X ⟨v, rfl, _, hbx⟩; clear KYl KYc KYf; replace KY := KY.keep hbx; have KYl := KY.lt; have KYc := KY.get; have KYf := KY.fr; replace HB := Lib.hid (up HB.out hbx); clear hbx)
      | (go_at_call 117; refine (eaten_any A n c B m d K L r s l dd _ (Hg.out.keep HB.out) (Hl.out.keep HB.out) HK.out Hss.out h40 hd).mono ?_; rintro e V ⟨rfl, hbv⟩; replace HB := Lib.hid (up HB.out hbv); clear hbv))
    go_ret2
    exact ⟨rfl, HB.out⟩
  · have HX : Hid ((if thrE P K l dd = 0 then eatL K l dd else 0) = 0) := Lib.hid (by rw [if_neg h0])
    have hne : (thrE P K l dd != 0) = true := by simpa using h0
    rw [HX.out]
    clear h0 HX HT
    generalize thrE P K l dd = T at *
    go_enter Tryz.func53, Tryz.ntmps53
    go_upto_region 1 with fail
    generalize hW : (World.alloc _ _) = W
    have HB : Hid (Below w.heap.size w W) := Lib.hid (by subst hW; go_grown)
    have KY : Bx W (w.heap.size) 25 [.slice A n c, .slice B m d] := by subst hW; repeat (first | (refine Bx.newAt _ _ _ ?_; first | rfl | (simp only [World.size_alloc]; done) | (simp only [World.size_alloc]; omega)) | refine Bx.old ?_ _)
    clear hW
    have KYl := KY.lt; have KYc := KY.get; have KYf := KY.fr
    go_wp2_with (go_at_call 49; refine (HTh.out _ HB.out).mono ?_; rintro e X ⟨v, rfl, _, hbx⟩; clear KYl KYc KYf; replace KY := KY.keep hbx; have KYl := KY.lt; have KYc := KY.get; have KYf := KY.fr; replace HB := Lib.hid (up HB.out hbx); clear hbx)
    go_ret2
    exact ⟨rfl, HB.out⟩
end
end Go.Proofs.YtaieidigpilbfaaGreat

namespace Go.Proofs.YtaieidigpilbfaaGreat
open Go Go.RowKit
set_option maxHeartbeats 2000000
set_option maxRecDepth 100000

theorem las_1 {P : List Int} {K : List Kd} {l : List St} {f : Int} (h : ssE P K l ≠ 0) : lasE P K l f = ssE P K l := by
  unfold lasE orE; rw [if_neg h]
theorem las_2 {P : List Int} {K : List Kd} {l : List St} {f : Int} (h : ssE P K l = 0) (hf : inB f 0 1000000000000 = false) : lasE P K l f = 1 := by
  unfold lasE orE; rw [if_pos h, hf]; rfl
theorem las_3 {P : List Int} {K : List Kd} {l : List St} {f : Int} (h : ssE P K l = 0) (hf : inB f 0 1000000000000 = true) : lasE P K l f = 0 := by
  unfold lasE orE; rw [if_pos h, hf]; rfl
theorem rLasts_any (A : Option Addr) (n c : Nat) (P : List Int) (B : Option Addr) (m d : Nat) (K : List Kd) (L : Option Addr) (r s : Nat) (l : List St) (f : Int) (w : World) (hp : Is w A n P) (hg : Ks w B m K) (hl : Ss w L r l) :
    Calls Tryz.prog 55 #[.agg #[.slice A n c, .slice B m d], .slice L r s, .int .i64 f] w fun e w' => ∃ v x, e = .returned (.tuple #[.int .i64 v, .int .i64 x]) ∧ ((lasE P K l f ≠ 0 ∧ v = 0 ∧ x = lasE P K l f) ∨ (lasE P K l f = 0 ∧ LasP K l f v x)) ∧ Below w.heap.size w w' := by
  have Hp := Lib.hid hp; have Hg := Lib.hid hg; have Hl := Lib.hid hl
  clear hp hg hl
  by_cases h1 : ssE P K l = 0
  rotate_left
  · have HT : Hid (lasE P K l f = ssE P K l) := Lib.hid (las_1 h1)
    have HN : Hid (lasE P K l f ≠ 0) := Lib.hid (by rw [HT.out]; exact h1)
    have hne : (ssE P K l != 0) = true := by simpa using h1
    clear h1
    obtain ⟨E, hE⟩ : ∃ E, ssE P K l = E := ⟨_, rfl⟩
    rw [hE] at hne; rw [hE] at HT
    have HE := Lib.hid hE
    clear hE
    go_enter Tryz.func55, Tryz.ntmps55
    go_upto_region 1 with fail
    generalize hW : (World.alloc _ _) = W
    have HB : Hid (Below w.heap.size w W) := Lib.hid (by subst hW; go_grown)
    have KY : Bx W (w.heap.size) 25 [.slice A n c, .slice B m d] := by subst hW; repeat (first | (refine Bx.newAt _ _ _ ?_; first | rfl | (simp only [World.size_alloc]; done) | (simp only [World.size_alloc]; omega)) | refine Bx.old ?_ _)
    clear hW
    have KYl := KY.lt; have KYc := KY.get; have KYf := KY.fr
    go_wp2_with (go_at_call 57; refine (rcheckStays_any A n c P B m d K L r s l _ (Hp.out.keep HB.out) (Hg.out.keep HB.out) (Hl.out.keep HB.out)).mono ?_; rw [HE.out]; rintro e X ⟨rfl, hbx⟩; clear KYl KYc KYf; replace KY := KY.keep hbx; have KYl := KY.lt; have KYc := KY.get; have KYf := KY.fr; replace HB := Lib.hid (up HB.out hbx); clear hbx)
    go_ret2
    exact ⟨0, E, rfl, Or.inl ⟨HN.out, rfl, HT.out.symm⟩, HB.out⟩
  · obtain ⟨hy, h40, hss⟩ := ssE_0 h1
    have Hss := Lib.hid hss
    have HK := Lib.hid (yOk_k hy).2.2
    have HE := Lib.hid h1
    cases hin : inB f 0 1000000000000
    · have HT : Hid (lasE P K l f = 1) := Lib.hid (las_2 h1 hin)
      have HF := Lib.hid hin
      clear h1 hin hy hss h40
      go_enter Tryz.func55, Tryz.ntmps55
      go_upto_region 1 with fail
      generalize hW : (World.alloc _ _) = W
      have HB : Hid (Below w.heap.size w W) := Lib.hid (by subst hW; go_grown)
      have KY : Bx W (w.heap.size) 25 [.slice A n c, .slice B m d] := by subst hW; repeat (first | (refine Bx.newAt _ _ _ ?_; first | rfl | (simp only [World.size_alloc]; done) | (simp only [World.size_alloc]; omega)) | refine Bx.old ?_ _)
      clear hW
      have KYl := KY.lt; have KYc := KY.get; have KYf := KY.fr
      go_wp2_with (first
        | (go_at_call 57; refine (rcheckStays_any A n c P B m d K L r s l _ (Hp.out.keep HB.out) (Hg.out.keep HB.out) (Hl.out.keep HB.out)).mono ?_; rw [HE.out]; rintro e X ⟨rfl, hbx⟩; clear KYl KYc KYf; replace KY := KY.keep hbx; have KYl := KY.lt; have KYc := KY.get; have KYf := KY.fr; replace HB := Lib.hid (up HB.out hbx); clear hbx)
        | (go_at_call 72; refine (rwithin_any _ _ _ _).mono ?_; rw [HF.out]; rintro e V ⟨rfl, rfl⟩))
      go_ret2
      exact ⟨0, 1, rfl, Or.inl ⟨by rw [HT.out]; decide, rfl, HT.out.symm⟩, HB.out⟩
    · have HT : Hid (lasE P K l f = 0) := Lib.hid (las_3 h1 hin)
      have HF := Lib.hid hin
      have HEa : Hid (∀ dd, 0 ≤ dd → dd ≤ 100000 → ∀ W, Below w.heap.size w W → Calls Tryz.prog 117 #[.agg #[.slice A n c, .slice B m d], .slice L r s, .int .i64 dd] W fun e w' => e = .returned (.int .i64 (eatL K l dd)) ∧ Below W.heap.size W w') := Lib.hid (fun dd h1 h2 W hW => eaten_any A n c B m d K L r s l dd W (Hg.out.keep hW) (Hl.out.keep hW) HK.out Hss.out h40 ⟨h1, h2⟩)
      clear h1 hin hy hss h40
      go_enter Tryz.func55, Tryz.ntmps55
      go_upto_region 1 with fail
      generalize hW : (World.alloc _ _) = W
      have HB : Hid (Below w.heap.size w W) := Lib.hid (by subst hW; go_grown)
      have KY : Bx W (w.heap.size) 25 [.slice A n c, .slice B m d] := by subst hW; repeat (first | (refine Bx.newAt _ _ _ ?_; first | rfl | (simp only [World.size_alloc]; done) | (simp only [World.size_alloc]; omega)) | refine Bx.old ?_ _)
      clear hW
      have KYl := KY.lt; have KYc := KY.get; have KYf := KY.fr
      by_cases hz : f < eatL K l 0
      · go_wp2_with (first
          | (go_at_call 57; refine (rcheckStays_any A n c P B m d K L r s l _ (Hp.out.keep HB.out) (Hg.out.keep HB.out) (Hl.out.keep HB.out)).mono ?_; rw [HE.out]; rintro e X ⟨rfl, hbx⟩; clear KYl KYc KYf; replace KY := KY.keep hbx; have KYl := KY.lt; have KYc := KY.get; have KYf := KY.fr; replace HB := Lib.hid (up HB.out hbx); clear hbx)
          | (go_at_call 72; refine (rwithin_any _ _ _ _).mono ?_; rw [HF.out]; rintro e V ⟨rfl, rfl⟩)
          | (go_at_call 117; refine (HEa.out 0 (by omega) (by omega) _ HB.out).mono ?_; rintro e X2 ⟨rfl, hbx⟩; clear KYl KYc KYf; replace KY := KY.keep hbx; have KYl := KY.lt; have KYc := KY.get; have KYf := KY.fr; replace HB := Lib.hid (up HB.out hbx); clear hbx))
        go_ret2
        exact ⟨0, 3, rfl, Or.inr ⟨HT.out, Or.inl ⟨rfl, rfl, hz⟩⟩, HB.out⟩
      · go_upto_region 10 with (first
          | (go_at_call 57; refine (rcheckStays_any A n c P B m d K L r s l _ (Hp.out.keep HB.out) (Hg.out.keep HB.out) (Hl.out.keep HB.out)).mono ?_; rw [HE.out]; rintro e X ⟨rfl, hbx⟩; clear KYl KYc KYf; replace KY := KY.keep hbx; have KYl := KY.lt; have KYc := KY.get; have KYf := KY.fr; replace HB := Lib.hid (up HB.out hbx); clear hbx)
          | (go_at_call 72; refine (rwithin_any _ _ _ _).mono ?_; rw [HF.out]; rintro e V ⟨rfl, rfl⟩)
          | (go_at_call 117; refine (HEa.out 0 (by omega) (by omega) _ HB.out).mono ?_; rintro e X2 ⟨rfl, hbx⟩; clear KYl KYc KYf; replace KY := KY.keep hbx; have KYl := KY.lt; have KYc := KY.get; have KYf := KY.fr; replace HB := Lib.hid (up HB.out hbx); clear hbx))
        clear KYl KYc KYf
        go_loopw [9, 10] (fun v i wr => ∃ (lo hi : Int), (0 ≤ lo ∧ lo ≤ hi ∧ hi ≤ 100000) ∧ v = .int .i64 lo ∧ i = .int .i64 hi ∧ eatL K l lo ≤ f ∧ (hi < 100000 → f < eatL K l (hi + 1)) ∧ Below w.heap.size w wr ∧ Bx wr w.heap.size 25 [.slice A n c, .slice B m d]) (fun v i _ => (intOf i - intOf v).toNat)
        case atStart => exact ⟨0, 100000, by omega, rfl, rfl, by omega, by omega, HB.out, KY⟩
        case round =>
          clear KY HB hz
          obtain ⟨lo, hi, hr, rfl, rfl, hlo, hhi, hb, KY⟩ := hrel
          have HB := Lib.hid hb
          clear hb
          by_cases hlt : lo < hi
          · obtain ⟨M, hM⟩ : ∃ M, (lo + hi + 1) / 2 = M := ⟨_, rfl⟩
            have hM1 : lo < M ∧ M ≤ hi := by omega
            have e1 : IntKind.i64.wrap (lo + hi) = lo + hi := by rw [IntWalk.i64_in _ (by omega)]
            have e2 : IntKind.i64.wrap (lo + hi + 1) = lo + hi + 1 := by rw [IntWalk.i64_in _ (by omega)]
            have e3 : Int.tdiv (lo + hi + 1) 2 = M := by rw [Int.tdiv_eq_ediv_of_nonneg (by omega)]; exact hM
            have e4 : IntKind.i64.wrap M = M := by rw [IntWalk.i64_in _ (by omega)]
            have e5 : IntKind.i64.wrap (M - 1) = M - 1 := by rw [IntWalk.i64_in _ (by omega)]
            clear hM
            have KYl := KY.lt; have KYc := KY.get; have KYf := KY.fr
            by_cases hle : eatL K l M ≤ f
            · go_wp2_with (go_at_call 117; refine (HEa.out M (by omega) (by omega) _ HB.out).mono ?_; rintro e X2 ⟨rfl, hbx⟩; clear KYl KYc KYf; replace KY := KY.keep hbx; have KYl := KY.lt; have KYc := KY.get; have KYf := KY.fr; replace HB := Lib.hid (up HB.out hbx); clear hbx)
              exact ⟨⟨M, hi, by omega, rfl, rfl, hle, hhi, HB.out, KY⟩, by simp [intOf]; omega⟩
            · go_wp2_with (go_at_call 117; refine (HEa.out M (by omega) (by omega) _ HB.out).mono ?_; rintro e X2 ⟨rfl, hbx⟩; clear KYl KYc KYf; replace KY := KY.keep hbx; have KYl := KY.lt; have KYc := KY.get; have KYf := KY.fr; replace HB := Lib.hid (up HB.out hbx); clear hbx)
              exact ⟨⟨lo, M - 1, by omega, rfl, rfl, hlo, fun _ => by rw [Int.sub_add_cancel]; omega, HB.out, KY⟩, by simp [intOf]; omega⟩
          · obtain rfl : lo = hi := by omega
            go_wp2
            go_ret2
            exact ⟨lo, 0, rfl, Or.inr ⟨HT.out, Or.inr ⟨rfl, by omega, hlo, hhi⟩⟩, HB.out⟩
end Go.Proofs.YtaieidigpilbfaaGreat

