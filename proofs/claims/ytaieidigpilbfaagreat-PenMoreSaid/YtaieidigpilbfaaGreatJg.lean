/- Contracts of functions of the program and of the reference, and plain facts: a part of a proof. Own text. -/
import Derived.Test.YtaieidigpilbfaaGreatJf
set_option linter.unusedVariables false
set_option linter.unusedSimpArgs false
set_option linter.unusedSectionVars false
namespace Go.Proofs.YtaieidigpilbfaaGreat
open Go Go.RowKit
set_option maxHeartbeats 8000000
set_option maxRecDepth 100000

theorem eaten_any (A : Option Addr) (n c : Nat) (B : Option Addr) (m d : Nat) (K : List Kd) (L : Option Addr) (r s : Nat) (l : List St) (dd : Int) (w : World) (hg : Ks w B m K) (hl : Ss w L r l) (hK : ksOk K = true) (hs : ssOk K l = true) (h40 : l.length ≤ 40) (hd : 0 ≤ dd ∧ dd ≤ 100000) :
    Calls Tryz.prog 117 #[.agg #[.slice A n c, .slice B m d], .slice L r s, .int .i64 dd] w fun e w' => e = .returned (.int .i64 (eatL K l dd)) ∧ Below w.heap.size w w' := by
  have Hr : Hid (r = l.length) := Lib.hid hl.len
  have hr : r ≤ 40 := by rw [hl.len]; exact h40
  have Hl := Lib.hid hl; have Hg := Lib.hid hg; have HK := Lib.hid hK; have Hs := Lib.hid hs
  clear hl hg hK hs
  go_enter Tryz.func117, Tryz.ntmps117
  go_upto_region 1 with fail
  generalize hW : (World.alloc _ _) = W
  have HB : Hid (Below w.heap.size w W) := Lib.hid (by subst hW; go_grown)
  have KY : Bx W (w.heap.size) 25 [.slice A n c, .slice B m d] := by subst hW; repeat (first | (refine Bx.newAt _ _ _ ?_; first | rfl | (simp only [World.size_alloc]; done) | (simp only [World.size_alloc]; omega)) | refine Bx.old ?_ _)
  clear hW
  have KYl := KY.lt; have KYc := KY.get; have KYf := KY.fr
  clear KYl KYc KYf
  go_wp2_with fail
  go_loopw [7, 15] (fun v i wr => ∃ (k : Nat), k ≤ r ∧ i = .int .i64 k ∧ v = .int .i64 (eatK K l dd k) ∧ Bx wr w.heap.size 25 [.slice A n c, .slice B m d] ∧ Below w.heap.size w wr) (fun _ i _ => r - (intOf i).toNat)
  case atStart => exact ⟨0, by omega, rfl, rfl, KY, HB.out⟩
  case round =>
    clear KY
    obtain ⟨k, hk, rfl, rfl, KY, hb⟩ := hrel
    replace HB := Lib.hid hb
    clear hb
    have KYl := KY.lt; have KYc := KY.get; have KYf := KY.fr
    by_cases hlt : k < r
    · have hkl : k < l.length := by rw [← Hr.out]; exact hlt
      have hx := List.all_eq_true.1 Hs.out l[k] (List.getElem_mem hkl)
      have h1 := stB_in hx
      have h2 := kdD_e HK.out l[k].s
      have h3 := eatK_in HK.out Hs.out hd k (by omega)
      have h4 := eatR_in (d := dd) HK.out hx hd
      have HE : Hid (eatK K l dd (k + 1) = eatK K l dd k + eatR K l[k] dd) := Lib.hid (by rw [eatK]; simp [hkl])
      have HgW := Lib.hid (Hg.out.keep HB.out)
      obtain ⟨b, o, rfl, hb, hcs⟩ := (Hl.out.keep HB.out).get k hkl
      obtain ⟨c0, c1, c2⟩ := hcs
      clear hx
      generalize l[k] = x at *
      generalize eatK K l dd k = S at *
      by_cases ho : x.o = -1
      · have hoe : (x.o != -1) = false := by simp [ho]
        have HR : Hid (eatR K x dd = (kdD K x.s).e * max 0 (dd - x.i + 1)) := Lib.hid (by unfold eatR lastD; rw [hoe]; rfl)
        go_upto_region 9 with (first
          | (refine wpList_putNew 76 9 18 rfl rfl rfl rfl (by kernel_rfl) rfl (by simp [Value.oneCell']) ?_; intro U KX hbu hsu; have HgU := Lib.hid (HgW.out.keep hbu); clear KYl KYc KYf; replace KY := KY.keep hbu; have KYl := KY.lt; have KYc := KY.get; have KYf := KY.fr; replace HB := Lib.hid (up HB.out hbu); clear hbu; have KXl := KX.lt; have KXc := KX.get; have KXf := KX.fr)
          | (go_at_call 73; refine (rkind_any _ _ _ _ _ _ K _ _ HgU.out).mono ?_; rintro e V ⟨rfl, hbv⟩; have KXV := KX.keep hbv; clear KYl KYc KYf; replace KY := KY.keep hbv; have KYl := KY.lt; have KYc := KY.get; have KYf := KY.fr; replace HB := Lib.hid (up HB.out hbv); clear hbv; clear KX KXl KXc KXf; have KXVl := KXV.lt; have KXVc := KXV.get; have KXVf := KXV.fr)
          | (refine wpList_putNew 72 10 24 rfl rfl rfl rfl (by kernel_rfl) rfl (by simp [Value.oneCell']) ?_; intro U2 KK hbu hsu; have KX2 := KXV.keep hbu; clear KYl KYc KYf; replace KY := KY.keep hbu; have KYl := KY.lt; have KYc := KY.get; have KYf := KY.fr; replace HB := Lib.hid (up HB.out hbu); clear hbu; have KKl := KK.lt; have KKc := KK.get; have KKf := KK.fr; clear KXV KXVl KXVc KXVf; have KX2l := KX2.lt; have KX2c := KX2.get; have KX2f := KX2.fr))
        rw [HR.out] at h4
        rw [HR.out] at HE
        generalize (kdD K x.s).e = E at *
        obtain ⟨q, hq, hq0, hq1⟩ : ∃ q, max 0 (dd - x.i + 1) = q ∧ 0 ≤ q ∧ q ≤ 100001 := ⟨_, rfl, by omega, by omega⟩
        have hq2 : (if dd - x.i + 1 < 0 then (0 : Int) else dd - x.i + 1) = q := by rw [← hq]; split <;> omega
        rw [hq] at h4 HE
        have hw : IntKind.i64.wrap (E * q) = E * q := by rw [IntWalk.i64_in _ (by omega)]
        have hif : (if 0 < dd - x.i + 1 then dd - x.i + 1 else 0) = q := by rw [← hq]; split <;> omega
        go_wp2
        exact ⟨⟨k + 1, by omega, by go_num, by rw [HE.out], KY, HB.out⟩, by simp [intOf]; omega⟩
      · have hoe : (x.o != -1) = true := by simp [ho]
        have ho2 : x.i ≤ x.o ∧ x.o ≤ 100000 := by omega
        have HR : Hid (eatR K x dd = (kdD K x.s).e * max 0 (min dd (x.o - 1) - x.i + 1)) := Lib.hid (by unfold eatR lastD; rw [hoe]; rfl)
        obtain ⟨t, ht, ht1, ht2⟩ : ∃ t, min dd (x.o - 1) = t ∧ -1 ≤ t ∧ t ≤ 100000 := ⟨_, rfl, by omega, by omega⟩
        have hmi : (if x.o - 1 < dd then x.o - 1 else dd) = t := by rw [← ht]; split <;> omega
        rw [ht] at HR
        clear ht
        go_upto_region 9 with (first
          | (refine wpList_putNew 76 9 18 rfl rfl rfl rfl (by kernel_rfl) rfl (by simp [Value.oneCell']) ?_; intro U KX hbu hsu; have HgU := Lib.hid (HgW.out.keep hbu); clear KYl KYc KYf; replace KY := KY.keep hbu; have KYl := KY.lt; have KYc := KY.get; have KYf := KY.fr; replace HB := Lib.hid (up HB.out hbu); clear hbu; have KXl := KX.lt; have KXc := KX.get; have KXf := KX.fr)
          | (go_at_call 73; refine (rkind_any _ _ _ _ _ _ K _ _ HgU.out).mono ?_; rintro e V ⟨rfl, hbv⟩; have KXV := KX.keep hbv; clear KYl KYc KYf; replace KY := KY.keep hbv; have KYl := KY.lt; have KYc := KY.get; have KYf := KY.fr; replace HB := Lib.hid (up HB.out hbv); clear hbv; clear KX KXl KXc KXf; have KXVl := KXV.lt; have KXVc := KXV.get; have KXVf := KXV.fr)
          | (refine wpList_putNew 72 10 24 rfl rfl rfl rfl (by kernel_rfl) rfl (by simp [Value.oneCell']) ?_; intro U2 KK hbu hsu; have KX2 := KXV.keep hbu; clear KYl KYc KYf; replace KY := KY.keep hbu; have KYl := KY.lt; have KYc := KY.get; have KYf := KY.fr; replace HB := Lib.hid (up HB.out hbu); clear hbu; have KKl := KK.lt; have KKc := KK.get; have KKf := KK.fr; clear KXV KXVl KXVc KXVf; have KX2l := KX2.lt; have KX2c := KX2.get; have KX2f := KX2.fr))
        rw [HR.out] at h4
        rw [HR.out] at HE
        generalize (kdD K x.s).e = E at *
        obtain ⟨q, hq, hq0, hq1⟩ : ∃ q, max 0 (t - x.i + 1) = q ∧ 0 ≤ q ∧ q ≤ 100001 := ⟨_, rfl, by omega, by omega⟩
        rw [hq] at h4 HE
        have hw : IntKind.i64.wrap (E * q) = E * q := by rw [IntWalk.i64_in _ (by omega)]
        have hif : (if 0 < t - x.i + 1 then t - x.i + 1 else 0) = q := by rw [← hq]; split <;> omega
        go_wp2
        exact ⟨⟨k + 1, by omega, by go_num, by rw [HE.out], KY, HB.out⟩, by simp [intOf]; omega⟩
    · obtain rfl : k = r := by omega
      have Ho : Hid (eatK K l dd k = eatL K l dd) := Lib.hid (by unfold eatL; rw [Hr.out])
      go_wp2
      go_ret
      exact ⟨ret_int Ho.out, HB.out⟩
end Go.Proofs.YtaieidigpilbfaaGreat

