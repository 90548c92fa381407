/- Contracts of functions of the program and of the reference, and plain facts: a part of a proof. Own text. -/
import Derived.Test.YtifokapcobgjiaaGreatJn
import Derived.Test.YtifokapcobgjiaaGreatJt
set_option linter.unusedVariables false
set_option linter.unusedSimpArgs false
set_option linter.unusedSectionVars false
namespace Go.Proofs.YtifokapcobgjiaaGreat
open Go Go.RowKit
set_option maxHeartbeats 2000000
set_option maxRecDepth 100000

theorem standK_more {P ap : List Int} {bs cs : List Kd} {p : List Int} : ∀ k, k ≤ bs.length → standK P ap (bs ++ cs) p k = standK P ap bs p k := by
  intro k
  induction k with
  | zero => intro _; rfl
  | succ k ih =>
    intro hk
    have e : (bs ++ cs).getD k kd0 = bs.getD k kd0 := by
      rw [List.getD_eq_getElem?_getD, List.getD_eq_getElem?_getD, List.getElem?_append_left (by omega)]
    simp only [standK]
    rw [ih (by omega), e]
/-- The pens for one more beast. -/
theorem add_fit {P : List Int} {K : List Kd} {l p : List Int} {x : Int} {st : List Int} (hs0 : sE P K l = 0) (hst : standS P (apL K) (bsL K l) p = some st) (hx : kdI K x = true) {q : Nat} (hq : q < P.length) : fitS P K (l ++ [x]) p l.length q = !fullS (apL K) st (kdD K x) q := by
  obtain ⟨hy, h8, hlo⟩ := sE_0 hs0
  obtain ⟨h5, hP, hK⟩ := yOk_k hy
  obtain ⟨hpl, -⟩ := standS_in hst
  rw [standS_eq hpl] at hst
  rw [bsL_len] at hpl
  have hl2 : lOk K (l ++ [x]) = true := by
    unfold lOk at hlo ⊢
    rw [List.all_append, hlo]; simp [hx]
  have hb : bsL K (l ++ [x]) = bsL K l ++ [kdD K x] := by unfold bsL; simp
  have hk : standK P (apL K) (bsL K (l ++ [x])) p l.length = some st := by
    rw [hb, standK_more _ (by rw [bsL_len]; exact Nat.le_refl _), ← hpl]; exact hst
  have hs := stand_says h5 hK hl2 l.length (by simp) st hk
  have := fit_full h5 hK hl2 (k := l.length) (by simp) hq hpl hs
  rwa [show (l ++ [x]).getD l.length 0 = x by simp] at this
section
variable (A : Option Addr) (n c : Nat) (P : List Int) (B : Option Addr) (m d : Nat) (K : List Kd) (L : Option Addr) (r s : Nat) (l : List Int) (C : Option Addr) (u v : Nat) (p : List Int) (w : World)
    (hp : Is w A n P) (hg : Ks w B m K) (hl : Is w L r l) (hc : Is w C u p) (hE : rplE P K l p = plE P K l p)
include hp hg hl hc hE
theorem rAdd_any (x : Int) :
    Calls Tryz.prog 35 #[.agg #[.slice A n c, .slice B m d], .slice L r s, .slice C u v, .int .i64 x] w fun e w' => e = .returned (.tuple #[.int .i64 (adV P K l p x), .int .i64 (adE P K l p x)]) ∧ Below w.heap.size w w' := by
  have Hn : Hid (n = P.length) := Lib.hid hp.len
  have Hr : Hid (r = l.length) := Lib.hid hl.len
  have hrx := hl.small
  have hnx := hp.small
  have Hp := Lib.hid hp; have Hg := Lib.hid hg; have Hl := Lib.hid hl; have Hc := Lib.hid hc; have HE := Lib.hid hE
  clear hp hg hl hc hE
  have HT : Hid (adT P K l p x = orE [plE P K l p, err (kdI K x) 51, err (decide ((l.length : Int) < 8)) 2]) := Lib.hid rfl
  by_cases h1 : plE P K l p = 0
  rotate_left
  · have h0 : adT P K l p x = plE P K l p := by unfold adT orE; rw [if_neg h1]
    have HV : Hid (adV P K l p x = 0) := Lib.hid (by unfold adV; rw [h0, if_neg h1])
    have HE0 : Hid (adE P K l p x = plE P K l p) := Lib.hid (by unfold adE; rw [h0, if_neg h1])
    have hne : (plE P K l p != 0) = true := by simpa using h1
    rw [HV.out, HE0.out]
    clear h1 h0 HV HE0 HT
    generalize plE P K l p = E at *
    go_enter Tryz.func35, Tryz.ntmps35
    go_upto_region 1 with fail
    generalize hW : (World.alloc _ _) = W
    have HB : Hid (Below w.heap.size w W) := Lib.hid (by subst hW; go_grown)
    have KY : Bx W (w.heap.size) 25 [.slice A n c, .slice B m d] := by subst hW; repeat (first | (refine Bx.newAt _ _ _ ?_; first | rfl | (simp only [World.size_alloc]; done) | (simp only [World.size_alloc]; omega)) | refine Bx.old ?_ _)
    clear hW
    have KYl := KY.lt; have KYc := KY.get; have KYf := KY.fr
    go_wp2_with (go_at_call 41; refine (rcheckPlace_any A n c P B m d K L r s l C u v p _ (Hp.out.keep HB.out) (Hg.out.keep HB.out) (Hl.out.keep HB.out) (Hc.out.keep HB.out)).mono ?_; rintro e X ⟨rfl, hbx⟩; rw [HE.out]; clear KYl KYc KYf; replace KY := KY.keep hbx; have KYl := KY.lt; have KYc := KY.get; have KYf := KY.fr; replace HB := Lib.hid (up HB.out hbx); clear hbx)
    go_ret2
    exact ⟨rfl, HB.out⟩
  · have h8 := (plE_len h1).2
    obtain ⟨hs0, st, hst⟩ := plE_ok h1
    obtain ⟨hy, -, hlo⟩ := sE_0 hs0
    obtain ⟨h5, hP, hK⟩ := yOk_k hy
    have hpl := (plE_len h1).1
    rw [h1] at HE
    cases hI : kdI K x
    · have h0 : adT P K l p x = 51 := by unfold adT orE; rw [if_pos h1, hI]; rfl
      have HV : Hid (adV P K l p x = 0) := Lib.hid (by unfold adV; rw [h0]; rfl)
      have HE0 : Hid (adE P K l p x = 51) := Lib.hid (by unfold adE; rw [h0]; rfl)
      have HI := Lib.hid hI
      rw [HV.out, HE0.out]
      clear h1 h0 HV HE0 HT hI hpl
      generalize hkq : kdD K x = q at *
      have Hkq := Lib.hid hkq
      clear hkq
      go_enter Tryz.func35, Tryz.ntmps35
      go_upto_region 1 with fail
      generalize hW : (World.alloc _ _) = W
      have HB : Hid (Below w.heap.size w W) := Lib.hid (by subst hW; go_grown)
      have KY : Bx W (w.heap.size) 25 [.slice A n c, .slice B m d] := by subst hW; repeat (first | (refine Bx.newAt _ _ _ ?_; first | rfl | (simp only [World.size_alloc]; done) | (simp only [World.size_alloc]; omega)) | refine Bx.old ?_ _)
      clear hW
      have KYl := KY.lt; have KYc := KY.get; have KYf := KY.fr
      go_wp2_with (first
        | (go_at_call 41; refine (rcheckPlace_any A n c P B m d K L r s l C u v p _ (Hp.out.keep HB.out) (Hg.out.keep HB.out) (Hl.out.keep HB.out) (Hc.out.keep HB.out)).mono ?_; rintro e X ⟨rfl, hbx⟩; rw [HE.out]; clear KYl KYc KYf; replace KY := KY.keep hbx; have KYl := KY.lt; have KYc := KY.get; have KYf := KY.fr; replace HB := Lib.hid (up HB.out hbx); clear hbx)
        | (go_at_call 73; refine (rkind_any A n c B m d K x _ (Hg.out.keep HB.out)).mono ?_; rw [Hkq.out, HI.out]; rintro e X2 ⟨rfl, hbx⟩; clear KYl KYc KYf; replace KY := KY.keep hbx; have KYl := KY.lt; have KYc := KY.get; have KYf := KY.fr; replace HB := Lib.hid (up HB.out hbx); clear hbx)
        | (refine wpList_putNew 72 11 26 rfl rfl rfl rfl (by kernel_rfl) rfl (by simp [Value.oneCell']) ?_; intro T KK hbt hst; clear hst; clear KYl KYc KYf; replace KY := KY.keep hbt; have KYl := KY.lt; have KYc := KY.get; have KYf := KY.fr; replace HB := Lib.hid (up HB.out hbt); clear hbt))
      go_ret2
      exact ⟨rfl, HB.out⟩
    · by_cases hl8 : l.length = 8
      · have h0 : adT P K l p x = 2 := by
          unfold adT orE; rw [if_pos h1, hI]
          unfold orE; rw [if_pos (show err true 51 = 0 from rfl), hl8]; rfl
        have HV : Hid (adV P K l p x = 0) := Lib.hid (by unfold adV; rw [h0]; rfl)
        have HE0 : Hid (adE P K l p x = 2) := Lib.hid (by unfold adE; rw [h0]; rfl)
        have HI := Lib.hid hI
        have hrb : ((r : Int) == 8) = true := by have := Hr.out; simp; omega
        rw [HV.out, HE0.out]
        clear h1 h0 HV HE0 HT hI hl8 hpl
        generalize hkq : kdD K x = q at *
        have Hkq := Lib.hid hkq
        clear hkq
        go_enter Tryz.func35, Tryz.ntmps35
        go_upto_region 1 with fail
        generalize hW : (World.alloc _ _) = W
        have HB : Hid (Below w.heap.size w W) := Lib.hid (by subst hW; go_grown)
        have KY : Bx W (w.heap.size) 25 [.slice A n c, .slice B m d] := by subst hW; repeat (first | (refine Bx.newAt _ _ _ ?_; first | rfl | (simp only [World.size_alloc]; done) | (simp only [World.size_alloc]; omega)) | refine Bx.old ?_ _)
        clear hW
        have KYl := KY.lt; have KYc := KY.get; have KYf := KY.fr
        go_wp2_with (first
          | (go_at_call 41; refine (rcheckPlace_any A n c P B m d K L r s l C u v p _ (Hp.out.keep HB.out) (Hg.out.keep HB.out) (Hl.out.keep HB.out) (Hc.out.keep HB.out)).mono ?_; rintro e X ⟨rfl, hbx⟩; rw [HE.out]; clear KYl KYc KYf; replace KY := KY.keep hbx; have KYl := KY.lt; have KYc := KY.get; have KYf := KY.fr; replace HB := Lib.hid (up HB.out hbx); clear hbx)
          | (go_at_call 73; refine (rkind_any A n c B m d K x _ (Hg.out.keep HB.out)).mono ?_; rw [Hkq.out, HI.out]; rintro e X2 ⟨rfl, hbx⟩; clear KYl KYc KYf; replace KY := KY.keep hbx; have KYl := KY.lt; have KYc := KY.get; have KYf := KY.fr; replace HB := Lib.hid (up HB.out hbx); clear hbx)
          | (refine wpList_putNew 72 11 26 rfl rfl rfl rfl (by kernel_rfl) rfl (by simp [Value.oneCell']) ?_; intro T KK hbt hst; clear hst; clear KYl KYc KYf; replace KY := KY.keep hbt; have KYl := KY.lt; have KYc := KY.get; have KYf := KY.fr; replace HB := Lib.hid (up HB.out hbt); clear hbt))
        go_ret2
        exact ⟨rfl, HB.out⟩
      · have h0 : adT P K l p x = 0 := by
          unfold adT orE; rw [if_pos h1, hI]
          unfold orE; rw [if_pos (show err true 51 = 0 from rfl), show decide ((l.length : Int) < 8) = true by simp; omega]; rfl
        have HAd : Hid (adP P K l p x = addK (apL K) st (kdD K x) P.length 0) := Lib.hid (by unfold adP adS; rw [hst]; rfl)
        have HV : Hid (adV P K l p x = (((adP P K l p x).getD 0 : Nat) : Int)) := Lib.hid (by unfold adV; rw [if_pos h0])
        have HE0 : Hid (adE P K l p x = if (adP P K l p x).isSome = true then 0 else 53) := Lib.hid (by unfold adE; rw [if_pos h0])
        have HI := Lib.hid hI
        have HF : Hid (∀ q, q < P.length → fitS P K (l ++ [x]) p l.length q = !fullS (apL K) st (kdD K x) q) := Lib.hid (fun q hq => add_fit hs0 hst hI hq)
        have hrb : ((r : Int) == 8) = false := by have := Hr.out; simp; omega
        have hr7 : r ≤ 7 := by have := Hr.out; omega
        have hl7 : l.length ≤ 7 := by omega
        have HK := Lib.hid hK
        have Hl2 : Hid (lOk K (l ++ [x]) = true) := Lib.hid (by unfold lOk at hlo ⊢; rw [List.all_append, hlo]; simp [hI])
        have Hpl := Lib.hid hpl
        have hn5 : n ≤ 5 := by rw [Hn.out]; exact h5
        clear h1 h0 HT hI hpl hs0 hst hy hlo h5 hP hK hl8 h8
        generalize adP P K l p x = AD at *
        obtain ⟨q, hkq⟩ : ∃ q, kdD K x = q := ⟨_, rfl⟩
        have Hkq := Lib.hid hkq
        rw [hkq] at HAd HF
        clear hkq
        go_enter Tryz.func35, Tryz.ntmps35
        go_upto_region 1 with fail
        generalize hW : (World.alloc _ _) = W
        have HB : Hid (Below w.heap.size w W) := Lib.hid (by subst hW; go_grown)
        have KY : Bx W (w.heap.size) 25 [.slice A n c, .slice B m d] := by subst hW; repeat (first | (refine Bx.newAt _ _ _ ?_; first | rfl | (simp only [World.size_alloc]; done) | (simp only [World.size_alloc]; omega)) | refine Bx.old ?_ _)
        clear hW
        have KYl := KY.lt; have KYc := KY.get; have KYf := KY.fr
        go_upto_region 9 with (first
          | (go_at_call 41; refine (rcheckPlace_any A n c P B m d K L r s l C u v p _ (Hp.out.keep HB.out) (Hg.out.keep HB.out) (Hl.out.keep HB.out) (Hc.out.keep HB.out)).mono ?_; rintro e X ⟨rfl, hbx⟩; rw [HE.out]; clear KYl KYc KYf; replace KY := KY.keep hbx; have KYl := KY.lt; have KYc := KY.get; have KYf := KY.fr; replace HB := Lib.hid (up HB.out hbx); clear hbx)
          | (go_at_call 73; refine (rkind_any A n c B m d K x _ (Hg.out.keep HB.out)).mono ?_; rw [Hkq.out, HI.out]; rintro e X2 ⟨rfl, hbx⟩; clear KYl KYc KYf; replace KY := KY.keep hbx; have KYl := KY.lt; have KYc := KY.get; have KYf := KY.fr; replace HB := Lib.hid (up HB.out hbx); clear hbx)
          | (refine wpList_putNew 72 11 26 rfl rfl rfl rfl (by kernel_rfl) rfl (by simp [Value.oneCell']) ?_; intro T KK hbt hst; clear hst; clear KYl KYc KYf; replace KY := KY.keep hbt; have KYl := KY.lt; have KYc := KY.get; have KYf := KY.fr; replace HB := Lib.hid (up HB.out hbt); clear hbt))
        have HO := Lib.hid (show OI (T.alloc (.cells #[] 3)) T.heap.size (.slice (some ⟨T.heap.size, 0, none⟩) 0 0) [] from ⟨World.ownsRow_made T #[] 0 (Nat.le_refl _) (by unfold maxLen; omega) rfl⟩)
        have hb1 := up_alloc T (.cells #[] 3)
        have HL1 := Lib.hid ((Hl.out.keep HB.out).keep hb1)
        have HbX := Lib.hid hb1
        clear hb1 KYl KYc KYf
        have hwT := HB.out.size
        go_upto_region 10 with (first
          | (at_builtin; go_loud (refine wpList_appAny HO.out (.tmp 33) (.tmp 34) rfl rfl rfl rfl HL1.out (by simp; omega) HbX.out.size ?_; intro A' c' Y hO hb; have hb3 := up_alloc Y (.cells #[.int .i64 x] 3); have HX : Hid (OI (Y.alloc (.cells #[.int .i64 x] 3)) T.heap.size (.slice A' l.length c') l) := Lib.hid (by rw [List.nil_append] at hO; exact hO.keep hb3); have HcV : Hid ((Y.alloc (.cells #[.int .i64 x] 3)).cell? ⟨Y.heap.size, 0, none⟩ = some (.int .i64 x)) := Lib.hid (by rw [cell_of_row _ _ _ _ _ _ (heap_alloc_new _ _)]; rfl); have HBY := Lib.hid (up (HbX.out.trans hb) hb3); clear hO hb hb3 HO))
          | (at_builtin; go_loud (refine wpList_appI HX.out (.tmp 35) (.tmp 37) rfl rfl rfl rfl HcV.out (by omega) HBY.out.size ?_; intro A3 c3 Z hO hB4; have HO4 := Lib.hid hO; have HBZ := Lib.hid (HBY.out.trans hB4); clear hO hB4)))
        obtain ⟨A4, c4, e4, hc4, hi4, -⟩ := HO4.out.is
        have e5 : (l ++ [x]).length = l.length + 1 := by simp
        rw [e5] at hi4 e4
        have HBw := Lib.hid (up HB.out HBZ.out)
        have KYZ := KY.keep HBZ.out
        have Hfit : Hid (∀ k : Nat, k < n → ∀ V, Below Z.heap.size Z V → Calls Tryz.prog 86 #[.agg #[.slice A n c, .slice B m d], .slice A3 (l.length + 1) c3, .slice C u v, .int .i64 (r : Int), .int .i64 (k : Int)] V fun e w' => e = .returned (.bool (!fullS (apL K) st q k)) ∧ Below V.heap.size V w') := Lib.hid (fun k hk V hV => by
          have hbV := up HBw.out hV
          cases e4
          exact rfits_b A n c P B m d K A3 (l.length + 1) c3 (l ++ [x]) C u v p V (Hp.out.keep hbV) (Hg.out.keep hbV) (hi4.keep hV) (Hc.out.keep hbV) r k _ HK.out Hl2.out (by have := Hr.out; omega) (by have := Hpl.out; omega) (by have := Hn.out; omega) (by omega) (by rw [Hr.out]; exact HF.out k (by have := Hn.out; omega)))
        clear e4 hc4 hi4 e5 HO4 HX KY HF
        have KYZl := KYZ.lt; have KYZc := KYZ.get; have KYZf := KYZ.fr
        go_upto_region 11 with fail
        clear KYZl KYZc KYZf
        go_loopw [42] (fun i wr => ∃ (k : Nat), k ≤ n ∧ i = .int .i64 k ∧ Below Z.heap.size Z wr ∧ addK (apL K) st q (n - k) k = AD) (fun i _ => n - (intOf i).toNat)
        case atStart => exact ⟨0, by omega, rfl, Below.refl _ _, by rw [HAd.out, Hn.out]; rfl⟩
        case round =>
          obtain ⟨k, hk, rfl, hb, hp⟩ := hrel
          have HB2 := Lib.hid hb; have Hp2 := Lib.hid hp
          have KYw := KYZ.keep hb
          clear hb hp
          by_cases hlt : k < n
          · have HK9 : Hid (addK (apL K) st q (n - k) k = if fullS (apL K) st q k = true then addK (apL K) st q (n - (k + 1)) (k + 1) else some k) := Lib.hid (by rw [show n - k = (n - (k + 1)) + 1 by omega]; rfl)
            have HC := Lib.hid (Hfit.out k hlt)
            have KYwl := KYw.lt; have KYwc := KYw.get; have KYwf := KYw.fr
            cases hF : fullS (apL K) st q k
            · have HA2 : Hid (AD = some k) := Lib.hid (by rw [← Hp2.out, HK9.out, hF]; rfl)
              rw [hF] at HC
              clear hF HK9
              go_wp2_with (go_at_call 86; refine (HC.out _ HB2.out).mono ?_; rintro e R ⟨rfl, hbr⟩; simp only [Bool.not_false]; have HBR := Lib.hid (up HB2.out hbr); clear hbr)
              go_ret2
              exact ⟨by rw [HV.out, HE0.out, HA2.out]; rfl, up HBw.out HBR.out⟩
            · have HA2 : Hid (addK (apL K) st q (n - (k + 1)) (k + 1) = AD) := Lib.hid (by rw [← Hp2.out, HK9.out, hF]; rfl)
              rw [hF] at HC
              clear hF HK9
              go_wp2_with (go_at_call 86; refine (HC.out _ HB2.out).mono ?_; rintro e R ⟨rfl, hbr⟩; simp only [Bool.not_true]; have HBR := Lib.hid (up HB2.out hbr); clear hbr)
              exact ⟨⟨k + 1, by omega, by go_num, HBR.out, HA2.out⟩, by simp [intOf]; omega⟩
          · obtain rfl : k = n := by omega
            have HA2 : Hid (AD = none) := Lib.hid (by rw [← Hp2.out, Nat.sub_self]; rfl)
            go_wp2
            go_ret2
            exact ⟨by rw [HV.out, HE0.out, HA2.out]; rfl, up HBw.out HB2.out⟩
end
end Go.Proofs.YtifokapcobgjiaaGreat

