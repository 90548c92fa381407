/- Contracts of functions of the program and of the reference, and plain facts: a part of a proof. Own text. -/
import Derived.Test.YtifokapcobgjiaaGreatJk
import Derived.Test.YtifokapcobgjiaaGreatJn
import Derived.Test.YtifokapcobgjiaaGreatJr
import Derived.Test.YtifokapcobgjiaaGreatJy
set_option linter.unusedVariables false
set_option linter.unusedSimpArgs false
set_option linter.unusedSectionVars false
namespace Go.Proofs.YtifokapcobgjiaaGreat
open Go Go.RowKit
set_option maxHeartbeats 8000000
set_option maxRecDepth 100000

theorem bigK_all {P : List Int} {bs : List Kd} : ∀ f i, (∀ j, i ≤ j → j < i + f → bigB P bs j = false) → bigK P bs f i = [] := by
  intro f
  induction f with
  | zero => intro i _; rfl
  | succ f ih =>
    intro i h
    rw [bigK, if_neg (by rw [h i (Nat.le_refl _) (by omega)]; decide)]
    exact ih (i + 1) (fun j h1 h2 => h j (by omega) (by omega))
theorem bigK_hit {P : List Int} {bs : List Kd} : ∀ f i k, i ≤ k → k < i + f → (∀ j, i ≤ j → j < k → bigB P bs j = false) → bigB P bs k = true → bigK P bs f i = [(k : Int)] := by
  intro f
  induction f with
  | zero => intro i k h1 h2; omega
  | succ f ih =>
    intro i k h1 h2 h3 h4
    by_cases e : i = k
    · subst e; rw [bigK, if_pos h4]
    · rw [bigK, if_neg (by rw [h3 i (Nat.le_refl _) (by omega)]; decide)]
      exact ih (i + 1) k (by omega) (by omega) (fun j g1 g2 => h3 j (by omega) g2) h4
section
variable (A : Option Addr) (n c : Nat) (P : List Int) (B : Option Addr) (m d : Nat) (K : List Kd) (L : Option Addr) (r s : Nat) (l : List Int) (w : World)
theorem rRefuse_ok (h0 : sE P K l = 0) (hp : Is w A n P) (hg : Ks w B m K) (hl : Is w L r l) :
    Calls Tryz.prog 43 #[.agg #[.slice A n c, .slice B m d], .slice L r s] w fun e w' => ∃ v, e = .returned (.tuple #[.agg #[.int .i64 (rrP P K l).1, v], .int .i64 (rrE P K l)]) ∧ Lst 0 w' v (rrP P K l).2 ∧ Below w.heap.size w w' := by
  obtain ⟨hy, h8, hlo⟩ := sE_0 h0
  obtain ⟨h5, hP, hK⟩ := yOk_k hy
  have hbl := bsL_len K l
  have Hr : Hid (r = l.length) := Lib.hid hl.len
  have Hn : Hid (n = P.length) := Lib.hid hp.len
  have hr8 : r ≤ 8 := by rw [hl.len]; exact h8
  have hn5 : n ≤ 5 := by rw [hp.len]; exact h5
  have Hbb : Hid (∀ k (h : k < l.length), (!P.any fun q => decide ((kdD K l[k]).r ≤ q)) = bigB P (bsL K l) k) := Lib.hid (fun k h => by
    unfold bigB; rw [show (bsL K l).getD k kd0 = kdD K l[k] by unfold bsL; simp [h]])
  have HFB : Hid (findBigL P (bsL K l) = bigK P (bsL K l) l.length 0) := Lib.hid (by unfold findBigL; rw [hbl])
  have HFM : Hid (findManyL P (apL K) (bsL K l) = crowdL P.length (apL K) (bsL K l) l.length [] 0) := Lib.hid (by unfold findManyL; rw [hbl])
  have Hy := Lib.hid hy; have Hlo := Lib.hid hlo; have H8 := Lib.hid h8
  have Hp := Lib.hid hp; have Hg := Lib.hid hg; have Hl := Lib.hid hl
  have H21 : Hid (∀ W, Below w.heap.size w W → Calls Tryz.prog 21 #[.agg #[.slice A n c, .slice B m d], .slice L r s] W fun e w' => e = .returned (.int .i64 0) ∧ Below W.heap.size W w') := Lib.hid (fun W hW => by
    have := rcheckSorts_any A n c P B m d K L r s l W (hp.keep hW) (hg.keep hW) (hl.keep hW)
    rwa [h0] at this)
  clear hp hg hl h0 hy h8 hlo h5 hP hK hbl
  go_enter Tryz.func43, Tryz.ntmps43
  go_upto_region 1 with fail
  generalize hW : (World.alloc _ _) = W
  have HB : Hid (Below w.heap.size w W) := Lib.hid (by subst hW; go_grown)
  have KY : Bx W (w.heap.size) 25 [.slice A n c, .slice B m d] := by subst hW; repeat (first | (refine Bx.newAt _ _ _ ?_; first | rfl | (simp only [World.size_alloc]; done) | (simp only [World.size_alloc]; omega)) | refine Bx.old ?_ _)
  have KR : Bx W (w.heap.size + 1) 53 [.int .i64 0, .slice none 0 0] := by subst hW; repeat (first | (refine Bx.newAt _ _ _ ?_; first | rfl | (simp only [World.size_alloc]; done) | (simp only [World.size_alloc]; omega)) | refine Bx.old ?_ _)
  clear hW
  have KYl := KY.lt; have KYc := KY.get; have KYf := KY.fr; have KRl := KR.lt; have KRc := KR.get; have KRf := KR.fr
  go_upto_region 5 with (go_at_call 21; refine (H21.out _ HB.out).mono ?_; rintro e X ⟨rfl, hbx⟩; clear KYl KYc KYf; replace KY := KY.keep hbx; have KYl := KY.lt; have KYc := KY.get; have KYf := KY.fr; clear KRl KRc KRf; replace KR := KR.keep hbx; have KRl := KR.lt; have KRc := KR.get; have KRf := KR.fr; replace HB := Lib.hid (up HB.out hbx); clear hbx)
  clear KYl KYc KYf KRl KRc KRf
  have hXs := HB.out.size
  go_loopw [19] (fun i wr => ∃ (k : Nat), k ≤ r ∧ i = .int .i64 k ∧ Below w.heap.size w wr ∧ Bx wr w.heap.size 25 [.slice A n c, .slice B m d] ∧ Bx wr (w.heap.size + 1) 53 [.int .i64 0, .slice none 0 0] ∧ ∀ j, j < k → bigB P (bsL K l) j = false) (fun i _ => r - (intOf i).toNat)
  case atStart => exact ⟨0, by omega, rfl, HB.out, KY, KR, fun j h => by omega⟩
  case round =>
    clear KY KR HB
    obtain ⟨k, hk, rfl, hb, KY, KR, hall⟩ := hrel
    have HB := Lib.hid hb
    have Hall := Lib.hid hall
    clear hb hall
    by_cases hlt : k < r
    · have hkl : k < l.length := by rw [← Hr.out]; exact hlt
      obtain ⟨b, o, rfl, hb, hcs⟩ := (Hl.out.keep HB.out).get k hkl
      have H97 : Hid (∀ V, Below w.heap.size w V → Calls Tryz.prog 97 #[.agg #[.slice A n c, .slice B m d], .int .i64 l[k]] V fun e w' => e = .returned (.bool (bigB P (bsL K l) k)) ∧ Below V.heap.size V w') := Lib.hid (fun V hV => by
        have := risBig_any A n c P B m d K V l[k] (Hp.out.keep hV) (Hg.out.keep hV)
        rwa [Hbb.out k hkl] at this)
      have KYl := KY.lt; have KYc := KY.get; have KYf := KY.fr; have KRl := KR.lt; have KRc := KR.get; have KRf := KR.fr
      cases hF : bigB P (bsL K l) k
      · have Hall2 : Hid (∀ j, j < k + 1 → bigB P (bsL K l) j = false) := Lib.hid (fun j hj => by
          by_cases e : j = k
          · subst e; exact hF
          · exact Hall.out j (by omega))
        rw [hF] at H97
        clear hF Hall
        generalize l[k] = x at *
        go_wp2_with (go_at_call 97; refine (H97.out _ HB.out).mono ?_; rintro e Y ⟨rfl, hbx⟩; clear KYl KYc KYf; replace KY := KY.keep hbx; have KYl := KY.lt; have KYc := KY.get; have KYf := KY.fr; clear KRl KRc KRf; replace KR := KR.keep hbx; have KRl := KR.lt; have KRc := KR.get; have KRf := KR.fr; replace HB := Lib.hid (up HB.out hbx); clear hbx)
        exact ⟨⟨k + 1, by omega, by go_num, HB.out, KY, KR, Hall2.out⟩, by simp [intOf]; omega⟩
      · have hfb : findBigL P (bsL K l) = [(k : Int)] := by rw [HFB.out]; exact bigK_hit _ 0 k (by omega) (by omega) (fun j _ h => Hall.out j h) hF
        have HR2 : Hid (rrP P K l = (1, [(k : Int)])) := Lib.hid (by unfold rrP; rw [hfb, if_pos (by simp)])
        have HE2 : Hid (rrE P K l = 0) := Lib.hid (by unfold rrE; rw [HR2.out]; rfl)
        rw [hF] at H97
        clear hF hfb
        generalize l[k] = x at *
        go_upto_region 8 with (go_at_call 97; refine (H97.out _ HB.out).mono ?_; rintro e Y ⟨rfl, hbx⟩; clear KYl KYc KYf; replace KY := KY.keep hbx; have KYl := KY.lt; have KYc := KY.get; have KYf := KY.fr; clear KRl KRc KRf; replace KR := KR.keep hbx; have KRl := KR.lt; have KRc := KR.get; have KRf := KR.fr; replace HB := Lib.hid (up HB.out hbx); clear hbx)
        have hb3 := up_alloc Y (.cells #[.int .i64 (k : Int)] 3)
        have HB3 := Lib.hid (up HB.out hb3)
        have KR3 := KR.keep hb3
        have hIk : Is (Y.alloc (.cells #[.int .i64 (k : Int)] 3)) (some ⟨Y.heap.size, 0, none⟩) 1 [(k : Int)] := isC Y 3 [(k : Int)] (by simp)
        have HIk := Lib.hid hIk
        have hYs := KR.lt
        clear hb3 hIk KRl KRc KRf KYl KYc KYf
        go_wp2_with (refine wpList_put 53 4 29 rfl rfl KR3 rfl rfl (by kernel_rfl) rfl (by simp [Value.oneCell']) ?_; intro U2 KRn hp)
        rw [HR2.out, HE2.out]
        exact post_2 rfl rfl rfl KRn Tryz.underlying53 rfl (by kernel_rfl) (v := .int .i64 0) rfl ⟨_, rfl, ⟨_, 1, 1, rfl, ⟨by omega, by omega⟩, HIk.out.put hp (fun q hq => by cases hq; simp only; omega), fun _ _ => Nat.zero_le _⟩, upP HB3.out hp (by omega)⟩
    · obtain rfl : k = r := by omega
      have hfb : findBigL P (bsL K l) = [] := by rw [HFB.out]; exact bigK_all _ 0 (fun j _ h => Hall.out j (by rw [Hr.out]; omega))
      have Hfb := Lib.hid hfb
      have H98 : Hid (∀ kd V, Below w.heap.size w V → Calls Tryz.prog 98 #[.agg #[.slice A n c, .slice B m d], .slice L k s, .int .i64 kd] V fun e w' => e = .returned (.bool (badB P K l kd)) ∧ Below V.heap.size V w') := Lib.hid (fun kd V hV =>
        rbad_any A n c P B m d K L k s l V kd (Hp.out.keep hV) (Hg.out.keep hV) (Hl.out.keep hV) Hy.out Hlo.out (by have := H8.out; omega))
      have H99 : Hid (∀ kd V, Below w.heap.size w V → Calls Tryz.prog 99 #[.agg #[.slice A n c, .slice B m d], .slice L k s, .int .i64 kd] V fun e w' => ∃ y, e = .returned y ∧ OI w' V.heap.size y (leastK (badI P K l kd) l.length l.length) ∧ Below V.heap.size V w') := Lib.hid (fun kd V hV =>
        rleast_any A n c P B m d K L k s l V kd (Hp.out.keep hV) (Hg.out.keep hV) (Hl.out.keep hV) Hy.out Hlo.out H8.out)
      clear hfb Hall HFB Hbb
      have KYl := KY.lt; have KYc := KY.get; have KYf := KY.fr; have KRl := KR.lt; have KRc := KR.get; have KRf := KR.fr
      cases hF : badB P K l 2
      · have HF := Lib.hid hF
        clear hF
        have H100 : Hid (∀ V, Below w.heap.size w V → Calls Tryz.prog 100 #[.agg #[.slice A n c, .slice B m d], .slice L k s, .slice none 0 0, .int .i64 ((n : Int) + 1)] V fun e w' => ∃ y, e = .returned y ∧ Lst V.heap.size w' y (findManyL P (apL K) (bsL K l)) ∧ Below V.heap.size V w') := Lib.hid (fun V hV => by
          have := rmany_any A n c P B m d K L k s l Hy.out Hlo.out H8.out V.heap.size (n + 1) none 0 0 [] V (by have := Hn.out; simp; omega) (Hp.out.keep hV) (Hg.out.keep hV) (Hl.out.keep hV) (is0 V) ⟨by omega, by omega⟩ (fun x hx => by cases hx) rfl (by show 0 ≤ _; omega) (Nat.le_refl _) (fun p hp => by cases hp)
          rw [show frmI [] = 0 from rfl, Nat.sub_zero, ← HFM.out, show ((n + 1 : Nat) : Int) = (n : Int) + 1 by omega] at this
          exact this)
        have e1 : IntKind.i64.wrap ((n : Int) + 1) = (n : Int) + 1 := by rw [IntWalk.i64_in _ (by omega)]
        go_upto_region 12 with (go_at_call 98; refine (H98.out _ _ HB.out).mono ?_; rintro e Y ⟨rfl, hbx⟩; rw [HF.out]; clear KYl KYc KYf; replace KY := KY.keep hbx; have KYl := KY.lt; have KYc := KY.get; have KYf := KY.fr; clear KRl KRc KRf; replace KR := KR.keep hbx; have KRl := KR.lt; have KRc := KR.get; have KRf := KR.fr; replace HB := Lib.hid (up HB.out hbx); clear hbx)
        cases hcr : findManyL P (apL K) (bsL K l) with
        | nil =>
          have Hcr := Lib.hid hcr
          clear hcr
          go_upto_region 15 with (go_at_call 100; refine (H100.out _ HB.out).mono ?_; rintro e Z ⟨y8, rfl, hv, hbx⟩; rw [Hcr.out] at hv; obtain ⟨C8, q8, c8, rfl, -, hisv, -⟩ := hv; obtain rfl := hisv.len; clear hisv; clear KYl KYc KYf; replace KY := KY.keep hbx; have KYl := KY.lt; have KYc := KY.get; have KYf := KY.fr; clear KRl KRc KRf; replace KR := KR.keep hbx; have KRl := KR.lt; have KRc := KR.get; have KRf := KR.fr; replace HB := Lib.hid (up HB.out hbx); clear hbx)
          cases hG : badB P K l 4
          · have HG := Lib.hid hG
            have HR2 : Hid (rrP P K l = (0, [])) := Lib.hid (by unfold rrP; rw [Hfb.out, HF.out, Hcr.out, hG]; rfl)
            have HE2 : Hid (rrE P K l = 3) := Lib.hid (by unfold rrE; rw [HR2.out]; rfl)
            clear hG
            go_wp2_with (first
              | (go_at_call 98; refine (H98.out _ _ HB.out).mono ?_; rintro e Y2 ⟨rfl, hbx⟩; rw [HG.out]; clear KRl KRc KRf; replace KR := KR.keep hbx; have KRl := KR.lt; have KRc := KR.get; have KRf := KR.fr; replace HB := Lib.hid (up HB.out hbx); clear hbx)
              | (refine wpList_put 53 4 57 rfl rfl KR rfl rfl (by kernel_rfl) rfl (by simp [Value.oneCell']) ?_; intro U2 KRn hp))
            rw [HR2.out, HE2.out]
            exact post_2 rfl rfl rfl KRn Tryz.underlying53 rfl (by kernel_rfl) (v := .int .i64 3) rfl ⟨_, rfl, Lst.nil _ _, upP HB.out hp (by omega)⟩
          · have HG := Lib.hid hG
            have HR2 : Hid (rrP P K l = (4, leastK (badI P K l 4) l.length l.length)) := Lib.hid (by unfold rrP; rw [Hfb.out, HF.out, Hcr.out, hG]; rfl)
            have HE2 : Hid (rrE P K l = 0) := Lib.hid (by unfold rrE; rw [HR2.out]; rfl)
            clear hG
            obtain ⟨X4, hX4⟩ : ∃ X4, leastK (badI P K l 4) l.length l.length = X4 := ⟨_, rfl⟩
            have HX4 := Lib.hid hX4
            clear hX4
            go_wp2_with (first
              | (go_at_call 98; refine (H98.out _ _ HB.out).mono ?_; rintro e Y2 ⟨rfl, hbx⟩; rw [HG.out]; clear KYl KYc KYf; replace KY := KY.keep hbx; have KYl := KY.lt; have KYc := KY.get; have KYf := KY.fr; clear KRl KRc KRf; replace KR := KR.keep hbx; have KRl := KR.lt; have KRc := KR.get; have KRf := KR.fr; replace HB := Lib.hid (up HB.out hbx); clear hbx)
              | (go_at_call 99; refine (H99.out 4 _ HB.out).mono ?_; rintro e Y3 ⟨y9, rfl, hO, hbx⟩; rw [HX4.out] at hO; obtain ⟨A9, c9, rfl⟩ := hO.shape; have HO := Lib.hid hO; have hYs := KR.lt; clear hO; clear KRl KRc KRf; replace KR := KR.keep hbx; have KRl := KR.lt; have KRc := KR.get; have KRf := KR.fr; replace HB := Lib.hid (up HB.out hbx); clear hbx; clear KYl KYc KYf)
              | (refine wpList_put 53 4 56 rfl rfl KR rfl rfl (by kernel_rfl) rfl (by simp [Value.oneCell']) ?_; intro U2 KRn hp))
            rw [HR2.out, HE2.out, HX4.out]
            exact post_2 rfl rfl rfl KRn Tryz.underlying53 rfl (by kernel_rfl) (v := .int .i64 0) rfl ⟨_, rfl, ⟨A9, X4.length, c9, rfl, ⟨HO.out.capL.1, HO.out.cap⟩, HO.out.isP.put hp (fun q hq => by have := HO.out.capL.2 q hq; omega), fun _ _ => Nat.zero_le _⟩, upP HB.out hp (by omega)⟩
        | cons x9 t9 =>
          have Hcr := Lib.hid hcr
          have HR2 : Hid (rrP P K l = (3, x9 :: t9)) := Lib.hid (by unfold rrP; rw [Hfb.out, HF.out, hcr]; rfl)
          have HE2 : Hid (rrE P K l = 0) := Lib.hid (by unfold rrE; rw [HR2.out]; rfl)
          clear hcr
          go_wp2_with (first
            | (go_at_call 100; refine (H100.out _ HB.out).mono ?_; rintro e Z ⟨y8, rfl, hv, hbx⟩; rw [Hcr.out] at hv; obtain ⟨C8, q8, c8, rfl, hq8, hisv, hfv⟩ := hv; have hql := hisv.len; simp only [List.length_cons] at hql; subst hql; have Hv := Lib.hid hisv; have Hfv := Lib.hid hfv; have hYs := KR.lt; clear hisv hfv; clear KRl KRc KRf; replace KR := KR.keep hbx; have KRl := KR.lt; have KRc := KR.get; have KRf := KR.fr; replace HB := Lib.hid (up HB.out hbx); clear hbx; clear KYl KYc KYf)
            | (refine wpList_put 53 4 49 rfl rfl KR rfl rfl (by kernel_rfl) rfl (by simp [Value.oneCell']) ?_; intro U2 KRn hp))
          rw [HR2.out, HE2.out]
          exact post_2 rfl rfl rfl KRn Tryz.underlying53 rfl (by kernel_rfl) (v := .int .i64 0) rfl ⟨_, rfl, ⟨C8, t9.length + 1, c8, rfl, hq8, Hv.out.put hp (fun q hq => by have := Hfv.out q hq; omega), fun _ _ => Nat.zero_le _⟩, upP HB.out hp (by omega)⟩
      · have HF := Lib.hid hF
        have HR2 : Hid (rrP P K l = (2, leastK (badI P K l 2) l.length l.length)) := Lib.hid (by unfold rrP; rw [Hfb.out, hF]; rfl)
        have HE2 : Hid (rrE P K l = 0) := Lib.hid (by unfold rrE; rw [HR2.out]; rfl)
        clear hF
        obtain ⟨X2, hX2⟩ : ∃ X2, leastK (badI P K l 2) l.length l.length = X2 := ⟨_, rfl⟩
        have HX2 := Lib.hid hX2
        clear hX2
        go_wp2_with (first
          | (go_at_call 98; refine (H98.out _ _ HB.out).mono ?_; rintro e Y2 ⟨rfl, hbx⟩; rw [HF.out]; clear KYl KYc KYf; replace KY := KY.keep hbx; have KYl := KY.lt; have KYc := KY.get; have KYf := KY.fr; clear KRl KRc KRf; replace KR := KR.keep hbx; have KRl := KR.lt; have KRc := KR.get; have KRf := KR.fr; replace HB := Lib.hid (up HB.out hbx); clear hbx)
          | (go_at_call 99; refine (H99.out 2 _ HB.out).mono ?_; rintro e Y3 ⟨y9, rfl, hO, hbx⟩; rw [HX2.out] at hO; obtain ⟨A9, c9, rfl⟩ := hO.shape; have HO := Lib.hid hO; have hYs := KR.lt; clear hO; clear KRl KRc KRf; replace KR := KR.keep hbx; have KRl := KR.lt; have KRc := KR.get; have KRf := KR.fr; replace HB := Lib.hid (up HB.out hbx); clear hbx; clear KYl KYc KYf)
          | (refine wpList_put 53 4 37 rfl rfl KR rfl rfl (by kernel_rfl) rfl (by simp [Value.oneCell']) ?_; intro U2 KRn hp))
        rw [HR2.out, HE2.out, HX2.out]
        exact post_2 rfl rfl rfl KRn Tryz.underlying53 rfl (by kernel_rfl) (v := .int .i64 0) rfl ⟨_, rfl, ⟨A9, X2.length, c9, rfl, ⟨HO.out.capL.1, HO.out.cap⟩, HO.out.isP.put hp (fun q hq => by have := HO.out.capL.2 q hq; omega), fun _ _ => Nat.zero_le _⟩, upP HB.out hp (by omega)⟩
end
end Go.Proofs.YtifokapcobgjiaaGreat

namespace Go.Proofs.YtifokapcobgjiaaGreat
open Go Go.RowKit
set_option maxHeartbeats 8000000
set_option maxRecDepth 100000

theorem someI_take (l b : List Int) (k : Nat) : someI l (b.take k) = (someI l b).take k := by simp [someI, List.map_take]
theorem mapE_I (f : Int → Int) : ∀ (l : List Int) (k : Nat), (l.map f).eraseIdx k = (l.eraseIdx k).map f
  | [], _ => by simp
  | _ :: _, 0 => rfl
  | a :: l, k + 1 => by simp [mapE_I f l k]
theorem someI_erase (l b : List Int) (k : Nat) : (someI l b).eraseIdx k = someI l (b.eraseIdx k) := mapE_I _ b k
theorem ali_many {K : List Kd} {l b : List Int} (hK : ksOk K = true) (hl : lOk K l = true) (hb : idxOk l.length b) : aliB K (someI l b) = (List.range b.length).all (isManyK (apL K) (bsL K l) b) := by
  unfold aliB
  rw [someI_len, Bool.eq_iff_iff, List.all_eq_true, List.all_eq_true]
  have key : ∀ k, k < b.length → aliK K (someI l b) k = isManyK (apL K) (bsL K l) b k := by
    intro k hk
    have hx := hb b[k] (List.getElem_mem hk)
    unfold isManyK
    rw [show b.getD k 0 = b[k] by simp [hk], ap_ali hK hl (by omega) (fun o ho => hb o (List.mem_of_mem_take ho)), someI_take]
    unfold aliK
    have e : (someI l b).getD k 0 = l.getD b[k].toNat 0 := by unfold someI; simp [hk]
    rw [e, Bool.eq_iff_iff, List.all_eq_true, List.all_eq_true]
    have hs : k ≤ (someI l b).length := by rw [someI_len]; omega
    constructor
    · intro h y hy
      obtain ⟨j, hj, rfl⟩ := List.mem_iff_getElem.1 hy
      have hj2 : j < k := by rw [List.length_take] at hj; omega
      have := h j (List.mem_range.2 hj2)
      rw [List.getElem_take]
      rwa [show (someI l b).getD j 0 = (someI l b)[j]'(by omega) by simp [show j < (someI l b).length by omega]] at this
    · intro h j hj
      have hj := List.mem_range.1 hj
      rw [show (someI l b).getD j 0 = (someI l b)[j]'(by omega) by simp [show j < (someI l b).length by omega]]
      exact h _ (List.mem_iff_getElem.2 ⟨j, by rw [List.length_take]; omega, by rw [List.getElem_take]⟩)
  exact ⟨fun h k hk => by rw [← key k (List.mem_range.1 hk)]; exact h k hk, fun h k hk => by rw [key k (List.mem_range.1 hk)]; exact h k hk⟩
theorem least_badI {P : List Int} {K : List Kd} {l b : List Int} {f : List Int → Bool} {kd : Int} (hb : idxOk l.length b) (h : ∀ c, idxOk l.length c → badI P K l kd c = f c) :
    isLeastB f b = ((List.range b.length).all (fun i => !badB P K ((someI l b).eraseIdx i) kd) && badB P K (someI l b) kd) := by
  unfold isLeastB
  rw [← h b hb]
  congr 1
  rw [Bool.eq_iff_iff, List.all_eq_true, List.all_eq_true]
  have e : ∀ i, f (b.eraseIdx i) = badB P K ((someI l b).eraseIdx i) kd := fun i => by
    rw [someI_erase, ← h _ (idxOk_erase hb i)]; rfl
  exact ⟨fun g i hi => by rw [← e i]; exact g i hi, fun g i hi => by rw [e i]; exact g i hi⟩
/-- What the reference asks of a kind. -/
def rsnR (P : List Int) (K : List Kd) (S : List Int) (kd : Int) : Bool :=
  if kd = 1 then decide (S.length = 1) && !P.any (fun q => decide ((kdD K (S.getD 0 0)).r ≤ q)) else
  if kd = 3 then decide (S.length = P.length + 1) && aliB K S else
  if kd = 2 ∨ kd = 4 then badB P K S kd && (List.range S.length).all (fun i => !badB P K (S.eraseIdx i) kd) else false
theorem rsnR_eq {P : List Int} {K : List Kd} {l b : List Int} {kd : Int} (hK : ksOk K = true) (hl : lOk K l = true) (hb : idxOk l.length b) : rsnR P K (someI l b) kd = rsnB P K l kd b := by
  unfold rsnR rsnB
  have hsl := someI_len l b
  by_cases h1 : kd = 1
  · subst h1
    rw [if_pos rfl, show inB 1 1 4 = true from rfl, Bool.true_and]
    show _ = isBigB P (bsL K l) b
    unfold isBigB
    rw [hsl]
    by_cases hlen : b.length = 1
    · have h0 : 0 < b.length := by omega
      have hx := hb b[0] (List.getElem_mem h0)
      have e : (someI l b).getD 0 0 = l.getD b[0].toNat 0 := by unfold someI; simp [h0]
      rw [e, show b.getD 0 0 = b[0] by simp [h0]]
      unfold bigB
      rw [show (bsL K l).getD b[0].toNat kd0 = kdD K (l.getD b[0].toNat 0) by unfold bsL; simp [show b[0].toNat < l.length by omega]]
    · simp [hlen]
  rw [if_neg h1]
  by_cases h3 : kd = 3
  · subst h3
    rw [if_pos rfl, show inB 3 1 4 = true from rfl, Bool.true_and, hsl, ali_many hK hl hb]
    show _ = isManyB P.length (apL K) (bsL K l) b
    unfold isManyB
    exact Bool.and_comm _ _
  rw [if_neg h3]
  by_cases h2 : kd = 2
  · subst h2
    rw [if_pos (.inl rfl), show inB 2 1 4 = true from rfl, Bool.true_and, hsl]
    show _ = isLeastB (overB P (bsL K l)) b
    rw [least_badI hb (fun c hc => badI_over hc)]
    exact Bool.and_comm _ _
  by_cases h4 : kd = 4
  · subst h4
    rw [if_pos (.inr rfl), show inB 4 1 4 = true from rfl, Bool.true_and, hsl]
    show _ = isLeastB (stuckB P (apL K) (bsL K l)) b
    rw [least_badI hb (fun c hc => badI_stuck hc)]
    exact Bool.and_comm _ _
  rw [if_neg (fun h => h.elim h2 h4)]
  have : inB kd 1 4 = false := by
    cases hq : inB kd 1 4 with
    | false => rfl
    | true => have := inB_iff.1 hq; omega
  rw [this, Bool.false_and]
end Go.Proofs.YtifokapcobgjiaaGreat

namespace Go.Proofs.YtifokapcobgjiaaGreat
open Go Go.RowKit
set_option maxHeartbeats 8000000
set_option maxRecDepth 100000

theorem risC_not {n : Nat} {b : List Int} {k : Nat} (hk : k < b.length) (h : risP n b k = false) : risC n b = false := by
  cases hc : risC n b with
  | false => rfl
  | true =>
    have := (risK_iff b.length).1 hc
    rw [this.2 k hk] at h; cases h
section
variable (A : Option Addr) (n c : Nat) (P : List Int) (B : Option Addr) (m d : Nat) (K : List Kd) (L : Option Addr) (r s : Nat) (l : List Int) (C : Option Addr) (u v : Nat) (b : List Int) (w : World) (hp : Is w A n P) (hg : Ks w B m K) (hl : Is w L r l) (hc : Is w C u b)
include hp hg hl hc
theorem risReason_any (h0 : sE P K l = 0) (kd : Int) :
    Calls Tryz.prog 107 #[.agg #[.slice A n c, .slice B m d], .slice L r s, .agg #[.int .i64 kd, .slice C u v]] w fun e w' => e = .returned (.bool (risC l.length b && rsnR P K (someI l b) kd)) ∧ Below w.heap.size w w' := by
  obtain ⟨hy, h8, hlo⟩ := sE_0 h0
  obtain ⟨h5, hP, hK⟩ := yOk_k hy
  have Hr : Hid (r = l.length) := Lib.hid hl.len
  have Hu : Hid (u = b.length) := Lib.hid hc.len
  have Hn : Hid (n = P.length) := Lib.hid hp.len
  have hr8 : r ≤ 8 := by rw [hl.len]; exact h8
  have hn5 : n ≤ 5 := by rw [hp.len]; exact h5
  have hux := hc.small
  have Hp := Lib.hid hp; have Hg := Lib.hid hg; have Hl := Lib.hid hl; have Hc := Lib.hid hc
  have Hy := Lib.hid hy; have Hlo := Lib.hid hlo; have HK := Lib.hid hK
  have H8 := Lib.hid h8
  clear hp hg hl hc h0 hy h8 hlo h5 hP hK
  by_cases hu0 : u = 0
  · have HE : Hid ((risC l.length b && rsnR P K (someI l b) kd) = false) := Lib.hid (by
      have hb : b = [] := List.eq_nil_of_length_eq_zero (by rw [← Hu.out]; exact hu0)
      subst hb; rfl)
    subst hu0
    rw [HE.out]
    go_enter Tryz.func107, Tryz.ntmps107
    go_upto_region 1 with fail
    generalize hW : (World.alloc _ _) = W
    have HB : Hid (Below w.heap.size w W) := Lib.hid (by subst hW; go_grown)
    have KY : Bx W (w.heap.size) 25 [.slice A n c, .slice B m d] := by subst hW; repeat (first | (refine Bx.newAt _ _ _ ?_; first | rfl | (simp only [World.size_alloc]; done) | (simp only [World.size_alloc]; omega)) | refine Bx.old ?_ _)
    have KR : Bx W (w.heap.size + 1) 53 [.int .i64 kd, .slice C 0 v] := by subst hW; repeat (first | (refine Bx.newAt _ _ _ ?_; first | rfl | (simp only [World.size_alloc]; done) | (simp only [World.size_alloc]; omega)) | refine Bx.old ?_ _)
    clear hW
    have KYl := KY.lt; have KYc := KY.get; have KYf := KY.fr; have KRl := KR.lt; have KRc := KR.get; have KRf := KR.fr
    go_wp2
    go_ret
    exact ⟨rfl, HB.out⟩
  · have hub : ((u : Int) == 0) = false := by simp; omega
    obtain ⟨RB, hRB⟩ : ∃ RB, (risC l.length b && rsnR P K (someI l b) kd) = RB := ⟨_, rfl⟩
    have HRB := Lib.hid hRB
    rw [hRB]
    clear hRB
    go_enter Tryz.func107, Tryz.ntmps107
    go_upto_region 1 with fail
    generalize hW : (World.alloc _ _) = W
    have HB : Hid (Below w.heap.size w W) := Lib.hid (by subst hW; go_grown)
    have KY : Bx W (w.heap.size) 25 [.slice A n c, .slice B m d] := by subst hW; repeat (first | (refine Bx.newAt _ _ _ ?_; first | rfl | (simp only [World.size_alloc]; done) | (simp only [World.size_alloc]; omega)) | refine Bx.old ?_ _)
    have KR : Bx W (w.heap.size + 1) 53 [.int .i64 kd, .slice C u v] := by subst hW; repeat (first | (refine Bx.newAt _ _ _ ?_; first | rfl | (simp only [World.size_alloc]; done) | (simp only [World.size_alloc]; omega)) | refine Bx.old ?_ _)
    clear hW
    have KYl := KY.lt; have KYc := KY.get; have KYf := KY.fr; have KRl := KR.lt; have KRc := KR.get; have KRf := KR.fr
    go_upto_region 4 with fail
    clear KYl KYc KYf KRl KRc KRf
    have hWs := HB.out.size
    have hws2 := KR.lt
    go_loopw [18] (fun i wr => ∃ (k : Nat), k ≤ u ∧ i = .int .i64 k ∧ Below W.heap.size W wr ∧ ∀ j, j < k → risP l.length b j = true) (fun i _ => u - (intOf i).toNat)
    case atStart => exact ⟨0, by omega, rfl, Below.refl _ _, fun j h => by omega⟩
    case round =>
      obtain ⟨k, hk, rfl, hb, hall⟩ := hrel
      have Hall := Lib.hid hall
      have HBb := Lib.hid hb
      have HBw := Lib.hid (up HB.out hb)
      have KYw := KY.keep hb; have KRw := KR.keep hb
      clear hb hall
      by_cases hlt : k < u
      · have hkb : k < b.length := by rw [← Hu.out]; exact hlt
        obtain ⟨bb, oo, rfl, hbb, hcs⟩ := (Hc.out.keep HBw.out).get k hkb
        have KYwl := KYw.lt; have KYwc := KYw.get; have KYwf := KYw.fr; have KRwl := KRw.lt; have KRwc := KRw.get; have KRwf := KRw.fr
        cases hI : inB b[k] 0 ((r : Int) - 1)
        · have hF : RB = false := by
            rw [← HRB.out, risC_not hkb (by unfold risP; rw [show b.getD k 0 = b[k] by simp [hkb], ← Hr.out, hI]; rfl), Bool.false_and]
          have HF := Lib.hid hF
          have HI := Lib.hid hI
          clear hF hI
          generalize b[k] = x at *
          go_wp2_with (go_at_call 72; refine (rwithin_b _ _ _ _ _ HI.out).mono ?_; rintro e X ⟨rfl, hbx⟩; have HBX := Lib.hid (up HBw.out hbx); clear hbx)
          go_ret
          exact ⟨ret_bool HF.out.symm, HBX.out⟩
        · have HI := Lib.hid hI
          by_cases hk0 : k = 0
          · subst hk0
            have HP1 : Hid (∀ j, j < 0 + 1 → risP l.length b j = true) := Lib.hid (fun j hj => by
              obtain rfl : j = 0 := by omega
              unfold risP; rw [show b.getD 0 0 = b[0] by simp [hkb], ← Hr.out, hI]; rfl)
            clear hI Hall
            rw [Nat.add_zero] at hcs
            generalize b[0] = x at *
            go_wp2_with (go_at_call 72; refine (rwithin_b _ _ _ _ _ HI.out).mono ?_; rintro e X ⟨rfl, hbx⟩; have HBX := Lib.hid (up HBb.out hbx); clear hbx)
            exact ⟨⟨0 + 1, by omega, by go_num, HBX.out, HP1.out⟩, by simp [intOf]; omega⟩
          · have hk1 : k - 1 < b.length := by omega
            have hk1u : k - 1 < u := by omega
            have hkp : 0 < k := by omega
            obtain ⟨b2, o2, e2, hb2, hc2⟩ := (Hc.out.keep HBw.out).get (k - 1) hk1
            cases e2
            have e1 : IntKind.i64.wrap ((k : Int) - 1) = ((k - 1 : Nat) : Int) := by rw [IntWalk.i64_in _ (by omega)]; omega
            have hPk : risP l.length b k = decide (b[k - 1] < b[k]) := by
              unfold risP
              rw [show b.getD k 0 = b[k] by simp [hkb], ← Hr.out, hI, show b.getD (k - 1) 0 = b[k - 1] by simp [hk1], show (k == 0) = false by simpa using hk0]; rfl
            by_cases hyx : b[k - 1] < b[k]
            · have HP1 : Hid (∀ j, j < k + 1 → risP l.length b j = true) := Lib.hid (fun j hj => by
                by_cases e : j = k
                · subst e; rw [hPk]; exact decide_eq_true hyx
                · exact Hall.out j (by omega))
              have hyn : ¬ b[k] ≤ b[k - 1] := by omega
              clear hI Hall hPk
              generalize b[k] = x at *
              generalize b[k - 1] = y at *
              generalize k - 1 = j at *
              go_wp2_with (go_at_call 72; refine (rwithin_b _ _ _ _ _ HI.out).mono ?_; rintro e X ⟨rfl, hbx⟩; have HBX := Lib.hid (up HBb.out hbx); have hcx := (hbx.cell (p := ⟨bb, oo + j, none⟩) hb2).trans hc2; have KRX := KRw.keep hbx; clear KRwl KRwc KRwf; have KRXl := KRX.lt; have KRXc := KRX.get; have KRXf := KRX.fr; clear hbx)
              exact ⟨⟨k + 1, by omega, by go_num, HBX.out, HP1.out⟩, by simp [intOf]; omega⟩
            · have hF : RB = false := by
                rw [← HRB.out, risC_not hkb (by rw [hPk]; exact decide_eq_false hyx), Bool.false_and]
              have HF := Lib.hid hF
              have hyn : b[k] ≤ b[k - 1] := by omega
              clear hI Hall hPk hF
              generalize b[k] = x at *
              generalize b[k - 1] = y at *
              generalize k - 1 = j at *
              go_wp2_with (go_at_call 72; refine (rwithin_b _ _ _ _ _ HI.out).mono ?_; rintro e X ⟨rfl, hbx⟩; have HBX := Lib.hid (up HBw.out hbx); have hcx := (hbx.cell (p := ⟨bb, oo + j, none⟩) hb2).trans hc2; have KRX := KRw.keep hbx; clear KRwl KRwc KRwf; have KRXl := KRX.lt; have KRXc := KRX.get; have KRXf := KRX.fr; clear hbx)
              go_ret
              exact ⟨ret_bool HF.out.symm, HBX.out⟩
      · obtain rfl : k = u := by omega
        have hR : risC l.length b = true := by
          unfold risC
          rw [risK_iff]
          exact ⟨by have := Hu.out; omega, fun j hj => Hall.out j (by rw [Hu.out]; exact hj)⟩
        obtain ⟨hbne, hbi, hbr⟩ := risC_iff.1 hR
        have hb8 : b.length ≤ 8 := Nat.le_trans (ris_len hbi hbr) H8.out
        have HS1 : Hid (rsnR P K (someI l b) kd = RB) := Lib.hid (by rw [← HRB.out, hR, Bool.true_and])
        have Hsl : Hid (lOk K (someI l b) = true) := Lib.hid (lOk_some Hlo.out hbi)
        have Hbi := Lib.hid hbi
        have hS8 : (someI l b).length ≤ 8 := by rw [someI_len]; exact hb8
        clear hR hbne hbi hbr Hall HRB
        obtain ⟨S, hS⟩ : ∃ S, someI l b = S := ⟨_, rfl⟩
        have HS := Lib.hid hS
        rw [hS] at HS1 Hsl hS8
        clear hS
        have KYwl := KYw.lt; have KYwc := KYw.get; have KYwf := KYw.fr; have KRwl := KRw.lt; have KRwc := KRw.get; have KRwf := KRw.fr
        go_upto_region 10 with (go_at_call 141; refine (rsome_any L r s l _ C k v b (Hl.out.keep HBw.out) (Hc.out.keep HBw.out) Hbi.out (by omega)).mono ?_; rintro e X ⟨y9, rfl, hO, hbx⟩; rw [HS.out] at hO; obtain ⟨A9, c9, rfl⟩ := hO.shape; have HO := Lib.hid hO; have HBX := Lib.hid (up HBw.out hbx); have KYX := KYw.keep hbx; have KRX := KRw.keep hbx; clear hO hbx KYwl KYwc KYwf KRwl KRwc KRwf; have KYXl := KYX.lt; have KYXc := KYX.get; have KYXf := KYX.fr; have KRXl := KRX.lt; have KRXc := KRX.get; have KRXf := KRX.fr)
        have HIS := Lib.hid HO.out.isP
        have hcl9 := HO.out.capL.1
        have hcap9 := HO.out.cap
        clear HO
        by_cases hk1 : kd = 1
        · subst hk1
          have HS2 : Hid (RB = (decide (S.length = 1) && !P.any (fun q => decide ((kdD K (S.getD 0 0)).r ≤ q)))) := Lib.hid (by rw [← HS1.out]; rfl)
          by_cases hS1 : S.length = 1
          · have hS0 : 0 < S.length := by omega
            have hSb : ((S.length : Int) == 1) = true := by simp; omega
            obtain ⟨b9, o9, rfl, hb9, hc9⟩ := HIS.out.get 0 hS0
            rw [Nat.add_zero] at hc9
            obtain ⟨BB, hBB⟩ : ∃ BB, (!P.any (fun q => decide ((kdD K S[0]).r ≤ q))) = BB := ⟨_, rfl⟩
            have HF : Hid (RB = BB) := Lib.hid (by rw [HS2.out, ← hBB, hS1, show S.getD 0 0 = S[0] by simp [hS0]]; rfl)
            have H97 : Hid (∀ V, Below w.heap.size w V → Calls Tryz.prog 97 #[.agg #[.slice A n c, .slice B m d], .int .i64 S[0]] V fun e w' => e = .returned (.bool BB) ∧ Below V.heap.size V w') := Lib.hid (fun V hV => by
              rw [← hBB]; exact risBig_any A n c P B m d K V S[0] (Hp.out.keep hV) (Hg.out.keep hV))
            clear hBB HS2 hS1
            generalize S[0] = x at *
            go_upto_region 12 with fail
            refine wp_region_grow (by kernel_rfl) (by kernel_rfl) ?_
            repeat (go_big_quiet_step ((go_at_call 97; exact quiet_grow rfl (H97.out _ (up HBX.out (grow_below _ _))))))
            refine wpQuiet_nil ?_
            intro z
            go_wp2
            go_ret
            exact ⟨ret_bool HF.out.symm, up HBX.out (grow_below _ _)⟩
          · have hSb : ((S.length : Int) == 1) = false := by simp; omega
            have HF : Hid (RB = false) := Lib.hid (by rw [HS2.out, decide_eq_false hS1]; rfl)
            clear HS2 hS1
            go_upto_region 12 with fail
            refine wp_region_grow (by kernel_rfl) (by kernel_rfl) ?_
            repeat (go_big_quiet_step ((fail)))
            refine wpQuiet_nil ?_
            intro z
            go_wp2
            go_ret
            exact ⟨ret_bool HF.out.symm, up HBX.out (grow_below _ _)⟩
        by_cases hk3 : kd = 3
        · subst hk3
          have HS2 : Hid (RB = (decide (S.length = P.length + 1) && aliB K S)) := Lib.hid (by rw [← HS1.out]; rfl)
          have e1 : IntKind.i64.wrap ((n : Int) + 1) = (n : Int) + 1 := by rw [IntWalk.i64_in _ (by omega)]
          by_cases hS1 : S.length = n + 1
          · have hSb : ((S.length : Int) == (n : Int) + 1) = true := by simp; omega
            have HF : Hid (RB = aliB K S) := Lib.hid (by rw [HS2.out, ← Hn.out, decide_eq_true hS1, Bool.true_and])
            clear HS2 hS1
            go_wp2_with (go_at_call 142; refine (ralien_any A n c B m d K A9 S.length c9 S _ (Hg.out.keep HBX.out) HIS.out HK.out Hsl.out (by omega)).mono ?_; rintro e Y ⟨rfl, hby⟩; have HBY := Lib.hid (up HBX.out hby); clear hby)
            go_ret
            exact ⟨ret_bool HF.out.symm, HBY.out⟩
          · have hSb : ((S.length : Int) == (n : Int) + 1) = false := by simp; omega
            have HF : Hid (RB = false) := Lib.hid (by rw [HS2.out, ← Hn.out, decide_eq_false hS1]; rfl)
            clear HS2 hS1
            go_wp2
            go_ret
            exact ⟨ret_bool HF.out.symm, HBX.out⟩
        by_cases hk2 : kd = 2
        · subst hk2
          have HS2 : Hid (RB = (badB P K S 2 && (List.range S.length).all (fun i => !badB P K (S.eraseIdx i) 2))) := Lib.hid (by rw [← HS1.out]; rfl)
          have H98 : Hid (∀ V, Below X.heap.size X V → Calls Tryz.prog 98 #[.agg #[.slice A n c, .slice B m d], .slice A9 S.length c9, .int .i64 2] V fun e w' => e = .returned (.bool (badB P K S 2)) ∧ Below V.heap.size V w') := Lib.hid (fun V hV =>
            rbad_any A n c P B m d K A9 S.length c9 S V 2 (Hp.out.keep (up HBX.out hV)) (Hg.out.keep (up HBX.out hV)) (HIS.out.keep hV) Hy.out Hsl.out (by omega))
          cases hB : badB P K S 2
          · have HB9 := Lib.hid hB
            have HF : Hid (RB = false) := Lib.hid (by rw [HS2.out, hB]; rfl)
            clear hB HS2
            go_wp2_with (go_at_call 98; refine (H98.out _ (Below.refl _ _)).mono ?_; rintro e Y ⟨rfl, hby⟩; rw [HB9.out]; have HBY := Lib.hid (up HBX.out hby); clear hby)
            go_ret
            exact ⟨ret_bool HF.out.symm, HBY.out⟩
          · have HB9 := Lib.hid hB
            have HS3 : Hid (RB = (List.range S.length).all (fun i => !badB P K (S.eraseIdx i) 2)) := Lib.hid (by rw [HS2.out, hB]; rfl)
            clear hB HS2
            go_upto_region 20 with (go_at_call 98; refine (H98.out _ (Below.refl _ _)).mono ?_; rintro e Y ⟨rfl, hby⟩; rw [HB9.out]; have HBY := Lib.hid hby; have KYY := KYX.keep hby; have KRY := KRX.keep hby; clear hby KYXl KYXc KYXf KRXl KRXc KRXf; have KYYl := KYY.lt; have KYYc := KYY.get; have KYYf := KYY.fr; have KRYl := KRY.lt; have KRYc := KRY.get; have KRYf := KRY.fr)
            clear KYYl KYYc KYYf KRYl KRYc KRYf
            go_loopw [87] (fun i wv => ∃ (q : Nat), q ≤ S.length ∧ i = .int .i64 q ∧ Below X.heap.size X wv ∧ ∀ j, j < q → badB P K (S.eraseIdx j) 2 = false) (fun i _ => S.length - (intOf i).toNat)
            case atStart => exact ⟨0, by omega, rfl, HBY.out, fun j h => by omega⟩
            case round =>
              clear HBY KYY KRY
              obtain ⟨q, hq, rfl, hb, hq2⟩ := hrel
              have Hq2 := Lib.hid hq2
              have HBb := Lib.hid hb
              have HBq := Lib.hid (up HBX.out hb)
              have KYq := KYX.keep hb; have KRq := KRX.keep hb
              clear hb hq2
              by_cases hlq : q < S.length
              · obtain ⟨E9, hE9⟩ : ∃ E9, S.eraseIdx q = E9 := ⟨_, rfl⟩
                have HE9 := Lib.hid hE9
                have hE40 : E9.length ≤ 1000 := by have := List.length_eraseIdx_le (l := S) q; rw [hE9] at this; omega
                have HEl : Hid (lOk K E9 = true) := Lib.hid (by
                  rw [← hE9]
                  exact List.all_eq_true.2 fun x hx => (List.all_eq_true.1 Hsl.out) x ((List.eraseIdx_sublist S q).mem hx))
                clear hE9
                have HKY := Lib.hid KYq; have HKR := Lib.hid KRq
                have HI9 := Lib.hid (HIS.out.keep HBb.out)
                have KYql := KYq.lt; have KYqc := KYq.get; have KYqf := KYq.fr; have KRql := KRq.lt; have KRqc := KRq.get; have KRqf := KRq.fr
                go_upto_region 22 with fail
                refine wp_region_takesG 6 2 [0, 1, 2, 4, 5] (by kernel_rfl) (by kernel_rfl) (by kernel_rfl) (by kernel_rfl) (by decide) (fun d _ _ _ _ h => by cases d <;> exact h) (by kernel_rfl) rfl ?_
                refine wpTakes_step (v := .agg #[.slice A n c, .slice B m d]) rfl (by rfl) ?_ ?_
                · (rintro _ ⟨z9, rfl⟩; exact run_get 25 (.tmp 3) rfl rfl (cell_res (HKY.out.keep (grow_below _ z9)) Tryz.underlying25 rfl (by kernel_rfl)))
                simp only [Act.put, List.setIfInBounds_toArray, List.set_cons_zero, List.set_cons_succ]
                refine wpTakes_step (v := ?_) rfl (by rfl) ?_ ?_
                rotate_left
                · (rintro _ ⟨z9, rfl⟩; go_simp; try (with_reducible rfl))
                simp only [Act.put, List.setIfInBounds_toArray, List.set_cons_zero, List.set_cons_succ]
                refine wpTakes_step (v := ?_) rfl (by rfl) ?_ ?_
                rotate_left
                · (rintro _ ⟨z9, rfl⟩; go_simp; try (with_reducible rfl))
                simp only [Act.put, List.setIfInBounds_toArray, List.set_cons_zero, List.set_cons_succ]
                refine wpTakes_step (v := ?_) rfl (by rfl) ?_ ?_
                rotate_left
                · (rintro _ ⟨z9, rfl⟩; go_simp; try (with_reducible rfl))
                simp only [Act.put, List.setIfInBounds_toArray, List.set_cons_zero, List.set_cons_succ]
                refine wpTakes_step (v := .int .i64 2) rfl (by rfl) ?_ ?_
                · (rintro _ ⟨z9, rfl⟩; have h9 := (HKR.out.keep (grow_below wr z9)).get 0; go_simp; try (with_reducible rfl))
                simp only [Act.put, List.setIfInBounds_toArray, List.set_cons_zero, List.set_cons_succ]
                simp only [wpTakes]
                refine wpAnyT_step (i := 3) rfl (by kernel_rfl) rfl ?_
                have hbd : Below wr.heap.size wr wr.drew := by go_grown
                have HBd := Lib.hid hbd
                have HIV := Lib.hid (HI9.out.keep hbd)
                clear hbd KYql KYqc KYqf KRql KRqc KRqf
                go_wp2_with (go_at_call 91; refine (rwithout_any A9 S.length c9 S q _ HIV.out hlq hcl9 hcap9 (by omega)).mono ?_; rintro e T ⟨A8, c8, rfl, hO8, hbt⟩)
                rw [HE9.out] at hO8 ⊢
                have HO8 := Lib.hid hO8.isP
                have hbT := up HBd.out hbt
                refine ⟨below_grow hbT, ?_⟩
                refine wpAnyT_tail rfl (by kernel_rfl) (by kernel_rfl) ?_
                simp only [List.drop_succ_cons, List.drop_zero]
                have HBT := Lib.hid (up HBq.out hbT)
                have HBbT := Lib.hid (up HBb.out hbT)
                have HC := Lib.hid (rbad_any A n c P B m d K A8 E9.length c8 E9 T 2 (Hp.out.keep HBT.out) (Hg.out.keep HBT.out) HO8.out Hy.out HEl.out hE40)
                clear hbT hbt hO8 HO8 HIV HBd HKY HKR HI9
                cases hF : badB P K E9 2
                · rw [hF] at HC
                  have HQ3 : Hid (∀ j, j < q + 1 → badB P K (S.eraseIdx j) 2 = false) := Lib.hid (fun j hj => by
                    by_cases e : j = q
                    · subst e; rw [HE9.out]; exact hF
                    · exact Hq2.out j (by omega))
                  clear hF Hq2
                  go_wp2_with (go_at_call 98; refine HC.out.mono ?_; rintro e U ⟨rfl, hbu⟩; have HBU := Lib.hid (up HBbT.out hbu); clear hbu)
                  exact ⟨⟨q + 1, by omega, by go_num, HBU.out, HQ3.out⟩, by simp [intOf]; omega⟩
                · rw [hF] at HC
                  have HF : Hid (RB = false) := Lib.hid (by
                    rw [HS3.out, List.all_eq_false]
                    exact ⟨q, List.mem_range.2 hlq, by rw [HE9.out, hF]; decide⟩)
                  clear hF
                  go_wp2_with (go_at_call 98; refine HC.out.mono ?_; rintro e U ⟨rfl, hbu⟩; have HBU := Lib.hid (up HBT.out hbu); clear hbu)
                  go_ret
                  exact ⟨ret_bool HF.out.symm, HBU.out⟩
              · obtain rfl : q = S.length := by omega
                have HF : Hid (RB = true) := Lib.hid (by
                  rw [HS3.out, List.all_eq_true]
                  exact fun j hj => by rw [Hq2.out j (List.mem_range.1 hj)]; rfl)
                go_wp2
                go_ret
                exact ⟨ret_bool HF.out.symm, HBq.out⟩
        by_cases hk4 : kd = 4
        · subst hk4
          have HS2 : Hid (RB = (badB P K S 4 && (List.range S.length).all (fun i => !badB P K (S.eraseIdx i) 4))) := Lib.hid (by rw [← HS1.out]; rfl)
          have H98 : Hid (∀ V, Below X.heap.size X V → Calls Tryz.prog 98 #[.agg #[.slice A n c, .slice B m d], .slice A9 S.length c9, .int .i64 4] V fun e w' => e = .returned (.bool (badB P K S 4)) ∧ Below V.heap.size V w') := Lib.hid (fun V hV =>
            rbad_any A n c P B m d K A9 S.length c9 S V 4 (Hp.out.keep (up HBX.out hV)) (Hg.out.keep (up HBX.out hV)) (HIS.out.keep hV) Hy.out Hsl.out (by omega))
          cases hB : badB P K S 4
          · have HB9 := Lib.hid hB
            have HF : Hid (RB = false) := Lib.hid (by rw [HS2.out, hB]; rfl)
            clear hB HS2
            go_wp2_with (go_at_call 98; refine (H98.out _ (Below.refl _ _)).mono ?_; rintro e Y ⟨rfl, hby⟩; rw [HB9.out]; have HBY := Lib.hid (up HBX.out hby); clear hby)
            go_ret
            exact ⟨ret_bool HF.out.symm, HBY.out⟩
          · have HB9 := Lib.hid hB
            have HS3 : Hid (RB = (List.range S.length).all (fun i => !badB P K (S.eraseIdx i) 4)) := Lib.hid (by rw [HS2.out, hB]; rfl)
            clear hB HS2
            go_upto_region 20 with (go_at_call 98; refine (H98.out _ (Below.refl _ _)).mono ?_; rintro e Y ⟨rfl, hby⟩; rw [HB9.out]; have HBY := Lib.hid hby; have KYY := KYX.keep hby; have KRY := KRX.keep hby; clear hby KYXl KYXc KYXf KRXl KRXc KRXf; have KYYl := KYY.lt; have KYYc := KYY.get; have KYYf := KYY.fr; have KRYl := KRY.lt; have KRYc := KRY.get; have KRYf := KRY.fr)
            clear KYYl KYYc KYYf KRYl KRYc KRYf
            go_loopw [87] (fun i wv => ∃ (q : Nat), q ≤ S.length ∧ i = .int .i64 q ∧ Below X.heap.size X wv ∧ ∀ j, j < q → badB P K (S.eraseIdx j) 4 = false) (fun i _ => S.length - (intOf i).toNat)
            case atStart => exact ⟨0, by omega, rfl, HBY.out, fun j h => by omega⟩
            case round =>
              clear HBY KYY KRY
              obtain ⟨q, hq, rfl, hb, hq2⟩ := hrel
              have Hq2 := Lib.hid hq2
              have HBb := Lib.hid hb
              have HBq := Lib.hid (up HBX.out hb)
              have KYq := KYX.keep hb; have KRq := KRX.keep hb
              clear hb hq2
              by_cases hlq : q < S.length
              · obtain ⟨E9, hE9⟩ : ∃ E9, S.eraseIdx q = E9 := ⟨_, rfl⟩
                have HE9 := Lib.hid hE9
                have hE40 : E9.length ≤ 1000 := by have := List.length_eraseIdx_le (l := S) q; rw [hE9] at this; omega
                have HEl : Hid (lOk K E9 = true) := Lib.hid (by
                  rw [← hE9]
                  exact List.all_eq_true.2 fun x hx => (List.all_eq_true.1 Hsl.out) x ((List.eraseIdx_sublist S q).mem hx))
                clear hE9
                have HKY := Lib.hid KYq; have HKR := Lib.hid KRq
                have HI9 := Lib.hid (HIS.out.keep HBb.out)
                have KYql := KYq.lt; have KYqc := KYq.get; have KYqf := KYq.fr; have KRql := KRq.lt; have KRqc := KRq.get; have KRqf := KRq.fr
                go_upto_region 22 with fail
                refine wp_region_takesG 6 2 [0, 1, 2, 4, 5] (by kernel_rfl) (by kernel_rfl) (by kernel_rfl) (by kernel_rfl) (by decide) (fun d _ _ _ _ h => by cases d <;> exact h) (by kernel_rfl) rfl ?_
                refine wpTakes_step (v := .agg #[.slice A n c, .slice B m d]) rfl (by rfl) ?_ ?_
                · (rintro _ ⟨z9, rfl⟩; exact run_get 25 (.tmp 3) rfl rfl (cell_res (HKY.out.keep (grow_below _ z9)) Tryz.underlying25 rfl (by kernel_rfl)))
                simp only [Act.put, List.setIfInBounds_toArray, List.set_cons_zero, List.set_cons_succ]
                refine wpTakes_step (v := ?_) rfl (by rfl) ?_ ?_
                rotate_left
                · (rintro _ ⟨z9, rfl⟩; go_simp; try (with_reducible rfl))
                simp only [Act.put, List.setIfInBounds_toArray, List.set_cons_zero, List.set_cons_succ]
                refine wpTakes_step (v := ?_) rfl (by rfl) ?_ ?_
                rotate_left
                · (rintro _ ⟨z9, rfl⟩; go_simp; try (with_reducible rfl))
                simp only [Act.put, List.setIfInBounds_toArray, List.set_cons_zero, List.set_cons_succ]
                refine wpTakes_step (v := ?_) rfl (by rfl) ?_ ?_
                rotate_left
                · (rintro _ ⟨z9, rfl⟩; go_simp; try (with_reducible rfl))
                simp only [Act.put, List.setIfInBounds_toArray, List.set_cons_zero, List.set_cons_succ]
                refine wpTakes_step (v := .int .i64 4) rfl (by rfl) ?_ ?_
                · (rintro _ ⟨z9, rfl⟩; have h9 := (HKR.out.keep (grow_below wr z9)).get 0; go_simp; try (with_reducible rfl))
                simp only [Act.put, List.setIfInBounds_toArray, List.set_cons_zero, List.set_cons_succ]
                simp only [wpTakes]
                refine wpAnyT_step (i := 3) rfl (by kernel_rfl) rfl ?_
                have hbd : Below wr.heap.size wr wr.drew := by go_grown
                have HBd := Lib.hid hbd
                have HIV := Lib.hid (HI9.out.keep hbd)
                clear hbd KYql KYqc KYqf KRql KRqc KRqf
                go_wp2_with (go_at_call 91; refine (rwithout_any A9 S.length c9 S q _ HIV.out hlq hcl9 hcap9 (by omega)).mono ?_; rintro e T ⟨A8, c8, rfl, hO8, hbt⟩)
                rw [HE9.out] at hO8 ⊢
                have HO8 := Lib.hid hO8.isP
                have hbT := up HBd.out hbt
                refine ⟨below_grow hbT, ?_⟩
                refine wpAnyT_tail rfl (by kernel_rfl) (by kernel_rfl) ?_
                simp only [List.drop_succ_cons, List.drop_zero]
                have HBT := Lib.hid (up HBq.out hbT)
                have HBbT := Lib.hid (up HBb.out hbT)
                have HC := Lib.hid (rbad_any A n c P B m d K A8 E9.length c8 E9 T 4 (Hp.out.keep HBT.out) (Hg.out.keep HBT.out) HO8.out Hy.out HEl.out hE40)
                clear hbT hbt hO8 HO8 HIV HBd HKY HKR HI9
                cases hF : badB P K E9 4
                · rw [hF] at HC
                  have HQ3 : Hid (∀ j, j < q + 1 → badB P K (S.eraseIdx j) 4 = false) := Lib.hid (fun j hj => by
                    by_cases e : j = q
                    · subst e; rw [HE9.out]; exact hF
                    · exact Hq2.out j (by omega))
                  clear hF Hq2
                  go_wp2_with (go_at_call 98; refine HC.out.mono ?_; rintro e U ⟨rfl, hbu⟩; have HBU := Lib.hid (up HBbT.out hbu); clear hbu)
                  exact ⟨⟨q + 1, by omega, by go_num, HBU.out, HQ3.out⟩, by simp [intOf]; omega⟩
                · rw [hF] at HC
                  have HF : Hid (RB = false) := Lib.hid (by
                    rw [HS3.out, List.all_eq_false]
                    exact ⟨q, List.mem_range.2 hlq, by rw [HE9.out, hF]; decide⟩)
                  clear hF
                  go_wp2_with (go_at_call 98; refine HC.out.mono ?_; rintro e U ⟨rfl, hbu⟩; have HBU := Lib.hid (up HBT.out hbu); clear hbu)
                  go_ret
                  exact ⟨ret_bool HF.out.symm, HBU.out⟩
              · obtain rfl : q = S.length := by omega
                have HF : Hid (RB = true) := Lib.hid (by
                  rw [HS3.out, List.all_eq_true]
                  exact fun j hj => by rw [Hq2.out j (List.mem_range.1 hj)]; rfl)
                go_wp2
                go_ret
                exact ⟨ret_bool HF.out.symm, HBq.out⟩
        · have HF : Hid (RB = false) := Lib.hid (by
            rw [← HS1.out]; unfold rsnR
            rw [if_neg hk1, if_neg hk3, if_neg (fun h => h.elim hk2 hk4)])
          have q1 : (kd == 1) = false := by simpa using hk1
          have q2 : (kd == 2) = false := by simpa using hk2
          have q3 : (kd == 3) = false := by simpa using hk3
          have q4 : (kd == 4) = false := by simpa using hk4
          clear hk1 hk2 hk3 hk4
          go_wp2
          go_ret
          exact ⟨ret_bool HF.out.symm, HBX.out⟩
end
end Go.Proofs.YtifokapcobgjiaaGreat

namespace Go.Proofs.YtifokapcobgjiaaGreat
open Go Go.RowKit
set_option maxHeartbeats 4000000
set_option maxRecDepth 100000

section
variable (A : Option Addr) (n c : Nat) (P : List Int) (B : Option Addr) (m d : Nat) (K : List Kd) (L : Option Addr) (r s : Nat) (l : List Int) (w : World) (hp : Is w A n P) (hg : Ks w B m K) (hl : Is w L r l)
include hp hg hl
theorem rRefuse_any :
    Calls Tryz.prog 43 #[.agg #[.slice A n c, .slice B m d], .slice L r s] w fun e w' => ∃ v, e = .returned (.tuple #[.agg #[.int .i64 (refP P K l).1, v], .int .i64 (refE P K l)]) ∧ Lst 0 w' v (refP P K l).2 ∧ Below w.heap.size w w' := by
  by_cases h0 : sE P K l = 0
  · have := rRefuse_ok A n c P B m d K L r s l w h0 hp hg hl
    rwa [(rr_eq h0).1, (rr_eq h0).2] at this
  · have hne : (sE P K l != 0) = true := by simpa using h0
    have HE : Hid (refE P K l = sE P K l) := Lib.hid (by unfold refE; rw [if_neg h0])
    have HR : Hid (refP P K l = (0, [])) := Lib.hid (refP_no h0)
    have Hp := Lib.hid hp; have Hg := Lib.hid hg; have Hl := Lib.hid hl
    clear hp hg hl h0
    go_enter Tryz.func43, Tryz.ntmps43
    go_upto_region 1 with fail
    generalize hW : (World.alloc _ _) = W
    have HB : Hid (Below w.heap.size w W) := Lib.hid (by subst hW; go_grown)
    have KY : Bx W (w.heap.size) 25 [.slice A n c, .slice B m d] := by subst hW; repeat (first | (refine Bx.newAt _ _ _ ?_; first | rfl | (simp only [World.size_alloc]; done) | (simp only [World.size_alloc]; omega)) | refine Bx.old ?_ _)
    have KR : Bx W (w.heap.size + 1) 53 [.int .i64 0, .slice none 0 0] := by subst hW; repeat (first | (refine Bx.newAt _ _ _ ?_; first | rfl | (simp only [World.size_alloc]; done) | (simp only [World.size_alloc]; omega)) | refine Bx.old ?_ _)
    clear hW
    have KYl := KY.lt; have KYc := KY.get; have KYf := KY.fr; have KRl := KR.lt; have KRc := KR.get; have KRf := KR.fr
    go_wp2_with (first
      | (go_at_call 21; refine (rcheckSorts_any A n c P B m d K L r s l _ (Hp.out.keep HB.out) (Hg.out.keep HB.out) (Hl.out.keep HB.out)).mono ?_; rintro e X ⟨rfl, hbx⟩; have hYs := KR.lt; clear KRl KRc KRf; replace KR := KR.keep hbx; have KRl := KR.lt; have KRc := KR.get; have KRf := KR.fr; replace HB := Lib.hid (up HB.out hbx); clear hbx)
      | (refine wpList_put 53 4 15 rfl rfl KR rfl rfl (by kernel_rfl) rfl (by simp [Value.oneCell']) ?_; intro U2 KRn hp))
    rw [HR.out, HE.out]
    exact post_2 rfl rfl rfl KRn Tryz.underlying53 rfl (by kernel_rfl) (v := .int .i64 (sE P K l)) rfl ⟨_, rfl, Lst.nil _ _, upP HB.out hp (by omega)⟩
theorem rCheckRefusal_any (kd : Int) (C : Option Addr) (u v : Nat) (b : List Int) (hc : Is w C u b) :
    Calls Tryz.prog 47 #[.agg #[.slice A n c, .slice B m d], .slice L r s, .agg #[.int .i64 kd, .slice C u v]] w fun e w' => e = .returned (.int .i64 (rsnE P K l kd b)) ∧ Below w.heap.size w w' := by
  have Hp := Lib.hid hp; have Hg := Lib.hid hg; have Hl := Lib.hid hl; have Hc := Lib.hid hc
  clear hp hg hl hc
  by_cases h0 : sE P K l = 0
  · have hR : rsnE P K l kd b = if (risC l.length b && rsnR P K (someI l b) kd) = true then 0 else 54 := by
      obtain ⟨hy, h8, hlo⟩ := sE_0 h0
      obtain ⟨h5, hP, hK⟩ := yOk_k hy
      unfold rsnE
      rw [if_pos h0]
      cases hr : risC l.length b
      · rfl
      · rw [if_pos rfl, Bool.true_and, rsnR_eq hK hlo (risC_iff.1 hr).2.1]
        rfl
    have HR := Lib.hid hR
    have H0 := Lib.hid h0
    have H107 : Hid (∀ V, Below w.heap.size w V → Calls Tryz.prog 107 #[.agg #[.slice A n c, .slice B m d], .slice L r s, .agg #[.int .i64 kd, .slice C u v]] V fun e w' => e = .returned (.bool (risC l.length b && rsnR P K (someI l b) kd)) ∧ Below V.heap.size V w') := Lib.hid (fun V hV =>
      risReason_any A n c P B m d K L r s l C u v b V (Hp.out.keep hV) (Hg.out.keep hV) (Hl.out.keep hV) (Hc.out.keep hV) h0 kd)
    rw [hR]
    clear h0 hR
    generalize (risC l.length b && rsnR P K (someI l b) kd) = BB at *
    go_enter Tryz.func47, Tryz.ntmps47
    go_upto_region 1 with fail
    generalize hW : (World.alloc _ _) = W
    have HB : Hid (Below w.heap.size w W) := Lib.hid (by subst hW; go_grown)
    have KY : Bx W (w.heap.size) 25 [.slice A n c, .slice B m d] := by subst hW; repeat (first | (refine Bx.newAt _ _ _ ?_; first | rfl | (simp only [World.size_alloc]; done) | (simp only [World.size_alloc]; omega)) | refine Bx.old ?_ _)
    have KS : Bx W (w.heap.size + 1) 53 [.int .i64 kd, .slice C u v] := by subst hW; repeat (first | (refine Bx.newAt _ _ _ ?_; first | rfl | (simp only [World.size_alloc]; done) | (simp only [World.size_alloc]; omega)) | refine Bx.old ?_ _)
    clear hW
    have KYl := KY.lt; have KYc := KY.get; have KYf := KY.fr; have KSl := KS.lt; have KSc := KS.get; have KSf := KS.fr
    cases BB
    all_goals
      go_wp2_with (first
        | (go_at_call 21; refine (rcheckSorts_any A n c P B m d K L r s l _ (Hp.out.keep HB.out) (Hg.out.keep HB.out) (Hl.out.keep HB.out)).mono ?_; rintro e X ⟨rfl, hbx⟩; rw [H0.out]; clear KYl KYc KYf; replace KY := KY.keep hbx; have KYl := KY.lt; have KYc := KY.get; have KYf := KY.fr; clear KSl KSc KSf; replace KS := KS.keep hbx; have KSl := KS.lt; have KSc := KS.get; have KSf := KS.fr; replace HB := Lib.hid (up HB.out hbx); clear hbx)
        | (go_at_call 107; refine (H107.out _ HB.out).mono ?_; rintro e X2 ⟨rfl, hbx⟩; clear KYl KYc KYf; replace KY := KY.keep hbx; have KYl := KY.lt; have KYc := KY.get; have KYf := KY.fr; replace HB := Lib.hid (up HB.out hbx); clear hbx))
      go_ret
      exact ⟨rfl, HB.out⟩
  · have HR : Hid (rsnE P K l kd b = sE P K l) := Lib.hid (by unfold rsnE; rw [if_neg h0])
    have hne : (sE P K l != 0) = true := by simpa using h0
    rw [HR.out]
    clear h0 HR
    go_enter Tryz.func47, Tryz.ntmps47
    go_upto_region 1 with fail
    generalize hW : (World.alloc _ _) = W
    have HB : Hid (Below w.heap.size w W) := Lib.hid (by subst hW; go_grown)
    have KY : Bx W (w.heap.size) 25 [.slice A n c, .slice B m d] := by subst hW; repeat (first | (refine Bx.newAt _ _ _ ?_; first | rfl | (simp only [World.size_alloc]; done) | (simp only [World.size_alloc]; omega)) | refine Bx.old ?_ _)
    have KS : Bx W (w.heap.size + 1) 53 [.int .i64 kd, .slice C u v] := by subst hW; repeat (first | (refine Bx.newAt _ _ _ ?_; first | rfl | (simp only [World.size_alloc]; done) | (simp only [World.size_alloc]; omega)) | refine Bx.old ?_ _)
    clear hW
    have KYl := KY.lt; have KYc := KY.get; have KYf := KY.fr; have KSl := KS.lt; have KSc := KS.get; have KSf := KS.fr
    go_wp2_with (go_at_call 21; refine (rcheckSorts_any A n c P B m d K L r s l _ (Hp.out.keep HB.out) (Hg.out.keep HB.out) (Hl.out.keep HB.out)).mono ?_; rintro e X ⟨rfl, hbx⟩; clear KYl KYc KYf; replace KY := KY.keep hbx; have KYl := KY.lt; have KYc := KY.get; have KYf := KY.fr; clear KSl KSc KSf; replace KS := KS.keep hbx; have KSl := KS.lt; have KSc := KS.get; have KSf := KS.fr; replace HB := Lib.hid (up HB.out hbx); clear hbx)
    go_ret
    exact ⟨rfl, HB.out⟩
end
end Go.Proofs.YtifokapcobgjiaaGreat

namespace Go.Proofs.YtifokapcobgjiaaGreat
open Go Go.RowKit
set_option maxHeartbeats 8000000
set_option maxRecDepth 100000

/-- The first in at most so many pens. -/
def hitL (M : Nat) (q : List (List Int)) : Option (List Int) := q.find? fun x => decide (usd x ≤ (M : Int))
theorem usdK_ap2 (p t : List Int) : ∀ k, k ≤ p.length → usdK (p ++ t) k = usdK p k := by
  intro k
  induction k with
  | zero => intro _; rfl
  | succ k ih =>
    intro hk
    have e1 : (p ++ t).getD k 0 = p.getD k 0 := by rw [List.getD_eq_getElem?_getD, List.getD_eq_getElem?_getD, List.getElem?_append_left (by omega)]
    have e2 : (p ++ t).take k = p.take k := List.take_append_of_le_length (by omega)
    rw [usdK, usdK, e1, e2, ih (by omega)]
theorem usdK_mono (p : List Int) : ∀ j k, usdK p k ≤ usdK p (k + j) := by
  intro j
  induction j with
  | zero => intro k; exact Int.le_refl _
  | succ j ih =>
    intro k
    have h := ih k
    have : usdK p (k + j) ≤ usdK p (k + j + 1) := by rw [usdK]; split <;> omega
    rw [show k + (j + 1) = k + j + 1 by omega]; omega
theorem usd_ap2 (p t : List Int) : usd p ≤ usd (p ++ t) := by
  unfold usd
  rw [← usdK_ap2 p t p.length (Nat.le_refl _), List.length_append]
  exact usdK_mono _ _ _
theorem hit_over {P : List Int} {K : List Kd} {l p st : List Int} {M : Nat} (h : (M : Int) < usd p) : hitL M (cmpL P K l p st) = none := by
  unfold hitL
  rw [List.find?_eq_none]
  intro x hx
  unfold cmpL at hx
  obtain ⟨t, _, rfl⟩ := List.mem_map.1 hx
  have := usd_ap2 p t
  simp; omega
/-- None of the first k numbers is x. -/
def freshI (p : List Int) (x : Int) (k : Nat) : Bool := (p.take k).all (· != x)
theorem freshI_succ {p : List Int} {x : Int} {k : Nat} (hk : k < p.length) : freshI p x (k + 1) = (freshI p x k && (p[k] != x)) := by
  unfold freshI
  rw [List.take_succ_eq_append_getElem hk, List.all_append]; simp
theorem freshI_mem {p : List Int} {x : Int} {k : Nat} : freshI p x k = !decide (x ∈ p.take k) := by
  unfold freshI
  rw [Bool.eq_iff_iff]
  simp [List.all_eq_true]
  constructor
  · intro h hx; exact h x hx rfl
  · intro h y hy e; subst e; exact h hy
theorem rUsed_any (L : Option Addr) (r s : Nat) (p : List Int) (w : World) (hl : Is w L r p) :
    Calls Tryz.prog 61 #[.slice L r s] w fun e w' => e = .returned (.int .i64 (usd p)) ∧ Below w.heap.size w w' := by
  have hn := hl.small
  have Hn : Hid (r = p.length) := Lib.hid hl.len
  have Hl := Lib.hid hl
  clear hl
  go_enter Tryz.func61, Tryz.ntmps61
  go_wp2_with fail
  go_loopw [3, 9] (fun v i wr => ∃ (k : Nat), k ≤ r ∧ i = .int .i64 k ∧ v = .int .i64 (usdK p k) ∧ Below w.heap.size w wr) (fun _ i _ => r - (intOf i).toNat)
  case atStart => exact ⟨0, by omega, rfl, rfl, Below.refl _ _⟩
  case round =>
    obtain ⟨k, hk, rfl, rfl, hb⟩ := hrel
    have HB := Lib.hid hb
    clear hb
    by_cases hlt : k < r
    · have hkl : k < p.length := by rw [← Hn.out]; exact hlt
      have HK : Hid (usdK p (k + 1) = if freshI p p[k] k = true then usdK p k + 1 else usdK p k) := Lib.hid (by
        rw [usdK, freshI_mem, show p.getD k 0 = p[k] by simp [hkl]]
        by_cases e : p[k] ∈ p.take k <;> simp [e])
      have hui := usdK_in p k
      have Hx : Hid (∃ x, x = p[k]) := Lib.hid ⟨_, rfl⟩
      go_wp2_with fail
      go_loopw [5, 6] (fun f j wr => ∃ (q : Nat), q ≤ k ∧ j = .int .i64 q ∧ f = .bool (freshI p p[k] q) ∧ Below w.heap.size w wr) (fun _ j _ => k - (intOf j).toNat)
      case atStart => exact ⟨0, by omega, rfl, rfl, HB.out⟩
      case round =>
        clear HB
        obtain ⟨q, hq, rfl, rfl, hb⟩ := hrel
        have HB := Lib.hid hb
        clear hb
        by_cases hqk : q < k
        · have hql : q < p.length := by omega
          have hqr : q < r := by omega
          have HF : Hid (freshI p p[k] (q + 1) = (freshI p p[k] q && (p[q] != p[k]))) := Lib.hid (freshI_succ hql)
          obtain ⟨b1, o1, rfl, hb1, hc1⟩ := (Hl.out.keep HB.out).get q hql
          obtain ⟨b2, o2, e2, hb2, hc2⟩ := (Hl.out.keep HB.out).get k hkl
          cases e2
          generalize freshI p p[k] q = f at *
          generalize hy : p[q] = y at hc1 HF
          generalize hx : p[k] = x at hc2 HF ⊢
          cases f
          all_goals
            go_upto_region 9 with fail
            refine wp_region_grow (by kernel_rfl) (by kernel_rfl) ?_
            repeat (go_big_quiet_step ((fail)))
            refine wpQuiet_nil ?_
            intro z
            have hb3 := grow_below wr z
            generalize grow wr z = Y at *
            replace HB := Lib.hid (up HB.out hb3)
            clear hc1 hc2 hb1 hb2 hb3
            go_wp2
            exact ⟨⟨q + 1, by omega, by go_num, by rw [HF.out]; rfl, HB.out⟩, by simp [intOf]; omega⟩
        · obtain rfl : q = k := by omega
          cases hF : freshI p p[q] q
          · have HK2 : Hid (usdK p (q + 1) = usdK p q) := Lib.hid (by rw [HK.out, hF]; rfl)
            clear hF
            go_wp2
            exact ⟨⟨q + 1, by omega, by go_num, by rw [HK2.out], HB.out⟩, by simp [intOf]; omega⟩
          · have HK2 : Hid (usdK p (q + 1) = usdK p q + 1) := Lib.hid (by rw [HK.out, hF]; rfl)
            clear hF
            go_wp2
            exact ⟨⟨q + 1, by omega, by go_num, by rw [HK2.out], HB.out⟩, by simp [intOf]; omega⟩
    · obtain rfl : k = r := by omega
      have HK : Hid (usdK p k = usd p) := Lib.hid (by unfold usd; rw [Hn.out])
      go_wp2
      go_ret
      exact ⟨ret_int HK.out, HB.out⟩
section
variable (A : Option Addr) (n c : Nat) (P : List Int) (B : Option Addr) (m d : Nat) (K : List Kd) (L : Option Addr) (r s : Nat) (l : List Int)
theorem rfewer_any (h5 : P.length ≤ 5) (hK : ksOk K = true) (hlo : lOk K l = true) (h40 : l.length ≤ 1000) (M D : Nat) :
    ∀ (F : Nat) (C : Option Addr) (u v : Nat) (p st : List Int) (w : World), l.length - p.length ≤ F → Beg P K l p st → Is w A n P → Ks w B m K → Is w L r l → Is w C u p → (u ≤ v ∧ v ≤ 9223372036854775807) → D ≤ w.heap.size → (∀ q, C = some q → D ≤ q.block) →
    Calls Tryz.prog 101 #[.agg #[.slice A n c, .slice B m d], .slice L r s, .slice C u v, .int .i64 (M : Int)] w fun e w' => ∃ y, e = .returned (.tuple #[y, .bool (hitL M (cmpL P K l p st)).isSome]) ∧ Lst D w' y ((hitL M (cmpL P K l p st)).getD []) ∧ Below w.heap.size w w' := by
  intro F
  have HK := Lib.hid hK; have HL := Lib.hid hlo
  clear hK hlo
  have Over : ∀ (C : Option Addr) (u v : Nat) (p st : List Int) (w : World), (M : Int) < usd p → Is w C u p →
      Calls Tryz.prog 101 #[.agg #[.slice A n c, .slice B m d], .slice L r s, .slice C u v, .int .i64 (M : Int)] w fun e w' => ∃ y, e = .returned (.tuple #[y, .bool (hitL M (cmpL P K l p st)).isSome]) ∧ Lst D w' y ((hitL M (cmpL P K l p st)).getD []) ∧ Below w.heap.size w w' := by
    intro C u v p st w hov hc
    have HO : Hid (hitL M (cmpL P K l p st) = none) := Lib.hid (hit_over hov)
    have Hc := Lib.hid hc
    rw [HO.out]
    clear hc HO
    generalize hus : usd p = us at *
    have Hus := Lib.hid hus
    clear hus
    go_enter Tryz.func101, Tryz.ntmps101
    go_upto_region 1 with fail
    generalize hW : (World.alloc _ _) = W
    have HB : Hid (Below w.heap.size w W) := Lib.hid (by subst hW; go_grown)
    have KY : Bx W (w.heap.size) 25 [.slice A n c, .slice B m d] := by subst hW; repeat (first | (refine Bx.newAt _ _ _ ?_; first | rfl | (simp only [World.size_alloc]; done) | (simp only [World.size_alloc]; omega)) | refine Bx.old ?_ _)
    clear hW
    have KYl := KY.lt; have KYc := KY.get; have KYf := KY.fr
    go_wp2_with (go_at_call 61; refine (rUsed_any C u v p _ (Hc.out.keep HB.out)).mono ?_; rintro e X ⟨rfl, hbx⟩; rw [Hus.out]; have HBX := Lib.hid (up HB.out hbx); clear hbx)
    go_ret2
    exact ⟨_, rfl, Lst.nil _ _, HBX.out⟩
  have Leaf : ∀ (C : Option Addr) (u v : Nat) (p st : List Int) (w : World), ¬ (M : Int) < usd p → p.length = l.length → Is w L r l → Is w C u p → (u ≤ v ∧ v ≤ 9223372036854775807) → (∀ q, C = some q → D ≤ q.block) →
      Calls Tryz.prog 101 #[.agg #[.slice A n c, .slice B m d], .slice L r s, .slice C u v, .int .i64 (M : Int)] w fun e w' => ∃ y, e = .returned (.tuple #[y, .bool (hitL M (cmpL P K l p st)).isSome]) ∧ Lst D w' y ((hitL M (cmpL P K l p st)).getD []) ∧ Below w.heap.size w w' := by
    intro C u v p st w hov hpl hl hc huv hD
    have HO : Hid (hitL M (cmpL P K l p st) = some p) := Lib.hid (by rw [cmp_end hpl]; unfold hitL; rw [List.find?_cons_of_pos (by simp; omega)])
    have Hc := Lib.hid hc
    have hur : ((u : Int) == (r : Int)) = true := by have := hl.len; have := hc.len; simp; omega
    have HD := Lib.hid hD
    rw [HO.out]
    clear hc HO hl hpl hD
    generalize hus : usd p = us at *
    have Hus := Lib.hid hus
    clear hus
    go_enter Tryz.func101, Tryz.ntmps101
    go_upto_region 1 with fail
    generalize hW : (World.alloc _ _) = W
    have HB : Hid (Below w.heap.size w W) := Lib.hid (by subst hW; go_grown)
    have KY : Bx W (w.heap.size) 25 [.slice A n c, .slice B m d] := by subst hW; repeat (first | (refine Bx.newAt _ _ _ ?_; first | rfl | (simp only [World.size_alloc]; done) | (simp only [World.size_alloc]; omega)) | refine Bx.old ?_ _)
    clear hW
    have KYl := KY.lt; have KYc := KY.get; have KYf := KY.fr
    go_wp2_with (go_at_call 61; refine (rUsed_any C u v p _ (Hc.out.keep HB.out)).mono ?_; rintro e X ⟨rfl, hbx⟩; rw [Hus.out]; have HBX := Lib.hid (up HB.out hbx); clear hbx)
    go_ret2
    exact ⟨_, rfl, ⟨C, u, v, rfl, huv, Hc.out.keep HBX.out, HD.out⟩, HBX.out⟩
  induction F with
  | zero =>
    intro C u v p st w hF hb hA hg hl hc huv hD hCD
    by_cases hov : (M : Int) < usd p
    · exact Over C u v p st w hov hc
    · exact Leaf C u v p st w hov (by have := hb.len; omega) hl hc huv hCD
  | succ F ih =>
    intro C u v p st w hF hb hA hg hl hc huv hD hCD
    by_cases hov : (M : Int) < usd p
    · exact Over C u v p st w hov hc
    by_cases hend : p.length = l.length
    · exact Leaf C u v p st w hov hend hl hc huv hCD
    clear Over Leaf
    have hpl : p.length < l.length := by have := hb.len; omega
    obtain rfl : u = p.length := hc.len
    have him : ((p.length : Int) == (r : Int)) = false := by have := hl.len; simp; omega
    have Hb := Lib.hid hb; have Ih := Lib.hid ih
    have Hn : Hid (n = P.length) := Lib.hid hA.len
    have HA := Lib.hid hA; have Hg := Lib.hid hg; have Hl := Lib.hid hl; have Hc := Lib.hid hc
    have hnx := hA.small
    have Hend := Lib.hid hend
    obtain ⟨CW, hCW⟩ : ∃ CW, hitL M (cmpL P K l p st) = CW := ⟨_, rfl⟩
    have HCW := Lib.hid hCW
    rw [hCW]
    have Hpl := Lib.hid hpl
    obtain ⟨us, hus⟩ : ∃ us, usd p = us := ⟨_, rfl⟩
    have Hus := Lib.hid hus
    rw [hus] at hov
    have hlp : p.length ≤ 1000 := by omega
    clear hb ih hA hg hl hc hend hCW hus hCD
    go_enter Tryz.func101, Tryz.ntmps101
    go_upto_region 1 with fail
    generalize hW : (World.alloc _ _) = W
    have HB : Hid (Below w.heap.size w W) := Lib.hid (by subst hW; go_grown)
    have KY : Bx W (w.heap.size) 25 [.slice A n c, .slice B m d] := by subst hW; repeat (first | (refine Bx.newAt _ _ _ ?_; first | rfl | (simp only [World.size_alloc]; done) | (simp only [World.size_alloc]; omega)) | refine Bx.old ?_ _)
    clear hW
    have KYl := KY.lt; have KYc := KY.get; have KYf := KY.fr
    go_upto_region 6 with (go_at_call 61; refine (rUsed_any C p.length v p _ (Hc.out.keep HB.out)).mono ?_; rintro e X0 ⟨rfl, hbx⟩; rw [Hus.out]; clear KYl KYc KYf; replace KY := KY.keep hbx; have KYl := KY.lt; have KYc := KY.get; have KYf := KY.fr; replace HB := Lib.hid (up HB.out hbx); clear hbx)
    clear KYl KYc KYf
    go_loopw [26] (fun i wr => ∃ (q : Nat), q ≤ n ∧ i = .int .i64 (q : Int) ∧ hitL M (cmpQ P K l p st q) = none ∧ Below w.heap.size w wr ∧ Bx wr w.heap.size 25 [.slice A n c, .slice B m d]) (fun i _ => n - (intOf i).toNat)
    case atStart => exact ⟨0, by omega, rfl, by rw [cmpQ_0]; rfl, HB.out, KY⟩
    case round =>
      clear KY HB
      obtain ⟨q, hq, rfl, hno, hb, KY⟩ := hrel
      have HB := Lib.hid hb; have Hno := Lib.hid hno
      clear hb hno
      by_cases hqn : q < n
      · have hqP : q < P.length := by rw [← Hn.out]; exact hqn
        have KYl := KY.lt; have KYc := KY.get; have KYf := KY.fr
        cases hf : fitS P K l p p.length q
        · have HQ : Hid (cmpQ P K l p st (q + 1) = cmpQ P K l p st q) := Lib.hid (cmpQ_no h5 HK.out HL.out Hb.out hpl hqP hf)
          have Hf := Lib.hid hf
          clear hf
          go_wp2_with (go_at_call 86; refine (rfits_b A n c P B m d K L r s l C p.length v p _ (HA.out.keep HB.out) (Hg.out.keep HB.out) (Hl.out.keep HB.out) (Hc.out.keep HB.out) p.length q false HK.out HL.out hpl (Nat.le_of_lt hpl) hqP h40 Hf.out).mono ?_; rintro e X ⟨rfl, hbx⟩; clear KYl KYc KYf; replace KY := KY.keep hbx; have KYl := KY.lt; have KYc := KY.get; have KYf := KY.fr; replace HB := Lib.hid (up HB.out hbx); clear hbx)
          exact ⟨⟨q + 1, by omega, by go_num, by rw [HQ.out]; exact Hno.out, HB.out, KY⟩, by simp [intOf]; omega⟩
        · have hs2 := cmpQ_yes h5 HK.out HL.out Hb.out hpl hqP hf
          have Hb2 := Lib.hid hs2.1; have HQ := Lib.hid hs2.2
          have Hf := Lib.hid hf
          clear hf hs2
          generalize addS st (kdD K (l.getD p.length 0)) q = st2 at *
          go_upto_region 9 with (go_at_call 86; refine (rfits_b A n c P B m d K L r s l C p.length v p _ (HA.out.keep HB.out) (Hg.out.keep HB.out) (Hl.out.keep HB.out) (Hc.out.keep HB.out) p.length q true HK.out HL.out hpl (Nat.le_of_lt hpl) hqP h40 Hf.out).mono ?_; rintro e X ⟨rfl, hbx⟩; clear KYl KYc KYf; replace KY := KY.keep hbx; have KYl := KY.lt; have KYc := KY.get; have KYf := KY.fr; replace HB := Lib.hid (up HB.out hbx); clear hbx)
          clear KYl KYc KYf
          obtain ⟨i0, hi0, hz0, hz1, hz2⟩ := info_parts info3
          have HI0 := Lib.hid hi0; have HZ0 := Lib.hid hz0; have HZ1 := Lib.hid hz1
          clear hi0 hz0 hz1 hz2
          have HKY := Lib.hid KY
          clear KY
          have hXw := HB.out.size
          obtain ⟨HT, hHT⟩ : ∃ HT, hitL M (cmpL P K l (p ++ [(q : Int)]) st2) = HT := ⟨_, rfl⟩
          have HHT := Lib.hid hHT
          clear hHT
          refine wp_midP (fun b : Value × Value × Value × Value × Value => [(38, .agg #[.slice A n c, .slice B m d]), (39, .slice L r s), (40, b.1), (41, .slice C p.length v), (42, b.2.1), (43, .int .i64 (q : Int)), (44, b.2.2.1), (45, b.2.2.2.1), (46, .int .i64 (M : Int)), (47, .tuple #[b.2.2.2.2, .bool HT.isSome]), (37, .tuple #[b.2.2.2.2, .bool HT.isSome]), (48, b.2.2.2.2), (49, .bool HT.isSome), (11, b.2.2.2.2), (12, .bool HT.isSome)])
            (fun b w' => Lst D w' b.2.2.2.2 (HT.getD []) ∧ Below X.heap.size X w') ?_ ?_
          · have Ih2 : Hid (∀ (C : Option Addr) (u v : Nat) (p2 st' : List Int) (w : World), p2 = p ++ [(q : Int)] → st' = st2 → l.length - p2.length ≤ F → Beg P K l p2 st' → Is w A n P → Ks w B m K → Is w L r l → Is w C u p2 → (u ≤ v ∧ v ≤ 9223372036854775807) → D ≤ w.heap.size → (∀ q, C = some q → D ≤ q.block) →
                Calls Tryz.prog 101 #[.agg #[.slice A n c, .slice B m d], .slice L r s, .slice C u v, .int .i64 (M : Int)] w fun e w' => ∃ y, e = .returned (.tuple #[y, .bool HT.isSome]) ∧ Lst D w' y (HT.getD []) ∧ Below w.heap.size w w') := Lib.hid (fun C u v p2 st' w e1 e2 g1 g2 g3 g4 g5 g6 g7 g8 g9 => by
              subst e1; subst e2
              have := Ih.out C u v _ _ w g1 g2 g3 g4 g5 g6 g7 g8 g9
              rwa [HHT.out] at this)
            refine wp_region_takesG 14 10 [0, 1, 3, 5, 8] (by kernel_rfl) (by kernel_rfl) (by kernel_rfl) (by kernel_rfl) (by decide) (fun _ _ _ _ _ h => by cases h.1) (by kernel_rfl) rfl ?_
            refine wpTakes_step (v := .agg #[.slice A n c, .slice B m d]) rfl (by rfl) ?_ ?_
            · (rintro _ ⟨z9, rfl⟩; exact run_get 25 (.tmp 4) rfl rfl (cell_res (HKY.out.keep (grow_below X z9)) Tryz.underlying25 rfl (by kernel_rfl)))
            simp only [Act.put, List.setIfInBounds_toArray, List.set_cons_zero, List.set_cons_succ]
            refine wpTakes_step (v := ?_) rfl (by rfl) ?_ ?_
            rotate_left
            · (rintro _ ⟨z9, rfl⟩; go_simp; try (with_reducible rfl))
            simp only [Act.put, List.setIfInBounds_toArray, List.set_cons_zero, List.set_cons_succ]
            refine wpTakes_step (v := ?_) rfl (by rfl) ?_ ?_
            rotate_left
            · (rintro _ ⟨z9, rfl⟩; go_simp; try (with_reducible rfl))
            simp only [Act.put, List.setIfInBounds_toArray, List.set_cons_zero, List.set_cons_succ]
            refine wpTakes_step (v := ?_) rfl (by rfl) ?_ ?_
            rotate_left
            · (rintro _ ⟨z9, rfl⟩; go_simp; try (with_reducible rfl))
            simp only [Act.put, List.setIfInBounds_toArray, List.set_cons_zero, List.set_cons_succ]
            refine wpTakes_step (v := ?_) rfl (by rfl) ?_ ?_
            rotate_left
            · (rintro _ ⟨z9, rfl⟩; go_simp; try (with_reducible rfl))
            simp only [Act.put, List.setIfInBounds_toArray, List.set_cons_zero, List.set_cons_succ]
            simp only [wpTakes]
            refine wpAnyT_step2 (i := 2) (j := 6) (by kernel_rfl) rfl rfl rfl rfl ?_ ?_
            · refine makes_grown (makes_slice Tryz.underlying22 HI0.out HZ0.out rfl (by rw [HZ1.out]; decide)) (below_grow (show Below X.heap.size X X.drew by go_grown)) ?_
              go_wp2_with fail
              have b1 := up_alloc X (.cells #[] 3)
              have o1 : OI (X.alloc (.cells #[] 3)) X.heap.size (.slice (some ⟨X.heap.size, 0, none⟩) 0 0) [] := ⟨World.ownsRow_made X #[] 0 (Nat.le_refl _) (by unfold maxLen; omega) rfl⟩
              have hs1 : X.heap.size < (X.alloc (.cells #[] 3)).heap.size := by simp
              generalize X.alloc (.cells #[] 3) = V0 at *
              have b2 : Below V0.heap.size V0 V0.drew := by go_grown
              replace o1 := o1.keep b2
              have bV1 := up b1 b2
              have hs2 : X.heap.size < V0.drew.heap.size := by have := b2.size; omega
              generalize V0.drew = V1 at *
              clear b1 b2 hs1
              refine wpAnyT_step2 (i := 4) (j := 6) (by kernel_rfl) rfl rfl rfl rfl ?_ ?_
              · refine wp_appAnyD o1 42 rfl (.tmp 40) (.tmp 41) rfl rfl rfl ((Hc.out.keep HB.out).keep bV1) (by simp; omega) (by omega) ?_
                intro A2 c2 V2 o2 bb2
                have bV2 := bV1.trans bb2
                clear o1 bb2 bV1
                refine ⟨below_grow bV2, ?_⟩
                simp only [Act.put, List.setIfInBounds_toArray, List.set_cons_zero, List.set_cons_succ]
                simp only [List.nil_append] at o2 ⊢
                refine wpAnyT_step (i := 6) rfl (by kernel_rfl) rfl ?_
                refine makes_grown (makes_slice Tryz.underlying22 HI0.out HZ0.out rfl (by rw [HZ1.out]; decide)) (below_grow bV2) ?_
                go_wp2_with fail
                have b6 := up_alloc V2 (.cells #[.int .i64 (q : Int)] 3)
                have i6 : Is (V2.alloc (.cells #[.int .i64 (q : Int)] 3)) (some ⟨V2.heap.size, 0, none⟩) 1 [(q : Int)] := isC V2 3 [(q : Int)] (by simp)
                generalize V2.alloc (.cells #[.int .i64 (q : Int)] 3) = V6 at *
                have o3 := o2.keep b6
                have bV3 := up bV2 b6
                clear o2 b6 bV2
                refine wpAnyT_step (i := 7) rfl (by kernel_rfl) rfl ?_
                refine wp_appAnyD o3 45 rfl (.tmp 42) (.tmp 44) rfl rfl rfl i6 (by simp; omega) bV3.size ?_
                intro A9 c9 V9 o9 bb9
                have bV9 := bV3.trans bb9
                clear o3 bb9 bV3
                refine ⟨below_grow bV9, ?_⟩
                simp only [Act.put, List.setIfInBounds_toArray, List.set_cons_zero, List.set_cons_succ]
                try simp only [List.nil_append] at o9
                refine wpAnyT_step (i := 9) rfl (by kernel_rfl) rfl ?_
                have HBY := Lib.hid (up HB.out bV9)
                have his := o9.isP
                have hcl := o9.capL.1
                have hcp := o9.cap
                have hfr := o9.capL.2
                rw [show (p ++ [(q : Int)]).length = p.length + 1 by simp] at his hcl
                have HC := Lib.hid (Ih2.out A9 (p.length + 1) c9 (p ++ [(q : Int)]) st2 V9 rfl rfl (by simp; omega) Hb2.out (HA.out.keep HBY.out) (Hg.out.keep HBY.out) (Hl.out.keep HBY.out) his ⟨hcl, hcp⟩ (by have := HBY.out.size; omega) (fun q9 hq9 => by have := hfr q9 hq9; omega))
                have Hb9 := Lib.hid bV9
                clear o9 his hcl hcp hfr bV9
                go_wp2_with (go_at_call 101; refine HC.out.mono ?_; rintro e Z ⟨y, rfl, hy, hbz⟩)
                have hbZ := Hb9.out.trans (hbz.mono Hb9.out.size)
                have hgr := below_grow hbZ
                refine ⟨hgr, ?_⟩
                refine wpAnyT_step (i := 10) rfl (by kernel_rfl) rfl ?_
                go_wp2_with fail
                refine ⟨hgr, ?_⟩
                refine wpAnyT_step2 (i := 11) (j := 12) (by kernel_rfl) rfl rfl rfl rfl ?_ ?_
                · go_wp2_with fail
                  refine ⟨hgr, ?_⟩
                  refine wpAnyT_step2 (i := 12) (j := 13) (by kernel_rfl) rfl rfl rfl rfl ?_ ?_
                  · go_wp2_with fail
                    refine ⟨hgr, ?_⟩
                    refine wpAnyT_step (i := 13) rfl (by kernel_rfl) rfl ?_
                    go_wp2_with fail
                    refine ⟨hgr, ?_⟩
                    refine wpAnyT_tail rfl (by kernel_rfl) (by kernel_rfl) ?_
                    simp only [List.drop_succ_cons, List.drop_zero]
                    go_wp2
                    exact ⟨_, _, _, _, y, by (simp only [puts, Act.put, List.setIfInBounds_toArray, List.set_cons_zero, List.set_cons_succ] <;> rfl), hy⟩
                  · go_wp2_with fail
                    refine ⟨hgr, ?_⟩
                    refine wpAnyT_step (i := 12) rfl (by kernel_rfl) rfl ?_
                    go_wp2_with fail
                    refine ⟨hgr, ?_⟩
                    refine wpAnyT_tail rfl (by kernel_rfl) (by kernel_rfl) ?_
                    simp only [List.drop_succ_cons, List.drop_zero]
                    go_wp2
                    exact ⟨_, _, _, _, y, by (simp only [puts, Act.put, List.setIfInBounds_toArray, List.set_cons_zero, List.set_cons_succ] <;> rfl), hy⟩
                · go_wp2_with fail
                  refine ⟨hgr, ?_⟩
                  refine wpAnyT_step (i := 11) rfl (by kernel_rfl) rfl ?_
                  go_wp2_with fail
                  refine ⟨hgr, ?_⟩
                  refine wpAnyT_step (i := 13) rfl (by kernel_rfl) rfl ?_
                  go_wp2_with fail
                  refine ⟨hgr, ?_⟩
                  refine wpAnyT_tail rfl (by kernel_rfl) (by kernel_rfl) ?_
                  simp only [List.drop_succ_cons, List.drop_zero]
                  go_wp2
                  exact ⟨_, _, _, _, y, by (simp only [puts, Act.put, List.setIfInBounds_toArray, List.set_cons_zero, List.set_cons_succ] <;> rfl), hy⟩
              · refine makes_grown (makes_slice Tryz.underlying22 HI0.out HZ0.out rfl (by rw [HZ1.out]; decide)) (below_grow bV1) ?_
                go_wp2_with fail
                have b6 := up_alloc V1 (.cells #[.int .i64 (q : Int)] 3)
                have i6 : Is (V1.alloc (.cells #[.int .i64 (q : Int)] 3)) (some ⟨V1.heap.size, 0, none⟩) 1 [(q : Int)] := isC V1 3 [(q : Int)] (by simp)
                generalize V1.alloc (.cells #[.int .i64 (q : Int)] 3) = V6 at *
                have o2 := o1.keep b6
                have bV2 := up bV1 b6
                clear o1 b6
                refine wpAnyT_step (i := 4) rfl (by kernel_rfl) rfl ?_
                refine wp_appAnyG o2 42 rfl (.tmp 40) (.tmp 41) rfl rfl rfl ((Hc.out.keep HB.out).keep bV2) (by simp; omega) bV2.size ?_
                intro A2 c2 V3 o3 bb3 hk3
                have i7 : Is V3 (some ⟨V1.heap.size, 0, none⟩) 1 [(q : Int)] := i6.off bb3.size (fun pp e hlt => by cases e; exact hk3 _ hlt (fun h => by have h' : X.heap.size = V1.heap.size := Option.some.inj h; omega))
                have bV3 := bV2.trans bb3
                clear o2 bb3 bV2 hk3 i6 bV1
                refine ⟨below_grow bV3, ?_⟩
                simp only [Act.put, List.setIfInBounds_toArray, List.set_cons_zero, List.set_cons_succ]
                simp only [List.nil_append] at o3 ⊢
                refine wpAnyT_step (i := 7) rfl (by kernel_rfl) rfl ?_
                refine wp_appAnyD o3 45 rfl (.tmp 42) (.tmp 44) rfl rfl rfl i7 (by simp; omega) bV3.size ?_
                intro A9 c9 V9 o9 bb9
                have bV9 := bV3.trans bb9
                clear o3 bb9 bV3
                refine ⟨below_grow bV9, ?_⟩
                simp only [Act.put, List.setIfInBounds_toArray, List.set_cons_zero, List.set_cons_succ]
                try simp only [List.nil_append] at o9
                refine wpAnyT_step (i := 9) rfl (by kernel_rfl) rfl ?_
                have HBY := Lib.hid (up HB.out bV9)
                have his := o9.isP
                have hcl := o9.capL.1
                have hcp := o9.cap
                have hfr := o9.capL.2
                rw [show (p ++ [(q : Int)]).length = p.length + 1 by simp] at his hcl
                have HC := Lib.hid (Ih2.out A9 (p.length + 1) c9 (p ++ [(q : Int)]) st2 V9 rfl rfl (by simp; omega) Hb2.out (HA.out.keep HBY.out) (Hg.out.keep HBY.out) (Hl.out.keep HBY.out) his ⟨hcl, hcp⟩ (by have := HBY.out.size; omega) (fun q9 hq9 => by have := hfr q9 hq9; omega))
                have Hb9 := Lib.hid bV9
                clear o9 his hcl hcp hfr bV9
                go_wp2_with (go_at_call 101; refine HC.out.mono ?_; rintro e Z ⟨y, rfl, hy, hbz⟩)
                have hbZ := Hb9.out.trans (hbz.mono Hb9.out.size)
                have hgr := below_grow hbZ
                refine ⟨hgr, ?_⟩
                refine wpAnyT_step (i := 10) rfl (by kernel_rfl) rfl ?_
                go_wp2_with fail
                refine ⟨hgr, ?_⟩
                refine wpAnyT_step2 (i := 11) (j := 12) (by kernel_rfl) rfl rfl rfl rfl ?_ ?_
                · go_wp2_with fail
                  refine ⟨hgr, ?_⟩
                  refine wpAnyT_step2 (i := 12) (j := 13) (by kernel_rfl) rfl rfl rfl rfl ?_ ?_
                  · go_wp2_with fail
                    refine ⟨hgr, ?_⟩
                    refine wpAnyT_step (i := 13) rfl (by kernel_rfl) rfl ?_
                    go_wp2_with fail
                    refine ⟨hgr, ?_⟩
                    refine wpAnyT_tail rfl (by kernel_rfl) (by kernel_rfl) ?_
                    simp only [List.drop_succ_cons, List.drop_zero]
                    go_wp2
                    exact ⟨_, _, _, _, y, by (simp only [puts, Act.put, List.setIfInBounds_toArray, List.set_cons_zero, List.set_cons_succ] <;> rfl), hy⟩
                  · go_wp2_with fail
                    refine ⟨hgr, ?_⟩
                    refine wpAnyT_step (i := 12) rfl (by kernel_rfl) rfl ?_
                    go_wp2_with fail
                    refine ⟨hgr, ?_⟩
                    refine wpAnyT_tail rfl (by kernel_rfl) (by kernel_rfl) ?_
                    simp only [List.drop_succ_cons, List.drop_zero]
                    go_wp2
                    exact ⟨_, _, _, _, y, by (simp only [puts, Act.put, List.setIfInBounds_toArray, List.set_cons_zero, List.set_cons_succ] <;> rfl), hy⟩
                · go_wp2_with fail
                  refine ⟨hgr, ?_⟩
                  refine wpAnyT_step (i := 11) rfl (by kernel_rfl) rfl ?_
                  go_wp2_with fail
                  refine ⟨hgr, ?_⟩
                  refine wpAnyT_step (i := 13) rfl (by kernel_rfl) rfl ?_
                  go_wp2_with fail
                  refine ⟨hgr, ?_⟩
                  refine wpAnyT_tail rfl (by kernel_rfl) (by kernel_rfl) ?_
                  simp only [List.drop_succ_cons, List.drop_zero]
                  go_wp2
                  exact ⟨_, _, _, _, y, by (simp only [puts, Act.put, List.setIfInBounds_toArray, List.set_cons_zero, List.set_cons_succ] <;> rfl), hy⟩
            · refine makes_grown (makes_slice Tryz.underlying22 HI0.out HZ0.out rfl (by rw [HZ1.out]; decide)) (below_grow (show Below X.heap.size X X.drew by go_grown)) ?_
              go_wp2_with fail
              have b6 := up_alloc X (.cells #[.int .i64 (q : Int)] 3)
              have i6 : Is (X.alloc (.cells #[.int .i64 (q : Int)] 3)) (some ⟨X.heap.size, 0, none⟩) 1 [(q : Int)] := isC X 3 [(q : Int)] (by simp)
              have hXV0 : X.heap.size < (X.alloc (.cells #[.int .i64 (q : Int)] 3)).heap.size := by simp
              generalize X.alloc (.cells #[.int .i64 (q : Int)] 3) = V0 at *
              have b2 : Below V0.heap.size V0 V0.drew := by go_grown
              have hXV1 : X.heap.size < V0.drew.heap.size := by have := b2.size; omega
              replace i6 := i6.keep b2
              have bV0 := up b6 b2
              generalize V0.drew = V1 at *
              clear b6 b2
              refine wpAnyT_step (i := 2) rfl (by kernel_rfl) rfl ?_
              refine makes_grown (makes_slice Tryz.underlying22 HI0.out HZ0.out rfl (by rw [HZ1.out]; decide)) (below_grow bV0) ?_
              go_wp2_with fail
              have b1 := up_alloc V1 (.cells #[] 3)
              have o1 : OI (V1.alloc (.cells #[] 3)) V1.heap.size (.slice (some ⟨V1.heap.size, 0, none⟩) 0 0) [] := ⟨World.ownsRow_made V1 #[] 0 (Nat.le_refl _) (by unfold maxLen; omega) rfl⟩
              generalize V1.alloc (.cells #[] 3) = V2 at *
              have i7 := i6.keep b1
              have bV2 := up bV0 b1
              have o2 := o1.mono bV0.size
              clear o1 i6
              have hVX : X.heap.size ≤ V1.heap.size := bV0.size
              refine wpAnyT_step (i := 4) rfl (by kernel_rfl) rfl ?_
              refine wp_appAnyG o2 42 rfl (.tmp 40) (.tmp 41) rfl rfl rfl ((Hc.out.keep HB.out).keep bV2) (by simp; omega) bV2.size ?_
              intro A2 c2 V3 o3 bb3 hk3
              have hXV : X.heap.size < V1.heap.size := hXV1
              have i8 : Is V3 (some ⟨X.heap.size, 0, none⟩) 1 [(q : Int)] := i7.off bb3.size (fun pp e hlt => by cases e; exact hk3 _ hlt (fun h => by have h' : V1.heap.size = X.heap.size := Option.some.inj h; omega))
              have bV3 := bV2.trans bb3
              clear o2 bb3 bV2 hk3 i7 bV0
              refine ⟨below_grow bV3, ?_⟩
              simp only [Act.put, List.setIfInBounds_toArray, List.set_cons_zero, List.set_cons_succ]
              simp only [List.nil_append] at o3 ⊢
              refine wpAnyT_step (i := 7) rfl (by kernel_rfl) rfl ?_
              refine wp_appAnyD o3 45 rfl (.tmp 42) (.tmp 44) rfl rfl rfl i8 (by simp; omega) bV3.size ?_
              intro A9 c9 V9 o9 bb9
              have bV9 := bV3.trans bb9
              clear o3 bb9 bV3
              refine ⟨below_grow bV9, ?_⟩
              simp only [Act.put, List.setIfInBounds_toArray, List.set_cons_zero, List.set_cons_succ]
              try simp only [List.nil_append] at o9
              refine wpAnyT_step (i := 9) rfl (by kernel_rfl) rfl ?_
              have HBY := Lib.hid (up HB.out bV9)
              have his := o9.isP
              have hcl := o9.capL.1
              have hcp := o9.cap
              have hfr := o9.capL.2
              rw [show (p ++ [(q : Int)]).length = p.length + 1 by simp] at his hcl
              have HC := Lib.hid (Ih2.out A9 (p.length + 1) c9 (p ++ [(q : Int)]) st2 V9 rfl rfl (by simp; omega) Hb2.out (HA.out.keep HBY.out) (Hg.out.keep HBY.out) (Hl.out.keep HBY.out) his ⟨hcl, hcp⟩ (by have := HBY.out.size; omega) (fun q9 hq9 => by have := hfr q9 hq9; omega))
              have Hb9 := Lib.hid bV9
              clear o9 his hcl hcp hfr bV9
              go_wp2_with (go_at_call 101; refine HC.out.mono ?_; rintro e Z ⟨y, rfl, hy, hbz⟩)
              have hbZ := Hb9.out.trans (hbz.mono Hb9.out.size)
              have hgr := below_grow hbZ
              refine ⟨hgr, ?_⟩
              refine wpAnyT_step (i := 10) rfl (by kernel_rfl) rfl ?_
              go_wp2_with fail
              refine ⟨hgr, ?_⟩
              refine wpAnyT_step2 (i := 11) (j := 12) (by kernel_rfl) rfl rfl rfl rfl ?_ ?_
              · go_wp2_with fail
                refine ⟨hgr, ?_⟩
                refine wpAnyT_step2 (i := 12) (j := 13) (by kernel_rfl) rfl rfl rfl rfl ?_ ?_
                · go_wp2_with fail
                  refine ⟨hgr, ?_⟩
                  refine wpAnyT_step (i := 13) rfl (by kernel_rfl) rfl ?_
                  go_wp2_with fail
                  refine ⟨hgr, ?_⟩
                  refine wpAnyT_tail rfl (by kernel_rfl) (by kernel_rfl) ?_
                  simp only [List.drop_succ_cons, List.drop_zero]
                  go_wp2
                  exact ⟨_, _, _, _, y, by (simp only [puts, Act.put, List.setIfInBounds_toArray, List.set_cons_zero, List.set_cons_succ] <;> rfl), hy⟩
                · go_wp2_with fail
                  refine ⟨hgr, ?_⟩
                  refine wpAnyT_step (i := 12) rfl (by kernel_rfl) rfl ?_
                  go_wp2_with fail
                  refine ⟨hgr, ?_⟩
                  refine wpAnyT_tail rfl (by kernel_rfl) (by kernel_rfl) ?_
                  simp only [List.drop_succ_cons, List.drop_zero]
                  go_wp2
                  exact ⟨_, _, _, _, y, by (simp only [puts, Act.put, List.setIfInBounds_toArray, List.set_cons_zero, List.set_cons_succ] <;> rfl), hy⟩
              · go_wp2_with fail
                refine ⟨hgr, ?_⟩
                refine wpAnyT_step (i := 11) rfl (by kernel_rfl) rfl ?_
                go_wp2_with fail
                refine ⟨hgr, ?_⟩
                refine wpAnyT_step (i := 13) rfl (by kernel_rfl) rfl ?_
                go_wp2_with fail
                refine ⟨hgr, ?_⟩
                refine wpAnyT_tail rfl (by kernel_rfl) (by kernel_rfl) ?_
                simp only [List.drop_succ_cons, List.drop_zero]
                go_wp2
                exact ⟨_, _, _, _, y, by (simp only [puts, Act.put, List.setIfInBounds_toArray, List.set_cons_zero, List.set_cons_succ] <;> rfl), hy⟩
          · rintro ⟨v40, v42, v44, v45, y⟩ Z ⟨hy, hbz⟩
            dsimp only at hy
            simp only [puts, Act.put, List.setIfInBounds_toArray, List.set_cons_zero, List.set_cons_succ]
            have HBZ := Lib.hid (up HB.out hbz)
            have KZ := HKY.out.keep hbz
            have Hy := Lib.hid hy
            clear hbz hy HKY
            have hfnd : hitL M (cmpQ P K l p st (q + 1)) = HT := by
              rw [HQ.out]; unfold hitL
              rw [List.find?_append]
              have e1 := Hno.out; have e2 := HHT.out
              unfold hitL at e1 e2
              rw [e1, e2]; rfl
            cases HT with
            | none =>
              have HN := Lib.hid hfnd
              clear hfnd
              go_wp2
              exact ⟨⟨q + 1, by omega, by go_num, HN.out, HBZ.out, KZ⟩, by simp [intOf]; omega⟩
            | some x =>
              have HE : Hid (CW = some x) := Lib.hid (by
                rw [← HCW.out]
                obtain ⟨t, ht⟩ := cmpQ_pre (P := P) (K := K) (st := st) hpl (q := q + 1) (by omega)
                rw [ht]
                unfold hitL at hfnd ⊢
                rw [List.find?_append, hfnd]; rfl)
              clear hfnd
              go_wp2
              go_ret2
              exact ⟨_, by rw [HE.out]; rfl, by rw [HE.out]; exact Hy.out, HBZ.out⟩
      · obtain rfl : q = n := by omega
        have HE : Hid (CW = none) := Lib.hid (by rw [← HCW.out, cmp_cons hpl, ← Hn.out]; exact Hno.out)
        have KYl := KY.lt; have KYc := KY.get; have KYf := KY.fr
        go_wp2
        go_ret2
        exact ⟨_, by rw [HE.out]; rfl, by rw [HE.out]; exact Lst.nil _ _, HB.out⟩
end
end Go.Proofs.YtifokapcobgjiaaGreat

namespace Go.Proofs.YtifokapcobgjiaaGreat
open Go Go.RowKit
set_option maxHeartbeats 4000000
set_option maxRecDepth 100000

theorem hit_PM {P : List Int} {K : List Kd} {l : List Int} (h0 : sE P K l = 0) (q : Nat) : hitL q (PL P K l) = (PM P K l q).head? := by
  unfold hitL
  cases hm : PM P K l q with
  | nil =>
    rw [List.head?_nil, List.find?_eq_none]
    intro x hx h
    have : x ∈ PM P K l q := (PM_mem h0 q).2 ⟨(PL_mem h0).1 hx, by simpa using h⟩
    rw [hm] at this; cases this
  | cons a t =>
    rw [List.head?_cons]
    have ha : a ∈ PM P K l q := by rw [hm]; exact List.mem_cons_self ..
    obtain ⟨ha1, ha2⟩ := (PM_mem h0 q).1 ha
    have haP := (PL_mem h0).2 ha1
    cases hf : (PL P K l).find? (fun x => decide (usd x ≤ (q : Int))) with
    | none =>
      rw [List.find?_eq_none] at hf
      have := hf a haP
      simp at this; omega
    | some x =>
      obtain ⟨hx1, xs, ys, hxy, hno⟩ := List.find?_eq_some_iff_append.1 hf
      have hxm : x ∈ PL P K l := by rw [hxy]; simp
      have hxP : x ∈ PM P K l q := (PM_mem h0 q).2 ⟨(PL_mem h0).1 hxm, by simpa using hx1⟩
      rw [hm] at hxP
      rcases List.mem_cons.1 hxP with e | hxt
      · rw [e]
      · exfalso
        have hs := plc_sorted (ap := apL K) (np := P.length) (most := (q : Int)) (bsL K l) (st0 P)
        have hs2 : (PM P K l q).Pairwise (fun a b => ahB a b = true) := hs
        rw [hm] at hs2
        have h1 := (List.pairwise_cons.1 hs2).1 x hxt
        have hp := plc_sorted (ap := apL K) (np := P.length) (most := P.length) (bsL K l) (st0 P)
        have hp2 : (PL P K l).Pairwise (fun a b => ahB a b = true) := hp
        rw [hxy] at hp2 haP
        rcases List.mem_append.1 haP with h | h
        · have := hno a h
          simp at this; omega
        · rcases List.mem_cons.1 h with e | h
          · subst e; rw [ahB_self] at h1; cases h1
          · have h2 := (List.pairwise_cons.1 (List.pairwise_append.1 hp2).2.1).1 a h
            rw [ahB_asym _ _ h2] at h1; cases h1
section
variable (A : Option Addr) (n c : Nat) (P : List Int) (B : Option Addr) (m d : Nat) (K : List Kd) (L : Option Addr) (r s : Nat) (l : List Int) (w : World)
theorem rFewest_any (hp : Is w A n P) (hg : Ks w B m K) (hl : Is w L r l) :
    Calls Tryz.prog 45 #[.agg #[.slice A n c, .slice B m d], .slice L r s] w fun e w' => ∃ v, e = .returned (.tuple #[v, .int .i64 (fewE P K l)]) ∧ Lst w.heap.size w' v (fewL P K l) ∧ Below w.heap.size w w' := by
  have Hn : Hid (n = P.length) := Lib.hid hp.len
  have hnx := hp.small
  have Hp := Lib.hid hp; have Hg := Lib.hid hg; have Hl := Lib.hid hl
  clear hp hg hl
  by_cases h0 : sE P K l = 0
  rotate_left
  · have HE : Hid (fewE P K l = sE P K l) := Lib.hid (by unfold fewE; rw [if_neg h0])
    have HX : Hid (fewL P K l = []) := Lib.hid (by unfold fewL; rw [if_neg h0])
    have hne : (sE P K l != 0) = true := by simpa using h0
    rw [HE.out, HX.out]
    clear h0 HE HX
    go_enter Tryz.func45, Tryz.ntmps45
    go_upto_region 1 with fail
    generalize hW : (World.alloc _ _) = W
    have HB : Hid (Below w.heap.size w W) := Lib.hid (by subst hW; go_grown)
    have KY : Bx W (w.heap.size) 25 [.slice A n c, .slice B m d] := by subst hW; repeat (first | (refine Bx.newAt _ _ _ ?_; first | rfl | (simp only [World.size_alloc]; done) | (simp only [World.size_alloc]; omega)) | refine Bx.old ?_ _)
    clear hW
    have KYl := KY.lt; have KYc := KY.get; have KYf := KY.fr
    go_wp2_with (go_at_call 21; refine (rcheckSorts_any A n c P B m d K L r s l _ (Hp.out.keep HB.out) (Hg.out.keep HB.out) (Hl.out.keep HB.out)).mono ?_; rintro e X ⟨rfl, hbx⟩; clear KYl KYc KYf; replace KY := KY.keep hbx; have KYl := KY.lt; have KYc := KY.get; have KYf := KY.fr; replace HB := Lib.hid (up HB.out hbx); clear hbx)
    go_ret2
    exact ⟨_, rfl, Lst.nil _ _, HB.out⟩
  · obtain ⟨hy, h8, hlo⟩ := sE_0 h0
    obtain ⟨h5, hP, hK⟩ := yOk_k hy
    have hn5 : n ≤ 5 := by rw [Hn.out]; exact h5
    have H0 := Lib.hid h0
    obtain ⟨FP, hFP⟩ : ∃ FP, fewP P K l = FP := ⟨_, rfl⟩
    have HE : Hid (fewE P K l = if FP.isSome = true then 0 else 53) := Lib.hid (by unfold fewE; rw [if_pos h0, hFP])
    have HX : Hid (fewL P K l = FP.getD []) := Lib.hid (by unfold fewL; rw [if_pos h0, hFP])
    have HFP : Hid (fewK P K l 0 (n + 1) = FP) := Lib.hid (by rw [Hn.out]; exact hFP)
    have H101 : Hid (∀ (q : Nat) V, Below w.heap.size w V → Calls Tryz.prog 101 #[.agg #[.slice A n c, .slice B m d], .slice L r s, .slice none 0 0, .int .i64 (q : Int)] V fun e w' => ∃ y, e = .returned (.tuple #[y, .bool (PM P K l q).head?.isSome]) ∧ Lst V.heap.size w' y ((PM P K l q).head?.getD []) ∧ Below V.heap.size V w') := Lib.hid (fun q V hV => by
      have := rfewer_any A n c P B m d K L r s l h5 hK hlo (by omega) q V.heap.size l.length none 0 0 [] (st0 P) V (by simp) (Beg.nil P K l) (Hp.out.keep hV) (Hg.out.keep hV) (Hl.out.keep hV) (is0 V) ⟨by omega, by omega⟩ (Nat.le_refl _) (fun p hp => by cases hp)
      rwa [cmp_nil, hit_PM h0] at this)
    clear h0 hy h8 hlo h5 hP hK hFP
    go_enter Tryz.func45, Tryz.ntmps45
    go_upto_region 1 with fail
    generalize hW : (World.alloc _ _) = W
    have HB : Hid (Below w.heap.size w W) := Lib.hid (by subst hW; go_grown)
    have KY : Bx W (w.heap.size) 25 [.slice A n c, .slice B m d] := by subst hW; repeat (first | (refine Bx.newAt _ _ _ ?_; first | rfl | (simp only [World.size_alloc]; done) | (simp only [World.size_alloc]; omega)) | refine Bx.old ?_ _)
    clear hW
    have KYl := KY.lt; have KYc := KY.get; have KYf := KY.fr
    go_upto_region 5 with (go_at_call 21; refine (rcheckSorts_any A n c P B m d K L r s l _ (Hp.out.keep HB.out) (Hg.out.keep HB.out) (Hl.out.keep HB.out)).mono ?_; rintro e X ⟨rfl, hbx⟩; rw [H0.out]; clear KYl KYc KYf; replace KY := KY.keep hbx; have KYl := KY.lt; have KYc := KY.get; have KYf := KY.fr; replace HB := Lib.hid (up HB.out hbx); clear hbx)
    clear KYl KYc KYf
    go_loopw [7] (fun i wr => ∃ (q : Nat), q ≤ n + 1 ∧ i = .int .i64 (q : Int) ∧ Below w.heap.size w wr ∧ Bx wr w.heap.size 25 [.slice A n c, .slice B m d] ∧ fewK P K l q (n + 1 - q) = FP) (fun i _ => n + 1 - (intOf i).toNat)
    case atStart => exact ⟨0, by omega, rfl, HB.out, KY, by rw [← HFP.out]; rfl⟩
    case round =>
      clear KY HB
      obtain ⟨q, hq, rfl, hb, KY, hp⟩ := hrel
      have HB := Lib.hid hb; have Hp2 := Lib.hid hp
      clear hb hp
      have KYl := KY.lt; have KYc := KY.get; have KYf := KY.fr
      by_cases hlt : q < n + 1
      · have hqn : q ≤ n := by omega
        have HKK : Hid (fewK P K l q (n + 1 - q) = match PM P K l q with | [] => fewK P K l (q + 1) (n + 1 - (q + 1)) | x :: _ => some x) := Lib.hid (by rw [show n + 1 - q = (n + 1 - (q + 1)) + 1 by omega]; rfl)
        have e1 : IntKind.i64.wrap ((q : Int) + 1) = (q : Int) + 1 := by rw [IntWalk.i64_in _ (by omega)]
        cases hm : PM P K l q with
        | nil =>
          have Hm := Lib.hid hm
          have HN : Hid (fewK P K l (q + 1) (n + 1 - (q + 1)) = FP) := Lib.hid (by rw [← Hp2.out, HKK.out, hm])
          clear hm HKK
          go_wp2_with (go_at_call 101; refine (H101.out q _ HB.out).mono ?_; rw [Hm.out]; rintro e Y ⟨y, rfl, hy, hby⟩; simp only [List.head?_nil, Option.isSome_none]; clear hy; clear KYl KYc KYf; replace KY := KY.keep hby; have KYl := KY.lt; have KYc := KY.get; have KYf := KY.fr; replace HB := Lib.hid (up HB.out hby); clear hby)
          exact ⟨⟨q + 1, by omega, by go_num, HB.out, KY, HN.out⟩, by simp [intOf]; omega⟩
        | cons x t =>
          have Hm := Lib.hid hm
          have HN : Hid (FP = some x) := Lib.hid (by rw [← Hp2.out, HKK.out, hm])
          clear hm HKK
          go_wp2_with (go_at_call 101; refine (H101.out q _ HB.out).mono ?_; rw [Hm.out]; rintro e Y ⟨y, rfl, hy, hby⟩; simp only [List.head?_cons, Option.isSome_some]; have Hy := Lib.hid (hy.mono HB.out.size); clear hy; clear KYl KYc KYf; replace KY := KY.keep hby; have KYl := KY.lt; have KYc := KY.get; have KYf := KY.fr; replace HB := Lib.hid (up HB.out hby); clear hby)
          go_ret2
          exact ⟨_, by rw [HE.out, HN.out]; rfl, by rw [HX.out, HN.out]; exact Hy.out, HB.out⟩
      · obtain rfl : q = n + 1 := by omega
        have hqn : ¬ (((n + 1 : Nat) : Int) ≤ (n : Int)) := by omega
        have hqn2 : ¬ ((n : Int) + 1 ≤ (n : Int)) := by omega
        have HN : Hid (FP = none) := Lib.hid (by rw [← Hp2.out, Nat.sub_self]; rfl)
        go_wp2
        go_ret2
        exact ⟨_, by rw [HE.out, HN.out]; rfl, by rw [HX.out, HN.out]; exact Lst.nil _ _, HB.out⟩
end
end Go.Proofs.YtifokapcobgjiaaGreat

