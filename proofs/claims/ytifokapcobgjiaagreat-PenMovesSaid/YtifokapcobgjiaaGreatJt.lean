/- Contracts of functions of the program and of the reference, and plain facts: a part of a proof. Own text. -/
import Derived.Test.YtifokapcobgjiaaGreatJi
import Derived.Test.YtifokapcobgjiaaGreatJs
set_option linter.unusedVariables false
set_option linter.unusedSimpArgs false
set_option linter.unusedSectionVars false
namespace Go.Proofs.YtifokapcobgjiaaGreat
open Go Go.RowKit
set_option maxHeartbeats 2000000
set_option maxRecDepth 100000

def movT (P : List Int) (K : List Kd) (l p : List Int) (i x : Int) : Int := orE [plE P K l p, err (inB i 0 ((l.length : Int) - 1)) 1, err (inB x 0 ((P.length : Int) - 1)) 56]
def movE (P : List Int) (K : List Kd) (l p : List Int) (i x : Int) : Int := if movT P K l p i x = 0 then (if (standS P (apL K) (bsL K l) (p.set i.toNat x)).isSome = true then 0 else 53) else movT P K l p i x
def movL (P : List Int) (K : List Kd) (l p : List Int) (i x : Int) : List Int := if movE P K l p i x = 0 then p.set i.toNat x else []
theorem stand_len10 {P : List Int} {K : List Kd} {l q : List Int} (h0 : sE P K l = 0) : ((standS P (apL K) (bsL K l) q).getD ap0).length = 10 := by
  obtain ⟨hy, h8, hlo⟩ := sE_0 h0
  obtain ⟨h5, hP, hK⟩ := yOk_k hy
  cases hS : standS P (apL K) (bsL K l) q with
  | none => rfl
  | some st =>
    obtain ⟨hpl, -⟩ := standS_in hS
    rw [standS_eq hpl] at hS
    exact (standK_ok hP (bsL_good hK hlo) _ _ (by omega) hS).1
theorem Move_any (A : Option Addr) (n c : Nat) (P : List Int) (B : Option Addr) (m d : Nat) (K : List Kd) (L : Option Addr) (r s : Nat) (l : List Int) (C : Option Addr) (u v : Nat) (p : List Int) (i x : Int) (w : World)
    (hp : Is w A n P) (hg : Ks w B m K) (hl : Is w L r l) (hc : Is w C u p) :
    Calls Tryz.prog 36 #[.agg #[.slice A n c, .slice B m d], .slice L r s, .slice C u v, .int .i64 i, .int .i64 x] w fun e w' => ∃ y, e = .returned (.tuple #[y, .int .i64 (movE P K l p i x)]) ∧ Lst w.heap.size w' y (movL P K l p i x) ∧ Below w.heap.size w w' := by
  have Hp := Lib.hid hp; have Hg := Lib.hid hg; have Hl := Lib.hid hl; have Hc := Lib.hid hc
  clear hp hg hl hc
  have HT : Hid (movT P K l p i x = orE [plE P K l p, err (inB i 0 ((l.length : Int) - 1)) 1, err (inB x 0 ((P.length : Int) - 1)) 56]) := Lib.hid rfl
  have HB1 : Hid (∀ W, Below w.heap.size w W → Calls Tryz.prog 87 #[.slice L r s, .int .i64 i] W fun e w' => e = .returned (.int .i64 (err (inB i 0 ((l.length : Int) - 1)) 1)) ∧ Below W.heap.size W w') := Lib.hid (fun W hW =>
    still_grow (checkBeast_any L r s l i W (Hl.out.keep hW)))
  have HD : Hid (∀ W, Below w.heap.size w W → Calls Tryz.prog 83 #[.agg #[.slice A n c, .slice B m d], .int .i64 x] W fun e w' => e = .returned (.int .i64 (err (inB x 0 ((P.length : Int) - 1)) 56)) ∧ Below W.heap.size W w') := Lib.hid (fun W hW =>
    checkPen_any A n c P _ x W (Hp.out.keep hW))
  by_cases h0 : movT P K l p i x = 0
  rotate_left
  · have hne : (movT P K l p i x != 0) = true := by simpa using h0
    have HE0 : Hid (movE P K l p i x = movT P K l p i x) := Lib.hid (by unfold movE; rw [if_neg h0])
    have HX : Hid (movL P K l p i x = []) := Lib.hid (by unfold movL; rw [if_neg (by rw [HE0.out]; exact h0)])
    rw [HX.out, HE0.out]
    clear h0 HX HE0
    have HPl : Hid (∀ W, Below w.heap.size w W → Calls Tryz.prog 79 #[.agg #[.slice A n c, .slice B m d], .slice L r s, .slice C u v] W fun e w' => ∃ (A' : Option Addr) (n' c' : Nat) (B' : Option Addr) (m' d' : Nat) (ap st : List Int), ap.length = 10 ∧ st.length = 10 ∧ e = .returned (.tuple #[.agg ⟨ldL A' n' c' (.slice B' m' d') ap⟩, .agg ⟨ints st⟩, .int .i64 (plE P K l p)]) ∧ Below W.heap.size W w') := Lib.hid (fun W hW => placed_gen A n c P B m d K L r s l C u v p W (Hp.out.keep hW) (Hg.out.keep hW) (Hl.out.keep hW) (Hc.out.keep hW))
    generalize plE P K l p = E at *
    generalize err (inB i 0 ((l.length : Int) - 1)) 1 = F at *
    generalize err (inB x 0 ((P.length : Int) - 1)) 56 = G at *
    generalize movT P K l p i x = T at *
    go_enter Tryz.func36, Tryz.ntmps36
    go_upto_region 1 with fail
    generalize hW : (World.alloc _ _) = W
    have HB : Hid (Below w.heap.size w W) := Lib.hid (by subst hW; go_grown)
    have KY : Bx W (w.heap.size) 25 [.slice A n c, .slice B m d] := by subst hW; repeat (first | (refine Bx.newAt _ _ _ ?_; first | rfl | (simp only [World.size_alloc]; done) | (simp only [World.size_alloc]; omega)) | refine Bx.old ?_ _)
    clear hW
    have KYl := KY.lt; have KYc := KY.get; have KYf := KY.fr
    go_upto_region 2 with (first
      | (go_at_call 79; refine (HPl.out _ HB.out).mono ?_; rintro e X ⟨A', n', c', B', m', d', ap, st, hap, hst, rfl, hbx⟩; clear KYl KYc KYf; replace KY := KY.keep hbx; have KYl := KY.lt; have KYc := KY.get; have KYf := KY.fr; replace HB := Lib.hid (up HB.out hbx); clear hbx)
      | (refine wpList_put 83 12 23 rfl rfl (Bx.old (Bx.new X _ 83) _) rfl rfl (sL83 hap) (sLo hap) ldL_one ?_; intro U KU hp; have KI : Bx U (X.heap.size + 1) 107 (ints ap0) := (Bx.newAt _ _ _ (by rw [World.size_alloc])).put hp (by omega); have hbu := upP ((up_alloc X _).trans ((up_alloc _ _).mono (by rw [World.size_alloc]; omega))) hp (by omega); have KIl := KI.lt; have KIc := KI.get; have KIf := KI.fr)
      | (refine wpList_put 107 13 24 rfl rfl KI rfl rfl (sI107 hst) (sIo hst) (ints_one _) ?_; intro U2 KI2 hp2; have hbu2 := upP hbu hp2 (by omega); clear KI KIl KIc KIf KU hbu hp2 KI2; clear KYl KYc KYf; replace KY := KY.keep hbu2; have KYl := KY.lt; have KYc := KY.get; have KYf := KY.fr; replace HB := Lib.hid (up HB.out hbu2); clear hbu2))
    refine wp_region_grow_tail 7 (by kernel_rfl) (by kernel_rfl) ?_
    simp only [List.take_succ_cons, List.take_zero, List.drop_succ_cons, List.drop_zero]
    repeat (go_big_quiet_step ((first | (go_at_call 87; exact quiet_grow rfl (HB1.out _ (HB.out.trans ((grow_below U2 _).mono HB.out.size)))) | (go_at_call 83; exact quiet_grow rfl (HD.out _ (HB.out.trans ((grow_below U2 _).mono HB.out.size)))))))
    refine wpQuiet_nil ?_
    intro z
    have hbz := grow_below U2 z
    generalize grow U2 z = Z at *
    replace HB := Lib.hid (up HB.out hbz)
    clear hbz KYl KYc KYf
    go_wp2_with (go_at_call 82; refine (Or_any _ _ _ [E, F, G] _ (isC Z 27 [E, F, G] (by simp))).mono ?_; rintro e V ⟨rfl, rfl⟩; rw [← HT.out]; replace HB := Lib.hid (up HB.out (up_alloc Z (.cells ⟨ints [E, F, G]⟩ 27))))
    go_ret2
    exact ⟨_, rfl, Lst.nil _ _, HB.out⟩
  · obtain ⟨h1, h2, h3⟩ := orE3_0 (HT.out.symm.trans h0)
    obtain ⟨hs0, st, hst⟩ := plE_ok h1
    obtain ⟨hpl, -⟩ := standS_in hst
    obtain ⟨hy, h8, hlo⟩ := sE_0 hs0
    obtain ⟨h5, hP, hK⟩ := yOk_k hy
    have hap := apL_len K
    have hst10 : st.length = 10 := by have := stand_len10 (q := p) hs0; rw [hst] at this; exact this
    have hgood := bsL_good hK hlo
    have hib := inB_iff.1 (err_0 h2 (by decide))
    obtain ⟨j, rfl⟩ := Int.eq_ofNat_of_zero_le hib.1
    rw [bsL_len] at hpl
    have hjp : j < p.length := by omega
    have hp8 : p.length ≤ 8 := by omega
    obtain ⟨ST, hSTe⟩ : ∃ ST, (standS P (apL K) (bsL K l) (p.set j x)).getD ap0 = ST := ⟨_, rfl⟩
    obtain ⟨BB, hBBe⟩ : ∃ BB, (standS P (apL K) (bsL K l) (p.set j x)).isSome = BB := ⟨_, rfl⟩
    have hST : ST.length = 10 := by rw [← hSTe]; exact stand_len10 hs0
    have HE0 : Hid (movE P K l p (j : Int) x = if BB = true then 0 else 53) := Lib.hid (by unfold movE; rw [if_pos h0, Int.toNat_natCast, hBBe])
    have HX : Hid (movL P K l p (j : Int) x = if BB = true then p.set j x else []) := Lib.hid (by
      unfold movL; rw [HE0.out, Int.toNat_natCast]
      cases BB
      · rfl
      · rfl)
    have HSe := Lib.hid hSTe; have HBe := Lib.hid hBBe
    have HP := Lib.hid hP; have Hgood := Lib.hid hgood
    have HS0 := Lib.hid hs0; have HSt := Lib.hid hst
    have HO : Hid (orE [0, 0, 0] = 0) := Lib.hid rfl
    have hpset : (p.set j x).length ≤ 1000 := by rw [List.length_set]; omega
    rw [HX.out, HE0.out]
    rw [h2] at HB1
    rw [h3] at HD
    have h5' := h5
    clear hpl
    clear h0 h1 h2 h3 hs0 hst hy hlo hK hP hgood hib HT HX HE0 hSTe hBBe
    go_enter Tryz.func36, Tryz.ntmps36
    go_upto_region 1 with fail
    generalize hW : (World.alloc _ _) = W
    have HB : Hid (Below w.heap.size w W) := Lib.hid (by subst hW; go_grown)
    have KY : Bx W (w.heap.size) 25 [.slice A n c, .slice B m d] := by subst hW; repeat (first | (refine Bx.newAt _ _ _ ?_; first | rfl | (simp only [World.size_alloc]; done) | (simp only [World.size_alloc]; omega)) | refine Bx.old ?_ _)
    clear hW
    have KYl := KY.lt; have KYc := KY.get; have KYf := KY.fr
    go_upto_region 2 with (first
      | (go_at_call 79; refine (placed_ok A n c P B m d K L r s l C u v p _ (Hp.out.keep HB.out) (Hg.out.keep HB.out) (Hl.out.keep HB.out) (Hc.out.keep HB.out) HS0.out HSt.out).mono ?_; rintro e X ⟨B', c', rfl, hlc, hks, hbx⟩; have hwx := KY.lt; have hxs := hbx.size; have Hks := Lib.hid hks; clear hks; clear KYl KYc KYf; replace KY := KY.keep hbx; have KYl := KY.lt; have KYc := KY.get; have KYf := KY.fr; replace HB := Lib.hid (up HB.out hbx); clear hbx)
      | (refine wpList_put 83 12 23 rfl rfl (Bx.old (Bx.new X _ 83) _) rfl rfl (sL83 hap) (sLo hap) ldL_one ?_; intro U KU hp; have KI : Bx U (X.heap.size + 1) 107 (ints ap0) := (Bx.newAt _ _ _ (by rw [World.size_alloc])).put hp (by omega); have hbu := upP ((up_alloc X _).trans ((up_alloc _ _).mono (by rw [World.size_alloc]; omega))) hp (by omega); have KIl := KI.lt; have KIc := KI.get; have KIf := KI.fr)
      | (refine wpList_put 107 13 24 rfl rfl KI rfl rfl (sI107 hst10) (sIo hst10) (ints_one _) ?_; intro U2 KI2 hp2; have KU2 := KU.put hp2 (by omega); have hbu2 := upP hbu hp2 (by omega); have HksU := Lib.hid (Hks.out.keep hbu2); clear KI KIl KIc KIf KU hbu hp2 KI2 Hks; clear KYl KYc KYf; replace KY := KY.keep hbu2; have KYl := KY.lt; have KYc := KY.get; have KYf := KY.fr; replace HB := Lib.hid (up HB.out hbu2); clear hbu2))
    refine wp_region_grow_tail 7 (by kernel_rfl) (by kernel_rfl) ?_
    simp only [List.take_succ_cons, List.take_zero, List.drop_succ_cons, List.drop_zero]
    repeat (go_big_quiet_step ((first | (go_at_call 87; exact quiet_grow rfl (HB1.out _ (HB.out.trans ((grow_below U2 _).mono HB.out.size)))) | (go_at_call 83; exact quiet_grow rfl (HD.out _ (HB.out.trans ((grow_below U2 _).mono HB.out.size)))))))
    refine wpQuiet_nil ?_
    intro z
    have hbz := grow_below U2 z
    generalize grow U2 z = Z at *
    have HksZ := Lib.hid (HksU.out.keep hbz)
    have KUZ := KU2.keep hbz
    replace HB := Lib.hid (up HB.out hbz)
    clear hbz KYl KYc KYf KY HksU KU2
    go_upto_region 5 with (go_at_call 82; have hba := up_alloc Z (.cells ⟨ints [0, 0, 0]⟩ 27); refine (Or_any _ _ _ [0, 0, 0] _ (isC Z 27 [0, 0, 0] (by simp))).mono ?_; rintro e V ⟨rfl, rfl⟩; rw [HO.out]; replace HksZ := Lib.hid (HksZ.out.keep hba); replace KUZ := KUZ.keep hba; replace HB := Lib.hid (up HB.out hba); clear hba)
    generalize Z.alloc (.cells ⟨ints [0, 0, 0]⟩ 27) = Y at *
    have hXY := KUZ.lt
    have hwY := HB.out.size
    go_upto_region 6 with (go_at_call 80; refine (clone_any C u v p _ (Hc.out.keep HB.out) (by omega)).mono ?_; rintro e V ⟨FA, fc, rfl, hO, hbv⟩; have HO2 := Lib.hid hO; have HbV := Lib.hid hbv; have hsv := hbv.size; clear hO hbv)
    obtain ⟨A2, c2, e2, hc2, his, hfar⟩ := HO2.out.is
    have Hcap := Lib.hid HO2.out.cap
    cases e2
    obtain ⟨g, rfl, hgU, hR⟩ := HO2.out.rowI (by omega)
    have HR := Lib.hid hR
    have hcf := hR.cell hjp
    have hff := hR.fr j
    clear his hfar hR HO2
    have hjp' : (j : Int) < (p.length : Int) := by omega
    generalize p[j] = y0 at *
    go_upto_region 7 with fail
    have pY := Put.cell V g j (.int .i64 x)
    have hset := HR.out.set j x
    generalize World.setCell V _ _ = T at *
    have HbT := Lib.hid (HbV.out.trans (pY.below hgU))
    have hI := hset.is hpset
    rw [List.length_set] at hI
    have HI := Lib.hid hI
    have HksT := Lib.hid (HksZ.out.keep HbT.out)
    have KT := KUZ.keep HbT.out
    have HBT := Lib.hid (up HB.out HbT.out)
    have hgT : g < T.heap.size := hset.lt
    clear pY hset hcf hff HR hI KUZ HksZ
    go_upto_region 8 with (first
      | (refine wpList_get 83 12 rfl rfl KT rfl Tryz.underlying83 rfl (sL83' hap) ?_)
      | (go_at_call 88; refine (stand_any A n c P _ _ c' (bsL K l) (apL K) (some ⟨g, 0, none⟩) p.length fc (p.set j x) _ (Hp.out.keep HBT.out) HksT.out HI.out hap h5 HP.out Hgood.out).mono ?_; rintro e R ⟨rfl, hbr⟩; rw [HSe.out, HBe.out]; have HBR := Lib.hid (up HBT.out hbr); have HIR := Lib.hid (HI.out.keep hbr); clear hbr)
      | (refine wpList_putNew 107 16 48 rfl rfl rfl rfl (sI107 hST) (sIo hST) (ints_one _) ?_; intro T2 KN hbt hst2; have HBT2 := Lib.hid (up HBR.out hbt); have HIT := Lib.hid (HIR.out.keep hbt); clear hbt KN))
    cases BB
    · go_wp2
      go_ret2
      exact ⟨_, rfl, Lst.nil _ _, HBT2.out⟩
    · go_wp2
      go_ret2
      exact ⟨_, rfl, ⟨_, p.length, fc, rfl, ⟨hc2, Hcap.out⟩, HIT.out, fun q hq => by cases hq; simp only; omega⟩, HBT2.out⟩
end Go.Proofs.YtifokapcobgjiaaGreat

namespace Go.Proofs.YtifokapcobgjiaaGreat
open Go Go.RowKit
set_option maxHeartbeats 2000000
set_option maxRecDepth 100000

section
variable (A : Option Addr) (n c : Nat) (P : List Int) (B : Option Addr) (m d : Nat) (K : List Kd) (L : Option Addr) (r s : Nat) (l : List Int) (C : Option Addr) (u v : Nat) (p : List Int) (w : World)
    (hp : Is w A n P) (hg : Ks w B m K) (hl : Is w L r l) (hc : Is w C u p) (hE : rplE P K l p = plE P K l p)
include hp hg hl hc hE
theorem rTake_any (i : Int) (hrs : r ≤ s) (hs : s ≤ 9223372036854775807) (huv : u ≤ v) (hv : v ≤ 9223372036854775807) :
    Calls Tryz.prog 39 #[.agg #[.slice A n c, .slice B m d], .slice L r s, .slice C u v, .int .i64 i] w fun e w' => ∃ v1 v2, e = .returned (.tuple #[v1, v2, .int .i64 (takE P K l p i)]) ∧ Lst w.heap.size w' v1 (takL P K l p i l) ∧ Lst w.heap.size w' v2 (takL P K l p i p) ∧ Below w.heap.size w w' := by
  have Hr : Hid (r = l.length) := Lib.hid hl.len
  have hrx := hl.small
  have Hp := Lib.hid hp; have Hg := Lib.hid hg; have Hl := Lib.hid hl; have Hc := Lib.hid hc; have HE := Lib.hid hE
  clear hp hg hl hc hE
  by_cases h1 : plE P K l p = 0
  rotate_left
  · have HT : Hid (takE P K l p i = plE P K l p) := Lib.hid (by unfold takE orE; rw [if_neg h1])
    have HX : Hid (∀ q, takL P K l p i q = []) := Lib.hid (fun q => by unfold takL; rw [if_neg (by rw [HT.out]; exact h1)])
    have hne : (plE P K l p != 0) = true := by simpa using h1
    rw [HX.out, HX.out, HT.out]
    clear h1 HT HX
    generalize plE P K l p = E at *
    go_enter Tryz.func39, Tryz.ntmps39
    go_upto_region 1 with fail
    generalize hW : (World.alloc _ _) = W
    have HB : Hid (Below w.heap.size w W) := Lib.hid (by subst hW; go_grown)
    have KY : Bx W (w.heap.size) 25 [.slice A n c, .slice B m d] := by subst hW; repeat (first | (refine Bx.newAt _ _ _ ?_; first | rfl | (simp only [World.size_alloc]; done) | (simp only [World.size_alloc]; omega)) | refine Bx.old ?_ _)
    clear hW
    have KYl := KY.lt; have KYc := KY.get; have KYf := KY.fr
    go_wp2_with (go_at_call 41; refine (rcheckPlace_any A n c P B m d K L r s l C u v p _ (Hp.out.keep HB.out) (Hg.out.keep HB.out) (Hl.out.keep HB.out) (Hc.out.keep HB.out)).mono ?_; rintro e X ⟨rfl, hbx⟩; rw [HE.out]; clear KYl KYc KYf; replace KY := KY.keep hbx; have KYl := KY.lt; have KYc := KY.get; have KYf := KY.fr; replace HB := Lib.hid (up HB.out hbx); clear hbx)
    go_ret3
    exact ⟨_, _, rfl, Lst.nil _ _, Lst.nil _ _, HB.out⟩
  · have hpl := (plE_len h1).1
    have h8 := (plE_len h1).2
    rw [h1] at HE
    cases hI : inB i 0 ((r : Int) - 1)
    · have HT : Hid (takE P K l p i = 1) := Lib.hid (by unfold takE orE; rw [if_pos h1, ← Hr.out, hI]; rfl)
      have HX : Hid (∀ q, takL P K l p i q = []) := Lib.hid (fun q => by unfold takL; rw [if_neg (by rw [HT.out]; decide)])
      have HI := Lib.hid hI
      rw [HX.out, HX.out, HT.out]
      clear h1 HT HX hI hpl
      go_enter Tryz.func39, Tryz.ntmps39
      go_upto_region 1 with fail
      generalize hW : (World.alloc _ _) = W
      have HB : Hid (Below w.heap.size w W) := Lib.hid (by subst hW; go_grown)
      have KY : Bx W (w.heap.size) 25 [.slice A n c, .slice B m d] := by subst hW; repeat (first | (refine Bx.newAt _ _ _ ?_; first | rfl | (simp only [World.size_alloc]; done) | (simp only [World.size_alloc]; omega)) | refine Bx.old ?_ _)
      clear hW
      have KYl := KY.lt; have KYc := KY.get; have KYf := KY.fr
      go_wp2_with (first
        | (go_at_call 41; refine (rcheckPlace_any A n c P B m d K L r s l C u v p _ (Hp.out.keep HB.out) (Hg.out.keep HB.out) (Hl.out.keep HB.out) (Hc.out.keep HB.out)).mono ?_; rintro e X ⟨rfl, hbx⟩; rw [HE.out]; clear KYl KYc KYf; replace KY := KY.keep hbx; have KYl := KY.lt; have KYc := KY.get; have KYf := KY.fr; replace HB := Lib.hid (up HB.out hbx); clear hbx)
        | (go_at_call 72; refine (rwithin_b _ _ _ _ _ HI.out).mono ?_; rintro e X2 ⟨rfl, hbx⟩; clear KYl KYc KYf; replace KY := KY.keep hbx; have KYl := KY.lt; have KYc := KY.get; have KYf := KY.fr; replace HB := Lib.hid (up HB.out hbx); clear hbx))
      go_ret3
      exact ⟨_, _, rfl, Lst.nil _ _, Lst.nil _ _, HB.out⟩
    · have HT : Hid (takE P K l p i = 0) := Lib.hid (by unfold takE orE; rw [if_pos h1, ← Hr.out, hI]; rfl)
      have hb := inB_iff.1 hI
      obtain ⟨j, rfl⟩ := Int.eq_ofNat_of_zero_le hb.1
      have HX : Hid (∀ q, takL P K l p (j : Int) q = q.eraseIdx j) := Lib.hid (fun q => by unfold takL; rw [if_pos HT.out, Int.toNat_natCast])
      have hjl : j < l.length := by have := Hr.out; omega
      have hjp : j < p.length := by omega
      have hl40 : l.length ≤ 1000 := by omega
      have hp40 : p.length ≤ 1000 := by omega
      have HI := Lib.hid hI
      rw [HX.out, HX.out, HT.out]
      clear h1 HT HX hI hpl hb
      go_enter Tryz.func39, Tryz.ntmps39
      go_upto_region 1 with fail
      generalize hW : (World.alloc _ _) = W
      have HB : Hid (Below w.heap.size w W) := Lib.hid (by subst hW; go_grown)
      have KY : Bx W (w.heap.size) 25 [.slice A n c, .slice B m d] := by subst hW; repeat (first | (refine Bx.newAt _ _ _ ?_; first | rfl | (simp only [World.size_alloc]; done) | (simp only [World.size_alloc]; omega)) | refine Bx.old ?_ _)
      clear hW
      have KYl := KY.lt; have KYc := KY.get; have KYf := KY.fr
      go_wp2_with (first
        | (go_at_call 41; refine (rcheckPlace_any A n c P B m d K L r s l C u v p _ (Hp.out.keep HB.out) (Hg.out.keep HB.out) (Hl.out.keep HB.out) (Hc.out.keep HB.out)).mono ?_; rintro e X ⟨rfl, hbx⟩; rw [HE.out]; clear KYl KYc KYf; replace KY := KY.keep hbx; have KYl := KY.lt; have KYc := KY.get; have KYf := KY.fr; replace HB := Lib.hid (up HB.out hbx); clear hbx)
        | (go_at_call 72; have HG := HI; refine (rwithin_b _ _ _ _ _ HI.out).mono ?_; rintro e X2 ⟨rfl, hbx⟩; clear KYl KYc KYf; replace KY := KY.keep hbx; have KYl := KY.lt; have KYc := KY.get; have KYf := KY.fr; replace HB := Lib.hid (up HB.out hbx); clear hbx; clear HI)
        | (go_at_call 91; have _hh := HG.out; clear _hh HG; refine (rwithout_any L r s l j _ (Hl.out.keep HB.out) hjl hrs hs hl40).mono ?_; rintro e V ⟨A1, c1, rfl, hO, hbv⟩; have HO1 := Lib.hid (hO.lst.mono HB.out.size); replace HB := Lib.hid (up HB.out hbv); clear hO hbv)
        | (go_at_call 91; refine (rwithout_any C u v p j _ (Hc.out.keep HB.out) hjp huv hv hp40).mono ?_; rintro e V2 ⟨A2, c2, rfl, hO, hbv⟩; have HO2 := Lib.hid (hO.lst.mono HB.out.size); have HO3 := Lib.hid (HO1.out.keep hbv); replace HB := Lib.hid (up HB.out hbv); clear hO hbv))
      go_ret3
      exact ⟨_, _, rfl, HO3.out, HO2.out, HB.out⟩
end
end Go.Proofs.YtifokapcobgjiaaGreat

namespace Go.Proofs.YtifokapcobgjiaaGreat
open Go Go.RowKit
set_option maxHeartbeats 2000000
set_option maxRecDepth 100000

section
variable (A : Option Addr) (n c : Nat) (P : List Int) (B : Option Addr) (m d : Nat) (K : List Kd) (L : Option Addr) (r s : Nat) (l : List Int) (C : Option Addr) (u v : Nat) (p : List Int) (w : World)
    (hp : Is w A n P) (hg : Ks w B m K) (hl : Is w L r l) (hc : Is w C u p) (hE : rplE P K l p = plE P K l p)
include hp hg hl hc hE
theorem rMove_any (i x : Int) (hS : sE P K l = 0 → ∀ q, isPlB P K l q = (standS P (apL K) (bsL K l) q).isSome) :
    Calls Tryz.prog 37 #[.agg #[.slice A n c, .slice B m d], .slice L r s, .slice C u v, .agg #[.int .i64 i, .int .i64 x]] w fun e w' => ∃ y, e = .returned (.tuple #[y, .int .i64 (movE P K l p i x)]) ∧ Lst w.heap.size w' y (movL P K l p i x) ∧ Below w.heap.size w w' := by
  have Hr : Hid (r = l.length) := Lib.hid hl.len
  have Hn : Hid (n = P.length) := Lib.hid hp.len
  have hrx := hl.small
  have hnx := hp.small
  have Hp := Lib.hid hp; have Hg := Lib.hid hg; have Hl := Lib.hid hl; have Hc := Lib.hid hc; have HE := Lib.hid hE; have HS := Lib.hid hS
  clear hp hg hl hc hE hS
  by_cases h1 : plE P K l p = 0
  rotate_left
  · have HT : Hid (movE P K l p i x = plE P K l p) := Lib.hid (by
      have : movT P K l p i x = plE P K l p := by unfold movT orE; rw [if_neg h1]
      unfold movE; rw [this, if_neg h1])
    have HX : Hid (movL P K l p i x = []) := Lib.hid (by unfold movL; rw [if_neg (by rw [HT.out]; exact h1)])
    have hne : (plE P K l p != 0) = true := by simpa using h1
    rw [HX.out, HT.out]
    clear h1 HT HX
    generalize plE P K l p = E at *
    go_enter Tryz.func37, Tryz.ntmps37
    go_upto_region 1 with fail
    generalize hW : (World.alloc _ _) = W
    have HB : Hid (Below w.heap.size w W) := Lib.hid (by subst hW; go_grown)
    have KY : Bx W (w.heap.size) 25 [.slice A n c, .slice B m d] := by subst hW; repeat (first | (refine Bx.newAt _ _ _ ?_; first | rfl | (simp only [World.size_alloc]; done) | (simp only [World.size_alloc]; omega)) | refine Bx.old ?_ _)
    have KS : Bx W (w.heap.size + 1) 26 [.int .i64 i, .int .i64 x] := by subst hW; repeat (first | (refine Bx.newAt _ _ _ ?_; first | rfl | (simp only [World.size_alloc]; done) | (simp only [World.size_alloc]; omega)) | refine Bx.old ?_ _)
    clear hW
    have KYl := KY.lt; have KYc := KY.get; have KYf := KY.fr; have KSl := KS.lt; have KSc := KS.get; have KSf := KS.fr
    go_wp2_with (go_at_call 41; refine (rcheckPlace_any A n c P B m d K L r s l C u v p _ (Hp.out.keep HB.out) (Hg.out.keep HB.out) (Hl.out.keep HB.out) (Hc.out.keep HB.out)).mono ?_; rintro e X ⟨rfl, hbx⟩; rw [HE.out]; clear KYl KYc KYf; replace KY := KY.keep hbx; have KYl := KY.lt; have KYc := KY.get; have KYf := KY.fr; clear KSl KSc KSf; replace KS := KS.keep hbx; have KSl := KS.lt; have KSc := KS.get; have KSf := KS.fr; replace HB := Lib.hid (up HB.out hbx); clear hbx)
    go_ret2
    exact ⟨_, rfl, Lst.nil _ _, HB.out⟩
  · have hpl := (plE_len h1).1
    have h8 := (plE_len h1).2
    have hs0 := (plE_ok h1).1
    rw [h1] at HE
    cases hI : inB i 0 ((r : Int) - 1)
    · have hT0 : movT P K l p i x = 1 := by unfold movT orE; rw [if_pos h1, ← Hr.out, hI]; rfl
      have HT : Hid (movE P K l p i x = 1) := Lib.hid (by unfold movE; rw [hT0]; rfl)
      have HX : Hid (movL P K l p i x = []) := Lib.hid (by unfold movL; rw [if_neg (by rw [HT.out]; decide)])
      have HI := Lib.hid hI
      rw [HX.out, HT.out]
      clear h1 HT HX hI hpl hT0
      go_enter Tryz.func37, Tryz.ntmps37
      go_upto_region 1 with fail
      generalize hW : (World.alloc _ _) = W
      have HB : Hid (Below w.heap.size w W) := Lib.hid (by subst hW; go_grown)
      have KY : Bx W (w.heap.size) 25 [.slice A n c, .slice B m d] := by subst hW; repeat (first | (refine Bx.newAt _ _ _ ?_; first | rfl | (simp only [World.size_alloc]; done) | (simp only [World.size_alloc]; omega)) | refine Bx.old ?_ _)
      have KS : Bx W (w.heap.size + 1) 26 [.int .i64 i, .int .i64 x] := by subst hW; repeat (first | (refine Bx.newAt _ _ _ ?_; first | rfl | (simp only [World.size_alloc]; done) | (simp only [World.size_alloc]; omega)) | refine Bx.old ?_ _)
      clear hW
      have KYl := KY.lt; have KYc := KY.get; have KYf := KY.fr; have KSl := KS.lt; have KSc := KS.get; have KSf := KS.fr
      go_wp2_with (first
        | (go_at_call 41; refine (rcheckPlace_any A n c P B m d K L r s l C u v p _ (Hp.out.keep HB.out) (Hg.out.keep HB.out) (Hl.out.keep HB.out) (Hc.out.keep HB.out)).mono ?_; rintro e X ⟨rfl, hbx⟩; rw [HE.out]; clear KYl KYc KYf; replace KY := KY.keep hbx; have KYl := KY.lt; have KYc := KY.get; have KYf := KY.fr; clear KSl KSc KSf; replace KS := KS.keep hbx; have KSl := KS.lt; have KSc := KS.get; have KSf := KS.fr; replace HB := Lib.hid (up HB.out hbx); clear hbx)
        | (go_at_call 72; refine (rwithin_b _ _ _ _ _ HI.out).mono ?_; rintro e X2 ⟨rfl, hbx⟩; clear KYl KYc KYf; replace KY := KY.keep hbx; have KYl := KY.lt; have KYc := KY.get; have KYf := KY.fr; clear KSl KSc KSf; replace KS := KS.keep hbx; have KSl := KS.lt; have KSc := KS.get; have KSf := KS.fr; replace HB := Lib.hid (up HB.out hbx); clear hbx))
      go_ret2
      exact ⟨_, rfl, Lst.nil _ _, HB.out⟩
    · cases hJ : inB x 0 ((n : Int) - 1)
      · have hT0 : movT P K l p i x = 56 := by
          unfold movT orE; rw [if_pos h1, ← Hr.out, hI]
          unfold orE; rw [if_pos (show err true 1 = 0 from rfl), ← Hn.out, hJ]; rfl
        have HT : Hid (movE P K l p i x = 56) := Lib.hid (by unfold movE; rw [hT0]; rfl)
        have HX : Hid (movL P K l p i x = []) := Lib.hid (by unfold movL; rw [if_neg (by rw [HT.out]; decide)])
        have HI := Lib.hid hI; have HJ := Lib.hid hJ
        rw [HX.out, HT.out]
        clear h1 HT HX hI hpl hT0 hJ
        go_enter Tryz.func37, Tryz.ntmps37
        go_upto_region 1 with fail
        generalize hW : (World.alloc _ _) = W
        have HB : Hid (Below w.heap.size w W) := Lib.hid (by subst hW; go_grown)
        have KY : Bx W (w.heap.size) 25 [.slice A n c, .slice B m d] := by subst hW; repeat (first | (refine Bx.newAt _ _ _ ?_; first | rfl | (simp only [World.size_alloc]; done) | (simp only [World.size_alloc]; omega)) | refine Bx.old ?_ _)
        have KS : Bx W (w.heap.size + 1) 26 [.int .i64 i, .int .i64 x] := by subst hW; repeat (first | (refine Bx.newAt _ _ _ ?_; first | rfl | (simp only [World.size_alloc]; done) | (simp only [World.size_alloc]; omega)) | refine Bx.old ?_ _)
        clear hW
        have KYl := KY.lt; have KYc := KY.get; have KYf := KY.fr; have KSl := KS.lt; have KSc := KS.get; have KSf := KS.fr
        go_upto_region 6 with (first
          | (go_at_call 41; refine (rcheckPlace_any A n c P B m d K L r s l C u v p _ (Hp.out.keep HB.out) (Hg.out.keep HB.out) (Hl.out.keep HB.out) (Hc.out.keep HB.out)).mono ?_; rintro e X ⟨rfl, hbx⟩; rw [HE.out]; clear KYl KYc KYf; replace KY := KY.keep hbx; have KYl := KY.lt; have KYc := KY.get; have KYf := KY.fr; clear KSl KSc KSf; replace KS := KS.keep hbx; have KSl := KS.lt; have KSc := KS.get; have KSf := KS.fr; replace HB := Lib.hid (up HB.out hbx); clear hbx)
          | (go_at_call 72; refine (rwithin_b _ _ _ _ _ HI.out).mono ?_; rintro e X2 ⟨rfl, hbx⟩; clear KYl KYc KYf; replace KY := KY.keep hbx; have KYl := KY.lt; have KYc := KY.get; have KYf := KY.fr; clear KSl KSc KSf; replace KS := KS.keep hbx; have KSl := KS.lt; have KSc := KS.get; have KSf := KS.fr; replace HB := Lib.hid (up HB.out hbx); clear hbx))
        go_wp2_with (go_at_call 72; refine (rwithin_b _ _ _ _ _ HJ.out).mono ?_; rintro e X3 ⟨rfl, hbx⟩; clear KYl KYc KYf; replace KY := KY.keep hbx; have KYl := KY.lt; have KYc := KY.get; have KYf := KY.fr; clear KSl KSc KSf; replace KS := KS.keep hbx; have KSl := KS.lt; have KSc := KS.get; have KSf := KS.fr; replace HB := Lib.hid (up HB.out hbx); clear hbx)
        go_ret2
        exact ⟨_, rfl, Lst.nil _ _, HB.out⟩
      · have hT0 : movT P K l p i x = 0 := by
          unfold movT orE; rw [if_pos h1, ← Hr.out, hI]
          unfold orE; rw [if_pos (show err true 1 = 0 from rfl), ← Hn.out, hJ]; rfl
        have hb := inB_iff.1 hI
        obtain ⟨j, rfl⟩ := Int.eq_ofNat_of_zero_le hb.1
        have hjl : j < l.length := by have := Hr.out; omega
        have hjp : j < p.length := by omega
        have hp8 : p.length ≤ 8 := by omega
        have hu8 : u ≤ 1000 := by have := Hc.out.len; omega
        obtain ⟨hyy, -, hlo⟩ := sE_0 hs0
        have HK := Lib.hid (yOk_k hyy).2.2; have HLo := Lib.hid hlo
        clear hyy hlo
        obtain ⟨BB, hBBe⟩ : ∃ BB, isPlB P K l (p.set j x) = BB := ⟨_, rfl⟩
        have HT : Hid (movE P K l p (j : Int) x = if BB = true then 0 else 53) := Lib.hid (by unfold movE; rw [if_pos hT0, Int.toNat_natCast, ← HS.out hs0, hBBe])
        have HX : Hid (movL P K l p (j : Int) x = if BB = true then p.set j x else []) := Lib.hid (by
          unfold movL; rw [HT.out, Int.toNat_natCast]
          cases BB
          · rfl
          · rfl)
        have HBe := Lib.hid hBBe
        have HI := Lib.hid hI; have HJ := Lib.hid hJ
        have hpset : (p.set j x).length ≤ 1000 := by rw [List.length_set]; omega
        rw [HX.out, HT.out]
        clear h1 HT HX hI hpl hT0 hJ hb hBBe
        go_enter Tryz.func37, Tryz.ntmps37
        go_upto_region 1 with fail
        generalize hW : (World.alloc _ _) = W
        have HB : Hid (Below w.heap.size w W) := Lib.hid (by subst hW; go_grown)
        have KY : Bx W (w.heap.size) 25 [.slice A n c, .slice B m d] := by subst hW; repeat (first | (refine Bx.newAt _ _ _ ?_; first | rfl | (simp only [World.size_alloc]; done) | (simp only [World.size_alloc]; omega)) | refine Bx.old ?_ _)
        have KS : Bx W (w.heap.size + 1) 26 [.int .i64 (j : Int), .int .i64 x] := by subst hW; repeat (first | (refine Bx.newAt _ _ _ ?_; first | rfl | (simp only [World.size_alloc]; done) | (simp only [World.size_alloc]; omega)) | refine Bx.old ?_ _)
        clear hW
        have KYl := KY.lt; have KYc := KY.get; have KYf := KY.fr; have KSl := KS.lt; have KSc := KS.get; have KSf := KS.fr
        go_upto_region 6 with (first
          | (go_at_call 41; refine (rcheckPlace_any A n c P B m d K L r s l C u v p _ (Hp.out.keep HB.out) (Hg.out.keep HB.out) (Hl.out.keep HB.out) (Hc.out.keep HB.out)).mono ?_; rintro e X ⟨rfl, hbx⟩; rw [HE.out]; clear KYl KYc KYf; replace KY := KY.keep hbx; have KYl := KY.lt; have KYc := KY.get; have KYf := KY.fr; clear KSl KSc KSf; replace KS := KS.keep hbx; have KSl := KS.lt; have KSc := KS.get; have KSf := KS.fr; replace HB := Lib.hid (up HB.out hbx); clear hbx)
          | (go_at_call 72; refine (rwithin_b _ _ _ _ _ HI.out).mono ?_; rintro e X2 ⟨rfl, hbx⟩; clear KYl KYc KYf; replace KY := KY.keep hbx; have KYl := KY.lt; have KYc := KY.get; have KYf := KY.fr; clear KSl KSc KSf; replace KS := KS.keep hbx; have KSl := KS.lt; have KSc := KS.get; have KSf := KS.fr; replace HB := Lib.hid (up HB.out hbx); clear hbx))
        go_upto_region 8 with (go_at_call 72; refine (rwithin_b _ _ _ _ _ HJ.out).mono ?_; rintro e X3 ⟨rfl, hbx⟩; clear KYl KYc KYf; replace KY := KY.keep hbx; have KYl := KY.lt; have KYc := KY.get; have KYf := KY.fr; clear KSl KSc KSf; replace KS := KS.keep hbx; have KSl := KS.lt; have KSc := KS.get; have KSf := KS.fr; replace HB := Lib.hid (up HB.out hbx); clear hbx)
        have hXs := HB.out.size
        have HO := Lib.hid (show OI (X3.alloc (.cells #[] 3)) X3.heap.size (.slice (some ⟨X3.heap.size, 0, none⟩) 0 0) [] from ⟨World.ownsRow_made X3 #[] 0 (Nat.le_refl _) (by unfold maxLen; omega) rfl⟩)
        have hb1 := up_alloc X3 (.cells #[] 3)
        have HC1 := Lib.hid ((Hc.out.keep HB.out).keep hb1)
        have HbX := Lib.hid hb1
        have KS3 := KS
        have HB3 := HB
        clear hb1
        go_upto_region 9 with (at_builtin; go_loud (refine wpList_appAny HO.out (.tmp 34) (.tmp 35) rfl rfl rfl rfl HC1.out (by simp; omega) HbX.out.size ?_; intro A' c' X hO hb; have HX := Lib.hid hO; have HBX := Lib.hid (HbX.out.trans hb); have HBw := Lib.hid (up HB3.out (HbX.out.trans hb)); clear hO hb KSl KSc KSf KYl KYc KYf; have KSX := KS3.keep HBX.out; have KSXl := KSX.lt; have KSXc := KSX.get; have KSXf := KSX.fr))
        have HO2 : Hid (OI X X3.heap.size (.slice A' p.length c') p) := Lib.hid (by have := HX.out; rwa [List.nil_append] at this)
        clear HX
        obtain ⟨A2, c2, e2, hc2, his, hfar⟩ := HO2.out.is
        have Hcap := Lib.hid HO2.out.cap
        cases e2
        obtain ⟨g, rfl, hgU, hR⟩ := HO2.out.rowI (by omega)
        have HR := Lib.hid hR
        have hcf := hR.cell hjp
        have hff := hR.fr j
        clear his hfar hR HO2
        have hjp' : (j : Int) < (p.length : Int) := by omega
        generalize p[j] = y0 at *
        go_upto_region 10 with fail
        have pY := Put.cell X g j (.int .i64 x)
        have hset := HR.out.set j x
        generalize World.setCell X _ _ = T at *
        have HbT := Lib.hid (HBX.out.trans (pY.below hgU))
        have hI := hset.is hpset
        rw [List.length_set] at hI
        have HI2 := Lib.hid hI
        have HBT := Lib.hid (up HB3.out HbT.out)
        have hgT : g < T.heap.size := hset.lt
        have KYT := KY.keep HbT.out
        clear pY hset hcf hff HR hI KSX KSXl KSXc KSXf KS3 KS
        have KYTl := KYT.lt; have KYTc := KYT.get; have KYTf := KYT.fr
        cases BB
        · go_wp2_with (go_at_call 89; refine (risPlace_any A n c P B m d K L r s l (some ⟨g, 0, none⟩) p.length c' (p.set j x) _ (Hp.out.keep HBT.out) (Hg.out.keep HBT.out) (Hl.out.keep HBT.out) HI2.out HK.out HLo.out (by omega)).mono ?_; rintro e R ⟨rfl, hbr⟩; rw [HBe.out]; have HBR := Lib.hid (up HBT.out hbr); have HIR := Lib.hid (HI2.out.keep hbr); clear hbr)
          go_ret2
          exact ⟨_, rfl, Lst.nil _ _, HBR.out⟩
        · go_wp2_with (go_at_call 89; refine (risPlace_any A n c P B m d K L r s l (some ⟨g, 0, none⟩) p.length c' (p.set j x) _ (Hp.out.keep HBT.out) (Hg.out.keep HBT.out) (Hl.out.keep HBT.out) HI2.out HK.out HLo.out (by omega)).mono ?_; rintro e R ⟨rfl, hbr⟩; rw [HBe.out]; have HBR := Lib.hid (up HBT.out hbr); have HIR := Lib.hid (HI2.out.keep hbr); clear hbr)
          go_ret2
          exact ⟨_, rfl, ⟨_, p.length, c', rfl, ⟨hc2, Hcap.out⟩, HIR.out, fun q hq => by cases hq; simp only; omega⟩, HBR.out⟩
end
end Go.Proofs.YtifokapcobgjiaaGreat

namespace Go.Proofs.YtifokapcobgjiaaGreat
open Go Go.RowKit
set_option maxHeartbeats 2000000
set_option maxRecDepth 100000

section
variable (A : Option Addr) (n c : Nat) (P : List Int) (B : Option Addr) (m d : Nat) (K : List Kd) (L : Option Addr) (r s : Nat) (l : List Int) (C : Option Addr) (u v : Nat) (p : List Int) (w : World)
    (hp : Is w A n P) (hg : Ks w B m K) (hl : Is w L r l) (hc : Is w C u p) (hE : rplE P K l p = plE P K l p)
include hp hg hl hc hE
theorem rFree_any :
    Calls Tryz.prog 31 #[.agg #[.slice A n c, .slice B m d], .slice L r s, .slice C u v] w fun e w' => ∃ x, e = .returned (.tuple #[x, .int .i64 (plE P K l p)]) ∧ Lst w.heap.size w' x (freL P K l p) ∧ Below w.heap.size w w' := by
  have Hu : Hid (u = p.length) := Lib.hid hc.len
  have Hn : Hid (n = P.length) := Lib.hid hp.len
  have Hr : Hid (r = l.length) := Lib.hid hl.len
  have hrx := hl.small
  have hnx := hp.small
  have Hp := Lib.hid hp; have Hg := Lib.hid hg; have Hl := Lib.hid hl; have Hc := Lib.hid hc; have HE := Lib.hid hE
  clear hp hg hl hc hE
  by_cases h1 : plE P K l p = 0
  rotate_left
  · have HX : Hid (freL P K l p = []) := Lib.hid (by unfold freL; rw [if_neg h1])
    have hne : (plE P K l p != 0) = true := by simpa using h1
    rw [HX.out]
    clear h1 HX
    generalize plE P K l p = E at *
    go_enter Tryz.func31, Tryz.ntmps31
    go_upto_region 1 with fail
    generalize hW : (World.alloc _ _) = W
    have HB : Hid (Below w.heap.size w W) := Lib.hid (by subst hW; go_grown)
    have KY : Bx W (w.heap.size) 25 [.slice A n c, .slice B m d] := by subst hW; repeat (first | (refine Bx.newAt _ _ _ ?_; first | rfl | (simp only [World.size_alloc]; done) | (simp only [World.size_alloc]; omega)) | refine Bx.old ?_ _)
    clear hW
    have KYl := KY.lt; have KYc := KY.get; have KYf := KY.fr
    go_wp2_with (go_at_call 41; refine (rcheckPlace_any A n c P B m d K L r s l C u v p _ (Hp.out.keep HB.out) (Hg.out.keep HB.out) (Hl.out.keep HB.out) (Hc.out.keep HB.out)).mono ?_; rintro e X ⟨rfl, hbx⟩; rw [HE.out]; clear KYl KYc KYf; replace KY := KY.keep hbx; have KYl := KY.lt; have KYc := KY.get; have KYf := KY.fr; replace HB := Lib.hid (up HB.out hbx); clear hbx)
    go_ret2
    exact ⟨_, rfl, Lst.nil _ _, HB.out⟩
  · have h8 := (plE_len h1).2
    obtain ⟨hs0, st, hst⟩ := plE_ok h1
    obtain ⟨hpl, hpin⟩ := standS_in hst
    obtain ⟨hy, -, hlo⟩ := sE_0 hs0
    obtain ⟨h5, hP, hK⟩ := yOk_k hy
    have hgood := bsL_good hK hlo
    have Hfin := Lib.hid (freK_in (p := p) hP hgood)
    have Hpin := Lib.hid hpin
    have Hgood := Lib.hid hgood
    have hbl : (bsL K l).length = l.length := bsL_len K l
    have Hlen : Hid (p.length = (bsL K l).length) := Lib.hid hpl
    have Hbl := Lib.hid hbl
    have hu8 : u ≤ 1000 := by have := Hu.out; omega
    have hn8 : n ≤ 1000 := by have := Hn.out; omega
    have H5 := Lib.hid h5
    have HX : Hid (freL P K l p = freK P (bsL K l) p p.length) := Lib.hid (by unfold freL; rw [if_pos h1])
    rw [h1] at HE
    rw [HX.out, h1]
    clear h1 HX hs0 hst hpl hpin hgood hy hlo hP hK hbl h5
    go_enter Tryz.func31, Tryz.ntmps31
    go_upto_region 1 with fail
    generalize hW : (World.alloc _ _) = W
    have HB : Hid (Below w.heap.size w W) := Lib.hid (by subst hW; go_grown)
    have KY : Bx W (w.heap.size) 25 [.slice A n c, .slice B m d] := by subst hW; repeat (first | (refine Bx.newAt _ _ _ ?_; first | rfl | (simp only [World.size_alloc]; done) | (simp only [World.size_alloc]; omega)) | refine Bx.old ?_ _)
    clear hW
    have KYl := KY.lt; have KYc := KY.get; have KYf := KY.fr
    go_upto_region 4 with (go_at_call 41; refine (rcheckPlace_any A n c P B m d K L r s l C u v p _ (Hp.out.keep HB.out) (Hg.out.keep HB.out) (Hl.out.keep HB.out) (Hc.out.keep HB.out)).mono ?_; rintro e X ⟨rfl, hbx⟩; rw [HE.out]; clear KYl KYc KYf; replace KY := KY.keep hbx; have KYl := KY.lt; have KYc := KY.get; have KYf := KY.fr; replace HB := Lib.hid (up HB.out hbx); clear hbx)
    have HO := Lib.hid (show OI (X.alloc (.cells #[] 3)) X.heap.size (.slice (some ⟨X.heap.size, 0, none⟩) 0 0) [] from ⟨World.ownsRow_made X #[] 0 (Nat.le_refl _) (by unfold maxLen; omega) rfl⟩)
    have hb1 := up_alloc X (.cells #[] 3)
    have HP1 := Lib.hid ((Hp.out.keep HB.out).keep hb1)
    have HbX := Lib.hid hb1
    have KYX := KY.keep hb1
    clear hb1 KYl KYc KYf
    have KYXl := KYX.lt; have KYXc := KYX.get; have KYXf := KYX.fr
    have hwX := HB.out.size
    go_upto_region 5 with (at_builtin; refine wpList_appAny HO.out (.tmp 19) (.tmp 21) rfl rfl rfl rfl HP1.out (by simp; omega) HbX.out.size ?_; intro A' c' Y hO hb; have HX := Lib.hid hO; have HBY := Lib.hid (HbX.out.trans hb); clear hO hb KYXl KYXc KYXf KYX)
    have HO2 : Hid (OI Y X.heap.size (.slice A' P.length c') P) := Lib.hid (by have := HX.out; rwa [List.nil_append] at this)
    clear HX HO HP1 HbX
    have hcap := HO2.out.cap
    obtain ⟨A2, c2, e2, hc2, his, hfar⟩ := HO2.out.is
    cases e2
    have hrow : 0 < P.length → ∃ g, A' = some ⟨g, 0, none⟩ ∧ X.heap.size ≤ g ∧ Row Y g P := fun h => HO2.out.rowI h
    have Hfar := Lib.hid hfar
    have Hcap := Lib.hid hcap
    have HIs := Lib.hid his
    have hbY := HBY.out
    clear hfar his hcap HO2
    go_wp2_with fail
    go_loopw [25] (fun i wr => ∃ (k : Nat), k ≤ u ∧ i = .int .i64 k ∧ Is wr A' P.length (freK P (bsL K l) p k) ∧ (0 < P.length → ∃ g, A' = some ⟨g, 0, none⟩ ∧ X.heap.size ≤ g ∧ Row wr g (freK P (bsL K l) p k)) ∧ Below X.heap.size X wr) (fun i _ => u - (intOf i).toNat)
    case atStart => exact ⟨0, by omega, rfl, HIs.out, hrow, hbY⟩
    case round =>
      clear hrow hbY
      obtain ⟨k, hk, rfl, his, hrow, hb⟩ := hrel
      have HBV := Lib.hid hb
      have HBw := Lib.hid (up HB.out hb)
      have KYw := KY.keep hb
      clear hb
      by_cases hlt : k < u
      · have hkp : k < p.length := by rw [← Hu.out]; exact hlt
        have hkb : k < (bsL K l).length := by rw [← Hlen.out]; exact hkp
        have hkl : k < l.length := by rw [← Hbl.out]; exact hkb
        have hpk := Hpin.out k hkp
        have hP0 : 0 < P.length := by omega
        obtain ⟨g, rfl, hgU, hR⟩ := hrow hP0
        have HK1 : Hid (freK P (bsL K l) p (k + 1) = (freK P (bsL K l) p k).set p[k].toNat ((freK P (bsL K l) p k).getD p[k].toNat 0 - (kdD K l[k]).r)) := Lib.hid (by rw [freK]; simp [hkp, bsL, hkl])
        have hfl := freK_len P (bsL K l) p k
        have hkd := Hgood.out (bsL K l)[k] (List.getElem_mem hkb)
        rw [show (bsL K l)[k] = kdD K l[k] by simp [bsL]] at hkd
        obtain ⟨b, o, rfl, hb, hcp⟩ := (Hc.out.keep HBw.out).get k hkp
        obtain ⟨b2, o2, rfl, hb2, hcl⟩ := (Hl.out.keep HBw.out).get k hkl
        obtain ⟨j, hj⟩ := Int.eq_ofNat_of_zero_le hpk.1
        have hj2 : p[k].toNat = j := by omega
        rw [hj2] at HK1
        have hjP : j < P.length := by omega
        have hjf : j < (freK P (bsL K l) p k).length := by rw [hfl]; exact hjP
        have hcf := hR.cell hjf
        have hf := Hfin.out k (by omega) j hjf
        rw [show (freK P (bsL K l) p k).getD j 0 = (freK P (bsL K l) p k)[j] by simp [hjf]] at HK1
        rw [hj] at hcp hpk
        have HR := Lib.hid hR
        have hgl := hR.lt
        have hff := hR.fr j
        have hkr : k < r := by rw [Hr.out]; exact hkl
        have hk8 : k ≤ 8 := by omega
        obtain ⟨y, hye⟩ : ∃ y, (kdD K l[k]).r = y := ⟨_, rfl⟩
        have HRM : Hid (∀ V, Below w.heap.size w V → Calls Tryz.prog 81 #[.agg #[.slice A n c, .slice B m d], .int .i64 l[k]] V fun e w' => e = .returned (.int .i64 y) ∧ Below V.heap.size V w') := Lib.hid (fun V hV => by
          rw [← hye]; exact rroom_any A n c B m d K l[k] V (Hg.out.keep hV))
        have Hrow := Lib.hid hrow; have His := Lib.hid his
        rw [hye] at HK1 hkd
        generalize (freK P (bsL K l) p k)[j] = x at *
        generalize l[k] = z0 at *
        have hxy : -10000 ≤ x - y ∧ x - y ≤ 10000 := by omega
        have e1 : IntKind.i64.wrap (x - y) = x - y := by rw [IntWalk.i64_in _ (by omega)]
        clear hR hrow his hj hj2 hye
        have KYwl := KYw.lt; have KYwc := KYw.get; have KYwf := KYw.fr
        go_upto_region 8 with fail
        refine wp_region_grow_tail 12 (by kernel_rfl) (by kernel_rfl) ?_
        simp only [List.take_succ_cons, List.take_zero, List.drop_succ_cons, List.drop_zero]
        repeat (go_big_quiet_step ((go_at_call 81; exact quiet_grow rfl (HRM.out _ (up HBw.out (grow_below _ _))))))
        refine wpQuiet_nil ?_
        intro z
        have hbz := grow_below wr z
        have hffz := (hbz.frozen (p := ⟨g, j, none⟩) hgl).trans hff
        have hcfz := (hbz.cell (p := ⟨g, j, none⟩) hgl).trans hcf
        generalize grow wr z = Y9 at *
        have HRY := Lib.hid (HR.out.keep hbz)
        have HVY := Lib.hid (up HBV.out hbz)
        have hgY : g < Y9.heap.size := HRY.out.lt
        clear KYwl KYwc KYwf hcf hff hcp hb hb2 KYw hcl
        go_wp2
        have pY := Put.cell Y9 g j (.int .i64 (x - y))
        have hset := HRY.out.set j (x - y)
        have hse := hset.is (by rw [List.length_set, hfl]; have := H5.out; omega)
        rw [List.length_set, hfl] at hse
        exact ⟨⟨k + 1, by omega, by go_num, by rw [HK1.out]; exact hse, fun _ => ⟨g, rfl, hgU, by rw [HK1.out]; exact hset⟩, HVY.out.trans (pY.below hgU)⟩, by simp [intOf]; omega⟩
      · obtain rfl : k = u := by omega
        have Ho : Hid (freK P (bsL K l) p k = freK P (bsL K l) p p.length) := Lib.hid (by rw [Hu.out])
        rw [Ho.out] at his
        have HI := Lib.hid his
        clear his hrow
        go_wp2
        go_ret2
        exact ⟨_, rfl, ⟨A', P.length, c', rfl, ⟨hc2, Hcap.out⟩, HI.out, fun q hq => by have := Hfar.out q hq; omega⟩, HBw.out⟩
end
end Go.Proofs.YtifokapcobgjiaaGreat

