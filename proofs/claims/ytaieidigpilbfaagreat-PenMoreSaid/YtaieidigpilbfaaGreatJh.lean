/- Contracts of functions of the program and of the reference, and plain facts: a part of a proof. Own text. -/
import Derived.Test.YtaieidigpilbfaaGreatJb
import Derived.Test.YtaieidigpilbfaaGreatJf
set_option linter.unusedVariables false
set_option linter.unusedSimpArgs false
set_option linter.unusedSectionVars false
namespace Go.Proofs.YtaieidigpilbfaaGreat
open Go Go.RowKit
set_option maxHeartbeats 1000000
set_option maxRecDepth 100000

def ssE (P : List Int) (K : List Kd) (l : List St) : Int := if yOk P K = true then err (decide (l.length ≤ 40) && ssOk K l) 55 else 50
theorem lOk1 (K : List Kd) (x : Int) : lOk K [x] = kdI K x := by unfold lOk; simp
theorem validStay_any (A : Option Addr) (n c : Nat) (B : Option Addr) (m d : Nat) (K : List Kd) (x : St) (w : World) (hg : Ks w B m K) :
    Calls Tryz.prog 123 #[.agg #[.slice A n c, .slice B m d], sv x] w fun e w' => e = .returned (.bool (stB K x)) ∧ Below w.heap.size w w' := by
  obtain ⟨s, i, o⟩ := x
  have HT : Hid (stB K ⟨s, i, o⟩ = (kdI K s && inB i 0 100000 && ((o == -1) || inB o i 100000))) := Lib.hid rfl
  have Hg := Lib.hid hg
  have HE : Hid (err (lOk K [s]) 51 = if kdI K s = true then 0 else 51) := Lib.hid (by rw [lOk1]; rfl)
  clear hg
  unfold sv
  cases h1 : (o == -1) <;> cases h2 : kdI K s <;> cases h3 : inB i 0 100000 <;> cases h4 : inB o i 100000
  all_goals
    have HT2 := HT.out
    have HE2 := HE.out
    rw [h1, h2, h3, h4] at HT2
    rw [h2] at HE2
    simp only [Bool.and_true, Bool.and_false, Bool.true_and, Bool.false_and, Bool.or_true, Bool.or_false, Bool.false_eq_true, if_true, if_false] at HT2 HE2
    have HT3 := Lib.hid HT2; have HE3 := Lib.hid HE2; have H3 := Lib.hid h3; have H4 := Lib.hid h4
    clear HT2 HE2 HT HE h2 h3 h4
    go_enter Tryz.func123, Tryz.ntmps123
    go_upto_region 1 with fail
    generalize hW : (World.alloc _ _) = W
    have HB : Hid (Below w.heap.size w W) := Lib.hid (by subst hW; go_grown)
    have KY : Bx W (w.heap.size) 25 [.slice A n c, .slice B m d] := by subst hW; repeat (first | (refine Bx.newAt _ _ _ ?_; first | rfl | (simp only [World.size_alloc]; done) | (simp only [World.size_alloc]; omega)) | refine Bx.old ?_ _)
    have KS : Bx W (w.heap.size + 1) 76 [.int .i64 s, .int .i64 i, .int .i64 o] := by subst hW; repeat (first | (refine Bx.newAt _ _ _ ?_; first | rfl | (simp only [World.size_alloc]; done) | (simp only [World.size_alloc]; omega)) | refine Bx.old ?_ _)
    clear hW
    have KYl := KY.lt; have KYc := KY.get; have KYf := KY.fr; have KSl := KS.lt; have KSc := KS.get; have KSf := KS.fr
    have HL : Hid (Is (W.alloc (.cells #[.int .i64 s] 3)) (some ⟨W.heap.size, 0, none⟩) 1 [s]) := Lib.hid (isC W 3 [s] (by simp))
    have hba := up_alloc W (.cells #[.int .i64 s] 3)
    have HG2 := Lib.hid ((Hg.out.keep HB.out).keep hba)
    have KSa := KS.keep hba
    have HBa := Lib.hid (up HB.out hba)
    clear hba
    go_wp2_with (first
      | (go_at_call 70; refine (within_any _ _ _ _).mono ?_; rintro e w' ⟨rfl, rfl⟩; rw [H4.out])
      | (go_at_call 66; refine (checkKinds_any A n c B m d K _ 1 1 [s] _ HG2.out HL.out).mono ?_; rintro e V ⟨rfl, hbv⟩; rw [HE3.out]; have KSV := KSa.keep hbv; have HBV := Lib.hid (up HBa.out hbv); clear hbv KS KSl KSc KSf KSa KY KYl KYc KYf; have KSVl := KSV.lt; have KSVc := KSV.get; have KSVf := KSV.fr)
      | (go_at_call 147; refine (validDay_any _ _).mono ?_; rintro e w' ⟨rfl, rfl⟩; rw [H3.out]))
    go_ret
    exact ⟨ret_bool HT3.out.symm, HBV.out⟩
theorem stayBad_any (A : Option Addr) (n c : Nat) (B : Option Addr) (m d : Nat) (K : List Kd) (x : St) (q : Nat) (w : World) (hg : Ks w B m K) (k : Bx w q 25 [.slice A n c, .slice B m d]) :
    Calls Tryz.prog 122 #[sv x, .pointer (some ⟨q, 0, none⟩)] w fun e w' => e = .returned (.bool (!stB K x)) ∧ Below w.heap.size w w' := by
  have Hg := Lib.hid hg; have HK := Lib.hid k
  clear hg k
  have HV : Hid (∀ W, Below w.heap.size w W → Calls Tryz.prog 123 #[.agg #[.slice A n c, .slice B m d], sv x] W fun e w' => e = .returned (.bool (stB K x)) ∧ Below W.heap.size W w') := Lib.hid (fun W hW => validStay_any A n c B m d K x W (Hg.out.keep hW))
  generalize stB K x = b at *
  obtain ⟨s, i, o⟩ := x
  unfold sv at *
  go_enter Tryz.func122, Tryz.ntmps122
  go_upto_region 1 with fail
  generalize hW : (World.alloc _ _) = W
  have HB : Hid (Below w.heap.size w W) := Lib.hid (by subst hW; go_grown)
  have KS : Bx W (w.heap.size) 76 [.int .i64 s, .int .i64 i, .int .i64 o] := by subst hW; repeat (first | (refine Bx.newAt _ _ _ ?_; first | rfl | (simp only [World.size_alloc]; done) | (simp only [World.size_alloc]; omega)) | refine Bx.old ?_ _)
  clear hW
  have KSl := KS.lt; have KSc := KS.get; have KSf := KS.fr
  have KY := HK.out.keep HB.out
  have KYl := KY.lt; have KYc := KY.get; have KYf := KY.fr
  go_wp2_with (go_at_call 123; refine (HV.out _ HB.out).mono ?_; rintro e V ⟨rfl, hbv⟩; have HBV := Lib.hid (up HB.out hbv); clear hbv)
  go_ret
  exact ⟨rfl, HBV.out⟩

/-- The index of the first stay of which something is so, from k on; -1 if there is none. -/
def posS (f : St → Bool) : List St → Nat → Int
  | [], _ => -1
  | y :: r, k => if f y = true then k else posS f r (k + 1)
theorem posS_yes {f : St → Bool} {y : St} (r : List St) (k : Nat) (h : f y = true) : posS f (y :: r) k = k := by unfold posS; rw [if_pos h]
theorem posS_no {f : St → Bool} {y : St} (r : List St) (k : Nat) (h : f y = false) : posS f (y :: r) k = posS f r (k + 1) := by rw [posS, if_neg (by simp [h])]
theorem posS_any (f : St → Bool) (l : List St) : ∀ k : Nat, decide (posS f l k ≥ 0) = l.any f := by
  induction l with
  | nil => intro k; rfl
  | cons y r ih =>
    intro k
    cases h : f y
    · rw [posS_no r k h, ih (k + 1)]; simp [h]
    · rw [posS_yes r k h]; simp [h]
def PrSt (g : FuncId) (v1 : Value) (f : St → Bool) (w : World) : Prop :=
  ∀ X x, Below w.heap.size w X → Calls Tryz.prog g #[sv x, v1] X fun e w' => e = .returned (.bool (f x)) ∧ Below X.heap.size X w'
section
variable (g : FuncId) (v1 : Value) (f : St → Bool) (w : World) (eg : ∀ args w, (callFunc g args).run Tryz.prog w = .ok (.enter g args) w) (hf : PrSt g v1 f w)
include eg hf
theorem indexS_any (L : Option Addr) (r s : Nat) (l : List St) (hl : Ss w L r l) :
    Calls Tryz.prog 151 #[.slice L r s, .func (.func g) #[] #[v1]] w fun e w' => e = .returned (.int .i64 (posS f l 0)) ∧ Below w.heap.size w w' := by
  have hn := hl.small
  have Hr : Hid (r = l.length) := Lib.hid hl.len
  have Hl := Lib.hid hl; have Hf := Lib.hid hf
  clear hl hf
  go_enter Tryz.func151, Tryz.ntmps151
  go_wp2_with fail
  go_loopw [8] (fun i wr => ∃ (k : Nat), k ≤ r ∧ i = .int .i64 k ∧ Below w.heap.size w wr ∧ posS f (l.drop k) k = posS f l 0) (fun i _ => r - (intOf i).toNat)
  case atStart => exact ⟨0, by omega, rfl, Below.refl _ _, rfl⟩
  case round =>
    obtain ⟨k, hk, rfl, hb, hp⟩ := hrel
    have HB := Lib.hid hb; have Hp := Lib.hid hp
    clear hb hp
    by_cases hlt : k < r
    · have hkl : k < l.length := by rw [← Hr.out]; exact hlt
      have Hd : Hid (l.drop k = l[k] :: l.drop (k + 1)) := Lib.hid (List.drop_eq_getElem_cons hkl)
      obtain ⟨b, o, rfl, hb, hcs⟩ := (Hl.out.keep HB.out).get k hkl
      obtain ⟨c0, c1, c2⟩ := hcs
      generalize l[k] = y at *
      cases hF : f y
      all_goals
        have HF := Lib.hid hF
        clear hF
        go_wp2_with (go_at_fn g; refine (Hf.out _ y HB.out).mono ?_; rintro e U ⟨rfl, hbu⟩; rw [HF.out]; have HBU := Lib.hid (up HB.out hbu); clear hbu)
      · refine ⟨⟨k + 1, by omega, by go_num, HBU.out, ?_⟩, by simp [intOf]; omega⟩
        rw [← Hp.out, Hd.out, posS_no _ _ HF.out]
      · go_ret
        refine ⟨ret_int ?_, HBU.out⟩
        rw [← Hp.out, Hd.out, posS_yes _ _ HF.out]
    · obtain rfl : k = r := by omega
      have Ho : Hid (posS f l 0 = -1) := Lib.hid (by rw [← Hp.out, Hr.out, List.drop_length]; rfl)
      go_wp2
      go_ret
      exact ⟨ret_int Ho.out.symm, HB.out⟩
theorem containsS_any (L : Option Addr) (r s : Nat) (l : List St) (hl : Ss w L r l) :
    Calls Tryz.prog 121 #[.slice L r s, .func (.func g) #[] #[v1]] w fun e w' => e = .returned (.bool (l.any f)) ∧ Below w.heap.size w w' := by
  have Ho : Hid (decide (posS f l 0 ≥ 0) = l.any f) := Lib.hid (posS_any f l 0)
  have H := Lib.hid (indexS_any g v1 f w eg hf L r s l hl)
  clear hl hf
  generalize posS f l 0 = q at *
  go_enter Tryz.func121, Tryz.ntmps121
  go_wp2_with (go_at_call 151; refine H.out.mono ?_; rintro e U ⟨rfl, hbu⟩; have HBU := Lib.hid hbu; clear hbu)
  go_ret
  exact ⟨ret_bool Ho.out, HBU.out⟩
end
theorem all_not_anyS (f : St → Bool) (l : List St) : l.all f = !l.any (fun o => !f o) := by
  induction l with
  | nil => rfl
  | cons y t ih => rw [List.all_cons, List.any_cons, ih]; cases f y <;> rfl

theorem checkStays_any (A : Option Addr) (n c : Nat) (P : List Int) (B : Option Addr) (m d : Nat) (K : List Kd) (L : Option Addr) (r s : Nat) (l : List St) (w : World) (hp : Is w A n P) (hg : Ks w B m K) (hl : Ss w L r l) :
    Calls Tryz.prog 56 #[.agg #[.slice A n c, .slice B m d], .slice L r s] w fun e w' => e = .returned (.int .i64 (ssE P K l)) ∧ Below w.heap.size w w' := by
  have Hr : Hid (r = l.length) := Lib.hid hl.len
  have hrs := hl.small
  have Hp := Lib.hid hp; have Hg := Lib.hid hg; have Hl := Lib.hid hl
  clear hp hg hl
  cases hy : yOk P K
  · have HE : Hid (ssE P K l = 50) := Lib.hid (by unfold ssE; rw [hy]; rfl)
    have HY : Hid (yE P K = 50) := Lib.hid (yE_f hy)
    clear hy
    go_enter Tryz.func56, Tryz.ntmps56
    go_upto_region 1 with fail
    generalize hW : (World.alloc _ _) = W
    have HB : Hid (Below w.heap.size w W) := Lib.hid (by subst hW; go_grown)
    have KY : Bx W (w.heap.size) 25 [.slice A n c, .slice B m d] := by subst hW; repeat (first | (refine Bx.newAt _ _ _ ?_; first | rfl | (simp only [World.size_alloc]; done) | (simp only [World.size_alloc]; omega)) | refine Bx.old ?_ _)
    clear hW
    have KYl := KY.lt; have KYc := KY.get; have KYf := KY.fr
    go_wp2_with (go_at_call 18; refine (checkYard_any _ _ _ P _ _ _ K _ (Hp.out.keep HB.out) (Hg.out.keep HB.out)).mono ?_; rintro e X ⟨rfl, hbx⟩; rw [HY.out]; clear KYl KYc KYf; replace KY := KY.keep hbx; have KYl := KY.lt; have KYc := KY.get; have KYf := KY.fr; replace HB := Lib.hid (up HB.out hbx); clear hbx)
    go_ret
    exact ⟨ret_int HE.out.symm, HB.out⟩
  · have HY : Hid (yE P K = 0) := Lib.hid (yE_t hy)
    have HE : Hid (ssE P K l = err (decide (l.length ≤ 40) && ssOk K l) 55) := Lib.hid (by unfold ssE; rw [hy]; rfl)
    have HA : Hid (ssOk K l = !l.any (fun x => !stB K x)) := Lib.hid (all_not_anyS _ _)
    clear hy
    by_cases h40 : r ≤ 40
    · have H40 : Hid (decide (l.length ≤ 40) = true) := Lib.hid (by rw [← Hr.out]; simpa using h40)
      go_enter Tryz.func56, Tryz.ntmps56
      go_upto_region 1 with fail
      generalize hW : (World.alloc _ _) = W
      have HB : Hid (Below w.heap.size w W) := Lib.hid (by subst hW; go_grown)
      have KY : Bx W (w.heap.size) 25 [.slice A n c, .slice B m d] := by subst hW; repeat (first | (refine Bx.newAt _ _ _ ?_; first | rfl | (simp only [World.size_alloc]; done) | (simp only [World.size_alloc]; omega)) | refine Bx.old ?_ _)
      clear hW
      have KYl := KY.lt; have KYc := KY.get; have KYf := KY.fr
      go_upto_region 4 with (go_at_call 18; refine (checkYard_any _ _ _ P _ _ _ K _ (Hp.out.keep HB.out) (Hg.out.keep HB.out)).mono ?_; rintro e X ⟨rfl, hbx⟩; rw [HY.out]; clear KYl KYc KYf; replace KY := KY.keep hbx; have KYl := KY.lt; have KYc := KY.get; have KYf := KY.fr; replace HB := Lib.hid (up HB.out hbx); clear hbx)
      have HC := Lib.hid (containsS_any 122 (.pointer (some ⟨w.heap.size, 0, none⟩)) (fun x => !stB K x) X (fun args w => by kernel_rfl)
        (fun Z x hZ => stayBad_any A n c B m d K x _ Z ((Hg.out.keep HB.out).keep hZ) (KY.keep hZ)) L r s l (Hl.out.keep HB.out))
      generalize l.any _ = Q at *
      go_wp2_with (first
        | (go_at_call 121; refine HC.out.mono ?_; rintro e U ⟨rfl, hbu⟩; have HBU := Lib.hid (up HB.out hbu); clear hbu)
        | (go_at_call 76; refine (unless_any _ _ _).mono ?_; rintro e w' ⟨rfl, rfl⟩))
      go_ret
      exact ⟨ret_int (by rw [HE.out, H40.out, HA.out]; rfl), HBU.out⟩
    · have H40 : Hid (decide (l.length ≤ 40) = false) := Lib.hid (by rw [← Hr.out]; simpa using h40)
      go_enter Tryz.func56, Tryz.ntmps56
      go_upto_region 1 with fail
      generalize hW : (World.alloc _ _) = W
      have HB : Hid (Below w.heap.size w W) := Lib.hid (by subst hW; go_grown)
      have KY : Bx W (w.heap.size) 25 [.slice A n c, .slice B m d] := by subst hW; repeat (first | (refine Bx.newAt _ _ _ ?_; first | rfl | (simp only [World.size_alloc]; done) | (simp only [World.size_alloc]; omega)) | refine Bx.old ?_ _)
      clear hW
      have KYl := KY.lt; have KYc := KY.get; have KYf := KY.fr
      go_wp2_with (first
        | (go_at_call 18; refine (checkYard_any _ _ _ P _ _ _ K _ (Hp.out.keep HB.out) (Hg.out.keep HB.out)).mono ?_; rintro e X ⟨rfl, hbx⟩; rw [HY.out]; clear KYl KYc KYf; replace KY := KY.keep hbx; have KYl := KY.lt; have KYc := KY.get; have KYf := KY.fr; replace HB := Lib.hid (up HB.out hbx); clear hbx)
        | (go_at_call 76; refine (unless_any _ _ _).mono ?_; rintro e w' ⟨rfl, rfl⟩))
      go_ret
      exact ⟨ret_int (by rw [HE.out, H40.out]; rfl), HB.out⟩
end Go.Proofs.YtaieidigpilbfaaGreat

namespace Go.Proofs.YtaieidigpilbfaaGreat
open Go Go.RowKit
set_option maxHeartbeats 8000000
set_option maxRecDepth 100000

theorem eatenP_any (A : Option Addr) (n c : Nat) (B : Option Addr) (m d : Nat) (K : List Kd) (L : Option Addr) (r s : Nat) (l : List St) (dd : Int) (w : World) (hg : Ks w B m K) (hl : Ss w L r l) (hK : ksOk K = true) (hs : ssOk K l = true) (h40 : l.length ≤ 40) (hd : 0 ≤ dd ∧ dd ≤ 100000) :
    Calls Tryz.prog 116 #[.agg #[.slice A n c, .slice B m d], .slice L r s, .int .i64 dd] w fun e w' => e = .returned (.int .i64 (eatL K l dd)) ∧ Below w.heap.size w w' := by
  have Hr : Hid (r = l.length) := Lib.hid hl.len
  have hr : r ≤ 40 := by rw [hl.len]; exact h40
  have Hl := Lib.hid hl; have Hg := Lib.hid hg; have HK := Lib.hid hK; have Hs := Lib.hid hs
  clear hl hg hK hs
  go_enter Tryz.func116, Tryz.ntmps116
  go_upto_region 1 with fail
  generalize hW : (World.alloc _ _) = W
  have HB : Hid (Below w.heap.size w W) := Lib.hid (by subst hW; go_grown)
  have KY : Bx W (w.heap.size) 25 [.slice A n c, .slice B m d] := by subst hW; repeat (first | (refine Bx.newAt _ _ _ ?_; first | rfl | (simp only [World.size_alloc]; done) | (simp only [World.size_alloc]; omega)) | refine Bx.old ?_ _)
  clear hW
  have KYl := KY.lt; have KYc := KY.get; have KYf := KY.fr
  clear KYl KYc KYf
  go_wp2_with fail
  go_loopw [7, 15] (fun v i wr => ∃ (k : Nat), k ≤ r ∧ i = .int .i64 k ∧ v = .int .i64 (eatK K l dd k) ∧ Bx wr w.heap.size 25 [.slice A n c, .slice B m d] ∧ Below w.heap.size w wr) (fun _ i _ => r - (intOf i).toNat)
  case atStart => exact ⟨0, by omega, rfl, rfl, KY, HB.out⟩
  case round =>
    clear KY
    obtain ⟨k, hk, rfl, rfl, KY, hb⟩ := hrel
    replace HB := Lib.hid hb
    clear hb
    have KYl := KY.lt; have KYc := KY.get; have KYf := KY.fr
    by_cases hlt : k < r
    · have hkl : k < l.length := by rw [← Hr.out]; exact hlt
      have hx := List.all_eq_true.1 Hs.out l[k] (List.getElem_mem hkl)
      have h1 := stB_in hx
      have h2 := kdD_e HK.out l[k].s
      have h3 := eatK_in HK.out Hs.out hd k (by omega)
      have h4 := eatR_in (d := dd) HK.out hx hd
      have HE : Hid (eatK K l dd (k + 1) = eatK K l dd k + eatR K l[k] dd) := Lib.hid (by rw [eatK]; simp [hkl])
      have HgW := Lib.hid (Hg.out.keep HB.out)
      obtain ⟨b, o, rfl, hb, hcs⟩ := (Hl.out.keep HB.out).get k hkl
      obtain ⟨c0, c1, c2⟩ := hcs
      clear hx
      generalize l[k] = x at *
      generalize eatK K l dd k = S at *
      have e1 : IntKind.i64.wrap (dd + 1) = dd + 1 := by rw [IntWalk.i64_in _ (by omega)]
      by_cases ho : x.o = -1
      · have hoe : (x.o != -1) = false := by simp [ho]
        have ho0 : ¬ (0 ≤ x.o) := by omega
        have HR : Hid (eatR K x dd = (kdD K x.s).e * max 0 (dd - x.i + 1)) := Lib.hid (by unfold eatR lastD; rw [hoe]; rfl)
        clear hoe
        go_upto_region 9 with (first
          | (refine wpList_putNew 76 9 18 rfl rfl rfl rfl (by kernel_rfl) rfl (by simp [Value.oneCell']) ?_; intro U KX hbu hsu; have HgU := Lib.hid (HgW.out.keep hbu); clear KYl KYc KYf; replace KY := KY.keep hbu; have KYl := KY.lt; have KYc := KY.get; have KYf := KY.fr; replace HB := Lib.hid (up HB.out hbu); clear hbu; have KXl := KX.lt; have KXc := KX.get; have KXf := KX.fr)
          | (go_at_call 84; refine (kindOf_any _ _ _ _ _ _ K _ _ HgU.out).mono ?_; rintro e V ⟨rfl, hbv⟩; have KXV := KX.keep hbv; clear KYl KYc KYf; replace KY := KY.keep hbv; have KYl := KY.lt; have KYc := KY.get; have KYf := KY.fr; replace HB := Lib.hid (up HB.out hbv); clear hbv; clear KX KXl KXc KXf; have KXVl := KXV.lt; have KXVc := KXV.get; have KXVf := KXV.fr)
          | (refine wpList_putNew 72 11 33 rfl rfl rfl rfl (by kernel_rfl) rfl (by simp [Value.oneCell']) ?_; intro U2 KK hbu hsu; have KX2 := KXV.keep hbu; clear KYl KYc KYf; replace KY := KY.keep hbu; have KYl := KY.lt; have KYc := KY.get; have KYf := KY.fr; replace HB := Lib.hid (up HB.out hbu); clear hbu; have KKl := KK.lt; have KKc := KK.get; have KKf := KK.fr; clear KXV KXVl KXVc KXVf; have KX2l := KX2.lt; have KX2c := KX2.get; have KX2f := KX2.fr))
        rw [HR.out] at h4
        rw [HR.out] at HE
        generalize (kdD K x.s).e = E at *
        obtain ⟨q, hq, hq0, hq1⟩ : ∃ q, max 0 (dd - x.i + 1) = q ∧ 0 ≤ q ∧ q ≤ 100001 := ⟨_, rfl, by omega, by omega⟩
        rw [hq] at h4 HE
        have hw : IntKind.i64.wrap (E * q) = E * q := by rw [IntWalk.i64_in _ (by omega)]
        have hif : (if x.i < dd + 1 then dd + 1 - x.i else 0) = q := by rw [← hq]; split <;> omega
        go_wp2
        exact ⟨⟨k + 1, by omega, by go_num, by rw [HE.out], KY, HB.out⟩, by simp [intOf]; omega⟩
      · have hoe : (x.o != -1) = true := by simp [ho]
        have ho2 : x.i ≤ x.o ∧ x.o ≤ 100000 := by omega
        have ho0 : 0 ≤ x.o := by omega
        have HR : Hid (eatR K x dd = (kdD K x.s).e * max 0 (min dd (x.o - 1) - x.i + 1)) := Lib.hid (by unfold eatR lastD; rw [hoe]; rfl)
        obtain ⟨t, ht, ht1, ht2⟩ : ∃ t, min dd (x.o - 1) = t - 1 ∧ 0 ≤ t ∧ t ≤ 100001 := ⟨min dd (x.o - 1) + 1, by omega, by omega, by omega⟩
        have hmi : (if x.o < dd + 1 then x.o else dd + 1) = t := by split <;> omega
        rw [ht] at HR
        clear ht hoe
        go_upto_region 9 with (first
          | (refine wpList_putNew 76 9 18 rfl rfl rfl rfl (by kernel_rfl) rfl (by simp [Value.oneCell']) ?_; intro U KX hbu hsu; have HgU := Lib.hid (HgW.out.keep hbu); clear KYl KYc KYf; replace KY := KY.keep hbu; have KYl := KY.lt; have KYc := KY.get; have KYf := KY.fr; replace HB := Lib.hid (up HB.out hbu); clear hbu; have KXl := KX.lt; have KXc := KX.get; have KXf := KX.fr)
          | (go_at_call 84; refine (kindOf_any _ _ _ _ _ _ K _ _ HgU.out).mono ?_; rintro e V ⟨rfl, hbv⟩; have KXV := KX.keep hbv; clear KYl KYc KYf; replace KY := KY.keep hbv; have KYl := KY.lt; have KYc := KY.get; have KYf := KY.fr; replace HB := Lib.hid (up HB.out hbv); clear hbv; clear KX KXl KXc KXf; have KXVl := KXV.lt; have KXVc := KXV.get; have KXVf := KXV.fr)
          | (refine wpList_putNew 72 11 33 rfl rfl rfl rfl (by kernel_rfl) rfl (by simp [Value.oneCell']) ?_; intro U2 KK hbu hsu; have KX2 := KXV.keep hbu; clear KYl KYc KYf; replace KY := KY.keep hbu; have KYl := KY.lt; have KYc := KY.get; have KYf := KY.fr; replace HB := Lib.hid (up HB.out hbu); clear hbu; have KKl := KK.lt; have KKc := KK.get; have KKf := KK.fr; clear KXV KXVl KXVc KXVf; have KX2l := KX2.lt; have KX2c := KX2.get; have KX2f := KX2.fr))
        rw [HR.out] at h4
        rw [HR.out] at HE
        generalize (kdD K x.s).e = E at *
        obtain ⟨q, hq, hq0, hq1⟩ : ∃ q, max 0 (t - 1 - x.i + 1) = q ∧ 0 ≤ q ∧ q ≤ 100001 := ⟨_, rfl, by omega, by omega⟩
        rw [hq] at h4 HE
        have hw : IntKind.i64.wrap (E * q) = E * q := by rw [IntWalk.i64_in _ (by omega)]
        have hif : (if x.i < t then t - x.i else 0) = q := by rw [← hq]; split <;> omega
        go_wp2
        exact ⟨⟨k + 1, by omega, by go_num, by rw [HE.out], KY, HB.out⟩, by simp [intOf]; omega⟩
    · obtain rfl : k = r := by omega
      have Ho : Hid (eatK K l dd k = eatL K l dd) := Lib.hid (by unfold eatL; rw [Hr.out])
      go_wp2
      go_ret
      exact ⟨ret_int Ho.out, HB.out⟩
end Go.Proofs.YtaieidigpilbfaaGreat

namespace Go.Proofs.YtaieidigpilbfaaGreat
open Go Go.RowKit
set_option maxHeartbeats 1000000
set_option maxRecDepth 100000

theorem isBig_one (P : List Int) (bs : List Kd) (k : Nat) : isBigB P bs [(k : Int)] = bigB P bs k := by unfold isBigB; simp
section
variable (A : Option Addr) (n c : Nat) (P : List Int) (B : Option Addr) (m d : Nat) (bs : List Kd) (ap : List Int) (w : World) (hA : Is w A n P) (hg : Ks w B m bs) (hap : ap.length = 10)
include hA hg hap
theorem findBig_any : Calls Tryz.prog 93 #[.agg ⟨ldL A n c (.slice B m d) ap⟩] w fun e w' => ∃ v, e = .returned v ∧ Lst w.heap.size w' v (findBigL P bs) ∧ Below w.heap.size w w' := by
  have Hm : Hid (m = bs.length) := Lib.hid hg.len
  have hmx := hg.small
  have HA := Lib.hid hA; have Hg := Lib.hid hg
  clear hA hg
  go_enter Tryz.func93, Tryz.ntmps93
  go_upto_region 1 with fail
  generalize hW : (World.alloc _ _) = W
  have HB : Hid (Below w.heap.size w W) := Lib.hid (by subst hW; go_grown)
  have KL : Bx W (w.heap.size) 83 (ldL A n c (.slice B m d) ap) := by subst hW; repeat (first | (refine Bx.newAt _ _ _ ?_; first | rfl | (simp only [World.size_alloc]; done) | (simp only [World.size_alloc]; omega)) | refine Bx.old ?_ _)
  clear hW
  have KLl := KL.lt; have KLc := KL.get; have KLf := KL.fr
  go_wp2_with fail
  clear KLl KLc KLf
  go_loopw [7] (fun i wr => ∃ (k : Nat), k ≤ m ∧ i = .int .i64 k ∧ Below w.heap.size w wr ∧ Bx wr w.heap.size 83 (ldL A n c (.slice B m d) ap) ∧ bigK P bs (m - k) k = findBigL P bs) (fun i _ => m - (intOf i).toNat)
  case atStart => exact ⟨0, by omega, rfl, HB.out, KL, by unfold findBigL; rw [Hm.out]; rfl⟩
  case round =>
    clear KL
    obtain ⟨k, hk, rfl, hb, KL, hp⟩ := hrel
    have Hp := Lib.hid hp
    replace HB := Lib.hid hb
    clear hb hp
    have KLl := KL.lt; have KLc := KL.get; have KLf := KL.fr
    by_cases hlt : k < m
    · have hkl : k < bs.length := by rw [← Hm.out]; exact hlt
      have HK : Hid (bigK P bs (m - k) k = if bigB P bs k = true then [(k : Int)] else bigK P bs (m - (k + 1)) (k + 1)) := Lib.hid (by rw [show m - k = (m - (k + 1)) + 1 by omega]; rfl)
      have HI := Lib.hid (isBig_one P bs k)
      have Hix : Hid (idxOk bs.length [(k : Int)]) := Lib.hid (by intro x hx; simp at hx; subst hx; omega)
      cases hF : bigB P bs k
      all_goals
        have HF := Lib.hid hF
        clear hF
        have hbT := up_alloc wr (.cells #[.int .i64 (k : Int)] 3)
        have HIs : Hid (Is (wr.alloc (.cells #[.int .i64 (k : Int)] 3)) (some ⟨wr.heap.size, 0, none⟩) 1 [(k : Int)]) := Lib.hid (isC wr 3 [(k : Int)] (by simp))
        have KLT := KL.keep hbT
        have HBT := Lib.hid (up HB.out hbT)
        clear hbT
        go_wp2_with (first
          | (refine wpList_get 83 1 rfl rfl KL rfl Tryz.underlying83 rfl (sL83' hap) ?_)
          | (go_at_call 103; refine (isBig_any A n c P B m d bs ap _ 1 1 [(k : Int)] _ (HA.out.keep HBT.out) (Hg.out.keep HBT.out) HIs.out Hix.out).mono ?_; rintro e U ⟨rfl, hbu⟩; rw [HI.out, HF.out]; have HBU := Lib.hid (up HBT.out hbu); have KLU := KLT.keep hbu; clear hbu))
      · refine ⟨⟨k + 1, by omega, by go_num, HBU.out, KLU, ?_⟩, by simp [intOf]; omega⟩
        rw [← Hp.out, HK.out, HF.out]; rfl
      · go_ret
        refine ⟨_, rfl, ?_, up HBU.out (up_alloc U _)⟩
        rw [← Hp.out, HK.out, HF.out, if_pos rfl]
        exact ⟨some ⟨U.heap.size, 0, none⟩, 1, 1, rfl, ⟨by omega, by omega⟩, isC U 3 [(k : Int)] (by simp), fun p hp => by cases hp; exact HBU.out.size⟩
    · obtain rfl : k = m := by omega
      have Ho : Hid (findBigL P bs = []) := Lib.hid (by rw [← Hp.out, Nat.sub_self]; rfl)
      go_wp2
      go_ret
      exact ⟨_, rfl, by rw [Ho.out]; exact Lst.nil _ _, HB.out⟩

variable (h5 : P.length ≤ 5) (hP : psOk P = true) (hb : goodB bs) (h8 : bs.length ≤ 8)
include h5 hP hb h8
theorem findMuch_any : Calls Tryz.prog 94 #[.agg ⟨ldL A n c (.slice B m d) ap⟩] w fun e w' => ∃ v, e = .returned v ∧ Lst w.heap.size w' v (findMuchL P bs) ∧ Below w.heap.size w w' := by
  have HF : Hid (∀ W, Below w.heap.size w W → IsCl 136 (.agg ⟨ldL A n c (.slice B m d) ap⟩) (overB P bs) bs.length W) := Lib.hid (fun W hW X L r s l hX hl hi h8 =>
    overflow_any A n c P B m d bs ap L r s l X (hA.keep (up hW hX)) (hg.keep (up hW hX)) hl hap h5 hP hb hi (by omega))
  have Hm := Lib.hid hg.len
  have HO : Hid (findMuchL P bs = leastL (overB P bs) bs.length) := Lib.hid rfl
  clear hA hg hb hP
  go_enter Tryz.func94, Tryz.ntmps94
  go_upto_region 1 with fail
  generalize hW : (World.alloc _ _) = W
  have HB : Hid (Below w.heap.size w W) := Lib.hid (by subst hW; go_grown)
  have KL : Bx W (w.heap.size) 83 (ldL A n c (.slice B m d) ap) := by subst hW; repeat (first | (refine Bx.newAt _ _ _ ?_; first | rfl | (simp only [World.size_alloc]; done) | (simp only [World.size_alloc]; omega)) | refine Bx.old ?_ _)
  clear hW
  have KLl := KL.lt; have KLc := KL.get; have KLf := KL.fr
  go_wp2_with (first
    | (refine wpList_get 83 1 rfl rfl KL rfl Tryz.underlying83 rfl (sL83' hap) ?_)
    | (go_at_call 135; refine (least_any 136 (.agg ⟨ldL A n c (.slice B m d) ap⟩) (overB P bs) bs.length _ (fun args w => by kernel_rfl) (HF.out _ HB.out) A n c B m d ap Hm.out h8).mono ?_; rintro e U ⟨v, rfl, hv, hbu⟩; have HV := Lib.hid (hv.mono HB.out.size); have HBU := Lib.hid (up HB.out hbu); clear hbu hv))
  go_ret
  exact ⟨_, rfl, by rw [HO.out]; exact HV.out, HBU.out⟩
theorem findTight_any : Calls Tryz.prog 96 #[.agg ⟨ldL A n c (.slice B m d) ap⟩] w fun e w' => ∃ v, e = .returned v ∧ Lst w.heap.size w' v (findTightL P ap bs) ∧ Below w.heap.size w w' := by
  have HF : Hid (∀ W, Below w.heap.size w W → IsCl 138 (.agg ⟨ldL A n c (.slice B m d) ap⟩) (stuckB P ap bs) bs.length W) := Lib.hid (fun W hW X L r s l hX hl hi h8 =>
    stuck_any A n c P B m d bs ap L r s l X (hA.keep (up hW hX)) (hg.keep (up hW hX)) hl hap h5 hP hb hi h8)
  have Hm := Lib.hid hg.len
  have HO : Hid (findTightL P ap bs = leastL (stuckB P ap bs) bs.length) := Lib.hid rfl
  clear hA hg hb hP
  go_enter Tryz.func96, Tryz.ntmps96
  go_upto_region 1 with fail
  generalize hW : (World.alloc _ _) = W
  have HB : Hid (Below w.heap.size w W) := Lib.hid (by subst hW; go_grown)
  have KL : Bx W (w.heap.size) 83 (ldL A n c (.slice B m d) ap) := by subst hW; repeat (first | (refine Bx.newAt _ _ _ ?_; first | rfl | (simp only [World.size_alloc]; done) | (simp only [World.size_alloc]; omega)) | refine Bx.old ?_ _)
  clear hW
  have KLl := KL.lt; have KLc := KL.get; have KLf := KL.fr
  go_wp2_with (first
    | (refine wpList_get 83 1 rfl rfl KL rfl Tryz.underlying83 rfl (sL83' hap) ?_)
    | (go_at_call 135; refine (least_any 138 (.agg ⟨ldL A n c (.slice B m d) ap⟩) (stuckB P ap bs) bs.length _ (fun args w => by kernel_rfl) (HF.out _ HB.out) A n c B m d ap Hm.out h8).mono ?_; rintro e U ⟨v, rfl, hv, hbu⟩; have HV := Lib.hid (hv.mono HB.out.size); have HBU := Lib.hid (up HB.out hbu); clear hbu hv))
  go_ret
  exact ⟨_, rfl, by rw [HO.out]; exact HV.out, HBU.out⟩
end
end Go.Proofs.YtaieidigpilbfaaGreat

namespace Go.Proofs.YtaieidigpilbfaaGreat
open Go Go.RowKit

section takes
variable {P : Program} {ops : Array Oper} {md : Region.Mode} {S : World → Prop} {Q : Exit → Act → World → Prop} {n : Nat}
theorem wpAnyT_step {i fuel : Nat} {listed : Array Bool} {a : Act} {w : World} {o : Oper} (hi : ops[i]? = some o) (hr : Region.ready md ops listed = [i]) (hg : o.guard = none)
    (h : o.wp P a w (fun a' w' => S w' ∧ wpAnyT P md ops Q S n fuel (listed.setIfInBounds i true) a' w') Q) : wpAnyT P md ops Q S n (fuel + 1) listed a w := by
  refine ⟨fun h0 => absurd (hr.symm.trans h0) (by simp), fun j hj => ?_⟩
  rw [hr] at hj
  obtain rfl : j = i := by simpa using hj
  unfold wpOp
  simp only [hi, Region.wanted, hg, if_true]
  exact .inl (Oper.wp_mono (fun a'' w'' h2 => ⟨fun _ => h2.1, h2.2⟩) h)
end takes

theorem wp_region_takes2 {P : Program} {id : Nat} {Q : Exit → Act → World → Prop} {a : Act} {w : World} {l : List Oper} (n m c : Nat) (is : List Nat) (om oc : Oper) (hmo : P.follows .mixedOrders = true)
    (hsel : Region.noSelect l.toArray = true) (hs : Region.sinkB .any l.toArray n = true) (hc : Region.chainB .any l.toArray n = true) (hn : n < l.length)
    (hQ : ∀ d v c a w, Q (.panic c) (a.put d v) w → Q (.panic c) a w)
    (hB : takesB .any l.toArray n is (Array.replicate l.length false) = true) (hm : l[m]? = some om) (hgm : om.guard = none) (hcc : l[c]? = some oc) (hgc : oc.guard = none)
    (hrm : Region.ready .any l.toArray (marks is (Array.replicate l.length false)) = [m])
    (hrc : Region.ready .any l.toArray (marks (is ++ [m]) (Array.replicate l.length false)) = [c])
    (hall : (List.range n).all (fun i => (marks (is ++ [m, c]) (Array.replicate l.length false)).getD i true) = true)
    (hseq : Region.seqB .any l.toArray (l.length - n) n (marks (is ++ [m, c]) (Array.replicate l.length false)) = true) (hlen : l.length = (l.length - n) + 1 + 1 + is.length)
    (hmk : Makes P om) (h : wpTakes P l.toArray (grown w) (fun a' => om.wp P a' w.drew (fun a1 w1 => oc.wp P a1 w1 (fun a2 w2 => grown w w2 ∧ wpList P l.toArray Q (l.drop n) a2 w2) Q) Q) is a) : (Code.region id l.toArray true).wp P Q a w := by
  refine wp_region_any hmo ?_
  refine wpAny_of_T (S := grown w) (n := n) _ _ _ _ ?_
  have inv0 : HeadInv .any l.toArray n (Array.replicate l.length false) :=
    { size := by simp
      closed := fun j oj _ hl => by rw [getD_replicate_false] at hl; cases hl
      tail := fun t _ ht => getD_in (by simpa using ht) (getD_replicate_false _ _) }
  have hw0 : grown w { w with drawn := w.drawn + 1 } := ⟨⟨#[], w.drawn + 1⟩, by simp [grow]⟩
  have key := wpAnyT_takes (P := P) (Q := Q) (S := grown w) (md := .any) hsel hs hc (by simpa using hn) hQ is (Array.replicate l.length false) a { w with drawn := w.drawn + 1 } ((l.length - n) + 1 + 1) hB inv0 hw0 h
    (fun a' hG _ => by
      have e1 : marks (is ++ [m]) (Array.replicate l.length false) = (marks is (Array.replicate l.length false)).setIfInBounds m true := by simp [marks, List.foldl_append]
      have e2 : marks (is ++ [m, c]) (Array.replicate l.length false) = (marks (is ++ [m]) (Array.replicate l.length false)).setIfInBounds c true := by simp [marks, List.foldl_append]
      refine wpAnyT_step (o := om) (by simpa using hm) hrm hgm (Oper.wp_mono (fun a1 w1 h1 => ?_) (hmk.wp hG))
      obtain ⟨hb1, h1⟩ := h1
      refine ⟨?_, ?_⟩
      · obtain ⟨z, hz⟩ := hw0
        have : Below w.heap.size w w1 := by
          have h0 : Below w.heap.size w w.drew := by go_grown
          exact h0.trans (hb1.mono (by simp))
        exact below_grow this
      rw [← e1]
      refine wpAnyT_step (o := oc) (by simpa using hcc) hrc hgc (Oper.wp_mono (fun a2 w2 h2 => ?_) h1)
      refine ⟨h2.1, ?_⟩
      rw [← e2]
      refine wpAnyT_of _ _ _ _ (fun i hi => by have := List.all_eq_true.1 hall i (List.mem_range.2 hi); exact this) ?_
      have := wpAny_of_seq (md := .any) (ops := l.toArray) (Q' := Q) (l.drop n) n (marks (is ++ [m, c]) (Array.replicate l.length false)) a2 w2 (fun j => by simp [List.getElem?_drop]) (by rw [List.length_drop]; exact hseq) h2.2
      rwa [List.length_drop] at this)
  rw [← hlen] at key
  simpa using key
end Go.Proofs.YtaieidigpilbfaaGreat

namespace Go.Proofs.YtaieidigpilbfaaGreat
open Go Go.RowKit

theorem wp_region_takes3 {P : Program} {id : Nat} {Q : Exit → Act → World → Prop} {a : Act} {w : World} {l : List Oper} (n c : Nat) (is : List Nat) (oc : Oper) (hmo : P.follows .mixedOrders = true)
    (hsel : Region.noSelect l.toArray = true) (hs : Region.sinkB .any l.toArray n = true) (hc : Region.chainB .any l.toArray n = true) (hn : n < l.length)
    (hQ : ∀ d v c a w, Q (.panic c) (a.put d v) w → Q (.panic c) a w)
    (hB : takesB .any l.toArray n is (Array.replicate l.length false) = true) (hcc : l[c]? = some oc) (hgc : oc.guard = none)
    (hrc : Region.ready .any l.toArray (marks is (Array.replicate l.length false)) = [c])
    (hall : (List.range n).all (fun i => (marks (is ++ [c]) (Array.replicate l.length false)).getD i true) = true)
    (hseq : Region.seqB .any l.toArray (l.length - n) n (marks (is ++ [c]) (Array.replicate l.length false)) = true) (hlen : l.length = (l.length - n) + 1 + is.length)
    (h : wpTakes P l.toArray (grown w) (fun a' => oc.wp P a' w.drew (fun a2 w2 => grown w w2 ∧ wpList P l.toArray Q (l.drop n) a2 w2) Q) is a) : (Code.region id l.toArray true).wp P Q a w := by
  refine wp_region_any hmo ?_
  refine wpAny_of_T (S := grown w) (n := n) _ _ _ _ ?_
  have inv0 : HeadInv .any l.toArray n (Array.replicate l.length false) :=
    { size := by simp
      closed := fun j oj _ hl => by rw [getD_replicate_false] at hl; cases hl
      tail := fun t _ ht => getD_in (by simpa using ht) (getD_replicate_false _ _) }
  have hw0 : grown w { w with drawn := w.drawn + 1 } := ⟨⟨#[], w.drawn + 1⟩, by simp [grow]⟩
  have key := wpAnyT_takes (P := P) (Q := Q) (S := grown w) (md := .any) hsel hs hc (by simpa using hn) hQ is (Array.replicate l.length false) a { w with drawn := w.drawn + 1 } ((l.length - n) + 1) hB inv0 hw0 h
    (fun a' hG _ => by
      have e2 : marks (is ++ [c]) (Array.replicate l.length false) = (marks is (Array.replicate l.length false)).setIfInBounds c true := by simp [marks, List.foldl_append]
      refine wpAnyT_step (o := oc) (by simpa using hcc) hrc hgc (Oper.wp_mono (fun a2 w2 h2 => ?_) hG)
      refine ⟨h2.1, ?_⟩
      rw [← e2]
      refine wpAnyT_of _ _ _ _ (fun i hi => by have := List.all_eq_true.1 hall i (List.mem_range.2 hi); exact this) ?_
      have := wpAny_of_seq (md := .any) (ops := l.toArray) (Q' := Q) (l.drop n) n (marks (is ++ [c]) (Array.replicate l.length false)) a2 w2 (fun j => by simp [List.getElem?_drop]) (by rw [List.length_drop]; exact hseq) h2.2
      rwa [List.length_drop] at this)
  rw [← hlen] at key
  simpa using key
end Go.Proofs.YtaieidigpilbfaaGreat

namespace Go.Proofs.YtaieidigpilbfaaGreat
open Go Go.RowKit

section takes
variable {P : Program} {ops : Array Oper} {md : Region.Mode} {S : World → Prop} {Q : Exit → Act → World → Prop} {n : Nat}
theorem wpAnyT_step2 {i j fuel : Nat} {listed : Array Bool} {a : Act} {w : World} {o p : Oper} (hr : Region.ready md ops listed = [i, j]) (hi : ops[i]? = some o) (hg : o.guard = none) (hj : ops[j]? = some p) (hg2 : p.guard = none)
    (h : o.wp P a w (fun a' w' => S w' ∧ wpAnyT P md ops Q S n fuel (listed.setIfInBounds i true) a' w') Q)
    (h2 : p.wp P a w (fun a' w' => S w' ∧ wpAnyT P md ops Q S n fuel (listed.setIfInBounds j true) a' w') Q) : wpAnyT P md ops Q S n (fuel + 1) listed a w := by
  refine ⟨fun h0 => absurd (hr.symm.trans h0) (by simp), fun k hk => ?_⟩
  rw [hr] at hk
  unfold wpOp
  rcases (by simpa using hk : k = i ∨ k = j) with rfl | rfl
  · simp only [hi, Region.wanted, hg, if_true]
    exact .inl (Oper.wp_mono (fun a'' w'' h2 => ⟨fun _ => h2.1, h2.2⟩) h)
  · simp only [hj, Region.wanted, hg2, if_true]
    exact .inl (Oper.wp_mono (fun a'' w'' h2 => ⟨fun _ => h2.1, h2.2⟩) h2)
theorem wpAnyT_tail {l : List Oper} {fuel : Nat} {listed : Array Bool} {a : Act} {w : World} (hf : l.length - n = fuel) (hall : (List.range n).all (fun i => listed.getD i true) = true) (hseq : Region.seqB md l.toArray (l.length - n) n listed = true)
    (h : wpList P l.toArray Q (l.drop n) a w) : wpAnyT P md l.toArray Q S n fuel listed a w := by
  subst hf
  refine wpAnyT_of _ _ _ _ (fun i hi => by have := List.all_eq_true.1 hall i (List.mem_range.2 hi); exact this) ?_
  have := wpAny_of_seq (md := md) (ops := l.toArray) (Q' := Q) (l.drop n) n listed a w (fun j => by simp [List.getElem?_drop]) (by rw [List.length_drop]; exact hseq) h
  rwa [List.length_drop] at this
end takes
theorem makes_grown {P : Program} {Q : Exit → Act → World → Prop} {o : Oper} {a : Act} {w v : World} {K : Act → World → Prop} (hm : Makes P o) (hv : grown w v) (h : o.wp P a v (fun a' w' => K a' w') Q) : o.wp P a v (fun a' w' => grown w w' ∧ K a' w') Q := by
  refine Oper.wp_mono (fun a1 w1 h1 => ⟨?_, h1.2⟩) (hm.wp h)
  obtain ⟨z, rfl⟩ := hv
  exact below_grow (up (grow_below w z) h1.1)

theorem wp_region_takesG {P : Program} {id : Nat} {Q : Exit → Act → World → Prop} {a : Act} {w : World} {l : List Oper} (n fuel : Nat) (is : List Nat) (hmo : P.follows .mixedOrders = true)
    (hsel : Region.noSelect l.toArray = true) (hs : Region.sinkB .any l.toArray n = true) (hc : Region.chainB .any l.toArray n = true) (hn : n < l.length)
    (hQ : ∀ d v c a w, Q (.panic c) (a.put d v) w → Q (.panic c) a w)
    (hB : takesB .any l.toArray n is (Array.replicate l.length false) = true) (hlen : l.length = fuel + is.length)
    (h : wpTakes P l.toArray (grown w) (fun a' => wpAnyT P .any l.toArray Q (grown w) n fuel (marks is (Array.replicate l.length false)) a' w.drew) is a) : (Code.region id l.toArray true).wp P Q a w := by
  refine wp_region_any hmo ?_
  refine wpAny_of_T (S := grown w) (n := n) _ _ _ _ ?_
  have inv0 : HeadInv .any l.toArray n (Array.replicate l.length false) :=
    { size := by simp
      closed := fun j oj _ hl => by rw [getD_replicate_false] at hl; cases hl
      tail := fun t _ ht => getD_in (by simpa using ht) (getD_replicate_false _ _) }
  have hw0 : grown w { w with drawn := w.drawn + 1 } := ⟨⟨#[], w.drawn + 1⟩, by simp [grow]⟩
  have key := wpAnyT_takes (P := P) (Q := Q) (S := grown w) (md := .any) hsel hs hc (by simpa using hn) hQ is (Array.replicate l.length false) a { w with drawn := w.drawn + 1 } fuel hB inv0 hw0 h (fun a' hG _ => hG)
  rw [← hlen] at key
  simpa using key
end Go.Proofs.YtaieidigpilbfaaGreat

namespace Go.Proofs.YtaieidigpilbfaaGreat
open Go Go.RowKit
set_option maxHeartbeats 1000000
set_option maxRecDepth 100000

theorem crowd_over {np : Nat} {ap : List Int} {bs : List Kd} {f : Nat} {b : List Int} {i : Nat} (h : np < b.length) : crowdL np ap bs f b i = b := by
  cases f <;> (rw [crowdL, if_pos h])
theorem crowd_zero {np : Nat} {ap : List Int} {bs : List Kd} {b : List Int} {i : Nat} (h : ¬ np < b.length) : crowdL np ap bs 0 b i = [] := by rw [crowdL, if_neg h]
theorem crowd_skip {np : Nat} {ap : List Int} {bs : List Kd} {f : Nat} {b : List Int} {i : Nat} (h : ¬ np < b.length) (h2 : apAll ap bs i b = false) : crowdL np ap bs (f + 1) b i = crowdL np ap bs f b (i + 1) := by
  rw [crowdL, if_neg h, if_neg (by simp [h2])]
theorem crowd_none {np : Nat} {ap : List Int} {bs : List Kd} {f : Nat} {b : List Int} {i : Nat} (h : ¬ np < b.length) (h2 : apAll ap bs i b = true) (h3 : crowdL np ap bs f (b ++ [(i : Int)]) (i + 1) = []) : crowdL np ap bs (f + 1) b i = crowdL np ap bs f b (i + 1) := by
  rw [crowdL, if_neg h, if_pos h2, h3]
theorem crowd_some {np : Nat} {ap : List Int} {bs : List Kd} {f : Nat} {b : List Int} {i : Nat} {x : Int} {t : List Int} (h : ¬ np < b.length) (h2 : apAll ap bs i b = true) (h3 : crowdL np ap bs f (b ++ [(i : Int)]) (i + 1) = x :: t) : crowdL np ap bs (f + 1) b i = x :: t := by
  rw [crowdL, if_neg h, if_pos h2, h3]
theorem idxOk_snoc {n : Nat} {l : List Int} {i : Nat} (h : idxOk n l) (hi : i < n) : idxOk n (l ++ [(i : Int)]) := by
  intro x hx
  rcases List.mem_append.1 hx with hx | hx
  · exact h x hx
  · simp at hx; subst hx; omega

theorem info22 : (Tryz.prog.info? 22).map (fun i => (i.zero, i.size, i.bytes)) = some (some (.slice none 0 0), 1, 24) := by kernel_rfl
theorem run_get {w : World} {b : Nat} {v : Value} {o : Oper} {a : Act} (ty : TypeId) (x : Operand) (ho : o.op = .load ty x) (hx : a.eval x = .pointer (some ⟨b, 0, none⟩))
    (hl : (loadVar ty ⟨b, 0, none⟩).run Tryz.prog w = .ok v w) : (execOp a.eval o).run Tryz.prog w = .ok (.value v) w := by
  unfold execOp
  simp only [ho, hx, Instr.loadAt, Instr.sureAddr, Sem.run_bind, Sem.run_pure, Result.andThen_ok, hl]
theorem crowd_any (A : Option Addr) (n c : Nat) (P : List Int) (B : Option Addr) (m d : Nat) (bs : List Kd) (ap : List Int) (hap : ap.length = 10) (h5 : P.length ≤ 5) (hb : goodB bs) (h8 : bs.length ≤ 8) (D : Nat) :
    ∀ (F : Nat) (L : Option Addr) (r s : Nat) (b : List Int) (i : Nat) (w : World), bs.length - i ≤ F → i ≤ bs.length → Is w A n P → Ks w B m bs → Is w L r b → (r ≤ s ∧ s ≤ 9223372036854775807) → idxOk bs.length b → b.length ≤ P.length + 1 → D ≤ w.heap.size → (∀ p, L = some p → D ≤ p.block) →
    Calls Tryz.prog 137 #[.agg ⟨ldL A n c (.slice B m d) ap⟩, .slice L r s, .int .i64 (i : Int)] w fun e w' => ∃ v, e = .returned v ∧ Lst D w' v (crowdL P.length ap bs (bs.length - i) b i) ∧ Below w.heap.size w w' := by
  intro F
  have Hb := Lib.hid hb
  clear hb
  induction F with
  | zero =>
    intro L r s b i w hF hi hA hg hl hrs hix hbl hD hLD
    have HLD := Lib.hid hLD
    clear hLD
    have e0 : bs.length - i = 0 := by omega
    obtain rfl : i = bs.length := by omega
    have Hr : Hid (r = b.length) := Lib.hid hl.len
    have Hn : Hid (n = P.length) := Lib.hid hA.len
    have Hm : Hid (m = bs.length) := Lib.hid hg.len
    have hmx := hg.small
    have Hl := Lib.hid hl
    clear hA hg hl hix
    by_cases hov : P.length < b.length
    · have HO : Hid (crowdL P.length ap bs (bs.length - bs.length) b bs.length = b) := Lib.hid (crowd_over hov)
      have hrn : n < r := by rw [Hr.out, Hn.out]; exact hov
      go_enter Tryz.func137, Tryz.ntmps137
      go_upto_region 1 with fail
      generalize hW : (World.alloc _ _) = W
      have HB : Hid (Below w.heap.size w W) := Lib.hid (by subst hW; go_grown)
      have KL : Bx W (w.heap.size) 83 (ldL A n c (.slice B m d) ap) := by subst hW; repeat (first | (refine Bx.newAt _ _ _ ?_; first | rfl | (simp only [World.size_alloc]; done) | (simp only [World.size_alloc]; omega)) | refine Bx.old ?_ _)
      clear hW
      have KLl := KL.lt; have KLc := KL.get; have KLf := KL.fr
      go_wp2
      go_ret
      exact ⟨_, rfl, by rw [HO.out]; exact ⟨L, r, s, rfl, hrs, Hl.out.keep HB.out, HLD.out⟩, HB.out⟩
    · have HO : Hid (crowdL P.length ap bs (bs.length - bs.length) b bs.length = []) := Lib.hid (by rw [Nat.sub_self]; exact crowd_zero hov)
      have hrn : ¬ n < r := by rw [Hr.out, Hn.out]; omega
      have hil : ¬ bs.length < m := by rw [Hm.out]; omega
      go_enter Tryz.func137, Tryz.ntmps137
      go_upto_region 1 with fail
      generalize hW : (World.alloc _ _) = W
      have HB : Hid (Below w.heap.size w W) := Lib.hid (by subst hW; go_grown)
      have KL : Bx W (w.heap.size) 83 (ldL A n c (.slice B m d) ap) := by subst hW; repeat (first | (refine Bx.newAt _ _ _ ?_; first | rfl | (simp only [World.size_alloc]; done) | (simp only [World.size_alloc]; omega)) | refine Bx.old ?_ _)
      clear hW
      have KLl := KL.lt; have KLc := KL.get; have KLf := KL.fr
      go_wp2_with fail
      clear KLl KLc KLf
      go_loopw [7] (fun j wr => j = .int .i64 (bs.length : Int) ∧ Below w.heap.size w wr ∧ Bx wr w.heap.size 83 (ldL A n c (.slice B m d) ap)) (fun _ _ => 0)
      case atStart => exact ⟨rfl, HB.out, KL⟩
      case round =>
        clear KL
        obtain ⟨rfl, hb, KL⟩ := hrel
        replace HB := Lib.hid hb
        clear hb
        have KLl := KL.lt; have KLc := KL.get; have KLf := KL.fr
        go_wp2
        go_ret
        exact ⟨_, rfl, by rw [HO.out]; exact Lst.nil _ _, HB.out⟩
  | succ F ih =>
    intro L r s b i w hF hi hA hg hl hrs hix hbl hD hLD
    have HLD := Lib.hid hLD
    clear hLD
    have Ih := Lib.hid ih
    have Hr : Hid (r = b.length) := Lib.hid hl.len
    have Hn : Hid (n = P.length) := Lib.hid hA.len
    have Hm : Hid (m = bs.length) := Lib.hid hg.len
    have hmx := hg.small
    have HA := Lib.hid hA; have Hg := Lib.hid hg; have Hl := Lib.hid hl; have Hix := Lib.hid hix
    clear hA hg hl hix ih
    by_cases hov : P.length < b.length
    · have HO : Hid (crowdL P.length ap bs (bs.length - i) b i = b) := Lib.hid (crowd_over hov)
      have hrn : n < r := by rw [Hr.out, Hn.out]; exact hov
      go_enter Tryz.func137, Tryz.ntmps137
      go_upto_region 1 with fail
      generalize hW : (World.alloc _ _) = W
      have HB : Hid (Below w.heap.size w W) := Lib.hid (by subst hW; go_grown)
      have KL : Bx W (w.heap.size) 83 (ldL A n c (.slice B m d) ap) := by subst hW; repeat (first | (refine Bx.newAt _ _ _ ?_; first | rfl | (simp only [World.size_alloc]; done) | (simp only [World.size_alloc]; omega)) | refine Bx.old ?_ _)
      clear hW
      have KLl := KL.lt; have KLc := KL.get; have KLf := KL.fr
      go_wp2
      go_ret
      exact ⟨_, rfl, by rw [HO.out]; exact ⟨L, r, s, rfl, hrs, Hl.out.keep HB.out, HLD.out⟩, HB.out⟩
    · have hrn : ¬ n < r := by rw [Hr.out, Hn.out]; omega
      have hbl2 : b.length + 1 ≤ P.length + 1 := by omega
      have Hov := Lib.hid hov
      go_enter Tryz.func137, Tryz.ntmps137
      go_upto_region 1 with fail
      generalize hW : (World.alloc _ _) = W
      have HB : Hid (Below w.heap.size w W) := Lib.hid (by subst hW; go_grown)
      have KL : Bx W (w.heap.size) 83 (ldL A n c (.slice B m d) ap) := by subst hW; repeat (first | (refine Bx.newAt _ _ _ ?_; first | rfl | (simp only [World.size_alloc]; done) | (simp only [World.size_alloc]; omega)) | refine Bx.old ?_ _)
      clear hW
      have KLl := KL.lt; have KLc := KL.get; have KLf := KL.fr
      go_wp2_with fail
      clear KLl KLc KLf
      clear hrn hov
      go_loopw [7] (fun j wr => ∃ k : Nat, i ≤ k ∧ k ≤ bs.length ∧ j = .int .i64 (k : Int) ∧ Below w.heap.size w wr ∧ Bx wr w.heap.size 83 (ldL A n c (.slice B m d) ap) ∧ crowdL P.length ap bs (bs.length - k) b k = crowdL P.length ap bs (bs.length - i) b i) (fun j _ => bs.length - (intOf j).toNat)
      case atStart => exact ⟨i, Nat.le_refl _, hi, rfl, HB.out, KL, rfl⟩
      case round =>
        clear KL
        obtain ⟨k, hik, hk, rfl, hb, KL, hp⟩ := hrel
        have Hp := Lib.hid hp
        replace HB := Lib.hid hb
        clear hb hp
        have KLl := KL.lt; have KLc := KL.get; have KLf := KL.fr
        by_cases hlt : k < bs.length
        · have hkm : k < m := by rw [Hm.out]; exact hlt
          have hfk : bs.length - k = (bs.length - (k + 1)) + 1 := by omega
          cases hF2 : apAll ap bs k b
          · have HF := Lib.hid hF2
            have HK : Hid (crowdL P.length ap bs (bs.length - (k + 1)) b (k + 1) = crowdL P.length ap bs (bs.length - i) b i) := Lib.hid (by rw [← Hp.out, hfk, crowd_skip Hov.out hF2])
            clear hF2
            go_wp2_with (first
              | (refine wpList_get 83 3 rfl rfl KL rfl Tryz.underlying83 rfl (sL83' hap) ?_)
              | (go_at_call 146; refine (apartFromAll_any A n c B m d bs ap L r s b k _ (Hg.out.keep HB.out) (Hl.out.keep HB.out) hap Hb.out hlt Hix.out).mono ?_; rintro e U ⟨rfl, hbu⟩; rw [HF.out]; have HBU := Lib.hid (up HB.out hbu); have KLU := KL.keep hbu; clear hbu))
            exact ⟨⟨k + 1, by omega, by omega, by go_num, HBU.out, KLU, HK.out⟩, by simp [intOf]; omega⟩
          · have HF := Lib.hid hF2
            clear hF2
            go_upto_region 7 with (first
              | (refine wpList_get 83 3 rfl rfl KL rfl Tryz.underlying83 rfl (sL83' hap) ?_)
              | (go_at_call 146; refine (apartFromAll_any A n c B m d bs ap L r s b k _ (Hg.out.keep HB.out) (Hl.out.keep HB.out) hap Hb.out hlt Hix.out).mono ?_; rintro e U ⟨rfl, hbu⟩; rw [HF.out]; have HBU := Lib.hid (up HB.out hbu); have KLU := KL.keep hbu; clear hbu))
            clear KLl KLc KLf KL
            obtain ⟨i0, hi0, hz0, hz1, hz2⟩ := info_parts info3
            obtain ⟨i1, hi1, hy0, hy1, hy2⟩ := info_parts info22
            have HI0 := Lib.hid hi0; have HI1 := Lib.hid hi1; have HZ0 := Lib.hid hz0; have HZ1 := Lib.hid hz1; have HY0 := Lib.hid hy0; have HY1 := Lib.hid hy1
            clear hi0 hi1 hz0 hz1 hz2 hy0 hy1 hy2
            have HKL := Lib.hid KLU
            clear KLU
            refine wp_region_takesG 8 5 [0, 1, 2, 6, 7] (by kernel_rfl) (by kernel_rfl) (by kernel_rfl) (by kernel_rfl) (by decide) (fun d _ _ _ _ h => by cases d <;> exact h) (by kernel_rfl) rfl ?_
            refine wpTakes_step (v := .agg ⟨ldL A n c (.slice B m d) ap⟩) rfl (by rfl) ?_ ?_
            · (rintro _ ⟨z9, rfl⟩; exact run_get 83 (.tmp 3) rfl rfl (cell_res (HKL.out.keep (grow_below U z9)) Tryz.underlying83 rfl (sL83' hap)))
            simp only [Act.put, List.setIfInBounds_toArray, List.set_cons_zero, List.set_cons_succ]
            refine wpTakes_step (v := ?_) rfl (by rfl) ?_ ?_
            rotate_left
            · (rintro _ ⟨z9, rfl⟩; go_simp; try (with_reducible rfl))
            simp only [Act.put, List.setIfInBounds_toArray, List.set_cons_zero, List.set_cons_succ]
            refine wpTakes_step (v := ?_) rfl (by rfl) ?_ ?_
            rotate_left
            · (rintro _ ⟨z9, rfl⟩; go_simp; try (with_reducible rfl))
            simp only [Act.put, List.setIfInBounds_toArray, List.set_cons_zero, List.set_cons_succ]
            refine wpTakes_step (v := ?_) rfl (by rfl) ?_ ?_
            rotate_left
            · (rintro _ ⟨z9, rfl⟩; go_simp; try (with_reducible rfl))
            simp only [Act.put, List.setIfInBounds_toArray, List.set_cons_zero, List.set_cons_succ]
            refine wpTakes_step (v := ?_) rfl (by rfl) ?_ ?_
            rotate_left
            · (rintro _ ⟨z9, rfl⟩; go_simp; try (with_reducible rfl))
            simp only [Act.put, List.setIfInBounds_toArray, List.set_cons_zero, List.set_cons_succ]
            simp only [wpTakes]
            refine wpAnyT_step (i := 3) rfl (by kernel_rfl) rfl ?_
            refine makes_grown (makes_slice Tryz.underlying22 HI0.out HZ0.out rfl (by rw [HZ1.out]; decide)) (below_grow (show Below U.heap.size U U.drew by go_grown)) ?_
            go_wp2_with fail
            refine wpAnyT_step (i := 4) rfl (by kernel_rfl) rfl ?_
            refine makes_grown (makes_slice Tryz.underlying100 HI1.out HY0.out rfl (by rw [HY1.out]; decide)) (below_grow (by go_grown)) ?_
            go_wp2_with fail
            refine wpAnyT_step (i := 5) rfl (by kernel_rfl) rfl ?_
            go_wp2_with fail
            have k0 := Bx.new U (ints [(k : Int)]) 3
            have b0 := up_alloc U (.cells ⟨ints [(k : Int)]⟩ 3)
            have e0 : (U.alloc (.cells ⟨ints [(k : Int)]⟩ 3)).heap.size = U.heap.size + 1 := by simp
            rw [show (#[Value.int .i64 (k : Int)] : Array Value) = ⟨ints [(k : Int)]⟩ from rfl]
            generalize U.alloc (.cells ⟨ints [(k : Int)]⟩ 3) = V0 at *
            have k1 := Bx.new V0 [.slice L r s, .slice (some ⟨U.heap.size, 0, none⟩) 1 1] 22
            have b1 := up_alloc V0 (.cells #[.slice L r s, .slice (some ⟨U.heap.size, 0, none⟩) 1 1] 22)
            generalize V0.alloc (.cells #[.slice L r s, .slice (some ⟨U.heap.size, 0, none⟩) 1 1] 22) = V1 at *
            have b2 : Below V1.heap.size V1 V1.drew := by go_grown
            replace k1 := k1.keep b2
            replace k0 := k0.keep (up b1 b2)
            have hb3 := up b0 (up b1 b2)
            generalize V1.drew = V at *
            rw [e0] at k1
            clear b0 b1 b2 e0
            have hV1 := k1.lt
            have hPt : Parts V (U.heap.size + 1) [b, [(k : Int)]] := parts2 ((Hl.out.keep HBU.out).keep hb3) (show Is V (some ⟨U.heap.size, 0, none⟩) 1 [(k : Int)] from ⟨rfl, by omega, fun j hj => ⟨U.heap.size, 0, rfl, k0.lt, by rw [k0.get]; simp at hj; subst hj; rfl⟩⟩) (k1.get 0) (k1.get 1)
            have hfl : [b, [(k : Int)]].flatten = b ++ [(k : Int)] := by simp
            have hfs : [b, [(k : Int)]].flatten.length ≤ 1000 := by rw [hfl, List.length_append, List.length_singleton]; omega
            refine Calls.mono (concat_any (U.heap.size + 1) 2 _ [b, [(k : Int)]] V rfl hV1 hPt hfs (by omega)) ?_
            rintro e X ⟨v, rfl, hown, hbx⟩
            have HO := OI.of_len hown
            rw [hfl] at HO
            obtain ⟨A', c', rfl⟩ := HO.shape
            have hcp2 := HO.cap
            obtain ⟨A2, c2, e2, hc2, his, hfar⟩ := HO.is
            cases e2
            have hUX := up hb3 hbx
            have HBX := Lib.hid (up HBU.out hUX)
            have KX := HKL.out.keep hUX
            have HIs := Lib.hid his
            have Hfar : Hid (∀ p, A' = some p → D ≤ p.block) := Lib.hid (fun p hp => by have := hfar p hp; have := HBU.out.size; have := hb3.size; omega)
            refine ⟨below_grow hUX, ?_⟩
            clear hPt hown HO hfar his k0 k1 hb3 hbx hUX hfs hfl HKL
            refine wpAnyT_tail rfl (by kernel_rfl) (by kernel_rfl) ?_
            simp only [List.drop_succ_cons, List.drop_zero]
            have hC := Ih.out A' (b ++ [(k : Int)]).length c' (b ++ [(k : Int)]) (k + 1) X (by omega) hlt (HA.out.keep HBX.out) (Hg.out.keep HBX.out) HIs.out ⟨hc2, hcp2⟩ (idxOk_snoc Hix.out hlt) (by rw [List.length_append, List.length_singleton]; omega) (by have := HBX.out.size; omega) Hfar.out
            rw [List.length_append, List.length_singleton, show ((k + 1 : Nat) : Int) = (k : Int) + 1 by omega] at hC
            have HC := Lib.hid hC
            clear hC
            cases hcr : crowdL P.length ap bs (bs.length - (k + 1)) (b ++ [(k : Int)]) (k + 1) with
            | nil =>
              have Hcr := Lib.hid hcr
              have HK : Hid (crowdL P.length ap bs (bs.length - (k + 1)) b (k + 1) = crowdL P.length ap bs (bs.length - i) b i) := Lib.hid (by rw [← Hp.out, hfk, crowd_none Hov.out HF.out hcr])
              clear hcr
              go_upto_region 8 with (go_at_call 137; refine HC.out.mono ?_; rintro e Y ⟨v, rfl, hv, hby⟩; rw [Hcr.out] at hv; obtain ⟨C, q, c3, rfl, hq, hisv, hfv⟩ := hv; have HBY := Lib.hid (up HBX.out hby); have KY := KX.keep hby; obtain rfl := hisv.len; clear hby hisv hfv)
              go_wp2
              exact ⟨⟨k + 1, by omega, by omega, by go_num, HBY.out, KY, HK.out⟩, by simp [intOf]; omega⟩
            | cons x t =>
              have Hcr := Lib.hid hcr
              have HK : Hid (crowdL P.length ap bs (bs.length - i) b i = x :: t) := Lib.hid (by rw [← Hp.out, hfk, crowd_some Hov.out HF.out hcr])
              clear hcr
              go_upto_region 8 with (go_at_call 137; refine HC.out.mono ?_; rintro e Y ⟨v, rfl, hv, hby⟩; rw [Hcr.out] at hv; obtain ⟨C, q, c3, rfl, hq, hisv, hfv⟩ := hv; have HBY := Lib.hid (up HBX.out hby); have hql := hisv.len; simp only [List.length_cons] at hql; subst hql; have Hv := Lib.hid hisv; have Hfv := Lib.hid hfv; clear hby hisv hfv)
              go_wp2
              go_ret
              exact ⟨_, rfl, by rw [HK.out]; exact ⟨C, t.length + 1, c3, rfl, hq, Hv.out, Hfv.out⟩, HBY.out⟩
        · obtain rfl : k = bs.length := by omega
          have hkm : ¬ bs.length < m := by rw [Hm.out]; omega
          have HO : Hid (crowdL P.length ap bs (bs.length - i) b i = []) := Lib.hid (by rw [← Hp.out, Nat.sub_self]; exact crowd_zero Hov.out)
          go_wp2
          go_ret
          exact ⟨_, rfl, by rw [HO.out]; exact Lst.nil _ _, HB.out⟩
end Go.Proofs.YtaieidigpilbfaaGreat

namespace Go.Proofs.YtaieidigpilbfaaGreat
open Go Go.RowKit
set_option maxHeartbeats 6000000
set_option maxRecDepth 100000

theorem findMany_any (A : Option Addr) (n c : Nat) (P : List Int) (B : Option Addr) (m d : Nat) (bs : List Kd) (ap : List Int) (w : World) (hA : Is w A n P) (hg : Ks w B m bs) (hap : ap.length = 10) (h5 : P.length ≤ 5) (hb : goodB bs) (h8 : bs.length ≤ 8) :
    Calls Tryz.prog 95 #[.agg ⟨ldL A n c (.slice B m d) ap⟩] w fun e w' => ∃ v, e = .returned v ∧ Lst w.heap.size w' v (findManyL P ap bs) ∧ Below w.heap.size w w' := by
  have HC : Hid (∀ W, Below w.heap.size w W → Calls Tryz.prog 137 #[.agg ⟨ldL A n c (.slice B m d) ap⟩, .slice none 0 0, .int .i64 0] W fun e w' => ∃ v, e = .returned v ∧ Lst W.heap.size w' v (findManyL P ap bs) ∧ Below W.heap.size W w') :=
    Lib.hid (fun W hW => crowd_any A n c P B m d bs ap hap h5 hb h8 _ _ none 0 0 [] 0 W (Nat.le_refl _) (Nat.zero_le _) (hA.keep hW) (hg.keep hW) (is0 W) ⟨Nat.le_refl _, Nat.zero_le _⟩ (by intro x hx; cases hx) (by simp) (Nat.le_refl _) (fun p hp => by cases hp))
  clear hA hg hb
  go_enter Tryz.func95, Tryz.ntmps95
  go_upto_region 1 with fail
  generalize hW : (World.alloc _ _) = W
  have HB : Hid (Below w.heap.size w W) := Lib.hid (by subst hW; go_grown)
  have KL : Bx W (w.heap.size) 83 (ldL A n c (.slice B m d) ap) := by subst hW; repeat (first | (refine Bx.newAt _ _ _ ?_; first | rfl | (simp only [World.size_alloc]; done) | (simp only [World.size_alloc]; omega)) | refine Bx.old ?_ _)
  clear hW
  have KLl := KL.lt; have KLc := KL.get; have KLf := KL.fr
  go_wp2_with (first
    | (refine wpList_get 83 1 rfl rfl KL rfl Tryz.underlying83 rfl (sL83' hap) ?_)
    | (go_at_call 137; refine (HC.out _ HB.out).mono ?_; rintro e U ⟨v, rfl, hv, hbu⟩; have HV := Lib.hid (hv.mono HB.out.size); have HBU := Lib.hid (up HB.out hbu); clear hbu hv))
  go_ret
  exact ⟨_, rfl, HV.out, HBU.out⟩

theorem ret_ref {v : Value} {a b c d : Int} (h : b = a) (h2 : d = c) : Ending.returned (.tuple #[.agg #[.int .i64 a, v], .int .i64 c]) = .returned (.tuple #[.agg #[.int .i64 b, v], .int .i64 d]) := by rw [h, h2]
theorem refP_no {P : List Int} {K : List Kd} {l : List Int} (h : sE P K l ≠ 0) : refP P K l = (0, []) := by unfold refP; rw [if_neg (fun h2 => h h2.1)]
theorem refP_fit {P : List Int} {K : List Kd} {l : List Int} (h : PL P K l ≠ []) : refP P K l = (0, []) := by unfold refP; rw [if_neg (fun h2 => h h2.2)]
theorem refP_yes {P : List Int} {K : List Kd} {l : List Int} (h : sE P K l = 0) (h2 : PL P K l = []) : refP P K l = whyP P K l := by unfold refP; rw [if_pos ⟨h, h2⟩]
/-- From the k-th reason on. -/
def whyK (P : List Int) (K : List Kd) (l : List Int) (k : Nat) : Int × List Int := firstL (k + 1) ((findsL P (apL K) (bsL K l)).drop k)
theorem whyK_0 (P : List Int) (K : List Kd) (l : List Int) : whyK P K l 0 = whyP P K l := rfl
theorem whyK_4 (P : List Int) (K : List Kd) (l : List Int) : whyK P K l 4 = (0, []) := rfl
def findK (P : List Int) (K : List Kd) (l : List Int) (k : Nat) : List Int := (findsL P (apL K) (bsL K l)).getD k []
theorem whyK_nil {P : List Int} {K : List Kd} {l : List Int} {k : Nat} (hk : k < 4) (h : findK P K l k = []) : whyK P K l k = whyK P K l (k + 1) := by
  unfold whyK
  have hl : k < (findsL P (apL K) (bsL K l)).length := hk
  have e : (findsL P (apL K) (bsL K l))[k] = [] := by rw [← h]; unfold findK; simp [hl]
  rw [List.drop_eq_getElem_cons hl, e]
  show firstL ((k : Int) + 1 + 1) _ = _
  rw [show ((k : Int) + 1 + 1) = ((k + 1 : Nat) : Int) + 1 by omega]
theorem whyK_cons {P : List Int} {K : List Kd} {l : List Int} {k : Nat} {x : Int} {t : List Int} (hk : k < 4) (h : findK P K l k = x :: t) : whyK P K l k = ((k : Int) + 1, x :: t) := by
  unfold whyK
  have hl : k < (findsL P (apL K) (bsL K l)).length := hk
  have e : (findsL P (apL K) (bsL K l))[k] = x :: t := by rw [← h]; unfold findK; simp [hl]
  rw [List.drop_eq_getElem_cons hl, e]
  rfl

theorem Refuse_any (A : Option Addr) (n c : Nat) (P : List Int) (B : Option Addr) (m d : Nat) (K : List Kd) (L : Option Addr) (r s : Nat) (l : List Int) (w : World) (hp : Is w A n P) (hg : Ks w B m K) (hl : Is w L r l) :
    Calls Tryz.prog 42 #[.agg #[.slice A n c, .slice B m d], .slice L r s] w fun e w' => ∃ v, e = .returned (.tuple #[.agg #[.int .i64 (refP P K l).1, v], .int .i64 (refE P K l)]) ∧ Lst 0 w' v (refP P K l).2 ∧ Below w.heap.size w w' := by
  have Hp := Lib.hid hp; have Hg := Lib.hid hg; have Hl := Lib.hid hl
  clear hp hg hl
  by_cases h0 : sE P K l = 0
  rotate_left
  · have H0 := Lib.hid h0
    have hne : (sE P K l != 0) = true := by simpa using h0
    have HE : Hid (refE P K l = sE P K l) := Lib.hid (by unfold refE; rw [if_neg h0])
    have HR : Hid (refP P K l = (0, [])) := Lib.hid (refP_no h0)
    clear h0
    go_enter Tryz.func42, Tryz.ntmps42
    go_upto_region 1 with fail
    generalize hW : (World.alloc _ _) = W
    have HB : Hid (Below w.heap.size w W) := Lib.hid (by subst hW; go_grown)
    have KY : Bx W (w.heap.size) 25 [.slice A n c, .slice B m d] := by subst hW; repeat (first | (refine Bx.newAt _ _ _ ?_; first | rfl | (simp only [World.size_alloc]; done) | (simp only [World.size_alloc]; omega)) | refine Bx.old ?_ _)
    have KR : Bx W (w.heap.size + 1) 53 [.int .i64 0, .slice none 0 0] := by subst hW; repeat (first | (refine Bx.newAt _ _ _ ?_; first | rfl | (simp only [World.size_alloc]; done) | (simp only [World.size_alloc]; omega)) | refine Bx.old ?_ _)
    clear hW
    have KYl := KY.lt; have KYc := KY.get; have KYf := KY.fr; have KRl := KR.lt; have KRc := KR.get; have KRf := KR.fr
    go_wp2_with (first
      | (go_at_call 63; refine (loadOf_no _ _ _ P _ _ _ K _ _ _ l _ (Hp.out.keep HB.out) (Hg.out.keep HB.out) (Hl.out.keep HB.out) H0.out).mono ?_; rintro e X ⟨rfl, hbx⟩; clear KYl KYc KYf; replace KY := KY.keep hbx; have KYl := KY.lt; have KYc := KY.get; have KYf := KY.fr; clear KRl KRc KRf; replace KR := KR.keep hbx; have KRl := KR.lt; have KRc := KR.get; have KRf := KR.fr; replace HB := Lib.hid (up HB.out hbx); clear hbx)
      | (refine wpList_putNew 83 6 15 rfl rfl rfl rfl (sL83 rfl) (sLo rfl) ldL_one ?_; intro U KU hbu hsu; have hrl := KR.lt; clear KYl KYc KYf; replace KY := KY.keep hbu; have KYl := KY.lt; have KYc := KY.get; have KYf := KY.fr; clear KRl KRc KRf; replace KR := KR.keep hbu; have KRl := KR.lt; have KRc := KR.get; have KRf := KR.fr; replace HB := Lib.hid (up HB.out hbu); clear hbu)
      | (refine wpList_put 53 4 19 rfl rfl KR rfl rfl (by kernel_rfl) rfl (by simp [Value.oneCell']) ?_; intro U2 KRn hp; clear KRl KRc KRf; replace HB := Lib.hid (upP HB.out hp (by omega)); clear hp KR; have KR := KRn; clear KRn; have KRl := KR.lt; have KRc := KR.get; have KRf := KR.fr))
    rw [HR.out, HE.out]
    exact post_2 rfl rfl rfl KR Tryz.underlying53 rfl (by kernel_rfl) (v := .int .i64 (sE P K l)) rfl ⟨_, rfl, Lst.nil _ _, HB.out⟩
  obtain ⟨hy, h8, hlo⟩ := sE_0 h0
  obtain ⟨h5, hP, hK⟩ := yOk_k hy
  have hap := apL_len K
  have H0 := Lib.hid h0
  have HPs := Lib.hid hP
  have HGb := Lib.hid (bsL_good hK hlo)
  have hbl : (bsL K l).length ≤ 8 := by rw [bsL_len]; exact h8
  have HPL : Hid (plc (apL K) P.length P.length (bsL K l) (st0 P) = PL P K l) := Lib.hid rfl
  by_cases hpl : PL P K l = []
  rotate_left
  · have HE : Hid (refE P K l = 3) := Lib.hid (by unfold refE; rw [if_pos h0, if_neg hpl])
    have HR : Hid (refP P K l = (0, [])) := Lib.hid (refP_fit hpl)
    have HT : Hid ((PL P K l != []) = true) := Lib.hid (by simpa using hpl)
    clear h0 hpl hlo hK hy hP
    go_enter Tryz.func42, Tryz.ntmps42
    go_upto_region 1 with fail
    generalize hW : (World.alloc _ _) = W
    have HB : Hid (Below w.heap.size w W) := Lib.hid (by subst hW; go_grown)
    have KY : Bx W (w.heap.size) 25 [.slice A n c, .slice B m d] := by subst hW; repeat (first | (refine Bx.newAt _ _ _ ?_; first | rfl | (simp only [World.size_alloc]; done) | (simp only [World.size_alloc]; omega)) | refine Bx.old ?_ _)
    have KR : Bx W (w.heap.size + 1) 53 [.int .i64 0, .slice none 0 0] := by subst hW; repeat (first | (refine Bx.newAt _ _ _ ?_; first | rfl | (simp only [World.size_alloc]; done) | (simp only [World.size_alloc]; omega)) | refine Bx.old ?_ _)
    clear hW
    have KYl := KY.lt; have KYc := KY.get; have KYf := KY.fr; have KRl := KR.lt; have KRc := KR.get; have KRf := KR.fr
    go_wp2_with (first
      | (go_at_call 63; refine (loadOf_ok _ _ _ P _ _ _ K _ _ _ l _ (Hp.out.keep HB.out) (Hg.out.keep HB.out) (Hl.out.keep HB.out) H0.out).mono ?_; rintro e X ⟨B', c', rfl, hlc, hks, -, hbx⟩; have Hks := Lib.hid hks; clear hks; clear KYl KYc KYf; replace KY := KY.keep hbx; have KYl := KY.lt; have KYc := KY.get; have KYf := KY.fr; clear KRl KRc KRf; replace KR := KR.keep hbx; have KRl := KR.lt; have KRc := KR.get; have KRf := KR.fr; replace HB := Lib.hid (up HB.out hbx); clear hbx)
      | (refine wpList_putNew 83 6 15 rfl rfl rfl rfl (sL83 hap) (sLo hap) ldL_one ?_; intro U KU hbu hsu; have HksU := Lib.hid (Hks.out.keep hbu); have hrl := KR.lt; clear KYl KYc KYf; replace KY := KY.keep hbu; have KYl := KY.lt; have KYc := KY.get; have KYf := KY.fr; clear KRl KRc KRf; replace KR := KR.keep hbu; have KRl := KR.lt; have KRc := KR.get; have KRf := KR.fr; replace HB := Lib.hid (up HB.out hbu); clear hbu)
      | (refine wpList_get 83 6 rfl rfl KU rfl Tryz.underlying83 rfl (sL83' hap) ?_)
      | (go_at_call 92; refine (fits_any A n c P B' l.length c' (bsL K l) (apL K) _ (Hp.out.keep HB.out) HksU.out hap h5 HPs.out HGb.out hbl).mono ?_; rintro e V ⟨rfl, hbv⟩; rw [HPL.out, HT.out]; clear KYl KYc KYf; replace KY := KY.keep hbv; have KYl := KY.lt; have KYc := KY.get; have KYf := KY.fr; clear KRl KRc KRf; replace KR := KR.keep hbv; have KRl := KR.lt; have KRc := KR.get; have KRf := KR.fr; replace HB := Lib.hid (up HB.out hbv); clear hbv)
      | (refine wpList_put 53 4 23 rfl rfl KR rfl rfl (by kernel_rfl) rfl (by simp [Value.oneCell']) ?_; intro U2 KRn hp; clear KRl KRc KRf; replace HB := Lib.hid (upP HB.out hp (by omega)); clear hp KR; have KR := KRn; clear KRn; have KRl := KR.lt; have KRc := KR.get; have KRf := KR.fr))
    rw [HR.out, HE.out]
    exact post_2 rfl rfl rfl KR Tryz.underlying53 rfl (by kernel_rfl) (v := .int .i64 3) rfl ⟨_, rfl, Lst.nil _ _, HB.out⟩
  have HE : Hid (refE P K l = if (whyP P K l).2 = [] then 3 else 0) := Lib.hid (by unfold refE; rw [if_pos h0, if_pos hpl])
  have HR : Hid (refP P K l = whyP P K l) := Lib.hid (refP_yes h0 hpl)
  have HT : Hid ((PL P K l != []) = false) := Lib.hid (by simpa using hpl)
  clear h0 hpl hlo hK hy hP
  go_enter Tryz.func42, Tryz.ntmps42
  go_upto_region 1 with fail
  generalize hW : (World.alloc _ _) = W
  have HB : Hid (Below w.heap.size w W) := Lib.hid (by subst hW; go_grown)
  have KY : Bx W (w.heap.size) 25 [.slice A n c, .slice B m d] := by subst hW; repeat (first | (refine Bx.newAt _ _ _ ?_; first | rfl | (simp only [World.size_alloc]; done) | (simp only [World.size_alloc]; omega)) | refine Bx.old ?_ _)
  have KR : Bx W (w.heap.size + 1) 53 [.int .i64 0, .slice none 0 0] := by subst hW; repeat (first | (refine Bx.newAt _ _ _ ?_; first | rfl | (simp only [World.size_alloc]; done) | (simp only [World.size_alloc]; omega)) | refine Bx.old ?_ _)
  clear hW
  have KYl := KY.lt; have KYc := KY.get; have KYf := KY.fr; have KRl := KR.lt; have KRc := KR.get; have KRf := KR.fr
  go_upto_region 6 with (first
    | (go_at_call 63; refine (loadOf_ok _ _ _ P _ _ _ K _ _ _ l _ (Hp.out.keep HB.out) (Hg.out.keep HB.out) (Hl.out.keep HB.out) H0.out).mono ?_; rintro e X ⟨B', c', rfl, hlc, hks, -, hbx⟩; have Hks := Lib.hid hks; clear hks; clear KYl KYc KYf; replace KY := KY.keep hbx; have KYl := KY.lt; have KYc := KY.get; have KYf := KY.fr; clear KRl KRc KRf; replace KR := KR.keep hbx; have KRl := KR.lt; have KRc := KR.get; have KRf := KR.fr; replace HB := Lib.hid (up HB.out hbx); clear hbx)
    | (refine wpList_putNew 83 6 15 rfl rfl rfl rfl (sL83 hap) (sLo hap) ldL_one ?_; intro U KU hbu hsu; have HksU := Lib.hid (Hks.out.keep hbu); have hrl := KR.lt; clear KYl KYc KYf; replace KY := KY.keep hbu; have KYl := KY.lt; have KYc := KY.get; have KYf := KY.fr; clear KRl KRc KRf; replace KR := KR.keep hbu; have KRl := KR.lt; have KRc := KR.get; have KRf := KR.fr; replace HB := Lib.hid (up HB.out hbu); clear hbu)
    | (refine wpList_get 83 6 rfl rfl KU rfl Tryz.underlying83 rfl (sL83' hap) ?_)
    | (go_at_call 92; refine (fits_any A n c P B' l.length c' (bsL K l) (apL K) _ (Hp.out.keep HB.out) HksU.out hap h5 HPs.out HGb.out hbl).mono ?_; rintro e V ⟨rfl, hbv⟩; rw [HPL.out, HT.out]; replace HksU := Lib.hid (HksU.out.keep hbv); replace KU := KU.keep hbv; clear KYl KYc KYf; replace KY := KY.keep hbv; have KYl := KY.lt; have KYc := KY.get; have KYf := KY.fr; clear KRl KRc KRf; replace KR := KR.keep hbv; have KRl := KR.lt; have KRc := KR.get; have KRf := KR.fr; replace HB := Lib.hid (up HB.out hbv); clear hbv))
  clear HPL HT Hks
  go_wp2_with (refine wpList_get 83 6 rfl rfl KU rfl Tryz.underlying83 rfl (sL83' hap) ?_)
  generalize hW2 : World.alloc V _ = V2
  have KF : Bx V2 V.heap.size 120 [.func (.func 93) #[.agg ⟨ldL A n c (.slice B' l.length c') (apL K)⟩] #[], .func (.func 94) #[.agg ⟨ldL A n c (.slice B' l.length c') (apL K)⟩] #[], .func (.func 95) #[.agg ⟨ldL A n c (.slice B' l.length c') (apL K)⟩] #[], .func (.func 96) #[.agg ⟨ldL A n c (.slice B' l.length c') (apL K)⟩] #[]] := by subst hW2; exact Bx.new _ _ _
  have hb2 : Below V.heap.size V V2 := by subst hW2; exact up_alloc _ _
  clear hW2
  have HF : Hid (∀ k : Nat, k < 4 → ∀ W, Below V.heap.size V W → Calls Tryz.prog (93 + k) #[.agg ⟨ldL A n c (.slice B' l.length c') (apL K)⟩] W fun e w' => ∃ v, e = .returned v ∧ Lst V.heap.size w' v (findK P K l k) ∧ Below W.heap.size W w') := Lib.hid (by
    intro k hk W hW
    have a1 := (Hp.out.keep HB.out).keep hW
    have a2 := HksU.out.keep hW
    rcases (by omega : k = 0 ∨ k = 1 ∨ k = 2 ∨ k = 3) with rfl | rfl | rfl | rfl
    · refine (findBig_any A n c P B' l.length c' (bsL K l) (apL K) W a1 a2 hap).mono ?_
      rintro e w' ⟨v, h1, h2, h3⟩
      exact ⟨v, h1, h2.mono hW.size, h3⟩
    · refine (findMuch_any A n c P B' l.length c' (bsL K l) (apL K) W a1 a2 hap h5 HPs.out HGb.out hbl).mono ?_
      rintro e w' ⟨v, h1, h2, h3⟩
      exact ⟨v, h1, h2.mono hW.size, h3⟩
    · refine (findMany_any A n c P B' l.length c' (bsL K l) (apL K) W a1 a2 hap h5 HGb.out hbl).mono ?_
      rintro e w' ⟨v, h1, h2, h3⟩
      exact ⟨v, h1, h2.mono hW.size, h3⟩
    · refine (findTight_any A n c P B' l.length c' (bsL K l) (apL K) W a1 a2 hap h5 HPs.out HGb.out hbl).mono ?_
      rintro e w' ⟨v, h1, h2, h3⟩
      exact ⟨v, h1, h2.mono hW.size, h3⟩)
  have HBV2 := Lib.hid hb2
  have hVs : w.heap.size + 1 < V.heap.size := KRl
  clear KYl KYc KYf; replace KY := KY.keep hb2; have KYl := KY.lt; have KYc := KY.get; have KYf := KY.fr; clear KRl KRc KRf; replace KR := KR.keep hb2; have KRl := KR.lt; have KRc := KR.get; have KRf := KR.fr; replace HB := Lib.hid (up HB.out hb2); clear hb2
  clear KYl KYc KYf KRl KRc KRf
  clear KU HksU hlc Hp Hg Hl HPs HGb H0 hbl KY
  go_loopw [34] (fun i wr => ∃ (k : Nat), k ≤ 4 ∧ i = .int .i64 k ∧ Below w.heap.size w wr ∧ Below V.heap.size V wr ∧ Bx wr (w.heap.size + 1) 53 [.int .i64 0, .slice none 0 0] ∧ Bx wr V.heap.size 120 [.func (.func 93) #[.agg ⟨ldL A n c (.slice B' l.length c') (apL K)⟩] #[], .func (.func 94) #[.agg ⟨ldL A n c (.slice B' l.length c') (apL K)⟩] #[], .func (.func 95) #[.agg ⟨ldL A n c (.slice B' l.length c') (apL K)⟩] #[], .func (.func 96) #[.agg ⟨ldL A n c (.slice B' l.length c') (apL K)⟩] #[]] ∧ whyK P K l k = whyP P K l) (fun i _ => 4 - (intOf i).toNat)
  case atStart => exact ⟨0, by omega, rfl, HB.out, HBV2.out, KR, KF, whyK_0 P K l⟩
  case round =>
    clear KR KF HB HBV2
    obtain ⟨k, hk, rfl, hb, hbV, KR, KF, hp⟩ := hrel
    have HB := Lib.hid hb; have HBV := Lib.hid hbV; have Hp := Lib.hid hp
    clear hb hbV hp
    have KRl := KR.lt; have KRc := KR.get; have KRf := KR.fr; have KFl := KF.lt; have KFc := KF.get; have KFf := KF.fr
    by_cases hlt : k < 4
    · rcases (by omega : k = 0 ∨ k = 1 ∨ k = 2 ∨ k = 3) with rfl | rfl | rfl | rfl
      · have hC : Calls Tryz.prog 93 #[.agg ⟨ldL A n c (.slice B' l.length c') (apL K)⟩] wr fun e w' => ∃ v, e = .returned v ∧ Lst V.heap.size w' v (findK P K l 0) ∧ Below wr.heap.size wr w' := HF.out 0 (by omega) wr HBV.out
        have HC := Lib.hid hC
        clear hC
        cases hcr : findK P K l 0 with
        | nil =>
          have Hcr := Lib.hid hcr
          have HK : Hid (whyK P K l (0 + 1) = whyP P K l) := Lib.hid (by rw [← Hp.out, whyK_nil (by omega) hcr])
          clear hcr
          go_wp2_with (go_at_call 93; refine HC.out.mono ?_; rintro e Y ⟨v, rfl, hv, hby⟩; rw [Hcr.out] at hv; obtain ⟨C, q, c3, rfl, hq, hisv, hfv⟩ := hv; have HBY := Lib.hid (up HB.out hby); have HBW := Lib.hid (up HBV.out hby); have KRY := KR.keep hby; have KFY := KF.keep hby; obtain rfl := hisv.len; clear hby hisv hfv)
          exact ⟨⟨0 + 1, by omega, by go_num, HBY.out, HBW.out, KRY, KFY, HK.out⟩, by simp [intOf]⟩
        | cons x t =>
          have Hcr := Lib.hid hcr
          have hz : whyP P K l = (1, x :: t) := by rw [← Hp.out]; exact whyK_cons (by omega) hcr
          have HE2 : Hid (refE P K l = 0) := Lib.hid (by rw [HE.out, hz]; rfl)
          have HR2 : Hid (refP P K l = (1, x :: t)) := Lib.hid (by rw [HR.out, hz])
          clear hcr hz
          go_wp2_with (first
            | (go_at_call 93; refine HC.out.mono ?_; rintro e Y ⟨v, rfl, hv, hby⟩; rw [Hcr.out] at hv; obtain ⟨C, q, c3, rfl, hq, hisv, hfv⟩ := hv; replace HB := Lib.hid (up HB.out hby); replace KR := KR.keep hby; clear KRl KRc KRf KFl KFc KFf; have KRl := KR.lt; have KRc := KR.get; have KRf := KR.fr; have hql := hisv.len; simp only [List.length_cons] at hql; subst hql; have Hv := Lib.hid hisv; have Hfv := Lib.hid hfv; clear hby hisv hfv)
            | (refine wpList_put 53 4 47 rfl rfl KR rfl rfl (by kernel_rfl) rfl (by simp [Value.oneCell']) ?_; intro U2 KRn hp))
          rw [HR2.out, HE2.out]
          exact post_2 rfl rfl rfl KRn Tryz.underlying53 rfl (by kernel_rfl) (v := .int .i64 0) rfl ⟨_, rfl, ⟨C, t.length + 1, c3, rfl, hq, Hv.out.put hp (fun q hq => by have := Hfv.out q hq; omega), fun _ _ => Nat.zero_le _⟩, upP HB.out hp (by omega)⟩
      · have hC : Calls Tryz.prog 94 #[.agg ⟨ldL A n c (.slice B' l.length c') (apL K)⟩] wr fun e w' => ∃ v, e = .returned v ∧ Lst V.heap.size w' v (findK P K l 1) ∧ Below wr.heap.size wr w' := HF.out 1 (by omega) wr HBV.out
        have HC := Lib.hid hC
        clear hC
        cases hcr : findK P K l 1 with
        | nil =>
          have Hcr := Lib.hid hcr
          have HK : Hid (whyK P K l (1 + 1) = whyP P K l) := Lib.hid (by rw [← Hp.out, whyK_nil (by omega) hcr])
          clear hcr
          go_wp2_with (go_at_call 94; refine HC.out.mono ?_; rintro e Y ⟨v, rfl, hv, hby⟩; rw [Hcr.out] at hv; obtain ⟨C, q, c3, rfl, hq, hisv, hfv⟩ := hv; have HBY := Lib.hid (up HB.out hby); have HBW := Lib.hid (up HBV.out hby); have KRY := KR.keep hby; have KFY := KF.keep hby; obtain rfl := hisv.len; clear hby hisv hfv)
          exact ⟨⟨1 + 1, by omega, by go_num, HBY.out, HBW.out, KRY, KFY, HK.out⟩, by simp [intOf]⟩
        | cons x t =>
          have Hcr := Lib.hid hcr
          have hz : whyP P K l = (2, x :: t) := by rw [← Hp.out]; exact whyK_cons (by omega) hcr
          have HE2 : Hid (refE P K l = 0) := Lib.hid (by rw [HE.out, hz]; rfl)
          have HR2 : Hid (refP P K l = (2, x :: t)) := Lib.hid (by rw [HR.out, hz])
          clear hcr hz
          go_wp2_with (first
            | (go_at_call 94; refine HC.out.mono ?_; rintro e Y ⟨v, rfl, hv, hby⟩; rw [Hcr.out] at hv; obtain ⟨C, q, c3, rfl, hq, hisv, hfv⟩ := hv; replace HB := Lib.hid (up HB.out hby); replace KR := KR.keep hby; clear KRl KRc KRf KFl KFc KFf; have KRl := KR.lt; have KRc := KR.get; have KRf := KR.fr; have hql := hisv.len; simp only [List.length_cons] at hql; subst hql; have Hv := Lib.hid hisv; have Hfv := Lib.hid hfv; clear hby hisv hfv)
            | (refine wpList_put 53 4 47 rfl rfl KR rfl rfl (by kernel_rfl) rfl (by simp [Value.oneCell']) ?_; intro U2 KRn hp))
          rw [HR2.out, HE2.out]
          exact post_2 rfl rfl rfl KRn Tryz.underlying53 rfl (by kernel_rfl) (v := .int .i64 0) rfl ⟨_, rfl, ⟨C, t.length + 1, c3, rfl, hq, Hv.out.put hp (fun q hq => by have := Hfv.out q hq; omega), fun _ _ => Nat.zero_le _⟩, upP HB.out hp (by omega)⟩
      · have hC : Calls Tryz.prog 95 #[.agg ⟨ldL A n c (.slice B' l.length c') (apL K)⟩] wr fun e w' => ∃ v, e = .returned v ∧ Lst V.heap.size w' v (findK P K l 2) ∧ Below wr.heap.size wr w' := HF.out 2 (by omega) wr HBV.out
        have HC := Lib.hid hC
        clear hC
        cases hcr : findK P K l 2 with
        | nil =>
          have Hcr := Lib.hid hcr
          have HK : Hid (whyK P K l (2 + 1) = whyP P K l) := Lib.hid (by rw [← Hp.out, whyK_nil (by omega) hcr])
          clear hcr
          go_wp2_with (go_at_call 95; refine HC.out.mono ?_; rintro e Y ⟨v, rfl, hv, hby⟩; rw [Hcr.out] at hv; obtain ⟨C, q, c3, rfl, hq, hisv, hfv⟩ := hv; have HBY := Lib.hid (up HB.out hby); have HBW := Lib.hid (up HBV.out hby); have KRY := KR.keep hby; have KFY := KF.keep hby; obtain rfl := hisv.len; clear hby hisv hfv)
          exact ⟨⟨2 + 1, by omega, by go_num, HBY.out, HBW.out, KRY, KFY, HK.out⟩, by simp [intOf]⟩
        | cons x t =>
          have Hcr := Lib.hid hcr
          have hz : whyP P K l = (3, x :: t) := by rw [← Hp.out]; exact whyK_cons (by omega) hcr
          have HE2 : Hid (refE P K l = 0) := Lib.hid (by rw [HE.out, hz]; rfl)
          have HR2 : Hid (refP P K l = (3, x :: t)) := Lib.hid (by rw [HR.out, hz])
          clear hcr hz
          go_wp2_with (first
            | (go_at_call 95; refine HC.out.mono ?_; rintro e Y ⟨v, rfl, hv, hby⟩; rw [Hcr.out] at hv; obtain ⟨C, q, c3, rfl, hq, hisv, hfv⟩ := hv; replace HB := Lib.hid (up HB.out hby); replace KR := KR.keep hby; clear KRl KRc KRf KFl KFc KFf; have KRl := KR.lt; have KRc := KR.get; have KRf := KR.fr; have hql := hisv.len; simp only [List.length_cons] at hql; subst hql; have Hv := Lib.hid hisv; have Hfv := Lib.hid hfv; clear hby hisv hfv)
            | (refine wpList_put 53 4 47 rfl rfl KR rfl rfl (by kernel_rfl) rfl (by simp [Value.oneCell']) ?_; intro U2 KRn hp))
          rw [HR2.out, HE2.out]
          exact post_2 rfl rfl rfl KRn Tryz.underlying53 rfl (by kernel_rfl) (v := .int .i64 0) rfl ⟨_, rfl, ⟨C, t.length + 1, c3, rfl, hq, Hv.out.put hp (fun q hq => by have := Hfv.out q hq; omega), fun _ _ => Nat.zero_le _⟩, upP HB.out hp (by omega)⟩
      · have hC : Calls Tryz.prog 96 #[.agg ⟨ldL A n c (.slice B' l.length c') (apL K)⟩] wr fun e w' => ∃ v, e = .returned v ∧ Lst V.heap.size w' v (findK P K l 3) ∧ Below wr.heap.size wr w' := HF.out 3 (by omega) wr HBV.out
        have HC := Lib.hid hC
        clear hC
        cases hcr : findK P K l 3 with
        | nil =>
          have Hcr := Lib.hid hcr
          have HK : Hid (whyK P K l (3 + 1) = whyP P K l) := Lib.hid (by rw [← Hp.out, whyK_nil (by omega) hcr])
          clear hcr
          go_wp2_with (go_at_call 96; refine HC.out.mono ?_; rintro e Y ⟨v, rfl, hv, hby⟩; rw [Hcr.out] at hv; obtain ⟨C, q, c3, rfl, hq, hisv, hfv⟩ := hv; have HBY := Lib.hid (up HB.out hby); have HBW := Lib.hid (up HBV.out hby); have KRY := KR.keep hby; have KFY := KF.keep hby; obtain rfl := hisv.len; clear hby hisv hfv)
          exact ⟨⟨3 + 1, by omega, by go_num, HBY.out, HBW.out, KRY, KFY, HK.out⟩, by simp [intOf]⟩
        | cons x t =>
          have Hcr := Lib.hid hcr
          have hz : whyP P K l = (4, x :: t) := by rw [← Hp.out]; exact whyK_cons (by omega) hcr
          have HE2 : Hid (refE P K l = 0) := Lib.hid (by rw [HE.out, hz]; rfl)
          have HR2 : Hid (refP P K l = (4, x :: t)) := Lib.hid (by rw [HR.out, hz])
          clear hcr hz
          go_wp2_with (first
            | (go_at_call 96; refine HC.out.mono ?_; rintro e Y ⟨v, rfl, hv, hby⟩; rw [Hcr.out] at hv; obtain ⟨C, q, c3, rfl, hq, hisv, hfv⟩ := hv; replace HB := Lib.hid (up HB.out hby); replace KR := KR.keep hby; clear KRl KRc KRf KFl KFc KFf; have KRl := KR.lt; have KRc := KR.get; have KRf := KR.fr; have hql := hisv.len; simp only [List.length_cons] at hql; subst hql; have Hv := Lib.hid hisv; have Hfv := Lib.hid hfv; clear hby hisv hfv)
            | (refine wpList_put 53 4 47 rfl rfl KR rfl rfl (by kernel_rfl) rfl (by simp [Value.oneCell']) ?_; intro U2 KRn hp))
          rw [HR2.out, HE2.out]
          exact post_2 rfl rfl rfl KRn Tryz.underlying53 rfl (by kernel_rfl) (v := .int .i64 0) rfl ⟨_, rfl, ⟨C, t.length + 1, c3, rfl, hq, Hv.out.put hp (fun q hq => by have := Hfv.out q hq; omega), fun _ _ => Nat.zero_le _⟩, upP HB.out hp (by omega)⟩
    · obtain rfl : k = 4 := by omega
      have hz : whyP P K l = (0, []) := by rw [← Hp.out]; exact whyK_4 P K l
      have HE2 : Hid (refE P K l = 3) := Lib.hid (by rw [HE.out, hz]; rfl)
      have HR2 : Hid (refP P K l = (0, [])) := Lib.hid (by rw [HR.out, hz])
      clear hz
      go_wp2_with (refine wpList_put 53 4 49 rfl rfl KR rfl rfl (by kernel_rfl) rfl (by simp [Value.oneCell']) ?_; intro U2 KRn hp; clear KRl KRc KRf; replace HB := Lib.hid (upP HB.out hp (by omega)); clear hp KR; have KR := KRn; clear KRn; have KRl := KR.lt; have KRc := KR.get; have KRf := KR.fr)
      rw [HR2.out, HE2.out]
      exact post_2 rfl rfl rfl KR Tryz.underlying53 rfl (by kernel_rfl) (v := .int .i64 3) rfl ⟨_, rfl, Lst.nil _ _, HB.out⟩
end Go.Proofs.YtaieidigpilbfaaGreat

