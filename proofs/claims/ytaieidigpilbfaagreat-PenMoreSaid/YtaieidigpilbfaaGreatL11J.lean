/- Whatever the yard, the beasts and the three numbers are: PenMore returns true, and its arguments read as before; there is no condition. -/
import Derived.Test.YtaieidigpilbfaaGreatJc
import Derived.Test.YtaieidigpilbfaaGreatJi
import Derived.Test.YtaieidigpilbfaaGreatJj
import Derived.Test.YtaieidigpilbfaaGreatJk
import Derived.Test.YtaieidigpilbfaaGreatJn
import Derived.Test.YtaieidigpilbfaaGreatJo
import Derived.Test.YtaieidigpilbfaaGreatJv
import Derived.Test.YtaieidigpilbfaaGreatJw
import Derived.Test.YtaieidigpilbfaaGreatJx
set_option linter.unusedVariables false
set_option linter.unusedSimpArgs false
set_option linter.unusedSectionVars false
namespace Go.Proofs.YtaieidigpilbfaaGreat
open Go Go.ChangeShapes Go.WideShapes Go.RowKit Go.Deep
set_option maxHeartbeats 4000000
set_option maxRecDepth 100000

theorem set_more {P : List Int} (h5 : P.length ≤ 5) (hP : psOk P = true) {i : Nat} {v : Int} (hi : i < P.length) (h1 : P[i] ≤ v) (h2 : 0 ≤ v ∧ v ≤ 1000) :
    (P.set i v).length ≤ 5 ∧ psOk (P.set i v) = true ∧ P.length ≤ (P.set i v).length ∧ ∀ q, P.getD q 0 ≤ (P.set i v).getD q 0 := by
  refine ⟨by rw [List.length_set]; exact h5, ?_, by rw [List.length_set]; exact Nat.le_refl _, fun q => ?_⟩
  · refine List.all_eq_true.2 fun x hx => ?_
    rcases List.mem_or_eq_of_mem_set hx with h | h
    · exact List.all_eq_true.1 hP x h
    · subst h; exact inB_iff.2 h2
  · rw [List.getD_eq_getElem?_getD, List.getD_eq_getElem?_getD, List.getElem?_set]
    by_cases e : i = q
    · subst e; simp [hi, h1]
    · simp [e]
theorem snoc_more {P P1 : List Int} {v : Int} (hl : P1.length < 5) (h : P1.length ≤ 5 ∧ psOk P1 = true ∧ P.length ≤ P1.length ∧ ∀ q, P.getD q 0 ≤ P1.getD q 0) (h2 : 0 ≤ v ∧ v ≤ 1000) :
    (P1 ++ [v]).length ≤ 5 ∧ psOk (P1 ++ [v]) = true ∧ P.length ≤ (P1 ++ [v]).length ∧ ∀ q, P.getD q 0 ≤ (P1 ++ [v]).getD q 0 := by
  obtain ⟨h3, h4, h5, h6⟩ := h
  refine ⟨by simp; omega, ?_, by simp; omega, fun q => ?_⟩
  · unfold psOk at h4 ⊢
    rw [List.all_append, h4]
    simpa using inB_iff.2 h2
  · refine Int.le_trans (h6 q) ?_
    rw [List.getD_eq_getElem?_getD, List.getD_eq_getElem?_getD, List.getElem?_append]
    split
    · exact Int.le_refl _
    · rename_i h
      rw [List.getElem?_eq_none (by omega)]
      rcases Nat.eq_or_lt_of_le (Nat.le_of_not_lt h) with e | e
      · rw [← e]; simp; exact h2.1
      · rw [List.getElem?_eq_none (by simp; omega)]; exact Int.le_refl _
theorem OI.isQ {w : World} {base n c : Nat} {A : Option Addr} {l : List Int} (h : OI w base (.slice A n c) l) : Is w A n l := by
  obtain ⟨A2, c2, e2, -, his, -⟩ := h.is
  cases e2
  exact his
theorem ks_ge {K : List Kd} (h : ksOk K = true) : ∀ (i : Nat) (hi : i < K.length), (i : Int) + 1 ≤ K[i].s ∧ K[i].s ≤ 9
  | 0, hi => by
    have h1 := List.all_eq_true.1 h 0 (List.mem_range.2 hi)
    unfold ksAt kdOk at h1
    rw [Bool.and_eq_true, Bool.and_eq_true] at h1
    have h2 := inB_iff.1 h1.1.1
    rw [show K.getD 0 kd0 = K[0] by simp [hi]] at h2
    omega
  | i + 1, hi => by
    have h1 := List.all_eq_true.1 h (i + 1) (List.mem_range.2 hi)
    unfold ksAt kdOk at h1
    rw [Bool.and_eq_true, Bool.and_eq_true] at h1
    have h2 := inB_iff.1 h1.1.1
    rw [show K.getD (i + 1) kd0 = K[i + 1] by simp [hi]] at h2
    have h3 := ks_ge h i (by omega)
    have h4 := ks_lt h (show i < i + 1 by omega) hi
    omega
theorem ks_nine {K : List Kd} (h : ksOk K = true) : K.length ≤ 9 := by
  rcases Nat.eq_zero_or_pos K.length with e | e
  · omega
  · have := ks_ge h (K.length - 1) (by omega)
    omega
def jobs11 : List Job := [⟨4, 92, []⟩, ⟨6, 94, [4]⟩, ⟨11, 99, []⟩, ⟨12, 100, [6, 11]⟩, ⟨13, 101, []⟩, ⟨15, 103, [13]⟩, ⟨17, 105, []⟩, ⟨18, 106, [15, 17]⟩]
def lst11 (M Q : List Int) (x a : Int) (i : Nat) : List Int :=
  match i with
  | 6 => M
  | 11 => [x]
  | 12 => M ++ [x]
  | 15 => Q
  | 17 => [a]
  | 18 => Q ++ [a]
  | _ => []
theorem mem_jobs11 {j : Job} (h : j ∈ jobs11) : j = ⟨4, 92, []⟩ ∨ j = ⟨6, 94, [4]⟩ ∨ j = ⟨11, 99, []⟩ ∨ j = ⟨12, 100, [6, 11]⟩ ∨ j = ⟨13, 101, []⟩ ∨ j = ⟨15, 103, [13]⟩ ∨ j = ⟨17, 105, []⟩ ∨ j = ⟨18, 106, [15, 17]⟩ := by
  simpa [jobs11] using h
theorem is_at11 {w : World} {b o n : Nat} {l : List Int} (h : Is w (some ⟨b, o, none⟩) n l) {i : Nat} (hi : i < l.length) : w.cell? ⟨b, o + i, none⟩ = some (.int .i64 l[i]) ∧ b < w.heap.size := by
  obtain ⟨b2, o2, e, h1, h2⟩ := h.get i hi
  cases e
  exact ⟨h2, h1⟩
section
variable (A : Option Addr) (n c : Nat) (P : List Int) (B : Option Addr) (m d : Nat) (K : List Kd) (L : Option Addr) (r s : Nat) (l : List Int) (n0 n1 n2 : Int) (w : World) (hp : Is w A n P) (hg : Ks w B m K) (hl : Is w L r l) (hrs : r ≤ s ∧ s ≤ 9223372036854775807)
include hp hg hl
theorem penMore_no (h0 : sE P K l ≠ 0) :
    Calls Tryz.prog 11 #[.agg #[.slice A n c, .slice B m d], .slice L r s, .agg #[.int .i64 n0, .int .i64 n1, .int .i64 n2]] w fun e w' => e = .returned (.bool true) ∧ Below w.heap.size w w' := by
  have Hp := Lib.hid hp; have Hg := Lib.hid hg; have Hl := Lib.hid hl
  have HR : Hid ((sE P K l == 0) = false) := Lib.hid (by simpa using h0)
  clear hp hg hl h0
  go_enter Tryz.func11, Tryz.ntmps11
  go_upto_region 1 with fail
  generalize hW : (World.alloc _ _) = W
  have HB : Hid (Below w.heap.size w W) := Lib.hid (by subst hW; go_grown)
  have KY : Bx W (w.heap.size) 25 [.slice A n c, .slice B m d] := by subst hW; repeat (first | (refine Bx.newAt _ _ _ ?_; first | rfl | (simp only [World.size_alloc]; done) | (simp only [World.size_alloc]; omega)) | refine Bx.old ?_ _)
  have KS : Bx W (w.heap.size + 1) 69 [.int .i64 n0, .int .i64 n1, .int .i64 n2] := by subst hW; repeat (first | (refine Bx.newAt _ _ _ ?_; first | rfl | (simp only [World.size_alloc]; done) | (simp only [World.size_alloc]; omega)) | refine Bx.old ?_ _)
  clear hW
  have KYl := KY.lt; have KYc := KY.get; have KYf := KY.fr; have KSl := KS.lt; have KSc := KS.get; have KSf := KS.fr
  go_wp2_with (first
    | (go_at_call 58; refine (right_any A n c P B m d K L r s l _ (Hp.out.keep HB.out) (Hg.out.keep HB.out) (Hl.out.keep HB.out)).mono ?_; rintro e X ⟨rfl, hbx⟩; rw [HR.out]; clear KYl KYc KYf; replace KY := KY.keep hbx; have KYl := KY.lt; have KYc := KY.get; have KYf := KY.fr; clear KSl KSc KSf; replace KS := KS.keep hbx; have KSl := KS.lt; have KSc := KS.get; have KSf := KS.fr; replace HB := Lib.hid (up HB.out hbx); clear hbx)
    | (go_at_call 22; refine (sane_any _).mono ?_; rintro e X2 ⟨rfl, hbx⟩; clear KYl KYc KYf; replace KY := KY.keep hbx; have KYl := KY.lt; have KYc := KY.get; have KYf := KY.fr; clear KSl KSc KSf; replace KS := KS.keep hbx; have KSl := KS.lt; have KSc := KS.get; have KSf := KS.fr; replace HB := Lib.hid (up HB.out hbx); clear hbx))
  go_ret
  exact ⟨rfl, HB.out⟩
theorem penMore_few (h0 : sE P K l = 0) (hE : nthE P K l 0 53 = 53 ∨ (nthE P K l 0 53 = 0 ∧ r = 0)) :
    Calls Tryz.prog 11 #[.agg #[.slice A n c, .slice B m d], .slice L r s, .agg #[.int .i64 n0, .int .i64 n1, .int .i64 n2]] w fun e w' => e = .returned (.bool true) ∧ Below w.heap.size w w' := by
  have Hp := Lib.hid hp; have Hg := Lib.hid hg; have Hl := Lib.hid hl
  have HR : Hid ((sE P K l == 0) = true) := Lib.hid (by simpa using h0)
  clear hp hg hl h0
  rcases hE with hE | ⟨hE, hr⟩
  · have HE := Lib.hid hE
    clear hE
    go_enter Tryz.func11, Tryz.ntmps11
    go_upto_region 1 with fail
    generalize hW : (World.alloc _ _) = W
    have HB : Hid (Below w.heap.size w W) := Lib.hid (by subst hW; go_grown)
    have KY : Bx W (w.heap.size) 25 [.slice A n c, .slice B m d] := by subst hW; repeat (first | (refine Bx.newAt _ _ _ ?_; first | rfl | (simp only [World.size_alloc]; done) | (simp only [World.size_alloc]; omega)) | refine Bx.old ?_ _)
    have KS : Bx W (w.heap.size + 1) 69 [.int .i64 n0, .int .i64 n1, .int .i64 n2] := by subst hW; repeat (first | (refine Bx.newAt _ _ _ ?_; first | rfl | (simp only [World.size_alloc]; done) | (simp only [World.size_alloc]; omega)) | refine Bx.old ?_ _)
    clear hW
    have KYl := KY.lt; have KYc := KY.get; have KYf := KY.fr; have KSl := KS.lt; have KSc := KS.get; have KSf := KS.fr
    go_wp2_with (first
      | (go_at_call 58; refine (right_any A n c P B m d K L r s l _ (Hp.out.keep HB.out) (Hg.out.keep HB.out) (Hl.out.keep HB.out)).mono ?_; rintro e X ⟨rfl, hbx⟩; rw [HR.out]; clear KYl KYc KYf; replace KY := KY.keep hbx; have KYl := KY.lt; have KYc := KY.get; have KYf := KY.fr; clear KSl KSc KSf; replace KS := KS.keep hbx; have KSl := KS.lt; have KSc := KS.get; have KSf := KS.fr; replace HB := Lib.hid (up HB.out hbx); clear hbx)
      | (go_at_call 23; refine (Place_any A n c P B m d K L r s l _ (Hp.out.keep HB.out) (Hg.out.keep HB.out) (Hl.out.keep HB.out)).mono ?_; rintro e X1 ⟨v1, rfl, hv1, hbx⟩; rw [HE.out]; clear hv1; clear KYl KYc KYf; replace KY := KY.keep hbx; have KYl := KY.lt; have KYc := KY.get; have KYf := KY.fr; clear KSl KSc KSf; replace KS := KS.keep hbx; have KSl := KS.lt; have KSc := KS.get; have KSf := KS.fr; replace HB := Lib.hid (up HB.out hbx); clear hbx)
      | (go_at_call 22; refine (sane_any _).mono ?_; rintro e X2 ⟨rfl, hbx⟩; clear KYl KYc KYf; replace KY := KY.keep hbx; have KYl := KY.lt; have KYc := KY.get; have KYf := KY.fr; clear KSl KSc KSf; replace KS := KS.keep hbx; have KSl := KS.lt; have KSc := KS.get; have KSf := KS.fr; replace HB := Lib.hid (up HB.out hbx); clear hbx))
    go_ret
    exact ⟨rfl, HB.out⟩
  · have HE := Lib.hid hE
    subst hr
    clear hE
    go_enter Tryz.func11, Tryz.ntmps11
    go_upto_region 1 with fail
    generalize hW : (World.alloc _ _) = W
    have HB : Hid (Below w.heap.size w W) := Lib.hid (by subst hW; go_grown)
    have KY : Bx W (w.heap.size) 25 [.slice A n c, .slice B m d] := by subst hW; repeat (first | (refine Bx.newAt _ _ _ ?_; first | rfl | (simp only [World.size_alloc]; done) | (simp only [World.size_alloc]; omega)) | refine Bx.old ?_ _)
    have KS : Bx W (w.heap.size + 1) 69 [.int .i64 n0, .int .i64 n1, .int .i64 n2] := by subst hW; repeat (first | (refine Bx.newAt _ _ _ ?_; first | rfl | (simp only [World.size_alloc]; done) | (simp only [World.size_alloc]; omega)) | refine Bx.old ?_ _)
    clear hW
    have KYl := KY.lt; have KYc := KY.get; have KYf := KY.fr; have KSl := KS.lt; have KSc := KS.get; have KSf := KS.fr
    go_wp2_with (first
      | (go_at_call 58; refine (right_any A n c P B m d K L 0 s l _ (Hp.out.keep HB.out) (Hg.out.keep HB.out) (Hl.out.keep HB.out)).mono ?_; rintro e X ⟨rfl, hbx⟩; rw [HR.out]; clear KYl KYc KYf; replace KY := KY.keep hbx; have KYl := KY.lt; have KYc := KY.get; have KYf := KY.fr; clear KSl KSc KSf; replace KS := KS.keep hbx; have KSl := KS.lt; have KSc := KS.get; have KSf := KS.fr; replace HB := Lib.hid (up HB.out hbx); clear hbx)
      | (go_at_call 23; refine (Place_any A n c P B m d K L 0 s l _ (Hp.out.keep HB.out) (Hg.out.keep HB.out) (Hl.out.keep HB.out)).mono ?_; rintro e X1 ⟨v1, rfl, hv1, hbx⟩; rw [HE.out]; clear hv1; clear KYl KYc KYf; replace KY := KY.keep hbx; have KYl := KY.lt; have KYc := KY.get; have KYf := KY.fr; clear KSl KSc KSf; replace KS := KS.keep hbx; have KSl := KS.lt; have KSc := KS.get; have KSf := KS.fr; replace HB := Lib.hid (up HB.out hbx); clear hbx)
      | (go_at_call 22; refine (sane_any _).mono ?_; rintro e X2 ⟨rfl, hbx⟩; clear KYl KYc KYf; replace KY := KY.keep hbx; have KYl := KY.lt; have KYc := KY.get; have KYf := KY.fr; clear KSl KSc KSf; replace KS := KS.keep hbx; have KSl := KS.lt; have KSc := KS.get; have KSf := KS.fr; replace HB := Lib.hid (up HB.out hbx); clear hbx))
    go_ret
    exact ⟨rfl, HB.out⟩
include hrs
theorem penMore_yes (h0 : sE P K l = 0) (T MM QQ : List Int) (k a : Nat) (x : Int) (hE : nthE P K l 0 53 = 0) (hT : nthL P K l 0 = T) (hk : modI n0 r = (k : Int)) (hkr : k < r) (hx : l[k]? = some x)
    (htE : takE P K l T k = 0) (htL : takL P K l T k l = MM) (htP : takL P K l T k T = QQ) (hML : MM.length = l.length - 1) (h1 : plE P K MM QQ = 0) (h2 : adE P K MM QQ x = 0) (h3 : adV P K MM QQ x = (a : Int)) (h4 : plE P K (MM ++ [x]) (QQ ++ [(a : Int)]) = 0)
    (hP0 : 0 < n) (hm0 : 0 < m) (hTv : Hid (plE P K l T = 0)) :
    Calls Tryz.prog 11 #[.agg #[.slice A n c, .slice B m d], .slice L r s, .agg #[.int .i64 n0, .int .i64 n1, .int .i64 n2]] w fun e w' => e = .returned (.bool true) ∧ Below w.heap.size w w' := by
  have Hr : Hid (r = l.length) := Lib.hid hl.len
  have hr8 : r ≤ 8 := by rw [hl.len]; exact (sE_0 h0).2.1
  have hQL : QQ.length = MM.length := (plE_len h1).1
  have Hp := Lib.hid hp; have Hg := Lib.hid hg; have Hl := Lib.hid hl; have H0 := Lib.hid h0
  have HR : Hid ((sE P K l == 0) = true) := Lib.hid (by simpa using h0)
  have HE := Lib.hid hE; have HT := Lib.hid hT; have Hk := Lib.hid hk; have HtE := Lib.hid htE; have HtL := Lib.hid htL; have HtP := Lib.hid htP
  have HML := Lib.hid hML; have HQL := Lib.hid hQL; have H1 := Lib.hid h1; have H2 := Lib.hid h2; have H3 := Lib.hid h3; have H4 := Lib.hid h4; have Hrs := Lib.hid hrs
  have Hx := Lib.hid hx
  have hr0 : (0 : Int) < (r : Int) := by omega
  have hr6 : (r : Int) ≤ 1000000 := by omega
  have hr9 : 0 < r := by omega
  have hrz : ((r : Int) == 0) = false := by simp; omega
  have e1 : IntKind.i64.wrap ((r : Int) - 1) = (r : Int) - 1 := by rw [IntWalk.i64_in _ (by omega)]
  have hMe : (MM.length : Int) = (r : Int) - 1 := by have := Hr.out; omega
  have hM7 : MM.length ≤ 7 := by have := Hr.out; omega
  have hQ7 : QQ.length ≤ 7 := by omega
  have hxl : k < l.length := by have := Hr.out; omega
  clear hp hg hl h0 hE hT hk htE htL htP hML hQL h1 h2 h3 h4 hrs hx
  go_enter Tryz.func11, Tryz.ntmps11
  go_upto_region 1 with fail
  generalize hW : (World.alloc _ _) = W
  have HB : Hid (Below w.heap.size w W) := Lib.hid (by subst hW; go_grown)
  have KY : Bx W (w.heap.size) 25 [.slice A n c, .slice B m d] := by subst hW; repeat (first | (refine Bx.newAt _ _ _ ?_; first | rfl | (simp only [World.size_alloc]; done) | (simp only [World.size_alloc]; omega)) | refine Bx.old ?_ _)
  have KS : Bx W (w.heap.size + 1) 69 [.int .i64 n0, .int .i64 n1, .int .i64 n2] := by subst hW; repeat (first | (refine Bx.newAt _ _ _ ?_; first | rfl | (simp only [World.size_alloc]; done) | (simp only [World.size_alloc]; omega)) | refine Bx.old ?_ _)
  clear hW
  have KYl := KY.lt; have KYc := KY.get; have KYf := KY.fr; have KSl := KS.lt; have KSc := KS.get; have KSf := KS.fr
  go_upto_region 3 with (go_at_call 58; refine (right_any A n c P B m d K L r s l _ (Hp.out.keep HB.out) (Hg.out.keep HB.out) (Hl.out.keep HB.out)).mono ?_; rintro e X ⟨rfl, hbx⟩; rw [HR.out]; clear KYl KYc KYf; replace KY := KY.keep hbx; have KYl := KY.lt; have KYc := KY.get; have KYf := KY.fr; clear KSl KSc KSf; replace KS := KS.keep hbx; have KSl := KS.lt; have KSc := KS.get; have KSf := KS.fr; replace HB := Lib.hid (up HB.out hbx); clear hbx)
  go_upto_region 6 with (go_at_call 23; refine (Place_any A n c P B m d K L r s l _ (Hp.out.keep HB.out) (Hg.out.keep HB.out) (Hl.out.keep HB.out)).mono ?_; rintro e X1 ⟨v1, rfl, hv1, hbx⟩; rw [HE.out]; rw [HT.out] at hv1; obtain ⟨C1, k1, c1, rfl, hk1, h1, -⟩ := hv1; have HI1 := Lib.hid h1; have Hk1 := Lib.hid hk1; clear h1 hk1; clear KYl KYc KYf; replace KY := KY.keep hbx; have KYl := KY.lt; have KYc := KY.get; have KYf := KY.fr; clear KSl KSc KSf; replace KS := KS.keep hbx; have KSl := KS.lt; have KSc := KS.get; have KSf := KS.fr; replace HB := Lib.hid (up HB.out hbx); clear hbx)
  go_upto_region 7 with (go_at_call 59; refine (mod_any _ _ _ hr0 hr6).mono ?_; rintro e X4 ⟨rfl, rfl⟩; rw [Hk.out])
  go_upto_region 8 with (go_at_call 38; refine (Take_any A n c P B m d K L r s l C1 k1 c1 T k _ (Hp.out.keep HB.out) (Hg.out.keep HB.out) (Hl.out.keep HB.out) HI1.out Hrs.out.1 Hrs.out.2 Hk1.out.1 Hk1.out.2).mono ?_; rintro e X2 ⟨v7, v8, rfl, hv7, hv8, hbx⟩; rw [HtE.out]; rw [HtL.out] at hv7; rw [HtP.out] at hv8; obtain ⟨C7, k7, c7, rfl, -, h7, -⟩ := hv7; obtain ⟨D7, j7, d7, rfl, -, h8, -⟩ := hv8; obtain rfl := h7.len; obtain rfl := h8.len; have HI7 := Lib.hid h7; have HJ7 := Lib.hid h8; replace HI1 := Lib.hid (HI1.out.keep hbx); clear h7 h8; clear KYl KYc KYf; replace KY := KY.keep hbx; have KYl := KY.lt; have KYc := KY.get; have KYf := KY.fr; clear KSl KSc KSf; replace KS := KS.keep hbx; have KSl := KS.lt; have KSc := KS.get; have KSf := KS.fr; replace HB := Lib.hid (up HB.out hbx); clear hbx)
  go_upto_region 10 with (go_at_call 40; refine (checkPlace_any A n c P B m d K C7 MM.length c7 MM D7 QQ.length d7 QQ _ (Hp.out.keep HB.out) (Hg.out.keep HB.out) HI7.out HJ7.out).mono ?_; rintro e X3 ⟨rfl, hbx⟩; rw [H1.out]; replace HI7 := Lib.hid (HI7.out.keep hbx); replace HJ7 := Lib.hid (HJ7.out.keep hbx); replace HI1 := Lib.hid (HI1.out.keep hbx); clear KYl KYc KYf; replace KY := KY.keep hbx; have KYl := KY.lt; have KYc := KY.get; have KYf := KY.fr; clear KSl KSc KSf; replace KS := KS.keep hbx; have KSl := KS.lt; have KSc := KS.get; have KSf := KS.fr; replace HB := Lib.hid (up HB.out hbx); clear hbx)
  clear hMe
  obtain ⟨bl, ol, rfl, hbl, hcl⟩ := (Hl.out.keep HB.out).get k hxl
  have hlx : l[k] = x := by have := Hx.out; rw [List.getElem?_eq_getElem hxl] at this; exact Option.some.inj this
  rw [hlx] at hcl
  clear hlx
  refine wp_region_late 11 10 11 (by kernel_rfl) rfl rfl (by decide) rfl rfl (by kernel_rfl) (by kernel_rfl) (by kernel_rfl) (by kernel_rfl) ?_
  simp only [List.set_cons_succ, List.set_cons_zero, late, List.take_succ_cons, List.take_zero, List.drop_succ_cons, List.drop_zero]
  repeat (go_big_quiet_step (((go_at_call 34; exact quiet_grow rfl (Add_any A n c P B m d K C7 MM.length c7 MM D7 QQ.length d7 QQ x _ (Hp.out.keep (up HB.out (grow_below _ _))) (Hg.out.keep (up HB.out (grow_below _ _))) (HI7.out.keep (grow_below _ _)) (HJ7.out.keep (grow_below _ _)))))))
  refine wpQuiet_nil ?_
  intro z
  have hbz := grow_below X3 z
  generalize grow X3 z = X at *
  rw [H3.out, H2.out]
  replace HI7 := Lib.hid (HI7.out.keep hbz); replace HJ7 := Lib.hid (HJ7.out.keep hbz); replace HI1 := Lib.hid (HI1.out.keep hbz)
  have hcl2 := (hbz.cell (p := ⟨bl, ol + k, none⟩) hbl).trans hcl
  have hblX : bl < X.heap.size := by have := hbz.size; omega
  clear KYl KYc KYf; replace KY := KY.keep hbz; have KYl := KY.lt; have KYc := KY.get; have KYf := KY.fr; clear KSl KSc KSf; replace KS := KS.keep hbz; have KSl := KS.lt; have KSc := KS.get; have KSf := KS.fr; replace HB := Lib.hid (up HB.out hbz); clear hbz
  clear hcl hbl
  go_wp2_with fail
  refine ⟨rfl, ?_⟩
  go_upto_region 11 with fail
  have HKY := Lib.hid KY
  refine wp_midP (fun b : Value × Value × Value × Value × Value × Value × Value × Value => [(88, .int .i64 0), (89, .bool false), (90, .bool false), (91, .agg #[.slice A n c, .slice B m d]), (92, b.1), (93, .slice C7 MM.length c7), (94, b.2.1), (95, .slice (some ⟨bl, ol, none⟩) r s), (96, .int .i64 (k : Int)), (97, .pointer (some ⟨bl, ol + k, none⟩)), (98, .int .i64 x), (99, b.2.2.1), (100, b.2.2.2.1), (101, b.2.2.2.2.1), (102, .slice D7 QQ.length d7), (103, b.2.2.2.2.2.1), (104, .int .i64 (a : Int)), (105, b.2.2.2.2.2.2.1), (106, b.2.2.2.2.2.2.2), (107, .int .i64 0), (108, .bool false), (109, .bool false)])
    (fun b w' => Below X.heap.size X w') ?_ ?_
  · refine wp_region_takesH 19 11 [0, 1, 2, 3, 5, 7, 8, 9, 10, 14, 16] (by kernel_rfl) (by kernel_rfl) (by kernel_rfl) (by kernel_rfl) (by decide) (fun _ _ _ _ _ h => by cases h.1) (by kernel_rfl) rfl ?_
    refine takes_at (t := 88) (v := .int .i64 0) rfl rfl (by kernel_rfl) ?_ ?_
    · (rintro _ ⟨z9, rfl⟩; kernel_rfl)
    simp only [Act.put, List.setIfInBounds_toArray, List.set_cons_zero, List.set_cons_succ]
    refine takes_at (t := 89) (v := .bool false) rfl rfl (by kernel_rfl) ?_ ?_
    · (rintro _ ⟨z9, rfl⟩; kernel_rfl)
    simp only [Act.put, List.setIfInBounds_toArray, List.set_cons_zero, List.set_cons_succ]
    refine takes_at (t := 90) (v := .bool false) rfl rfl (by kernel_rfl) ?_ ?_
    · (rintro _ ⟨z9, rfl⟩; kernel_rfl)
    simp only [Act.put, List.setIfInBounds_toArray, List.set_cons_zero, List.set_cons_succ]
    refine takes_at (t := 91) (v := .agg #[.slice A n c, .slice B m d]) rfl rfl (by kernel_rfl) ?_ ?_
    · (rintro _ ⟨z9, rfl⟩; exact run_get 25 (.tmp 3) rfl rfl (cell_res (HKY.out.keep (grow_below X z9)) Tryz.underlying25 rfl (by kernel_rfl)))
    simp only [Act.put, List.setIfInBounds_toArray, List.set_cons_zero, List.set_cons_succ]
    refine takes_at (t := 93) (v := .slice C7 MM.length c7) rfl rfl (by kernel_rfl) ?_ ?_
    · (rintro _ ⟨z9, rfl⟩; kernel_rfl)
    simp only [Act.put, List.setIfInBounds_toArray, List.set_cons_zero, List.set_cons_succ]
    refine takes_at (t := 95) (v := .slice (some ⟨bl, ol, none⟩) r s) rfl rfl (by kernel_rfl) ?_ ?_
    · (rintro _ ⟨z9, rfl⟩; kernel_rfl)
    simp only [Act.put, List.setIfInBounds_toArray, List.set_cons_zero, List.set_cons_succ]
    refine takes_at (t := 96) (v := .int .i64 (k : Int)) rfl rfl (by kernel_rfl) ?_ ?_
    · (rintro _ ⟨z9, rfl⟩; kernel_rfl)
    simp only [Act.put, List.setIfInBounds_toArray, List.set_cons_zero, List.set_cons_succ]
    refine takes_at (t := 97) (v := .pointer (some ⟨bl, ol + k, none⟩)) rfl rfl (by kernel_rfl) ?_ ?_
    · (rintro _ ⟨z9, rfl⟩; go_simp; try (with_reducible rfl))
    simp only [Act.put, List.setIfInBounds_toArray, List.set_cons_zero, List.set_cons_succ]
    refine takes_at (t := 98) (v := .int .i64 x) rfl rfl (by kernel_rfl) ?_ ?_
    · (rintro _ ⟨z9, rfl⟩; have h9 := ((grow_below X z9).cell (p := ⟨bl, ol + k, none⟩) hblX).trans hcl2; go_simp; try (with_reducible rfl))
    simp only [Act.put, List.setIfInBounds_toArray, List.set_cons_zero, List.set_cons_succ]
    refine takes_at (t := 102) (v := .slice D7 QQ.length d7) rfl rfl (by kernel_rfl) ?_ ?_
    · (rintro _ ⟨z9, rfl⟩; kernel_rfl)
    simp only [Act.put, List.setIfInBounds_toArray, List.set_cons_zero, List.set_cons_succ]
    refine takes_at (t := 104) (v := .int .i64 (a : Int)) rfl rfl (by kernel_rfl) ?_ ?_
    · (rintro _ ⟨z9, rfl⟩; kernel_rfl)
    simp only [Act.put, List.setIfInBounds_toArray, List.set_cons_zero, List.set_cons_succ]
    simp only [wpTakes]
    intro hh9
    refine wpAnyT_jobs (js := jobs11) (R := fun i v w' => OI w' X.heap.size v (lst11 MM QQ x a i)) (own := ownL) (w0 := X) (jobs_ok (by kernel_rfl)) (by kernel_rfl) (by kernel_rfl) (by decide) (by kernel_rfl) (by kernel_rfl) (fun w h => below_grow h) (fun i v w w' h hb _ => OI.stab h hb) ?_ ?_ ?_ 11 _ _ _ (rinv_start hh9 ⟨rfl, rfl, rfl, Nat.le_refl _, fun _ _ => rfl⟩ (by kernel_rfl) (by kernel_rfl)) (by kernel_rfl)
    · intro j hj o ho a9 ha
      refine wanted_agr (i := 2) (t := 90) (b := false) ha (by kernel_rfl) (by kernel_rfl) (by kernel_rfl) ?_
      rcases mem_jobs11 hj with rfl | rfl | rfl | rfl | rfl | rfl | rfl | rfl <;> (obtain rfl := Option.some.inj ho; rfl)
    · intro j hj o ho a9 w9 ha hb9 hg9 _
      rcases mem_jobs11 hj with rfl | rfl | rfl | rfl | rfl | rfl | rfl | rfl <;> obtain rfl := Option.some.inj ho
      · exact did_make0 hb9 rfl rfl
      · exact did_app (c := ⟨4, 92, []⟩) (k := c7) (by decide) (by decide) hb9 rfl (.tmp 93) rfl (hg9 _ (by decide) (by decide)).1 ((agr_eval ha (by decide)).trans (by kernel_rfl)) (HI7.out.keep hb9) (by simp [lst11]; omega)
      · exact did_make1 (s := 98) hb9 rfl rfl ((agr_eval ha (by decide)).trans (by kernel_rfl))
      · exact did_app2 (c := ⟨6, 94, [4]⟩) (e := ⟨11, 99, []⟩) (by decide) (by decide) hb9 rfl rfl (hg9 _ (by decide) (by decide)).1 (hg9 _ (by decide) (by decide)).1 (by simp [lst11]; omega)
      · exact did_make0 hb9 rfl rfl
      · exact did_app (c := ⟨13, 101, []⟩) (k := d7) (by decide) (by decide) hb9 rfl (.tmp 102) rfl (hg9 _ (by decide) (by decide)).1 ((agr_eval ha (by decide)).trans (by kernel_rfl)) (HJ7.out.keep hb9) (by simp [lst11]; omega)
      · exact did_make1 (s := 104) hb9 rfl rfl ((agr_eval ha (by decide)).trans (by kernel_rfl))
      · exact did_app2 (c := ⟨15, 103, [13]⟩) (e := ⟨17, 105, []⟩) (by decide) (by decide) hb9 rfl rfl (hg9 _ (by decide) (by decide)).1 (hg9 _ (by decide) (by decide)).1 (by simp [lst11]; omega)
    · intro a9 w9 ha hb9 hg9
      have g12 : OI w9 X.heap.size (a9.tmps.getD 100 undef) (MM ++ [x]) := hg9 ⟨12, 100, [6, 11]⟩ (by decide) (by decide)
      have g18 : OI w9 X.heap.size (a9.tmps.getD 106 undef) (QQ ++ [(a : Int)]) := hg9 ⟨18, 106, [15, 17]⟩ (by decide) (by decide)
      rw [← agr_puts ha]
      clear hg9 ha
      simp only [jobs11, List.map_cons, List.map_nil, puts, Act.put, List.setIfInBounds_toArray, List.set_cons_zero, List.set_cons_succ]
      generalize a9.tmps.getD 100 undef = v100 at *
      generalize a9.tmps.getD 106 undef = v106 at *
      generalize a9.tmps.getD 92 undef = v92
      generalize a9.tmps.getD 94 undef = v94
      generalize a9.tmps.getD 99 undef = v99
      generalize a9.tmps.getD 101 undef = v101
      generalize a9.tmps.getD 103 undef = v103
      generalize a9.tmps.getD 105 undef = v105
      clear a9
      obtain ⟨A12, c12, rfl, hc12, hi12, _⟩ := g12.is
      obtain ⟨A18, c18, rfl, hc18, hi18, _⟩ := g18.is
      simp only [List.drop_succ_cons, List.drop_zero]
      have HC40 := Lib.hid (checkPlace_any A n c P B m d K A12 _ c12 (MM ++ [x]) A18 _ c18 (QQ ++ [(a : Int)]) w9 (Hp.out.keep (up HB.out hb9)) (Hg.out.keep (up HB.out hb9)) hi12 hi18)
      rw [H4.out] at HC40
      have HB9 := Lib.hid hb9
      clear hi12 hi18 g12 g18 hc12 hc18 hb9 KYl KYc KYf KSl KSc KSf hcl2 hblX HI7 HJ7 HI1
      refine list_enter (t := 107) (by kernel_rfl) (by kernel_rfl) (by kernel_rfl) HC40.out (fun Y hby => ?_)
      simp only [Act.put, List.setIfInBounds_toArray, List.set_cons_zero, List.set_cons_succ]
      refine list_value (t := 108) (v := .bool false) (by kernel_rfl) (by kernel_rfl) (by kernel_rfl) ?_
      simp only [Act.put, List.setIfInBounds_toArray, List.set_cons_zero, List.set_cons_succ]
      refine list_value (t := 109) (v := .bool false) (by kernel_rfl) (by kernel_rfl) (by kernel_rfl) ?_
      simp only [Act.put, List.setIfInBounds_toArray, List.set_cons_zero, List.set_cons_succ]
      exact ⟨rfl, (v92, v94, v99, .slice A12 (MM ++ [x]).length c12, v101, v103, v105, .slice A18 (QQ ++ [(a : Int)]).length c18), by kernel_rfl, HB9.out.trans (hby.mono HB9.out.size)⟩
  · rintro ⟨v92, v94, v99, v100, v101, v103, v105, v106⟩ w9 hb9
    simp only [puts, Act.put, List.setIfInBounds_toArray, List.set_cons_zero, List.set_cons_succ]
    go_upto_region 13 with fail
    clear KYl KYc KYf KSl KSc KSf HKY
    have hblw : w.heap.size < w9.heap.size := by have := HB.out.size; have := hb9.size; have := KY.lt; omega
    replace KY := KY.keep hb9; replace KS := KS.keep hb9
    replace HI1 := Lib.hid (HI1.out.keep hb9)
    replace HB := Lib.hid (up HB.out hb9)
    clear hb9 HI7 HJ7 hcl2 hblX
    have HKY := Lib.hid KY
    have hn5 : P.length ≤ 5 := (yOk_k (sE_0 H0.out).1).1
    have hPl : P.length = n := Hp.out.len.symm
    have hKl : K.length = m := Hg.out.len.symm
    have hm6 : K.length ≤ 1000 := by have := ks_nine (yOk_k (sE_0 H0.out).1).2.2; omega
    have HPl := Lib.hid hPl; have HKl := Lib.hid hKl
    clear hPl hKl
    refine wp_midP (fun b : Value × Value × Value × Value × Option Addr × Nat × Option Addr × Nat × Nat => [(110, b.1), (111, .pointer (some ⟨w.heap.size, 0, none⟩)), (112, .slice A n c), (113, b.2.1), (114, b.2.2.1), (115, .pointer (some ⟨w.heap.size, 1, none⟩)), (116, .slice B m d), (117, b.2.2.2.1), (118, .agg #[.slice b.2.2.2.2.1 P.length b.2.2.2.2.2.1, .slice b.2.2.2.2.2.2.1 K.length b.2.2.2.2.2.2.2.1]), (15, .pointer (some ⟨b.2.2.2.2.2.2.2.2, 0, none⟩))])
      (fun b w' => OI w' w9.heap.size (.slice b.2.2.2.2.1 P.length b.2.2.2.2.2.1) P ∧ OK w' w9.heap.size (.slice b.2.2.2.2.2.2.1 K.length b.2.2.2.2.2.2.2.1) K ∧ Bx w' b.2.2.2.2.2.2.2.2 25 [.slice b.2.2.2.2.1 P.length b.2.2.2.2.2.1, .slice b.2.2.2.2.2.2.1 K.length b.2.2.2.2.2.2.2.1] ∧ w9.heap.size ≤ b.2.2.2.2.2.2.2.2 ∧ Below w9.heap.size w9 w') ?_ ?_
    · refine wp_region_takesH 10 7 [1, 2, 5, 6] (by kernel_rfl) (by kernel_rfl) (by kernel_rfl) (by kernel_rfl) (by decide) (fun _ _ _ _ _ h => by cases h.1) (by kernel_rfl) rfl ?_
      refine takes_at (t := 111) (v := .pointer (some ⟨w.heap.size, 0, none⟩)) rfl rfl (by kernel_rfl) ?_ ?_
      · (rintro _ ⟨z9, rfl⟩; kernel_rfl)
      simp only [Act.put, List.setIfInBounds_toArray, List.set_cons_zero, List.set_cons_succ]
      refine takes_at (t := 112) (v := .slice A n c) rfl rfl (by kernel_rfl) ?_ ?_
      · (rintro _ ⟨z9, rfl⟩; have h9 := ((grow_below w9 z9).cell (p := ⟨w.heap.size, 0, none⟩) hblw).trans (HKY.out.get 0); go_simp; try (with_reducible rfl))
      simp only [Act.put, List.setIfInBounds_toArray, List.set_cons_zero, List.set_cons_succ]
      refine takes_at (t := 115) (v := .pointer (some ⟨w.heap.size, 1, none⟩)) rfl rfl (by kernel_rfl) ?_ ?_
      · (rintro _ ⟨z9, rfl⟩; kernel_rfl)
      simp only [Act.put, List.setIfInBounds_toArray, List.set_cons_zero, List.set_cons_succ]
      refine takes_at (t := 116) (v := .slice B m d) rfl rfl (by kernel_rfl) ?_ ?_
      · (rintro _ ⟨z9, rfl⟩; have h9 := ((grow_below w9 z9).cell (p := ⟨w.heap.size, 1, none⟩) hblw).trans (HKY.out.get 1); go_simp; try (with_reducible rfl))
      simp only [Act.put, List.setIfInBounds_toArray, List.set_cons_zero, List.set_cons_succ]
      simp only [wpTakes]
      intro hh9
      refine wpAnyT_jobs (js := jobs13) (R := R13 w9.heap.size P K) (own := ownX) (w0 := w9) (jobs_ok (by kernel_rfl)) (by kernel_rfl) (by kernel_rfl) (by decide) (by kernel_rfl) (by kernel_rfl) (fun w h => below_grow h) (fun i v w w' h hb _ => R13_stab h hb) ?_ ?_ ?_ 7 _ _ _ (rinv_start hh9 ⟨rfl, rfl, rfl, Nat.le_refl _, fun _ _ => rfl⟩ (by kernel_rfl) (by kernel_rfl)) (by kernel_rfl)
      · intro j hj o ho a9 ha
        rcases mem_jobs13 hj with rfl | rfl | rfl | rfl | rfl | rfl <;> (obtain rfl := Option.some.inj ho; rfl)
      · intro j hj o ho a9 v9 ha hb9 hg9 _
        rcases mem_jobs13 hj with rfl | rfl | rfl | rfl | rfl | rfl <;> obtain rfl := Option.some.inj ho
        · exact didX_make0 hb9 rfl rfl
        · have q0 : OI v9 w9.heap.size (slotOf ⟨0, 110, []⟩ a9) [] := (hg9 ⟨0, 110, []⟩ (by decide) (by decide)).1
          exact didX_app (js := jobs13) (l := []) (r := P) (c := ⟨0, 110, []⟩) (k := c) (by decide) (by decide) hb9 rfl (.tmp 112) rfl q0 ((agr_eval ha (by decide)).trans (by kernel_rfl)) (Hp.out.keep (up HB.out hb9)) (by have := HPl.out; simp; omega)
        · exact didX_make0K hb9 rfl rfl
        · have q4 : OK v9 w9.heap.size (slotOf ⟨4, 114, []⟩ a9) [] := (hg9 ⟨4, 114, []⟩ (by decide) (by decide)).1
          exact didX_appK (js := jobs13) (l := []) (r := K) (c := ⟨4, 114, []⟩) (k := d) (by decide) (by decide) hb9 rfl (.tmp 116) rfl q4 ((agr_eval ha (by decide)).trans (by kernel_rfl)) (Hg.out.keep (up HB.out hb9)) hm0 (by have := HKl.out; simp; omega)
        · have q3 : OI v9 w9.heap.size (slotOf ⟨3, 113, [0]⟩ a9) P := (hg9 ⟨3, 113, [0]⟩ (by decide) (by decide)).1
          have q7 : OK v9 w9.heap.size (slotOf ⟨7, 117, [4]⟩ a9) K := (hg9 ⟨7, 117, [4]⟩ (by decide) (by decide)).1
          exact didX_build (js := jobs13) (c := ⟨3, 113, [0]⟩) (e := ⟨7, 117, [4]⟩) (by decide) (by decide) (by decide) (by decide) hb9 rfl rfl q3 q7
        · exact didX_alloc25 hb9 rfl rfl
      · intro a9 v9 ha hb9 hg9
        have g8 : ∃ x y, a9.tmps.getD 118 undef = .agg #[x, y] ∧ OI v9 w9.heap.size x P ∧ OK v9 w9.heap.size y K := hg9 ⟨8, 118, [3, 7]⟩ (by decide) (by decide)
        have g9 : ∃ b, a9.tmps.getD 15 undef = .pointer (some ⟨b, 0, none⟩) ∧ w9.heap.size ≤ b ∧ Bx v9 b 25 [.slice none 0 0, .slice none 0 0] := hg9 ⟨9, 15, []⟩ (by decide) (by decide)
        rw [← agr_puts ha]
        clear hg9 ha
        simp only [jobs13, List.map_cons, List.map_nil, puts, Act.put, List.setIfInBounds_toArray, List.set_cons_zero, List.set_cons_succ]
        generalize a9.tmps.getD 118 undef = v118 at *
        generalize a9.tmps.getD 15 undef = v15 at *
        generalize a9.tmps.getD 110 undef = v110
        generalize a9.tmps.getD 113 undef = v113
        generalize a9.tmps.getD 114 undef = v114
        generalize a9.tmps.getD 117 undef = v117
        clear a9
        obtain ⟨x8, y8, rfl, hx8, hy8⟩ := g8
        obtain ⟨bb, rfl, hbb, KM⟩ := g9
        obtain ⟨A13, c13, rfl⟩ := hx8.shape
        obtain ⟨B13, d13, rfl⟩ := hy8.shape
        simp only [List.drop_succ_cons, List.drop_zero]
        refine wpList_put 25 15 118 rfl rfl KM rfl rfl (by kernel_rfl) rfl (by simp [Value.oneCell']) ?_
        intro U KMn hp
        exact ⟨rfl, (v110, v113, v114, v117, A13, c13, B13, d13, bb), by kernel_rfl, hx8.putX KM (by decide) hp, hy8.putX KM (by decide) hp, KMn, hbb, upP hb9 hp hbb⟩
    · rintro ⟨v110, v113, v114, v117, A13, c13, B13, d13, bb⟩ U ⟨hx8, hy8, KM, hbb, hbU⟩
      simp only [puts, Act.put, List.setIfInBounds_toArray, List.set_cons_zero, List.set_cons_succ]
      have hKSl : w.heap.size + 1 < w9.heap.size := KS.lt
      have hp0 : (0 : Int) < (P.length : Int) := by have := HPl.out; omega
      have hp6 : (P.length : Int) ≤ 1000000 := by omega
      have hk0 : (0 : Int) < (K.length : Int) := by have := HKl.out; omega
      have hk6 : (K.length : Int) ≤ 1000000 := by omega
      replace KS := KS.keep hbU
      have HBw := HB
      clear HB
      have HB : Hid (Below w9.heap.size w9 U) := Lib.hid hbU
      clear hbU KY HKY hblw
      obtain ⟨g, rfl, hg9, HR⟩ := hx8.rowI (by omega)
      obtain ⟨g2, cur2, rfl, hg29, HR2⟩ := hy8.row (by omega)
      obtain ⟨i, hi⟩ : ∃ i : Nat, modI n1 (P.length : Int) = (i : Int) := Int.eq_ofNat_of_zero_le (modI_in hp0).1
      have hiP : i < P.length := by have := (modI_in (n := n1) hp0).2; omega
      have Hi := Lib.hid hi
      clear hi
      have HX := Lib.hid hx8; have HY := Lib.hid hy8
      clear hx8 hy8
      have KMl := KM.lt; have KMc := KM.get; have KMf := KM.fr; have KSl := KS.lt; have KSc := KS.get; have KSf := KS.fr
      go_upto_region 15 with (go_at_call 59; refine (mod_any _ _ _ hp0 hp6).mono ?_; rintro e X4 ⟨rfl, rfl⟩; rw [Hi.out])
      have hPps : psOk P = true := (yOk_k (sE_0 H0.out).1).2.1
      have cP := HR.cell hiP
      have fP := HR.fr i
      have hgl := HR.lt
      obtain ⟨pi, hpi⟩ : ∃ y, P[i] = y := ⟨_, rfl⟩
      rw [hpi] at cP
      have hpb : 0 ≤ pi ∧ pi ≤ 1000 := inB_iff.1 (by have := List.all_eq_true.1 hPps P[i] (List.getElem_mem hiP); rw [hpi] at this; exact this)
      obtain ⟨r1, hr1⟩ : ∃ r : Int, modI n2 20 = r := ⟨_, rfl⟩
      have hrb : 0 ≤ r1 ∧ r1 < 20 := by rw [← hr1]; exact modI_in (by decide)
      have HM1 : Hid (∀ W, Calls Tryz.prog 59 #[.int .i64 n2, .int .i64 20] W fun e w' => e = .returned (.int .i64 r1) ∧ W = w') := Lib.hid (by rw [← hr1]; exact fun W => mod_any n2 20 W (by decide) (by decide))
      have Hpi := Lib.hid hpi
      clear hpi hr1 hPps
      have hpos1 := hpb.1; have hpos2 := hpb.2; have hrs1 := hrb.1; have hrs2 := hrb.2
      refine wp_region_grow_tail 14 (by kernel_rfl) (by kernel_rfl) ?_
      simp only [List.take_succ_cons, List.take_zero, List.drop_succ_cons, List.drop_zero]
      repeat (go_big_quiet_step (((go_at_call 59; exact quiet_grow rfl (still_grow (HM1.out _))))))
      refine wpQuiet_nil ?_
      intro z
      have hbz := grow_below U z
      generalize grow U z = V at *
      replace HR := HR.keep hbz
      replace HX := Lib.hid (HX.out.keep hbz); replace HY := Lib.hid (HY.out.keep hbz)
      clear cP fP hgl HR2
      clear KMl KMc KMf; replace KM := KM.keep hbz; have KMl := KM.lt; have KMc := KM.get; have KMf := KM.fr; clear KSl KSc KSf; replace KS := KS.keep hbz; have KSl := KS.lt; have KSc := KS.get; have KSf := KS.fr; replace HB := Lib.hid (up HB.out hbz); clear hbz
      have fV := HR.fr i
      have cV := HR.cell hiP
      rw [Hpi.out] at cV
      have hgl := HR.lt
      go_upto_region 16 with fail
      obtain ⟨mv, hmv⟩ : ∃ v : Int, min 1000 (pi + r1) = v := ⟨_, rfl⟩
      have hmvb : pi ≤ mv ∧ 0 ≤ mv ∧ mv ≤ 1000 := by omega
      rw [hmv]
      clear hmv
      have hput := Put.cell V g i (.int .i64 mv)
      have hne1 : bb ≠ g := fun e => HX.out.not_row KM (by decide) (by rw [e]; rfl)
      obtain ⟨cg, hcg, _⟩ := HR.ex
      have hY2 := HY.out.putX hcg (by decide) hput
      have hX2 := HX.out.store i mv
      have hsl : (P.set i mv).length = P.length := List.length_set
      replace KM := KM.put hput hne1
      replace KS := KS.put hput (by omega)
      replace HB := Lib.hid (upP HB.out hput hg9)
      clear hput hne1 hcg HR cV fV hgl KMl KMc KMf KSl KSc KSf HX HY
      have HX := Lib.hid hX2; have HY := Lib.hid hY2
      clear hX2 hY2
      have HPf : Hid ((P.set i mv).length ≤ 5 ∧ psOk (P.set i mv) = true ∧ P.length ≤ (P.set i mv).length ∧ ∀ q, P.getD q 0 ≤ (P.set i mv).getD q 0) := Lib.hid (set_more hn5 (yOk_k (sE_0 H0.out).1).2.1 hiP (by rw [Hpi.out]; exact hmvb.1) hmvb.2)
      generalize World.setCell V _ _ = V1 at *
      rw [← hsl] at HX KM
      clear hsl
      have hQl : (P.set i mv).length ≤ 5 := HPf.out.1
      generalize P.set i mv = P1 at *
      have KMl := KM.lt; have KMc := KM.get; have KMf := KM.fr; have KSl := KS.lt; have KSc := KS.get; have KSf := KS.fr
      by_cases h5c : P1.length < 5
      rotate_left
      · have h5i : ¬ ((P1.length : Int) < 5) := by omega
        go_upto_region 18 with fail
        have hKs : Ks V1 (some ⟨g2, 0, none⟩) K.length K := by
          obtain ⟨A9, c9, e9, _, h9, _⟩ := HY.out.ks (by omega)
          cases e9; exact h9
        obtain ⟨j, hj⟩ : ∃ j : Nat, modI n2 (K.length : Int) = (j : Int) := Int.eq_ofNat_of_zero_le (modI_in hk0).1
        have hjK : j < K.length := by have := (modI_in (n := n2) hk0).2; omega
        have HM3 : Hid (∀ W, Calls Tryz.prog 59 #[.int .i64 n2, .int .i64 (K.length : Int)] W fun e w' => e = .returned (.int .i64 (j : Int)) ∧ W = w') := Lib.hid (by rw [← hj]; exact fun W => mod_any n2 _ W hk0 hk6)
        clear hj
        obtain ⟨bq, oq, eq9, hbq, hkd⟩ := hKs.get j hjK
        cases eq9
        have c3 : V1.cell? ⟨g2, j * 4 + 3, none⟩ = some (.int .i64 K[j].a) := by have := hkd.c3; rwa [Nat.zero_add] at this
        have f3 : V1.frozen? ⟨g2, j * 4 + 3, none⟩ = false := HY.out.h.frozenAt _
        obtain ⟨ka, hka⟩ : ∃ x, K[j].a = x := ⟨_, rfl⟩
        rw [hka] at c3
        clear hKs hkd hka
        refine wp_region_grow_tail 10 (by kernel_rfl) (by kernel_rfl) ?_
        simp only [List.take_succ_cons, List.take_zero, List.drop_succ_cons, List.drop_zero]
        repeat (go_big_quiet_step (((go_at_call 59; exact quiet_grow rfl (still_grow (HM3.out _))))))
        refine wpQuiet_nil ?_
        intro z3
        have hbz := grow_below V1 z3
        have c3z := (hbz.cell (p := ⟨g2, j * 4 + 3, none⟩) hbq).trans c3
        generalize grow V1 z3 = V2 at *
        replace HX := Lib.hid (HX.out.keep hbz); replace HY := Lib.hid (HY.out.keep hbz)
        clear KMl KMc KMf; replace KM := KM.keep hbz; have KMl := KM.lt; have KMc := KM.get; have KMf := KM.fr; clear KSl KSc KSf; replace KS := KS.keep hbz; have KSl := KS.lt; have KSc := KS.get; have KSf := KS.fr; replace HB := Lib.hid (up HB.out hbz); clear hbz
        clear c3 f3
        have f3 : V2.frozen? ⟨g2, j * 4 + 3, none⟩ = false := HY.out.h.frozenAt _
        go_upto_region 19 with fail
        have hput := Put.cell V2 g2 (j * 4 + 3) (.int .i64 0)
        have hne1 : bb ≠ g2 := fun e => HY.out.not_row KM (by decide) (by rw [e]; rfl)
        obtain ⟨g2b, cur3, e3, _, HR3⟩ := HY.out.row (by omega)
        cases e3
        have hY2 := HY.out.store3 hjK 0
        have hX2 := HX.out.putX (⟨HR3⟩ : Bx V2 g2 72 cur3.toList) (by decide) hput
        have hsl3 : (K.set j ⟨K[j].s, K[j].r, K[j].e, 0⟩).length = K.length := List.length_set
        replace KM := KM.put hput hne1
        replace KS := KS.put hput (by omega)
        replace HB := Lib.hid (upP HB.out hput hg29)
        clear hput hne1 HR3 c3z f3 KMl KMc KMf KSl KSc KSf HX HY hbq
        have HX := Lib.hid hX2; have HY := Lib.hid hY2
        clear hX2 hY2
        have hksK : ksOk K = true := (yOk_k (sE_0 H0.out).1).2.2
        have HPm : Hid (sE P1 (K.set j ⟨K[j].s, K[j].r, K[j].e, 0⟩) l = 0 ∧ plE P1 (K.set j ⟨K[j].s, K[j].r, K[j].e, 0⟩) l T = 0) := Lib.hid (by
          rw [set_fr hksK hjK]
          exact more_ok _ H0.out hTv.out HPf.out.1 HPf.out.2.1 HPf.out.2.2.1 HPf.out.2.2.2)
        generalize World.setCell V2 _ _ = V3 at *
        have hKs : Ks V3 (some ⟨g2, 0, none⟩) K.length (K.set j ⟨K[j].s, K[j].r, K[j].e, 0⟩) := by
          obtain ⟨A9, c9, e9, _, h9, _⟩ := HY.out.ks (by rw [hsl3]; omega)
          injection e9 with e1 e2 e3
          subst e1
          rw [← e2] at h9
          exact h9
        clear HY
        generalize K.set j ⟨K[j].s, K[j].r, K[j].e, 0⟩ = K1 at *
        have HMn : Hid (nthE P1 K1 l 0 53 = 0) := Lib.hid (by
          have hm := (PL_mem HPm.out.1).2 HPm.out.2
          unfold nthE
          rw [if_pos HPm.out.1, if_pos (by simp; exact List.length_pos_of_mem hm)])
        have HMp : Hid (plE P1 K1 l T = 0) := Lib.hid HPm.out.2
        have HKs := Lib.hid hKs
        have HIs := Lib.hid (HX.out.isQ)
        clear hKs HPm hksK HX hsl3
        have HV := Lib.hid (up HBw.out HB.out)
        have HlV := Lib.hid (Hl.out.keep HV.out)
        have HTV := Lib.hid (HI1.out.keep HB.out)
        clear HV KS
        have KMl := KM.lt; have KMc := KM.get; have KMf := KM.fr
        go_upto_region 20 with (first
          | (refine wpList_get 25 15 rfl rfl KM rfl Tryz.underlying25 rfl (by kernel_rfl) ?_)
          | (go_at_call 23; refine (Place_any (some ⟨g, 0, none⟩) P1.length c13 P1 (some ⟨g2, 0, none⟩) K.length d13 K1 (some ⟨bl, ol, none⟩) r s l _ HIs.out HKs.out HlV.out).mono ?_; rintro e X9 ⟨v9, rfl, hv9, hbx⟩; rw [HMn.out]; clear hv9; replace HIs := Lib.hid (HIs.out.keep hbx); replace HKs := Lib.hid (HKs.out.keep hbx); replace HlV := Lib.hid (HlV.out.keep hbx); replace HTV := Lib.hid (HTV.out.keep hbx); clear KMl KMc KMf; replace KM := KM.keep hbx; have KMl := KM.lt; have KMc := KM.get; have KMf := KM.fr; replace HB := Lib.hid (up HB.out hbx); clear hbx))
        go_wp2_with (first
          | (refine wpList_get 25 15 rfl rfl KM rfl Tryz.underlying25 rfl (by kernel_rfl) ?_)
          | (go_at_call 40; refine (checkPlace_any (some ⟨g, 0, none⟩) P1.length c13 P1 (some ⟨g2, 0, none⟩) K.length d13 K1 (some ⟨bl, ol, none⟩) r s l C1 k1 c1 T _ HIs.out HKs.out HlV.out HTV.out).mono ?_; rintro e X10 ⟨rfl, hbx⟩; rw [HMp.out]; clear KMl KMc KMf; replace KM := KM.keep hbx; have KMl := KM.lt; have KMc := KM.get; have KMf := KM.fr; replace HB := Lib.hid (up HB.out hbx); clear hbx)
          | (go_at_call 22; refine (sane_any _).mono ?_; rintro e X11 ⟨rfl, hbx⟩; clear KMl KMc KMf; replace KM := KM.keep hbx; have KMl := KM.lt; have KMc := KM.get; have KMf := KM.fr; replace HB := Lib.hid (up HB.out hbx); clear hbx))
        go_ret
        exact ⟨rfl, up HBw.out HB.out⟩
      · have h5i : (P1.length : Int) < 5 := by omega
        obtain ⟨r2, hr2⟩ : ∃ r : Int, modI n2 9 = r := ⟨_, rfl⟩
        have hr2b : 0 ≤ r2 ∧ r2 < 9 := by rw [← hr2]; exact modI_in (by decide)
        have HM2 : Hid (∀ W, Calls Tryz.prog 59 #[.int .i64 n2, .int .i64 9] W fun e w' => e = .returned (.int .i64 r2) ∧ W = w') := Lib.hid (by rw [← hr2]; exact fun W => mod_any n2 9 W (by decide) (by decide))
        have HPf2 : Hid ((P1 ++ [r2]).length ≤ 5 ∧ psOk (P1 ++ [r2]) = true ∧ P.length ≤ (P1 ++ [r2]).length ∧ ∀ q, P.getD q 0 ≤ (P1 ++ [r2]).getD q 0) := Lib.hid (snoc_more h5c HPf.out ⟨hr2b.1, by omega⟩)
        have hgg : g ≠ g2 := by
          obtain ⟨g9, e9, _, HR9⟩ := HX.out.rowI (by have := HPf.out.2.2.1; omega)
          cases e9
          obtain ⟨cg, hcg, _⟩ := HR9.ex
          exact fun e => HY.out.not_row hcg (by decide) (by rw [e]; rfl)
        have hbg : bb ≠ g := fun e => HX.out.not_row KM (by decide) (by rw [e]; rfl)
        have hsz : w9.heap.size ≤ V1.heap.size := HB.out.size
        clear hr2
        go_upto_region 17 with fail
        refine wp_region_takesG 6 5 [0, 1, 2, 3] (by kernel_rfl) (by kernel_rfl) (by kernel_rfl) (by kernel_rfl) (by decide) (fun d _ _ _ _ h => by cases d <;> exact h) (by kernel_rfl) rfl ?_
        refine takes_at (t := 143) (v := .pointer (some ⟨bb, 0, none⟩)) rfl rfl (by kernel_rfl) ?_ ?_
        · (rintro _ ⟨z9, rfl⟩; kernel_rfl)
        simp only [Act.put, List.setIfInBounds_toArray, List.set_cons_zero, List.set_cons_succ]
        refine takes_at (t := 144) (v := .slice (some ⟨g, 0, none⟩) P1.length c13) rfl rfl (by kernel_rfl) ?_ ?_
        · (rintro _ ⟨z9, rfl⟩; have h9 := ((grow_below V1 z9).cell (p := ⟨bb, 0, none⟩) KMl).trans (KMc 0); go_simp; try (with_reducible rfl))
        simp only [Act.put, List.setIfInBounds_toArray, List.set_cons_zero, List.set_cons_succ]
        refine takes_at (t := 145) (v := .pointer (some ⟨w.heap.size + 1, 2, none⟩)) rfl rfl (by kernel_rfl) ?_ ?_
        · (rintro _ ⟨z9, rfl⟩; go_simp; try (with_reducible rfl))
        simp only [Act.put, List.setIfInBounds_toArray, List.set_cons_zero, List.set_cons_succ]
        refine takes_at (t := 146) (v := .int .i64 n2) rfl rfl (by kernel_rfl) ?_ ?_
        · (rintro _ ⟨z9, rfl⟩; have h9 := ((grow_below V1 z9).cell (p := ⟨w.heap.size + 1, 2, none⟩) KSl).trans (KSc 2); go_simp; try (with_reducible rfl))
        simp only [Act.put, List.setIfInBounds_toArray, List.set_cons_zero, List.set_cons_succ]
        simp only [wpTakes]
        refine wpAnyT_step (i := 4) rfl (by kernel_rfl) rfl ?_
        have hbd : Below V1.heap.size V1 V1.drew := by go_grown
        go_wp2_with (go_at_call 59; refine (HM2.out _).mono ?_; rintro e X4 ⟨rfl, rfl⟩)
        refine ⟨below_grow hbd, ?_⟩
        refine wpAnyT_step (i := 5) rfl (by kernel_rfl) rfl ?_
        go_wp2_with fail
        have hba : Below V1.heap.size V1 (V1.alloc (.cells #[.int .i64 r2] 3)).drew := by go_grown
        refine ⟨below_grow hba, ?_⟩
        refine wpAnyT_tail rfl (by kernel_rfl) (by kernel_rfl) ?_
        simp only [List.drop_succ_cons, List.drop_zero]
        have hdr : ∀ W : World, Below W.heap.size W W.drew := fun W => by go_grown
        have hI2 : Is (V1.alloc (.cells #[.int .i64 r2] 3)).drew (some ⟨V1.heap.size, 0, none⟩) 1 [r2] := (isC V1 3 [r2] (by simp)).keep (hdr _)
        generalize (World.alloc V1 _).drew = V2 at *
        replace HX := Lib.hid (HX.out.keep hba); replace HY := Lib.hid (HY.out.keep hba)
        clear KMl KMc KMf; replace KM := KM.keep hba; have KMl := KM.lt; have KMc := KM.get; have KMf := KM.fr; clear KSl KSc KSf; replace KS := KS.keep hba; have KSl := KS.lt; have KSc := KS.get; have KSf := KS.fr; replace HB := Lib.hid (up HB.out hba); clear hba
        clear hbd
        refine wpList_plain rfl fun K9 hK9 => wp_appAnyG HX.out 149 rfl (.tmp 144) (.tmp 148) rfl rfl rfl hI2 (by omega) HB.out.size ?_
        intro A4 c4 V4 hO hB4 hSame
        refine hK9 _ _ ?_
        clear hK9 hI2
        have hgs : (Value.slice (some ⟨g, 0, none⟩) P1.length c13).ownBlock = some g := rfl
        have hY4 : OK V4 w9.heap.size (.slice (some ⟨g2, 0, none⟩) K.length d13) K := HY.out.stab fun b hb => hSame b (HY.out.ownB b hb).2 (by
          have e : b = g2 := by simpa [ownL, Value.ownBlock] using hb
          rw [hgs, e]; exact fun q => hgg (Option.some.inj q))
        replace KM : Bx V4 bb 25 [.slice (some ⟨g, 0, none⟩) P1.length c13, .slice (some ⟨g2, 0, none⟩) K.length d13] := ⟨(hSame bb KMl (by rw [hgs]; exact fun q => hbg (Option.some.inj q).symm)).trans KM.h⟩
        replace KS : Bx V4 (w.heap.size + 1) 69 [.int .i64 n0, .int .i64 n1, .int .i64 n2] := ⟨(hSame _ KSl (by rw [hgs]; intro q; have := Option.some.inj q; omega)).trans KS.h⟩
        replace HB := Lib.hid (HB.out.trans hB4)
        clear KMl KMc KMf KSl KSc KSf HX HY hSame hB4 hgs hgg hbg hsz HM2
        have HX := Lib.hid hO; have HY := Lib.hid hY4
        clear hO hY4
        obtain ⟨g4, e4, hg4, _⟩ := HX.out.rowI (by simp)
        subst e4
        have hP2n : 0 < (P1 ++ [r2]).length := by simp
        have hQ2 : (P1 ++ [r2]).length ≤ 5 := HPf2.out.1
        generalize P1 ++ [r2] = P2 at *
        have KMl := KM.lt; have KMc := KM.get; have KMf := KM.fr; have KSl := KS.lt; have KSc := KS.get; have KSf := KS.fr
        go_upto_region 18 with fail
        have hput := Put.cell V4 bb 0 (.slice (some ⟨g4, 0, none⟩) P2.length c4)
        have KM2 : Bx (V4.setCell ⟨bb, 0, none⟩ (.slice (some ⟨g4, 0, none⟩) P2.length c4)) bb 25 [.slice (some ⟨g4, 0, none⟩) P2.length c4, .slice (some ⟨g2, 0, none⟩) K.length d13] := KM.cell 0 _
        have hX2 := HX.out.putX KM (by decide) hput
        have hY2 := HY.out.putX KM (by decide) hput
        replace KS := KS.put hput (by omega)
        replace HB := Lib.hid (upP HB.out hput hbb)
        clear hput KM KMl KMc KMf KSl KSc KSf HX HY HPf
        have HX := Lib.hid hX2; have HY := Lib.hid hY2; have KM := KM2; have HPf := HPf2
        clear hX2 hY2 KM2 HPf2
        generalize World.setCell V4 _ _ = V6 at *
        have KMl := KM.lt; have KMc := KM.get; have KMf := KM.fr; have KSl := KS.lt; have KSc := KS.get; have KSf := KS.fr
        have hKs : Ks V6 (some ⟨g2, 0, none⟩) K.length K := by
          obtain ⟨A9, c9, e9, _, h9, _⟩ := HY.out.ks (by omega)
          cases e9; exact h9
        obtain ⟨j, hj⟩ : ∃ j : Nat, modI n2 (K.length : Int) = (j : Int) := Int.eq_ofNat_of_zero_le (modI_in hk0).1
        have hjK : j < K.length := by have := (modI_in (n := n2) hk0).2; omega
        have HM3 : Hid (∀ W, Calls Tryz.prog 59 #[.int .i64 n2, .int .i64 (K.length : Int)] W fun e w' => e = .returned (.int .i64 (j : Int)) ∧ W = w') := Lib.hid (by rw [← hj]; exact fun W => mod_any n2 _ W hk0 hk6)
        clear hj
        obtain ⟨bq, oq, eq9, hbq, hkd⟩ := hKs.get j hjK
        cases eq9
        have c3 : V6.cell? ⟨g2, j * 4 + 3, none⟩ = some (.int .i64 K[j].a) := by have := hkd.c3; rwa [Nat.zero_add] at this
        have f3 : V6.frozen? ⟨g2, j * 4 + 3, none⟩ = false := HY.out.h.frozenAt _
        obtain ⟨ka, hka⟩ : ∃ x, K[j].a = x := ⟨_, rfl⟩
        rw [hka] at c3
        clear hKs hkd hka
        refine wp_region_grow_tail 10 (by kernel_rfl) (by kernel_rfl) ?_
        simp only [List.take_succ_cons, List.take_zero, List.drop_succ_cons, List.drop_zero]
        repeat (go_big_quiet_step (((go_at_call 59; exact quiet_grow rfl (still_grow (HM3.out _))))))
        refine wpQuiet_nil ?_
        intro z3
        have hbz := grow_below V6 z3
        have c3z := (hbz.cell (p := ⟨g2, j * 4 + 3, none⟩) hbq).trans c3
        generalize grow V6 z3 = V2 at *
        replace HX := Lib.hid (HX.out.keep hbz); replace HY := Lib.hid (HY.out.keep hbz)
        clear KMl KMc KMf; replace KM := KM.keep hbz; have KMl := KM.lt; have KMc := KM.get; have KMf := KM.fr; clear KSl KSc KSf; replace KS := KS.keep hbz; have KSl := KS.lt; have KSc := KS.get; have KSf := KS.fr; replace HB := Lib.hid (up HB.out hbz); clear hbz
        clear c3 f3
        have f3 : V2.frozen? ⟨g2, j * 4 + 3, none⟩ = false := HY.out.h.frozenAt _
        go_upto_region 19 with fail
        have hput := Put.cell V2 g2 (j * 4 + 3) (.int .i64 0)
        have hne1 : bb ≠ g2 := fun e => HY.out.not_row KM (by decide) (by rw [e]; rfl)
        obtain ⟨g2b, cur3, e3, _, HR3⟩ := HY.out.row (by omega)
        cases e3
        have hY2 := HY.out.store3 hjK 0
        have hX2 := HX.out.putX (⟨HR3⟩ : Bx V2 g2 72 cur3.toList) (by decide) hput
        have hsl3 : (K.set j ⟨K[j].s, K[j].r, K[j].e, 0⟩).length = K.length := List.length_set
        replace KM := KM.put hput hne1
        replace KS := KS.put hput (by omega)
        replace HB := Lib.hid (upP HB.out hput hg29)
        clear hput hne1 HR3 c3z f3 KMl KMc KMf KSl KSc KSf HX HY hbq
        have HX := Lib.hid hX2; have HY := Lib.hid hY2
        clear hX2 hY2
        have hksK : ksOk K = true := (yOk_k (sE_0 H0.out).1).2.2
        have HPm : Hid (sE P2 (K.set j ⟨K[j].s, K[j].r, K[j].e, 0⟩) l = 0 ∧ plE P2 (K.set j ⟨K[j].s, K[j].r, K[j].e, 0⟩) l T = 0) := Lib.hid (by
          rw [set_fr hksK hjK]
          exact more_ok _ H0.out hTv.out HPf.out.1 HPf.out.2.1 HPf.out.2.2.1 HPf.out.2.2.2)
        generalize World.setCell V2 _ _ = V3 at *
        have hKs : Ks V3 (some ⟨g2, 0, none⟩) K.length (K.set j ⟨K[j].s, K[j].r, K[j].e, 0⟩) := by
          obtain ⟨A9, c9, e9, _, h9, _⟩ := HY.out.ks (by rw [hsl3]; omega)
          injection e9 with e1 e2 e3
          subst e1
          rw [← e2] at h9
          exact h9
        clear HY
        generalize K.set j ⟨K[j].s, K[j].r, K[j].e, 0⟩ = K1 at *
        have HMn : Hid (nthE P2 K1 l 0 53 = 0) := Lib.hid (by
          have hm := (PL_mem HPm.out.1).2 HPm.out.2
          unfold nthE
          rw [if_pos HPm.out.1, if_pos (by simp; exact List.length_pos_of_mem hm)])
        have HMp : Hid (plE P2 K1 l T = 0) := Lib.hid HPm.out.2
        have HKs := Lib.hid hKs
        have HIs := Lib.hid (HX.out.isQ)
        clear hKs HPm hksK HX hsl3
        have HV := Lib.hid (up HBw.out HB.out)
        have HlV := Lib.hid (Hl.out.keep HV.out)
        have HTV := Lib.hid (HI1.out.keep HB.out)
        clear HV KS
        have KMl := KM.lt; have KMc := KM.get; have KMf := KM.fr
        go_upto_region 20 with (first
          | (refine wpList_get 25 15 rfl rfl KM rfl Tryz.underlying25 rfl (by kernel_rfl) ?_)
          | (go_at_call 23; refine (Place_any (some ⟨g4, 0, none⟩) P2.length c4 P2 (some ⟨g2, 0, none⟩) K.length d13 K1 (some ⟨bl, ol, none⟩) r s l _ HIs.out HKs.out HlV.out).mono ?_; rintro e X9 ⟨v9, rfl, hv9, hbx⟩; rw [HMn.out]; clear hv9; replace HIs := Lib.hid (HIs.out.keep hbx); replace HKs := Lib.hid (HKs.out.keep hbx); replace HlV := Lib.hid (HlV.out.keep hbx); replace HTV := Lib.hid (HTV.out.keep hbx); clear KMl KMc KMf; replace KM := KM.keep hbx; have KMl := KM.lt; have KMc := KM.get; have KMf := KM.fr; replace HB := Lib.hid (up HB.out hbx); clear hbx))
        go_wp2_with (first
          | (refine wpList_get 25 15 rfl rfl KM rfl Tryz.underlying25 rfl (by kernel_rfl) ?_)
          | (go_at_call 40; refine (checkPlace_any (some ⟨g4, 0, none⟩) P2.length c4 P2 (some ⟨g2, 0, none⟩) K.length d13 K1 (some ⟨bl, ol, none⟩) r s l C1 k1 c1 T _ HIs.out HKs.out HlV.out HTV.out).mono ?_; rintro e X10 ⟨rfl, hbx⟩; rw [HMp.out]; clear KMl KMc KMf; replace KM := KM.keep hbx; have KMl := KM.lt; have KMc := KM.get; have KMf := KM.fr; replace HB := Lib.hid (up HB.out hbx); clear hbx)
          | (go_at_call 22; refine (sane_any _).mono ?_; rintro e X11 ⟨rfl, hbx⟩; clear KMl KMc KMf; replace KM := KM.keep hbx; have KMl := KM.lt; have KMc := KM.get; have KMf := KM.fr; replace HB := Lib.hid (up HB.out hbx); clear hbx))
        go_ret
        exact ⟨rfl, up HBw.out HB.out⟩
end
theorem penMore_any (A : Option Addr) (n c : Nat) (P : List Int) (B : Option Addr) (m d : Nat) (K : List Kd) (L : Option Addr) (r s : Nat) (l : List Int) (n0 n1 n2 : Int) (w : World) (hp : Is w A n P) (hg : Ks w B m K) (hl : Is w L r l) (hrs : r ≤ s ∧ s ≤ 9223372036854775807) :
    Calls Tryz.prog 11 #[.agg #[.slice A n c, .slice B m d], .slice L r s, .agg #[.int .i64 n0, .int .i64 n1, .int .i64 n2]] w fun e w' => e = .returned (.bool true) ∧ Below w.heap.size w w' := by
  by_cases h0 : sE P K l = 0
  · by_cases hG : PL P K l = []
    · exact penMore_few A n c P B m d K L r s l n0 n1 n2 w hp hg hl h0 (.inl (by unfold nthE; rw [if_pos h0, hG]; rfl))
    · have hlen : 0 < (PL P K l).length := List.length_pos_iff.2 hG
      have hL0 : nthL P K l 0 = (PL P K l)[0] := by unfold nthL; rw [if_pos h0]; simp [hlen]
      have hpl : plE P K l (nthL P K l 0) = 0 := by rw [hL0]; exact (PL_mem h0).1 (List.getElem_mem hlen)
      have hN : nthE P K l 0 53 = 0 := by unfold nthE; rw [if_pos h0, if_pos (by simp [hlen])]
      by_cases hr : r = 0
      · exact penMore_few A n c P B m d K L r s l n0 n1 n2 w hp hg hl h0 (.inr ⟨hN, hr⟩)
      · have hrl := hl.len
        have hr0 : (0 : Int) < (r : Int) := by omega
        obtain ⟨k, hk⟩ : ∃ k : Nat, modI n0 (r : Int) = (k : Int) := Int.eq_ofNat_of_zero_le (modI_in hr0).1
        have hkr : k < r := by have := (modI_in (n := n0) hr0).2; omega
        have hkl : k < l.length := by omega
        obtain ⟨t1, t2, t3, t4, t5, _⟩ := take_ok h0 hpl hkl
        obtain ⟨a1, a, a2, a3, a4⟩ := add_again h0 hpl hkl
        have hP0 : 0 < n := by have := inB_iff.1 t5; have := hp.len; omega
        have hm0 : 0 < m := by
          have h1 := lOk_at (sE_0 h0).2.2 hkl
          have h2 := hg.len
          rcases Nat.eq_zero_or_pos m with e | e
          · rw [e] at h2
            have e2 : K = [] := List.eq_nil_of_length_eq_zero h2.symm
            rw [e2] at h1
            exact absurd h1 (by simp [kdI, kd?])
          · exact e
        have hE : takE P K l (nthL P K l 0) (k : Int) = 0 := by
          unfold takE
          rw [hpl, err_t _ (inB_iff.2 ⟨by omega, by omega⟩)]; rfl
        refine penMore_yes A n c P B m d K L r s l n0 n1 n2 w hp hg hl hrs h0 _ (l.eraseIdx k) ((nthL P K l 0).eraseIdx k) k a (l.getD k 0) hN rfl hk hkr (by simp [hkl]) hE ?_ ?_ (by rw [List.length_eraseIdx_of_lt hkl]) t2 a1 a2 a4 hP0 hm0 (Lib.hid hpl)
        · unfold takL; rw [if_pos hE, Int.toNat_natCast]
        · unfold takL; rw [if_pos hE, Int.toNat_natCast]
  · exact penMore_no A n c P B m d K L r s l n0 n1 n2 w hp hg hl h0

theorem penMore_lifted (os : Os) (started : os.Started) (H : Type) (enc : TypeId × Value → H) :
    ReturnsInHanded {} Tryz.checked os 11 .any (Rows.penMoreSpec.pre6 enc Tryz.prog Tryz.f11 Rows.penMoreRow.domain false) (Rows.penMoreSpec.post enc Tryz.prog Tryz.f11 false true false false) := by
  refine law_lift started (by kernel_rfl) Tryz.func11 (ChangeSpec.witness6 (enc := enc) (C := Tryz.checked) false ⟨#[], #[.agg #[.slice none 0 0, .slice none 0 0], .slice none 0 0, .agg #[.int .i64 0, .int .i64 0, .int .i64 0]], []⟩ 8 (by kernel_rfl) (by kernel_rfl) (by kernel_rfl) (by kernel_rfl))
    rfl rfl (fun ds h => ?_) ?_ ?_
  · match ds, h with
    | [a, b, c], _ => rfl
  · rw [Tryz.params11]; intro t ht; simp at ht; rcases ht with rfl | rfl | rfl <;> exact ⟨by kernel_rfl, of_decide_eq_true (by kernel_rfl)⟩
  · intro W base args ds p hval hA hz
    rw [Tryz.params11] at hA hval hz
    obtain ⟨v0, v1, v2, d0, d1, d2, p0, p1, p2, rfl, rfl, rfl, h0, h1, h2⟩ := trodAll_three hA
    obtain ⟨A, n, c, P, B, m, d, K, rfl, hp, hg, _, _⟩ := open_yard (hval 0 25 v0 rfl rfl) h0 (hz 0 25 d0 rfl rfl)
    obtain ⟨L, r, s, l, rfl, hl, hc1, hc2, _⟩ := open_isC (hval 1 22 v1 rfl rfl) h1 (hz 1 22 d1 rfl rfl)
    obtain ⟨x, y, z, rfl⟩ := open_three (hval 2 69 v2 rfl rfl) h2
    exact penMore_any A n c P B m d K L r s l x y z W hp hg hl ⟨hc1, hc2⟩

theorem penMore_holds : Rows.PenMoreSaid :=
  OpenClaim.holds_of_wide 11 Tryz.f11 rfl rfl rfl rfl rfl rfl rfl ⟨rfl, rfl, rfl, rfl, rfl⟩ rfl rfl rfl rfl rfl (by kernel_rfl) Tryz.func11 (by kernel_rfl)
    (of_decide_eq_true (by kernel_rfl)) (by unfold Func.isWrapper; first | (rw [if_pos (by decide +kernel)]; kernel_rfl) | (rw [if_neg (by decide +kernel)]; exact ⟨rfl, rfl⟩))
    (fun os started H enc _ => penMore_lifted os started H enc)
end Go.Proofs.YtaieidigpilbfaaGreat

