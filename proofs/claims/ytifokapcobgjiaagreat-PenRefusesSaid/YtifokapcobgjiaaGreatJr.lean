/- Contracts of functions of the program and of the reference, and plain facts: a part of a proof. Own text. -/
import Derived.Test.YtifokapcobgjiaaGreatJc
import Derived.Test.YtifokapcobgjiaaGreatJh
import Derived.Test.YtifokapcobgjiaaGreatJq
set_option linter.unusedVariables false
set_option linter.unusedSimpArgs false
set_option linter.unusedSectionVars false
namespace Go.Proofs.YtifokapcobgjiaaGreat
open Go Go.RowKit
set_option maxHeartbeats 4000000
set_option maxRecDepth 100000

section
variable (A : Option Addr) (n c : Nat) (P : List Int) (B : Option Addr) (m d : Nat) (bs : List Kd) (ap : List Int) (L : Option Addr) (r s : Nat) (l : List Int) (w : World) (hA : Is w A n P) (hg : Ks w B m bs) (hl : Is w L r l) (hap : ap.length = 10)
  (h5 : P.length ≤ 5) (hP : psOk P = true) (hb : goodB bs) (h8 : l.length ≤ 8) (hi : idxOk bs.length l) (hrs : r ≤ s) (hs : s ≤ 9223372036854775807)
include hA hg hl hap h5 hP hb h8 hi hrs hs
theorem isMuch_any : Calls Tryz.prog 104 #[.agg ⟨ldL A n c (.slice B m d) ap⟩, .slice L r s] w fun e w' => e = .returned (.bool (isLeastB (overB P bs) l)) ∧ Below w.heap.size w w' := by
  have HF : Hid (∀ W, Below w.heap.size w W → IsCl 136 (.agg ⟨ldL A n c (.slice B m d) ap⟩) (overB P bs) bs.length W) := Lib.hid (fun W hW X L r s l hX hl hi h8 =>
    overflow_any A n c P B m d bs ap L r s l X (hA.keep (up hW hX)) (hg.keep (up hW hX)) hl hap h5 hP hb hi (by omega))
  have Hl := Lib.hid hl; have Hi := Lib.hid hi
  clear hA hg hb hP hl hi
  go_enter Tryz.func104, Tryz.ntmps104
  go_upto_region 1 with fail
  generalize hW : (World.alloc _ _) = W
  have HB : Hid (Below w.heap.size w W) := Lib.hid (by subst hW; go_grown)
  have KL : Bx W (w.heap.size) 83 (ldL A n c (.slice B m d) ap) := by subst hW; repeat (first | (refine Bx.newAt _ _ _ ?_; first | rfl | (simp only [World.size_alloc]; done) | (simp only [World.size_alloc]; omega)) | refine Bx.old ?_ _)
  clear hW
  have KLl := KL.lt; have KLc := KL.get; have KLf := KL.fr
  go_wp2_with (first
    | (refine wpList_get 83 2 rfl rfl KL rfl Tryz.underlying83 rfl (sL83' hap) ?_)
    | (go_at_call 145; refine (isLeast_any 136 (.agg ⟨ldL A n c (.slice B m d) ap⟩) (overB P bs) bs.length _ (fun args w => by kernel_rfl) (HF.out _ HB.out) L r s l (Hl.out.keep HB.out) hrs hs Hi.out h8).mono ?_; rintro e U ⟨rfl, hbu⟩; have HBU := Lib.hid (up HB.out hbu); clear hbu))
  go_ret
  exact ⟨rfl, HBU.out⟩
theorem isTight_any : Calls Tryz.prog 106 #[.agg ⟨ldL A n c (.slice B m d) ap⟩, .slice L r s] w fun e w' => e = .returned (.bool (isLeastB (stuckB P ap bs) l)) ∧ Below w.heap.size w w' := by
  have HF : Hid (∀ W, Below w.heap.size w W → IsCl 138 (.agg ⟨ldL A n c (.slice B m d) ap⟩) (stuckB P ap bs) bs.length W) := Lib.hid (fun W hW X L r s l hX hl hi h8 =>
    stuck_any A n c P B m d bs ap L r s l X (hA.keep (up hW hX)) (hg.keep (up hW hX)) hl hap h5 hP hb hi h8)
  have Hl := Lib.hid hl; have Hi := Lib.hid hi
  clear hA hg hb hP hl hi
  go_enter Tryz.func106, Tryz.ntmps106
  go_upto_region 1 with fail
  generalize hW : (World.alloc _ _) = W
  have HB : Hid (Below w.heap.size w W) := Lib.hid (by subst hW; go_grown)
  have KL : Bx W (w.heap.size) 83 (ldL A n c (.slice B m d) ap) := by subst hW; repeat (first | (refine Bx.newAt _ _ _ ?_; first | rfl | (simp only [World.size_alloc]; done) | (simp only [World.size_alloc]; omega)) | refine Bx.old ?_ _)
  clear hW
  have KLl := KL.lt; have KLc := KL.get; have KLf := KL.fr
  go_wp2_with (first
    | (refine wpList_get 83 2 rfl rfl KL rfl Tryz.underlying83 rfl (sL83' hap) ?_)
    | (go_at_call 145; refine (isLeast_any 138 (.agg ⟨ldL A n c (.slice B m d) ap⟩) (stuckB P ap bs) bs.length _ (fun args w => by kernel_rfl) (HF.out _ HB.out) L r s l (Hl.out.keep HB.out) hrs hs Hi.out h8).mono ?_; rintro e U ⟨rfl, hbu⟩; have HBU := Lib.hid (up HB.out hbu); clear hbu))
  go_ret
  exact ⟨rfl, HBU.out⟩
end
end Go.Proofs.YtifokapcobgjiaaGreat

namespace Go.Proofs.YtifokapcobgjiaaGreat
open Go Go.RowKit
set_option maxHeartbeats 4000000
set_option maxRecDepth 100000

theorem checkRising_any (L : Option Addr) (r s : Nat) (b : List Int) (N : Nat) (w : World) (hl : Is w L r b) (hN : N ≤ 9223372036854775807) :
    Calls Tryz.prog 102 #[.slice L r s, .int .i64 (N : Int)] w fun e w' => e = .returned (.int .i64 (err (risC N b) 54)) ∧ Below w.heap.size w w' := by
  have Hr : Hid (r = b.length) := Lib.hid hl.len
  have hrx := hl.small
  have Hl := Lib.hid hl
  have H0 : Hid (risK N b 0 = decide ((0 : Int) < (r : Int))) := Lib.hid (by rw [risK, ← hl.len, decide_eq_decide]; omega)
  have eN : IntKind.i64.wrap ((N : Int) - 1) = (N : Int) - 1 := by rw [IntWalk.i64_in _ (by omega)]
  clear hl
  go_enter Tryz.func102, Tryz.ntmps102
  go_wp2_with fail
  go_loopw [5, 13] (fun o i wr => ∃ (k : Nat), k ≤ r ∧ i = .int .i64 k ∧ o = .bool (risK N b k) ∧ Below w.heap.size w wr) (fun _ i _ => r - (intOf i).toNat)
  case atStart => exact ⟨0, by omega, rfl, by rw [H0.out]; congr 1; rw [decide_eq_decide]; omega, Below.refl _ _⟩
  case round =>
    obtain ⟨k, hk, rfl, rfl, hb⟩ := hrel
    have HB := Lib.hid hb
    clear hb
    by_cases hlt : k < r
    · have hkl : k < b.length := by rw [← Hr.out]; exact hlt
      have Hnx : Hid (risK N b (k + 1) = (risK N b k && (inB b[k] 0 ((N : Int) - 1) && (k == 0 || decide (b.getD (k - 1) 0 < b[k]))))) := Lib.hid (by rw [risK, risP]; simp [hkl])
      obtain ⟨bb, oo, rfl, hbb, hc⟩ := (Hl.out.keep HB.out).get k hkl
      cases hK : risK N b k
      · have HN : Hid (risK N b (k + 1) = false) := Lib.hid (by rw [Hnx.out, hK]; rfl)
        clear hK Hnx
        generalize b[k] = x at *
        go_wp2
        exact ⟨⟨k + 1, by omega, by go_num, by rw [HN.out], HB.out⟩, by simp [intOf]; omega⟩
      · rw [hK] at Hnx
        clear hK
        cases hin : inB b[k] 0 ((N : Int) - 1)
        · have HN : Hid (risK N b (k + 1) = false) := Lib.hid (by rw [Hnx.out, hin]; rfl)
          have Hin := Lib.hid hin
          clear hin Hnx
          generalize b[k] = x at *
          go_wp2_with (go_at_call 70; refine (within_any _ _ _ _).mono ?_; rw [Hin.out]; rintro e V ⟨rfl, rfl⟩)
          exact ⟨⟨k + 1, by omega, by go_num, by rw [HN.out], HB.out⟩, by simp [intOf]; omega⟩
        · have Hin := Lib.hid hin
          rw [hin] at Hnx
          clear hin
          by_cases h0 : k = 0
          · have h0b : ((k : Int) == 0) = true := by simp; omega
            have HN : Hid (risK N b (k + 1) = true) := Lib.hid (by rw [Hnx.out]; simp [h0])
            clear Hnx h0
            generalize b[k] = x at *
            go_wp2_with (go_at_call 70; refine (within_any _ _ _ _).mono ?_; rw [Hin.out]; rintro e V ⟨rfl, rfl⟩)
            exact ⟨⟨k + 1, by omega, by go_num, by rw [HN.out], HB.out⟩, by simp [intOf]; omega⟩
          · have hk1 : k - 1 < b.length := by omega
            have h0b : ((k : Int) == 0) = false := by simp; omega
            have e1 : IntKind.i64.wrap ((k : Int) - 1) = ((k - 1 : Nat) : Int) := by rw [IntWalk.i64_in _ (by omega)]; omega
            obtain ⟨b2, o2, e2, hb2, hc2⟩ := (Hl.out.keep HB.out).get (k - 1) hk1
            cases e2
            have HN : Hid (risK N b (k + 1) = decide (b[k - 1] < b[k])) := Lib.hid (by rw [Hnx.out]; simp [h0, hk1])
            clear Hnx
            have hk1r : k - 1 < r := by omega
            generalize b[k - 1] = y at *
            generalize b[k] = x at *
            generalize k - 1 = j at *
            by_cases hyx : y < x
            · rw [decide_eq_true hyx] at HN
              go_wp2_with (go_at_call 70; refine (within_any _ _ _ _).mono ?_; rw [Hin.out]; rintro e V ⟨rfl, rfl⟩)
              exact ⟨⟨k + 1, by omega, by go_num, by rw [HN.out], HB.out⟩, by simp [intOf]; omega⟩
            · rw [decide_eq_false hyx] at HN
              have hyx' : decide (y < x) = false := decide_eq_false hyx
              go_wp2_with (go_at_call 70; refine (within_any _ _ _ _).mono ?_; rw [Hin.out]; rintro e V ⟨rfl, rfl⟩)
              exact ⟨⟨k + 1, by omega, by go_num, by rw [HN.out], HB.out⟩, by simp [intOf]; omega⟩
    · obtain rfl : k = r := by omega
      have HE : Hid (risK N b k = risC N b) := Lib.hid (by unfold risC; rw [Hr.out])
      rw [HE.out]
      go_wp2_with (go_at_call 76; refine (unless_any _ _ _).mono ?_; rintro e V ⟨rfl, rfl⟩)
      go_ret
      exact ⟨rfl, HB.out⟩
end Go.Proofs.YtifokapcobgjiaaGreat

namespace Go.Proofs.YtifokapcobgjiaaGreat
open Go Go.RowKit
set_option maxHeartbeats 4000000
set_option maxRecDepth 100000

theorem isMany_no {np : Nat} {ap : List Int} {bs : List Kd} {l : List Int} {k : Nat} (hk : k < l.length) (h : isManyK ap bs l k = false) : isManyB np ap bs l = false := by
  unfold isManyB
  rw [Bool.and_eq_false_iff]; left
  rw [List.all_eq_false]
  exact ⟨k, List.mem_range.2 hk, by rw [h]; simp⟩
theorem isMany_end {np : Nat} {ap : List Int} {bs : List Kd} {l : List Int} (h : ∀ k, k < l.length → isManyK ap bs l k = true) : isManyB np ap bs l = decide (l.length = np + 1) := by
  unfold isManyB
  rw [show (List.range l.length).all (isManyK ap bs l) = true from List.all_eq_true.2 fun k hk => h k (List.mem_range.1 hk)]; rfl
theorem isMany_any (A : Option Addr) (n c : Nat) (P : List Int) (B : Option Addr) (m d : Nat) (bs : List Kd) (ap : List Int) (L : Option Addr) (r s : Nat) (l : List Int) (w : World) (hA : Is w A n P) (hg : Ks w B m bs) (hl : Is w L r l) (hap : ap.length = 10)
    (h5 : P.length ≤ 5) (hb : goodB bs) (h8 : l.length ≤ 8) (hi : idxOk bs.length l) (hrs : r ≤ s) (hs : s ≤ 9223372036854775807) :
    Calls Tryz.prog 105 #[.agg ⟨ldL A n c (.slice B m d) ap⟩, .slice L r s] w fun e w' => e = .returned (.bool (isManyB P.length ap bs l)) ∧ Below w.heap.size w w' := by
  have Hr : Hid (r = l.length) := Lib.hid hl.len
  have Hn : Hid (n = P.length) := Lib.hid hA.len
  have hr8 : r ≤ 8 := by rw [hl.len]; exact h8
  have hn5 : n ≤ 5 := by rw [hA.len]; exact h5
  have Hg := Lib.hid hg; have Hl := Lib.hid hl; have Hb := Lib.hid hb; have Hi := Lib.hid hi
  clear hA hg hl hb hi
  go_enter Tryz.func105, Tryz.ntmps105
  go_upto_region 1 with fail
  generalize hW : (World.alloc _ _) = W
  have HB : Hid (Below w.heap.size w W) := Lib.hid (by subst hW; go_grown)
  have KL : Bx W (w.heap.size) 83 (ldL A n c (.slice B m d) ap) := by subst hW; repeat (first | (refine Bx.newAt _ _ _ ?_; first | rfl | (simp only [World.size_alloc]; done) | (simp only [World.size_alloc]; omega)) | refine Bx.old ?_ _)
  clear hW
  have KLl := KL.lt; have KLc := KL.get; have KLf := KL.fr
  go_wp2_with fail
  go_loopw [9] (fun i wr => ∃ (k : Nat), k ≤ r ∧ i = .int .i64 k ∧ Below w.heap.size w wr ∧ Bx wr w.heap.size 83 (ldL A n c (.slice B m d) ap) ∧ ∀ j, j < k → isManyK ap bs l j = true) (fun i _ => r - (intOf i).toNat)
  case atStart => exact ⟨0, by omega, rfl, HB.out, KL, fun j h => by omega⟩
  case round =>
    clear KL
    obtain ⟨k, hk, rfl, hb, KL, hall⟩ := hrel
    replace HB := Lib.hid hb
    have Hall := Lib.hid hall
    clear hb hall
    by_cases hlt : k < r
    · have hkl : k < l.length := by rw [← Hr.out]; exact hlt
      have hx := Hi.out l[k] (List.getElem_mem hkl)
      obtain ⟨x, hx2⟩ := Int.eq_ofNat_of_zero_le hx.1
      have HMK : Hid (isManyK ap bs l k = apAll ap bs x (l.take k)) := Lib.hid (by unfold isManyK; rw [show l.getD k 0 = l[k] by simp [hkl], hx2]; rfl)
      have hxb : x < bs.length := by omega
      have Htk := Lib.hid (Is.take Hl.out k (by omega))
      have Hit : Hid (idxOk bs.length (l.take k)) := Lib.hid (fun y hy => Hi.out y (List.mem_of_mem_take hy))
      obtain ⟨bb, oo, rfl, hbb, hc⟩ := (Hl.out.keep HB.out).get k hkl
      rw [hx2] at hc
      have HKL := Lib.hid KL
      have hKl := KL.lt
      clear KL hx hx2
      cases hM : apAll ap bs x (l.take k)
      all_goals
        have HM := Lib.hid hM
        clear hM
        go_upto_region 4 with fail
        refine wp_region_takesG 5 2 [0, 1, 2, 3, 4] (by kernel_rfl) (by kernel_rfl) (by kernel_rfl) (by kernel_rfl) (by decide) (fun d _ _ _ _ h => by cases d <;> exact h) (by kernel_rfl) rfl ?_
        refine wpTakes_step (v := .agg ⟨ldL A n c (.slice B m d) ap⟩) rfl (by rfl) ?_ ?_
        · (rintro _ ⟨z9, rfl⟩; exact run_get 83 (.tmp 2) rfl rfl (cell_res (HKL.out.keep (grow_below wr z9)) Tryz.underlying83 rfl (sL83' hap)))
        simp only [Act.put, List.setIfInBounds_toArray, List.set_cons_zero, List.set_cons_succ]
        refine wpTakes_step (v := ?_) rfl (by rfl) ?_ ?_
        rotate_left
        · (rintro _ ⟨z9, rfl⟩; go_simp; try (with_reducible rfl))
        simp only [Act.put, List.setIfInBounds_toArray, List.set_cons_zero, List.set_cons_succ]
        refine wpTakes_step (v := ?_) rfl (by rfl) ?_ ?_
        rotate_left
        · (rintro _ ⟨z9, rfl⟩; go_simp; try (with_reducible rfl))
        simp only [Act.put, List.setIfInBounds_toArray, List.set_cons_zero, List.set_cons_succ]
        refine wpTakes_step (v := ?_) rfl (by rfl) ?_ ?_
        rotate_left
        · (rintro _ ⟨z9, rfl⟩; go_simp; try (with_reducible rfl))
        simp only [Act.put, List.setIfInBounds_toArray, List.set_cons_zero, List.set_cons_succ]
        refine wpTakes_step (v := .slice (some ⟨bb, oo, none⟩) k s) rfl (by rfl) ?_ ?_
        · (rintro _ ⟨z9, rfl⟩; go_simp; intro h9; omega)
        simp only [Act.put, List.setIfInBounds_toArray, List.set_cons_zero, List.set_cons_succ]
        simp only [wpTakes]
        refine wpAnyT_tail rfl (by kernel_rfl) (by kernel_rfl) ?_
        simp only [List.drop_succ_cons, List.drop_zero]
        have hbd : Below wr.heap.size wr wr.drew := by go_grown
        have HBd := Lib.hid (up HB.out hbd)
        have HC := Lib.hid (apartFromAll_any A n c B m d bs ap (some ⟨bb, oo, none⟩) k s (l.take k) x wr.drew (Hg.out.keep HBd.out) (Htk.out.keep HBd.out) hap Hb.out hxb Hit.out)
        rw [HM.out] at HC
        have hbd2 := Lib.hid hbd
        clear hbd
      · go_wp2_with (go_at_call 146; refine HC.out.mono ?_; rintro e Z ⟨rfl, hbz⟩; have HBZ := Lib.hid (up HBd.out hbz); clear hbz)
        go_ret
        exact ⟨ret_bool (isMany_no hkl (by rw [HMK.out, HM.out])).symm, HBZ.out⟩
      · go_wp2_with (go_at_call 146; refine HC.out.mono ?_; rintro e Z ⟨rfl, hbz⟩; have HBZ := Lib.hid (up HBd.out hbz); have KZ := (HKL.out.keep hbd2.out).keep hbz; clear hbz)
        refine ⟨⟨k + 1, by omega, by go_num, HBZ.out, KZ, fun j hj => ?_⟩, by simp [intOf]; omega⟩
        by_cases e : j = k
        · subst e; rw [HMK.out]; exact HM.out
        · exact Hall.out j (by omega)
    · obtain rfl : k = r := by omega
      have HE : Hid (isManyB P.length ap bs l = decide ((k : Int) = (n : Int) + 1)) := Lib.hid (by
        rw [isMany_end (fun j hj => Hall.out j (by rw [Hr.out]; exact hj)), decide_eq_decide, ← Hr.out, ← Hn.out]; omega)
      have e1 : IntKind.i64.wrap ((n : Int) + 1) = (n : Int) + 1 := by rw [IntWalk.i64_in _ (by omega)]
      have KLl := KL.lt; have KLc := KL.get; have KLf := KL.fr
      go_wp2
      go_ret
      exact ⟨ret_bool (by rw [HE.out, Bool.eq_iff_iff]; simp), HB.out⟩
end Go.Proofs.YtifokapcobgjiaaGreat

namespace Go.Proofs.YtifokapcobgjiaaGreat
open Go Go.RowKit
set_option maxHeartbeats 8000000
set_option maxRecDepth 100000

theorem ris_len {n : Nat} {b : List Int} (hi : idxOk n b) (hr : risB b) : b.length ≤ n := by
  have h := (ris_sub (List.replicate n kd0) b (by rw [List.length_replicate]; exact hi) hr).length_le
  rwa [someL_len, List.length_replicate] at h
section
variable (A : Option Addr) (n c : Nat) (P : List Int) (B : Option Addr) (m d : Nat) (K : List Kd) (L : Option Addr) (r s : Nat) (l : List Int) (kd : Int) (C : Option Addr) (u v : Nat) (b : List Int) (w : World) (hp : Is w A n P) (hg : Ks w B m K) (hl : Is w L r l) (hc : Is w C u b) (huv : u ≤ v) (hv : v ≤ 9223372036854775807)
include hp hg hl hc
theorem checkRefusal_no (h0 : sE P K l ≠ 0) : Calls Tryz.prog 46 #[.agg #[.slice A n c, .slice B m d], .slice L r s, .agg #[.int .i64 kd, .slice C u v]] w fun e w' => e = .returned (.int .i64 (rsnE P K l kd b)) ∧ Below w.heap.size w w' := by
  have Hp := Lib.hid hp; have Hg := Lib.hid hg; have Hl := Lib.hid hl; have Hc := Lib.hid hc
  have hrx := hl.small
  have H0 := Lib.hid h0
  have HR : Hid (rsnE P K l kd b = sE P K l) := Lib.hid (by unfold rsnE; rw [if_neg h0])
  have hne : (sE P K l != 0) = true := by simpa using h0
  rw [HR.out]
  clear hp hg hl hc h0 HR
  obtain ⟨E2, hE2⟩ : ∃ E2, err (risC r b) 54 = E2 := ⟨_, rfl⟩
  have HE2 := Lib.hid hE2
  clear hE2
  have HO : Hid (orE [sE P K l, E2] = sE P K l) := Lib.hid (by unfold orE; rw [if_neg H0.out])
  go_enter Tryz.func46, Tryz.ntmps46
  go_upto_region 1 with fail
  generalize hW : (World.alloc _ _) = W
  have HB : Hid (Below w.heap.size w W) := Lib.hid (by subst hW; go_grown)
  have KY : Bx W (w.heap.size) 25 [.slice A n c, .slice B m d] := by subst hW; repeat (first | (refine Bx.newAt _ _ _ ?_; first | rfl | (simp only [World.size_alloc]; done) | (simp only [World.size_alloc]; omega)) | refine Bx.old ?_ _)
  have KR : Bx W (w.heap.size + 1) 53 [.int .i64 kd, .slice C u v] := by subst hW; repeat (first | (refine Bx.newAt _ _ _ ?_; first | rfl | (simp only [World.size_alloc]; done) | (simp only [World.size_alloc]; omega)) | refine Bx.old ?_ _)
  clear hW
  have KYl := KY.lt; have KYc := KY.get; have KYf := KY.fr; have KRl := KR.lt; have KRc := KR.get; have KRf := KR.fr
  go_wp2_with (first
    | (go_at_call 63; refine (loadOf_no _ _ _ P _ _ _ K _ _ _ l _ (Hp.out.keep HB.out) (Hg.out.keep HB.out) (Hl.out.keep HB.out) H0.out).mono ?_; rintro e X ⟨rfl, hbx⟩; clear KYl KYc KYf; replace KY := KY.keep hbx; have KYl := KY.lt; have KYc := KY.get; have KYf := KY.fr; clear KRl KRc KRf; replace KR := KR.keep hbx; have KRl := KR.lt; have KRc := KR.get; have KRf := KR.fr; replace HB := Lib.hid (up HB.out hbx); clear hbx)
    | (refine wpList_putNew 83 7 16 rfl rfl rfl rfl (sL83 rfl) (sLo rfl) ldL_one ?_; intro U KU hbu hsu; clear KYl KYc KYf; replace KY := KY.keep hbu; have KYl := KY.lt; have KYc := KY.get; have KYf := KY.fr; clear KRl KRc KRf; replace KR := KR.keep hbu; have KRl := KR.lt; have KRc := KR.get; have KRf := KR.fr; replace HB := Lib.hid (up HB.out hbu); clear hbu)
    | (go_at_call 102; refine (checkRising_any C u v b r _ (Hc.out.keep HB.out) (by omega)).mono ?_; rw [HE2.out]; rintro e X2 ⟨rfl, hbx⟩; clear KYl KYc KYf; replace KY := KY.keep hbx; have KYl := KY.lt; have KYc := KY.get; have KYf := KY.fr; clear KRl KRc KRf; replace KR := KR.keep hbx; have KRl := KR.lt; have KRc := KR.get; have KRf := KR.fr; replace HB := Lib.hid (up HB.out hbx); clear hbx)
    | (go_at_call 82; refine (Or_any _ _ _ [sE P K l, E2] _ (isC X2 27 [sE P K l, E2] (by simp))).mono ?_; rintro e V ⟨rfl, rfl⟩; rw [HO.out]; replace HB := Lib.hid (up HB.out (up_alloc X2 (.cells ⟨ints [sE P K l, E2]⟩ 27)))))
  go_ret
  exact ⟨rfl, HB.out⟩
end
end Go.Proofs.YtifokapcobgjiaaGreat

namespace Go.Proofs.YtifokapcobgjiaaGreat
open Go Go.RowKit
set_option maxHeartbeats 8000000
set_option maxRecDepth 100000

theorem within_g (n lo hi : Int) (x : Bool) (w : World) (h : inB n lo hi = x) : Calls Tryz.prog 70 #[.int .i64 n, .int .i64 lo, .int .i64 hi] w fun e w' => e = .returned (.bool x) ∧ Below w.heap.size w w' := by
  refine (within_any n lo hi w).mono ?_
  rw [h]
  rintro e w' ⟨rfl, rfl⟩
  exact ⟨rfl, Below.refl _ _⟩
section
variable (A : Option Addr) (n c : Nat) (P : List Int) (B : Option Addr) (m d : Nat) (K : List Kd) (L : Option Addr) (r s : Nat) (l : List Int) (kd : Int) (C : Option Addr) (u v : Nat) (b : List Int) (w : World) (hp : Is w A n P) (hg : Ks w B m K) (hl : Is w L r l) (hc : Is w C u b) (huv : u ≤ v) (hv : v ≤ 9223372036854775807)
include hp hg hl hc huv hv
theorem checkRefusal_bad (h0 : sE P K l = 0) (hR : risC l.length b = false) : Calls Tryz.prog 46 #[.agg #[.slice A n c, .slice B m d], .slice L r s, .agg #[.int .i64 kd, .slice C u v]] w fun e w' => e = .returned (.int .i64 (rsnE P K l kd b)) ∧ Below w.heap.size w w' := by
  have Hp := Lib.hid hp; have Hg := Lib.hid hg; have Hl := Lib.hid hl; have Hc := Lib.hid hc
  have hrx := hl.small
  have H0 := Lib.hid h0
  have hap := apL_len K
  have HR : Hid (rsnE P K l kd b = 54) := Lib.hid (by unfold rsnE; rw [if_pos h0, if_neg (by rw [hR]; exact Bool.false_ne_true)])
  have HE2 : Hid (err (risC r b) 54 = 54) := Lib.hid (by rw [hl.len, hR]; rfl)
  have HO : Hid (orE [0, 54] = 54) := Lib.hid rfl
  rw [HR.out]
  clear hp hg hl hc h0 HR hR
  go_enter Tryz.func46, Tryz.ntmps46
  go_upto_region 1 with fail
  generalize hW : (World.alloc _ _) = W
  have HB : Hid (Below w.heap.size w W) := Lib.hid (by subst hW; go_grown)
  have KY : Bx W (w.heap.size) 25 [.slice A n c, .slice B m d] := by subst hW; repeat (first | (refine Bx.newAt _ _ _ ?_; first | rfl | (simp only [World.size_alloc]; done) | (simp only [World.size_alloc]; omega)) | refine Bx.old ?_ _)
  have KR : Bx W (w.heap.size + 1) 53 [.int .i64 kd, .slice C u v] := by subst hW; repeat (first | (refine Bx.newAt _ _ _ ?_; first | rfl | (simp only [World.size_alloc]; done) | (simp only [World.size_alloc]; omega)) | refine Bx.old ?_ _)
  clear hW
  have KYl := KY.lt; have KYc := KY.get; have KYf := KY.fr; have KRl := KR.lt; have KRc := KR.get; have KRf := KR.fr
  go_wp2_with (first
    | (go_at_call 63; refine (loadOf_ok _ _ _ P _ _ _ K _ _ _ l _ (Hp.out.keep HB.out) (Hg.out.keep HB.out) (Hl.out.keep HB.out) H0.out).mono ?_; rintro e X ⟨B', c', rfl, hlc, hks, -, hbx⟩; clear hks; clear KYl KYc KYf; replace KY := KY.keep hbx; have KYl := KY.lt; have KYc := KY.get; have KYf := KY.fr; clear KRl KRc KRf; replace KR := KR.keep hbx; have KRl := KR.lt; have KRc := KR.get; have KRf := KR.fr; replace HB := Lib.hid (up HB.out hbx); clear hbx)
    | (refine wpList_putNew 83 7 16 rfl rfl rfl rfl (sL83 hap) (sLo hap) ldL_one ?_; intro U KU hbu hsu; clear KYl KYc KYf; replace KY := KY.keep hbu; have KYl := KY.lt; have KYc := KY.get; have KYf := KY.fr; clear KRl KRc KRf; replace KR := KR.keep hbu; have KRl := KR.lt; have KRc := KR.get; have KRf := KR.fr; replace HB := Lib.hid (up HB.out hbu); clear hbu)
    | (go_at_call 102; refine (checkRising_any C u v b r _ (Hc.out.keep HB.out) (by omega)).mono ?_; rw [HE2.out]; rintro e X2 ⟨rfl, hbx⟩; clear KYl KYc KYf; replace KY := KY.keep hbx; have KYl := KY.lt; have KYc := KY.get; have KYf := KY.fr; clear KRl KRc KRf; replace KR := KR.keep hbx; have KRl := KR.lt; have KRc := KR.get; have KRf := KR.fr; replace HB := Lib.hid (up HB.out hbx); clear hbx)
    | (go_at_call 82; refine (Or_any _ _ _ [0, 54] _ (isC X2 27 [0, 54] (by simp))).mono ?_; rintro e V ⟨rfl, rfl⟩; rw [HO.out]; replace HB := Lib.hid (up HB.out (up_alloc X2 (.cells ⟨ints [0, 54]⟩ 27)))))
  go_ret
  exact ⟨rfl, HB.out⟩
theorem checkRefusal_ok (h0 : sE P K l = 0) (hR : risC l.length b = true) : Calls Tryz.prog 46 #[.agg #[.slice A n c, .slice B m d], .slice L r s, .agg #[.int .i64 kd, .slice C u v]] w fun e w' => e = .returned (.int .i64 (rsnE P K l kd b)) ∧ Below w.heap.size w w' := by
  obtain ⟨hy, h8, hlo⟩ := sE_0 h0
  obtain ⟨h5, hP, hK⟩ := yOk_k hy
  obtain ⟨hbne, hbi, hbr⟩ := risC_iff.1 hR
  have hb8 : b.length ≤ 8 := Nat.le_trans (ris_len hbi hbr) h8
  have hbi2 : idxOk (bsL K l).length b := by rw [bsL_len]; exact hbi
  have Hp := Lib.hid hp; have Hg := Lib.hid hg; have Hl := Lib.hid hl; have Hc := Lib.hid hc
  have hrx := hl.small
  have H0 := Lib.hid h0
  have hap := apL_len K
  have HPs := Lib.hid hP; have HGb := Lib.hid (bsL_good hK hlo); have Hbi := Lib.hid hbi2
  have HR : Hid (rsnE P K l kd b = err (rsnB P K l kd b) 54) := Lib.hid (by unfold rsnE; rw [if_pos h0, if_pos hR])
  have HE2 : Hid (err (risC r b) 54 = 0) := Lib.hid (by rw [hl.len, hR]; rfl)
  have HO : Hid (orE [0, 0] = 0) := Lib.hid rfl
  rw [HR.out]
  clear hp hg hl hc h0 HR hR hy hlo hP hK hbi hbr hbne hbi2
  go_enter Tryz.func46, Tryz.ntmps46
  go_upto_region 1 with fail
  generalize hW : (World.alloc _ _) = W
  have HB : Hid (Below w.heap.size w W) := Lib.hid (by subst hW; go_grown)
  have KY : Bx W (w.heap.size) 25 [.slice A n c, .slice B m d] := by subst hW; repeat (first | (refine Bx.newAt _ _ _ ?_; first | rfl | (simp only [World.size_alloc]; done) | (simp only [World.size_alloc]; omega)) | refine Bx.old ?_ _)
  have KR : Bx W (w.heap.size + 1) 53 [.int .i64 kd, .slice C u v] := by subst hW; repeat (first | (refine Bx.newAt _ _ _ ?_; first | rfl | (simp only [World.size_alloc]; done) | (simp only [World.size_alloc]; omega)) | refine Bx.old ?_ _)
  clear hW
  have KYl := KY.lt; have KYc := KY.get; have KYf := KY.fr; have KRl := KR.lt; have KRc := KR.get; have KRf := KR.fr
  go_upto_region 6 with (first
    | (go_at_call 63; refine (loadOf_ok _ _ _ P _ _ _ K _ _ _ l _ (Hp.out.keep HB.out) (Hg.out.keep HB.out) (Hl.out.keep HB.out) H0.out).mono ?_; rintro e X ⟨B', c', rfl, hlc, hks, -, hbx⟩; have Hks := Lib.hid hks; clear hks; clear KYl KYc KYf; replace KY := KY.keep hbx; have KYl := KY.lt; have KYc := KY.get; have KYf := KY.fr; clear KRl KRc KRf; replace KR := KR.keep hbx; have KRl := KR.lt; have KRc := KR.get; have KRf := KR.fr; replace HB := Lib.hid (up HB.out hbx); clear hbx)
    | (refine wpList_putNew 83 7 16 rfl rfl rfl rfl (sL83 hap) (sLo hap) ldL_one ?_; intro U KU hbu hsu; replace Hks := Lib.hid (Hks.out.keep hbu); clear KYl KYc KYf; replace KY := KY.keep hbu; have KYl := KY.lt; have KYc := KY.get; have KYf := KY.fr; clear KRl KRc KRf; replace KR := KR.keep hbu; have KRl := KR.lt; have KRc := KR.get; have KRf := KR.fr; replace HB := Lib.hid (up HB.out hbu); clear hbu)
    | (go_at_call 102; refine (checkRising_any C u v b r _ (Hc.out.keep HB.out) (by omega)).mono ?_; rw [HE2.out]; rintro e X2 ⟨rfl, hbx⟩; replace Hks := Lib.hid (Hks.out.keep hbx); have KU2 := KU.keep hbx; clear KYl KYc KYf; replace KY := KY.keep hbx; have KYl := KY.lt; have KYc := KY.get; have KYf := KY.fr; clear KRl KRc KRf; replace KR := KR.keep hbx; have KRl := KR.lt; have KRc := KR.get; have KRf := KR.fr; replace HB := Lib.hid (up HB.out hbx); clear hbx)
    | (go_at_call 82; refine (Or_any _ _ _ [0, 0] _ (isC X2 27 [0, 0] (by simp))).mono ?_; rintro e V ⟨rfl, rfl⟩; rw [HO.out]; have hba := up_alloc X2 (.cells ⟨ints [0, 0]⟩ 27); replace Hks := Lib.hid (Hks.out.keep hba); replace KU2 := KU2.keep hba; clear KYl KYc KYf; replace KY := KY.keep hba; have KYl := KY.lt; have KYc := KY.get; have KYf := KY.fr; clear KRl KRc KRf; replace KR := KR.keep hba; have KRl := KR.lt; have KRc := KR.get; have KRf := KR.fr; replace HB := Lib.hid (up HB.out hba); clear hba)
    | (refine wpList_get 83 7 rfl rfl KU2 rfl Tryz.underlying83 rfl (sL83' hap) ?_))
  clear KYl KYc KYf
  have hXs := KR.lt
  have HX3 : Hid (X2.heap.size + 1 = (X2.alloc (.cells ⟨ints [0, 0]⟩ 27)).heap.size) := Lib.hid (by rw [World.size_alloc])
  generalize X2.alloc (.cells ⟨ints [0, 0]⟩ 27) = X3 at *
  generalize hW2 : World.alloc X3 _ = V2
  have KF : Bx V2 (X2.heap.size + 1) 126 [.func (.func 103) #[.agg ⟨ldL A n c (.slice B' l.length c') (apL K)⟩] #[], .func (.func 104) #[.agg ⟨ldL A n c (.slice B' l.length c') (apL K)⟩] #[], .func (.func 105) #[.agg ⟨ldL A n c (.slice B' l.length c') (apL K)⟩] #[], .func (.func 106) #[.agg ⟨ldL A n c (.slice B' l.length c') (apL K)⟩] #[]] := by subst hW2; exact Bx.newAt _ _ _ HX3.out
  have hb2 : Below X3.heap.size X3 V2 := by subst hW2; exact up_alloc _ _
  clear hW2
  have HpV := Lib.hid ((Hp.out.keep HB.out).keep hb2); have HcV := Lib.hid ((Hc.out.keep HB.out).keep hb2); have HkV := Lib.hid (Hks.out.keep hb2)
  clear Hks KU2
  clear KRl KRc KRf; replace KR := KR.keep hb2; have KRl := KR.lt; have KRc := KR.get; have KRf := KR.fr; replace HB := Lib.hid (up HB.out hb2); clear hb2
  have KFl := KF.lt; have KFc := KF.get; have KFf := KF.fr
  cases hin : inB kd 1 4
  · have Hin := Lib.hid hin
    have HN : Hid (rsnB P K l kd b = false) := Lib.hid (by unfold rsnB; rw [hin]; rfl)
    clear hin
    refine wp_region_grow (by kernel_rfl) (by kernel_rfl) ?_
    repeat (go_big_quiet_step (((go_at_call 70; exact quiet_grow rfl (within_g _ _ _ _ _ Hin.out)))))
    refine wpQuiet_nil ?_
    intro z
    have hbz := grow_below V2 z
    generalize grow V2 z = Z at *
    go_wp2_with (go_at_call 76; refine (unless_any _ _ _).mono ?_; rintro e Y ⟨rfl, rfl⟩)
    go_ret
    exact ⟨ret_int (by rw [HN.out]), up HB.out hbz⟩
  · have Hin := Lib.hid hin
    have hkr := inB_iff.1 hin
    have HN : Hid (rsnB P K l kd b = isKB P (apL K) (bsL K l) b (kd - 1).toNat) := Lib.hid (by unfold rsnB; rw [hin]; rfl)
    clear hin
    have hlb : (bsL K l).length = l.length := bsL_len K l
    obtain ⟨x1, hx1⟩ : ∃ x, isKB P (apL K) (bsL K l) b (kd - 1).toNat = x := ⟨_, rfl⟩
    replace HN : Hid (rsnB P K l kd b = x1) := Lib.hid (HN.out.trans hx1)
    rcases (by omega : kd = 1 ∨ kd = 2 ∨ kd = 3 ∨ kd = 4) with rfl | rfl | rfl | rfl
    · have HC : Hid (∀ W, Below V2.heap.size V2 W → Calls Tryz.prog 103 #[.agg ⟨ldL A n c (.slice B' l.length c') (apL K)⟩, .slice C u v] W fun e w' => e = .returned (.bool x1) ∧ Below W.heap.size W w') := Lib.hid (fun W hW => by
        rw [← hx1]
        exact isBig_any A n c P B' l.length c' (bsL K l) (apL K) C u v b W (HpV.out.keep hW) (HkV.out.keep hW) (HcV.out.keep hW) Hbi.out)
      clear hx1
      refine wp_region_grow (by kernel_rfl) (by kernel_rfl) ?_
      repeat (go_big_quiet_step ((first | (go_at_call 70; exact quiet_grow rfl (within_g _ _ _ _ _ Hin.out)) | (go_at_call 103; exact quiet_grow rfl (HC.out _ (grow_below _ _))))))
      refine wpQuiet_nil ?_
      intro z
      have hbz := grow_below V2 z
      generalize grow V2 z = Z at *
      go_wp2_with (go_at_call 76; refine (unless_any _ _ _).mono ?_; rintro e Y ⟨rfl, rfl⟩)
      go_ret
      exact ⟨ret_int (by rw [HN.out]), up HB.out hbz⟩
    · have HC : Hid (∀ W, Below V2.heap.size V2 W → Calls Tryz.prog 104 #[.agg ⟨ldL A n c (.slice B' l.length c') (apL K)⟩, .slice C u v] W fun e w' => e = .returned (.bool x1) ∧ Below W.heap.size W w') := Lib.hid (fun W hW => by
        rw [← hx1]
        exact isMuch_any A n c P B' l.length c' (bsL K l) (apL K) C u v b W (HpV.out.keep hW) (HkV.out.keep hW) (HcV.out.keep hW) hap h5 HPs.out HGb.out hb8 Hbi.out huv hv)
      clear hx1
      refine wp_region_grow (by kernel_rfl) (by kernel_rfl) ?_
      repeat (go_big_quiet_step ((first | (go_at_call 70; exact quiet_grow rfl (within_g _ _ _ _ _ Hin.out)) | (go_at_call 104; exact quiet_grow rfl (HC.out _ (grow_below _ _))))))
      refine wpQuiet_nil ?_
      intro z
      have hbz := grow_below V2 z
      generalize grow V2 z = Z at *
      go_wp2_with (go_at_call 76; refine (unless_any _ _ _).mono ?_; rintro e Y ⟨rfl, rfl⟩)
      go_ret
      exact ⟨ret_int (by rw [HN.out]), up HB.out hbz⟩
    · have HC : Hid (∀ W, Below V2.heap.size V2 W → Calls Tryz.prog 105 #[.agg ⟨ldL A n c (.slice B' l.length c') (apL K)⟩, .slice C u v] W fun e w' => e = .returned (.bool x1) ∧ Below W.heap.size W w') := Lib.hid (fun W hW => by
        rw [← hx1]
        exact isMany_any A n c P B' l.length c' (bsL K l) (apL K) C u v b W (HpV.out.keep hW) (HkV.out.keep hW) (HcV.out.keep hW) hap h5 HGb.out hb8 Hbi.out huv hv)
      clear hx1
      refine wp_region_grow (by kernel_rfl) (by kernel_rfl) ?_
      repeat (go_big_quiet_step ((first | (go_at_call 70; exact quiet_grow rfl (within_g _ _ _ _ _ Hin.out)) | (go_at_call 105; exact quiet_grow rfl (HC.out _ (grow_below _ _))))))
      refine wpQuiet_nil ?_
      intro z
      have hbz := grow_below V2 z
      generalize grow V2 z = Z at *
      go_wp2_with (go_at_call 76; refine (unless_any _ _ _).mono ?_; rintro e Y ⟨rfl, rfl⟩)
      go_ret
      exact ⟨ret_int (by rw [HN.out]), up HB.out hbz⟩
    · have HC : Hid (∀ W, Below V2.heap.size V2 W → Calls Tryz.prog 106 #[.agg ⟨ldL A n c (.slice B' l.length c') (apL K)⟩, .slice C u v] W fun e w' => e = .returned (.bool x1) ∧ Below W.heap.size W w') := Lib.hid (fun W hW => by
        rw [← hx1]
        exact isTight_any A n c P B' l.length c' (bsL K l) (apL K) C u v b W (HpV.out.keep hW) (HkV.out.keep hW) (HcV.out.keep hW) hap h5 HPs.out HGb.out hb8 Hbi.out huv hv)
      clear hx1
      refine wp_region_grow (by kernel_rfl) (by kernel_rfl) ?_
      repeat (go_big_quiet_step ((first | (go_at_call 70; exact quiet_grow rfl (within_g _ _ _ _ _ Hin.out)) | (go_at_call 106; exact quiet_grow rfl (HC.out _ (grow_below _ _))))))
      refine wpQuiet_nil ?_
      intro z
      have hbz := grow_below V2 z
      generalize grow V2 z = Z at *
      go_wp2_with (go_at_call 76; refine (unless_any _ _ _).mono ?_; rintro e Y ⟨rfl, rfl⟩)
      go_ret
      exact ⟨ret_int (by rw [HN.out]), up HB.out hbz⟩
end
end Go.Proofs.YtifokapcobgjiaaGreat

