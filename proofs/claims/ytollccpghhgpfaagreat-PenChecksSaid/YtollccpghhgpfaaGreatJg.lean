/- Contracts of functions of the program and of the reference, and plain facts: a part of a proof. Own text. -/
import Derived.Test.YtollccpghhgpfaaGreatJf
set_option linter.unusedVariables false
set_option linter.unusedSimpArgs false
set_option linter.unusedSectionVars false
namespace Go.Proofs.YtollccpghhgpfaaGreat
open Go Go.RowKit
set_option maxHeartbeats 1000000
set_option maxRecDepth 100000

def ssE (P : List Int) (K : List Kd) (l : List St) : Int := if yOk P K = true then err (decide (l.length ≤ 40) && ssOk K l) 55 else 50
theorem lOk1 (K : List Kd) (x : Int) : lOk K [x] = kdI K x := by unfold lOk; simp
theorem validStay_any (A : Option Addr) (n c : Nat) (B : Option Addr) (m d : Nat) (K : List Kd) (x : St) (w : World) (hg : Ks w B m K) :
    Calls Tryz.prog 123 #[.agg #[.slice A n c, .slice B m d], sv x] w fun e w' => e = .returned (.bool (stB K x)) ∧ Below w.heap.size w w' := by
  obtain ⟨s, i, o⟩ := x
  have HT : Hid (stB K ⟨s, i, o⟩ = (kdI K s && inB i 0 100000 && ((o == -1) || inB o i 100000))) := Lib.hid rfl
  have Hg := Lib.hid hg
  have HE : Hid (err (lOk K [s]) 51 = if kdI K s = true then 0 else 51) := Lib.hid (by rw [lOk1]; rfl)
  clear hg
  unfold sv
  cases h1 : (o == -1) <;> cases h2 : kdI K s <;> cases h3 : inB i 0 100000 <;> cases h4 : inB o i 100000
  all_goals
    have HT2 := HT.out
    have HE2 := HE.out
    rw [h1, h2, h3, h4] at HT2
    rw [h2] at HE2
    simp only [Bool.and_true, Bool.and_false, Bool.true_and, Bool.false_and, Bool.or_true, Bool.or_false, Bool.false_eq_true, if_true, if_false] at HT2 HE2
    have HT3 := Lib.hid HT2; have HE3 := Lib.hid HE2; have H3 := Lib.hid h3; have H4 := Lib.hid h4
    clear HT2 HE2 HT HE h2 h3 h4
    go_enter Tryz.func123, Tryz.ntmps123
    go_upto_region 1 with fail
    generalize hW : (World.alloc _ _) = W
    have HB : Hid (Below w.heap.size w W) := Lib.hid (by subst hW; go_grown)
    have KY : Bx W (w.heap.size) 25 [.slice A n c, .slice B m d] := by subst hW; repeat (first | (refine Bx.newAt _ _ _ ?_; first | rfl | (simp only [World.size_alloc]; done) | (simp only [World.size_alloc]; omega)) | refine Bx.old ?_ _)
    have KS : Bx W (w.heap.size + 1) 76 [.int .i64 s, .int .i64 i, .int .i64 o] := by subst hW; repeat (first | (refine Bx.newAt _ _ _ ?_; first | rfl | (simp only [World.size_alloc]; done) | (simp only [World.size_alloc]; omega)) | refine Bx.old ?_ _)
    clear hW
    have KYl := KY.lt; have KYc := KY.get; have KYf := KY.fr; have KSl := KS.lt; have KSc := KS.get; have KSf := KS.fr
    have HL : Hid (Is (W.alloc (.cells #[.int .i64 s] 3)) (some ⟨W.heap.size, 0, none⟩) 1 [s]) := Lib.hid (isC W 3 [s] (by simp))
    have hba := up_alloc W (.cells #[.int .i64 s] 3)
    have HG2 := Lib.hid ((Hg.out.keep HB.out).keep hba)
    have KSa := KS.keep hba
    have HBa := Lib.hid (up HB.out hba)
    clear hba
    go_wp2_with (first
      | (go_at_call 70; refine (within_any _ _ _ _).mono ?_; rintro e w' ⟨rfl, rfl⟩; rw [H4.out])
      | (go_at_call 66; refine (checkKinds_any A n c B m d K _ 1 1 [s] _ HG2.out HL.out).mono ?_; rintro e V ⟨rfl, hbv⟩; rw [HE3.out]; have KSV := KSa.keep hbv; have HBV := Lib.hid (up HBa.out hbv); clear hbv KS KSl KSc KSf KSa KY KYl KYc KYf; have KSVl := KSV.lt; have KSVc := KSV.get; have KSVf := KSV.fr)
      | (go_at_call 147; refine (validDay_any _ _).mono ?_; rintro e w' ⟨rfl, rfl⟩; rw [H3.out]))
    go_ret
    exact ⟨ret_bool HT3.out.symm, HBV.out⟩
theorem stayBad_any (A : Option Addr) (n c : Nat) (B : Option Addr) (m d : Nat) (K : List Kd) (x : St) (q : Nat) (w : World) (hg : Ks w B m K) (k : Bx w q 25 [.slice A n c, .slice B m d]) :
    Calls Tryz.prog 122 #[sv x, .pointer (some ⟨q, 0, none⟩)] w fun e w' => e = .returned (.bool (!stB K x)) ∧ Below w.heap.size w w' := by
  have Hg := Lib.hid hg; have HK := Lib.hid k
  clear hg k
  have HV : Hid (∀ W, Below w.heap.size w W → Calls Tryz.prog 123 #[.agg #[.slice A n c, .slice B m d], sv x] W fun e w' => e = .returned (.bool (stB K x)) ∧ Below W.heap.size W w') := Lib.hid (fun W hW => validStay_any A n c B m d K x W (Hg.out.keep hW))
  generalize stB K x = b at *
  obtain ⟨s, i, o⟩ := x
  unfold sv at *
  go_enter Tryz.func122, Tryz.ntmps122
  go_upto_region 1 with fail
  generalize hW : (World.alloc _ _) = W
  have HB : Hid (Below w.heap.size w W) := Lib.hid (by subst hW; go_grown)
  have KS : Bx W (w.heap.size) 76 [.int .i64 s, .int .i64 i, .int .i64 o] := by subst hW; repeat (first | (refine Bx.newAt _ _ _ ?_; first | rfl | (simp only [World.size_alloc]; done) | (simp only [World.size_alloc]; omega)) | refine Bx.old ?_ _)
  clear hW
  have KSl := KS.lt; have KSc := KS.get; have KSf := KS.fr
  have KY := HK.out.keep HB.out
  have KYl := KY.lt; have KYc := KY.get; have KYf := KY.fr
  go_wp2_with (go_at_call 123; refine (HV.out _ HB.out).mono ?_; rintro e V ⟨rfl, hbv⟩; have HBV := Lib.hid (up HB.out hbv); clear hbv)
  go_ret
  exact ⟨rfl, HBV.out⟩

/-- The index of the first stay of which something is so, from k on; -1 if there is none. -/
def posS (f : St → Bool) : List St → Nat → Int
  | [], _ => -1
  | y :: r, k => if f y = true then k else posS f r (k + 1)
theorem posS_yes {f : St → Bool} {y : St} (r : List St) (k : Nat) (h : f y = true) : posS f (y :: r) k = k := by unfold posS; rw [if_pos h]
theorem posS_no {f : St → Bool} {y : St} (r : List St) (k : Nat) (h : f y = false) : posS f (y :: r) k = posS f r (k + 1) := by rw [posS, if_neg (by simp [h])]
theorem posS_any (f : St → Bool) (l : List St) : ∀ k : Nat, decide (posS f l k ≥ 0) = l.any f := by
  induction l with
  | nil => intro k; rfl
  | cons y r ih =>
    intro k
    cases h : f y
    · rw [posS_no r k h, ih (k + 1)]; simp [h]
    · rw [posS_yes r k h]; simp [h]
def PrSt (g : FuncId) (v1 : Value) (f : St → Bool) (w : World) : Prop :=
  ∀ X x, Below w.heap.size w X → Calls Tryz.prog g #[sv x, v1] X fun e w' => e = .returned (.bool (f x)) ∧ Below X.heap.size X w'
section
variable (g : FuncId) (v1 : Value) (f : St → Bool) (w : World) (eg : ∀ args w, (callFunc g args).run Tryz.prog w = .ok (.enter g args) w) (hf : PrSt g v1 f w)
include eg hf
theorem indexS_any (L : Option Addr) (r s : Nat) (l : List St) (hl : Ss w L r l) :
    Calls Tryz.prog 151 #[.slice L r s, .func (.func g) #[] #[v1]] w fun e w' => e = .returned (.int .i64 (posS f l 0)) ∧ Below w.heap.size w w' := by
  have hn := hl.small
  have Hr : Hid (r = l.length) := Lib.hid hl.len
  have Hl := Lib.hid hl; have Hf := Lib.hid hf
  clear hl hf
  go_enter Tryz.func151, Tryz.ntmps151
  go_wp2_with fail
  go_loopw [8] (fun i wr => ∃ (k : Nat), k ≤ r ∧ i = .int .i64 k ∧ Below w.heap.size w wr ∧ posS f (l.drop k) k = posS f l 0) (fun i _ => r - (intOf i).toNat)
  case atStart => exact ⟨0, by omega, rfl, Below.refl _ _, rfl⟩
  case round =>
    obtain ⟨k, hk, rfl, hb, hp⟩ := hrel
    have HB := Lib.hid hb; have Hp := Lib.hid hp
    clear hb hp
    by_cases hlt : k < r
    · have hkl : k < l.length := by rw [← Hr.out]; exact hlt
      have Hd : Hid (l.drop k = l[k] :: l.drop (k + 1)) := Lib.hid (List.drop_eq_getElem_cons hkl)
      obtain ⟨b, o, rfl, hb, hcs⟩ := (Hl.out.keep HB.out).get k hkl
      obtain ⟨c0, c1, c2⟩ := hcs
      generalize l[k] = y at *
      cases hF : f y
      all_goals
        have HF := Lib.hid hF
        clear hF
        go_wp2_with (go_at_fn g; refine (Hf.out _ y HB.out).mono ?_; rintro e U ⟨rfl, hbu⟩; rw [HF.out]; have HBU := Lib.hid (up HB.out hbu); clear hbu)
      · refine ⟨⟨k + 1, by omega, by go_num, HBU.out, ?_⟩, by simp [intOf]; omega⟩
        rw [← Hp.out, Hd.out, posS_no _ _ HF.out]
      · go_ret
        refine ⟨ret_int ?_, HBU.out⟩
        rw [← Hp.out, Hd.out, posS_yes _ _ HF.out]
    · obtain rfl : k = r := by omega
      have Ho : Hid (posS f l 0 = -1) := Lib.hid (by rw [← Hp.out, Hr.out, List.drop_length]; rfl)
      go_wp2
      go_ret
      exact ⟨ret_int Ho.out.symm, HB.out⟩
theorem containsS_any (L : Option Addr) (r s : Nat) (l : List St) (hl : Ss w L r l) :
    Calls Tryz.prog 121 #[.slice L r s, .func (.func g) #[] #[v1]] w fun e w' => e = .returned (.bool (l.any f)) ∧ Below w.heap.size w w' := by
  have Ho : Hid (decide (posS f l 0 ≥ 0) = l.any f) := Lib.hid (posS_any f l 0)
  have H := Lib.hid (indexS_any g v1 f w eg hf L r s l hl)
  clear hl hf
  generalize posS f l 0 = q at *
  go_enter Tryz.func121, Tryz.ntmps121
  go_wp2_with (go_at_call 151; refine H.out.mono ?_; rintro e U ⟨rfl, hbu⟩; have HBU := Lib.hid hbu; clear hbu)
  go_ret
  exact ⟨ret_bool Ho.out, HBU.out⟩
end
theorem all_not_anyS (f : St → Bool) (l : List St) : l.all f = !l.any (fun o => !f o) := by
  induction l with
  | nil => rfl
  | cons y t ih => rw [List.all_cons, List.any_cons, ih]; cases f y <;> rfl

theorem checkStays_any (A : Option Addr) (n c : Nat) (P : List Int) (B : Option Addr) (m d : Nat) (K : List Kd) (L : Option Addr) (r s : Nat) (l : List St) (w : World) (hp : Is w A n P) (hg : Ks w B m K) (hl : Ss w L r l) :
    Calls Tryz.prog 56 #[.agg #[.slice A n c, .slice B m d], .slice L r s] w fun e w' => e = .returned (.int .i64 (ssE P K l)) ∧ Below w.heap.size w w' := by
  have Hr : Hid (r = l.length) := Lib.hid hl.len
  have hrs := hl.small
  have Hp := Lib.hid hp; have Hg := Lib.hid hg; have Hl := Lib.hid hl
  clear hp hg hl
  cases hy : yOk P K
  · have HE : Hid (ssE P K l = 50) := Lib.hid (by unfold ssE; rw [hy]; rfl)
    have HY : Hid (yE P K = 50) := Lib.hid (yE_f hy)
    clear hy
    go_enter Tryz.func56, Tryz.ntmps56
    go_upto_region 1 with fail
    generalize hW : (World.alloc _ _) = W
    have HB : Hid (Below w.heap.size w W) := Lib.hid (by subst hW; go_grown)
    have KY : Bx W (w.heap.size) 25 [.slice A n c, .slice B m d] := by subst hW; repeat (first | (refine Bx.newAt _ _ _ ?_; first | rfl | (simp only [World.size_alloc]; done) | (simp only [World.size_alloc]; omega)) | refine Bx.old ?_ _)
    clear hW
    have KYl := KY.lt; have KYc := KY.get; have KYf := KY.fr
    go_wp2_with (go_at_call 18; refine (checkYard_any _ _ _ P _ _ _ K _ (Hp.out.keep HB.out) (Hg.out.keep HB.out)).mono ?_; rintro e X ⟨rfl, hbx⟩; rw [HY.out]; clear KYl KYc KYf; replace KY := KY.keep hbx; have KYl := KY.lt; have KYc := KY.get; have KYf := KY.fr; replace HB := Lib.hid (up HB.out hbx); clear hbx)
    go_ret
    exact ⟨ret_int HE.out.symm, HB.out⟩
  · have HY : Hid (yE P K = 0) := Lib.hid (yE_t hy)
    have HE : Hid (ssE P K l = err (decide (l.length ≤ 40) && ssOk K l) 55) := Lib.hid (by unfold ssE; rw [hy]; rfl)
    have HA : Hid (ssOk K l = !l.any (fun x => !stB K x)) := Lib.hid (all_not_anyS _ _)
    clear hy
    by_cases h40 : r ≤ 40
    · have H40 : Hid (decide (l.length ≤ 40) = true) := Lib.hid (by rw [← Hr.out]; simpa using h40)
      go_enter Tryz.func56, Tryz.ntmps56
      go_upto_region 1 with fail
      generalize hW : (World.alloc _ _) = W
      have HB : Hid (Below w.heap.size w W) := Lib.hid (by subst hW; go_grown)
      have KY : Bx W (w.heap.size) 25 [.slice A n c, .slice B m d] := by subst hW; repeat (first | (refine Bx.newAt _ _ _ ?_; first | rfl | (simp only [World.size_alloc]; done) | (simp only [World.size_alloc]; omega)) | refine Bx.old ?_ _)
      clear hW
      have KYl := KY.lt; have KYc := KY.get; have KYf := KY.fr
      go_upto_region 4 with (go_at_call 18; refine (checkYard_any _ _ _ P _ _ _ K _ (Hp.out.keep HB.out) (Hg.out.keep HB.out)).mono ?_; rintro e X ⟨rfl, hbx⟩; rw [HY.out]; clear KYl KYc KYf; replace KY := KY.keep hbx; have KYl := KY.lt; have KYc := KY.get; have KYf := KY.fr; replace HB := Lib.hid (up HB.out hbx); clear hbx)
      have HC := Lib.hid (containsS_any 122 (.pointer (some ⟨w.heap.size, 0, none⟩)) (fun x => !stB K x) X (fun args w => by kernel_rfl)
        (fun Z x hZ => stayBad_any A n c B m d K x _ Z ((Hg.out.keep HB.out).keep hZ) (KY.keep hZ)) L r s l (Hl.out.keep HB.out))
      generalize l.any _ = Q at *
      go_wp2_with (first
        | (go_at_call 121; refine HC.out.mono ?_; rintro e U ⟨rfl, hbu⟩; have HBU := Lib.hid (up HB.out hbu); clear hbu)
        | (go_at_call 76; refine (unless_any _ _ _).mono ?_; rintro e w' ⟨rfl, rfl⟩))
      go_ret
      exact ⟨ret_int (by rw [HE.out, H40.out, HA.out]; rfl), HBU.out⟩
    · have H40 : Hid (decide (l.length ≤ 40) = false) := Lib.hid (by rw [← Hr.out]; simpa using h40)
      go_enter Tryz.func56, Tryz.ntmps56
      go_upto_region 1 with fail
      generalize hW : (World.alloc _ _) = W
      have HB : Hid (Below w.heap.size w W) := Lib.hid (by subst hW; go_grown)
      have KY : Bx W (w.heap.size) 25 [.slice A n c, .slice B m d] := by subst hW; repeat (first | (refine Bx.newAt _ _ _ ?_; first | rfl | (simp only [World.size_alloc]; done) | (simp only [World.size_alloc]; omega)) | refine Bx.old ?_ _)
      clear hW
      have KYl := KY.lt; have KYc := KY.get; have KYf := KY.fr
      go_wp2_with (first
        | (go_at_call 18; refine (checkYard_any _ _ _ P _ _ _ K _ (Hp.out.keep HB.out) (Hg.out.keep HB.out)).mono ?_; rintro e X ⟨rfl, hbx⟩; rw [HY.out]; clear KYl KYc KYf; replace KY := KY.keep hbx; have KYl := KY.lt; have KYc := KY.get; have KYf := KY.fr; replace HB := Lib.hid (up HB.out hbx); clear hbx)
        | (go_at_call 76; refine (unless_any _ _ _).mono ?_; rintro e w' ⟨rfl, rfl⟩))
      go_ret
      exact ⟨ret_int (by rw [HE.out, H40.out]; rfl), HB.out⟩
end Go.Proofs.YtollccpghhgpfaaGreat

namespace Go.Proofs.YtollccpghhgpfaaGreat
open Go Go.RowKit
set_option maxHeartbeats 1000000
set_option maxRecDepth 100000

def srt (l : List Int) : List Int := l.mergeSort fun x y => decide (x ≤ y)
theorem srt_len (l : List Int) : (srt l).length = l.length := by unfold srt; exact List.length_mergeSort l
theorem srt_mem {l : List Int} {x : Int} : x ∈ srt l ↔ x ∈ l := by unfold srt; exact List.mem_mergeSort
theorem OI.row {w : World} {base n c : Nat} {A : Option Addr} {l : List Int} (h : OI w base (.slice A n c) l) (hl : 0 < l.length) : ∃ g cur, A = some ⟨g, 0, none⟩ ∧ base ≤ g ∧ w.heap[g]? = some (.cells cur 3 (0, 0)) := by
  rcases h.h.2 with ⟨h1, h2⟩ | ⟨g, cap, cur, h1, h2, h3, _⟩
  · exact absurd hl (by omega)
  · cases h1; exact ⟨g, cur, rfl, h2, h3⟩
theorem sort_any (w : World) (base n c : Nat) (A : Option Addr) (l : List Int) (h : OI w base (.slice A n c) l) (hn : n = l.length) (h40 : l.length ≤ 1000) (hb : base ≤ w.heap.size) :
    Calls Tryz.prog 111 #[.slice A n c] w fun e w' => e = .returned (.tuple #[]) ∧ Is w' A n (srt l) ∧ Below base w w' := by
  by_cases h0 : l.length = 0
  · obtain rfl : l = [] := List.length_eq_zero_iff.1 h0
    subst hn
    refine (Tryz.slices_Sort_int_none A c w).mono ?_
    rintro e w' ⟨rfl, rfl⟩
    exact ⟨rfl, ⟨by rw [srt_len], by simp, fun k hk => by rw [srt_len] at hk; simp at hk⟩, Below.refl _ _⟩
  · obtain ⟨g, cur, rfl, hg, hrow⟩ := h.row (by omega)
    obtain ⟨A2, c2, e2, hc2, his, -⟩ := h.is
    cases e2
    have hlt : g < w.heap.size := (Array.getElem?_eq_some_iff.1 hrow).1
    have hH : Go.Sort.Holds (Value.int .i64) w g 0 l.toArray := by
      intro j hj
      have hjl : j < l.length := by simpa using hj
      obtain ⟨b, o, e, _, hc⟩ := his.get j hjl
      cases e
      refine ⟨?_, frozen_of_row w g (0 + j) _ _ hrow⟩
      rw [hc]; simp [hjl]
    refine (Tryz.slices_Sort_int g 0 c l w hH hlt (by omega)).mono ?_
    rintro e w' ⟨rfl, q, os, rfl⟩
    have hH2 : Go.Sort.Holds (Value.int .i64) (Go.Sort.putRow (Value.int .i64) (Go.Sort.ahead w q) g 0 (srt l).toArray) g 0 (srt l).toArray :=
      Go.Sort.holds_putRow _ _ _ _ l.toArray _ hH (by simp [srt_len])
    have hother : ∀ k, k ≠ g → (Go.Sort.putRow (Value.int .i64) (Go.Sort.ahead w q) g 0 (srt l).toArray).heap[k]? = w.heap[k]? := fun k hk => by
      show (w.heap.modify g _)[k]? = _
      rw [Array.getElem?_modify, if_neg (Ne.symm hk)]
    have hsz : (Go.Sort.putRow (Value.int .i64) (Go.Sort.ahead w q) g 0 (srt l).toArray).heap.size = w.heap.size := Go.Sort.size_putRow _ _ _ _ _
    have htape : (Go.Sort.putRow (Value.int .i64) (Go.Sort.ahead w q) g 0 (srt l).toArray).tape = w.tape := rfl
    have hos : (Go.Sort.putRow (Value.int .i64) (Go.Sort.ahead w q) g 0 (srt l).toArray).os = w.os := rfl
    have hout : (Go.Sort.putRow (Value.int .i64) (Go.Sort.ahead w q) g 0 (srt l).toArray).output = w.output := rfl
    show _ ∧ Is (Go.Sort.grow (Go.Sort.putRow (Value.int .i64) (Go.Sort.ahead w q) g 0 (srt l).toArray) os) _ _ _ ∧ Below base w (Go.Sort.grow (Go.Sort.putRow (Value.int .i64) (Go.Sort.ahead w q) g 0 (srt l).toArray) os)
    generalize Go.Sort.putRow (Value.int .i64) (Go.Sort.ahead w q) g 0 (srt l).toArray = V at *
    have hbl : ∀ k, k < V.heap.size → (Go.Sort.grow V os).heap[k]? = V.heap[k]? := fun k hk => by
      show (V.heap ++ os)[k]? = _
      rw [Array.getElem?_append_left hk]
    refine ⟨rfl, ⟨(srt_len l).symm, by omega, fun k hk => ⟨g, 0, rfl, by show g < (V.heap ++ os).size; simp; omega, ?_⟩⟩, ⟨hos, htape, hout, by show w.heap.size ≤ (V.heap ++ os).size; simp; omega, fun k hk => ?_⟩⟩
    · rw [World.cell?_of_block (a := ⟨g, 0 + k, none⟩) (hbl g (by omega)), (hH2 k (by simpa using hk)).1]
      simp [hk]
    · rw [hbl k (by omega), hother k (by omega)]

/-- A function of days, in whatever world has grown out of w. -/
def DyCl (g : FuncId) (v1 v2 v3 : Value) (p : Nat → Bool) (n : Nat) (w : World) : Prop :=
  ∀ (X : World) (i : Nat), Below w.heap.size w X → i < n → Calls Tryz.prog g #[.int .i64 (i : Int), v1, v2, v3] X fun e w' => e = .returned (.bool (p i)) ∧ Below X.heap.size X w'
theorem search_any (g : FuncId) (v1 v2 v3 : Value) (p : Nat → Bool) (n : Nat) (w : World) (eg : ∀ args w, (callFunc g args).run Tryz.prog w = .ok (.enter g args) w) (hf : DyCl g v1 v2 v3 p n w) (hn : n ≤ 1000000) (hmono : ∀ a b, a ≤ b → b < n → p a = true → p b = true) :
    Calls Tryz.prog 119 #[.int .i64 (n : Int), .func (.func g) #[] #[v1, v2, v3]] w fun e w' => ∃ q : Nat, e = .returned (.int .i64 (q : Int)) ∧ (q ≤ n ∧ (∀ t, t < q → p t = false) ∧ (∀ t, q ≤ t → t < n → p t = true)) ∧ Below w.heap.size w w' := by
  have HF := Lib.hid hf; have M := Lib.hid hmono
  clear hf hmono
  go_enter Tryz.func119, Tryz.ntmps119
  go_wp2_with fail
  go_loopw [5, 6] (fun s5 s6 wr => ∃ (lo hi : Nat), s5 = .int .i64 (lo : Int) ∧ s6 = .int .i64 (hi : Int) ∧ lo ≤ hi ∧ hi ≤ n ∧ Below w.heap.size w wr ∧ ((∀ t, t < lo → p t = false) ∧ (∀ t, hi ≤ t → t < n → p t = true))) (fun s5 s6 _ => (intOf s6).toNat - (intOf s5).toNat)
  case atStart => exact ⟨0, n, rfl, rfl, Nat.zero_le _, Nat.le_refl _, Below.refl _ _, fun t ht => absurd ht (Nat.not_lt_zero _), fun t h1 h2 => by omega⟩
  case round =>
    obtain ⟨lo, hi, rfl, rfl, hlh, hin, hb, hI⟩ := hrel
    have HB := Lib.hid hb; have I := Lib.hid hI
    clear hb hI
    by_cases hlt : lo < hi
    · have hc := HF.out _ ((lo + hi) / 2) HB.out (by omega)
      rw [show (((lo + hi) / 2 : Nat) : Int) = ((lo : Int) + (hi : Int)) / 2 by omega] at hc
      cases hp : p ((lo + hi) / 2)
      all_goals
        rw [hp] at hc
        have HP := Lib.hid hp; have HC := Lib.hid hc
        clear hp hc
        go_wp2_with (go_at_fn g; refine HC.out.mono ?_; rintro e w' ⟨rfl, hbw⟩; have HB2 := Lib.hid (up HB.out hbw); clear hbw)
      · refine ⟨⟨(lo + hi) / 2 + 1, hi, by go_num, rfl, by omega, hin, HB2.out, fun t ht => ?_, I.out.2⟩, by simp [intOf]; omega⟩
        cases h : p t with
        | false => rfl
        | true => have := M.out t ((lo + hi) / 2) (by omega) (by omega) h; rw [HP.out] at this; cases this
      · exact ⟨⟨lo, (lo + hi) / 2, rfl, by go_num, by omega, by omega, HB2.out, I.out.1, fun t h1 h2 => M.out ((lo + hi) / 2) t h1 h2 HP.out⟩, by simp [intOf]; omega⟩
    · obtain rfl : hi = lo := by omega
      go_wp2
      go_ret
      exact ⟨hi, rfl, ⟨hin, I.out.1, I.out.2⟩, HB.out⟩
end Go.Proofs.YtollccpghhgpfaaGreat

namespace Go.Proofs.YtollccpghhgpfaaGreat
open Go Go.RowKit
set_option maxHeartbeats 2000000
set_option maxRecDepth 100000

/-- A block that begins with these numbers. -/
structure Row (w : World) (g : Nat) (l : List Int) : Prop where
  ex : ∃ cs, Bx w g 3 cs ∧ ∀ j (h : j < l.length), cs[j]? = some (.int .i64 l[j])
theorem Row.lt {w : World} {g : Nat} {l : List Int} (h : Row w g l) : g < w.heap.size := by obtain ⟨cs, k, _⟩ := h.ex; exact k.lt
theorem Row.keep {w w' : World} {g : Nat} {l : List Int} (h : Row w g l) (hb : Below w.heap.size w w') : Row w' g l := by
  obtain ⟨cs, k, h1⟩ := h.ex; exact ⟨cs, k.keep hb, h1⟩
theorem Row.cell {w : World} {g : Nat} {l : List Int} (h : Row w g l) {j : Nat} (hj : j < l.length) : w.cell? ⟨g, j, none⟩ = some (.int .i64 l[j]) := by
  obtain ⟨cs, k, h1⟩ := h.ex; rw [k.get]; exact h1 j hj
theorem Row.fr {w : World} {g : Nat} {l : List Int} (h : Row w g l) (j : Nat) : w.frozen? ⟨g, j, none⟩ = false := by
  obtain ⟨cs, k, h1⟩ := h.ex; exact k.fr j
theorem Row.is {w : World} {g : Nat} {l : List Int} (h : Row w g l) (hl : l.length ≤ 1000) : Is w (some ⟨g, 0, none⟩) l.length l :=
  ⟨rfl, by omega, fun k hk => ⟨g, 0, rfl, h.lt, by rw [Nat.zero_add]; exact h.cell hk⟩⟩
theorem Row.set {w : World} {g : Nat} {l : List Int} (h : Row w g l) (j : Nat) (x : Int) : Row (w.setCell ⟨g, j, none⟩ (.int .i64 x)) g (l.set j x) := by
  obtain ⟨cs, k, h1⟩ := h.ex
  refine ⟨_, k.cell j (.int .i64 x), fun i hi => ?_⟩
  have hil : i < l.length := by simpa using hi
  have := h1 i hil
  have hic : i < cs.length := (List.getElem?_eq_some_iff.1 this).1
  rw [List.getElem?_set, List.getElem_set]
  by_cases e : j = i
  · subst e; simp [hic]
  · simp [e, this]
theorem OI.rowI {w : World} {base n c : Nat} {A : Option Addr} {l : List Int} (h : OI w base (.slice A n c) l) (hl : 0 < l.length) : ∃ g, A = some ⟨g, 0, none⟩ ∧ base ≤ g ∧ Row w g l := by
  obtain ⟨g, cur, rfl, hg, hr⟩ := h.row hl
  obtain ⟨A2, c2, e2, _, his, _⟩ := h.is
  cases e2
  refine ⟨g, rfl, hg, ⟨cur.toList, ⟨hr⟩, fun j hj => ?_⟩⟩
  obtain ⟨b, o, e, _, hc⟩ := his.get j hj
  cases e
  rw [cell_of_row _ _ _ _ _ _ hr] at hc
  simpa using hc

theorem standS_in {P ap : List Int} {bs : List Kd} {p st : List Int} (h : standS P ap bs p = some st) : p.length = bs.length ∧ ∀ k (hk : k < p.length), 0 ≤ p[k] ∧ p[k] ≤ (P.length : Int) - 1 := by
  have hl : p.length = bs.length := by
    by_cases e : p.length = bs.length
    · exact e
    · rw [standS_len e] at h; cases h
  refine ⟨hl, fun k hk => ?_⟩
  cases hs : standK P ap bs p k with
  | none =>
    have := standS_none hk (by rw [standK, hs])
    rw [this] at h; cases h
  | some s =>
    cases hb : inB (p.getD k 0) 0 ((P.length : Int) - 1) with
    | true =>
      have := inB_iff.1 hb
      simpa [hk] using this
    | false =>
      have := standS_none (P := P) (ap := ap) (bs := bs) hk (by rw [standK_some hs, hb]; rfl)
      rw [this] at h; cases h
theorem plE_ok {P : List Int} {K : List Kd} {l p : List Int} (h : plE P K l p = 0) : sE P K l = 0 ∧ ∃ st, standS P (apL K) (bsL K l) p = some st := by
  unfold plE at h
  split at h
  · rename_i h0
    refine ⟨h0, ?_⟩
    cases hs : standS P (apL K) (bsL K l) p with
    | none => rw [hs] at h; simp at h
    | some st => exact ⟨st, rfl⟩
  · exact absurd h (by assumption)
theorem placed_bad (A : Option Addr) (n c : Nat) (P : List Int) (B : Option Addr) (m d : Nat) (K : List Kd) (L : Option Addr) (r s : Nat) (l : List Int) (C : Option Addr) (u v : Nat) (p : List Int) (w : World)
    (hp : Is w A n P) (hg : Ks w B m K) (hl : Is w L r l) (hc : Is w C u p) (h : plE P K l p ≠ 0) :
    Calls Tryz.prog 79 #[.agg #[.slice A n c, .slice B m d], .slice L r s, .slice C u v] w fun e w' => e = .returned (.tuple #[.agg ⟨ldL none 0 0 (.slice none 0 0) ap0⟩, .agg ⟨ints ap0⟩, .int .i64 (plE P K l p)]) ∧ Below w.heap.size w w' := by
  by_cases h0 : sE P K l = 0
  · have hS : standS P (apL K) (bsL K l) p = none := by
      cases hs : standS P (apL K) (bsL K l) p with
      | none => rfl
      | some st => exact absurd (by unfold plE; rw [if_pos h0, hs]; rfl) h
    have e : plE P K l p = 52 := by unfold plE; rw [if_pos h0, hS]; rfl
    rw [e]
    exact placed_no A n c P B m d K L r s l C u v p w hp hg hl hc h0 hS
  · have e : plE P K l p = sE P K l := by unfold plE; rw [if_neg h0]
    rw [e]
    exact placed_e A n c P B m d K L r s l C u v p w hp hg hl hc h0

/-- The room that is left in each pen, once the first k beasts stand. -/
def freK (P : List Int) (bs : List Kd) (p : List Int) : Nat → List Int
  | 0 => P
  | k + 1 => (freK P bs p k).set (p.getD k 0).toNat ((freK P bs p k).getD (p.getD k 0).toNat 0 - (bs.getD k kd0).r)
def freL (P : List Int) (K : List Kd) (l p : List Int) : List Int := if plE P K l p = 0 then freK P (bsL K l) p p.length else []
theorem freK_len (P : List Int) (bs : List Kd) (p : List Int) (k : Nat) : (freK P bs p k).length = P.length := by
  induction k with
  | zero => rfl
  | succ k ih => rw [freK, List.length_set, ih]
theorem freK_in {P : List Int} {bs : List Kd} {p : List Int} (hP : psOk P = true) (hb : goodB bs) : ∀ k, k ≤ bs.length → ∀ j (hj : j < (freK P bs p k).length), -1000 * (k : Int) ≤ (freK P bs p k)[j] ∧ (freK P bs p k)[j] ≤ 1000 := by
  intro k
  induction k with
  | zero =>
    intro _ j hj
    have := (List.all_eq_true.1 hP) P[j] (List.getElem_mem hj)
    rw [inB_iff] at this
    simp only [freK]; omega
  | succ k ih =>
    intro hk j hj
    have hkd := hb bs[k] (List.getElem_mem (by omega))
    have hjl : j < (freK P bs p k).length := by rw [freK_len] at hj ⊢; exact hj
    have h1 := ih (by omega) j hjl
    simp only [freK, List.getElem_set]
    split
    · rename_i e
      rw [show bs.getD k kd0 = bs[k]'(by omega) by simp [show k < bs.length by omega], e, show (freK P bs p k).getD j 0 = (freK P bs p k)[j] by simp [hjl]]
      omega
    · omega

theorem Free_any (A : Option Addr) (n c : Nat) (P : List Int) (B : Option Addr) (m d : Nat) (K : List Kd) (L : Option Addr) (r s : Nat) (l : List Int) (C : Option Addr) (u v : Nat) (p : List Int) (w : World)
    (hp : Is w A n P) (hg : Ks w B m K) (hl : Is w L r l) (hc : Is w C u p) :
    Calls Tryz.prog 30 #[.agg #[.slice A n c, .slice B m d], .slice L r s, .slice C u v] w fun e w' => ∃ x, e = .returned (.tuple #[x, .int .i64 (plE P K l p)]) ∧ Lst w.heap.size w' x (freL P K l p) ∧ Below w.heap.size w w' := by
  have Hp := Lib.hid hp; have Hg := Lib.hid hg; have Hl := Lib.hid hl; have Hc := Lib.hid hc
  have Hu : Hid (u = p.length) := Lib.hid hc.len
  have Hn : Hid (n = P.length) := Lib.hid hp.len
  clear hp hg hl hc
  by_cases h0 : plE P K l p = 0
  rotate_left
  · have hne : (plE P K l p != 0) = true := by simpa using h0
    have H0 := Lib.hid h0
    have HX : Hid (freL P K l p = []) := Lib.hid (by unfold freL; rw [if_neg h0])
    rw [HX.out]
    clear h0
    go_enter Tryz.func30, Tryz.ntmps30
    go_upto_region 1 with fail
    generalize hW : (World.alloc _ _) = W
    have HB : Hid (Below w.heap.size w W) := Lib.hid (by subst hW; go_grown)
    have KY : Bx W (w.heap.size) 25 [.slice A n c, .slice B m d] := by subst hW; repeat (first | (refine Bx.newAt _ _ _ ?_; first | rfl | (simp only [World.size_alloc]; done) | (simp only [World.size_alloc]; omega)) | refine Bx.old ?_ _)
    clear hW
    have KYl := KY.lt; have KYc := KY.get; have KYf := KY.fr
    go_wp2_with (first
      | (go_at_call 79; refine (placed_bad A n c P B m d K L r s l C u v p _ (Hp.out.keep HB.out) (Hg.out.keep HB.out) (Hl.out.keep HB.out) (Hc.out.keep HB.out) H0.out).mono ?_; rintro e X ⟨rfl, hbx⟩; clear KYl KYc KYf; replace KY := KY.keep hbx; have KYl := KY.lt; have KYc := KY.get; have KYf := KY.fr; replace HB := Lib.hid (up HB.out hbx); clear hbx)
      | (refine wpList_put 83 8 19 rfl rfl (Bx.old (Bx.new X _ 83) _) rfl rfl (sL83 (ap := ap0) rfl) (sLo (ap := ap0) rfl) ldL_one ?_; intro U KU hp; have KI : Bx U (X.heap.size + 1) 107 (ints ap0) := (Bx.newAt _ _ _ (by rw [World.size_alloc])).put hp (by omega); have hbu := upP ((up_alloc X _).trans ((up_alloc _ _).mono (by rw [World.size_alloc]; omega))) hp (by omega); have KIl := KI.lt; have KIc := KI.get; have KIf := KI.fr)
      | (refine wpList_put 107 9 20 rfl rfl KI rfl rfl (sI107 (l := ap0) rfl) rfl (ints_one ap0) ?_; intro U2 KI2 hp2; have HBU := Lib.hid (upP (up HB.out hbu) hp2 (by have := HB.out.size; omega))))
    go_ret2
    exact ⟨_, rfl, Lst.nil _ _, HBU.out⟩
  · obtain ⟨hs0, st, hst⟩ := plE_ok h0
    obtain ⟨hpl, hpin⟩ := standS_in hst
    obtain ⟨hy, h8, hlo⟩ := sE_0 hs0
    obtain ⟨h5, hP, hK⟩ := yOk_k hy
    have hap := apL_len K
    have hgood := bsL_good hK hlo
    have hst10 : st.length = 10 := by
      rw [standS_eq hpl] at hst
      exact (standK_ok hP hgood _ _ (by omega) hst).1
    have Hfin := Lib.hid (freK_in (p := p) hP hgood)
    have Hpin := Lib.hid hpin
    have Hgood := Lib.hid hgood
    have hbl : (bsL K l).length = l.length := bsL_len K l
    have HS0 := Lib.hid hs0; have HSt := Lib.hid hst
    have HX : Hid (freL P K l p = freK P (bsL K l) p p.length) := Lib.hid (by unfold freL; rw [if_pos h0])
    rw [h0, HX.out]
    clear h0 hs0 hst hpin hgood hy hlo hP hK
    go_enter Tryz.func30, Tryz.ntmps30
    go_upto_region 1 with fail
    generalize hW : (World.alloc _ _) = W
    have HB : Hid (Below w.heap.size w W) := Lib.hid (by subst hW; go_grown)
    have KY : Bx W (w.heap.size) 25 [.slice A n c, .slice B m d] := by subst hW; repeat (first | (refine Bx.newAt _ _ _ ?_; first | rfl | (simp only [World.size_alloc]; done) | (simp only [World.size_alloc]; omega)) | refine Bx.old ?_ _)
    clear hW
    have KYl := KY.lt; have KYc := KY.get; have KYf := KY.fr
    go_upto_region 4 with (first
      | (go_at_call 79; refine (placed_ok A n c P B m d K L r s l C u v p _ (Hp.out.keep HB.out) (Hg.out.keep HB.out) (Hl.out.keep HB.out) (Hc.out.keep HB.out) HS0.out HSt.out).mono ?_; rintro e X ⟨B', c', rfl, hlc, hks, hbx⟩; have Hks := Lib.hid hks; have hwx := KY.lt; have hxs := hbx.size; clear hks; clear KYl KYc KYf; replace KY := KY.keep hbx; have KYl := KY.lt; have KYc := KY.get; have KYf := KY.fr; replace HB := Lib.hid (up HB.out hbx); clear hbx)
      | (refine wpList_put 83 8 19 rfl rfl (Bx.old (Bx.new X _ 83) _) rfl rfl (sL83 hap) (sLo hap) ldL_one ?_; intro U KU hp; have KI : Bx U (X.heap.size + 1) 107 (ints ap0) := (Bx.newAt _ _ _ (by rw [World.size_alloc])).put hp (by omega); have hbu := upP ((up_alloc X _).trans ((up_alloc _ _).mono (by rw [World.size_alloc]; omega))) hp (by omega); have KIl := KI.lt; have KIc := KI.get; have KIf := KI.fr)
      | (refine wpList_put 107 9 20 rfl rfl KI rfl rfl (sI107 hst10) (sIo hst10) (ints_one _) ?_; intro U2 KI2 hp2; have KU2 := KU.put hp2 (by omega); have hbu2 := upP hbu hp2 (by omega); have HksU := Lib.hid (Hks.out.keep hbu2); clear KI KIl KIc KIf KU hbu hp2 KI2; clear KYl KYc KYf; replace KY := KY.keep hbu2; have KYl := KY.lt; have KYc := KY.get; have KYf := KY.fr; replace HB := Lib.hid (up HB.out hbu2); clear hbu2))
    have HpU := Lib.hid (Hp.out.keep HB.out); have HcU := Lib.hid (Hc.out.keep HB.out)
    clear Hp Hg Hl Hks
    go_upto_region 5 with (go_at_call 80; refine (clone_any A n c P _ HpU.out (by omega)).mono ?_; rintro e V ⟨FA, fc, rfl, hO, hbv⟩; have HO := Lib.hid hO; have hsU := KU2.lt; have KUV := KU2.keep hbv; have HcV := Lib.hid (HcU.out.keep hbv); have HkV := Lib.hid (HksU.out.keep hbv); have hsv := hbv.size; replace HB := Lib.hid (up HB.out hbv); clear hO hbv KU2 HcU HpU KY KYl KYc KYf)
    obtain ⟨A2, c2, e2, hc2, his, hfar⟩ := HO.out.is
    cases e2
    have hrow : 0 < P.length → ∃ g, FA = some ⟨g, 0, none⟩ ∧ U2.heap.size ≤ g ∧ Row V g P := fun h => HO.out.rowI h
    have Hfar := Lib.hid hfar
    have hwU : w.heap.size ≤ U2.heap.size := by omega
    go_wp2_with fail
    go_loopw [30] (fun i wr => ∃ (k : Nat), k ≤ u ∧ i = .int .i64 k ∧ Is wr FA P.length (freK P (bsL K l) p k) ∧ (0 < P.length → ∃ g, FA = some ⟨g, 0, none⟩ ∧ U2.heap.size ≤ g ∧ Row wr g (freK P (bsL K l) p k)) ∧ Below w.heap.size w wr ∧ Bx wr X.heap.size 83 (ldL A n c (.slice B' l.length c') (apL K)) ∧ Below U2.heap.size V wr) (fun i _ => u - (intOf i).toNat)
    case atStart => exact ⟨0, by omega, rfl, his, hrow, HB.out, KUV, Below.mono (Below.refl _ _) (by omega)⟩
    case round =>
      clear his hrow HB KUV HO
      obtain ⟨k, hk, rfl, his, hrow, hb, KU, hbV⟩ := hrel
      have HB := Lib.hid hb; have HBV := Lib.hid hbV
      have Hkw := Lib.hid (HkV.out.keepO HksU.out (fun b hlt => hbV.block b hlt) hbV.size)
      have Hcw := Lib.hid (Hc.out.keep HB.out)
      clear hb hbV
      by_cases hlt : k < u
      · have hkp : k < p.length := by rw [← Hu.out]; exact hlt
        have hkb : k < (bsL K l).length := by omega
        have hkl : k < l.length := by omega
        have hpk := Hpin.out k hkp
        have hP0 : 0 < P.length := by omega
        obtain ⟨g, rfl, hgU, hR⟩ := hrow hP0
        have HK1 : Hid (freK P (bsL K l) p (k + 1) = (freK P (bsL K l) p k).set p[k].toNat ((freK P (bsL K l) p k).getD p[k].toNat 0 - (bsL K l)[k].r)) := Lib.hid (by rw [freK]; simp [hkp, hkb])
        have hfl := freK_len P (bsL K l) p k
        have hkd := Hgood.out (bsL K l)[k] (List.getElem_mem hkb)
        have hHBV := HBV.out.size
        have hHB := HB.out.size
        obtain ⟨b, o, rfl, hb, hcp⟩ := Hcw.out.get k hkp
        obtain ⟨b2, o2, rfl, hb2, hcs⟩ := Hkw.out.get k hkb
        obtain ⟨-, c1, -, -⟩ := hcs
        obtain ⟨j, hj⟩ := Int.eq_ofNat_of_zero_le hpk.1
        have hj2 : p[k].toNat = j := by omega
        rw [hj2] at HK1
        have hjP : j < P.length := by omega
        have hjf : j < (freK P (bsL K l) p k).length := by rw [hfl]; exact hjP
        have hcf := hR.cell hjf
        have hf := Hfin.out k (by omega) j hjf
        rw [show (freK P (bsL K l) p k).getD j 0 = (freK P (bsL K l) p k)[j] by simp [hjf]] at HK1
        rw [hj] at hcp hpk
        have HR := Lib.hid hR; have Hrow := Lib.hid hrow; have His := Lib.hid his
        have hgl := hR.lt
        have hff := hR.fr j
        have hkm := Hkw.out.small
        have hklm : k < l.length := hkl
        generalize (bsL K l)[k].r = y at *
        generalize (freK P (bsL K l) p k)[j] = x at *
        have hxy : -10000 ≤ x - y ∧ x - y ≤ 10000 := by omega
        have e1 : IntKind.i64.wrap (x - y) = x - y := by rw [IntWalk.i64_in _ (by omega)]
        clear hR hrow his hj hj2
        have KUl := KU.lt; have KUc := KU.get; have KUf := KU.fr
        go_upto_region 8 with fail
        refine wp_region_grow_tail 12 (by kernel_rfl) (by kernel_rfl) ?_
        simp only [List.take_succ_cons, List.take_zero, List.drop_succ_cons, List.drop_zero]
        repeat (go_big_quiet_step ((fail)))
        refine wpQuiet_nil ?_
        intro z
        have hbz := grow_below wr z
        have hffz := (hbz.frozen (p := ⟨g, j, none⟩) hgl).trans hff
        have hcfz := (hbz.cell (p := ⟨g, j, none⟩) hgl).trans hcf
        generalize grow wr z = Y at *
        have HRY := Lib.hid (HR.out.keep hbz)
        have HIY := Lib.hid (His.out.keep hbz)
        have KUY := KU.keep hbz
        have HBY := Lib.hid (up HB.out hbz)
        have HVY := Lib.hid (HBV.out.trans (hbz.mono (by omega)))
        have hgY : g < Y.heap.size := HRY.out.lt
        clear KUl KUc KUf hcf hff hcp c1 hb hb2 KU
        go_wp2
        have pY := Put.cell Y g j (.int .i64 (x - y))
        have hset := HRY.out.set j (x - y)
        have hse := hset.is (by rw [List.length_set, hfl]; omega)
        rw [List.length_set, hfl] at hse
        exact ⟨⟨k + 1, by omega, by go_num, by rw [HK1.out]; exact hse, fun _ => ⟨g, rfl, hgU, by rw [HK1.out]; exact hset⟩, upP HBY.out pY (by omega), KUY.put pY (by omega), HVY.out.trans (pY.below hgU)⟩, by simp [intOf]; omega⟩
      · obtain rfl : k = u := by omega
        have Ho : Hid (freK P (bsL K l) p k = freK P (bsL K l) p p.length) := Lib.hid (by rw [Hu.out])
        rw [Ho.out] at his
        have HI := Lib.hid his
        clear his hrow
        go_wp2
        go_ret2
        exact ⟨_, rfl, ⟨FA, P.length, fc, rfl, hc2, HI.out, fun q hq => by have := Hfar.out q hq; omega⟩, HB.out⟩
end Go.Proofs.YtollccpghhgpfaaGreat

namespace Go.Proofs.YtollccpghhgpfaaGreat
open Go Go.RowKit
set_option maxHeartbeats 8000000
set_option maxRecDepth 100000

theorem eatenP_any (A : Option Addr) (n c : Nat) (B : Option Addr) (m d : Nat) (K : List Kd) (L : Option Addr) (r s : Nat) (l : List St) (dd : Int) (w : World) (hg : Ks w B m K) (hl : Ss w L r l) (hK : ksOk K = true) (hs : ssOk K l = true) (h40 : l.length ≤ 40) (hd : 0 ≤ dd ∧ dd ≤ 100000) :
    Calls Tryz.prog 116 #[.agg #[.slice A n c, .slice B m d], .slice L r s, .int .i64 dd] w fun e w' => e = .returned (.int .i64 (eatL K l dd)) ∧ Below w.heap.size w w' := by
  have Hr : Hid (r = l.length) := Lib.hid hl.len
  have hr : r ≤ 40 := by rw [hl.len]; exact h40
  have Hl := Lib.hid hl; have Hg := Lib.hid hg; have HK := Lib.hid hK; have Hs := Lib.hid hs
  clear hl hg hK hs
  go_enter Tryz.func116, Tryz.ntmps116
  go_upto_region 1 with fail
  generalize hW : (World.alloc _ _) = W
  have HB : Hid (Below w.heap.size w W) := Lib.hid (by subst hW; go_grown)
  have KY : Bx W (w.heap.size) 25 [.slice A n c, .slice B m d] := by subst hW; repeat (first | (refine Bx.newAt _ _ _ ?_; first | rfl | (simp only [World.size_alloc]; done) | (simp only [World.size_alloc]; omega)) | refine Bx.old ?_ _)
  clear hW
  have KYl := KY.lt; have KYc := KY.get; have KYf := KY.fr
  clear KYl KYc KYf
  go_wp2_with fail
  go_loopw [7, 15] (fun v i wr => ∃ (k : Nat), k ≤ r ∧ i = .int .i64 k ∧ v = .int .i64 (eatK K l dd k) ∧ Bx wr w.heap.size 25 [.slice A n c, .slice B m d] ∧ Below w.heap.size w wr) (fun _ i _ => r - (intOf i).toNat)
  case atStart => exact ⟨0, by omega, rfl, rfl, KY, HB.out⟩
  case round =>
    clear KY
    obtain ⟨k, hk, rfl, rfl, KY, hb⟩ := hrel
    replace HB := Lib.hid hb
    clear hb
    have KYl := KY.lt; have KYc := KY.get; have KYf := KY.fr
    by_cases hlt : k < r
    · have hkl : k < l.length := by rw [← Hr.out]; exact hlt
      have hx := List.all_eq_true.1 Hs.out l[k] (List.getElem_mem hkl)
      have h1 := stB_in hx
      have h2 := kdD_e HK.out l[k].s
      have h3 := eatK_in HK.out Hs.out hd k (by omega)
      have h4 := eatR_in (d := dd) HK.out hx hd
      have HE : Hid (eatK K l dd (k + 1) = eatK K l dd k + eatR K l[k] dd) := Lib.hid (by rw [eatK]; simp [hkl])
      have HgW := Lib.hid (Hg.out.keep HB.out)
      obtain ⟨b, o, rfl, hb, hcs⟩ := (Hl.out.keep HB.out).get k hkl
      obtain ⟨c0, c1, c2⟩ := hcs
      clear hx
      generalize l[k] = x at *
      generalize eatK K l dd k = S at *
      have e1 : IntKind.i64.wrap (dd + 1) = dd + 1 := by rw [IntWalk.i64_in _ (by omega)]
      by_cases ho : x.o = -1
      · have hoe : (x.o != -1) = false := by simp [ho]
        have ho0 : ¬ (0 ≤ x.o) := by omega
        have HR : Hid (eatR K x dd = (kdD K x.s).e * max 0 (dd - x.i + 1)) := Lib.hid (by unfold eatR lastD; rw [hoe]; rfl)
        clear hoe
        go_upto_region 9 with (first
          | (refine wpList_putNew 76 9 18 rfl rfl rfl rfl (by kernel_rfl) rfl (by simp [Value.oneCell']) ?_; intro U KX hbu hsu; have HgU := Lib.hid (HgW.out.keep hbu); clear KYl KYc KYf; replace KY := KY.keep hbu; have KYl := KY.lt; have KYc := KY.get; have KYf := KY.fr; replace HB := Lib.hid (up HB.out hbu); clear hbu; have KXl := KX.lt; have KXc := KX.get; have KXf := KX.fr)
          | (go_at_call 84; refine (kindOf_any _ _ _ _ _ _ K _ _ HgU.out).mono ?_; rintro e V ⟨rfl, hbv⟩; have KXV := KX.keep hbv; clear KYl KYc KYf; replace KY := KY.keep hbv; have KYl := KY.lt; have KYc := KY.get; have KYf := KY.fr; replace HB := Lib.hid (up HB.out hbv); clear hbv; clear KX KXl KXc KXf; have KXVl := KXV.lt; have KXVc := KXV.get; have KXVf := KXV.fr)
          | (refine wpList_putNew 72 11 33 rfl rfl rfl rfl (by kernel_rfl) rfl (by simp [Value.oneCell']) ?_; intro U2 KK hbu hsu; have KX2 := KXV.keep hbu; clear KYl KYc KYf; replace KY := KY.keep hbu; have KYl := KY.lt; have KYc := KY.get; have KYf := KY.fr; replace HB := Lib.hid (up HB.out hbu); clear hbu; have KKl := KK.lt; have KKc := KK.get; have KKf := KK.fr; clear KXV KXVl KXVc KXVf; have KX2l := KX2.lt; have KX2c := KX2.get; have KX2f := KX2.fr))
        rw [HR.out] at h4
        rw [HR.out] at HE
        generalize (kdD K x.s).e = E at *
        obtain ⟨q, hq, hq0, hq1⟩ : ∃ q, max 0 (dd - x.i + 1) = q ∧ 0 ≤ q ∧ q ≤ 100001 := ⟨_, rfl, by omega, by omega⟩
        rw [hq] at h4 HE
        have hw : IntKind.i64.wrap (E * q) = E * q := by rw [IntWalk.i64_in _ (by omega)]
        have hif : (if x.i < dd + 1 then dd + 1 - x.i else 0) = q := by rw [← hq]; split <;> omega
        go_wp2
        exact ⟨⟨k + 1, by omega, by go_num, by rw [HE.out], KY, HB.out⟩, by simp [intOf]; omega⟩
      · have hoe : (x.o != -1) = true := by simp [ho]
        have ho2 : x.i ≤ x.o ∧ x.o ≤ 100000 := by omega
        have ho0 : 0 ≤ x.o := by omega
        have HR : Hid (eatR K x dd = (kdD K x.s).e * max 0 (min dd (x.o - 1) - x.i + 1)) := Lib.hid (by unfold eatR lastD; rw [hoe]; rfl)
        obtain ⟨t, ht, ht1, ht2⟩ : ∃ t, min dd (x.o - 1) = t - 1 ∧ 0 ≤ t ∧ t ≤ 100001 := ⟨min dd (x.o - 1) + 1, by omega, by omega, by omega⟩
        have hmi : (if x.o < dd + 1 then x.o else dd + 1) = t := by split <;> omega
        rw [ht] at HR
        clear ht hoe
        go_upto_region 9 with (first
          | (refine wpList_putNew 76 9 18 rfl rfl rfl rfl (by kernel_rfl) rfl (by simp [Value.oneCell']) ?_; intro U KX hbu hsu; have HgU := Lib.hid (HgW.out.keep hbu); clear KYl KYc KYf; replace KY := KY.keep hbu; have KYl := KY.lt; have KYc := KY.get; have KYf := KY.fr; replace HB := Lib.hid (up HB.out hbu); clear hbu; have KXl := KX.lt; have KXc := KX.get; have KXf := KX.fr)
          | (go_at_call 84; refine (kindOf_any _ _ _ _ _ _ K _ _ HgU.out).mono ?_; rintro e V ⟨rfl, hbv⟩; have KXV := KX.keep hbv; clear KYl KYc KYf; replace KY := KY.keep hbv; have KYl := KY.lt; have KYc := KY.get; have KYf := KY.fr; replace HB := Lib.hid (up HB.out hbv); clear hbv; clear KX KXl KXc KXf; have KXVl := KXV.lt; have KXVc := KXV.get; have KXVf := KXV.fr)
          | (refine wpList_putNew 72 11 33 rfl rfl rfl rfl (by kernel_rfl) rfl (by simp [Value.oneCell']) ?_; intro U2 KK hbu hsu; have KX2 := KXV.keep hbu; clear KYl KYc KYf; replace KY := KY.keep hbu; have KYl := KY.lt; have KYc := KY.get; have KYf := KY.fr; replace HB := Lib.hid (up HB.out hbu); clear hbu; have KKl := KK.lt; have KKc := KK.get; have KKf := KK.fr; clear KXV KXVl KXVc KXVf; have KX2l := KX2.lt; have KX2c := KX2.get; have KX2f := KX2.fr))
        rw [HR.out] at h4
        rw [HR.out] at HE
        generalize (kdD K x.s).e = E at *
        obtain ⟨q, hq, hq0, hq1⟩ : ∃ q, max 0 (t - 1 - x.i + 1) = q ∧ 0 ≤ q ∧ q ≤ 100001 := ⟨_, rfl, by omega, by omega⟩
        rw [hq] at h4 HE
        have hw : IntKind.i64.wrap (E * q) = E * q := by rw [IntWalk.i64_in _ (by omega)]
        have hif : (if x.i < t then t - x.i else 0) = q := by rw [← hq]; split <;> omega
        go_wp2
        exact ⟨⟨k + 1, by omega, by go_num, by rw [HE.out], KY, HB.out⟩, by simp [intOf]; omega⟩
    · obtain rfl : k = r := by omega
      have Ho : Hid (eatK K l dd k = eatL K l dd) := Lib.hid (by unfold eatL; rw [Hr.out])
      go_wp2
      go_ret
      exact ⟨ret_int Ho.out, HB.out⟩
end Go.Proofs.YtollccpghhgpfaaGreat

namespace Go.Proofs.YtollccpghhgpfaaGreat
open Go Go.RowKit
set_option maxHeartbeats 2000000
set_option maxRecDepth 100000

theorem ssE_0 {P : List Int} {K : List Kd} {l : List St} (h : ssE P K l = 0) : yOk P K = true ∧ l.length ≤ 40 ∧ ssOk K l = true := by
  unfold ssE at h
  cases hy : yOk P K
  · rw [hy] at h; simp at h
  · rw [hy, if_pos rfl] at h
    unfold err at h
    split at h
    · rename_i h2; simp at h2; exact ⟨rfl, h2⟩
    · omega
def thrE (P : List Int) (K : List Kd) (l : List St) (d : Int) : Int := orE [ssE P K l, err (inB d 0 100000) 6]
def lasE (P : List Int) (K : List Kd) (l : List St) (f : Int) : Int := orE [ssE P K l, err (inB f 0 1000000000000) 1]
theorem orE2_0 {a b : Int} (h : orE [a, b] = 0) : a = 0 ∧ b = 0 := by
  unfold orE at h
  split at h
  · rename_i h1
    unfold orE at h
    split at h
    · rename_i h2; exact ⟨h1, h2⟩
    · exact absurd h (by assumption)
  · exact absurd h (by assumption)
theorem err_0 {b : Bool} {n : Int} (h : err b n = 0) (hn : n ≠ 0) : b = true := by
  unfold err at h; split at h
  · assumption
  · exact absurd h hn

section
variable (A : Option Addr) (n c : Nat) (P : List Int) (B : Option Addr) (m d : Nat) (K : List Kd) (L : Option Addr) (r s : Nat) (l : List St) (dd : Int) (w : World) (hp : Is w A n P) (hg : Ks w B m K) (hl : Ss w L r l)
include hp hg hl
theorem There_any : Calls Tryz.prog 48 #[.agg #[.slice A n c, .slice B m d], .slice L r s, .int .i64 dd] w fun e w' => ∃ v, e = .returned (.tuple #[v, .int .i64 (thrE P K l dd)]) ∧ Lst w.heap.size w' v (if thrE P K l dd = 0 then thL l dd else []) ∧ Below w.heap.size w w' := by
  have Hp := Lib.hid hp; have Hg := Lib.hid hg; have Hl := Lib.hid hl
  clear hp hg hl
  have HT : Hid (thrE P K l dd = orE [ssE P K l, err (inB dd 0 100000) 6]) := Lib.hid rfl
  by_cases h0 : thrE P K l dd = 0
  · obtain ⟨h1, h2⟩ := orE2_0 (HT.out.symm.trans h0)
    have h40 := (ssE_0 h1).2.1
    have HE := Lib.hid h1; have HF := Lib.hid h2
    have HO : Hid (orE [0, 0] = 0) := Lib.hid rfl
    have HX : Hid ((if thrE P K l dd = 0 then thL l dd else []) = thL l dd) := Lib.hid (by rw [if_pos h0])
    have H0 := Lib.hid h0
    rw [HX.out, H0.out]
    clear h0 h1 h2 HT
    go_enter Tryz.func48, Tryz.ntmps48
    go_upto_region 1 with fail
    generalize hW : (World.alloc _ _) = W
    have HB : Hid (Below w.heap.size w W) := Lib.hid (by subst hW; go_grown)
    have KY : Bx W (w.heap.size) 25 [.slice A n c, .slice B m d] := by subst hW; repeat (first | (refine Bx.newAt _ _ _ ?_; first | rfl | (simp only [World.size_alloc]; done) | (simp only [World.size_alloc]; omega)) | refine Bx.old ?_ _)
    clear hW
    have KYl := KY.lt; have KYc := KY.get; have KYf := KY.fr
    go_wp2_with (first
      | (go_at_call 56; refine (checkStays_any _ _ _ P _ _ _ K _ _ _ l _ (Hp.out.keep HB.out) (Hg.out.keep HB.out) (Hl.out.keep HB.out)).mono ?_; rintro e X ⟨rfl, hbx⟩; rw [HE.out]; clear KYl KYc KYf; replace KY := KY.keep hbx; have KYl := KY.lt; have KYc := KY.get; have KYf := KY.fr; replace HB := Lib.hid (up HB.out hbx); clear hbx)
      | (go_at_call 108; refine (checkDay_any _ _).mono ?_; rintro e V ⟨rfl, rfl⟩; rw [HF.out])
      | (go_at_call 82; refine (Or_any _ _ _ [0, 0] _ (isC X 27 [0, 0] (by simp))).mono ?_; rintro e V ⟨rfl, rfl⟩; rw [HO.out]; replace HB := Lib.hid (up HB.out (up_alloc X (.cells ⟨ints [0, 0]⟩ 27))))
      | (go_at_call 109; refine (there_any L r s l dd _ (Hl.out.keep HB.out) (by omega)).mono ?_; rintro e V ⟨v, rfl, hO, hbv⟩; have HV := Lib.hid (hO.lst.mono HB.out.size); replace HB := Lib.hid (up HB.out hbv); clear hO hbv))
    go_ret2
    exact ⟨_, rfl, HV.out, HB.out⟩
  · have HX : Hid ((if thrE P K l dd = 0 then thL l dd else []) = []) := Lib.hid (by rw [if_neg h0])
    have hne : (thrE P K l dd != 0) = true := by simpa using h0
    rw [HX.out]
    clear h0 HX
    generalize hE : ssE P K l = E at *
    generalize hF : err (inB dd 0 100000) 6 = F at *
    have HE := Lib.hid hE; have HF := Lib.hid hF
    clear hE hF
    generalize thrE P K l dd = T at *
    go_enter Tryz.func48, Tryz.ntmps48
    go_upto_region 1 with fail
    generalize hW : (World.alloc _ _) = W
    have HB : Hid (Below w.heap.size w W) := Lib.hid (by subst hW; go_grown)
    have KY : Bx W (w.heap.size) 25 [.slice A n c, .slice B m d] := by subst hW; repeat (first | (refine Bx.newAt _ _ _ ?_; first | rfl | (simp only [World.size_alloc]; done) | (simp only [World.size_alloc]; omega)) | refine Bx.old ?_ _)
    clear hW
    have KYl := KY.lt; have KYc := KY.get; have KYf := KY.fr
    go_wp2_with (first
      | (go_at_call 56; refine (checkStays_any _ _ _ P _ _ _ K _ _ _ l _ (Hp.out.keep HB.out) (Hg.out.keep HB.out) (Hl.out.keep HB.out)).mono ?_; rintro e X ⟨rfl, hbx⟩; rw [HE.out]; clear KYl KYc KYf; replace KY := KY.keep hbx; have KYl := KY.lt; have KYc := KY.get; have KYf := KY.fr; replace HB := Lib.hid (up HB.out hbx); clear hbx)
      | (go_at_call 108; refine (checkDay_any _ _).mono ?_; rintro e V ⟨rfl, rfl⟩; rw [HF.out])
      | (go_at_call 82; refine (Or_any _ _ _ [E, F] _ (isC X 27 [E, F] (by simp))).mono ?_; rintro e V ⟨rfl, rfl⟩; rw [← HT.out]; replace HB := Lib.hid (up HB.out (up_alloc X (.cells ⟨ints [E, F]⟩ 27)))))
    go_ret2
    exact ⟨.slice none 0 0, rfl, Lst.nil _ _, HB.out⟩
theorem Eaten_any : Calls Tryz.prog 52 #[.agg #[.slice A n c, .slice B m d], .slice L r s, .int .i64 dd] w fun e w' => e = .returned (.tuple #[.int .i64 (if thrE P K l dd = 0 then eatL K l dd else 0), .int .i64 (thrE P K l dd)]) ∧ Below w.heap.size w w' := by
  have Hp := Lib.hid hp; have Hg := Lib.hid hg; have Hl := Lib.hid hl
  clear hp hg hl
  have HT : Hid (thrE P K l dd = orE [ssE P K l, err (inB dd 0 100000) 6]) := Lib.hid rfl
  by_cases h0 : thrE P K l dd = 0
  · obtain ⟨h1, h2⟩ := orE2_0 (HT.out.symm.trans h0)
    obtain ⟨hy, h40, hss⟩ := ssE_0 h1
    have Hss := Lib.hid hss
    have HK := Lib.hid (yOk_k hy).2.2
    have hd := inB_iff.1 (err_0 h2 (by decide))
    have HE := Lib.hid h1; have HF := Lib.hid h2
    have HO : Hid (orE [0, 0] = 0) := Lib.hid rfl
    have HX : Hid ((if thrE P K l dd = 0 then eatL K l dd else 0) = eatL K l dd) := Lib.hid (by rw [if_pos h0])
    have H0 := Lib.hid h0
    rw [HX.out, H0.out]
    clear h0 h1 h2 HT hss hy
    go_enter Tryz.func52, Tryz.ntmps52
    go_upto_region 1 with fail
    generalize hW : (World.alloc _ _) = W
    have HB : Hid (Below w.heap.size w W) := Lib.hid (by subst hW; go_grown)
    have KY : Bx W (w.heap.size) 25 [.slice A n c, .slice B m d] := by subst hW; repeat (first | (refine Bx.newAt _ _ _ ?_; first | rfl | (simp only [World.size_alloc]; done) | (simp only [World.size_alloc]; omega)) | refine Bx.old ?_ _)
    clear hW
    have KYl := KY.lt; have KYc := KY.get; have KYf := KY.fr
    go_wp2_with (first
      | (go_at_call 56; refine (checkStays_any _ _ _ P _ _ _ K _ _ _ l _ (Hp.out.keep HB.out) (Hg.out.keep HB.out) (Hl.out.keep HB.out)).mono ?_; rintro e X ⟨rfl, hbx⟩; rw [HE.out]; clear KYl KYc KYf; replace KY := KY.keep hbx; have KYl := KY.lt; have KYc := KY.get; have KYf := KY.fr; replace HB := Lib.hid (up HB.out hbx); clear hbx)
      | (go_at_call 108; refine (checkDay_any _ _).mono ?_; rintro e V ⟨rfl, rfl⟩; rw [HF.out])
      | (go_at_call 82; have hba := up_alloc X (.cells ⟨ints [0, 0]⟩ 27); refine (Or_any _ _ _ [0, 0] _ (isC X 27 [0, 0] (by simp))).mono ?_; rintro e V ⟨rfl, rfl⟩; rw [HO.out]; clear KYl KYc KYf; replace KY := KY.keep hba; have KYl := KY.lt; have KYc := KY.get; have KYf := KY.fr; replace HB := Lib.hid (up HB.out hba); clear hba)
      | (go_at_call 116; refine (eatenP_any A n c B m d K L r s l dd _ (Hg.out.keep HB.out) (Hl.out.keep HB.out) HK.out Hss.out h40 hd).mono ?_; rintro e V ⟨rfl, hbv⟩; replace HB := Lib.hid (up HB.out hbv); clear hbv))
    go_ret2
    exact ⟨rfl, HB.out⟩
  · have HX : Hid ((if thrE P K l dd = 0 then eatL K l dd else 0) = 0) := Lib.hid (by rw [if_neg h0])
    have hne : (thrE P K l dd != 0) = true := by simpa using h0
    rw [HX.out]
    clear h0 HX
    generalize hE : ssE P K l = E at *
    generalize hF : err (inB dd 0 100000) 6 = F at *
    have HE := Lib.hid hE; have HF := Lib.hid hF
    clear hE hF
    generalize thrE P K l dd = T at *
    go_enter Tryz.func52, Tryz.ntmps52
    go_upto_region 1 with fail
    generalize hW : (World.alloc _ _) = W
    have HB : Hid (Below w.heap.size w W) := Lib.hid (by subst hW; go_grown)
    have KY : Bx W (w.heap.size) 25 [.slice A n c, .slice B m d] := by subst hW; repeat (first | (refine Bx.newAt _ _ _ ?_; first | rfl | (simp only [World.size_alloc]; done) | (simp only [World.size_alloc]; omega)) | refine Bx.old ?_ _)
    clear hW
    have KYl := KY.lt; have KYc := KY.get; have KYf := KY.fr
    go_wp2_with (first
      | (go_at_call 56; refine (checkStays_any _ _ _ P _ _ _ K _ _ _ l _ (Hp.out.keep HB.out) (Hg.out.keep HB.out) (Hl.out.keep HB.out)).mono ?_; rintro e X ⟨rfl, hbx⟩; rw [HE.out]; clear KYl KYc KYf; replace KY := KY.keep hbx; have KYl := KY.lt; have KYc := KY.get; have KYf := KY.fr; replace HB := Lib.hid (up HB.out hbx); clear hbx)
      | (go_at_call 108; refine (checkDay_any _ _).mono ?_; rintro e V ⟨rfl, rfl⟩; rw [HF.out])
      | (go_at_call 82; refine (Or_any _ _ _ [E, F] _ (isC X 27 [E, F] (by simp))).mono ?_; rintro e V ⟨rfl, rfl⟩; rw [← HT.out]; replace HB := Lib.hid (up HB.out (up_alloc X (.cells ⟨ints [E, F]⟩ 27)))))
    go_ret2
    exact ⟨rfl, HB.out⟩
end
end Go.Proofs.YtollccpghhgpfaaGreat

namespace Go.Proofs.YtollccpghhgpfaaGreat
open Go Go.RowKit
set_option maxHeartbeats 2000000
set_option maxRecDepth 100000

/-- The first pen from i on, of f, in which the beast may stand. -/
def addK (ap st : List Int) (k : Kd) : Nat → Nat → Option Nat
  | 0, _ => none
  | f + 1, i => if fullS ap st k i = true then addK ap st k f (i + 1) else some i
def adS (P : List Int) (K : List Kd) (l p : List Int) : List Int := (standS P (apL K) (bsL K l) p).getD ap0
def adP (P : List Int) (K : List Kd) (l p : List Int) (s : Int) : Option Nat := addK (apL K) (adS P K l p) (kdD K s) P.length 0
def adT (P : List Int) (K : List Kd) (l p : List Int) (s : Int) : Int := orE [plE P K l p, err (kdI K s) 51, err (decide ((l.length : Int) < 8)) 2]
def adV (P : List Int) (K : List Kd) (l p : List Int) (s : Int) : Int := if adT P K l p s = 0 then (((adP P K l p s).getD 0 : Nat) : Int) else 0
def adE (P : List Int) (K : List Kd) (l p : List Int) (s : Int) : Int := if adT P K l p s = 0 then (if (adP P K l p s).isSome = true then 0 else 53) else adT P K l p s
theorem orE3_0 {a b c : Int} (h : orE [a, b, c] = 0) : a = 0 ∧ b = 0 ∧ c = 0 := by
  unfold orE at h
  split at h
  · rename_i h1; exact ⟨h1, orE2_0 h⟩
  · exact absurd h (by assumption)
theorem placed_gen (A : Option Addr) (n c : Nat) (P : List Int) (B : Option Addr) (m d : Nat) (K : List Kd) (L : Option Addr) (r s : Nat) (l : List Int) (C : Option Addr) (u v : Nat) (p : List Int) (w : World)
    (hp : Is w A n P) (hg : Ks w B m K) (hl : Is w L r l) (hc : Is w C u p) :
    Calls Tryz.prog 79 #[.agg #[.slice A n c, .slice B m d], .slice L r s, .slice C u v] w fun e w' => ∃ (A' : Option Addr) (n' c' : Nat) (B' : Option Addr) (m' d' : Nat) (ap st : List Int), ap.length = 10 ∧ st.length = 10 ∧ e = .returned (.tuple #[.agg ⟨ldL A' n' c' (.slice B' m' d') ap⟩, .agg ⟨ints st⟩, .int .i64 (plE P K l p)]) ∧ Below w.heap.size w w' := by
  by_cases h : plE P K l p = 0
  · obtain ⟨h0, st, hS⟩ := plE_ok h
    obtain ⟨hy, h8, hlo⟩ := sE_0 h0
    obtain ⟨h5, hP, hK⟩ := yOk_k hy
    obtain ⟨hpl, -⟩ := standS_in hS
    have hst10 : st.length = 10 := by
      have := hS
      rw [standS_eq hpl] at this
      exact (standK_ok hP (bsL_good hK hlo) _ _ (by omega) this).1
    rw [h]
    refine (placed_ok A n c P B m d K L r s l C u v p w hp hg hl hc h0 hS).mono ?_
    rintro e w' ⟨B', c', rfl, _, _, hb⟩
    exact ⟨_, _, _, _, _, _, _, _, apL_len K, hst10, rfl, hb⟩
  · refine (placed_bad A n c P B m d K L r s l C u v p w hp hg hl hc h).mono ?_
    rintro e w' ⟨rfl, hb⟩
    exact ⟨_, _, _, _, _, _, _, _, rfl, rfl, rfl, hb⟩

theorem Add_any (A : Option Addr) (n c : Nat) (P : List Int) (B : Option Addr) (m d : Nat) (K : List Kd) (L : Option Addr) (r s : Nat) (l : List Int) (C : Option Addr) (u v : Nat) (p : List Int) (x : Int) (w : World)
    (hp : Is w A n P) (hg : Ks w B m K) (hl : Is w L r l) (hc : Is w C u p) :
    Calls Tryz.prog 34 #[.agg #[.slice A n c, .slice B m d], .slice L r s, .slice C u v, .int .i64 x] w fun e w' => e = .returned (.tuple #[.int .i64 (adV P K l p x), .int .i64 (adE P K l p x)]) ∧ Below w.heap.size w w' := by
  have Hr : Hid (r = l.length) := Lib.hid hl.len
  have hrx := hl.small
  have Hp := Lib.hid hp; have Hg := Lib.hid hg; have Hl := Lib.hid hl; have Hc := Lib.hid hc
  have Hn : Hid (n = P.length) := Lib.hid hp.len
  have HT : Hid (adT P K l p x = orE [plE P K l p, err (kdI K x) 51, err (decide ((l.length : Int) < 8)) 2]) := Lib.hid rfl
  clear hp hg hl hc
  by_cases h0 : adT P K l p x = 0
  rotate_left
  · have hne : (adT P K l p x != 0) = true := by simpa using h0
    have HV : Hid (adV P K l p x = 0) := Lib.hid (by unfold adV; rw [if_neg h0])
    have HE0 : Hid (adE P K l p x = adT P K l p x) := Lib.hid (by unfold adE; rw [if_neg h0])
    rw [HV.out, HE0.out]
    clear h0 HV HE0
    have HPl : Hid (∀ W, Below w.heap.size w W → Calls Tryz.prog 79 #[.agg #[.slice A n c, .slice B m d], .slice L r s, .slice C u v] W fun e w' => ∃ (A' : Option Addr) (n' c' : Nat) (B' : Option Addr) (m' d' : Nat) (ap st : List Int), ap.length = 10 ∧ st.length = 10 ∧ e = .returned (.tuple #[.agg ⟨ldL A' n' c' (.slice B' m' d') ap⟩, .agg ⟨ints st⟩, .int .i64 (plE P K l p)]) ∧ Below W.heap.size W w') := Lib.hid (fun W hW => placed_gen A n c P B m d K L r s l C u v p W (Hp.out.keep hW) (Hg.out.keep hW) (Hl.out.keep hW) (Hc.out.keep hW))
    have HF0 : Hid (err (lOk K [x]) 51 = err (kdI K x) 51) := Lib.hid (by rw [lOk1])
    have HG0 : Hid (err (decide ((r : Int) < 8)) 2 = err (decide ((l.length : Int) < 8)) 2) := Lib.hid (by rw [Hr.out])
    generalize plE P K l p = E at *
    generalize err (kdI K x) 51 = F at *
    generalize err (decide ((l.length : Int) < 8)) 2 = G at *
    generalize adT P K l p x = T at *
    go_enter Tryz.func34, Tryz.ntmps34
    go_upto_region 1 with fail
    generalize hW : (World.alloc _ _) = W
    have HB : Hid (Below w.heap.size w W) := Lib.hid (by subst hW; go_grown)
    have KY : Bx W (w.heap.size) 25 [.slice A n c, .slice B m d] := by subst hW; repeat (first | (refine Bx.newAt _ _ _ ?_; first | rfl | (simp only [World.size_alloc]; done) | (simp only [World.size_alloc]; omega)) | refine Bx.old ?_ _)
    clear hW
    have KYl := KY.lt; have KYc := KY.get; have KYf := KY.fr
    go_upto_region 2 with (first
      | (go_at_call 79; refine (HPl.out _ HB.out).mono ?_; rintro e X ⟨A', n', c', B', m', d', ap, st, hap, hst, rfl, hbx⟩; clear KYl KYc KYf; replace KY := KY.keep hbx; have KYl := KY.lt; have KYc := KY.get; have KYf := KY.fr; replace HB := Lib.hid (up HB.out hbx); clear hbx)
      | (refine wpList_put 83 10 24 rfl rfl (Bx.old (Bx.new X _ 83) _) rfl rfl (sL83 hap) (sLo hap) ldL_one ?_; intro U KU hp; have KI : Bx U (X.heap.size + 1) 107 (ints ap0) := (Bx.newAt _ _ _ (by rw [World.size_alloc])).put hp (by omega); have hbu := upP ((up_alloc X _).trans ((up_alloc _ _).mono (by rw [World.size_alloc]; omega))) hp (by omega); have KIl := KI.lt; have KIc := KI.get; have KIf := KI.fr)
      | (refine wpList_put 107 11 25 rfl rfl KI rfl rfl (sI107 hst) (sIo hst) (ints_one _) ?_; intro U2 KI2 hp2; have hbu2 := upP hbu hp2 (by omega); clear KI KIl KIc KIf KU hbu hp2 KI2; clear KYl KYc KYf; replace KY := KY.keep hbu2; have KYl := KY.lt; have KYc := KY.get; have KYf := KY.fr; replace HB := Lib.hid (up HB.out hbu2); clear hbu2))
    have hba := up_alloc U2 (.cells #[.int .i64 x] 3)
    have HL : Hid (Is (U2.alloc (.cells #[.int .i64 x] 3)) (some ⟨U2.heap.size, 0, none⟩) 1 [x]) := Lib.hid (isC U2 3 [x] (by simp))
    have HG2 := Lib.hid ((Hg.out.keep HB.out).keep hba)
    have HBa := Lib.hid (up HB.out hba)
    clear hba
    go_wp2_with (first
      | (go_at_call 66; refine (checkKinds_any A n c B m d K _ 1 1 [x] _ HG2.out HL.out).mono ?_; rintro e V ⟨rfl, hbv⟩; rw [HF0.out]; have HBV := Lib.hid (up HBa.out hbv); clear hbv)
      | (go_at_call 76; refine (unless_any _ _ _).mono ?_; rintro e w' ⟨rfl, rfl⟩; rw [HG0.out])
      | (go_at_call 82; refine (Or_any _ _ _ [E, F, G] _ (isC V 27 [E, F, G] (by simp))).mono ?_; rintro e V3 ⟨rfl, rfl⟩; rw [← HT.out]; have HBZ := Lib.hid (up HBV.out (up_alloc V (.cells ⟨ints [E, F, G]⟩ 27)))))
    go_ret2
    exact ⟨rfl, HBZ.out⟩
  · obtain ⟨h1, h2, h3⟩ := orE3_0 (HT.out.symm.trans h0)
    obtain ⟨hs0, st, hst⟩ := plE_ok h1
    obtain ⟨hpl, -⟩ := standS_in hst
    obtain ⟨hy, h8, hlo⟩ := sE_0 hs0
    obtain ⟨h5, hP, hK⟩ := yOk_k hy
    have hap := apL_len K
    have hst2 := hst
    rw [standS_eq hpl] at hst2
    obtain ⟨hst10, hsm⟩ := standK_ok hP (bsL_good hK hlo) _ _ (by omega) hst2
    have hki := err_0 h2 (by decide)
    have HAd : Hid (adP P K l p x = addK (apL K) st (kdD K x) P.length 0) := Lib.hid (by unfold adP adS; rw [hst]; rfl)
    have HV : Hid (adV P K l p x = (((adP P K l p x).getD 0 : Nat) : Int)) := Lib.hid (by unfold adV; rw [if_pos h0])
    have HE0 : Hid (adE P K l p x = if (adP P K l p x).isSome = true then 0 else 53) := Lib.hid (by unfold adE; rw [if_pos h0])
    have HF0 : Hid (err (lOk K [x]) 51 = 0) := Lib.hid (by rw [lOk1, hki]; rfl)
    have HG0 : Hid (err (decide ((r : Int) < 8)) 2 = 0) := Lib.hid (by rw [Hr.out]; exact h3)
    have HOr : Hid (orE [0, 0, 0] = 0) := Lib.hid rfl
    have Hsm := Lib.hid hsm
    have hn5 : n ≤ 5 := by rw [Hn.out]; exact h5
    have hkd : (1 ≤ (kdD K x).s ∧ (kdD K x).s ≤ 9) ∧ (0 ≤ (kdD K x).r ∧ (kdD K x).r ≤ 1000) := by
      cases hk : kd? K x with
      | none => rw [(kdD_none hk).2] at hki; cases hki
      | some q =>
        rw [(kdD_some hk).1]
        have := kdOk_iff.1 (ksOk_kd hK q (kd_mem hk).1)
        omega
    have HS0 := Lib.hid hs0; have HSt := Lib.hid hst
    clear HT h0 h1 h2 h3 hs0 hst hst2 hpl hy h8 hlo hP hK hsm hki
    generalize adP P K l p x = AD at *
    go_enter Tryz.func34, Tryz.ntmps34
    go_upto_region 1 with fail
    generalize hW : (World.alloc _ _) = W
    have HB : Hid (Below w.heap.size w W) := Lib.hid (by subst hW; go_grown)
    have KY : Bx W (w.heap.size) 25 [.slice A n c, .slice B m d] := by subst hW; repeat (first | (refine Bx.newAt _ _ _ ?_; first | rfl | (simp only [World.size_alloc]; done) | (simp only [World.size_alloc]; omega)) | refine Bx.old ?_ _)
    clear hW
    have KYl := KY.lt; have KYc := KY.get; have KYf := KY.fr
    go_upto_region 2 with (first
      | (go_at_call 79; refine (placed_ok A n c P B m d K L r s l C u v p _ (Hp.out.keep HB.out) (Hg.out.keep HB.out) (Hl.out.keep HB.out) (Hc.out.keep HB.out) HS0.out HSt.out).mono ?_; rintro e X ⟨B', c', rfl, hlc, hks, hbx⟩; have hwx := KY.lt; have hxs := hbx.size; clear hks; clear KYl KYc KYf; replace KY := KY.keep hbx; have KYl := KY.lt; have KYc := KY.get; have KYf := KY.fr; replace HB := Lib.hid (up HB.out hbx); clear hbx)
      | (refine wpList_put 83 10 24 rfl rfl (Bx.old (Bx.new X _ 83) _) rfl rfl (sL83 hap) (sLo hap) ldL_one ?_; intro U KU hp; have KI : Bx U (X.heap.size + 1) 107 (ints ap0) := (Bx.newAt _ _ _ (by rw [World.size_alloc])).put hp (by omega); have hbu := upP ((up_alloc X _).trans ((up_alloc _ _).mono (by rw [World.size_alloc]; omega))) hp (by omega); have KIl := KI.lt; have KIc := KI.get; have KIf := KI.fr)
      | (refine wpList_put 107 11 25 rfl rfl KI rfl rfl (sI107 hst10) (sIo hst10) (ints_one _) ?_; intro U2 KI2 hp2; have KU2 := KU.put hp2 (by omega); have hbu2 := upP hbu hp2 (by omega); clear KI KIl KIc KIf KU hbu hp2; clear KYl KYc KYf; replace KY := KY.keep hbu2; have KYl := KY.lt; have KYc := KY.get; have KYf := KY.fr; replace HB := Lib.hid (up HB.out hbu2); clear hbu2))
    have hba := up_alloc U2 (.cells #[.int .i64 x] 3)
    have HL : Hid (Is (U2.alloc (.cells #[.int .i64 x] 3)) (some ⟨U2.heap.size, 0, none⟩) 1 [x]) := Lib.hid (isC U2 3 [x] (by simp))
    have HG2 := Lib.hid ((Hg.out.keep HB.out).keep hba)
    have HBa := Lib.hid (up HB.out hba)
    have KYa := KY.keep hba; have KUa := KU2.keep hba; have KIa := KI2.keep hba
    clear hba KU2 KI2
    go_upto_region 5 with (first
      | (go_at_call 66; refine (checkKinds_any A n c B m d K _ 1 1 [x] _ HG2.out HL.out).mono ?_; rintro e V ⟨rfl, hbv⟩; rw [HF0.out]; have HBV := Lib.hid (up HBa.out hbv); have KYV := KYa.keep hbv; have KUV := KUa.keep hbv; have KIV := KIa.keep hbv; have HG3 := Lib.hid (HG2.out.keep hbv); clear hbv KY KYl KYc KYf KYa KUa KIa HG2)
      | (go_at_call 76; refine (unless_any _ _ _).mono ?_; rintro e w' ⟨rfl, rfl⟩; rw [HG0.out])
      | (go_at_call 82; have hbo := up_alloc V (.cells ⟨ints [0, 0, 0]⟩ 27); refine (Or_any _ _ _ [0, 0, 0] _ (isC V 27 [0, 0, 0] (by simp))).mono ?_; rintro e V3 ⟨rfl, rfl⟩; rw [HOr.out]; have HBZ := Lib.hid (up HBV.out hbo); have KYZ := KYV.keep hbo; have KUZ := KUV.keep hbo; have KIZ := KIV.keep hbo; have HGZ := Lib.hid (HG3.out.keep hbo); clear hbo KYV KUV KIV HG3; have KYZl := KYZ.lt; have KYZc := KYZ.get; have KYZf := KYZ.fr))
    generalize V.alloc (.cells ⟨ints [0, 0, 0]⟩ 27) = Z at *
    generalize hkq : kdD K x = q at *
    have Hkq := Lib.hid hkq
    clear hkq HL HBa HBV
    go_wp2_with (first
      | (go_at_call 84; refine (kindOf_any A n c B m d K x _ HGZ.out).mono ?_; rw [Hkq.out]; rintro e Y ⟨rfl, hby⟩; have HBY := Lib.hid (up HBZ.out hby); have KYY := KYZ.keep hby; have KUY := KUZ.keep hby; have KIY := KIZ.keep hby; clear hby KYZ KYZl KYZc KYZf KUZ KIZ HGZ)
      | (refine wpList_putNew 72 14 45 rfl rfl rfl rfl (by kernel_rfl) rfl (by simp [Value.oneCell']) ?_; intro T KK hbt hst; have HBT := Lib.hid (up HBY.out hbt); have KYT := KYY.keep hbt; have KUT := KUY.keep hbt; have KIT := KIY.keep hbt; clear hbt KYY KUY KIY; have KYTl := KYT.lt; have KYTc := KYT.get; have KYTf := KYT.fr))
    clear KYTl KYTc KYTf KYT
    have hTs : Y.heap.size < T.heap.size := KK.lt
    go_loopw [50] (fun i wr => ∃ (k : Nat), k ≤ n ∧ i = .int .i64 k ∧ Below w.heap.size w wr ∧ Bx wr X.heap.size 83 (ldL A n c (.slice B' l.length c') (apL K)) ∧ Bx wr (X.heap.size + 1) 107 (ints st) ∧ Bx wr Y.heap.size 72 [.int .i64 q.s, .int .i64 q.r, .int .i64 q.e, .int .i64 q.a] ∧ addK (apL K) st q (n - k) k = AD) (fun i _ => n - (intOf i).toNat)
    case atStart => exact ⟨0, by omega, rfl, HBT.out, KUT, KIT, KK, by rw [HAd.out, Hn.out]; rfl⟩
    case round =>
      clear KUT KIT KK HBT HAd
      obtain ⟨k, hk, rfl, hb, KU, KI, KK, hp⟩ := hrel
      have HB2 := Lib.hid hb; have Hp2 := Lib.hid hp
      clear hb hp
      by_cases hlt : k < n
      · have hk5 : k < 5 := by omega
        have HK : Hid (addK (apL K) st q (n - k) k = if fullS (apL K) st q k = true then addK (apL K) st q (n - (k + 1)) (k + 1) else some k) := Lib.hid (by rw [show n - k = (n - (k + 1)) + 1 by omega]; rfl)
        have hsmk := Hsm.out k hk5
        cases hF : fullS (apL K) st q k
        · have HF := Lib.hid hF
          have HA2 : Hid (AD = some k) := Lib.hid (by rw [← Hp2.out, HK.out, hF]; rfl)
          have hadl : (addS st q k).length = 10 := by rw [addS_len]; exact hst10
          clear hF HK
          go_wp2_with (first
            | (refine wpList_get 83 10 rfl rfl KU rfl Tryz.underlying83 rfl (sL83' hap) ?_)
            | (refine wpList_get 107 11 rfl rfl KI rfl Tryz.underlying107 rfl (sI107' hst10) ?_)
            | (refine wpList_get 72 14 rfl rfl KK rfl Tryz.underlying72 rfl (by kernel_rfl) ?_)
            | (go_at_call 85; refine (put_ok A n c B' l.length c' (apL K) st q k _ hap hst10 hk5 hkd.1 hkd.2 (by omega) HF.out).mono ?_; rintro e R ⟨rfl, hbr⟩; have HBR := Lib.hid (up HB2.out hbr); clear hbr)
            | (refine wpList_putNew 107 17 59 rfl rfl rfl rfl (sI107 hadl) (sIo hadl) (ints_one _) ?_; intro T2 KN hbt hst; have HBT2 := Lib.hid (up HBR.out hbt); clear hbt))
          go_ret2
          exact ⟨by rw [HV.out, HE0.out, HA2.out]; rfl, HBT2.out⟩
        · have HF := Lib.hid hF
          have HA2 : Hid (addK (apL K) st q (n - (k + 1)) (k + 1) = AD) := Lib.hid (by rw [← Hp2.out, HK.out, hF]; rfl)
          clear hF HK
          go_wp2_with (first
            | (refine wpList_get 83 10 rfl rfl KU rfl Tryz.underlying83 rfl (sL83' hap) ?_)
            | (refine wpList_get 107 11 rfl rfl KI rfl Tryz.underlying107 rfl (sI107' hst10) ?_)
            | (refine wpList_get 72 14 rfl rfl KK rfl Tryz.underlying72 rfl (by kernel_rfl) ?_)
            | (go_at_call 85; refine (put_no A n c B' l.length c' (apL K) st q k _ hap hst10 hk5 hkd.1 HF.out).mono ?_; rintro e R ⟨rfl, hbr⟩; have HBR := Lib.hid (up HB2.out hbr); have KUR := KU.keep hbr; have KIR := KI.keep hbr; have KKR := KK.keep hbr; clear hbr)
            | (refine wpList_putNew 107 17 59 rfl rfl rfl rfl (sI107 (l := ap0) rfl) (sIo (l := ap0) rfl) (ints_one _) ?_; intro T2 KN hbt hst; have HBT2 := Lib.hid (up HBR.out hbt); have KUT := KUR.keep hbt; have KIT := KIR.keep hbt; have KKT := KKR.keep hbt; clear hbt))
          exact ⟨⟨k + 1, by omega, by go_num, HBT2.out, KUT, KIT, KKT, HA2.out⟩, by simp [intOf]; omega⟩
      · obtain rfl : k = n := by omega
        have HA2 : Hid (AD = none) := Lib.hid (by rw [← Hp2.out, Nat.sub_self]; rfl)
        go_wp2
        go_ret2
        exact ⟨by rw [HV.out, HE0.out, HA2.out]; rfl, HB2.out⟩
end Go.Proofs.YtollccpghhgpfaaGreat

namespace Go.Proofs.YtollccpghhgpfaaGreat
open Go Go.RowKit
set_option maxHeartbeats 2000000
set_option maxRecDepth 100000

theorem eatR_mono {K : List Kd} (hK : ksOk K = true) (x : St) {a b : Int} (h : a ≤ b) : eatR K x a ≤ eatR K x b := by
  have h2 := kdD_e hK x.s
  unfold eatR
  refine Int.mul_le_mul_of_nonneg_left ?_ h2.1
  unfold lastD
  split <;> omega
theorem eatK_mono {K : List Kd} (hK : ksOk K = true) (l : List St) {a b : Int} (h : a ≤ b) : ∀ k, eatK K l a k ≤ eatK K l b k := by
  intro k
  induction k with
  | zero => exact Int.le_refl _
  | succ k ih => rw [eatK, eatK]; have := eatR_mono hK (l.getD k st00) h; omega
theorem eatL_mono {K : List Kd} (hK : ksOk K = true) (l : List St) {a b : Int} (h : a ≤ b) : eatL K l a ≤ eatL K l b := eatK_mono hK l h _
/-- The last day for which fodder lasts, and its error. -/
def LasP (K : List Kd) (l : List St) (f v e : Int) : Prop := (e = 3 ∧ v = 0 ∧ f < eatL K l 0) ∨ (e = 0 ∧ (0 ≤ v ∧ v ≤ 100000) ∧ eatL K l v ≤ f ∧ (v < 100000 → f < eatL K l (v + 1)))
theorem LasP.one {K : List Kd} {l : List St} {f v e v2 e2 : Int} (hK : ksOk K = true) (h : LasP K l f v e) (h2 : LasP K l f v2 e2) : v = v2 ∧ e = e2 := by
  rcases h with ⟨rfl, rfl, h⟩ | ⟨rfl, hv, ha, hb⟩ <;> rcases h2 with ⟨rfl, rfl, h2⟩ | ⟨rfl, hv2, ha2, hb2⟩
  · exact ⟨rfl, rfl⟩
  · have := eatL_mono hK l (a := 0) (b := v2) hv2.1; omega
  · have := eatL_mono hK l (a := 0) (b := v) hv.1; omega
  · refine ⟨?_, rfl⟩
    rcases Int.lt_trichotomy v v2 with h3 | h3 | h3
    · have := eatL_mono hK l (a := v + 1) (b := v2) (by omega); have := hb (by omega); omega
    · exact h3
    · have := eatL_mono hK l (a := v2 + 1) (b := v) (by omega); have := hb2 (by omega); omega

theorem lasts1_any (A : Option Addr) (n c : Nat) (B : Option Addr) (m d : Nat) (K : List Kd) (L : Option Addr) (r s : Nat) (l : List St) (f : Int) (i q1 q2 q3 : Nat) (w : World) (hg : Ks w B m K) (hl : Ss w L r l) (hK : ksOk K = true) (hs : ssOk K l = true) (h40 : l.length ≤ 40) (hi : i < 100001)
    (k1 : Bx w q1 25 [.slice A n c, .slice B m d]) (k2 : Bx w q2 58 [.slice L r s]) (k3 : Bx w q3 3 [.int .i64 f]) :
    Calls Tryz.prog 120 #[.int .i64 (i : Int), .pointer (some ⟨q1, 0, none⟩), .pointer (some ⟨q2, 0, none⟩), .pointer (some ⟨q3, 0, none⟩)] w fun e w' => e = .returned (.bool (decide (f < eatL K l (i : Int)))) ∧ Below w.heap.size w w' := by
  have HE : Hid (∀ z, Calls Tryz.prog 116 #[.agg #[.slice A n c, .slice B m d], .slice L r s, .int .i64 (i : Int)] (grow w z) fun e w' => e = .returned (.int .i64 (eatL K l (i : Int))) ∧ Below (grow w z).heap.size (grow w z) w') :=
    Lib.hid (fun z => eatenP_any A n c B m d K L r s l (i : Int) (grow w z) (hg.keep (grow_below w z)) (hl.keep (grow_below w z)) hK hs h40 (by omega))
  generalize eatL K l (i : Int) = E at *
  clear hg hl hK hs
  have k1l := k1.lt; have k1c := k1.get; have k1f := k1.fr; have k2l := k2.lt; have k2c := k2.get; have k2f := k2.fr; have k3l := k3.lt; have k3c := k3.get; have k3f := k3.fr
  go_enter Tryz.func120, Tryz.ntmps120
  go_upto_region 1 with fail
  refine wp_region_grow (by kernel_rfl) (by kernel_rfl) ?_
  repeat (go_big_quiet_step (((go_at_call 116; exact quiet_grow rfl (HE.out _)))))
  refine wpQuiet_nil ?_
  intro z
  have hB := grow_below w z
  generalize grow w z = V at *
  clear k1l k1c k1f k2l k2c k2f k3l k3c k3f
  go_wp2
  go_ret
  exact ⟨rfl, hB⟩

theorem Lasts_any (A : Option Addr) (n c : Nat) (P : List Int) (B : Option Addr) (m d : Nat) (K : List Kd) (L : Option Addr) (r s : Nat) (l : List St) (f : Int) (w : World) (hp : Is w A n P) (hg : Ks w B m K) (hl : Ss w L r l) :
    Calls Tryz.prog 54 #[.agg #[.slice A n c, .slice B m d], .slice L r s, .int .i64 f] w fun e w' => ∃ v x, e = .returned (.tuple #[.int .i64 v, .int .i64 x]) ∧ ((lasE P K l f ≠ 0 ∧ v = 0 ∧ x = lasE P K l f) ∨ (lasE P K l f = 0 ∧ LasP K l f v x)) ∧ Below w.heap.size w w' := by
  have Hp := Lib.hid hp; have Hg := Lib.hid hg; have Hl := Lib.hid hl
  clear hp hg hl
  have HT : Hid (lasE P K l f = orE [ssE P K l, err (inB f 0 1000000000000) 1]) := Lib.hid rfl
  generalize hE : ssE P K l = E at *
  generalize hF : err (inB f 0 1000000000000) 1 = F at *
  have HE := Lib.hid hE; have HF := Lib.hid hF
  clear hE hF
  have HS : Hid (∀ W, Below w.heap.size w W → Calls Tryz.prog 56 #[.agg #[.slice A n c, .slice B m d], .slice L r s] W fun e w' => e = .returned (.int .i64 E) ∧ Below W.heap.size W w') := Lib.hid (fun W hW => by
    rw [← HE.out]; exact checkStays_any A n c P B m d K L r s l W (Hp.out.keep hW) (Hg.out.keep hW) (Hl.out.keep hW))
  have HD : Hid (∀ W, Calls Tryz.prog 118 #[.int .i64 f] W fun e w' => e = .returned (.int .i64 F) ∧ Below W.heap.size W w') := Lib.hid (fun W => by
    rw [← HF.out]; exact still_grow (checkFodder_any f W))
  by_cases h0 : lasE P K l f = 0
  rotate_left
  · have hne : (lasE P K l f != 0) = true := by simpa using h0
    have Hn := Lib.hid h0
    clear h0
    generalize lasE P K l f = T at *
    go_enter Tryz.func54, Tryz.ntmps54
    go_upto_region 1 with fail
    generalize hW : (World.alloc _ _) = W
    have HB : Hid (Below w.heap.size w W) := Lib.hid (by subst hW; go_grown)
    have KY : Bx W (w.heap.size) 25 [.slice A n c, .slice B m d] := by subst hW; repeat (first | (refine Bx.newAt _ _ _ ?_; first | rfl | (simp only [World.size_alloc]; done) | (simp only [World.size_alloc]; omega)) | refine Bx.old ?_ _)
    have KS : Bx W (w.heap.size + 1) 58 [.slice L r s] := by subst hW; repeat (first | (refine Bx.newAt _ _ _ ?_; first | rfl | (simp only [World.size_alloc]; done) | (simp only [World.size_alloc]; omega)) | refine Bx.old ?_ _)
    have KF : Bx W (w.heap.size + 1 + 1) 3 [.int .i64 f] := by subst hW; repeat (first | (refine Bx.newAt _ _ _ ?_; first | rfl | (simp only [World.size_alloc]; done) | (simp only [World.size_alloc]; omega)) | refine Bx.old ?_ _)
    clear hW
    have KYl := KY.lt; have KYc := KY.get; have KYf := KY.fr; have KSl := KS.lt; have KSc := KS.get; have KSf := KS.fr; have KFl := KF.lt; have KFc := KF.get; have KFf := KF.fr
    refine wp_region_grow_tail 5 (by kernel_rfl) (by kernel_rfl) ?_
    simp only [List.take_succ_cons, List.take_zero, List.drop_succ_cons, List.drop_zero]
    repeat (go_big_quiet_step ((first | (go_at_call 56; exact quiet_grow rfl (HS.out _ (HB.out.trans ((grow_below W _).mono HB.out.size)))) | (go_at_call 118; exact quiet_grow rfl (HD.out _)))))
    refine wpQuiet_nil ?_
    intro z
    have hbz := grow_below W z
    generalize grow W z = X at *
    replace HB := Lib.hid (up HB.out hbz)
    clear hbz KYl KYc KYf KSl KSc KSf KFl KFc KFf
    go_wp2_with (go_at_call 82; refine (Or_any _ _ _ [E, F] _ (isC X 27 [E, F] (by simp))).mono ?_; rintro e V ⟨rfl, rfl⟩; rw [← HT.out]; replace HB := Lib.hid (up HB.out (up_alloc X (.cells ⟨ints [E, F]⟩ 27))))
    go_ret2
    exact ⟨0, T, rfl, .inl ⟨Hn.out, rfl, rfl⟩, HB.out⟩
  · obtain ⟨h1, h2⟩ := orE2_0 (HT.out.symm.trans h0)
    obtain ⟨hy, h40, hss⟩ := ssE_0 (HE.out.trans h1)
    have Hss := Lib.hid hss
    have HK := Lib.hid (yOk_k hy).2.2
    have HO : Hid (orE [E, F] = 0) := Lib.hid (by rw [h1, h2]; rfl)
    have H0 := Lib.hid h0
    clear h0 h1 h2 hss hy HT HE HF
    go_enter Tryz.func54, Tryz.ntmps54
    go_upto_region 1 with fail
    generalize hW : (World.alloc _ _) = W
    have HB : Hid (Below w.heap.size w W) := Lib.hid (by subst hW; go_grown)
    have KY : Bx W (w.heap.size) 25 [.slice A n c, .slice B m d] := by subst hW; repeat (first | (refine Bx.newAt _ _ _ ?_; first | rfl | (simp only [World.size_alloc]; done) | (simp only [World.size_alloc]; omega)) | refine Bx.old ?_ _)
    have KS : Bx W (w.heap.size + 1) 58 [.slice L r s] := by subst hW; repeat (first | (refine Bx.newAt _ _ _ ?_; first | rfl | (simp only [World.size_alloc]; done) | (simp only [World.size_alloc]; omega)) | refine Bx.old ?_ _)
    have KF : Bx W (w.heap.size + 1 + 1) 3 [.int .i64 f] := by subst hW; repeat (first | (refine Bx.newAt _ _ _ ?_; first | rfl | (simp only [World.size_alloc]; done) | (simp only [World.size_alloc]; omega)) | refine Bx.old ?_ _)
    clear hW
    have KYl := KY.lt; have KYc := KY.get; have KYf := KY.fr; have KSl := KS.lt; have KSc := KS.get; have KSf := KS.fr; have KFl := KF.lt; have KFc := KF.get; have KFf := KF.fr
    refine wp_region_grow_tail 5 (by kernel_rfl) (by kernel_rfl) ?_
    simp only [List.take_succ_cons, List.take_zero, List.drop_succ_cons, List.drop_zero]
    repeat (go_big_quiet_step ((first | (go_at_call 56; exact quiet_grow rfl (HS.out _ (HB.out.trans ((grow_below W _).mono HB.out.size)))) | (go_at_call 118; exact quiet_grow rfl (HD.out _)))))
    refine wpQuiet_nil ?_
    intro z
    have hbz := grow_below W z
    generalize grow W z = X at *
    clear KYl KYc KYf; replace KY := KY.keep hbz; have KYl := KY.lt; have KYc := KY.get; have KYf := KY.fr; clear KSl KSc KSf; replace KS := KS.keep hbz; have KSl := KS.lt; have KSc := KS.get; have KSf := KS.fr; clear KFl KFc KFf; replace KF := KF.keep hbz; have KFl := KF.lt; have KFc := KF.get; have KFf := KF.fr; replace HB := Lib.hid (up HB.out hbz); clear hbz
    go_upto_region 4 with (go_at_call 82; have hba := up_alloc X (.cells ⟨ints [E, F]⟩ 27); refine (Or_any _ _ _ [E, F] _ (isC X 27 [E, F] (by simp))).mono ?_; rintro e V ⟨rfl, rfl⟩; rw [HO.out]; clear KYl KYc KYf; replace KY := KY.keep hba; have KYl := KY.lt; have KYc := KY.get; have KYf := KY.fr; clear KSl KSc KSf; replace KS := KS.keep hba; have KSl := KS.lt; have KSc := KS.get; have KSf := KS.fr; clear KFl KFc KFf; replace KF := KF.keep hba; have KFl := KF.lt; have KFc := KF.get; have KFf := KF.fr; replace HB := Lib.hid (up HB.out hba); clear hba)
    generalize X.alloc (.cells ⟨ints [E, F]⟩ 27) = Y at *
    have HC := Lib.hid (search_any 120 (.pointer (some ⟨w.heap.size, 0, none⟩)) (.pointer (some ⟨w.heap.size + 1, 0, none⟩)) (.pointer (some ⟨w.heap.size + 1 + 1, 0, none⟩)) (fun i => decide (f < eatL K l (i : Int))) 100001 Y (fun args w => by kernel_rfl)
      (fun Z i hZ hi => lasts1_any A n c B m d K L r s l f i _ _ _ Z ((Hg.out.keep HB.out).keep hZ) ((Hl.out.keep HB.out).keep hZ) HK.out Hss.out h40 hi (KY.keep hZ) (KS.keep hZ) (KF.keep hZ)) (by omega)
      (fun a b hab hb h => by
        have := eatL_mono HK.out l (a := (a : Int)) (b := (b : Int)) (by omega)
        simp only [decide_eq_true_eq] at h ⊢; omega))
    clear KYl KYc KYf KSl KSc KSf KFl KFc KFf
    clear KY KS KF
    go_upto_region 5 with (go_at_call 119; refine HC.out.mono ?_; rintro e U ⟨q, rfl, hq, hbu⟩; have HQ := Lib.hid hq; have hq1 := hq.1; have HBU := Lib.hid (up HB.out hbu); clear hbu hq)
    by_cases hq0 : q = 0
    · subst hq0
      have HP : Hid (LasP K l f 0 3) := Lib.hid (.inl ⟨rfl, rfl, by have := HQ.out.2.2 0 (by omega) (by omega); simpa using this⟩)
      go_wp2
      go_ret2
      exact ⟨0, 3, rfl, .inr ⟨H0.out, HP.out⟩, HBU.out⟩
    · have hne : ((q : Int) == 0) = false := by simp; exact hq0
      have HP : Hid (LasP K l f ((q : Int) - 1) 0) := Lib.hid (.inr ⟨rfl, by omega, by
        have := HQ.out.2.1 (q - 1) (by omega)
        simp only [decide_eq_false_iff_not] at this
        rw [show ((q - 1 : Nat) : Int) = (q : Int) - 1 by omega] at this
        omega, fun h => by
        have := HQ.out.2.2 q (by omega) (by omega)
        simp only [decide_eq_true_eq] at this
        rw [show (q : Int) - 1 + 1 = (q : Int) by omega]; exact this⟩)
      have e1 : IntKind.i64.wrap ((q : Int) - 1) = (q : Int) - 1 := by rw [IntWalk.i64_in _ (by omega)]
      go_wp2
      go_ret2
      exact ⟨(q : Int) - 1, 0, rfl, .inr ⟨H0.out, HP.out⟩, HBU.out⟩
end Go.Proofs.YtollccpghhgpfaaGreat

namespace Go.Proofs.YtollccpghhgpfaaGreat
open Go Go.RowKit
set_option maxHeartbeats 2000000
set_option maxRecDepth 100000

theorem thK_idx (l : List St) (d : Int) : ∀ k, k ≤ l.length → ∀ x ∈ thK l d k, 0 ≤ x ∧ x < (k : Int) := by
  intro k
  induction k with
  | zero => intro _ x hx; simp [thK] at hx
  | succ k ih =>
    intro hk x hx
    rw [thK] at hx
    split at hx
    · rcases List.mem_append.1 hx with h | h
      · have := ih (by omega) x h; omega
      · simp at h; subst h; omega
    · have := ih (by omega) x hx; omega
theorem thL_idx (l : List St) (d : Int) : idxOk l.length (thL l d) := thK_idx l d l.length (Nat.le_refl _)
theorem thL_len (l : List St) (d : Int) : (thL l d).length ≤ l.length := thK_len l d l.length
/-- The sorts of those who are there. -/
def sortsOf (l : List St) (t : List Int) : List Int := t.map fun i => (l.getD i.toNat st00).s
def bsD (l : List St) (d : Int) : List Int := sortsOf l (thL l d)
theorem sortsOf_len (l : List St) (t : List Int) : (sortsOf l t).length = t.length := by simp [sortsOf]
theorem bsD_ok {K : List Kd} {l : List St} (h : ssOk K l = true) (d : Int) : lOk K (bsD l d) = true := by
  unfold lOk
  refine List.all_eq_true.2 fun x hx => ?_
  obtain ⟨i, hi, rfl⟩ := List.mem_map.1 hx
  have := thL_idx l d i hi
  have hlt : i.toNat < l.length := by omega
  have h2 := List.all_eq_true.1 h l[i.toNat] (List.getElem_mem hlt)
  unfold stB at h2
  simp only [Bool.and_eq_true] at h2
  rw [show l.getD i.toNat st00 = l[i.toNat] by simp [hlt]]
  exact h2.1.1
def fullB (P : List Int) (K : List Kd) (l : List St) (d : Int) : Bool := decide (8 < (bsD l d).length) || !(PL P K (bsD l d) != [])

theorem isFull_any (A : Option Addr) (n c : Nat) (P : List Int) (B : Option Addr) (m d : Nat) (K : List Kd) (L : Option Addr) (r s : Nat) (l : List St) (dd : Int) (w : World) (hp : Is w A n P) (hg : Ks w B m K) (hl : Ss w L r l) (hy : yOk P K = true) (hs : ssOk K l = true) (h40 : l.length ≤ 40) :
    Calls Tryz.prog 114 #[.agg #[.slice A n c, .slice B m d], .slice L r s, .int .i64 dd] w fun e w' => e = .returned (.bool (fullB P K l dd)) ∧ Below w.heap.size w w' := by
  obtain ⟨h5, hP, hK⟩ := yOk_k hy
  have hap := apL_len K
  have Hr : Hid (r = l.length) := Lib.hid hl.len
  have hrx := hl.small
  have Hp := Lib.hid hp; have Hg := Lib.hid hg; have Hl := Lib.hid hl
  have HPs := Lib.hid hP; have HK := Lib.hid hK
  have Hidx := Lib.hid (thL_idx l dd)
  have hT40 : (thL l dd).length ≤ 40 := by have := thL_len l dd; omega
  have HFB : Hid (fullB P K l dd = (decide (8 < (bsD l dd).length) || !(PL P K (bsD l dd) != []))) := Lib.hid rfl
  have Hgb := Lib.hid (bsL_good hK (bsD_ok hs dd))
  have HbsD : Hid (bsD l dd = sortsOf l (thL l dd)) := Lib.hid rfl
  have hbl := sortsOf_len l (thL l dd)
  clear hp hg hl hP hK hs hy
  go_enter Tryz.func114, Tryz.ntmps114
  go_upto_region 1 with fail
  generalize hW : (World.alloc _ _) = W
  have HB : Hid (Below w.heap.size w W) := Lib.hid (by subst hW; go_grown)
  have KY : Bx W (w.heap.size) 25 [.slice A n c, .slice B m d] := by subst hW; repeat (first | (refine Bx.newAt _ _ _ ?_; first | rfl | (simp only [World.size_alloc]; done) | (simp only [World.size_alloc]; omega)) | refine Bx.old ?_ _)
  clear hW
  have KYl := KY.lt; have KYc := KY.get; have KYf := KY.fr
  go_wp2_with (go_at_call 109; refine (there_any L r s l dd _ (Hl.out.keep HB.out) (by omega)).mono ?_; rintro e V ⟨v, rfl, hO, hbv⟩; obtain ⟨TA, tc, rfl, htc, hT, htf⟩ := hO.is; have HT := Lib.hid hT; have HV0 := Lib.hid (hbv.size); clear KYl KYc KYf; replace KY := KY.keep hbv; have KYl := KY.lt; have KYc := KY.get; have KYf := KY.fr; replace HB := Lib.hid (up HB.out hbv); clear hbv; clear hO hT htf)
  generalize thL l dd = T at *
  have HgV := Lib.hid (Hg.out.keep HB.out); have HlV := Lib.hid (Hl.out.keep HB.out); have HpV := Lib.hid (Hp.out.keep HB.out)
  clear KYl KYc KYf
  clear Hg Hl Hp
  go_loopw [7, 14] (fun v i wr => ∃ (k : Nat), k ≤ T.length ∧ i = .int .i64 k ∧ OI wr V.heap.size v (sortsOf l (T.take k)) ∧ Below V.heap.size V wr) (fun _ i _ => T.length - (intOf i).toNat)
  case atStart => exact ⟨0, by omega, rfl, OI.nil _ _, Below.refl _ _⟩
  case round =>
    obtain ⟨k, hk, rfl, ho, hb⟩ := hrel
    have HBV := Lib.hid hb; have HO := Lib.hid ho
    obtain ⟨A1, c1, rfl⟩ := ho.shape
    have hsw := hb.size
    clear hb ho
    have hok : (sortsOf l (T.take k)).length = k := by rw [sortsOf_len, List.length_take]; omega
    by_cases hlt : k < T.length
    · have Htk : Hid (sortsOf l (T.take (k + 1)) = sortsOf l (T.take k) ++ [(l.getD T[k].toNat st00).s]) := Lib.hid (by unfold sortsOf; rw [List.take_succ_eq_append_getElem hlt, List.map_append, List.map_singleton])
      have hin := Hidx.out T[k] (List.getElem_mem hlt)
      obtain ⟨b, o, rfl, hb, hc⟩ := (HT.out.keep HBV.out).get k hlt
      generalize hy : T[k] = y at *
      clear hy
      obtain ⟨j, rfl⟩ := Int.eq_ofNat_of_zero_le hin.1
      have hjl : j < l.length := by omega
      have hjr : j < r := by rw [Hr.out]; exact hjl
      have Hq : Hid (l.getD (j : Int).toNat st00 = l[j]) := Lib.hid (by simp [hjl])
      rw [Hq.out] at Htk
      obtain ⟨b2, o2, rfl, hb2, hcs⟩ := (HlV.out.keep HBV.out).get j hjl
      obtain ⟨c0, -, -⟩ := hcs
      generalize l[j].s = x at *
      generalize sortsOf l (T.take k) = X at *
      clear hin Hq hbl
      have hbT := up_alloc wr (.cells #[.int .i64 x] 3)
      have HOT := Lib.hid (HO.out.keep hbT)
      have HcT : Hid ((wr.alloc (.cells #[.int .i64 x] 3)).cell? ⟨wr.heap.size, 0, none⟩ = some (.int .i64 x)) := Lib.hid (by rw [cell_of_row _ _ _ _ _ _ (heap_alloc_new _ _)]; rfl)
      have HBT := Lib.hid (up HBV.out hbT)
      have hTs : (wr.alloc (.cells #[.int .i64 x] 3)).heap.size = wr.heap.size + 1 := by simp
      clear hbT
      go_wp2_with (at_builtin; refine wpList_appI HOT.out (.tmp 18) (.tmp 24) rfl rfl rfl rfl HcT.out (by omega) (by omega) ?_; intro A3 c3 U3 hO hB4; have HO4 := Lib.hid hO; have HB4 := Lib.hid (HBT.out.trans hB4); clear hO hB4)
      exact ⟨⟨k + 1, by omega, by go_num, by rw [Htk.out]; have h4 := HO4.out; rw [hok] at h4; exact h4, HB4.out⟩, by simp [intOf]; omega⟩
    · obtain rfl : k = T.length := by omega
      have Hf : Hid (sortsOf l (T.take T.length) = bsD l dd) := Lib.hid (by rw [List.take_length, HbsD.out])
      have hf := Hf.out
      generalize sortsOf l (T.take T.length) = Z at *
      subst hf
      obtain ⟨A2, c2, e2, hc2, his, hfar⟩ := HO.out.is
      cases e2
      have His := Lib.hid his
      have Hok := Lib.hid hok
      clear his hfar hbl hok Hf
      have KYr := KY.keep HBV.out
      have HBr := Lib.hid (up HB.out HBV.out)
      have KYrl := KYr.lt; have KYrc := KYr.get; have KYrf := KYr.fr
      by_cases h8 : 8 < (bsD l dd).length
      · have HFT : Hid (fullB P K l dd = true) := Lib.hid (by rw [HFB.out]; simp [h8])
        go_wp2
        go_ret
        exact ⟨ret_bool HFT.out.symm, HBr.out⟩
      · have HPL : Hid (PL P K (bsD l dd) = plc (apL K) P.length P.length (bsL K (bsD l dd)) (st0 P)) := Lib.hid rfl
        have HFT : Hid (fullB P K l dd = !(PL P K (bsD l dd) != [])) := Lib.hid (by rw [HFB.out]; simp [h8])
        have h18 : (bsL K (bsD l dd)).length ≤ 8 := by rw [bsL_len]; omega
        have h40' : (bsD l dd).length ≤ 1000 := by omega
        clear hT40 HbsD Hidx HT
        go_upto_region 20 with (first
          | (go_at_call 124; refine (newLoad_any A n c B m d K A1 _ c1 (bsD l dd) _ (HgV.out.keep HBV.out) His.out HK.out h40').mono ?_; rintro e U ⟨B', c', rfl, hlc, hks, -, hbu⟩; have Hks := Lib.hid hks; have HpU := Lib.hid ((HpV.out.keep HBV.out).keep hbu); have HBU := Lib.hid (up HBr.out hbu); clear hbu hks)
          | (go_at_call 92; refine (fits_any A n c P B' (bsD l dd).length c' (bsL K (bsD l dd)) (apL K) _ HpU.out Hks.out hap h5 HPs.out Hgb.out h18).mono ?_; rw [← HPL.out]; rintro e V2 ⟨rfl, hbv⟩; generalize (PL P K (bsD l dd) != []) = Q at *; have HBV2 := Lib.hid (up HBU.out hbv); clear hbv))
        go_wp2
        go_ret
        have h8i : decide ((8 : Int) < ((bsD l dd).length : Int)) = false := by simp; omega
        exact ⟨ret_bool (by rw [HFT.out, h8i]; rfl), HBV2.out⟩
end Go.Proofs.YtollccpghhgpfaaGreat

