/- Contracts of functions of the program and of the reference, and plain facts: a part of a proof. Own text. -/
import Derived.Test.YtaieidigpilbfaaGreatJe
set_option linter.unusedVariables false
set_option linter.unusedSimpArgs false
set_option linter.unusedSectionVars false
namespace Go.Proofs.YtaieidigpilbfaaGreat
open Go Go.RowKit
set_option maxHeartbeats 1000000
set_option maxRecDepth 100000

/-- A stay. -/
structure St where
  s : Int
  i : Int
  o : Int
def sv (x : St) : Value := .agg #[.int .i64 x.s, .int .i64 x.i, .int .i64 x.o]
def thB (x : St) (d : Int) : Bool := decide (x.i ≤ d) && (decide (x.o < 0) || decide (d < x.o))
def rthB (x : St) (d : Int) : Bool := decide (x.i ≤ d) && ((x.o == -1) || decide (d < x.o))

theorem isThere_any (x : St) (d : Int) (w : World) : Calls Tryz.prog 148 #[sv x, .int .i64 d] w fun e w' => e = .returned (.bool (thB x d)) ∧ Below w.heap.size w w' := by
  obtain ⟨s, i, o⟩ := x
  have HT : Hid (thB ⟨s, i, o⟩ d = (decide (i ≤ d) && (decide (o < 0) || decide (d < o)))) := Lib.hid rfl
  unfold sv
  by_cases h1 : i ≤ d <;> by_cases h2 : o < 0 <;> by_cases h3 : d < o
  all_goals
    simp only [h1, h2, h3, decide_true, decide_false, Bool.true_and, Bool.false_and, Bool.true_or, Bool.false_or] at HT
    go_enter Tryz.func148, Tryz.ntmps148
    go_upto_region 1 with fail
    generalize hW : (World.alloc _ _) = W
    have HB : Hid (Below w.heap.size w W) := Lib.hid (by subst hW; go_grown)
    have KS : Bx W (w.heap.size) 76 [.int .i64 s, .int .i64 i, .int .i64 o] := by subst hW; repeat (first | (refine Bx.newAt _ _ _ ?_; first | rfl | (simp only [World.size_alloc]; done) | (simp only [World.size_alloc]; omega)) | refine Bx.old ?_ _)
    clear hW
    have KSl := KS.lt; have KSc := KS.get; have KSf := KS.fr
    go_wp2
    go_ret
    exact ⟨ret_bool HT.out.symm, HB.out⟩
theorem rIsThere_any (x : St) (d : Int) (w : World) : Calls Tryz.prog 110 #[sv x, .int .i64 d] w fun e w' => e = .returned (.bool (rthB x d)) ∧ Below w.heap.size w w' := by
  obtain ⟨s, i, o⟩ := x
  have HT : Hid (rthB ⟨s, i, o⟩ d = (decide (i ≤ d) && ((o == -1) || decide (d < o)))) := Lib.hid rfl
  unfold sv
  cases h2 : (o == -1) <;> by_cases h1 : i ≤ d <;> by_cases h3 : d < o
  all_goals
    simp only [h1, h2, h3, decide_true, decide_false, Bool.true_and, Bool.false_and, Bool.true_or, Bool.false_or] at HT
    go_enter Tryz.func110, Tryz.ntmps110
    go_upto_region 1 with fail
    generalize hW : (World.alloc _ _) = W
    have HB : Hid (Below w.heap.size w W) := Lib.hid (by subst hW; go_grown)
    have KS : Bx W (w.heap.size) 76 [.int .i64 s, .int .i64 i, .int .i64 o] := by subst hW; repeat (first | (refine Bx.newAt _ _ _ ?_; first | rfl | (simp only [World.size_alloc]; done) | (simp only [World.size_alloc]; omega)) | refine Bx.old ?_ _)
    clear hW
    have KSl := KS.lt; have KSc := KS.get; have KSf := KS.fr
    go_wp2
    go_ret
    exact ⟨ret_bool HT.out.symm, HB.out⟩

theorem right_any (A : Option Addr) (n c : Nat) (P : List Int) (B : Option Addr) (m d : Nat) (K : List Kd) (L : Option Addr) (r s : Nat) (l : List Int) (w : World) (hp : Is w A n P) (hg : Ks w B m K) (hl : Is w L r l) :
    Calls Tryz.prog 58 #[.agg #[.slice A n c, .slice B m d], .slice L r s] w fun e w' => e = .returned (.bool (sE P K l == 0)) ∧ Below w.heap.size w w' := by
  have Hp := Lib.hid hp; have Hg := Lib.hid hg; have Hl := Lib.hid hl
  clear hp hg hl
  generalize hE : sE P K l = E
  have HE := Lib.hid hE
  clear hE
  go_enter Tryz.func58, Tryz.ntmps58
  go_upto_region 1 with fail
  generalize hW : (World.alloc _ _) = W
  have HB : Hid (Below w.heap.size w W) := Lib.hid (by subst hW; go_grown)
  have KY : Bx W (w.heap.size) 25 [.slice A n c, .slice B m d] := by subst hW; repeat (first | (refine Bx.newAt _ _ _ ?_; first | rfl | (simp only [World.size_alloc]; done) | (simp only [World.size_alloc]; omega)) | refine Bx.old ?_ _)
  clear hW
  have KYl := KY.lt; have KYc := KY.get; have KYf := KY.fr
  go_wp2_with (go_at_call 21; refine (rcheckSorts_any _ _ _ P _ _ _ K _ _ _ l _ (Hp.out.keep HB.out) (Hg.out.keep HB.out) (Hl.out.keep HB.out)).mono ?_; rintro e X ⟨rfl, hbx⟩; rw [HE.out]; clear KYl KYc KYf; replace KY := KY.keep hbx; have KYl := KY.lt; have KYc := KY.get; have KYf := KY.fr; replace HB := Lib.hid (up HB.out hbx); clear hbx)
  go_ret
  exact ⟨rfl, HB.out⟩

/-- The room of the first pens. -/
def sumI (l : List Int) : Int := l.foldl (· + ·) 0
theorem sumI_snoc (l : List Int) (x : Int) : sumI (l ++ [x]) = sumI l + x := by simp [sumI]
theorem sumI_in {l : List Int} (h : psOk l = true) (h5 : l.length ≤ 5) (k : Nat) : 0 ≤ sumI (l.take k) ∧ sumI (l.take k) ≤ 1000 * k := by
  induction k with
  | zero => simp [sumI]
  | succ k ih =>
    by_cases hk : k < l.length
    · rw [List.take_succ_eq_append_getElem hk, sumI_snoc]
      have := (List.all_eq_true.1 h) l[k] (List.getElem_mem hk)
      rw [inB_iff] at this
      omega
    · rw [List.take_of_length_le (by omega)]
      rw [List.take_of_length_le (by omega)] at ih
      omega
theorem all_any (A : Option Addr) (n c : Nat) (P : List Int) (v : Value) (w : World) (hp : Is w A n P) (h5 : P.length ≤ 5) (hP : psOk P = true) :
    Calls Tryz.prog 139 #[.agg #[.slice A n c, v]] w fun e w' => e = .returned (.int .i64 (sumI P)) ∧ Below w.heap.size w w' := by
  have Hn : Hid (n = P.length) := Lib.hid hp.len
  have hn5 : n ≤ 5 := by rw [hp.len]; exact h5
  have hin := sumI_in hP h5
  have Hin := Lib.hid hin
  have Hp := Lib.hid hp; have HP := Lib.hid hP
  clear hp hP hin
  go_enter Tryz.func139, Tryz.ntmps139
  go_upto_region 1 with fail
  generalize hW : (World.alloc _ _) = W
  have HB : Hid (Below w.heap.size w W) := Lib.hid (by subst hW; go_grown)
  have KY : Bx W (w.heap.size) 25 [.slice A n c, v] := by subst hW; repeat (first | (refine Bx.newAt _ _ _ ?_; first | rfl | (simp only [World.size_alloc]; done) | (simp only [World.size_alloc]; omega)) | refine Bx.old ?_ _)
  clear hW
  have KYl := KY.lt; have KYc := KY.get; have KYf := KY.fr
  go_wp2_with fail
  go_loopw [3, 9] (fun s i wr => ∃ (k : Nat), k ≤ n ∧ i = .int .i64 k ∧ s = .int .i64 (sumI (P.take k)) ∧ Below w.heap.size w wr) (fun _ i _ => n - (intOf i).toNat)
  case atStart => exact ⟨0, by omega, rfl, rfl, HB.out⟩
  case round =>
    obtain ⟨k, hk, rfl, rfl, hb⟩ := hrel
    replace HB := Lib.hid hb
    clear hb
    by_cases hlt : k < n
    · have hkl : k < P.length := by rw [← Hn.out]; exact hlt
      have Hs : Hid (sumI (P.take (k + 1)) = sumI (P.take k) + P[k]) := Lib.hid (by rw [List.take_succ_eq_append_getElem hkl, sumI_snoc])
      have h1 := Hin.out k
      have h2 := Hin.out (k + 1)
      rw [Hs.out] at h2
      obtain ⟨b, o, rfl, hb, hc⟩ := (Hp.out.keep HB.out).get k hkl
      generalize P[k] = x at *
      generalize sumI (P.take k) = S at *
      go_wp2
      refine ⟨⟨k + 1, by omega, by go_num, by rw [Hs.out], HB.out⟩, by simp [intOf]; omega⟩
    · obtain rfl : k = n := by omega
      have Ho : Hid (sumI (P.take k) = sumI P) := Lib.hid (by rw [Hn.out, List.take_length])
      go_wp2
      go_ret
      exact ⟨ret_int Ho.out, HB.out⟩
end Go.Proofs.YtaieidigpilbfaaGreat

namespace Go.Proofs.YtaieidigpilbfaaGreat
open Go Go.RowKit
set_option maxHeartbeats 1000000
set_option maxRecDepth 100000

/-- A stay lies there. -/
structure StAt (w : World) (b o : Nat) (x : St) : Prop where
  c0 : w.cell? ⟨b, o, none⟩ = some (.int .i64 x.s)
  c1 : w.cell? ⟨b, o + 1, none⟩ = some (.int .i64 x.i)
  c2 : w.cell? ⟨b, o + 2, none⟩ = some (.int .i64 x.o)
/-- A slice holds these stays. -/
structure Ss (w : World) (A : Option Addr) (n : Nat) (l : List St) : Prop where
  len : n = l.length
  small : n < 9223372036854775807
  get : ∀ k (h : k < l.length), ∃ b o, A = some ⟨b, o, none⟩ ∧ b < w.heap.size ∧ StAt w b (o + k * 3) l[k]
theorem StAt.keep {w w' : World} {b o : Nat} {g : St} (h : StAt w b o g) (hb : ∀ j, w'.cell? ⟨b, j, none⟩ = w.cell? ⟨b, j, none⟩) : StAt w' b o g :=
  ⟨(hb _).trans h.c0, (hb _).trans h.c1, (hb _).trans h.c2⟩
theorem Ss.keep {w w' : World} {A : Option Addr} {n : Nat} {gs : List St} (h : Ss w A n gs) (hb : Below w.heap.size w w') : Ss w' A n gs :=
  ⟨h.len, h.small, fun k hk => by
    obtain ⟨b, o, e, hlt, hg⟩ := h.get k hk
    exact ⟨b, o, e, by have := hb.size; omega, hg.keep fun j => hb.cell (p := ⟨b, j, none⟩) hlt⟩⟩
def st00 : St := ⟨0, 0, 0⟩
/-- Those of the first k that are there. -/
def thK (l : List St) (d : Int) : Nat → List Int
  | 0 => []
  | k + 1 => if thB (l.getD k st00) d = true then thK l d k ++ [(k : Int)] else thK l d k
def thL (l : List St) (d : Int) : List Int := thK l d l.length
theorem thK_len (l : List St) (d : Int) (k : Nat) : (thK l d k).length ≤ k := by
  induction k with
  | zero => simp [thK]
  | succ k ih =>
    rw [thK]; split
    · rw [List.length_append, List.length_singleton]; omega
    · omega

theorem there_any (L : Option Addr) (r s : Nat) (l : List St) (d : Int) (w : World) (hl : Ss w L r l) (h40 : l.length ≤ 1000) :
    Calls Tryz.prog 109 #[.slice L r s, .int .i64 d] w fun e w' => ∃ v, e = .returned v ∧ OI w' w.heap.size v (thL l d) ∧ Below w.heap.size w w' := by
  have Hr : Hid (r = l.length) := Lib.hid hl.len
  have hr : r ≤ 1000 := by rw [hl.len]; exact h40
  have Hl := Lib.hid hl
  clear hl
  go_enter Tryz.func109, Tryz.ntmps109
  go_wp2_with fail
  go_loopw [5, 10] (fun v i wr => ∃ (k : Nat), k ≤ r ∧ i = .int .i64 k ∧ OI wr w.heap.size v (thK l d k) ∧ Below w.heap.size w wr) (fun _ i _ => r - (intOf i).toNat)
  case atStart => exact ⟨0, by omega, rfl, OI.nil _ _, Below.refl _ _⟩
  case round =>
    obtain ⟨k, hk, rfl, ho, hb⟩ := hrel
    have HB := Lib.hid hb; have HO := Lib.hid ho
    obtain ⟨A, c, rfl⟩ := ho.shape
    have hsw := hb.size
    clear hb ho
    by_cases hlt : k < r
    · have hkl : k < l.length := by rw [← Hr.out]; exact hlt
      have HlW := Lib.hid (Hl.out.keep HB.out)
      obtain ⟨b, o, rfl, hb, hcs⟩ := HlW.out.get k hkl
      obtain ⟨c0, c1, c2⟩ := hcs
      have hth := thK_len l d k
      cases hT : thB l[k] d
      · have HK : Hid (thK l d (k + 1) = thK l d k) := Lib.hid (by rw [thK, if_neg (by simp [hkl, hT])])
        have HT := Lib.hid hT
        clear hT
        generalize l[k] = x at *
        go_wp2_with (first
          | (refine wpList_putNew 76 7 14 rfl rfl rfl rfl (by kernel_rfl) rfl (by simp [Value.oneCell']) ?_; intro U KX hbu hsu; have KXl := KX.lt; have KXc := KX.get; have KXf := KX.fr)
          | (go_at_call 148; refine (isThere_any x d _).mono ?_; rintro e V ⟨rfl, hbv⟩; rw [HT.out]))
        have hb2 := up hbu hbv
        exact ⟨⟨k + 1, by omega, by go_num, by rw [HK.out]; exact HO.out.keep hb2, up HB.out hb2⟩, by simp [intOf]; omega⟩
      · have HK : Hid (thK l d (k + 1) = thK l d k ++ [(k : Int)]) := Lib.hid (by rw [thK, if_pos (by simp [hkl, hT])])
        have HT := Lib.hid hT
        clear hT
        generalize l[k] = x at *
        go_wp2_with (first
          | (refine wpList_putNew 76 7 14 rfl rfl rfl rfl (by kernel_rfl) rfl (by simp [Value.oneCell']) ?_; intro U KX hbu hsu; have KXl := KX.lt; have KXc := KX.get; have KXf := KX.fr)
          | (go_at_call 148; refine (isThere_any x d _).mono ?_; rintro e V ⟨rfl, hbv⟩; rw [HT.out]; have hb2 := up hbu hbv; have hb3 := up hb2 (up_alloc V (.cells #[.int .i64 (k : Int)] 3)); have HOV := Lib.hid (HO.out.keep hb3); have HB3 := Lib.hid (up HB.out hb3); have hcV : (V.alloc (.cells #[.int .i64 (k : Int)] 3)).cell? ⟨V.heap.size, 0, none⟩ = some (.int .i64 (k : Int)) := (by rw [cell_of_row _ _ _ _ _ _ (heap_alloc_new _ _)]; rfl); have HcV := Lib.hid hcV; clear hcV)
          | (at_builtin; refine wpList_appI HOV.out (.tmp 18) (.tmp 20) rfl rfl rfl rfl HcV.out (by omega) (by have := HB3.out.size; omega) ?_; intro A3 c3 U3 hO hB4; have HO4 := Lib.hid hO; have HB4 := Lib.hid (HB3.out.trans hB4); clear hO hB4))
        exact ⟨⟨k + 1, by omega, by go_num, by rw [HK.out]; exact HO4.out, HB4.out⟩, by simp [intOf]; omega⟩
    · obtain rfl : k = r := by omega
      have HE : Hid (thK l d k = thL l d) := Lib.hid (by unfold thL; rw [Hr.out])
      go_wp2
      go_ret
      exact ⟨_, rfl, by rw [← HE.out]; exact HO.out, HB.out⟩
end Go.Proofs.YtaieidigpilbfaaGreat

namespace Go.Proofs.YtaieidigpilbfaaGreat
open Go Go.RowKit
set_option maxHeartbeats 8000000
set_option maxRecDepth 100000

/-- A stay of a valid yard. -/
def stB (K : List Kd) (x : St) : Bool := kdI K x.s && inB x.i 0 100000 && ((x.o == -1) || inB x.o x.i 100000)
theorem stB_in {K : List Kd} {x : St} (h : stB K x = true) : (0 ≤ x.i ∧ x.i ≤ 100000) ∧ (x.o = -1 ∨ (x.i ≤ x.o ∧ x.o ≤ 100000)) := by
  unfold stB at h
  simp only [Bool.and_eq_true, Bool.or_eq_true, beq_iff_eq, inB_iff] at h
  exact ⟨h.1.2, h.2⟩
def ssOk (K : List Kd) (l : List St) : Bool := l.all (stB K)
/-- The last day on which a beast eats. -/
def lastD (x : St) (d : Int) : Int := if (x.o != -1) = true then min d (x.o - 1) else d
def eatR (K : List Kd) (x : St) (d : Int) : Int := (kdD K x.s).e * max 0 (lastD x d - x.i + 1)
def eatK (K : List Kd) (l : List St) (d : Int) : Nat → Int
  | 0 => 0
  | k + 1 => eatK K l d k + eatR K (l.getD k st00) d
def eatL (K : List Kd) (l : List St) (d : Int) : Int := eatK K l d l.length
theorem kdD_e {K : List Kd} (hK : ksOk K = true) (x : Int) : 0 ≤ (kdD K x).e ∧ (kdD K x).e ≤ 1000 := by
  cases h : kd? K x with
  | none => rw [(kdD_none h).1]; decide
  | some q =>
    rw [(kdD_some h).1]
    have := kdOk_iff.1 (ksOk_kd hK q (kd_mem h).1)
    exact this.2.2.1
theorem eatR_in {K : List Kd} {x : St} {d : Int} (hK : ksOk K = true) (hx : stB K x = true) (hd : 0 ≤ d ∧ d ≤ 100000) : 0 ≤ eatR K x d ∧ eatR K x d ≤ 200000000 := by
  have h1 := stB_in hx
  have h2 := kdD_e hK x.s
  have h3 : 0 ≤ max 0 (lastD x d - x.i + 1) ∧ max 0 (lastD x d - x.i + 1) ≤ 100001 := by unfold lastD; split <;> omega
  unfold eatR
  generalize max 0 (lastD x d - x.i + 1) = q at *
  generalize (kdD K x.s).e = e at *
  refine ⟨Int.mul_nonneg (by omega) h3.1, ?_⟩
  have := Int.mul_le_mul (a := e) (b := q) (c := 1000) (d := 100001) (by omega) h3.2 h3.1 (by omega)
  omega
theorem eatK_in {K : List Kd} {l : List St} {d : Int} (hK : ksOk K = true) (hl : ssOk K l = true) (hd : 0 ≤ d ∧ d ≤ 100000) : ∀ k, k ≤ l.length → 0 ≤ eatK K l d k ∧ eatK K l d k ≤ 200000000 * k := by
  intro k
  induction k with
  | zero => intro _; simp [eatK]
  | succ k ih =>
    intro hk
    have h1 := ih (by omega)
    have h2 := eatR_in (d := d) hK (List.all_eq_true.1 hl l[k] (List.getElem_mem (by omega))) hd
    rw [eatK, show l.getD k st00 = l[k]'(by omega) by simp [show k < l.length by omega]]
    omega
end Go.Proofs.YtaieidigpilbfaaGreat

namespace Go.Proofs.YtaieidigpilbfaaGreat
open Go Go.RowKit

/-- Some of the beasts. -/
def someL (bs : List Kd) (l : List Int) : List Kd := l.map fun i => bs.getD i.toNat kd0
/-- Indices of so many beasts. -/
def idxOk (n : Nat) (l : List Int) : Prop := ∀ i ∈ l, 0 ≤ i ∧ i < (n : Int)
theorem someL_len (bs : List Kd) (l : List Int) : (someL bs l).length = l.length := by simp [someL]
theorem someL_mem {bs : List Kd} {l : List Int} (h : idxOk bs.length l) {k : Kd} (hk : k ∈ someL bs l) : k ∈ bs := by
  obtain ⟨i, hi, rfl⟩ := List.mem_map.1 hk
  have := h i hi
  have hlt : i.toNat < bs.length := by omega
  simp [hlt]
theorem someL_good {bs : List Kd} {l : List Int} (hb : goodB bs) (h : idxOk bs.length l) : goodB (someL bs l) := fun k hk => hb k (someL_mem h hk)
theorem idxOk_erase {n : Nat} {l : List Int} (h : idxOk n l) (i : Nat) : idxOk n (l.eraseIdx i) := fun x hx => h x ((List.eraseIdx_sublist l i).mem hx)
/-- They take more room than there is. -/
def overB (P : List Int) (bs : List Kd) (l : List Int) : Bool := decide (sumI P < sumR (someL bs l))
/-- They have no placement. -/
def stuckB (P ap : List Int) (bs : List Kd) (l : List Int) : Bool := !(plc ap P.length P.length (someL bs l) (st0 P) != [])
/-- The first n indices. -/
def rngI (n : Nat) : List Int := (List.range n).map fun (i : Nat) => (i : Int)
theorem rngI_len (n : Nat) : (rngI n).length = n := by simp [rngI]
theorem rngI_succ (n : Nat) : rngI (n + 1) = rngI n ++ [(n : Int)] := by simp [rngI, List.range_succ]
theorem rngI_ok (n : Nat) : idxOk n (rngI n) := by
  intro i hi
  simp [rngI] at hi
  obtain ⟨a, ha, rfl⟩ := hi
  omega
/-- Of whom something is so; k of them were tried to leave out, from the last one on. -/
def leastK (f : List Int → Bool) (n : Nat) : Nat → List Int
  | 0 => rngI n
  | k + 1 => if f ((leastK f n k).eraseIdx (n - 1 - k)) = true then (leastK f n k).eraseIdx (n - 1 - k) else leastK f n k
def leastL (f : List Int → Bool) (n : Nat) : List Int := if f (rngI n) = true then leastK f n n else []
theorem leastK_ok (f : List Int → Bool) (n : Nat) : ∀ k, k ≤ n → idxOk n (leastK f n k) ∧ n - k ≤ (leastK f n k).length ∧ (leastK f n k).length ≤ n := by
  intro k
  induction k with
  | zero => intro _; exact ⟨rngI_ok n, by rw [leastK, rngI_len]; omega, by rw [leastK, rngI_len]; omega⟩
  | succ k ih =>
    intro hk
    obtain ⟨h1, h2, h3⟩ := ih (by omega)
    rw [leastK]
    split
    · refine ⟨idxOk_erase h1 _, ?_, ?_⟩ <;> rw [List.length_eraseIdx_of_lt (by omega)] <;> omega
    · exact ⟨h1, by omega, h3⟩
def isLeastB (f : List Int → Bool) (l : List Int) : Bool := (List.range l.length).all (fun i => !f (l.eraseIdx i)) && f l
theorem isLeast_no {f : List Int → Bool} {l : List Int} {i : Nat} (hi : i < l.length) (h : f (l.eraseIdx i) = true) : isLeastB f l = false := by
  unfold isLeastB
  rw [Bool.and_eq_false_iff]; left
  rw [List.all_eq_false]
  exact ⟨i, List.mem_range.2 hi, by simp [h]⟩
theorem isLeast_end {f : List Int → Bool} {l : List Int} (h : ∀ i, i < l.length → f (l.eraseIdx i) = false) : isLeastB f l = f l := by
  unfold isLeastB
  rw [show (List.range l.length).all (fun i => !f (l.eraseIdx i)) = true from List.all_eq_true.2 fun i hi => by rw [h i (List.mem_range.1 hi)]; rfl]
  rfl
/-- A beast must stand apart from each of some others. -/
def apAll (ap : List Int) (bs : List Kd) (i : Nat) (l : List Int) : Bool := l.all fun o => hasB (ap.getD (bs.getD i kd0).s.toNat 0) (bs.getD o.toNat kd0).s
/-- No pen has room for the beast. -/
def bigB (P : List Int) (bs : List Kd) (i : Nat) : Bool := !P.any fun r => decide ((bs.getD i kd0).r ≤ r)
def isBigB (P : List Int) (bs : List Kd) (l : List Int) : Bool := decide (l.length = 1) && bigB P bs (l.getD 0 0).toNat
def isManyK (ap : List Int) (bs : List Kd) (l : List Int) (k : Nat) : Bool := apAll ap bs (l.getD k 0).toNat (l.take k)
def isManyB (np : Nat) (ap : List Int) (bs : List Kd) (l : List Int) : Bool := (List.range l.length).all (isManyK ap bs l) && decide (l.length = np + 1)
/-- The first list that begins with some beasts and goes on with others, f of them are left. -/
def crowdL (np : Nat) (ap : List Int) (bs : List Kd) : Nat → List Int → Nat → List Int
  | 0, b, _ => if np < b.length then b else []
  | f + 1, b, i => if np < b.length then b else
    if apAll ap bs i b = true then (match crowdL np ap bs f (b ++ [(i : Int)]) (i + 1) with
      | [] => crowdL np ap bs f b (i + 1)
      | x :: r => x :: r) else crowdL np ap bs f b (i + 1)
/-- The first beast that no pen has room for, from i on. -/
def bigK (P : List Int) (bs : List Kd) : Nat → Nat → List Int
  | 0, _ => []
  | f + 1, i => if bigB P bs i = true then [(i : Int)] else bigK P bs f (i + 1)
def findBigL (P : List Int) (bs : List Kd) : List Int := bigK P bs bs.length 0
def findMuchL (P : List Int) (bs : List Kd) : List Int := leastL (overB P bs) bs.length
def findManyL (P ap : List Int) (bs : List Kd) : List Int := crowdL P.length ap bs bs.length [] 0
def findTightL (P ap : List Int) (bs : List Kd) : List Int := leastL (stuckB P ap bs) bs.length
/-- The first list that is not empty, and its number. -/
def firstL : Int → List (List Int) → Int × List Int
  | _, [] => (0, [])
  | n, l :: r => match l with
    | [] => firstL (n + 1) r
    | x :: t => (n, x :: t)
def findsL (P ap : List Int) (bs : List Kd) : List (List Int) := [findBigL P bs, findMuchL P bs, findManyL P ap bs, findTightL P ap bs]
def whyP (P : List Int) (K : List Kd) (l : List Int) : Int × List Int := firstL 1 (findsL P (apL K) (bsL K l))
def refP (P : List Int) (K : List Kd) (l : List Int) : Int × List Int := if sE P K l = 0 ∧ PL P K l = [] then whyP P K l else (0, [])
def refE (P : List Int) (K : List Kd) (l : List Int) : Int := if sE P K l = 0 then (if PL P K l = [] then (if (whyP P K l).2 = [] then 3 else 0) else 3) else sE P K l
end Go.Proofs.YtaieidigpilbfaaGreat

namespace Go.Proofs.YtaieidigpilbfaaGreat
open Go Go.RowKit
set_option maxHeartbeats 1000000
set_option maxRecDepth 100000

theorem ldL_set {A : Option Addr} {n c : Nat} {v v' : Value} {ap : List Int} : (ldL A n c v ap).set 1 v' = ldL A n c v' ap := rfl
theorem some_any (A : Option Addr) (n c : Nat) (B : Option Addr) (m d : Nat) (bs : List Kd) (ap : List Int) (L : Option Addr) (r s : Nat) (l : List Int) (w : World) (hg : Ks w B m bs) (hl : Is w L r l) (hap : ap.length = 10) (hi : idxOk bs.length l) (h40 : l.length ≤ 1000) :
    Calls Tryz.prog 154 #[.agg ⟨ldL A n c (.slice B m d) ap⟩, .slice L r s] w fun e w' => ∃ B' c', e = .returned (.agg ⟨ldL A n c (.slice B' l.length c') ap⟩) ∧ l.length ≤ c' ∧ Ks w' B' l.length (someL bs l) ∧ (∀ q, B' = some q → w.heap.size ≤ q.block) ∧ Below w.heap.size w w' := by
  have Hr : Hid (r = l.length) := Lib.hid hl.len
  have Hm : Hid (m = bs.length) := Lib.hid hg.len
  have hmx := hl.small
  have Hg := Lib.hid hg; have Hl := Lib.hid hl; have Hi := Lib.hid hi
  clear hg hl hi
  go_enter Tryz.func154, Tryz.ntmps154
  go_upto_region 1 with fail
  generalize hW : (World.alloc _ _) = W
  have HB : Hid (Below w.heap.size w W) := Lib.hid (by subst hW; go_grown)
  have KL : Bx W (w.heap.size) 83 (ldL A n c (.slice B m d) ap) := by subst hW; repeat (first | (refine Bx.newAt _ _ _ ?_; first | rfl | (simp only [World.size_alloc]; done) | (simp only [World.size_alloc]; omega)) | refine Bx.old ?_ _)
  have KZ : Bx W (w.heap.size + 1) 83 [.slice none 0 0, .slice none 0 0, .int .i64 0, .int .i64 0, .int .i64 0, .int .i64 0, .int .i64 0, .int .i64 0, .int .i64 0, .int .i64 0, .int .i64 0, .int .i64 0] := by subst hW; repeat (first | (refine Bx.newAt _ _ _ ?_; first | rfl | (simp only [World.size_alloc]; done) | (simp only [World.size_alloc]; omega)) | refine Bx.old ?_ _)
  clear hW
  have KLl := KL.lt; have KLc := KL.get; have KLf := KL.fr; have KZl := KZ.lt; have KZc := KZ.get; have KZf := KZ.fr
  have HO : OK W (w.heap.size + 1 + 1) (.slice none 0 0) (someL bs (l.take 0)) := OK.nil _ _
  have hWs : w.heap.size + 1 + 1 ≤ W.heap.size := by have := KZ.lt; omega
  clear KLl KLc KLf KZl KZc KZf
  go_wp2_with fail
  go_loopw [5, 10] (fun v i wr => ∃ (k : Nat), k ≤ r ∧ i = .int .i64 k ∧ Below w.heap.size w wr ∧ w.heap.size + 1 + 1 ≤ wr.heap.size ∧ Bx wr w.heap.size 83 (ldL A n c (.slice B m d) ap) ∧ Bx wr (w.heap.size + 1) 83 ld0 ∧ OK wr (w.heap.size + 1 + 1) v (someL bs (l.take k))) (fun _ i _ => r - (intOf i).toNat)
  case atStart => exact ⟨0, by omega, rfl, HB.out, hWs, KL, KZ, HO⟩
  case round =>
    clear KL KZ HO hWs
    obtain ⟨k, hk, rfl, hb, hNs, KL, KZ, HO⟩ := hrel
    have HGr := Lib.hid (Hg.out.keep hb)
    have HLr := Lib.hid (Hl.out.keep hb)
    replace HB := Lib.hid hb
    have HOr := Lib.hid HO
    clear hb
    have KLl := KL.lt; have KLc := KL.get; have KLf := KL.fr; have KZl := KZ.lt; have KZc := KZ.get; have KZf := KZ.fr
    by_cases hlt : k < r
    · have hkl : k < l.length := by rw [← Hr.out]; exact hlt
      have hin := Hi.out l[k] (List.getElem_mem hkl)
      have Htk : Hid (someL bs (l.take (k + 1)) = someL bs (l.take k) ++ [bs.getD l[k].toNat kd0]) := Lib.hid (by unfold someL; rw [List.take_succ_eq_append_getElem hkl, List.map_append, List.map_singleton])
      have l3 : (someL bs (l.take k)).length ≤ 1000000 := by rw [someL_len, List.length_take]; omega
      obtain ⟨b, o, rfl, hb, hc⟩ := HLr.out.get k hkl
      generalize hy : l[k] = y at *
      clear hy
      obtain ⟨j, rfl⟩ := Int.eq_ofNat_of_zero_le hin.1
      have hjl : j < bs.length := by omega
      have hjm : j < m := by rw [Hm.out]; exact hjl
      have hmm := HGr.out.small
      have Hq : Hid (bs.getD (j : Int).toNat kd0 = bs[j]) := Lib.hid (by simp [hjl])
      rw [Hq.out] at Htk
      obtain ⟨b2, o2, rfl, hb2, hcs⟩ := HGr.out.get j hjl
      obtain ⟨c0, c1, c2, c3⟩ := hcs
      generalize bs[j] = q at *
      obtain ⟨A1, c1', e1⟩ := HO.shape
      subst e1
      generalize someL bs (l.take k) = X at *
      clear HO hin Hq
      have hbT := up_alloc wr (.cells #[.int .i64 q.s, .int .i64 q.r, .int .i64 q.e, .int .i64 q.a] 72)
      have HOT := Lib.hid (HOr.out.keep hbT)
      have KQ : Bx (wr.alloc (.cells #[.int .i64 q.s, .int .i64 q.r, .int .i64 q.e, .int .i64 q.a] 72)) wr.heap.size 72 [.int .i64 q.s, .int .i64 q.r, .int .i64 q.e, .int .i64 q.a] := Bx.new _ _ _
      have KLT := KL.keep hbT; have KZT := KZ.keep hbT
      have HBT := Lib.hid (up HB.out hbT)
      have HKQ := Lib.hid KQ.get
      have hTs := KQ.lt
      clear hbT KQ
      go_wp2_with (at_builtin; refine wpList_appK HOT.out (.tmp 14) (.tmp 20) rfl rfl rfl (y := q) rfl HKQ.out l3 (by omega) ?_; intro Av cv U2 hO2 hb2; have HO2 := Lib.hid hO2; have hs3 := hb2.size; have KL2 := KLT.keepB hb2 (by omega); have KZ2 := KZT.keepB hb2 (by omega); have HB2 := Lib.hid (HBT.out.trans (hb2.mono (by omega))); clear hO2 hb2)
      exact ⟨⟨k + 1, by omega, by go_num, HB2.out, by omega, KL2, KZ2, by rw [Htk.out]; exact HO2.out⟩, by simp [intOf]; omega⟩
    · obtain rfl : k = r := by omega
      have Hf : Hid (someL bs (l.take k) = someL bs l) := Lib.hid (by rw [Hr.out, List.take_length])
      rw [Hf.out] at HOr
      have hbl : (someL bs l).length = l.length := someL_len _ _
      obtain ⟨B', c', rfl, hlc, hks, hfar⟩ := HOr.out.ks (by omega)
      rw [hbl] at hlc hks
      have Hks := Lib.hid hks
      clear hks HO
      go_upto_region 8 with fail
      have p := Put.cell wr w.heap.size 1 (.slice B' l.length c')
      have KL2 : Bx _ w.heap.size 83 (ldL A n c (.slice B' l.length c') ap) := KL.cell 1 _
      have KZ2 := KZ.put p (by omega)
      have Hks2 := Lib.hid (Hks.out.put p fun q hq => by have := hfar q hq; omega)
      have HB2 := Lib.hid (upP HB.out p (by omega))
      generalize World.setCell wr _ _ = V at *
      clear KLl KLc KLf KZl KZc KZf KL KZ
      have KL2l := KL2.lt; have KL2c := KL2.get; have KL2f := KL2.fr; have KZ2l := KZ2.lt; have KZ2c := KZ2.get; have KZ2f := KZ2.fr
      go_wp2_with (first
        | (refine wpList_get 83 2 rfl rfl KL2 rfl Tryz.underlying83 rfl (sL83' hap) ?_)
        | (refine wpList_put 83 4 25 rfl rfl KZ2 rfl rfl (sL83 hap) (sLo hap) ldL_one ?_; intro U KZn hp))
      refine post_1 rfl rfl rfl KZn Tryz.underlying83 rfl (sL83' hap) ⟨B', c', ?_, hlc, ?_, fun q hq => by (have := hfar q hq; omega), upP HB2.out hp (by omega)⟩
      · rfl
      · exact Hks2.out.put hp fun q hq => by have := hfar q hq; omega
end Go.Proofs.YtaieidigpilbfaaGreat

namespace Go.Proofs.YtaieidigpilbfaaGreat
open Go Go.RowKit
set_option maxHeartbeats 1000000
set_option maxRecDepth 100000

theorem room_ld (A : Option Addr) (n c : Nat) (B : Option Addr) (m d : Nat) (bs : List Kd) (ap : List Int) (w : World) (hg : Ks w B m bs) (hr : ∀ k ∈ bs, 0 ≤ k.r ∧ k.r ≤ 1000) (h40 : bs.length ≤ 1000) :
    Calls Tryz.prog 64 #[.agg ⟨ldL A n c (.slice B m d) ap⟩] w fun e w' => e = .returned (.int .i64 (sumR bs)) ∧ Below w.heap.size w w' := room_any A n c B m d bs ap w hg hr h40
theorem good_r {bs : List Kd} (h : goodB bs) : ∀ k ∈ bs, 0 ≤ k.r ∧ k.r ≤ 1000 := fun k hk => by have := h k hk; omega

section
variable (A : Option Addr) (n c : Nat) (P : List Int) (B : Option Addr) (m d : Nat) (bs : List Kd) (ap : List Int) (L : Option Addr) (r s : Nat) (l : List Int) (w : World) (hA : Is w A n P) (hg : Ks w B m bs) (hl : Is w L r l)
  (hap : ap.length = 10) (h5 : P.length ≤ 5) (hP : psOk P = true) (hb : goodB bs) (hi : idxOk bs.length l)
include hA hg hl hap h5 hP hb hi
theorem overflow_any (h40 : l.length ≤ 1000) :
    Calls Tryz.prog 136 #[.agg ⟨ldL A n c (.slice B m d) ap⟩, .slice L r s] w fun e w' => e = .returned (.bool (overB P bs l)) ∧ Below w.heap.size w w' := by
  have Hn : Hid (n = P.length) := Lib.hid hA.len
  have hn5 : n ≤ 5 := by rw [hA.len]; exact h5
  have hin := sumI_in hP h5
  have Hin := Lib.hid hin
  have HA := Lib.hid hA; have HP := Lib.hid hP; have Hg := Lib.hid hg; have Hl := Lib.hid hl; have Hi := Lib.hid hi; have Hb := Lib.hid hb
  clear hA hP hin hg hl hi hb
  go_enter Tryz.func136, Tryz.ntmps136
  go_upto_region 1 with fail
  generalize hW : (World.alloc _ _) = W
  have HB : Hid (Below w.heap.size w W) := Lib.hid (by subst hW; go_grown)
  have KL : Bx W (w.heap.size) 83 (ldL A n c (.slice B m d) ap) := by subst hW; repeat (first | (refine Bx.newAt _ _ _ ?_; first | rfl | (simp only [World.size_alloc]; done) | (simp only [World.size_alloc]; omega)) | refine Bx.old ?_ _)
  clear hW
  have KLl := KL.lt; have KLc := KL.get; have KLf := KL.fr
  go_wp2_with fail
  clear KLl KLc KLf
  go_loopw [5, 11] (fun s i wr => ∃ (k : Nat), k ≤ n ∧ i = .int .i64 k ∧ s = .int .i64 (sumI (P.take k)) ∧ Below w.heap.size w wr ∧ Bx wr w.heap.size 83 (ldL A n c (.slice B m d) ap)) (fun _ i _ => n - (intOf i).toNat)
  case atStart => exact ⟨0, by omega, rfl, rfl, HB.out, KL⟩
  case round =>
    clear KL
    obtain ⟨k, hk, rfl, rfl, hb, KL⟩ := hrel
    replace HB := Lib.hid hb
    clear hb
    by_cases hlt : k < n
    · have hkl : k < P.length := by rw [← Hn.out]; exact hlt
      have Hs : Hid (sumI (P.take (k + 1)) = sumI (P.take k) + P[k]) := Lib.hid (by rw [List.take_succ_eq_append_getElem hkl, sumI_snoc])
      have h1 := Hin.out k
      have h2 := Hin.out (k + 1)
      rw [Hs.out] at h2
      obtain ⟨b, o, rfl, hb, hc⟩ := (HA.out.keep HB.out).get k hkl
      generalize P[k] = x at *
      generalize sumI (P.take k) = S at *
      go_wp2
      refine ⟨⟨k + 1, by omega, by go_num, by rw [Hs.out], HB.out, KL⟩, by simp [intOf]; omega⟩
    · obtain rfl : k = n := by omega
      have Ho : Hid (sumI (P.take k) = sumI P) := Lib.hid (by rw [Hn.out, List.take_length])
      have HO : Hid (overB P bs l = decide (sumI (P.take k) < sumR (someL bs l))) := Lib.hid (by unfold overB; rw [Ho.out])
      have hsl : (someL bs l).length ≤ 1000 := by rw [someL_len]; exact h40
      have Hr := Lib.hid (good_r (someL_good Hb.out Hi.out))
      generalize sumI (P.take k) = S at *
      have KLl := KL.lt; have KLc := KL.get; have KLf := KL.fr
      go_wp2_with (first
        | (refine wpList_get 83 2 rfl rfl KL rfl Tryz.underlying83 rfl (sL83' hap) ?_)
        | (go_at_call 154; refine (some_any A k c B m d bs ap L r s l _ (Hg.out.keep HB.out) (Hl.out.keep HB.out) hap Hi.out h40).mono ?_; rintro e X ⟨B', c', rfl, hlc, hks, hfar, hbx⟩; have Hks := Lib.hid hks; replace HB := Lib.hid (up HB.out hbx); clear hks hbx hfar)
        | (go_at_call 64; refine (room_ld A k c B' l.length c' (someL bs l) ap _ Hks.out Hr.out hsl).mono ?_; rintro e V ⟨rfl, hbv⟩; replace HB := Lib.hid (up HB.out hbv); clear hbv))
      go_ret
      exact ⟨ret_bool HO.out.symm, HB.out⟩
theorem stuck_any (h8 : l.length ≤ 8) :
    Calls Tryz.prog 138 #[.agg ⟨ldL A n c (.slice B m d) ap⟩, .slice L r s] w fun e w' => e = .returned (.bool (stuckB P ap bs l)) ∧ Below w.heap.size w w' := by
  have HA := Lib.hid hA; have HP := Lib.hid hP; have Hg := Lib.hid hg; have Hl := Lib.hid hl; have Hi := Lib.hid hi
  have Hb := Lib.hid (someL_good hb hi)
  have hsl : (someL bs l).length ≤ 8 := by rw [someL_len]; exact h8
  clear hA hP hg hl hi hb
  have HO : Hid (stuckB P ap bs l = !(plc ap P.length P.length (someL bs l) (st0 P) != [])) := Lib.hid rfl
  go_enter Tryz.func138, Tryz.ntmps138
  go_upto_region 1 with fail
  generalize hW : (World.alloc _ _) = W
  have HB : Hid (Below w.heap.size w W) := Lib.hid (by subst hW; go_grown)
  have KL : Bx W (w.heap.size) 83 (ldL A n c (.slice B m d) ap) := by subst hW; repeat (first | (refine Bx.newAt _ _ _ ?_; first | rfl | (simp only [World.size_alloc]; done) | (simp only [World.size_alloc]; omega)) | refine Bx.old ?_ _)
  clear hW
  have KLl := KL.lt; have KLc := KL.get; have KLf := KL.fr
  go_upto_region 6 with (first
    | (refine wpList_get 83 2 rfl rfl KL rfl Tryz.underlying83 rfl (sL83' hap) ?_)
    | (go_at_call 154; refine (some_any A n c B m d bs ap L r s l _ (Hg.out.keep HB.out) (Hl.out.keep HB.out) hap Hi.out (by omega)).mono ?_; rintro e X ⟨B', c', rfl, hlc, hks, hfar, hbx⟩; have Hks := Lib.hid hks; replace HB := Lib.hid (up HB.out hbx); clear hks hbx hfar)
    | (go_at_call 92; refine (fits_any A n c P B' l.length c' (someL bs l) ap _ (HA.out.keep HB.out) Hks.out hap h5 HP.out Hb.out hsl).mono ?_; rintro e V ⟨rfl, hbv⟩; replace HB := Lib.hid (up HB.out hbv); clear hbv))
  generalize (plc ap P.length P.length (someL bs l) (st0 P) != []) = q at *
  go_wp2
  go_ret
  exact ⟨ret_bool HO.out.symm, HB.out⟩
end
end Go.Proofs.YtaieidigpilbfaaGreat

namespace Go.Proofs.YtaieidigpilbfaaGreat
open Go Go.RowKit
set_option maxHeartbeats 1000000
set_option maxRecDepth 100000

/-- A function of lists of indices, in whatever world has grown out of w. -/
def IsCl (g : FuncId) (v0 : Value) (f : List Int → Bool) (N : Nat) (w : World) : Prop :=
  ∀ X L r s l, Below w.heap.size w X → Is X L r l → idxOk N l → l.length ≤ 8 → Calls Tryz.prog g #[v0, .slice L r s] X fun e w' => e = .returned (.bool (f l)) ∧ Below X.heap.size X w'
section
variable (g : FuncId) (v0 : Value) (f : List Int → Bool) (N : Nat) (w : World) (eg : ∀ args w, (callFunc g args).run Tryz.prog w = .ok (.enter g args) w) (hf : IsCl g v0 f N w)
include eg hf
theorem isLeast_any (L : Option Addr) (r s : Nat) (l : List Int) (hl : Is w L r l) (hrs : r ≤ s) (hs : s ≤ 9223372036854775807) (hi : idxOk N l) (h8 : l.length ≤ 8) :
    Calls Tryz.prog 145 #[.func (.func g) #[v0] #[], .slice L r s] w fun e w' => e = .returned (.bool (isLeastB f l)) ∧ Below w.heap.size w w' := by
  have Hr : Hid (r = l.length) := Lib.hid hl.len
  have hr8 : r ≤ 8 := by rw [hl.len]; exact h8
  have Hl := Lib.hid hl; have Hi := Lib.hid hi; have Hf := Lib.hid hf
  clear hl hi hf
  go_enter Tryz.func145, Tryz.ntmps145
  go_wp2_with fail
  go_loopw [8] (fun i wr => ∃ (k : Nat), k ≤ r ∧ i = .int .i64 k ∧ Below w.heap.size w wr ∧ ∀ j, j < k → f (l.eraseIdx j) = false) (fun i _ => r - (intOf i).toNat)
  case atStart => exact ⟨0, by omega, rfl, Below.refl _ _, by omega⟩
  case round =>
    obtain ⟨k, hk, rfl, hb, hall⟩ := hrel
    have HB := Lib.hid hb; have Hall := Lib.hid hall
    clear hb hall
    by_cases hlt : k < r
    · have hkl : k < l.length := by rw [← Hr.out]; exact hlt
      have h40 : l.length ≤ 1000 := by omega
      have he8 : (l.eraseIdx k).length ≤ 8 := by rw [List.length_eraseIdx_of_lt hkl]; omega
      cases hF : f (l.eraseIdx k)
      all_goals
        have HF := Lib.hid hF
        clear hF
        go_wp2_with (first
          | (go_at_call 90; refine (without_any L r s l k _ (Hl.out.keep HB.out) hkl hrs hs h40).mono ?_; rintro e V ⟨A1, c1, rfl, hO, hbv⟩; have hBV := up HB.out hbv; have HI : Hid (Is V A1 (l.eraseIdx k).length (l.eraseIdx k)) := Lib.hid (by obtain ⟨A2, c2, e2, _, h2, _⟩ := hO.is; cases e2; exact h2); replace HB := Lib.hid hBV; clear hO hbv hBV)
          | (go_at_fn g; refine (Hf.out _ A1 _ c1 _ HB.out HI.out (idxOk_erase Hi.out k) he8).mono ?_; rintro e U ⟨rfl, hbu⟩; rw [HF.out]; replace HB := Lib.hid (up HB.out hbu); clear hbu))
      · refine ⟨⟨k + 1, by omega, by go_num, HB.out, fun j hj => ?_⟩, by simp [intOf]; omega⟩
        by_cases e : j = k
        · subst e; exact HF.out
        · exact Hall.out j (by omega)
      · go_ret
        exact ⟨ret_bool (isLeast_no hkl HF.out).symm, HB.out⟩
    · obtain rfl : k = r := by omega
      have HE : Hid (isLeastB f l = f l) := Lib.hid (isLeast_end (by rw [← Hr.out]; exact Hall.out))
      go_wp2_with (go_at_fn g; refine (Hf.out _ L _ s _ HB.out (Hl.out.keep HB.out) Hi.out h8).mono ?_; rintro e U ⟨rfl, hbu⟩; replace HB := Lib.hid (up HB.out hbu); clear hbu)
      go_ret
      exact ⟨ret_bool HE.out.symm, HB.out⟩

theorem least_any (A : Option Addr) (n c : Nat) (B : Option Addr) (m d : Nat) (ap : List Int) (hm : m = N) (h8 : N ≤ 8) :
    Calls Tryz.prog 135 #[.agg ⟨ldL A n c (.slice B m d) ap⟩, .func (.func g) #[v0] #[]] w fun e w' => ∃ v, e = .returned v ∧ Lst w.heap.size w' v (leastL f N) ∧ Below w.heap.size w w' := by
  subst hm
  have Hf := Lib.hid hf
  clear hf
  go_enter Tryz.func135, Tryz.ntmps135
  go_upto_region 1 with fail
  generalize hW : (World.alloc _ _) = W
  have HB : Hid (Below w.heap.size w W) := Lib.hid (by subst hW; go_grown)
  have KL : Bx W (w.heap.size) 83 (ldL A n c (.slice B m d) ap) := by subst hW; repeat (first | (refine Bx.newAt _ _ _ ?_; first | rfl | (simp only [World.size_alloc]; done) | (simp only [World.size_alloc]; omega)) | refine Bx.old ?_ _)
  clear hW
  have KLl := KL.lt; have KLc := KL.get; have KLf := KL.fr
  have hWs : w.heap.size + 1 ≤ W.heap.size := by have := KL.lt; omega
  have HO : OI W (w.heap.size + 1) (.slice none 0 0) (rngI 0) := OI.nil _ _
  go_wp2_with fail
  clear KLl KLc KLf
  go_loopw [5, 12] (fun v i wr => ∃ (k : Nat), k ≤ m ∧ i = .int .i64 k ∧ w.heap.size + 1 ≤ wr.heap.size ∧ Below w.heap.size w wr ∧ Bx wr w.heap.size 83 (ldL A n c (.slice B m d) ap) ∧ OI wr (w.heap.size + 1) v (rngI k)) (fun _ i _ => m - (intOf i).toNat)
  case atStart => exact ⟨0, by omega, rfl, hWs, HB.out, KL, HO⟩
  case round =>
    clear KL HO hWs
    obtain ⟨k, hk, rfl, hWs, hb, KL, ho⟩ := hrel
    have HB := Lib.hid hb; have HO := Lib.hid ho
    obtain ⟨A1, c1, rfl⟩ := ho.shape
    have hrl : (rngI k).length = k := rngI_len k
    clear hb ho
    by_cases hlt : k < m
    · have HK : Hid (rngI (k + 1) = rngI k ++ [(k : Int)]) := Lib.hid (rngI_succ k)
      generalize rngI k = X at *
      have hbT := up_alloc wr (.cells #[.int .i64 (k : Int)] 3)
      have HOT := Lib.hid (HO.out.keep hbT)
      have HcT : Hid ((wr.alloc (.cells #[.int .i64 (k : Int)] 3)).cell? ⟨wr.heap.size, 0, none⟩ = some (.int .i64 (k : Int))) := Lib.hid (by rw [cell_of_row _ _ _ _ _ _ (heap_alloc_new _ _)]; rfl)
      have KLT := KL.keep hbT
      have HBT := Lib.hid (up HB.out hbT)
      have hTs : (wr.alloc (.cells #[.int .i64 (k : Int)] 3)).heap.size = wr.heap.size + 1 := by simp
      clear hbT
      go_wp2_with (at_builtin; refine wpList_appI HOT.out (.tmp 15) (.tmp 17) rfl rfl rfl rfl HcT.out (by omega) (by omega) ?_; intro A3 c3 U3 hO hB4; have HO4 := Lib.hid hO; have hs4 := hB4.size; have HB4 := Lib.hid (HBT.out.trans (hB4.mono (by omega))); have KL4 := KLT.keepB hB4 (by omega); clear hO hB4)
      exact ⟨⟨k + 1, by omega, by go_num, by omega, HB4.out, KL4, by rw [HK.out]; have h4 := HO4.out; rw [hrl] at h4; exact h4⟩, by simp [intOf]; omega⟩
    · obtain rfl : k = m := by omega
      obtain ⟨A2, c2, e2, hc2, his, hfar⟩ := HO.out.is
      have hcap := HO.out.cap
      cases e2
      rw [hrl] at hc2 his
      have His := Lib.hid his; have Hfar := Lib.hid hfar
      clear his hfar
      have Hid0 := Lib.hid (rngI_ok k)
      have hl8 : (rngI k).length ≤ 8 := by omega
      cases hF : f (rngI k)
      · have HF := Lib.hid hF
        have HLs : Hid (leastL f k = []) := Lib.hid (by unfold leastL; rw [if_neg (by simp [hF])])
        clear hF
        generalize rngI k = X at *
        go_wp2_with (go_at_fn g; refine (Hf.out _ A1 _ c1 _ HB.out His.out Hid0.out hl8).mono ?_; rintro e U ⟨rfl, hbu⟩; rw [HF.out]; replace HB := Lib.hid (up HB.out hbu); clear hbu)
        go_ret
        exact ⟨_, rfl, by rw [HLs.out]; exact Lst.nil _ _, HB.out⟩
      · have HF := Lib.hid hF
        have HLs : Hid (leastL f k = leastK f k k) := Lib.hid (by unfold leastL; rw [if_pos hF])
        have H0 : Hid (leastK f k 0 = rngI k) := Lib.hid rfl
        have hlk := leastK_ok f k
        have Hlk := Lib.hid hlk
        clear hF hlk
        generalize rngI k = X at *
        go_upto_region 9 with (go_at_fn g; refine (Hf.out _ A1 _ c1 _ HB.out His.out Hid0.out hl8).mono ?_; rintro e U ⟨rfl, hbu⟩; rw [HF.out]; replace HB := Lib.hid (up HB.out hbu); have HisU := Lib.hid (His.out.keep hbu); replace KL := KL.keep hbu; have hsu := hbu.size; clear hbu)
        have KLl := KL.lt; have KLc := KL.get; have KLf := KL.fr
        go_wp2_with fail
        clear KLl KLc KLf
        go_loopw [5, 27] (fun v i wr => ∃ (q : Nat) (A9 : Option Addr) (c9 : Nat), q ≤ k ∧ i = .int .i64 q ∧ v = .slice A9 (leastK f k q).length c9 ∧ (leastK f k q).length ≤ c9 ∧ c9 ≤ 9223372036854775807 ∧ Is wr A9 (leastK f k q).length (leastK f k q) ∧ (∀ p, A9 = some p → w.heap.size ≤ p.block) ∧ Below w.heap.size w wr ∧ Bx wr w.heap.size 83 (ldL A n c (.slice B k d) ap)) (fun _ i _ => k - (intOf i).toNat)
        case atStart => exact ⟨0, A1, c1, by omega, rfl, by rw [H0.out, hrl], by rw [H0.out, hrl]; exact hc2, hcap, by rw [H0.out, hrl]; exact HisU.out, fun p hp => by have := Hfar.out p hp; omega, HB.out, KL⟩
        case round =>
          clear KL HB HisU
          obtain ⟨q, A9, c9, hq, rfl, rfl, hc9, hm9, hI9, hfar9, hb, KL⟩ := hrel
          have HB := Lib.hid hb; have HI9 := Lib.hid hI9; have Hf9 := Lib.hid hfar9
          clear hb hI9 hfar9
          have KLl := KL.lt; have KLc := KL.get; have KLf := KL.fr
          by_cases hqk : q < k
          · obtain ⟨g1, g2, g3⟩ := Hlk.out q hq
            obtain ⟨j, hj⟩ : ∃ j, j = k - 1 - q := ⟨_, rfl⟩
            have HK : Hid (leastK f k (q + 1) = if f ((leastK f k q).eraseIdx j) = true then (leastK f k q).eraseIdx j else leastK f k q) := Lib.hid (by rw [leastK, hj])
            have hjI : (k : Int) - 1 - (q : Int) = (j : Int) := by omega
            have hjl : j < (leastK f k q).length := by omega
            have Hg1 := Lib.hid (idxOk_erase g1 j)
            have he8 : ((leastK f k q).eraseIdx j).length ≤ 8 := by rw [List.length_eraseIdx_of_lt hjl]; omega
            have h40 : (leastK f k q).length ≤ 1000 := by omega
            clear hj g1 g2
            generalize leastK f k q = Z at *
            cases hF : f (Z.eraseIdx j)
            all_goals
              have HF := Lib.hid hF
              have HK2 := HK.out
              rw [hF] at HK2
              simp only [if_true, Bool.false_eq_true, if_false] at HK2
              have HK3 := Lib.hid HK2
              clear hF HK HK2
              go_wp2_with (first
                | (go_at_call 90; go_loud (refine (without_any A9 _ c9 Z j _ HI9.out hjl hc9 hm9 h40).mono ?_; rintro e V ⟨A6, c6, rfl, hO, hbv⟩; have hcp := hO.cap; obtain ⟨A7, c7, e7, hc7, h7, hf7⟩ := hO.is; cases e7; have HI := Lib.hid h7; have Hf7 := Lib.hid hf7; have hsv := hbv.size; have HI9V := Lib.hid (HI9.out.keep hbv); have hBV := up HB.out hbv; have hws := HB.out.size; clear HB; have HB := Lib.hid hBV; replace KL := KL.keep hbv; clear KLl KLc KLf hbv hBV h7 hf7 hO HI9; have KLl := KL.lt; have KLc := KL.get; have KLf := KL.fr))
                | (go_at_fn g; refine (Hf.out _ A6 _ c6 _ HB.out HI.out Hg1.out he8).mono ?_; rintro e U5 ⟨rfl, hbu⟩; rw [HF.out]; have hBU := up HB.out hbu; clear HB; have HB := Lib.hid hBU; have HIU := Lib.hid (HI.out.keep hbu); have HI9U := Lib.hid (HI9V.out.keep hbu); have KLU := KL.keep hbu; clear hbu))
            · exact ⟨⟨q + 1, A9, c9, by omega, by go_num, by rw [HK3.out], by rw [HK3.out]; exact hc9, hm9, by rw [HK3.out]; exact HI9U.out, Hf9.out, HB.out, KLU⟩, by simp [intOf]; omega⟩
            · exact ⟨⟨q + 1, A6, c6, by omega, by go_num, by rw [HK3.out], by rw [HK3.out]; exact hc7, hcp, by rw [HK3.out]; exact HIU.out, fun p hp => by have := Hf7.out p hp; omega, HB.out, KLU⟩, by simp [intOf]; omega⟩
          · obtain rfl : q = k := by omega
            go_wp2
            go_ret
            exact ⟨_, rfl, by rw [HLs.out]; exact ⟨A9, _, c9, rfl, ⟨hc9, hm9⟩, HI9.out, Hf9.out⟩, HB.out⟩
end
end Go.Proofs.YtaieidigpilbfaaGreat

namespace Go.Proofs.YtaieidigpilbfaaGreat
open Go Go.RowKit
set_option maxHeartbeats 1000000
set_option maxRecDepth 100000

/-- The index of the first number of which something is so, from k on; -1 if there is none. -/
def posI (f : Int → Bool) : List Int → Nat → Int
  | [], _ => -1
  | y :: r, k => if f y = true then k else posI f r (k + 1)
theorem posI_yes {f : Int → Bool} {y : Int} (r : List Int) (k : Nat) (h : f y = true) : posI f (y :: r) k = k := by unfold posI; rw [if_pos h]
theorem posI_no {f : Int → Bool} {y : Int} (r : List Int) (k : Nat) (h : f y = false) : posI f (y :: r) k = posI f r (k + 1) := by rw [posI, if_neg (by simp [h])]
theorem posI_any (f : Int → Bool) (l : List Int) : ∀ k : Nat, decide (posI f l k ≥ 0) = l.any f := by
  induction l with
  | nil => intro k; rfl
  | cons y r ih =>
    intro k
    cases h : f y
    · rw [posI_no r k h, ih (k + 1)]; simp [h]
    · rw [posI_yes r k h]; simp [h]
/-- A function of numbers, in whatever world has grown out of w. -/
def PrCl (g : FuncId) (v1 v2 : Value) (f : Int → Bool) (ok : Int → Prop) (w : World) : Prop :=
  ∀ X x, Below w.heap.size w X → ok x → Calls Tryz.prog g #[.int .i64 x, v1, v2] X fun e w' => e = .returned (.bool (f x)) ∧ Below X.heap.size X w'
section
variable (g : FuncId) (v1 v2 : Value) (f : Int → Bool) (ok : Int → Prop) (w : World) (eg : ∀ args w, (callFunc g args).run Tryz.prog w = .ok (.enter g args) w) (hf : PrCl g v1 v2 f ok w)
include eg hf
theorem indexI_any (L : Option Addr) (r s : Nat) (l : List Int) (hl : Is w L r l) (hi : ∀ x ∈ l, ok x) :
    Calls Tryz.prog 112 #[.slice L r s, .func (.func g) #[] #[v1, v2]] w fun e w' => e = .returned (.int .i64 (posI f l 0)) ∧ Below w.heap.size w w' := by
  have hn := hl.small
  have Hr : Hid (r = l.length) := Lib.hid hl.len
  have Hl := Lib.hid hl; have Hi := Lib.hid hi; have Hf := Lib.hid hf
  clear hl hi hf
  go_enter Tryz.func112, Tryz.ntmps112
  go_wp2_with fail
  go_loopw [8] (fun i wr => ∃ (k : Nat), k ≤ r ∧ i = .int .i64 k ∧ Below w.heap.size w wr ∧ posI f (l.drop k) k = posI f l 0) (fun i _ => r - (intOf i).toNat)
  case atStart => exact ⟨0, by omega, rfl, Below.refl _ _, rfl⟩
  case round =>
    obtain ⟨k, hk, rfl, hb, hp⟩ := hrel
    have HB := Lib.hid hb; have Hp := Lib.hid hp
    clear hb hp
    by_cases hlt : k < r
    · have hkl : k < l.length := by rw [← Hr.out]; exact hlt
      have Hd : Hid (l.drop k = l[k] :: l.drop (k + 1)) := Lib.hid (List.drop_eq_getElem_cons hkl)
      have Hok := Lib.hid (Hi.out l[k] (List.getElem_mem hkl))
      obtain ⟨b, o, rfl, hb, hc⟩ := (Hl.out.keep HB.out).get k hkl
      generalize l[k] = y at *
      cases hF : f y
      all_goals
        have HF := Lib.hid hF
        clear hF
        go_wp2_with (go_at_fn g; refine (Hf.out _ y HB.out Hok.out).mono ?_; rintro e U ⟨rfl, hbu⟩; rw [HF.out]; have HBU := Lib.hid (up HB.out hbu); clear hbu)
      · refine ⟨⟨k + 1, by omega, by go_num, HBU.out, ?_⟩, by simp [intOf]; omega⟩
        rw [← Hp.out, Hd.out, posI_no _ _ HF.out]
      · go_ret
        refine ⟨ret_int ?_, HBU.out⟩
        rw [← Hp.out, Hd.out, posI_yes _ _ HF.out]
    · obtain rfl : k = r := by omega
      have Ho : Hid (posI f l 0 = -1) := Lib.hid (by rw [← Hp.out, Hr.out, List.drop_length]; rfl)
      go_wp2
      go_ret
      exact ⟨ret_int Ho.out.symm, HB.out⟩
theorem containsI_any (L : Option Addr) (r s : Nat) (l : List Int) (hl : Is w L r l) (hi : ∀ x ∈ l, ok x) :
    Calls Tryz.prog 143 #[.slice L r s, .func (.func g) #[] #[v1, v2]] w fun e w' => e = .returned (.bool (l.any f)) ∧ Below w.heap.size w w' := by
  have Ho : Hid (decide (posI f l 0 ≥ 0) = l.any f) := Lib.hid (posI_any f l 0)
  have H := Lib.hid (indexI_any g v1 v2 f ok w eg hf L r s l hl hi)
  clear hl hi hf
  generalize posI f l 0 = q at *
  go_enter Tryz.func143, Tryz.ntmps143
  go_wp2_with (go_at_call 112; refine H.out.mono ?_; rintro e U ⟨rfl, hbu⟩; have HBU := Lib.hid hbu; clear hbu)
  go_ret
  exact ⟨ret_bool Ho.out, HBU.out⟩
end

/-- The beast has room in a pen. -/
theorem isBig1_any (A : Option Addr) (n c : Nat) (B : Option Addr) (m d : Nat) (bs : List Kd) (ap : List Int) (L : Option Addr) (r s : Nat) (l : List Int) (q1 q2 i : Nat) (x : Int) (w : World) (hg : Ks w B m bs) (hl : Is w L r l)
    (k1 : Bx w q1 83 (ldL A n c (.slice B m d) ap)) (k2 : Bx w q2 22 [.slice L r s]) (h0 : l[0]? = some (i : Int)) (hi : i < bs.length) :
    Calls Tryz.prog 144 #[.int .i64 x, .pointer (some ⟨q1, 0, none⟩), .pointer (some ⟨q2, 0, none⟩)] w fun e w' => e = .returned (.bool (decide ((bs.getD i kd0).r ≤ x))) ∧ Below w.heap.size w w' := by
  have hm := hg.len
  have hmx := hg.small
  have hrl := hl.len
  have hrs := hl.small
  have hl0 : 0 < l.length := by rcases l with _ | ⟨y, t⟩; (simp at h0); simp
  have hl1 : l[0] = (i : Int) := by simpa [hl0] using h0
  obtain ⟨b, o, rfl, hb, hcs⟩ := hg.get i hi
  obtain ⟨c0, c1, c2, c3⟩ := hcs
  obtain ⟨b2, o2, rfl, hb2, hc2⟩ := hl.get 0 hl0
  rw [hl1] at hc2
  have HE : Hid (bs.getD i kd0 = bs[i]) := Lib.hid (by simp [hi])
  rw [HE.out]
  generalize bs[i] = y at *
  have him : i < m := by omega
  have hr0 : 0 < r := by omega
  clear h0 hl1 hg hl hrl hm hi hl0
  have k1l := k1.lt; have k1c := k1.get; have k1f := k1.fr; have k2l := k2.lt; have k2c := k2.get; have k2f := k2.fr
  simp only [Nat.add_zero] at hc2
  go_enter Tryz.func144, Tryz.ntmps144
  go_upto_region 1 with fail
  refine wp_region_grow (by kernel_rfl) (by kernel_rfl) ?_
  repeat (go_big_quiet_step ((fail)))
  refine wpQuiet_nil ?_
  intro z
  have hB := grow_below w z
  generalize grow w z = V at *
  clear c0 c1 c2 c3 hc2 k1l k1c k1f k2l k2c k2f
  go_wp2
  go_ret
  exact ⟨rfl, hB⟩
theorem isBig_any (A : Option Addr) (n c : Nat) (P : List Int) (B : Option Addr) (m d : Nat) (bs : List Kd) (ap : List Int) (L : Option Addr) (r s : Nat) (l : List Int) (w : World) (hA : Is w A n P) (hg : Ks w B m bs) (hl : Is w L r l) (hi : idxOk bs.length l) :
    Calls Tryz.prog 103 #[.agg ⟨ldL A n c (.slice B m d) ap⟩, .slice L r s] w fun e w' => e = .returned (.bool (isBigB P bs l)) ∧ Below w.heap.size w w' := by
  have Hr : Hid (r = l.length) := Lib.hid hl.len
  have hrs := hl.small
  have HA := Lib.hid hA; have Hg := Lib.hid hg; have Hl := Lib.hid hl
  clear hA hg hl
  by_cases h1 : l.length = 1
  · have hr1 : r = 1 := by rw [Hr.out]; exact h1
    obtain ⟨y, rfl⟩ : ∃ y, l = [y] := by
      match l, h1 with
      | [y], _ => exact ⟨y, rfl⟩
    have hy := hi y (by simp)
    obtain ⟨i, rfl⟩ := Int.eq_ofNat_of_zero_le hy.1
    have hib : i < bs.length := by omega
    have HO : Hid (isBigB P bs [(i : Int)] = !P.any (fun x => decide ((bs.getD i kd0).r ≤ x))) := Lib.hid (by unfold isBigB bigB; simp)
    clear hi h1 hy Hr
    subst hr1
    go_enter Tryz.func103, Tryz.ntmps103
    go_upto_region 1 with fail
    generalize hW : (World.alloc _ _) = W
    have HB : Hid (Below w.heap.size w W) := Lib.hid (by subst hW; go_grown)
    have KL : Bx W (w.heap.size) 83 (ldL A n c (.slice B m d) ap) := by subst hW; repeat (first | (refine Bx.newAt _ _ _ ?_; first | rfl | (simp only [World.size_alloc]; done) | (simp only [World.size_alloc]; omega)) | refine Bx.old ?_ _)
    have KI : Bx W (w.heap.size + 1) 22 [.slice L 1 s] := by subst hW; repeat (first | (refine Bx.newAt _ _ _ ?_; first | rfl | (simp only [World.size_alloc]; done) | (simp only [World.size_alloc]; omega)) | refine Bx.old ?_ _)
    clear hW
    have KLl := KL.lt; have KLc := KL.get; have KLf := KL.fr; have KIl := KI.lt; have KIc := KI.get; have KIf := KI.fr
    have HC := Lib.hid (containsI_any 144 (.pointer (some ⟨w.heap.size, 0, none⟩)) (.pointer (some ⟨w.heap.size + 1, 0, none⟩)) (fun x => decide ((bs.getD i kd0).r ≤ x)) (fun _ => True) W (fun args w => by kernel_rfl)
      (fun X x hX _ => isBig1_any A n c B m d bs ap L 1 s [(i : Int)] _ _ i x X (Hg.out.keep (up HB.out hX)) (Hl.out.keep (up HB.out hX)) (KL.keep hX) (KI.keep hX) rfl hib) A n c P (HA.out.keep HB.out) (fun _ _ => trivial))
    generalize P.any (fun x => decide ((bs.getD i kd0).r ≤ x)) = Q at *
    go_wp2_with (go_at_call 143; refine HC.out.mono ?_; rintro e U ⟨rfl, hbu⟩; have HBU := Lib.hid (up HB.out hbu); clear hbu)
    go_ret
    exact ⟨ret_bool HO.out.symm, HBU.out⟩
  · have hne : ((r : Int) == 1) = false := by simp; rw [Hr.out]; omega
    have HO : Hid (isBigB P bs l = false) := Lib.hid (by unfold isBigB; simp [h1])
    clear h1 hi
    go_enter Tryz.func103, Tryz.ntmps103
    go_upto_region 1 with fail
    generalize hW : (World.alloc _ _) = W
    have HB : Hid (Below w.heap.size w W) := Lib.hid (by subst hW; go_grown)
    have KL : Bx W (w.heap.size) 83 (ldL A n c (.slice B m d) ap) := by subst hW; repeat (first | (refine Bx.newAt _ _ _ ?_; first | rfl | (simp only [World.size_alloc]; done) | (simp only [World.size_alloc]; omega)) | refine Bx.old ?_ _)
    have KI : Bx W (w.heap.size + 1) 22 [.slice L r s] := by subst hW; repeat (first | (refine Bx.newAt _ _ _ ?_; first | rfl | (simp only [World.size_alloc]; done) | (simp only [World.size_alloc]; omega)) | refine Bx.old ?_ _)
    clear hW
    have KLl := KL.lt; have KLc := KL.get; have KLf := KL.fr; have KIl := KI.lt; have KIc := KI.get; have KIf := KI.fr
    go_wp2
    go_ret
    exact ⟨ret_bool HO.out.symm, HB.out⟩

theorem has_b (a s : Int) (x : Bool) (w : World) (h0 : 0 ≤ s) (h1 : s ≤ 9) (h : hasB a s = x) : Calls Tryz.prog 68 #[.int .i64 a, .int .i64 s] w fun e w' => e = .returned (.bool x) ∧ Below w.heap.size w w' :=
  (has_any a s w h0 h1).mono fun e w' g => ⟨by rw [g.1, h], g.2 ▸ Below.refl _ _⟩
theorem all_not_any (f : Int → Bool) (l : List Int) : l.all f = !l.any (fun o => !f o) := by
  induction l with
  | nil => rfl
  | cons y t ih => rw [List.all_cons, List.any_cons, ih]; cases f y <;> rfl
/-- The other need not be apart. -/
theorem apart1_any (A : Option Addr) (n c : Nat) (B : Option Addr) (m d : Nat) (bs : List Kd) (ap : List Int) (q1 q2 i j : Nat) (w : World) (hg : Ks w B m bs) (hap : ap.length = 10) (hb : goodB bs)
    (k1 : Bx w q1 83 (ldL A n c (.slice B m d) ap)) (k2 : Bx w q2 3 [.int .i64 (i : Int)]) (hi : i < bs.length) (hj : j < bs.length) :
    Calls Tryz.prog 155 #[.int .i64 (j : Int), .pointer (some ⟨q1, 0, none⟩), .pointer (some ⟨q2, 0, none⟩)] w fun e w' => e = .returned (.bool (!hasB (ap.getD (bs.getD i kd0).s.toNat 0) (bs.getD j kd0).s)) ∧ Below w.heap.size w w' := by
  have hm := hg.len
  have hmx := hg.small
  have g1 := hb bs[i] (List.getElem_mem hi)
  have g2 := hb bs[j] (List.getElem_mem hj)
  obtain ⟨b, o, rfl, hb1, hcs⟩ := hg.get i hi
  obtain ⟨c0, -, -, -⟩ := hcs
  obtain ⟨b2, o2, e2, hb2, hcs2⟩ := hg.get j hj
  cases e2
  obtain ⟨d0, -, -, -⟩ := hcs2
  have HE : Hid (bs.getD i kd0 = bs[i]) := Lib.hid (by simp [hi])
  have HE2 : Hid (bs.getD j kd0 = bs[j]) := Lib.hid (by simp [hj])
  rw [HE.out, HE2.out]
  have ca : w.cell? ⟨q1, 2 + bs[i].s.toNat, none⟩ = some (.int .i64 (ap.getD bs[i].s.toNat 0)) := by rw [k1.get, ldL_2]; exact ints_get (by omega)
  generalize bs[i].s = x at *
  generalize bs[j].s = y at *
  obtain ⟨⟨x1, x9⟩, -⟩ := g1
  obtain ⟨⟨y1, y9⟩, -⟩ := g2
  have him : i < m := by omega
  have hjm : j < m := by omega
  generalize ap.getD x.toNat 0 = q at *
  have k1l := k1.lt
  have kc : w.cell? ⟨q1, 1, none⟩ = some (.slice (some ⟨b, o, none⟩) m d) := by rw [k1.get]; rfl
  have k2l := k2.lt; have k2c := k2.get; have k2f := k2.fr
  clear HE HE2
  clear hg hm hi hj hb k1
  generalize hH : hasB q y = H
  have HH := Lib.hid hH
  clear hH
  go_enter Tryz.func155, Tryz.ntmps155
  go_upto_region 1 with fail
  have y0 : 0 ≤ y := by omega
  refine wp_region_grow (by kernel_rfl) (by kernel_rfl) ?_
  repeat (go_big_quiet_step (((go_at_call 68; exact quiet_grow rfl (has_b _ _ _ _ y0 y9 HH.out)))))
  refine wpQuiet_nil ?_
  intro z
  have hB := grow_below w z
  generalize grow w z = V at *
  clear c0 d0 ca k1l kc k2l k2c k2f
  go_wp2
  go_ret
  exact ⟨rfl, hB⟩
theorem apartFromAll_any (A : Option Addr) (n c : Nat) (B : Option Addr) (m d : Nat) (bs : List Kd) (ap : List Int) (L : Option Addr) (r s : Nat) (l : List Int) (i : Nat) (w : World) (hg : Ks w B m bs) (hl : Is w L r l) (hap : ap.length = 10) (hb : goodB bs) (hi : i < bs.length) (hx : idxOk bs.length l) :
    Calls Tryz.prog 146 #[.agg ⟨ldL A n c (.slice B m d) ap⟩, .int .i64 (i : Int), .slice L r s] w fun e w' => e = .returned (.bool (apAll ap bs i l)) ∧ Below w.heap.size w w' := by
  have Hg := Lib.hid hg; have Hl := Lib.hid hl; have Hx := Lib.hid hx; have Hb := Lib.hid hb
  clear hg hl hx hb
  have HO : Hid (apAll ap bs i l = !l.any (fun o => !hasB (ap.getD (bs.getD i kd0).s.toNat 0) (bs.getD o.toNat kd0).s)) := Lib.hid (all_not_any _ _)
  go_enter Tryz.func146, Tryz.ntmps146
  go_upto_region 1 with fail
  generalize hW : (World.alloc _ _) = W
  have HB : Hid (Below w.heap.size w W) := Lib.hid (by subst hW; go_grown)
  have KL : Bx W (w.heap.size) 83 (ldL A n c (.slice B m d) ap) := by subst hW; repeat (first | (refine Bx.newAt _ _ _ ?_; first | rfl | (simp only [World.size_alloc]; done) | (simp only [World.size_alloc]; omega)) | refine Bx.old ?_ _)
  have KI : Bx W (w.heap.size + 1) 3 [.int .i64 (i : Int)] := by subst hW; repeat (first | (refine Bx.newAt _ _ _ ?_; first | rfl | (simp only [World.size_alloc]; done) | (simp only [World.size_alloc]; omega)) | refine Bx.old ?_ _)
  clear hW
  have KLl := KL.lt; have KLc := KL.get; have KLf := KL.fr; have KIl := KI.lt; have KIc := KI.get; have KIf := KI.fr
  have HC := Lib.hid (containsI_any 155 (.pointer (some ⟨w.heap.size, 0, none⟩)) (.pointer (some ⟨w.heap.size + 1, 0, none⟩)) (fun o => !hasB (ap.getD (bs.getD i kd0).s.toNat 0) (bs.getD o.toNat kd0).s) (fun x => 0 ≤ x ∧ x < (bs.length : Int)) W (fun args w => by kernel_rfl)
    (fun X x hX hok => by
      obtain ⟨j, rfl⟩ := Int.eq_ofNat_of_zero_le hok.1
      exact apart1_any A n c B m d bs ap _ _ i j X (Hg.out.keep (up HB.out hX)) hap Hb.out (KL.keep hX) (KI.keep hX) hi (by omega)) L r s l (Hl.out.keep HB.out) Hx.out)
  generalize l.any _ = Q at *
  go_wp2_with (go_at_call 143; refine HC.out.mono ?_; rintro e U ⟨rfl, hbu⟩; have HBU := Lib.hid (up HB.out hbu); clear hbu)
  go_ret
  exact ⟨ret_bool HO.out.symm, HBU.out⟩
end Go.Proofs.YtaieidigpilbfaaGreat

