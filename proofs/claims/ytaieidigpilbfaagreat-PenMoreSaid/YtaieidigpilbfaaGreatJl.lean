/- Contracts of functions of the program and of the reference, and plain facts: a part of a proof. Own text. -/
import Derived.Test.YtaieidigpilbfaaGreatJi
import Derived.Test.YtaieidigpilbfaaGreatJk
set_option linter.unusedVariables false
set_option linter.unusedSimpArgs false
set_option linter.unusedSectionVars false
namespace Go.Proofs.YtaieidigpilbfaaGreat
open Go Go.RowKit
set_option maxRecDepth 100000

theorem thK_sub {l : List St} {d d' : Int} (h : ∀ x ∈ l, thB x d = true → thB x d' = true) : ∀ k, k ≤ l.length → (thK l d k).Sublist (thK l d' k) := by
  intro k
  induction k with
  | zero => intro _; exact List.Sublist.slnil
  | succ k ih =>
    intro hk
    have h1 := ih (by omega)
    have hm := h l[k] (List.getElem_mem (by omega))
    rw [thK, thK, show l.getD k st00 = l[k]'(by omega) by simp [show k < l.length by omega]]
    cases hd : thB l[k] d
    · simp only [Bool.false_eq_true, if_false]
      split
      · exact h1.trans (List.sublist_append_left _ _)
      · exact h1
    · rw [hm hd]
      simp only [if_true]
      exact h1.append (List.Sublist.refl _)
theorem full_mono {P : List Int} {K : List Kd} {l : List St} {d d' : Int} (hy : yOk P K = true) (hs : ssOk K l = true) (h : ∀ x ∈ l, thB x d = true → thB x d' = true) (hf : fullB P K l d = true) : fullB P K l d' = true := by
  have hsub : (bsD l d).Sublist (bsD l d') := (thK_sub h _ (Nat.le_refl _)).map _
  unfold fullB at hf ⊢
  simp only [Bool.or_eq_true, decide_eq_true_eq, Bool.not_eq_true', bne_eq_false_iff_eq] at hf ⊢
  rcases hf with h1 | h1
  · left; have := hsub.length_le; omega
  · right
    cases hc : PL P K (bsD l d') with
    | nil => rfl
    | cons a t => exact absurd h1 (PL_sub hy (bsD_ok hs d') hsub (by rw [hc]; simp))
theorem PL_nil {P : List Int} {K : List Kd} : PL P K [] ≠ [] := by unfold PL bsL; simp [plc]
theorem thK_mem {l : List St} {d : Int} : ∀ k, k ≤ l.length → thK l d k ≠ [] → ∃ i, ∃ h : i < l.length, thB l[i] d = true := by
  intro k
  induction k with
  | zero => intro _ h; exact absurd rfl h
  | succ k ih =>
    intro hk h
    rw [thK] at h
    split at h
    · rename_i hc
      exact ⟨k, by omega, by simpa [show k < l.length by omega] using hc⟩
    · exact ih (by omega) h
/-- The greatest day on which one of those came in. -/
theorem max_in (q : List St) (hq : q ≠ []) : ∃ x ∈ q, ∀ y ∈ q, y.i ≤ x.i := by
  induction q with
  | nil => exact absurd rfl hq
  | cons a q ih =>
    by_cases h : q = []
    · subst h; exact ⟨a, by simp, by simp⟩
    · obtain ⟨x, hx, hm⟩ := ih h
      by_cases h2 : x.i ≤ a.i
      · refine ⟨a, by simp, fun y hy => ?_⟩
        rcases List.mem_cons.1 hy with rfl | hy
        · exact Int.le_refl _
        · have := hm y hy; omega
      · refine ⟨x, by simp [hx], fun y hy => ?_⟩
        rcases List.mem_cons.1 hy with rfl | hy
        · omega
        · exact hm y hy
/-- Where it is full on a day, it was so on a day, not behind it, on which a beast came in. -/
theorem full_in {P : List Int} {K : List Kd} {l : List St} {d : Int} (hy : yOk P K = true) (hs : ssOk K l = true) (hf : fullB P K l d = true) : ∃ x ∈ l, x.i ≤ d ∧ fullB P K l x.i = true := by
  have hne : thL l d ≠ [] := by
    intro h0
    unfold fullB bsD sortsOf at hf
    rw [h0] at hf
    simp at hf
    exact absurd hf PL_nil
  obtain ⟨i, hi, hth⟩ := thK_mem _ (Nat.le_refl _) hne
  obtain ⟨x, hx, hm⟩ := max_in (l.filter fun y => thB y d) (by
    intro h0
    have : l[i] ∈ l.filter fun y => thB y d := List.mem_filter.2 ⟨List.getElem_mem hi, hth⟩
    rw [h0] at this; simp at this)
  have hxl := List.mem_filter.1 hx
  have hxt : thB x d = true := hxl.2
  unfold thB at hxt
  simp only [Bool.and_eq_true, Bool.or_eq_true, decide_eq_true_eq] at hxt
  refine ⟨x, hxl.1, hxt.1, full_mono hy hs (fun y hy2 hyt => ?_) hf⟩
  have hmy := hm y (List.mem_filter.2 ⟨hy2, hyt⟩)
  unfold thB at hyt ⊢
  simp only [Bool.and_eq_true, Bool.or_eq_true, decide_eq_true_eq] at hyt ⊢
  refine ⟨hmy, ?_⟩
  rcases hyt.2 with h | h
  · exact .inl h
  · exact .inr (by omega)
theorem srt_sorted (l : List Int) : (srt l).Pairwise (fun a b => a ≤ b) := by
  have := List.pairwise_mergeSort (le := fun (x y : Int) => decide (x ≤ y)) (by intro a b c h1 h2; simp at h1 h2 ⊢; omega) (by intro a b; simp; omega) l
  unfold srt
  exact this.imp fun {a b} h => by simpa using h
theorem find_first {f : Int → Bool} {l : List Int} (hs : l.Pairwise (fun a b => a ≤ b)) {D : Int} (h : l.find? f = some D) : f D = true ∧ D ∈ l ∧ ∀ x ∈ l, f x = true → D ≤ x := by
  refine ⟨List.find?_some h, List.mem_of_find?_eq_some h, ?_⟩
  induction l with
  | nil => simp at h
  | cons a l ih =>
    rw [List.find?_cons] at h
    obtain ⟨h1, h2⟩ := List.pairwise_cons.1 hs
    cases hf : f a
    · rw [hf] at h
      intro x hx hfx
      rcases List.mem_cons.1 hx with rfl | hx
      · rw [hf] at hfx; cases hfx
      · exact ih h2 h x hx hfx
    · rw [hf] at h
      cases h
      intro x hx _
      rcases List.mem_cons.1 hx with rfl | hx
      · exact Int.le_refl _
      · exact h1 x hx
theorem ful_none {P : List Int} {K : List Kd} {l : List St} (hy : yOk P K = true) (hs : ssOk K l = true) (h : fulP P K l = none) (d : Int) : fullB P K l d = false := by
  cases hf : fullB P K l d with
  | false => rfl
  | true =>
    obtain ⟨x, hx, _, hfx⟩ := full_in hy hs hf
    have := List.find?_eq_none.1 h x.i (srt_mem.2 (List.mem_map.2 ⟨x, hx, rfl⟩))
    simp [hfx] at this
theorem ful_some {P : List Int} {K : List Kd} {l : List St} {D : Int} (hy : yOk P K = true) (hs : ssOk K l = true) (h : fulP P K l = some D) : fullB P K l D = true ∧ (0 ≤ D ∧ D ≤ 100000) ∧ ∀ d, d < D → fullB P K l d = false := by
  obtain ⟨h1, h2, h3⟩ := find_first (srt_sorted _) h
  refine ⟨h1, ?_, fun d hd => ?_⟩
  · obtain ⟨x, hx, rfl⟩ := List.mem_map.1 (srt_mem.1 h2)
    exact (stB_in (List.all_eq_true.1 hs x hx)).1
  · cases hf : fullB P K l d with
    | false => rfl
    | true =>
      obtain ⟨x, hx, hxd, hfx⟩ := full_in hy hs hf
      have := h3 x.i (srt_mem.2 (List.mem_map.2 ⟨x, hx, rfl⟩)) hfx
      omega

/-- What is eaten for a sort by the first j kinds. -/
def ekK (K : List Kd) (x : Int) : Nat → Int
  | 0 => 0
  | j + 1 => if (K.getD j kd0).s = x then ekK K x j + (K.getD j kd0).e else ekK K x j
theorem ekK_find {K : List Kd} (h : ksOk K = true) (x : Int) : ∀ j, j ≤ K.length → ekK K x j = (kdD (K.take j) x).e := by
  intro j
  induction j with
  | zero => intro _; rfl
  | succ j ih =>
    intro hj
    have hjl : j < K.length := by omega
    rw [ekK, ih (by omega), List.take_succ_eq_append_getElem hjl, show K.getD j kd0 = K[j] by simp [hjl]]
    unfold kdD kd?
    rw [List.find?_append]
    by_cases e : K[j].s = x
    · have hn : (K.take j).find? (fun k => k.s == x) = none := by
        rw [List.find?_eq_none]
        intro k hk
        obtain ⟨i, hi, rfl⟩ := List.mem_iff_getElem.1 hk
        rw [List.length_take] at hi
        rw [List.getElem_take]
        have := ks_lt h (show i < j by omega) hjl
        simp; omega
      rw [if_pos e, hn]
      simp [e, kd0]
    · rw [if_neg e]
      cases hf : (K.take j).find? (fun k => k.s == x) with
      | some q => simp
      | none => simp [e]
theorem ekK_all {K : List Kd} (h : ksOk K = true) (x : Int) : ekK K x K.length = (kdD K x).e := by rw [ekK_find h x _ (Nat.le_refl _), List.take_length]
theorem ekK_in {K : List Kd} (h : ksOk K = true) (x : Int) {j : Nat} (hj : j ≤ K.length) : 0 ≤ ekK K x j ∧ ekK K x j ≤ 1000 := by
  rw [ekK_find h x j hj]
  cases hf : kd? (K.take j) x with
  | none => rw [(kdD_none hf).1]; decide
  | some q =>
    rw [(kdD_some hf).1]
    have := kdOk_iff.1 (ksOk_kd h q (List.mem_of_mem_take (kd_mem hf).1))
    exact this.2.2.1
/-- What the first k of some eat on a day. -/
def grK (K : List Kd) (l : List St) (t : List Int) : Nat → Int
  | 0 => 0
  | k + 1 => grK K l t k + (kdD K (l.getD (t.getD k 0).toNat st00).s).e
theorem grK_in {K : List Kd} (h : ksOk K = true) (l : List St) (t : List Int) (k : Nat) : 0 ≤ grK K l t k ∧ grK K l t k ≤ 1000 * k := by
  induction k with
  | zero => simp [grK]
  | succ k ih => rw [grK]; have := kdD_e h (l.getD (t.getD k 0).toNat st00).s; omega
theorem grK_snoc (K : List Kd) (l : List St) (t : List Int) (x : Int) : ∀ k, k ≤ t.length → grK K l (t ++ [x]) k = grK K l t k := by
  intro k
  induction k with
  | zero => intro _; rfl
  | succ k ih =>
    intro hk
    rw [grK, grK, ih (by omega)]
    simp only [List.getD_eq_getElem?_getD, List.getElem?_append_left (show k < t.length by omega)]
theorem eatR_step {K : List Kd} {x : St} {d : Int} (hx : stB K x = true) (hd : 0 ≤ d) : eatR K x (d + 1) = eatR K x d + (if thB x (d + 1) = true then (kdD K x.s).e else 0) := by
  obtain ⟨h1, h2⟩ := stB_in hx
  have key : max 0 (lastD x (d + 1) - x.i + 1) = max 0 (lastD x d - x.i + 1) + (if thB x (d + 1) = true then 1 else 0) := by
    unfold lastD thB
    simp only [Bool.and_eq_true, Bool.or_eq_true, decide_eq_true_eq, bne_iff_ne]
    split <;> split <;> omega
  unfold eatR
  rw [key, Int.mul_add]
  split <;> simp
theorem eat_step {K : List Kd} {l : List St} {d : Int} (hs : ssOk K l = true) (hd : 0 ≤ d) : ∀ k, k ≤ l.length → eatK K l (d + 1) k = eatK K l d k + grK K l (thK l (d + 1) k) (thK l (d + 1) k).length := by
  intro k
  induction k with
  | zero => intro _; rfl
  | succ k ih =>
    intro hk
    have hx := List.all_eq_true.1 hs l[k] (List.getElem_mem (by omega))
    have he := eatR_step (K := K) hx hd
    have hg : l.getD k st00 = l[k]'(by omega) := by simp [show k < l.length by omega]
    rw [eatK, eatK, ih (by omega), thK, hg, he]
    split
    · rw [List.length_append, List.length_singleton, grK, grK_snoc _ _ _ _ _ (Nat.le_refl _)]
      have : (thK l (d + 1) k ++ [(k : Int)]).getD (thK l (d + 1) k).length 0 = (k : Int) := by simp
      rw [this, Int.toNat_natCast, hg]
      omega
    · omega
theorem eatL_step {K : List Kd} {l : List St} {d : Int} (hs : ssOk K l = true) (hd : 0 ≤ d) : eatL K l (d + 1) - eatL K l d = grK K l (thL l (d + 1)) (thL l (d + 1)).length := by
  have := eat_step hs hd l.length (Nat.le_refl _)
  unfold eatL thL
  omega
end Go.Proofs.YtaieidigpilbfaaGreat

namespace Go.Proofs.YtaieidigpilbfaaGreat
open Go Go.RowKit
set_option maxHeartbeats 2000000
set_option maxRecDepth 100000

theorem ssOk_no {K : List Kd} {l : List St} {k : Nat} (hk : k < l.length) (h : stB K l[k] = false) : ssOk K l = false := by
  unfold ssOk; rw [List.all_eq_false]; exact ⟨l[k], List.getElem_mem hk, by simp [h]⟩
theorem ssOk_all {K : List Kd} {l : List St} (h : ∀ j (hj : j < l.length), stB K l[j] = true) : ssOk K l = true := by
  unfold ssOk; rw [List.all_eq_true]
  intro x hx
  obtain ⟨j, hj, rfl⟩ := List.mem_iff_getElem.1 hx
  exact h j hj
theorem rcheckStays_any (A : Option Addr) (n c : Nat) (P : List Int) (B : Option Addr) (m d : Nat) (K : List Kd) (L : Option Addr) (r s : Nat) (l : List St) (w : World) (hp : Is w A n P) (hg : Ks w B m K) (hl : Ss w L r l) :
    Calls Tryz.prog 57 #[.agg #[.slice A n c, .slice B m d], .slice L r s] w fun e w' => e = .returned (.int .i64 (ssE P K l)) ∧ Below w.heap.size w w' := by
  have Hr : Hid (r = l.length) := Lib.hid hl.len
  have hrs := hl.small
  have Hp := Lib.hid hp; have Hg := Lib.hid hg; have Hl := Lib.hid hl
  clear hp hg hl
  cases hy : yOk P K
  · have HE : Hid (ssE P K l = 50) := Lib.hid (by unfold ssE; rw [hy]; rfl)
    have HY : Hid (yE P K = 50) := Lib.hid (yE_f hy)
    clear hy
    go_enter Tryz.func57, Tryz.ntmps57
    go_upto_region 1 with fail
    generalize hW : (World.alloc _ _) = W
    have HB : Hid (Below w.heap.size w W) := Lib.hid (by subst hW; go_grown)
    have KY : Bx W (w.heap.size) 25 [.slice A n c, .slice B m d] := by subst hW; repeat (first | (refine Bx.newAt _ _ _ ?_; first | rfl | (simp only [World.size_alloc]; done) | (simp only [World.size_alloc]; omega)) | refine Bx.old ?_ _)
    clear hW
    have KYl := KY.lt; have KYc := KY.get; have KYf := KY.fr
    go_wp2_with (go_at_call 19; refine (rcheckYard_any _ _ _ P _ _ _ K _ (Hp.out.keep HB.out) (Hg.out.keep HB.out)).mono ?_; rintro e X ⟨rfl, hbx⟩; rw [HY.out]; clear KYl KYc KYf; replace KY := KY.keep hbx; have KYl := KY.lt; have KYc := KY.get; have KYf := KY.fr; replace HB := Lib.hid (up HB.out hbx); clear hbx)
    go_ret
    exact ⟨ret_int HE.out.symm, HB.out⟩
  · have HY : Hid (yE P K = 0) := Lib.hid (yE_t hy)
    have HE : Hid (ssE P K l = err (decide (l.length ≤ 40) && ssOk K l) 55) := Lib.hid (by unfold ssE; rw [hy]; rfl)
    clear hy
    by_cases h40 : r ≤ 40
    rotate_left
    · have H40 : Hid (ssE P K l = 55) := Lib.hid (by rw [HE.out, show decide (l.length ≤ 40) = false by rw [← Hr.out]; simpa using h40]; rfl)
      go_enter Tryz.func57, Tryz.ntmps57
      go_upto_region 1 with fail
      generalize hW : (World.alloc _ _) = W
      have HB : Hid (Below w.heap.size w W) := Lib.hid (by subst hW; go_grown)
      have KY : Bx W (w.heap.size) 25 [.slice A n c, .slice B m d] := by subst hW; repeat (first | (refine Bx.newAt _ _ _ ?_; first | rfl | (simp only [World.size_alloc]; done) | (simp only [World.size_alloc]; omega)) | refine Bx.old ?_ _)
      clear hW
      have KYl := KY.lt; have KYc := KY.get; have KYf := KY.fr
      go_wp2_with (go_at_call 19; refine (rcheckYard_any _ _ _ P _ _ _ K _ (Hp.out.keep HB.out) (Hg.out.keep HB.out)).mono ?_; rintro e X ⟨rfl, hbx⟩; rw [HY.out]; clear KYl KYc KYf; replace KY := KY.keep hbx; have KYl := KY.lt; have KYc := KY.get; have KYf := KY.fr; replace HB := Lib.hid (up HB.out hbx); clear hbx)
      go_ret
      exact ⟨ret_int H40.out.symm, HB.out⟩
    · have H40 : Hid (ssE P K l = err (ssOk K l) 55) := Lib.hid (by rw [HE.out, show decide (l.length ≤ 40) = true by rw [← Hr.out]; simpa using h40]; rfl)
      clear HE
      go_enter Tryz.func57, Tryz.ntmps57
      go_upto_region 1 with fail
      generalize hW : (World.alloc _ _) = W
      have HB : Hid (Below w.heap.size w W) := Lib.hid (by subst hW; go_grown)
      have KY : Bx W (w.heap.size) 25 [.slice A n c, .slice B m d] := by subst hW; repeat (first | (refine Bx.newAt _ _ _ ?_; first | rfl | (simp only [World.size_alloc]; done) | (simp only [World.size_alloc]; omega)) | refine Bx.old ?_ _)
      clear hW
      have KYl := KY.lt; have KYc := KY.get; have KYf := KY.fr
      go_upto_region 7 with (go_at_call 19; refine (rcheckYard_any _ _ _ P _ _ _ K _ (Hp.out.keep HB.out) (Hg.out.keep HB.out)).mono ?_; rintro e X ⟨rfl, hbx⟩; rw [HY.out]; clear KYl KYc KYf; replace KY := KY.keep hbx; have KYl := KY.lt; have KYc := KY.get; have KYf := KY.fr; replace HB := Lib.hid (up HB.out hbx); clear hbx)
      clear KYl KYc KYf
      go_loopw [20] (fun i wr => ∃ (k : Nat), k ≤ r ∧ i = .int .i64 k ∧ Below w.heap.size w wr ∧ Bx wr w.heap.size 25 [.slice A n c, .slice B m d] ∧ ∀ j (hj : j < l.length), j < k → stB K l[j] = true) (fun i _ => r - (intOf i).toNat)
      case atStart => exact ⟨0, by omega, rfl, HB.out, KY, by omega⟩
      case round =>
        clear KY HB
        obtain ⟨k, hk, rfl, hb, KY, hall⟩ := hrel
        have HB := Lib.hid hb; have Hall := Lib.hid hall
        clear hb hall
        by_cases hlt : k < r
        · have hkl : k < l.length := by rw [← Hr.out]; exact hlt
          have HN : Hid (stB K l[k] = false → ssE P K l = 55) := Lib.hid (fun h => by rw [H40.out, ssOk_no hkl h]; rfl)
          obtain ⟨b, o, rfl, hb, hcs⟩ := (Hl.out.keep HB.out).get k hkl
          obtain ⟨c0, c1, c2⟩ := hcs
          generalize hx : l[k] = x at *
          obtain ⟨xs, xi, xo⟩ := x
          have Hx : Hid (∀ h : stB K ⟨xs, xi, xo⟩ = true, ∀ j (hj : j < l.length), j < k + 1 → stB K l[j] = true) := Lib.hid (fun h j hj hjk => by
            by_cases e : j = k
            · subst e; rw [hx]; exact h
            · exact Hall.out j hj (by omega))
          have HT : Hid (stB K ⟨xs, xi, xo⟩ = (kdI K xs && inB xi 0 100000 && ((xo == -1) || inB xo xi 100000))) := Lib.hid rfl
          clear hx Hall
          have HgW := Lib.hid (Hg.out.keep HB.out)
          have KYl := KY.lt; have KYc := KY.get; have KYf := KY.fr
          go_upto_region 10 with (first
            | (refine wpList_putNew 76 7 23 rfl rfl rfl rfl (by kernel_rfl) rfl (by simp [Value.oneCell']) ?_; intro U KX hbu hsu; have HgU := Lib.hid (HgW.out.keep hbu); clear KYl KYc KYf; replace KY := KY.keep hbu; have KYl := KY.lt; have KYc := KY.get; have KYf := KY.fr; replace HB := Lib.hid (up HB.out hbu); clear hbu; have KXl := KX.lt; have KXc := KX.get; have KXf := KX.fr)
            | (go_at_call 73; refine (rkind_any _ _ _ _ _ _ K _ _ HgU.out).mono ?_; rintro e V ⟨rfl, hbv⟩; have KXV := KX.keep hbv; clear KYl KYc KYf; replace KY := KY.keep hbv; have KYl := KY.lt; have KYc := KY.get; have KYf := KY.fr; replace HB := Lib.hid (up HB.out hbv); clear hbv; clear KX KXl KXc KXf; have KXVl := KXV.lt; have KXVc := KXV.get; have KXVf := KXV.fr)
            | (refine wpList_putNew 72 8 29 rfl rfl rfl rfl (by kernel_rfl) rfl (by simp [Value.oneCell']) ?_; intro U2 KK hbu hsu; have KX2 := KXV.keep hbu; clear KYl KYc KYf; replace KY := KY.keep hbu; have KYl := KY.lt; have KYc := KY.get; have KYf := KY.fr; replace HB := Lib.hid (up HB.out hbu); clear hbu; clear KXV KXVl KXVc KXVf; have KX2l := KX2.lt; have KX2c := KX2.get; have KX2f := KX2.fr))
          cases h1 : (xo == -1) <;> cases h2 : kdI K xs <;> cases h3 : inB xi 0 100000 <;> cases h4 : inB xo xi 100000
          all_goals
            have HT2 := HT.out
            rw [h1, h2, h3, h4] at HT2
            simp only [Bool.and_true, Bool.and_false, Bool.true_and, Bool.false_and, Bool.or_true, Bool.or_false, Bool.false_eq_true, if_true, if_false] at HT2
            have HT3 := Lib.hid HT2; have H3 := Lib.hid h3; have H4 := Lib.hid h4
            have h1' : (xo != -1) = !(xo == -1) := rfl
            rw [h1] at h1'
            simp only [Bool.not_true, Bool.not_false] at h1'
            clear HT2 HT h3 h4
            go_wp2_with (go_at_call 72; refine (rwithin_any _ _ _ _).mono ?_; rintro e w' ⟨rfl, rfl⟩; first | rw [H3.out] | rw [H4.out])
          all_goals first
            | exact ⟨⟨k + 1, by omega, by go_num, HB.out, KY, Hx.out HT3.out⟩, by simp [intOf]; omega⟩
            | (go_ret; exact ⟨ret_int (HN.out HT3.out).symm, HB.out⟩)
        · obtain rfl : k = r := by omega
          have HO : Hid (ssE P K l = 0) := Lib.hid (by rw [H40.out, ssOk_all (fun j hj => Hall.out j hj (by rw [Hr.out]; exact hj))]; rfl)
          go_wp2
          go_ret
          exact ⟨ret_int HO.out.symm, HB.out⟩
end Go.Proofs.YtaieidigpilbfaaGreat

namespace Go.Proofs.YtaieidigpilbfaaGreat
open Go Go.RowKit
set_option maxHeartbeats 2000000
set_option maxRecDepth 100000

theorem full_nth {P : List Int} {K : List Kd} {l : List St} {dd : Int} (hy : yOk P K = true) (hs : ssOk K l = true) : (nthE P K (bsD l dd) 0 53 == 51 || nthE P K (bsD l dd) 0 53 == 53) = fullB P K l dd := by
  have hlo := bsD_ok hs dd
  unfold fullB nthE
  by_cases h8 : (bsD l dd).length ≤ 8
  · have h0 : sE P K (bsD l dd) = 0 := by unfold sE; rw [hy, hlo]; simp [h8, err]
    have h8' : decide (8 < (bsD l dd).length) = false := by simp; omega
    rw [if_pos h0, h8', Bool.false_or]
    cases hG : PL P K (bsD l dd) with
    | nil => rfl
    | cons a t => rfl
  · have h51 : sE P K (bsD l dd) = 51 := by unfold sE; rw [hy]; simp [h8, err]
    have h8' : decide (8 < (bsD l dd).length) = true := by simp; omega
    rw [if_neg (by rw [h51]; decide), h51, h8']; rfl
theorem There_ok (A : Option Addr) (n c : Nat) (P : List Int) (B : Option Addr) (m d : Nat) (K : List Kd) (L : Option Addr) (r s : Nat) (l : List St) (dd : Int) (w : World) (hp : Is w A n P) (hg : Ks w B m K) (hl : Ss w L r l) (h0 : thrE P K l dd = 0) :
    Calls Tryz.prog 48 #[.agg #[.slice A n c, .slice B m d], .slice L r s, .int .i64 dd] w fun e w' => ∃ v, e = .returned (.tuple #[v, .int .i64 0]) ∧ Lst w.heap.size w' v (thL l dd) ∧ Below w.heap.size w w' := by
  refine (There_any A n c P B m d K L r s l dd w hp hg hl).mono ?_
  rintro e w' ⟨v, h1, h2, h3⟩
  rw [if_pos h0] at h2
  rw [h0] at h1
  exact ⟨v, h1, h2, h3⟩
theorem lawFull_any (A : Option Addr) (n c : Nat) (P : List Int) (B : Option Addr) (m d : Nat) (K : List Kd) (L : Option Addr) (r s : Nat) (l : List St) (dd : Int) (w : World) (hp : Is w A n P) (hg : Ks w B m K) (hl : Ss w L r l) (h0 : thrE P K l dd = 0) :
    Calls Tryz.prog 62 #[.agg #[.slice A n c, .slice B m d], .slice L r s, .int .i64 dd] w fun e w' => e = .returned (.bool (fullB P K l dd)) ∧ Below w.heap.size w w' := by
  obtain ⟨hss, -⟩ := orE2_0 h0
  obtain ⟨hy, h40, hs⟩ := ssE_0 hss
  have HFN := Lib.hid (full_nth (dd := dd) hy hs)
  have Hr : Hid (r = l.length) := Lib.hid hl.len
  have hrx := hl.small
  have Hp := Lib.hid hp; have Hg := Lib.hid hg; have Hl := Lib.hid hl
  have H0 := Lib.hid h0
  have Hidx := Lib.hid (thL_idx l dd)
  have hT40 : (thL l dd).length ≤ 40 := by have := thL_len l dd; omega
  have HbsD : Hid (bsD l dd = sortsOf l (thL l dd)) := Lib.hid rfl
  clear hp hg hl hs hy h0 hss
  go_enter Tryz.func62, Tryz.ntmps62
  go_upto_region 1 with fail
  generalize hW : (World.alloc _ _) = W
  have HB : Hid (Below w.heap.size w W) := Lib.hid (by subst hW; go_grown)
  have KY : Bx W (w.heap.size) 25 [.slice A n c, .slice B m d] := by subst hW; repeat (first | (refine Bx.newAt _ _ _ ?_; first | rfl | (simp only [World.size_alloc]; done) | (simp only [World.size_alloc]; omega)) | refine Bx.old ?_ _)
  clear hW
  have KYl := KY.lt; have KYc := KY.get; have KYf := KY.fr
  go_upto_region 4 with (go_at_call 48; refine (There_ok A n c P B m d K L r s l dd _ (Hp.out.keep HB.out) (Hg.out.keep HB.out) (Hl.out.keep HB.out) H0.out).mono ?_; rintro e V ⟨v, rfl, hO, hbv⟩; obtain ⟨TA, tk, tc, rfl, htc, hT, -⟩ := hO; have HT := Lib.hid hT; have htl := hT.len; clear KYl KYc KYf; replace KY := KY.keep hbv; have KYl := KY.lt; have KYc := KY.get; have KYf := KY.fr; replace HB := Lib.hid (up HB.out hbv); clear hbv; clear hT)
  generalize thL l dd = T at *
  subst htl
  have HlV := Lib.hid (Hl.out.keep HB.out)
  clear KYl KYc KYf
  go_loopw [9, 23] (fun v i wr => ∃ (k : Nat), k ≤ T.length ∧ i = .int .i64 k ∧ OI wr V.heap.size v (sortsOf l (T.take k)) ∧ Below V.heap.size V wr) (fun _ i _ => T.length - (intOf i).toNat)
  case atStart => exact ⟨0, by omega, rfl, OI.nil _ _, Below.refl _ _⟩
  case round =>
    obtain ⟨k, hk, rfl, ho, hb⟩ := hrel
    have HBV := Lib.hid hb; have HO := Lib.hid ho
    obtain ⟨A1, c1, rfl⟩ := ho.shape
    have hsw := hb.size
    clear hb ho
    have hok : (sortsOf l (T.take k)).length = k := by rw [sortsOf_len, List.length_take]; omega
    by_cases hlt : k < T.length
    · have Htk : Hid (sortsOf l (T.take (k + 1)) = sortsOf l (T.take k) ++ [(l.getD T[k].toNat st00).s]) := Lib.hid (by unfold sortsOf; rw [List.take_succ_eq_append_getElem hlt, List.map_append, List.map_singleton])
      have hin := Hidx.out T[k] (List.getElem_mem hlt)
      obtain ⟨b, o, rfl, hb, hc⟩ := (HT.out.keep HBV.out).get k hlt
      generalize hy : T[k] = y at *
      clear hy
      obtain ⟨j, rfl⟩ := Int.eq_ofNat_of_zero_le hin.1
      have hjl : j < l.length := by omega
      have hjr : j < r := by rw [Hr.out]; exact hjl
      have Hq : Hid (l.getD (j : Int).toNat st00 = l[j]) := Lib.hid (by simp [hjl])
      rw [Hq.out] at Htk
      obtain ⟨b2, o2, rfl, hb2, hcs⟩ := (HlV.out.keep HBV.out).get j hjl
      obtain ⟨c0, -, -⟩ := hcs
      generalize l[j].s = x at *
      generalize sortsOf l (T.take k) = X at *
      have hX40 : X.length ≤ 1000 := by omega
      clear hin Hq hok
      have hbT := up_alloc wr (.cells #[.int .i64 x] 3)
      have HOT := Lib.hid (HO.out.keep hbT)
      have HcT : Hid ((wr.alloc (.cells #[.int .i64 x] 3)).cell? ⟨wr.heap.size, 0, none⟩ = some (.int .i64 x)) := Lib.hid (by rw [cell_of_row _ _ _ _ _ _ (heap_alloc_new _ _)]; rfl)
      have HBT := Lib.hid (up HBV.out hbT)
      have hTs : (wr.alloc (.cells #[.int .i64 x] 3)).heap.size = wr.heap.size + 1 := by simp
      clear hbT
      go_wp2_with (at_builtin; refine wpList_appI HOT.out (.tmp 35) (.tmp 41) rfl rfl rfl rfl HcT.out (by omega) (by omega) ?_; intro A3 c3 U3 hO hB4; have HO4 := Lib.hid hO; have HB4 := Lib.hid (HBT.out.trans hB4); clear hO hB4)
      exact ⟨⟨k + 1, by omega, by go_num, by rw [Htk.out]; exact HO4.out, HB4.out⟩, by simp [intOf]; omega⟩
    · obtain rfl : k = T.length := by omega
      have Hf : Hid (sortsOf l (T.take T.length) = bsD l dd) := Lib.hid (by rw [List.take_length, HbsD.out])
      have hf := Hf.out
      generalize sortsOf l (T.take T.length) = Z at *
      subst hf
      obtain ⟨A2, c2, e2, hc2, his, hfar⟩ := HO.out.is
      cases e2
      have His := Lib.hid his
      clear his hfar hok Hf
      have KYr := KY.keep HBV.out
      have HBr := Lib.hid (up HB.out HBV.out)
      have KYrl := KYr.lt; have KYrc := KYr.get; have KYrf := KYr.fr
      go_upto_region 10 with (go_at_call 23; refine (Place_any A n c P B m d K A1 _ c1 (bsD l dd) _ (Hp.out.keep HBr.out) (Hg.out.keep HBr.out) His.out).mono ?_; rintro e U ⟨v2, rfl, hv2, hbu⟩; have HBU := Lib.hid (up HBr.out hbu); clear hv2 hbu)
      have hfn := HFN.out
      generalize nthE P K (bsD l dd) 0 53 = E at *
      cases h51 : (E == 51) <;> rw [h51] at hfn
      · have HF2 : Hid ((E == 53) = fullB P K l dd) := Lib.hid (by simpa using hfn)
        clear hfn HFN
        go_wp2
        go_ret
        exact ⟨ret_bool HF2.out, HBU.out⟩
      · have HF2 : Hid (true = fullB P K l dd) := Lib.hid (by simpa using hfn)
        clear hfn HFN
        go_wp2
        go_ret
        exact ⟨ret_bool HF2.out, HBU.out⟩
end Go.Proofs.YtaieidigpilbfaaGreat

