/- PenFewest: whatever the yard, the beasts and the placement, the law returns true, and its arguments read as before. No condition. -/
import Derived.Test.YtollccpghhgpfaaGreatJk
set_option linter.unusedVariables false
set_option linter.unusedSimpArgs false
set_option linter.unusedSectionVars false
namespace Go.Proofs.YtollccpghhgpfaaGreat
open Go Go.ChangeShapes Go.WideShapes Go.RowKit Go.Deep
set_option maxHeartbeats 4000000
set_option maxRecDepth 100000

/-- None of the first k numbers is x. -/
def freshB (p : List Int) (x : Int) (k : Nat) : Bool := (p.take k).all (· != x)
theorem freshB_succ {p : List Int} {x : Int} {k : Nat} (hk : k < p.length) : freshB p x (k + 1) = (freshB p x k && (p[k] != x)) := by
  unfold freshB
  rw [List.take_succ_eq_append_getElem hk, List.all_append]; simp
theorem freshB_mem {p : List Int} {x : Int} {k : Nat} : freshB p x k = !decide (x ∈ p.take k) := by
  unfold freshB
  rw [Bool.eq_iff_iff]
  simp [List.all_eq_true]
  constructor
  · intro h hx; exact h x hx rfl
  · intro h y hy e; subst e; exact h hy
theorem Used_any (L : Option Addr) (r s : Nat) (p : List Int) (w : World) (hl : Is w L r p) :
    Calls Tryz.prog 61 #[.slice L r s] w fun e w' => e = .returned (.int .i64 (usd p)) ∧ Below w.heap.size w w' := by
  have hn := hl.small
  have Hn : Hid (r = p.length) := Lib.hid hl.len
  have Hl := Lib.hid hl
  clear hl
  go_enter Tryz.func61, Tryz.ntmps61
  go_wp2_with fail
  go_loopw [3, 9] (fun v i wr => ∃ (k : Nat), k ≤ r ∧ i = .int .i64 k ∧ v = .int .i64 (usdK p k) ∧ Below w.heap.size w wr) (fun _ i _ => r - (intOf i).toNat)
  case atStart => exact ⟨0, by omega, rfl, rfl, Below.refl _ _⟩
  case round =>
    obtain ⟨k, hk, rfl, rfl, hb⟩ := hrel
    have HB := Lib.hid hb
    clear hb
    by_cases hlt : k < r
    · have hkl : k < p.length := by rw [← Hn.out]; exact hlt
      have HK : Hid (usdK p (k + 1) = if freshB p p[k] k = true then usdK p k + 1 else usdK p k) := Lib.hid (by
        rw [usdK, freshB_mem, show p.getD k 0 = p[k] by simp [hkl]]
        by_cases e : p[k] ∈ p.take k <;> simp [e])
      have hui := usdK_in p k
      have Hx : Hid (∃ x, x = p[k]) := Lib.hid ⟨_, rfl⟩
      go_wp2_with fail
      go_loopw [5, 6] (fun f j wr => ∃ (q : Nat), q ≤ k ∧ j = .int .i64 q ∧ f = .bool (freshB p p[k] q) ∧ Below w.heap.size w wr) (fun _ j _ => k - (intOf j).toNat)
      case atStart => exact ⟨0, by omega, rfl, rfl, HB.out⟩
      case round =>
        clear HB
        obtain ⟨q, hq, rfl, rfl, hb⟩ := hrel
        have HB := Lib.hid hb
        clear hb
        by_cases hqk : q < k
        · have hql : q < p.length := by omega
          have hqr : q < r := by omega
          have HF : Hid (freshB p p[k] (q + 1) = (freshB p p[k] q && (p[q] != p[k]))) := Lib.hid (freshB_succ hql)
          obtain ⟨b1, o1, rfl, hb1, hc1⟩ := (Hl.out.keep HB.out).get q hql
          obtain ⟨b2, o2, e2, hb2, hc2⟩ := (Hl.out.keep HB.out).get k hkl
          cases e2
          generalize freshB p p[k] q = f at *
          generalize hy : p[q] = y at hc1 HF
          generalize hx : p[k] = x at hc2 HF ⊢
          cases f
          all_goals
            go_upto_region 9 with fail
            refine wp_region_grow (by kernel_rfl) (by kernel_rfl) ?_
            repeat (go_big_quiet_step ((fail)))
            refine wpQuiet_nil ?_
            intro z
            have hb3 := grow_below wr z
            generalize grow wr z = Y at *
            replace HB := Lib.hid (up HB.out hb3)
            clear hc1 hc2 hb1 hb2 hb3
            go_wp2
            exact ⟨⟨q + 1, by omega, by go_num, by rw [HF.out]; rfl, HB.out⟩, by simp [intOf]; omega⟩
        · obtain rfl : q = k := by omega
          cases hF : freshB p p[q] q
          · have HK2 : Hid (usdK p (q + 1) = usdK p q) := Lib.hid (by rw [HK.out, hF]; rfl)
            clear hF
            go_wp2
            exact ⟨⟨q + 1, by omega, by go_num, by rw [HK2.out], HB.out⟩, by simp [intOf]; omega⟩
          · have HK2 : Hid (usdK p (q + 1) = usdK p q + 1) := Lib.hid (by rw [HK.out, hF]; rfl)
            clear hF
            go_wp2
            exact ⟨⟨q + 1, by omega, by go_num, by rw [HK2.out], HB.out⟩, by simp [intOf]; omega⟩
    · obtain rfl : k = r := by omega
      have HK : Hid (usdK p k = usd p) := Lib.hid (by unfold usd; rw [Hn.out])
      go_wp2
      go_ret
      exact ⟨ret_int HK.out, HB.out⟩
section
variable (A : Option Addr) (n c : Nat) (P : List Int) (B : Option Addr) (m d : Nat) (K : List Kd) (L : Option Addr) (r s : Nat) (l : List Int) (C : Option Addr) (u v : Nat) (p : List Int) (w : World) (hp : Is w A n P) (hg : Ks w B m K) (hl : Is w L r l) (hc : Is w C u p)
include hp hg hl hc
theorem penFewest_no (h0 : sE P K l ≠ 0) :
    Calls Tryz.prog 12 #[.agg #[.slice A n c, .slice B m d], .slice L r s, .slice C u v] w fun e w' => e = .returned (.bool true) ∧ Below w.heap.size w w' := by
  have Hp := Lib.hid hp; have Hg := Lib.hid hg; have Hl := Lib.hid hl
  have HR : Hid ((sE P K l == 0) = false) := Lib.hid (by simpa using h0)
  clear hp hg hl hc h0
  go_enter Tryz.func12, Tryz.ntmps12
  go_upto_region 1 with fail
  generalize hW : (World.alloc _ _) = W
  have HB : Hid (Below w.heap.size w W) := Lib.hid (by subst hW; go_grown)
  have KY : Bx W (w.heap.size) 25 [.slice A n c, .slice B m d] := by subst hW; repeat (first | (refine Bx.newAt _ _ _ ?_; first | rfl | (simp only [World.size_alloc]; done) | (simp only [World.size_alloc]; omega)) | refine Bx.old ?_ _)
  clear hW
  have KYl := KY.lt; have KYc := KY.get; have KYf := KY.fr
  go_wp2_with (first
    | (go_at_call 58; refine (right_any A n c P B m d K L r s l _ (Hp.out.keep HB.out) (Hg.out.keep HB.out) (Hl.out.keep HB.out)).mono ?_; rintro e X ⟨rfl, hbx⟩; rw [HR.out]; clear KYl KYc KYf; replace KY := KY.keep hbx; have KYl := KY.lt; have KYc := KY.get; have KYf := KY.fr; replace HB := Lib.hid (up HB.out hbx); clear hbx)
    | (go_at_call 22; refine (sane_any _).mono ?_; rintro e X2 ⟨rfl, hbx⟩; clear KYl KYc KYf; replace KY := KY.keep hbx; have KYl := KY.lt; have KYc := KY.get; have KYf := KY.fr; replace HB := Lib.hid (up HB.out hbx); clear hbx))
  go_ret
  exact ⟨rfl, HB.out⟩
theorem penFewest_none (h0 : sE P K l = 0) (hF : fewE P K l = 53) (hN : nthE P K l 0 53 = 53) (hE : plE P K l p ≠ 0) :
    Calls Tryz.prog 12 #[.agg #[.slice A n c, .slice B m d], .slice L r s, .slice C u v] w fun e w' => e = .returned (.bool true) ∧ Below w.heap.size w w' := by
  have Hp := Lib.hid hp; have Hg := Lib.hid hg; have Hl := Lib.hid hl; have Hc := Lib.hid hc
  have HR : Hid ((sE P K l == 0) = true) := Lib.hid (by simpa using h0)
  have HF := Lib.hid hF; have HN := Lib.hid hN
  have hEb : (plE P K l p == 0) = false := by simpa using hE
  generalize hEp : plE P K l p = E at *
  have HEp := Lib.hid hEp
  clear hp hg hl hc h0 hF hN hE hEp
  go_enter Tryz.func12, Tryz.ntmps12
  go_upto_region 1 with fail
  generalize hW : (World.alloc _ _) = W
  have HB : Hid (Below w.heap.size w W) := Lib.hid (by subst hW; go_grown)
  have KY : Bx W (w.heap.size) 25 [.slice A n c, .slice B m d] := by subst hW; repeat (first | (refine Bx.newAt _ _ _ ?_; first | rfl | (simp only [World.size_alloc]; done) | (simp only [World.size_alloc]; omega)) | refine Bx.old ?_ _)
  clear hW
  have KYl := KY.lt; have KYc := KY.get; have KYf := KY.fr
  go_wp2_with (first
    | (go_at_call 58; refine (right_any A n c P B m d K L r s l _ (Hp.out.keep HB.out) (Hg.out.keep HB.out) (Hl.out.keep HB.out)).mono ?_; rintro e X ⟨rfl, hbx⟩; rw [HR.out]; clear KYl KYc KYf; replace KY := KY.keep hbx; have KYl := KY.lt; have KYc := KY.get; have KYf := KY.fr; replace HB := Lib.hid (up HB.out hbx); clear hbx)
    | (go_at_call 44; refine (Fewest_any A n c P B m d K L r s l _ (Hp.out.keep HB.out) (Hg.out.keep HB.out) (Hl.out.keep HB.out)).mono ?_; rintro e X1 ⟨v1, rfl, hv1, hbx⟩; rw [HF.out]; clear hv1; clear KYl KYc KYf; replace KY := KY.keep hbx; have KYl := KY.lt; have KYc := KY.get; have KYf := KY.fr; replace HB := Lib.hid (up HB.out hbx); clear hbx)
    | (go_at_call 23; refine (Place_any A n c P B m d K L r s l _ (Hp.out.keep HB.out) (Hg.out.keep HB.out) (Hl.out.keep HB.out)).mono ?_; rintro e X3 ⟨v2, rfl, hv2, hbx⟩; rw [HN.out]; clear hv2; clear KYl KYc KYf; replace KY := KY.keep hbx; have KYl := KY.lt; have KYc := KY.get; have KYf := KY.fr; replace HB := Lib.hid (up HB.out hbx); clear hbx)
    | (go_at_call 40; refine (checkPlace_any A n c P B m d K L r s l C u v p _ (Hp.out.keep HB.out) (Hg.out.keep HB.out) (Hl.out.keep HB.out) (Hc.out.keep HB.out)).mono ?_; rintro e X8 ⟨rfl, hbx⟩; rw [HEp.out]; clear KYl KYc KYf; replace KY := KY.keep hbx; have KYl := KY.lt; have KYc := KY.get; have KYf := KY.fr; replace HB := Lib.hid (up HB.out hbx); clear hbx)
    | (go_at_call 22; refine (sane_any _).mono ?_; rintro e X2 ⟨rfl, hbx⟩; clear KYl KYc KYf; replace KY := KY.keep hbx; have KYl := KY.lt; have KYc := KY.get; have KYf := KY.fr; replace HB := Lib.hid (up HB.out hbx); clear hbx))
  go_ret
  exact ⟨rfl, HB.out⟩
theorem penFewest_some (a : List Int) (h0 : sE P K l = 0) (hF : fewE P K l = 0) (hA : fewL P K l = a) (hN : nthE P K l 0 53 = 0) (ha : plE P K l a = 0) (hx : plE P K l p = 0 → usd a < usd p ∨ (usd a = usd p ∧ ahB p a = false)) :
    Calls Tryz.prog 12 #[.agg #[.slice A n c, .slice B m d], .slice L r s, .slice C u v] w fun e w' => e = .returned (.bool true) ∧ Below w.heap.size w w' := by
  have Hp := Lib.hid hp; have Hg := Lib.hid hg; have Hl := Lib.hid hl; have Hc := Lib.hid hc
  have HR : Hid ((sE P K l == 0) = true) := Lib.hid (by simpa using h0)
  have HF := Lib.hid hF; have HN := Lib.hid hN; have HA := Lib.hid hA; have Ha := Lib.hid ha
  generalize hEp : plE P K l p = E at *
  have HEp := Lib.hid hEp
  have Hx := Lib.hid hx
  clear hp hg hl hc h0 hF hN hEp hA ha hx
  generalize hua : usd a = ua at *
  generalize hup : usd p = up' at *
  have Hua := Lib.hid hua; have Hup := Lib.hid hup
  clear hua hup
  go_enter Tryz.func12, Tryz.ntmps12
  go_upto_region 1 with fail
  generalize hW : (World.alloc _ _) = W
  have HB : Hid (Below w.heap.size w W) := Lib.hid (by subst hW; go_grown)
  have KY : Bx W (w.heap.size) 25 [.slice A n c, .slice B m d] := by subst hW; repeat (first | (refine Bx.newAt _ _ _ ?_; first | rfl | (simp only [World.size_alloc]; done) | (simp only [World.size_alloc]; omega)) | refine Bx.old ?_ _)
  clear hW
  have KYl := KY.lt; have KYc := KY.get; have KYf := KY.fr
  go_upto_region 6 with (first
    | (go_at_call 58; refine (right_any A n c P B m d K L r s l _ (Hp.out.keep HB.out) (Hg.out.keep HB.out) (Hl.out.keep HB.out)).mono ?_; rintro e X ⟨rfl, hbx⟩; rw [HR.out]; clear KYl KYc KYf; replace KY := KY.keep hbx; have KYl := KY.lt; have KYc := KY.get; have KYf := KY.fr; replace HB := Lib.hid (up HB.out hbx); clear hbx)
    | (go_at_call 44; refine (Fewest_any A n c P B m d K L r s l _ (Hp.out.keep HB.out) (Hg.out.keep HB.out) (Hl.out.keep HB.out)).mono ?_; rintro e X1 ⟨v1, rfl, hv1, hbx⟩; rw [HF.out]; rw [HA.out] at hv1; obtain ⟨C1, k1, s1, rfl, hk1, h1, -⟩ := hv1; have H1 := Lib.hid h1; clear h1; clear KYl KYc KYf; replace KY := KY.keep hbx; have KYl := KY.lt; have KYc := KY.get; have KYf := KY.fr; replace HB := Lib.hid (up HB.out hbx); clear hbx)
    | (go_at_call 23; refine (Place_any A n c P B m d K L r s l _ (Hp.out.keep HB.out) (Hg.out.keep HB.out) (Hl.out.keep HB.out)).mono ?_; rintro e X3 ⟨v2, rfl, hv2, hbx⟩; rw [HN.out]; clear hv2; replace H1 := Lib.hid (H1.out.keep hbx); clear KYl KYc KYf; replace KY := KY.keep hbx; have KYl := KY.lt; have KYc := KY.get; have KYf := KY.fr; replace HB := Lib.hid (up HB.out hbx); clear hbx)
    | (go_at_call 40; refine (checkPlace_any A n c P B m d K L r s l C u v p _ (Hp.out.keep HB.out) (Hg.out.keep HB.out) (Hl.out.keep HB.out) (Hc.out.keep HB.out)).mono ?_; rintro e X8 ⟨rfl, hbx⟩; rw [HEp.out]; replace H1 := Lib.hid (H1.out.keep hbx); clear KYl KYc KYf; replace KY := KY.keep hbx; have KYl := KY.lt; have KYc := KY.get; have KYf := KY.fr; replace HB := Lib.hid (up HB.out hbx); clear hbx))
  go_upto_region 10 with (go_at_call 40; refine (checkPlace_any A n c P B m d K L r s l C1 k1 s1 a _ (Hp.out.keep HB.out) (Hg.out.keep HB.out) (Hl.out.keep HB.out) H1.out).mono ?_; rintro e X6 ⟨rfl, hbx⟩; rw [Ha.out]; replace H1 := Lib.hid (H1.out.keep hbx); clear KYl KYc KYf; replace KY := KY.keep hbx; have KYl := KY.lt; have KYc := KY.get; have KYf := KY.fr; replace HB := Lib.hid (up HB.out hbx); clear hbx)
  go_upto_region 11 with (go_at_call 61; refine (Used_any C1 k1 s1 a _ H1.out).mono ?_; rintro e X9 ⟨rfl, hbx⟩; rw [Hua.out]; replace H1 := Lib.hid (H1.out.keep hbx); clear KYl KYc KYf; replace KY := KY.keep hbx; have KYl := KY.lt; have KYc := KY.get; have KYf := KY.fr; replace HB := Lib.hid (up HB.out hbx); clear hbx)
  go_upto_region 12 with (go_at_call 61; refine (Used_any C u v p _ (Hc.out.keep HB.out)).mono ?_; rintro e X10 ⟨rfl, hbx⟩; rw [Hup.out]; replace H1 := Lib.hid (H1.out.keep hbx); clear KYl KYc KYf; replace KY := KY.keep hbx; have KYl := KY.lt; have KYc := KY.get; have KYf := KY.fr; replace HB := Lib.hid (up HB.out hbx); clear hbx)
  by_cases hE0 : E = 0
  · have hEb : (E == 0) = true := by simpa using hE0
    rcases Hx.out hE0 with h1 | ⟨h1, h2⟩
    · have hb1 : decide (ua < up') = true := by simpa using h1
      go_wp2_with (go_at_call 22; refine (sane_any _).mono ?_; rintro e X2 ⟨rfl, hbx⟩; clear KYl KYc KYf; replace KY := KY.keep hbx; have KYl := KY.lt; have KYc := KY.get; have KYf := KY.fr; replace HB := Lib.hid (up HB.out hbx); clear hbx)
      go_ret
      exact ⟨rfl, HB.out⟩
    · have hb1 : decide (ua < up') = false := by simp; omega
      have hb2 : (up' == ua) = true := by simp; omega
      have H2 := Lib.hid h2
      clear h2
      go_wp2_with (first
        | (go_at_call 60; refine (ahead_any C u v p C1 k1 s1 a _ (Hc.out.keep HB.out) H1.out).mono ?_; rintro e X11 ⟨rfl, hbx⟩; rw [H2.out]; clear KYl KYc KYf; replace KY := KY.keep hbx; have KYl := KY.lt; have KYc := KY.get; have KYf := KY.fr; replace HB := Lib.hid (up HB.out hbx); clear hbx)
        | (go_at_call 22; refine (sane_any _).mono ?_; rintro e X2 ⟨rfl, hbx⟩; clear KYl KYc KYf; replace KY := KY.keep hbx; have KYl := KY.lt; have KYc := KY.get; have KYf := KY.fr; replace HB := Lib.hid (up HB.out hbx); clear hbx))
      go_ret
      exact ⟨rfl, HB.out⟩
  · have hEb : (E == 0) = false := by simpa using hE0
    go_wp2_with (go_at_call 22; refine (sane_any _).mono ?_; rintro e X2 ⟨rfl, hbx⟩; clear KYl KYc KYf; replace KY := KY.keep hbx; have KYl := KY.lt; have KYc := KY.get; have KYf := KY.fr; replace HB := Lib.hid (up HB.out hbx); clear hbx)
    go_ret
    exact ⟨rfl, HB.out⟩
theorem penFewest_any :
    Calls Tryz.prog 12 #[.agg #[.slice A n c, .slice B m d], .slice L r s, .slice C u v] w fun e w' => e = .returned (.bool true) ∧ Below w.heap.size w w' := by
  by_cases h0 : sE P K l = 0
  rotate_left
  · exact penFewest_no A n c P B m d K L r s l C u v p w hp hg hl hc h0
  cases hf : fewP P K l with
  | none =>
    have hG := few_none hf
    refine penFewest_none A n c P B m d K L r s l C u v p w hp hg hl hc h0 ?_ ?_ ?_
    · unfold fewE; rw [if_pos h0, hf]; rfl
    · unfold nthE; rw [if_pos h0, hG]; rfl
    · intro h
      have := (PL_mem h0).2 h
      rw [hG] at this; simp at this
  | some a =>
    obtain ⟨h1, h2⟩ := few_some h0 hf
    have hm := (PL_mem h0).2 h1
    have hlen : 0 < (PL P K l).length := List.length_pos_of_mem hm
    refine penFewest_some A n c P B m d K L r s l C u v p w hp hg hl hc a h0 ?_ ?_ ?_ h1 (h2 p)
    · unfold fewE; rw [if_pos h0, hf]; rfl
    · unfold fewL; rw [if_pos h0, hf]; rfl
    · unfold nthE; rw [if_pos h0, if_pos (by simp [hlen])]
end

theorem penFewest_lifted (os : Os) (started : os.Started) (H : Type) (enc : TypeId × Value → H) :
    ReturnsInHanded {} Tryz.checked os 12 .any (Rows.penFewestSpec.pre6 enc Tryz.prog Tryz.f12 Rows.penFewestRow.domain false) (Rows.penFewestSpec.post enc Tryz.prog Tryz.f12 false true false false) := by
  refine law_lift started (by kernel_rfl) Tryz.func12 (ChangeSpec.witness6 (enc := enc) (C := Tryz.checked) false ⟨#[], #[.agg #[.slice none 0 0, .slice none 0 0], .slice none 0 0, .slice none 0 0], []⟩ 8 (by kernel_rfl) (by kernel_rfl) (by kernel_rfl) (by kernel_rfl))
    rfl rfl (fun ds h => ?_) ?_ ?_
  · match ds, h with
    | [a, b, c], _ => rfl
  · rw [Tryz.params12]; intro t ht; simp at ht; rcases ht with rfl | rfl <;> exact ⟨by kernel_rfl, of_decide_eq_true (by kernel_rfl)⟩
  · intro W base args ds p hval hA hz
    rw [Tryz.params12] at hA hval hz
    obtain ⟨v0, v1, v2, d0, d1, d2, p0, p1, p2, rfl, rfl, rfl, h0, h1, h2⟩ := trodAll_three hA
    obtain ⟨A, n, c, P, B, m, d, K, rfl, hp, hg, _, _⟩ := open_yard (hval 0 25 v0 rfl rfl) h0 (hz 0 25 d0 rfl rfl)
    obtain ⟨L, r, s, l, rfl, hl, _, _, _⟩ := open_is (hval 1 22 v1 rfl rfl) h1 (hz 1 22 d1 rfl rfl)
    obtain ⟨C, u, v, q, rfl, hc, _, _, _⟩ := open_is (hval 2 22 v2 rfl rfl) h2 (hz 2 22 d2 rfl rfl)
    exact penFewest_any A n c P B m d K L r s l C u v q W hp hg hl hc

theorem penFewest_holds : Rows.PenFewestSaid :=
  OpenClaim.holds_of_wide 12 Tryz.f12 rfl rfl rfl rfl rfl rfl rfl ⟨rfl, rfl, rfl, rfl, rfl⟩ rfl rfl rfl rfl rfl (by kernel_rfl) Tryz.func12 (by kernel_rfl)
    (of_decide_eq_true (by kernel_rfl)) (by unfold Func.isWrapper; first | (rw [if_pos (by decide +kernel)]; kernel_rfl) | (rw [if_neg (by decide +kernel)]; exact ⟨rfl, rfl⟩))
    (fun os started H enc _ => penFewest_lifted os started H enc)
end Go.Proofs.YtollccpghhgpfaaGreat

