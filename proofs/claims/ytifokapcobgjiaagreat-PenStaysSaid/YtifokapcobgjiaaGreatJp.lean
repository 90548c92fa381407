/- Contracts of functions of the program and of the reference, and plain facts: a part of a proof. Own text. -/
import Derived.Test.YtifokapcobgjiaaGreatJn
set_option linter.unusedVariables false
set_option linter.unusedSimpArgs false
set_option linter.unusedSectionVars false
namespace Go.Proofs.YtifokapcobgjiaaGreat
open Go Go.RowKit
set_option maxHeartbeats 2000000
set_option maxRecDepth 100000

theorem sortsOf_snoc (l : List St) (t : List Int) (k : Nat) (hk : k < l.length) : sortsOf l (t ++ [(k : Int)]) = sortsOf l t ++ [l[k].s] := by
  unfold sortsOf
  rw [List.map_append, List.map_singleton, Int.toNat_natCast, show l.getD k st00 = l[k] by simp [hk]]
section
variable (A : Option Addr) (n c : Nat) (P : List Int) (B : Option Addr) (m d : Nat) (K : List Kd) (L : Option Addr) (r s : Nat) (l : List St)
theorem rfull_any (dd : Int) (fb : Bool) (w : World) (hp : Is w A n P) (hg : Ks w B m K) (hl : Ss w L r l) (h5 : P.length ≤ 5) (hK : ksOk K = true) (hs : ssOk K l = true) (h40 : l.length ≤ 40) (hfb : fullB P K l dd = fb) :
    Calls Tryz.prog 115 #[.agg #[.slice A n c, .slice B m d], .slice L r s, .int .i64 dd] w fun e w' => e = .returned (.bool fb) ∧ Below w.heap.size w w' := by
  have Hr : Hid (r = l.length) := Lib.hid hl.len
  have hr : r ≤ 40 := by rw [hl.len]; exact h40
  have Hp := Lib.hid hp; have Hg := Lib.hid hg; have Hl := Lib.hid hl
  have Hss := Lib.hid hs
  have HK := Lib.hid hK
  have HFB : Hid ((decide (8 < (bsD l dd).length) || !(PL P K (bsD l dd) != [])) = fb) := Lib.hid hfb
  have Hlo := Lib.hid (bsD_ok hs dd)
  clear hp hg hl hs hK hfb
  go_enter Tryz.func115, Tryz.ntmps115
  go_upto_region 1 with fail
  generalize hW : (World.alloc _ _) = W
  have HB : Hid (Below w.heap.size w W) := Lib.hid (by subst hW; go_grown)
  have KY : Bx W (w.heap.size) 25 [.slice A n c, .slice B m d] := by subst hW; repeat (first | (refine Bx.newAt _ _ _ ?_; first | rfl | (simp only [World.size_alloc]; done) | (simp only [World.size_alloc]; omega)) | refine Bx.old ?_ _)
  clear hW
  have KYl := KY.lt; have KYc := KY.get; have KYf := KY.fr
  go_wp2_with fail
  clear KYl KYc KYf
  go_loopw [7, 12] (fun v i wr => ∃ (k : Nat), k ≤ r ∧ i = .int .i64 k ∧ OI wr (w.heap.size + 1) v (sortsOf l (thK l dd k)) ∧ Below w.heap.size w wr ∧ Bx wr w.heap.size 25 [.slice A n c, .slice B m d]) (fun _ i _ => r - (intOf i).toNat)
  case atStart => exact ⟨0, by omega, rfl, OI.nil _ _, HB.out, KY⟩
  case round =>
    clear HB KY
    obtain ⟨k, hk, rfl, ho, hb, KY⟩ := hrel
    have HB := Lib.hid hb; have HO := Lib.hid ho
    obtain ⟨A1, c1, rfl⟩ := ho.shape
    have hsw := hb.size
    clear hb ho
    have hok : (sortsOf l (thK l dd k)).length ≤ k := by rw [sortsOf_len]; exact thK_len l dd k
    by_cases hlt : k < r
    · have hkl : k < l.length := by rw [← Hr.out]; exact hlt
      have HR := Lib.hid (thB_r (List.all_eq_true.1 Hss.out l[k] (List.getElem_mem hkl)) dd)
      obtain ⟨b, o, rfl, hb, hcs⟩ := (Hl.out.keep HB.out).get k hkl
      obtain ⟨c0, c1, c2⟩ := hcs
      cases hT : thB l[k] dd
      · have HK1 : Hid (sortsOf l (thK l dd (k + 1)) = sortsOf l (thK l dd k)) := Lib.hid (by rw [thK, if_neg (by simp [hkl, hT])])
        have HT : Hid (rthB l[k] dd = false) := Lib.hid (HR.out.trans hT)
        clear hT HR
        generalize l[k] = x at *
        go_wp2_with (first
          | (refine wpList_putNew 76 9 15 rfl rfl rfl rfl (by kernel_rfl) rfl (by simp [Value.oneCell']) ?_; intro U KX hbu hsu; replace HB := Lib.hid (up HB.out hbu); replace HO := Lib.hid (HO.out.keep hbu); replace KY := KY.keep hbu; have KXl := KX.lt; have KXc := KX.get; have KXf := KX.fr)
          | (go_at_call 110; refine (rIsThere_any x dd _).mono ?_; rintro e V ⟨rfl, hbv⟩; rw [HT.out]; replace HB := Lib.hid (up HB.out hbv); replace HO := Lib.hid (HO.out.keep hbv); replace KY := KY.keep hbv))
        exact ⟨⟨k + 1, by omega, by go_num, by rw [HK1.out]; exact HO.out, HB.out, KY⟩, by simp [intOf]; omega⟩
      · have HK1 : Hid (sortsOf l (thK l dd (k + 1)) = sortsOf l (thK l dd k) ++ [l[k].s]) := Lib.hid (by rw [thK, if_pos (by simp [hkl, hT]), sortsOf_snoc l _ k hkl])
        have HT : Hid (rthB l[k] dd = true) := Lib.hid (HR.out.trans hT)
        clear hT HR
        generalize l[k] = x at *
        generalize sortsOf l (thK l dd k) = Y at *
        go_wp2_with (first
          | (refine wpList_putNew 76 9 15 rfl rfl rfl rfl (by kernel_rfl) rfl (by simp [Value.oneCell']) ?_; intro U KX hbu hsu; replace HB := Lib.hid (up HB.out hbu); replace HO := Lib.hid (HO.out.keep hbu); replace KY := KY.keep hbu; have KXl := KX.lt; have KXc := KX.get; have KXf := KX.fr)
          | (go_at_call 110; refine (rIsThere_any x dd _).mono ?_; rintro e V ⟨rfl, hbv⟩; rw [HT.out]; have KXV := KX.keep hbv; clear KX KXl KXc KXf; have KXVl := KXV.lt; have KXVc := KXV.get; have KXVf := KXV.fr; have hb3 := up hbv (up_alloc V (.cells #[.int .i64 x.s] 3)); have HOV := Lib.hid (HO.out.keep hb3); have KYV := KY.keep hb3; have HB3 := Lib.hid (up HB.out hb3); have hYl := KYV.lt; have hcV : (V.alloc (.cells #[.int .i64 x.s] 3)).cell? ⟨V.heap.size, 0, none⟩ = some (.int .i64 x.s) := (by rw [cell_of_row _ _ _ _ _ _ (heap_alloc_new _ _)]; rfl); have HcV := Lib.hid hcV; clear hcV hb3)
          | (at_builtin; refine wpList_appI HOV.out (.tmp 19) (.tmp 22) rfl rfl rfl rfl HcV.out (by omega) (by omega) ?_; intro A3 c3 U3 hO hB4; have HO4 := Lib.hid hO; have HB4 := Lib.hid (HB3.out.trans (hB4.mono (by omega))); have KY4 := KYV.keepB hB4 (by omega); clear hO hB4))
        exact ⟨⟨k + 1, by omega, by go_num, by rw [HK1.out]; exact HO4.out, HB4.out, KY4⟩, by simp [intOf]; omega⟩
    · obtain rfl : k = r := by omega
      have HE2 : Hid (sortsOf l (thK l dd k) = bsD l dd) := Lib.hid (by unfold bsD thL; rw [Hr.out])
      rw [HE2.out] at hok
      have ho := HO.out
      rw [HE2.out] at ho
      obtain ⟨A2, c2, e2, hc2, his, hfar⟩ := ho.is
      cases e2
      have His := Lib.hid his
      clear his hfar ho
      rw [HE2.out]
      clear HO HE2
      have KYl := KY.lt; have KYc := KY.get; have KYf := KY.fr
      by_cases h8 : 8 < (bsD l dd).length
      · have hT : true = fb := by rw [← HFB.out, decide_eq_true h8]; rfl
        subst hT
        clear HFB Hlo His
        generalize (bsD l dd).length = z at *
        have h8i : decide ((8 : Int) < (z : Int)) = true := by simp; omega
        go_wp2
        go_ret
        exact ⟨rfl, HB.out⟩
      · cases hpl : (PL P K (bsD l dd) != [])
        · have hT : true = fb := by rw [← HFB.out, hpl]; simp
          subst hT
          have HC : Hid (∀ W, Below wr.heap.size wr W → Calls Tryz.prog 140 #[.agg #[.slice A n c, .slice B m d], .slice A1 (bsD l dd).length c1] W fun e w' => e = .returned (.bool false) ∧ Below W.heap.size W w') := Lib.hid (fun W hW => rcan_any A n c P B m d K A1 _ c1 (bsD l dd) false W ((Hp.out.keep HB.out).keep hW) ((Hg.out.keep HB.out).keep hW) (His.out.keep hW) h5 HK.out Hlo.out (by omega) hpl)
          clear HFB Hlo His hpl
          generalize (bsD l dd).length = z at *
          have h8i : decide ((8 : Int) < (z : Int)) = false := by simp; omega
          go_wp2_with (go_at_call 140; refine (HC.out _ (Below.refl _ _)).mono ?_; rintro e X ⟨rfl, hbx⟩)
          go_ret
          exact ⟨rfl, up HB.out hbx⟩
        · have hT : false = fb := by rw [← HFB.out, hpl]; simp; omega
          subst hT
          have HC : Hid (∀ W, Below wr.heap.size wr W → Calls Tryz.prog 140 #[.agg #[.slice A n c, .slice B m d], .slice A1 (bsD l dd).length c1] W fun e w' => e = .returned (.bool true) ∧ Below W.heap.size W w') := Lib.hid (fun W hW => rcan_any A n c P B m d K A1 _ c1 (bsD l dd) true W ((Hp.out.keep HB.out).keep hW) ((Hg.out.keep HB.out).keep hW) (His.out.keep hW) h5 HK.out Hlo.out (by omega) hpl)
          clear HFB Hlo His hpl
          generalize (bsD l dd).length = z at *
          have h8i : decide ((8 : Int) < (z : Int)) = false := by simp; omega
          go_wp2_with (go_at_call 140; refine (HC.out _ (Below.refl _ _)).mono ?_; rintro e X ⟨rfl, hbx⟩)
          go_ret
          exact ⟨rfl, up HB.out hbx⟩
end
end Go.Proofs.YtifokapcobgjiaaGreat

namespace Go.Proofs.YtifokapcobgjiaaGreat
open Go Go.RowKit
set_option maxHeartbeats 20000000
set_option maxRecDepth 100000

/-- The first full day of the first k stays, or -1. -/
def outK (P : List Int) (K : List Kd) (l : List St) : Nat → Int
  | 0 => -1
  | k + 1 => if (outK P K l k < 0 ∨ (l.getD k st00).i < outK P K l k) ∧ fullB P K l (l.getD k st00).i = true then (l.getD k st00).i else outK P K l k
theorem outK_in {P : List Int} {K : List Kd} {l : List St} (hs : ssOk K l = true) : ∀ k, k ≤ l.length →
    (outK P K l k = -1 ∧ ∀ j (h : j < l.length), j < k → fullB P K l l[j].i = false) ∨ ((0 ≤ outK P K l k ∧ outK P K l k ≤ 100000) ∧ fullB P K l (outK P K l k) = true ∧ (∃ x ∈ l, x.i = outK P K l k) ∧ ∀ j (h : j < l.length), j < k → fullB P K l l[j].i = true → outK P K l k ≤ l[j].i) := by
  intro k
  induction k with
  | zero => intro _; exact .inl ⟨rfl, fun j _ h => by omega⟩
  | succ k ih =>
    intro hk
    have hkl : k < l.length := by omega
    have hx := stB_in (List.all_eq_true.1 hs l[k] (List.getElem_mem hkl))
    rw [outK, show l.getD k st00 = l[k] by simp [hkl]]
    rcases ih (by omega) with ⟨h1, h2⟩ | ⟨h1, h2, h3, h4⟩
    · rw [h1]
      cases hf : fullB P K l l[k].i
      · rw [if_neg (by simp)]
        refine .inl ⟨rfl, fun j h hj => ?_⟩
        by_cases e : j = k
        · subst e; exact hf
        · exact h2 j h (by omega)
      · rw [if_pos ⟨.inl (by omega), rfl⟩]
        refine .inr ⟨hx.1, hf, ⟨l[k], List.getElem_mem hkl, rfl⟩, fun j h hj hj2 => ?_⟩
        by_cases e : j = k
        · subst e; exact Int.le_refl _
        · rw [h2 j h (by omega)] at hj2; cases hj2
    · by_cases hc : (outK P K l k < 0 ∨ l[k].i < outK P K l k) ∧ fullB P K l l[k].i = true
      · rw [if_pos hc]
        refine .inr ⟨hx.1, hc.2, ⟨l[k], List.getElem_mem hkl, rfl⟩, fun j h hj hj2 => ?_⟩
        by_cases e : j = k
        · subst e; exact Int.le_refl _
        · have := h4 j h (by omega) hj2; omega
      · rw [if_neg hc]
        refine .inr ⟨h1, h2, h3, fun j h hj hj2 => ?_⟩
        by_cases e : j = k
        · subst e
          have : ¬ (l[j].i < outK P K l j) := fun hlt => hc ⟨.inr hlt, hj2⟩
          omega
        · exact h4 j h (by omega) hj2
theorem outK_fulP {P : List Int} {K : List Kd} {l : List St} (hs : ssOk K l = true) : outK P K l l.length = (match fulP P K l with | none => -1 | some D => D) := by
  have hall : ∀ x ∈ l, ∃ j, ∃ h : j < l.length, l[j] = x := fun x hx => List.mem_iff_getElem.1 hx
  rcases outK_in (P := P) hs l.length (Nat.le_refl _) with ⟨h1, h2⟩ | ⟨h1, h2, h3, h4⟩
  · cases hf : fulP P K l with
    | none => exact h1
    | some D =>
      obtain ⟨g1, g2, -⟩ := find_first (srt_sorted _) hf
      obtain ⟨x, hx, rfl⟩ := List.mem_map.1 (srt_mem.1 g2)
      obtain ⟨j, hj, rfl⟩ := hall x hx
      rw [h2 j hj hj] at g1; cases g1
  · cases hf : fulP P K l with
    | none =>
      obtain ⟨x, hx, e⟩ := h3
      have := List.find?_eq_none.1 hf x.i (srt_mem.2 (List.mem_map.2 ⟨x, hx, rfl⟩))
      rw [e] at this
      exact absurd h2 this
    | some D =>
      obtain ⟨g1, g2, g3⟩ := find_first (srt_sorted _) hf
      obtain ⟨x, hx, e⟩ := h3
      have a1 := g3 x.i (srt_mem.2 (List.mem_map.2 ⟨x, hx, rfl⟩)) (by rw [e]; exact h2)
      obtain ⟨y, hy, rfl⟩ := List.mem_map.1 (srt_mem.1 g2)
      obtain ⟨j, hj, rfl⟩ := hall y hy
      have a2 := h4 j hj hj g1
      show outK P K l l.length = l[j].i
      omega
theorem ful_some_in {P : List Int} {K : List Kd} {l : List St} {D : Int} (h : fulP P K l = some D) (hs : ssOk K l = true) : 0 ≤ D := by
  obtain ⟨-, g2, -⟩ := find_first (srt_sorted _) h
  obtain ⟨x, hx, rfl⟩ := List.mem_map.1 (srt_mem.1 g2)
  exact (stB_in (List.all_eq_true.1 hs x hx)).1.1
section
variable (A : Option Addr) (n c : Nat) (P : List Int) (B : Option Addr) (m d : Nat) (K : List Kd) (L : Option Addr) (r s : Nat) (l : List St)
theorem rFull_any (w : World) (hp : Is w A n P) (hg : Ks w B m K) (hl : Ss w L r l) :
    Calls Tryz.prog 51 #[.agg #[.slice A n c, .slice B m d], .slice L r s] w fun e w' => e = .returned (.tuple #[.int .i64 (fulD P K l), .int .i64 (fulE P K l)]) ∧ Below w.heap.size w w' := by
  have Hr : Hid (r = l.length) := Lib.hid hl.len
  have Hp := Lib.hid hp; have Hg := Lib.hid hg; have Hl := Lib.hid hl
  clear hp hg hl
  by_cases h1 : ssE P K l = 0
  rotate_left
  · have HT : Hid (fulE P K l = ssE P K l) := Lib.hid (by unfold fulE; rw [if_neg h1])
    have HX : Hid (fulD P K l = 0) := Lib.hid (by unfold fulD; rw [if_neg h1])
    rw [HX.out, HT.out]
    have hne : (ssE P K l != 0) = true := by simpa using h1
    clear h1 HX HT
    generalize hE : ssE P K l = E at *
    have HE := Lib.hid hE
    clear hE
    go_enter Tryz.func51, Tryz.ntmps51
    go_upto_region 1 with fail
    generalize hW : (World.alloc _ _) = W
    have HB : Hid (Below w.heap.size w W) := Lib.hid (by subst hW; go_grown)
    have KY : Bx W (w.heap.size) 25 [.slice A n c, .slice B m d] := by subst hW; repeat (first | (refine Bx.newAt _ _ _ ?_; first | rfl | (simp only [World.size_alloc]; done) | (simp only [World.size_alloc]; omega)) | refine Bx.old ?_ _)
    clear hW
    have KYl := KY.lt; have KYc := KY.get; have KYf := KY.fr
    go_wp2_with (go_at_call 57; refine (rcheckStays_any A n c P B m d K L r s l _ (Hp.out.keep HB.out) (Hg.out.keep HB.out) (Hl.out.keep HB.out)).mono ?_; rw [HE.out]; rintro e X ⟨rfl, hbx⟩; clear KYl KYc KYf; replace KY := KY.keep hbx; have KYl := KY.lt; have KYc := KY.get; have KYf := KY.fr; replace HB := Lib.hid (up HB.out hbx); clear hbx)
    go_ret2
    exact ⟨rfl, HB.out⟩
  obtain ⟨hy, h40, hss⟩ := ssE_0 h1
  obtain ⟨h5, hP, hK⟩ := yOk_k hy
  have hr : r ≤ 40 := by rw [Hr.out]; exact h40
  have HO := Lib.hid (outK_in (P := P) (K := K) hss)
  have HF := Lib.hid (outK_fulP (P := P) hss)
  have Hss := Lib.hid hss; have HK := Lib.hid hK
  have HE := Lib.hid h1
  have HD : Hid (fulD P K l = (fulP P K l).getD 0) := Lib.hid (by unfold fulD; rw [if_pos h1])
  have HX : Hid (fulE P K l = if (fulP P K l).isSome = true then 0 else 3) := Lib.hid (by unfold fulE; rw [if_pos h1])
  rw [HD.out, HX.out]
  clear h1 HD HX hy hP hK hss
  go_enter Tryz.func51, Tryz.ntmps51
  go_upto_region 1 with fail
  generalize hW : (World.alloc _ _) = W
  have HB : Hid (Below w.heap.size w W) := Lib.hid (by subst hW; go_grown)
  have KY : Bx W (w.heap.size) 25 [.slice A n c, .slice B m d] := by subst hW; repeat (first | (refine Bx.newAt _ _ _ ?_; first | rfl | (simp only [World.size_alloc]; done) | (simp only [World.size_alloc]; omega)) | refine Bx.old ?_ _)
  clear hW
  have KYl := KY.lt; have KYc := KY.get; have KYf := KY.fr
  go_wp2_with (go_at_call 57; refine (rcheckStays_any A n c P B m d K L r s l _ (Hp.out.keep HB.out) (Hg.out.keep HB.out) (Hl.out.keep HB.out)).mono ?_; rw [HE.out]; rintro e X ⟨rfl, hbx⟩; clear KYl KYc KYf; replace KY := KY.keep hbx; have KYl := KY.lt; have KYc := KY.get; have KYf := KY.fr; replace HB := Lib.hid (up HB.out hbx); clear hbx)
  clear KYl KYc KYf
  go_loopw [7, 18] (fun o i wr => ∃ (k : Nat), k ≤ r ∧ i = .int .i64 k ∧ o = .int .i64 (outK P K l k) ∧ Below w.heap.size w wr ∧ Bx wr w.heap.size 25 [.slice A n c, .slice B m d]) (fun _ i _ => r - (intOf i).toNat)
  case atStart => exact ⟨0, by omega, rfl, rfl, HB.out, KY⟩
  case round =>
    clear HB KY
    obtain ⟨k, hk, rfl, rfl, hb, KY⟩ := hrel
    have HB := Lib.hid hb
    have hin : -1 ≤ outK P K l k ∧ outK P K l k ≤ 100000 := by rcases HO.out k (by rw [← Hr.out]; exact hk) with h | h <;> omega
    clear hb
    by_cases hlt : k < r
    · have hkl : k < l.length := by rw [← Hr.out]; exact hlt
      have Hnx : Hid (outK P K l (k + 1) = if (outK P K l k < 0 ∨ l[k].i < outK P K l k) ∧ fullB P K l l[k].i = true then l[k].i else outK P K l k) := Lib.hid (by rw [outK, show l.getD k st00 = l[k] by simp [hkl]])
      obtain ⟨b, o, rfl, hb, hcs⟩ := (Hl.out.keep HB.out).get k hkl
      obtain ⟨c0, c1, c2⟩ := hcs
      generalize outK P K l k = O at *
      have HC : Hid (∀ fb, fullB P K l l[k].i = fb → ∀ W, Below w.heap.size w W → Calls Tryz.prog 115 #[.agg #[.slice A n c, .slice B m d], .slice (some ⟨b, o, none⟩) r s, .int .i64 l[k].i] W fun e w' => e = .returned (.bool fb) ∧ Below W.heap.size W w') := Lib.hid (fun fb hfb W hW => by
        exact rfull_any A n c P B m d K _ r s l _ fb W (Hp.out.keep hW) (Hg.out.keep hW) (Hl.out.keep hW) h5 HK.out Hss.out h40 hfb)
      by_cases hO : O < 0
      · cases hf : fullB P K l l[k].i
        · have HN : Hid (outK P K l (k + 1) = O) := Lib.hid (by rw [Hnx.out, if_neg (by simp [hf])])
          have HC2 := Lib.hid (HC.out false hf)
          clear hf HC Hnx
          generalize l[k] = x at *
          go_wp2_with (first
            | (refine wpList_putNew 76 9 21 rfl rfl rfl rfl (by kernel_rfl) rfl (by simp [Value.oneCell']) ?_; intro U KX hbu hsu; have hwl := KY.lt; have KYU := KY.keep hbu; have HBU := Lib.hid (up HB.out hbu); have KXl := KX.lt; have KXc := KX.get; have KXf := KX.fr; have KYUl := KYU.lt; have KYUc := KYU.get; have KYUf := KYU.fr)
            | (go_at_call 115; refine (HC2.out _ HBU.out).mono ?_; rintro e V ⟨rfl, hbv⟩; have HBV := Lib.hid (up HBU.out hbv); have KXV := KX.keep hbv; have KYV := KYU.keep hbv; clear KX KXl KXc KXf KYU KYUl KYUc KYUf; have KXVl := KXV.lt; have KXVc := KXV.get; have KXVf := KXV.fr))
          exact ⟨⟨k + 1, by omega, by go_num, by rw [HN.out], HBV.out, KYV⟩, by simp [intOf]; omega⟩
        · have HN : Hid (outK P K l (k + 1) = l[k].i) := Lib.hid (by rw [Hnx.out, if_pos ⟨.inl hO, hf⟩])
          have HC2 := Lib.hid (HC.out true hf)
          clear hf HC Hnx
          generalize l[k] = x at *
          go_wp2_with (first
            | (refine wpList_putNew 76 9 21 rfl rfl rfl rfl (by kernel_rfl) rfl (by simp [Value.oneCell']) ?_; intro U KX hbu hsu; have hwl := KY.lt; have KYU := KY.keep hbu; have HBU := Lib.hid (up HB.out hbu); have KXl := KX.lt; have KXc := KX.get; have KXf := KX.fr; have KYUl := KYU.lt; have KYUc := KYU.get; have KYUf := KYU.fr)
            | (go_at_call 115; refine (HC2.out _ HBU.out).mono ?_; rintro e V ⟨rfl, hbv⟩; have HBV := Lib.hid (up HBU.out hbv); have KXV := KX.keep hbv; have KYV := KYU.keep hbv; clear KX KXl KXc KXf KYU KYUl KYUc KYUf; have KXVl := KXV.lt; have KXVc := KXV.get; have KXVf := KXV.fr))
          exact ⟨⟨k + 1, by omega, by go_num, by rw [HN.out], HBV.out, KYV⟩, by simp [intOf]; omega⟩
      · by_cases hi : l[k].i < O
        · cases hf : fullB P K l l[k].i
          · have HN : Hid (outK P K l (k + 1) = O) := Lib.hid (by rw [Hnx.out, if_neg (by simp [hf])])
            have HC2 := Lib.hid (HC.out false hf)
            clear hf HC Hnx
            generalize l[k] = x at *
            have hO' : decide (O < 0) = false := by simp; omega
            go_wp2_with (first
              | (refine wpList_putNew 76 9 21 rfl rfl rfl rfl (by kernel_rfl) rfl (by simp [Value.oneCell']) ?_; intro U KX hbu hsu; have hwl := KY.lt; have KYU := KY.keep hbu; have HBU := Lib.hid (up HB.out hbu); have KXl := KX.lt; have KXc := KX.get; have KXf := KX.fr; have KYUl := KYU.lt; have KYUc := KYU.get; have KYUf := KYU.fr)
              | (go_at_call 115; refine (HC2.out _ HBU.out).mono ?_; rintro e V ⟨rfl, hbv⟩; have HBV := Lib.hid (up HBU.out hbv); have KXV := KX.keep hbv; have KYV := KYU.keep hbv; clear KX KXl KXc KXf KYU KYUl KYUc KYUf; have KXVl := KXV.lt; have KXVc := KXV.get; have KXVf := KXV.fr))
            exact ⟨⟨k + 1, by omega, by go_num, by rw [HN.out], HBV.out, KYV⟩, by simp [intOf]; omega⟩
          · have HN : Hid (outK P K l (k + 1) = l[k].i) := Lib.hid (by rw [Hnx.out, if_pos ⟨.inr hi, hf⟩])
            have HC2 := Lib.hid (HC.out true hf)
            clear hf HC Hnx
            generalize l[k] = x at *
            have hO' : decide (O < 0) = false := by simp; omega
            go_wp2_with (first
              | (refine wpList_putNew 76 9 21 rfl rfl rfl rfl (by kernel_rfl) rfl (by simp [Value.oneCell']) ?_; intro U KX hbu hsu; have hwl := KY.lt; have KYU := KY.keep hbu; have HBU := Lib.hid (up HB.out hbu); have KXl := KX.lt; have KXc := KX.get; have KXf := KX.fr; have KYUl := KYU.lt; have KYUc := KYU.get; have KYUf := KYU.fr)
              | (go_at_call 115; refine (HC2.out _ HBU.out).mono ?_; rintro e V ⟨rfl, hbv⟩; have HBV := Lib.hid (up HBU.out hbv); have KXV := KX.keep hbv; have KYV := KYU.keep hbv; clear KX KXl KXc KXf KYU KYUl KYUc KYUf; have KXVl := KXV.lt; have KXVc := KXV.get; have KXVf := KXV.fr))
            exact ⟨⟨k + 1, by omega, by go_num, by rw [HN.out], HBV.out, KYV⟩, by simp [intOf]; omega⟩
        · have HN : Hid (outK P K l (k + 1) = O) := Lib.hid (by rw [Hnx.out, if_neg (fun h => by omega)])
          clear HC Hnx
          generalize l[k] = x at *
          have hO' : decide (O < 0) = false := by simp; omega
          have hi' : decide (x.i < O) = false := by simp; omega
          clear hO hi
          go_wp2_with (refine wpList_putNew 76 9 21 rfl rfl rfl rfl (by kernel_rfl) rfl (by simp [Value.oneCell']) ?_; intro U KX hbu hsu; have KYU := KY.keep hbu; have HBU := Lib.hid (up HB.out hbu); have KXl := KX.lt; have KXc := KX.get; have KXf := KX.fr)
          exact ⟨⟨k + 1, by omega, by go_num, by rw [HN.out], HBU.out, KYU⟩, by simp [intOf]; omega⟩
    · obtain rfl : k = r := by omega
      have hF := HF.out
      rw [← Hr.out] at hF
      have hoo := HO.out k (by rw [← Hr.out]; omega)
      generalize outK P K l k = O at *
      cases hp : fulP P K l with
      | none =>
        rw [hp] at hF
        subst hF
        go_wp2
        go_ret2
        exact ⟨rfl, HB.out⟩
      | some D =>
        rw [hp] at hF
        have hD : O = D := hF
        subst hD
        have hO0 : ¬ O < 0 := by
          rcases hoo with h | h
          · have := (ful_some_in hp Hss.out); omega
          · omega
        clear hoo hF
        go_wp2
        go_ret2
        exact ⟨rfl, HB.out⟩
end
end Go.Proofs.YtifokapcobgjiaaGreat

