/- Contracts of functions of the program and of the reference, and plain facts: a part of a proof. Own text. -/
import Derived.Test.YtifokapcobgjiaaGreatJe
import Derived.Test.YtifokapcobgjiaaGreatJf
import Derived.Test.YtifokapcobgjiaaGreatJh
import Derived.Test.YtifokapcobgjiaaGreatJk
import Derived.Test.YtifokapcobgjiaaGreatJn
import Derived.Test.YtifokapcobgjiaaGreatJq
import Derived.Test.YtifokapcobgjiaaGreatJs
set_option linter.unusedVariables false
set_option linter.unusedSimpArgs false
set_option linter.unusedSectionVars false
namespace Go.Proofs.YtifokapcobgjiaaGreat
open Go Go.RowKit
set_option maxHeartbeats 2000000
set_option maxRecDepth 100000

/-- The sorts of some beasts. -/
def someI (l b : List Int) : List Int := b.map fun i => l.getD i.toNat 0
theorem someI_len (l b : List Int) : (someI l b).length = b.length := by simp [someI]
theorem bsL_some {K : List Kd} {l b : List Int} (h : idxOk l.length b) : bsL K (someI l b) = someL (bsL K l) b := by
  unfold bsL someI someL
  rw [List.map_map]
  apply List.map_congr_left
  intro i hi
  have := h i hi
  simp [show i.toNat < l.length by omega]
theorem lOk_some {K : List Kd} {l b : List Int} (hl : lOk K l = true) (h : idxOk l.length b) : lOk K (someI l b) = true := by
  unfold lOk someI
  rw [List.all_map, List.all_eq_true]
  intro i hi
  have := h i hi
  have h2 := (List.all_eq_true.1 hl) l[i.toNat] (List.getElem_mem (by omega))
  simp [show i.toNat < l.length by omega]; exact h2
section
variable (A : Option Addr) (n c : Nat) (P : List Int) (B : Option Addr) (m d : Nat) (K : List Kd) (L : Option Addr) (r s : Nat) (l : List Int) (w : World)
theorem risBig_any (x : Int) (hp : Is w A n P) (hg : Ks w B m K) :
    Calls Tryz.prog 97 #[.agg #[.slice A n c, .slice B m d], .int .i64 x] w fun e w' => e = .returned (.bool (!P.any fun q => decide ((kdD K x).r ≤ q))) ∧ Below w.heap.size w w' := by
  have Hn : Hid (n = P.length) := Lib.hid hp.len
  have hnx := hp.small
  have Hp := Lib.hid hp; have Hg := Lib.hid hg
  clear hp hg
  obtain ⟨y, hy⟩ : ∃ y, (kdD K x).r = y := ⟨_, rfl⟩
  have Hy := Lib.hid hy
  rw [hy]
  clear hy
  go_enter Tryz.func97, Tryz.ntmps97
  go_upto_region 1 with fail
  generalize hW : (World.alloc _ _) = W
  have HB : Hid (Below w.heap.size w W) := Lib.hid (by subst hW; go_grown)
  have KY : Bx W (w.heap.size) 25 [.slice A n c, .slice B m d] := by subst hW; repeat (first | (refine Bx.newAt _ _ _ ?_; first | rfl | (simp only [World.size_alloc]; done) | (simp only [World.size_alloc]; omega)) | refine Bx.old ?_ _)
  clear hW
  have KYl := KY.lt; have KYc := KY.get; have KYf := KY.fr
  go_upto_region 2 with fail
  clear KYl KYc KYf
  have hWs := HB.out.size
  go_loopw [10] (fun i wr => ∃ (k : Nat), k ≤ n ∧ i = .int .i64 k ∧ Below W.heap.size W wr ∧ ∀ j (h : j < P.length), j < k → decide (y ≤ P[j]) = false) (fun i _ => n - (intOf i).toNat)
  case atStart => exact ⟨0, by omega, rfl, Below.refl _ _, fun j _ h => by omega⟩
  case round =>
    obtain ⟨k, hk, rfl, hb, hall⟩ := hrel
    have Hall := Lib.hid hall
    have HBw := Lib.hid (up HB.out hb)
    have HBb := Lib.hid hb
    have KYw := KY.keep hb
    clear hb hall
    by_cases hlt : k < n
    · have hkp : k < P.length := by rw [← Hn.out]; exact hlt
      obtain ⟨b, o, rfl, hb, hcs⟩ := (Hp.out.keep HBw.out).get k hkp
      have KYwl := KYw.lt; have KYwc := KYw.get; have KYwf := KYw.fr
      cases hD : decide (y ≤ P[k])
      · have Hall2 : Hid (∀ j (h : j < P.length), j < k + 1 → decide (y ≤ P[j]) = false) := Lib.hid (fun j h hj => by
          by_cases e : j = k
          · subst e; exact hD
          · exact Hall.out j h (by omega))
        clear Hall
        generalize P[k] = q at *
        go_wp2_with (go_at_call 81; refine (rroom_any (some ⟨b, o, none⟩) n c B m d K x _ (Hg.out.keep HBw.out)).mono ?_; rintro e X ⟨rfl, hbx⟩; rw [Hy.out]; have HBX := Lib.hid (up HBb.out hbx); clear hbx)
        exact ⟨⟨k + 1, by omega, by go_num, HBX.out, Hall2.out⟩, by simp [intOf]; omega⟩
      · have HE : Hid ((!P.any fun q => decide (y ≤ q)) = false) := Lib.hid (by
          rw [Bool.not_eq_false', List.any_eq_true]
          exact ⟨P[k], List.getElem_mem hkp, hD⟩)
        generalize P[k] = q at *
        go_wp2_with (go_at_call 81; refine (rroom_any (some ⟨b, o, none⟩) n c B m d K x _ (Hg.out.keep HBw.out)).mono ?_; rintro e X ⟨rfl, hbx⟩; rw [Hy.out]; have HBX := Lib.hid (up HBw.out hbx); clear hbx)
        go_ret
        exact ⟨ret_bool HE.out.symm, HBX.out⟩
    · obtain rfl : k = n := by omega
      have HE : Hid ((!P.any fun q => decide (y ≤ q)) = true) := Lib.hid (by
        rw [Bool.not_eq_true', List.any_eq_false]
        intro q hq
        obtain ⟨j, hj, rfl⟩ := List.mem_iff_getElem.1 hq
        rw [Hall.out j hj (by rw [Hn.out]; exact hj)]; decide)
      go_wp2
      go_ret
      exact ⟨ret_bool HE.out.symm, HBw.out⟩
theorem rsome_any (C : Option Addr) (u v : Nat) (b : List Int) (hl : Is w L r l) (hc : Is w C u b) (hi : idxOk l.length b) (h40 : b.length ≤ 1000) :
    Calls Tryz.prog 141 #[.slice L r s, .slice C u v] w fun e w' => ∃ y, e = .returned y ∧ OI w' w.heap.size y (someI l b) ∧ Below w.heap.size w w' := by
  have Hu : Hid (u = b.length) := Lib.hid hc.len
  have hu40 : u ≤ 1000 := by rw [hc.len]; exact h40
  have Hr : Hid (r = l.length) := Lib.hid hl.len
  have hrx := hl.small
  have Hl := Lib.hid hl; have Hc := Lib.hid hc; have Hi := Lib.hid hi
  clear hl hc hi
  go_enter Tryz.func141, Tryz.ntmps141
  go_upto_region 3 with fail
  go_loopw [5, 10] (fun y i wr => ∃ (k : Nat), k ≤ u ∧ i = .int .i64 k ∧ OI wr w.heap.size y ((someI l b).take k) ∧ Below w.heap.size w wr) (fun _ i _ => u - (intOf i).toNat)
  case atStart => exact ⟨0, by omega, rfl, by rw [List.take_zero]; exact OI.nil _ _, Below.refl _ _⟩
  case round =>
    obtain ⟨k, hk, rfl, ho, hb⟩ := hrel
    obtain ⟨tk, htk⟩ : ∃ tk, (someI l b).take k = tk := ⟨_, rfl⟩
    rw [htk] at ho
    have Htk := Lib.hid htk
    have HBb := Lib.hid hb; have HO1 := Lib.hid ho
    obtain ⟨A1, c1, rfl⟩ := ho.shape
    have hsw := hb.size
    clear hb ho
    have hth : tk.length ≤ k := by rw [← htk, List.length_take]; omega
    clear htk
    by_cases hlt : k < u
    · have hkb : k < b.length := by rw [← Hu.out]; exact hlt
      have hx := Hi.out b[k] (List.getElem_mem hkb)
      obtain ⟨x, hx2⟩ := Int.eq_ofNat_of_zero_le hx.1
      have hxl : x < l.length := by omega
      have hxr : x < r := by rw [Hr.out]; exact hxl
      obtain ⟨bb, oo, rfl, hbb, hc1⟩ := (Hc.out.keep HBb.out).get k hkb
      obtain ⟨b2, o2, rfl, hb2, hc2⟩ := (Hl.out.keep HBb.out).get x hxl
      have hks : k < (someI l b).length := by rw [someI_len]; exact hkb
      have HK : Hid ((someI l b).take (k + 1) = tk ++ [l[x]]) := Lib.hid (by
        rw [List.take_succ_eq_append_getElem hks, Htk.out]
        simp only [someI, List.getElem_map, hx2, Int.toNat_natCast]
        simp [hxl])
      rw [hx2] at hc1
      generalize l[x] = z at *
      have hb3 := up_alloc wr (.cells #[.int .i64 z] 3)
      have HOV := Lib.hid (HO1.out.keep hb3)
      have HB3 := Lib.hid (up HBb.out hb3)
      have HcV : Hid ((wr.alloc (.cells #[.int .i64 z] 3)).cell? ⟨wr.heap.size, 0, none⟩ = some (.int .i64 z)) := Lib.hid (by rw [cell_of_row _ _ _ _ _ _ (heap_alloc_new _ _)]; rfl)
      clear hb3 hx hx2
      go_wp2_with (at_builtin; refine wpList_appI HOV.out (.tmp 14) (.tmp 19) rfl rfl rfl rfl HcV.out (by omega) (by have := HB3.out.size; omega) ?_; intro A3 c3 U3 hO hB4; have HO4 := Lib.hid hO; have HB4 := Lib.hid (HB3.out.trans hB4); clear hO hB4)
      exact ⟨⟨k + 1, by omega, by go_num, by rw [HK.out]; exact HO4.out, HB4.out⟩, by simp [intOf]; omega⟩
    · obtain rfl : k = u := by omega
      have HO2 : Hid (OI wr w.heap.size (.slice A1 tk.length c1) (someI l b)) := Lib.hid (by
        have e := Htk.out
        rw [List.take_of_length_le (by rw [someI_len, Hu.out]; exact Nat.le_refl _)] at e
        have := HO1.out
        rwa [← e] at this ⊢)
      go_wp2
      go_ret
      exact ⟨_, rfl, HO2.out, HBb.out⟩
end
end Go.Proofs.YtifokapcobgjiaaGreat

namespace Go.Proofs.YtifokapcobgjiaaGreat
open Go Go.RowKit
set_option maxHeartbeats 2000000
set_option maxRecDepth 100000

def badB (P : List Int) (K : List Kd) (l : List Int) (kd : Int) : Bool := if kd = 2 then decide (sumI P < sumR (bsL K l)) else !(PL P K l != [])
/-- Each two must stand apart. -/
def aliK (K : List Kd) (l : List Int) (i : Nat) : Bool := (List.range i).all fun k => aptB K (l.getD i 0) (l.getD k 0)
def aliB (K : List Kd) (l : List Int) : Bool := (List.range l.length).all (aliK K l)
section
variable (A : Option Addr) (n c : Nat) (P : List Int) (B : Option Addr) (m d : Nat) (K : List Kd) (L : Option Addr) (r s : Nat) (l : List Int) (w : World)
theorem rbad_any (kd : Int) (hp : Is w A n P) (hg : Ks w B m K) (hl : Is w L r l) (hy : yOk P K = true) (hlo : lOk K l = true) (h40 : l.length ≤ 1000) :
    Calls Tryz.prog 98 #[.agg #[.slice A n c, .slice B m d], .slice L r s, .int .i64 kd] w fun e w' => e = .returned (.bool (badB P K l kd)) ∧ Below w.heap.size w w' := by
  obtain ⟨h5, hP, hK⟩ := yOk_k hy
  have H65 : Hid (∀ V, Below w.heap.size w V → Calls Tryz.prog 65 #[.agg #[.slice A n c, .slice B m d], .slice L r s] V fun e w' => e = .returned (.int .i64 (sumR (bsL K l))) ∧ Below V.heap.size V w') := Lib.hid (fun V hV => rrooms_any A n c B m d K L r s l V (hg.keep hV) (hl.keep hV) hK h40)
  have H139 : Hid (∀ V, Below w.heap.size w V → Calls Tryz.prog 139 #[.agg #[.slice A n c, .slice B m d]] V fun e w' => e = .returned (.int .i64 (sumI P)) ∧ Below V.heap.size V w') := Lib.hid (fun V hV => all_any A n c P _ V (hp.keep hV) h5 hP)
  have H140 : Hid (∀ V, Below w.heap.size w V → Calls Tryz.prog 140 #[.agg #[.slice A n c, .slice B m d], .slice L r s] V fun e w' => e = .returned (.bool (PL P K l != [])) ∧ Below V.heap.size V w') := Lib.hid (fun V hV => rcan_any A n c P B m d K L r s l _ V (hp.keep hV) (hg.keep hV) (hl.keep hV) h5 hK hlo h40 rfl)
  clear hp hg hl hy hlo h40 h5 hP hK
  by_cases hk : kd = 2
  · subst hk
    have HE : Hid (badB P K l 2 = decide (sumI P < sumR (bsL K l))) := Lib.hid (if_pos rfl)
    rw [HE.out]
    clear HE
    generalize sumI P = x at *
    generalize sumR (bsL K l) = y at *
    go_enter Tryz.func98, Tryz.ntmps98
    go_upto_region 1 with fail
    generalize hW : (World.alloc _ _) = W
    have HB : Hid (Below w.heap.size w W) := Lib.hid (by subst hW; go_grown)
    have KY : Bx W (w.heap.size) 25 [.slice A n c, .slice B m d] := by subst hW; repeat (first | (refine Bx.newAt _ _ _ ?_; first | rfl | (simp only [World.size_alloc]; done) | (simp only [World.size_alloc]; omega)) | refine Bx.old ?_ _)
    clear hW
    have KYl := KY.lt; have KYc := KY.get; have KYf := KY.fr
    go_upto_region 2 with fail
    refine wp_region_grow (by kernel_rfl) (by kernel_rfl) ?_
    repeat (go_big_quiet_step ((first | (go_at_call 65; exact quiet_grow rfl (H65.out _ (up HB.out (grow_below _ _)))) | (go_at_call 139; exact quiet_grow rfl (H139.out _ (up HB.out (grow_below _ _)))))))
    refine wpQuiet_nil ?_
    intro z
    go_wp2
    go_ret
    exact ⟨rfl, up HB.out (grow_below _ _)⟩
  · have HE : Hid (badB P K l kd = !(PL P K l != [])) := Lib.hid (if_neg hk)
    have hkb : (kd == 2) = false := by simpa using hk
    rw [HE.out]
    clear HE hk
    generalize (PL P K l != []) = x at *
    go_enter Tryz.func98, Tryz.ntmps98
    go_upto_region 1 with fail
    generalize hW : (World.alloc _ _) = W
    have HB : Hid (Below w.heap.size w W) := Lib.hid (by subst hW; go_grown)
    have KY : Bx W (w.heap.size) 25 [.slice A n c, .slice B m d] := by subst hW; repeat (first | (refine Bx.newAt _ _ _ ?_; first | rfl | (simp only [World.size_alloc]; done) | (simp only [World.size_alloc]; omega)) | refine Bx.old ?_ _)
    clear hW
    have KYl := KY.lt; have KYc := KY.get; have KYf := KY.fr
    go_wp2_with (go_at_call 140; refine (H140.out _ HB.out).mono ?_; rintro e X ⟨rfl, hbx⟩; have HBX := Lib.hid (up HB.out hbx); clear hbx)
    go_ret
    exact ⟨rfl, HBX.out⟩
theorem ralien_any (hg : Ks w B m K) (hl : Is w L r l) (hK : ksOk K = true) (hlo : lOk K l = true) (h40 : l.length ≤ 1000) :
    Calls Tryz.prog 142 #[.agg #[.slice A n c, .slice B m d], .slice L r s] w fun e w' => e = .returned (.bool (aliB K l)) ∧ Below w.heap.size w w' := by
  have Hr : Hid (r = l.length) := Lib.hid hl.len
  have hr40 : r ≤ 1000 := by rw [hl.len]; exact h40
  have Hg := Lib.hid hg; have Hl := Lib.hid hl; have HK := Lib.hid hK
  have Hin : Hid (∀ k (h : k < l.length), 0 ≤ l[k] ∧ l[k] ≤ 9) := Lib.hid (fun k h => by have := lOk_in hK hlo l[k] (List.getElem_mem h); omega)
  clear hg hl hK hlo h40
  go_enter Tryz.func142, Tryz.ntmps142
  go_upto_region 1 with fail
  generalize hW : (World.alloc _ _) = W
  have HB : Hid (Below w.heap.size w W) := Lib.hid (by subst hW; go_grown)
  have KY : Bx W (w.heap.size) 25 [.slice A n c, .slice B m d] := by subst hW; repeat (first | (refine Bx.newAt _ _ _ ?_; first | rfl | (simp only [World.size_alloc]; done) | (simp only [World.size_alloc]; omega)) | refine Bx.old ?_ _)
  clear hW
  have KYl := KY.lt; have KYc := KY.get; have KYf := KY.fr
  go_upto_region 2 with fail
  clear KYl KYc KYf
  have hWs := HB.out.size
  go_loopw [9] (fun i wr => ∃ (k : Nat), k ≤ r ∧ i = .int .i64 k ∧ Below W.heap.size W wr ∧ ∀ j, j < k → aliK K l j = true) (fun i _ => r - (intOf i).toNat)
  case atStart => exact ⟨0, by omega, rfl, Below.refl _ _, fun j h => by omega⟩
  case round =>
    obtain ⟨k, hk, rfl, hb, hall⟩ := hrel
    have Hall := Lib.hid hall
    have HBw := Lib.hid (up HB.out hb)
    have HBb := Lib.hid hb
    have KYw := KY.keep hb
    clear hb hall
    by_cases hlt : k < r
    · have hkl : k < l.length := by rw [← Hr.out]; exact hlt
      go_upto_region 5 with fail
      go_loopw [6] (fun i wv => ∃ (q : Nat), q ≤ k ∧ i = .int .i64 q ∧ Below W.heap.size W wv ∧ ∀ j, j < q → aptB K (l.getD k 0) (l.getD j 0) = true) (fun i _ => k - (intOf i).toNat)
      case atStart => exact ⟨0, by omega, rfl, HBb.out, fun j h => by omega⟩
      case round =>
        clear HBw HBb KYw
        obtain ⟨q, hq, rfl, hb, hq2⟩ := hrel
        have Hq2 := Lib.hid hq2
        have HBw := Lib.hid (up HB.out hb)
        have HBb := Lib.hid hb
        have KYw := KY.keep hb
        clear hb hq2
        by_cases hlq : q < k
        · have hql : q < l.length := by omega
          obtain ⟨b, o, rfl, hb, hc1⟩ := (Hl.out.keep HBw.out).get k hkl
          obtain ⟨b2, o2, e2, hb2, hc2⟩ := (Hl.out.keep HBw.out).get q hql
          cases e2
          have H69 : Hid (∀ V, Below w.heap.size w V → Calls Tryz.prog 69 #[.agg #[.slice A n c, .slice B m d], .int .i64 l[k], .int .i64 l[q]] V fun e w' => e = .returned (.bool (aptB K l[k] l[q])) ∧ Below V.heap.size V w') := Lib.hid (fun V hV => rapart_any A n c B m d K _ _ V (Hg.out.keep hV) HK.out (Hin.out k hkl) (Hin.out q hql))
          have hqr : q < r := by omega
          have KYwl := KYw.lt; have KYwc := KYw.get; have KYwf := KYw.fr
          cases hA : aptB K l[k] l[q]
          · have HE : Hid (aliB K l = false) := Lib.hid (by
              unfold aliB
              rw [List.all_eq_false]
              refine ⟨k, List.mem_range.2 hkl, ?_⟩
              unfold aliK
              rw [Bool.not_eq_true, List.all_eq_false]
              exact ⟨q, List.mem_range.2 hlq, by rw [show l.getD k 0 = l[k] by simp [hkl], show l.getD q 0 = l[q] by simp [hql], hA]; decide⟩)
            rw [hA] at H69
            clear hA
            generalize l[k] = x at *
            generalize l[q] = y at *
            go_upto_region 7 with fail
            refine wp_region_grow (by kernel_rfl) (by kernel_rfl) ?_
            repeat (go_big_quiet_step ((go_at_call 69; exact quiet_grow rfl (H69.out _ (up HBw.out (grow_below _ _))))))
            refine wpQuiet_nil ?_
            intro z
            go_wp2
            go_ret
            exact ⟨ret_bool HE.out.symm, up HBw.out (grow_below _ _)⟩
          · have Hq3 : Hid (∀ j, j < q + 1 → aptB K (l.getD k 0) (l.getD j 0) = true) := Lib.hid (fun j hj => by
              by_cases e : j = q
              · subst e; rw [show l.getD k 0 = l[k] by simp [hkl], show l.getD j 0 = l[j] by simp [hql], hA]
              · exact Hq2.out j (by omega))
            rw [hA] at H69
            clear hA Hq2
            generalize l[k] = x at *
            generalize l[q] = y at *
            go_upto_region 7 with fail
            refine wp_region_grow (by kernel_rfl) (by kernel_rfl) ?_
            repeat (go_big_quiet_step ((go_at_call 69; exact quiet_grow rfl (H69.out _ (up HBw.out (grow_below _ _))))))
            refine wpQuiet_nil ?_
            intro z
            have e1 : IntKind.i64.wrap ((q : Int) + 1) = (q : Int) + 1 := by rw [IntWalk.i64_in _ (by omega)]
            go_wp2
            exact ⟨⟨q + 1, by omega, by go_num, up HBb.out (grow_below _ _), Hq3.out⟩, by simp [intOf]; omega⟩
        · obtain rfl : q = k := by omega
          have Hall2 : Hid (∀ j, j < q + 1 → aliK K l j = true) := Lib.hid (fun j hj => by
            by_cases e : j = q
            · subst e
              unfold aliK
              rw [List.all_eq_true]
              exact fun x hx => Hq2.out x (List.mem_range.1 hx)
            · exact Hall.out j (by omega))
          clear Hq2 Hall
          go_wp2
          exact ⟨⟨q + 1, by omega, by go_num, HBb.out, Hall2.out⟩, by simp [intOf]; omega⟩
    · obtain rfl : k = r := by omega
      have HE : Hid (aliB K l = true) := Lib.hid (by
        unfold aliB
        rw [List.all_eq_true]
        exact fun x hx => Hall.out x (by rw [Hr.out]; exact List.mem_range.1 hx))
      go_wp2
      go_ret
      exact ⟨ret_bool HE.out.symm, HBw.out⟩
end
end Go.Proofs.YtifokapcobgjiaaGreat

namespace Go.Proofs.YtifokapcobgjiaaGreat
open Go Go.RowKit
set_option maxHeartbeats 2000000
set_option maxRecDepth 100000

theorem OI.isP {w : World} {base n c : Nat} {A : Option Addr} {l : List Int} (h : OI w base (.slice A n c) l) : Is w A n l := by
  obtain ⟨A2, c2, e2, -, his, -⟩ := h.is
  cases e2
  exact his
/-- What a kind says of some beasts. -/
def badI (P : List Int) (K : List Kd) (l : List Int) (kd : Int) (b : List Int) : Bool := badB P K (someI l b) kd
section
variable (A : Option Addr) (n c : Nat) (P : List Int) (B : Option Addr) (m d : Nat) (K : List Kd) (L : Option Addr) (r s : Nat) (l : List Int) (w : World)
theorem rleast_any (kd : Int) (hp : Is w A n P) (hg : Ks w B m K) (hl : Is w L r l) (hy : yOk P K = true) (hlo : lOk K l = true) (h8 : l.length ≤ 8) :
    Calls Tryz.prog 99 #[.agg #[.slice A n c, .slice B m d], .slice L r s, .int .i64 kd] w fun e w' => ∃ y, e = .returned y ∧ OI w' w.heap.size y (leastK (badI P K l kd) l.length l.length) ∧ Below w.heap.size w w' := by
  have Hr : Hid (r = l.length) := Lib.hid hl.len
  have hr8 : r ≤ 8 := by rw [hl.len]; exact h8
  have Hp := Lib.hid hp; have Hg := Lib.hid hg; have Hl := Lib.hid hl; have Hy := Lib.hid hy; have Hlo := Lib.hid hlo
  have HX1 : leastK (badI P K l kd) l.length l.length = leastK (badI P K l kd) r r := by rw [Hr.out]
  rw [HX1]
  clear hp hg hl hy hlo h8 HX1
  go_enter Tryz.func99, Tryz.ntmps99
  go_upto_region 1 with fail
  generalize hW : (World.alloc _ _) = W
  have HB : Hid (Below w.heap.size w W) := Lib.hid (by subst hW; go_grown)
  have KY : Bx W (w.heap.size) 25 [.slice A n c, .slice B m d] := by subst hW; repeat (first | (refine Bx.newAt _ _ _ ?_; first | rfl | (simp only [World.size_alloc]; done) | (simp only [World.size_alloc]; omega)) | refine Bx.old ?_ _)
  clear hW
  have KYl := KY.lt; have KYc := KY.get; have KYf := KY.fr
  go_upto_region 3 with fail
  clear KYl KYc KYf
  have hWs := HB.out.size
  go_loopw [7, 13] (fun y i wr => ∃ (k : Nat), k ≤ r ∧ i = .int .i64 k ∧ OI wr W.heap.size y (rngI k) ∧ Below W.heap.size W wr) (fun _ i _ => r - (intOf i).toNat)
  case atStart => exact ⟨0, by omega, rfl, OI.nil _ _, Below.refl _ _⟩
  case round =>
    obtain ⟨k, hk, rfl, ho, hb⟩ := hrel
    have HBb := Lib.hid hb; have HO1 := Lib.hid ho
    obtain ⟨A1, c1, rfl⟩ := ho.shape
    have hsw := hb.size
    have KYw := KY.keep hb
    clear hb ho
    have hth : (rngI k).length ≤ k := by rw [rngI_len]; exact Nat.le_refl _
    by_cases hlt : k < r
    · have hb3 := up_alloc wr (.cells #[.int .i64 (k : Int)] 3)
      have HOV := Lib.hid (HO1.out.keep hb3)
      have HB3 := Lib.hid (up HBb.out hb3)
      have HcV : Hid ((wr.alloc (.cells #[.int .i64 (k : Int)] 3)).cell? ⟨wr.heap.size, 0, none⟩ = some (.int .i64 (k : Int))) := Lib.hid (by rw [cell_of_row _ _ _ _ _ _ (heap_alloc_new _ _)]; rfl)
      clear hb3
      go_wp2_with (at_builtin; refine wpList_appI HOV.out (.tmp 16) (.tmp 18) rfl rfl rfl rfl HcV.out (by omega) (by have := HB3.out.size; omega) ?_; intro A3 c3 U3 hO hB4; have HO4 := Lib.hid hO; have HB4 := Lib.hid (HB3.out.trans hB4); clear hO hB4)
      exact ⟨⟨k + 1, by omega, by go_num, by rw [rngI_succ]; exact HO4.out, HB4.out⟩, by simp [intOf]; omega⟩
    · obtain rfl : k = r := by omega
      clear hth
      have H0 : Hid (leastK (badI P K l kd) k 0 = rngI k) := Lib.hid rfl
      have e1 : IntKind.i64.wrap ((k : Int) - 1) = (k : Int) - 1 := by rw [IntWalk.i64_in _ (by omega)]
      have Hlk := Lib.hid (leastK_ok (badI P K l kd) k)
      go_upto_region 8 with fail
      go_loopw [7, 9] (fun y i wv => ∃ (q : Nat), q ≤ k ∧ i = .int .i64 ((k : Int) - 1 - (q : Int)) ∧ OI wv W.heap.size y (leastK (badI P K l kd) k q) ∧ Below W.heap.size W wv) (fun _ i _ => (intOf i + 1).toNat)
      case atStart => exact ⟨0, by omega, by simp, by rw [H0.out]; exact HO1.out, HBb.out⟩
      case round =>
        clear HO1 H0 HBb KYw
        obtain ⟨q, hq, rfl, ho, hb⟩ := hrel
        have HBb := Lib.hid hb
        have HBw := Lib.hid (up HB.out hb)
        have hsv := hb.size
        have KYv := KY.keep hb
        obtain ⟨Z, hZ⟩ : ∃ Z, leastK (badI P K l kd) k q = Z := ⟨_, rfl⟩
        rw [hZ] at ho
        have HZ := Lib.hid hZ
        clear hb
        obtain ⟨A1, c1, rfl⟩ := ho.shape
        obtain ⟨hz1, hz2, hz3⟩ := Hlk.out q hq
        rw [hZ] at hz1 hz2 hz3
        have HO1 := Lib.hid ho
        have hcap := ho.cap
        have his := ho.isP
        obtain ⟨A2, c2, e2, hc2, -, -⟩ := ho.is
        have hc9 : Z.length ≤ c1 := by cases e2; exact hc2
        have HI9 := Lib.hid his
        clear ho hZ e2 hc2 his
        by_cases hlt : q < k
        · obtain ⟨j, hj⟩ : ∃ j, j = k - 1 - q := ⟨_, rfl⟩
          have e5 : (k : Int) - 1 - (q : Int) = (j : Int) := by omega
          have hjz : j < Z.length := by omega
          have hz40 : Z.length ≤ 1000 := by omega
          have HK : Hid (leastK (badI P K l kd) k (q + 1) = if badI P K l kd (Z.eraseIdx j) = true then Z.eraseIdx j else Z) := Lib.hid (by rw [leastK, HZ.out, ← hj])
          have e6 : IntKind.i64.wrap ((j : Int) - 1) = (j : Int) - 1 := by rw [IntWalk.i64_in _ (by omega)]
          have e7 : (j : Int) - 1 = (k : Int) - 1 - ((q + 1 : Nat) : Int) := by omega
          have Hzi : Hid (idxOk l.length (Z.eraseIdx j)) := Lib.hid (idxOk_erase (by rw [← Hr.out]; exact hz1) j)
          have hej : (Z.eraseIdx j).length ≤ 1000 := by have := List.length_eraseIdx_le (l := Z) j; omega
          rw [e5]
          clear e5 hz1 hz2 hz3 hj
          have KYvl := KYv.lt; have KYvc := KYv.get; have KYvf := KYv.fr
          go_upto_region 11 with (go_at_call 91; refine (rwithout_any A1 Z.length c1 Z j _ HI9.out hjz hc9 hcap hz40).mono ?_; rintro e V ⟨A6, c6, rfl, hO, hbv⟩; have HO6 := Lib.hid (hO.mono hsv); have HI6 := Lib.hid hO.isP; have HOV := Lib.hid (HO1.out.keep hbv); have HBV := Lib.hid (HBb.out.trans (hbv.mono hsv)); clear hO hbv)
          obtain ⟨Y, hY⟩ : ∃ Y, Z.eraseIdx j = Y := ⟨_, rfl⟩
          rw [hY] at Hzi hej HO6 HI6 HK
          rw [hY]
          clear hY
          have KYV := KY.keep HBV.out
          have HBW := Lib.hid (up HB.out HBV.out)
          have HKY := Lib.hid KYV
          clear KYvl KYvc KYvf
          have KYVl := KYV.lt; have KYVc := KYV.get; have KYVf := KYV.fr
          go_upto_region 11 with fail
          refine wp_region_takesG 5 2 [0, 1, 2, 4] (by kernel_rfl) (by kernel_rfl) (by kernel_rfl) (by kernel_rfl) (by decide) (fun d _ _ _ _ h => by cases d <;> exact h) (by kernel_rfl) rfl ?_
          refine wpTakes_step (v := .agg #[.slice A n c, .slice B m d]) rfl (by rfl) ?_ ?_
          · (rintro _ ⟨z9, rfl⟩; exact run_get 25 (.tmp 3) rfl rfl (cell_res (HKY.out.keep (grow_below V z9)) Tryz.underlying25 rfl (by kernel_rfl)))
          simp only [Act.put, List.setIfInBounds_toArray, List.set_cons_zero, List.set_cons_succ]
          refine wpTakes_step (v := ?_) rfl (by rfl) ?_ ?_
          rotate_left
          · (rintro _ ⟨z9, rfl⟩; go_simp; try (with_reducible rfl))
          simp only [Act.put, List.setIfInBounds_toArray, List.set_cons_zero, List.set_cons_succ]
          refine wpTakes_step (v := ?_) rfl (by rfl) ?_ ?_
          rotate_left
          · (rintro _ ⟨z9, rfl⟩; go_simp; try (with_reducible rfl))
          simp only [Act.put, List.setIfInBounds_toArray, List.set_cons_zero, List.set_cons_succ]
          refine wpTakes_step (v := ?_) rfl (by rfl) ?_ ?_
          rotate_left
          · (rintro _ ⟨z9, rfl⟩; go_simp; try (with_reducible rfl))
          simp only [Act.put, List.setIfInBounds_toArray, List.set_cons_zero, List.set_cons_succ]
          simp only [wpTakes]
          refine wpAnyT_step (i := 3) rfl (by kernel_rfl) rfl ?_
          have hbd : Below V.heap.size V V.drew := by go_grown
          have HBd := Lib.hid hbd
          have HIV := Lib.hid (HI6.out.keep hbd)
          have HlV := Lib.hid ((Hl.out.keep HBW.out).keep hbd)
          clear hbd
          go_wp2_with (go_at_call 141; refine (rsome_any L k s l _ A6 Y.length c6 Y HlV.out HIV.out Hzi.out hej).mono ?_; rintro e T ⟨y9, rfl, hO, hbt⟩)
          have hbT := up HBd.out hbt
          refine ⟨below_grow hbT, ?_⟩
          refine wpAnyT_tail rfl (by kernel_rfl) (by kernel_rfl) ?_
          simp only [List.drop_succ_cons, List.drop_zero]
          obtain ⟨S, hS⟩ : ∃ S, someI l Y = S := ⟨_, rfl⟩
          rw [hS] at hO
          have hS40 : S.length ≤ 1000 := by rw [← hS, someI_len]; exact hej
          have hSl : lOk K S = true := by rw [← hS]; exact lOk_some Hlo.out Hzi.out
          have hbi : badI P K l kd Y = badB P K S kd := by unfold badI; rw [hS]
          rw [hbi] at HK
          clear hS hbi
          obtain ⟨A9, c9, rfl⟩ := hO.shape
          have HBT := Lib.hid (up HBW.out hbT)
          have HC := Lib.hid (rbad_any A n c P B m d K A9 S.length c9 S T kd (Hp.out.keep HBT.out) (Hg.out.keep HBT.out) hO.isP Hy.out hSl hS40)
          have HO6T := Lib.hid (HO6.out.keep hbT)
          have HO1T := Lib.hid (HOV.out.keep hbT)
          have HBbT := Lib.hid (up HBV.out hbT)
          clear hbT hbt hO hS40 hSl HO6 HOV HI6 HIV HlV HBd HKY KYV KYVl KYVc KYVf
          cases hF : badB P K S kd
          · rw [hF] at HC HK
            have HK2 : Hid (leastK (badI P K l kd) k (q + 1) = Z) := Lib.hid (by rw [HK.out]; rfl)
            clear hF HK
            go_wp2_with (go_at_call 98; refine HC.out.mono ?_; rintro e U ⟨rfl, hbu⟩; have HOU := Lib.hid (HO1T.out.keep hbu); have HBU := Lib.hid (up HBbT.out hbu); clear hbu)
            exact ⟨⟨q + 1, by omega, by congr 1, by rw [HK2.out]; exact HOU.out, HBU.out⟩, by simp [intOf]; omega⟩
          · rw [hF] at HC HK
            have HK2 : Hid (leastK (badI P K l kd) k (q + 1) = Y) := Lib.hid (by rw [HK.out]; rfl)
            clear hF HK
            go_wp2_with (go_at_call 98; refine HC.out.mono ?_; rintro e U ⟨rfl, hbu⟩; have HOU := Lib.hid (HO6T.out.keep hbu); have HBU := Lib.hid (up HBbT.out hbu); clear hbu)
            exact ⟨⟨q + 1, by omega, by congr 1, by rw [HK2.out]; exact HOU.out, HBU.out⟩, by simp [intOf]; omega⟩
        · obtain rfl : q = k := by omega
          have e5 : (q : Int) - 1 - (q : Int) = -1 := by omega
          rw [e5]
          have HE : Hid (OI wr w.heap.size (.slice A1 Z.length c1) (leastK (badI P K l kd) q q)) := Lib.hid (by rw [HZ.out]; exact HO1.out.mono hWs)
          go_wp2
          go_ret
          exact ⟨_, rfl, HE.out, HBw.out⟩
end
end Go.Proofs.YtifokapcobgjiaaGreat

namespace Go.Proofs.YtifokapcobgjiaaGreat
open Go Go.RowKit
set_option maxHeartbeats 2000000
set_option maxRecDepth 100000

theorem someI_app (l b : List Int) (k : Nat) : someI l (b ++ [(k : Int)]) = someI l b ++ [l.getD k 0] := by simp [someI]
/-- One more beast. -/
theorem ali_snoc {K : List Kd} {s : List Int} {x : Int} : aliB K (s ++ [x]) = (aliB K s && s.all fun y => aptB K x y) := by
  unfold aliB
  rw [List.length_append, List.length_singleton, List.range_succ, List.all_append]
  congr 1
  · rw [Bool.eq_iff_iff, List.all_eq_true, List.all_eq_true]
    have h : ∀ i ∈ List.range s.length, aliK K (s ++ [x]) i = aliK K s i := by
      intro i hi
      have hi := List.mem_range.1 hi
      unfold aliK
      have e : ∀ j, j < s.length → (s ++ [x]).getD j 0 = s.getD j 0 := fun j hj => by
        rw [List.getD_eq_getElem?_getD, List.getD_eq_getElem?_getD, List.getElem?_append_left hj]
      rw [Bool.eq_iff_iff, List.all_eq_true, List.all_eq_true]
      constructor
      · intro h j hj
        have := h j hj
        rwa [e i hi, e j (by have := List.mem_range.1 hj; omega)] at this
      · intro h j hj
        rw [e i hi, e j (by have := List.mem_range.1 hj; omega)]
        exact h j hj
    exact ⟨fun g i hi => by rw [← h i hi]; exact g i hi, fun g i hi => by rw [h i hi]; exact g i hi⟩
  · simp only [List.all_cons, List.all_nil, Bool.and_true]
    unfold aliK
    rw [Bool.eq_iff_iff, List.all_eq_true, List.all_eq_true]
    rw [show (s ++ [x]).getD s.length 0 = x by simp]
    constructor
    · intro h y hy
      obtain ⟨j, hj, rfl⟩ := List.mem_iff_getElem.1 hy
      have := h j (List.mem_range.2 hj)
      rwa [List.getD_eq_getElem?_getD, List.getElem?_append_left hj, List.getElem?_eq_getElem hj, Option.getD_some] at this
    · intro h j hj
      have hj := List.mem_range.1 hj
      rw [List.getD_eq_getElem?_getD, List.getElem?_append_left hj, List.getElem?_eq_getElem hj, Option.getD_some]
      exact h _ (List.getElem_mem hj)
/-- Beasts that stand apart from one more. -/
theorem ap_ali {K : List Kd} {l b : List Int} (hK : ksOk K = true) (hl : lOk K l = true) {k : Nat} (hk : k < l.length) (hb : idxOk l.length b) :
    apAll (apL K) (bsL K l) k b = (someI l b).all fun y => aptB K (l.getD k 0) y := by
  unfold apAll someI
  rw [List.all_map]
  have hs : ∀ i, i < l.length → ((bsL K l).getD i kd0).s = l.getD i 0 ∧ (1 ≤ l.getD i 0 ∧ l.getD i 0 ≤ 9) := fun i hi => by
    have e : (bsL K l).getD i kd0 = kdD K (l.getD i 0) := by unfold bsL; simp [hi]
    have h9 := lOk_in hK hl l[i] (List.getElem_mem hi)
    have h1 : kdI K l[i] = true := List.all_eq_true.1 hl _ (List.getElem_mem hi)
    rw [e, show l.getD i 0 = l[i] by simp [hi]]
    refine ⟨?_, h9⟩
    cases h : kd? K l[i] with
    | none => rw [(kdD_none h).2] at h1; cases h1
    | some q => rw [(kdD_some h).1]; exact (kd_mem h).2
  rw [Bool.eq_iff_iff, List.all_eq_true, List.all_eq_true]
  have e : ∀ o ∈ b, hasB ((apL K).getD ((bsL K l).getD k kd0).s.toNat 0) ((bsL K l).getD o.toNat kd0).s = aptB K (l.getD k 0) (l.getD o.toNat 0) := by
    intro o ho
    have h := hb o ho
    obtain ⟨e1, e2⟩ := hs k hk
    obtain ⟨f1, f2⟩ := hs o.toNat (by omega)
    rw [e1, f1]
    exact apL_apt hK e2 f2
  exact ⟨fun g o ho => by simp only [Function.comp_apply]; rw [← e o ho]; exact g o ho, fun g o ho => by rw [e o ho]; have := g o ho; simpa using this⟩
/-- One more behind those that must all stand apart. -/
theorem many_next {K : List Kd} {l b : List Int} (hK : ksOk K = true) (hl : lOk K l = true) {k : Nat} (hk : k < l.length) (hb : idxOk l.length b) (ha : aliB K (someI l b) = true) :
    aliB K (someI l (b ++ [(k : Int)])) = apAll (apL K) (bsL K l) k b := by
  rw [someI_app, ali_snoc, ha, Bool.true_and, ap_ali hK hl hk hb]
/-- Where the reference goes on. -/
def frmI (b : List Int) : Nat := if b = [] then 0 else (b.getD (b.length - 1) 0).toNat + 1
end Go.Proofs.YtifokapcobgjiaaGreat

namespace Go.Proofs.YtifokapcobgjiaaGreat
open Go Go.RowKit
set_option maxHeartbeats 8000000
set_option maxRecDepth 100000

theorem OI.capL {w : World} {base n c : Nat} {A : Option Addr} {l : List Int} (h : OI w base (.slice A n c) l) : n ≤ c ∧ ∀ p, A = some p → base ≤ p.block := by
  obtain ⟨A2, c2, e2, h2, -, h4⟩ := h.is
  cases e2
  exact ⟨h2, h4⟩
theorem frm_snoc (b : List Int) (k : Nat) : frmI (b ++ [(k : Int)]) = k + 1 := by
  unfold frmI
  rw [if_neg (by simp), List.length_append, List.length_singleton]
  simp
theorem rmany_any (A : Option Addr) (n c : Nat) (P : List Int) (B : Option Addr) (m d : Nat) (K : List Kd) (L : Option Addr) (r s : Nat) (l : List Int) (hy : yOk P K = true) (hlo : lOk K l = true) (h8 : l.length ≤ 8) (D : Nat) :
    ∀ (M : Nat) (C : Option Addr) (u v : Nat) (b : List Int) (w : World), b.length + M = P.length + 1 → Is w A n P → Ks w B m K → Is w L r l → Is w C u b → (u ≤ v ∧ v ≤ 9223372036854775807) → idxOk l.length b → aliB K (someI l b) = true → frmI b ≤ l.length → D ≤ w.heap.size → (∀ p, C = some p → D ≤ p.block) →
    Calls Tryz.prog 100 #[.agg #[.slice A n c, .slice B m d], .slice L r s, .slice C u v, .int .i64 (M : Int)] w fun e w' => ∃ y, e = .returned y ∧ Lst D w' y (crowdL P.length (apL K) (bsL K l) (l.length - frmI b) b (frmI b)) ∧ Below w.heap.size w w' := by
  obtain ⟨h5, hP, hK⟩ := yOk_k hy
  have HK := Lib.hid hK; have HLo := Lib.hid hlo
  have H5 := Lib.hid h5
  clear hP hy
  intro M
  induction M with
  | zero =>
    intro C u v b w hM hA hg hl hc huv hix hal hfr hD hLD
    have HO : Hid (crowdL P.length (apL K) (bsL K l) (l.length - frmI b) b (frmI b) = b) := Lib.hid (crowd_over (by omega))
    have Hc := Lib.hid hc; have HLD := Lib.hid hLD
    rw [HO.out]
    clear hA hg hl hc hix hal hfr hLD hM HO hK hlo h5
    go_enter Tryz.func100, Tryz.ntmps100
    go_upto_region 1 with fail
    generalize hW : (World.alloc _ _) = W
    have HB : Hid (Below w.heap.size w W) := Lib.hid (by subst hW; go_grown)
    have KY : Bx W (w.heap.size) 25 [.slice A n c, .slice B m d] := by subst hW; repeat (first | (refine Bx.newAt _ _ _ ?_; first | rfl | (simp only [World.size_alloc]; done) | (simp only [World.size_alloc]; omega)) | refine Bx.old ?_ _)
    clear hW
    have KYl := KY.lt; have KYc := KY.get; have KYf := KY.fr
    go_wp2
    go_ret
    exact ⟨_, rfl, ⟨C, u, v, rfl, huv, Hc.out.keep HB.out, HLD.out⟩, HB.out⟩
  | succ M ih =>
    intro C u v b w hM hA hg hl hc huv hix hal hfr hD hLD
    have Ih := Lib.hid ih
    have Hr : Hid (r = l.length) := Lib.hid hl.len
    have Hu : Hid (u = b.length) := Lib.hid hc.len
    have hr8 : r ≤ 8 := by rw [hl.len]; exact h8
    have hu8 : u ≤ 8 := by rw [hc.len]; omega
    have hbl8 : b.length ≤ 8 := by omega
    have HA := Lib.hid hA; have Hg := Lib.hid hg; have Hl := Lib.hid hl; have Hc := Lib.hid hc; have Hix := Lib.hid hix; have Hal := Lib.hid hal
    have HMl := Lib.hid hM
    have Hov : Hid (¬ P.length < b.length) := Lib.hid (by omega)
    obtain ⟨CW, hCW⟩ : ∃ CW, crowdL P.length (apL K) (bsL K l) (l.length - frmI b) b (frmI b) = CW := ⟨_, rfl⟩
    have HCW := Lib.hid hCW
    rw [hCW]
    obtain ⟨fr, hfr2⟩ : ∃ fr, frmI b = fr := ⟨_, rfl⟩
    have Hfr := Lib.hid hfr2
    have hfrl : fr ≤ r := by rw [Hr.out, ← hfr2]; exact hfr
    obtain ⟨mo, hmo⟩ : ∃ mo : Int, ((M + 1 : Nat) : Int) = mo := ⟨_, rfl⟩
    rw [hmo]
    have hMp : (mo == 0) = false := by simp; omega
    have eM : IntKind.i64.wrap (mo - 1) = (M : Int) := by rw [IntWalk.i64_in _ (by omega)]; omega
    clear hmo
    clear hA hg hl hc hix hal hfr ih hCW hfr2 hK hlo h5 hLD hM
    by_cases hb0 : u = 0
    · have Hf0 : Hid (fr = 0) := Lib.hid (by rw [← Hfr.out]; unfold frmI; rw [if_pos (List.eq_nil_of_length_eq_zero (by rw [← Hu.out]; exact hb0))])
      subst hb0
      go_enter Tryz.func100, Tryz.ntmps100
      go_upto_region 1 with fail
      generalize hW : (World.alloc _ _) = W
      have HB : Hid (Below w.heap.size w W) := Lib.hid (by subst hW; go_grown)
      have KY : Bx W (w.heap.size) 25 [.slice A n c, .slice B m d] := by subst hW; repeat (first | (refine Bx.newAt _ _ _ ?_; first | rfl | (simp only [World.size_alloc]; done) | (simp only [World.size_alloc]; omega)) | refine Bx.old ?_ _)
      clear hW
      have KYl := KY.lt; have KYc := KY.get; have KYf := KY.fr
      have he0 := Hf0.out
      subst he0
      clear Hf0
      go_upto_region 7 with fail
      clear KYl KYc KYf
      go_loopw [10] (fun i wr => ∃ (k : Nat), 0 ≤ k ∧ k ≤ r ∧ i = .int .i64 k ∧ Below w.heap.size w wr ∧ Bx wr w.heap.size 25 [.slice A n c, .slice B m d] ∧ crowdL P.length (apL K) (bsL K l) (l.length - k) b k = CW) (fun i _ => r - (intOf i).toNat)
      case atStart => exact ⟨0, Nat.le_refl _, hfrl, rfl, HB.out, KY, by rw [← HCW.out, Hfr.out]⟩
      case round =>
        clear KY HB
        obtain ⟨k, hkf, hk, rfl, hb, KY, hp⟩ := hrel
        have Hp := Lib.hid hp
        have HB := Lib.hid hb
        clear hb hp
        by_cases hlt : k < r
        · have hkl : k < l.length := by rw [← Hr.out]; exact hlt
          have hfk : l.length - k = (l.length - (k + 1)) + 1 := by omega
          have Hfk := Lib.hid hfk
          clear hfk
          have KYl := KY.lt; have KYc := KY.get; have KYf := KY.fr
          have HO := Lib.hid (show OI (wr.alloc (.cells #[] 3)) wr.heap.size (.slice (some ⟨wr.heap.size, 0, none⟩) 0 0) [] from ⟨World.ownsRow_made wr #[] 0 (Nat.le_refl _) (by unfold maxLen; omega) rfl⟩)
          have hb1 := up_alloc wr (.cells #[] 3)
          have HC1 := Lib.hid ((Hc.out.keep HB.out).keep hb1)
          have HbX := Lib.hid hb1
          clear hb1
          clear KYl KYc KYf
          go_upto_region 10 with (first
            | (at_builtin; refine wpList_appAny HO.out (.tmp 33) (.tmp 34) rfl rfl rfl rfl HC1.out (by simp <;> omega) HbX.out.size ?_; intro A' c' Y hO hb; have hb3 := up_alloc Y (.cells #[.int .i64 (k : Int)] 3); have HX : Hid (OI (Y.alloc (.cells #[.int .i64 (k : Int)] 3)) wr.heap.size (.slice A' b.length c') b) := Lib.hid (by rw [List.nil_append] at hO; exact hO.keep hb3); have HcV : Hid ((Y.alloc (.cells #[.int .i64 (k : Int)] 3)).cell? ⟨Y.heap.size, 0, none⟩ = some (.int .i64 (k : Int))) := Lib.hid (by rw [cell_of_row _ _ _ _ _ _ (heap_alloc_new _ _)]; rfl); have HBY := Lib.hid (up (HbX.out.trans hb) hb3); clear hO hb hb3 HO)
            | (at_builtin; refine wpList_appI HX.out (.tmp 35) (.tmp 37) rfl rfl rfl rfl HcV.out (by omega) HBY.out.size ?_; intro A3 c3 Z hO hB4; have HO4 := Lib.hid hO; have HBZ := Lib.hid (HBY.out.trans hB4); clear hO hB4))
          have HBw := Lib.hid (up HB.out HBZ.out)
          have KYZ := KY.keep HBZ.out
          have hcap := HO4.out.cap
          have hcl := HO4.out.capL.1
          have HI := Lib.hid HO4.out.isP
          have Hfar : Hid (∀ p, A3 = some p → D ≤ p.block) := Lib.hid (fun p hp => by have := HO4.out.capL.2 p hp; have := HB.out.size; omega)
          have HKY := Lib.hid KYZ
          clear HO4 HX HcV HBY HbX HC1 KY
          have Hxi : Hid (idxOk l.length (b ++ [(k : Int)])) := Lib.hid (idxOk_snoc Hix.out hkl)
          have HMN : Hid (aliB K (someI l (b ++ [(k : Int)])) = apAll (apL K) (bsL K l) k b) := Lib.hid (many_next HK.out HLo.out hkl Hix.out Hal.out)
          obtain ⟨S, hS⟩ : ∃ S, someI l (b ++ [(k : Int)]) = S := ⟨_, rfl⟩
          have HS := Lib.hid hS
          have hS40 : S.length ≤ 1000 := by rw [← hS, someI_len, List.length_append, List.length_singleton]; omega
          have HSl : Hid (lOk K S = true) := Lib.hid (by rw [← hS]; exact lOk_some HLo.out Hxi.out)
          rw [hS] at HMN
          clear hS
          have hb9 : (b ++ [(k : Int)]).length ≤ 1000 := by rw [List.length_append, List.length_singleton]; omega
          have KYZl := KYZ.lt; have KYZc := KYZ.get; have KYZf := KYZ.fr
          go_upto_region 10 with fail
          refine wp_region_takesG 4 3 [0, 1, 2] (by kernel_rfl) (by kernel_rfl) (by kernel_rfl) (by kernel_rfl) (by decide) (fun d _ _ _ _ h => by cases d <;> exact h) (by kernel_rfl) rfl ?_
          refine wpTakes_step (v := .agg #[.slice A n c, .slice B m d]) rfl (by rfl) ?_ ?_
          · (rintro _ ⟨z9, rfl⟩; exact run_get 25 (.tmp 4) rfl rfl (cell_res (HKY.out.keep (grow_below Z z9)) Tryz.underlying25 rfl (by kernel_rfl)))
          simp only [Act.put, List.setIfInBounds_toArray, List.set_cons_zero, List.set_cons_succ]
          refine wpTakes_step (v := ?_) rfl (by rfl) ?_ ?_
          rotate_left
          · (rintro _ ⟨z9, rfl⟩; go_simp; try (with_reducible rfl))
          simp only [Act.put, List.setIfInBounds_toArray, List.set_cons_zero, List.set_cons_succ]
          refine wpTakes_step (v := ?_) rfl (by rfl) ?_ ?_
          rotate_left
          · (rintro _ ⟨z9, rfl⟩; go_simp; try (with_reducible rfl))
          simp only [Act.put, List.setIfInBounds_toArray, List.set_cons_zero, List.set_cons_succ]
          simp only [wpTakes]
          refine wpAnyT_step (i := 3) rfl (by kernel_rfl) rfl ?_
          have hbd : Below Z.heap.size Z Z.drew := by go_grown
          have HBd := Lib.hid hbd
          have HIV := Lib.hid (HI.out.keep hbd)
          have HlV := Lib.hid ((Hl.out.keep HBw.out).keep hbd)
          clear hbd KYZl KYZc KYZf
          go_wp2_with (go_at_call 141; refine (rsome_any L r s l _ A3 (b.length + 1) c3 (b ++ [(k : Int)]) HlV.out HIV.out Hxi.out hb9).mono ?_; rintro e T ⟨y9, rfl, hO, hbt⟩)
          rw [HS.out] at hO
          obtain ⟨A9, c9, rfl⟩ := hO.shape
          have HIS := Lib.hid hO.isP
          have HBt := Lib.hid (up HBd.out hbt)
          refine ⟨below_grow HBt.out, ?_⟩
          clear hO hbt
          refine wpAnyT_tail rfl (by kernel_rfl) (by kernel_rfl) ?_
          simp only [List.drop_succ_cons, List.drop_zero]
          cases hF : apAll (apL K) (bsL K l) k b
          · rw [hF] at HMN
            have HF := Lib.hid hF
            clear hF
            go_wp2_with (go_at_call 142; refine (ralien_any A n c B m d K A9 S.length c9 S T (Hg.out.keep (up HBw.out HBt.out)) HIS.out HK.out HSl.out hS40).mono ?_; rintro e U ⟨rfl, hbu⟩; rw [HMN.out]; have HBu := Lib.hid (up HBt.out hbu); clear hbu)
            exact ⟨⟨k + 1, by omega, by omega, by go_num, up HBw.out HBu.out, HKY.out.keep HBu.out, by rw [← Hp.out, Hfk.out, crowd_skip Hov.out HF.out]⟩, by simp [intOf]; omega⟩
          · rw [hF] at HMN
            have HF := Lib.hid hF
            clear hF
            go_upto_region 11 with (go_at_call 142; refine (ralien_any A n c B m d K A9 S.length c9 S T (Hg.out.keep (up HBw.out HBt.out)) HIS.out HK.out HSl.out hS40).mono ?_; rintro e U ⟨rfl, hbu⟩; rw [HMN.out]; have HBu := Lib.hid (up HBt.out hbu); clear hbu)
            have HBU := Lib.hid (up HBw.out HBu.out)
            have KYU := HKY.out.keep HBu.out
            have hC := Ih.out A3 (b.length + 1) c3 (b ++ [(k : Int)]) U (by have := HMl.out; rw [List.length_append, List.length_singleton]; omega) (HA.out.keep HBU.out) (Hg.out.keep HBU.out) (Hl.out.keep HBU.out) (HI.out.keep HBu.out) ⟨hcl, hcap⟩ Hxi.out (by rw [HS.out]; exact HMN.out) (by rw [frm_snoc]; omega) (by have := HBU.out.size; omega) Hfar.out
            rw [frm_snoc] at hC
            have HC := Lib.hid hC
            clear hC
            have KYUl := KYU.lt; have KYUc := KYU.get; have KYUf := KYU.fr
            cases hcr : crowdL P.length (apL K) (bsL K l) (l.length - (k + 1)) (b ++ [(k : Int)]) (k + 1) with
            | nil =>
              have Hcr := Lib.hid hcr
              have HKK : Hid (crowdL P.length (apL K) (bsL K l) (l.length - (k + 1)) b (k + 1) = CW) := Lib.hid (by rw [← Hp.out, Hfk.out, crowd_none Hov.out HF.out hcr])
              clear hcr
              go_wp2_with (go_at_call 100; refine HC.out.mono ?_; rintro e Y ⟨y8, rfl, hv, hby⟩; rw [Hcr.out] at hv; obtain ⟨C8, q8, c8, rfl, -, hisv, -⟩ := hv; have HBY := Lib.hid (up HBU.out hby); have KYY := KYU.keep hby; obtain rfl := hisv.len; clear hby hisv)
              exact ⟨⟨k + 1, by omega, by omega, by go_num, HBY.out, KYY, HKK.out⟩, by simp [intOf]; omega⟩
            | cons x9 t9 =>
              have Hcr := Lib.hid hcr
              have HKK : Hid (CW = x9 :: t9) := Lib.hid (by rw [← Hp.out, Hfk.out, crowd_some Hov.out HF.out hcr])
              clear hcr
              go_wp2_with (go_at_call 100; refine HC.out.mono ?_; rintro e Y ⟨y8, rfl, hv, hby⟩; rw [Hcr.out] at hv; obtain ⟨C8, q8, c8, rfl, hq8, hisv, hfv⟩ := hv; have HBY := Lib.hid (up HBU.out hby); have hql := hisv.len; simp only [List.length_cons] at hql; subst hql; have Hv := Lib.hid hisv; have Hfv := Lib.hid hfv; clear hby hisv hfv)
              go_ret
              exact ⟨_, rfl, by rw [HKK.out]; exact ⟨C8, t9.length + 1, c8, rfl, hq8, Hv.out, Hfv.out⟩, HBY.out⟩
        · obtain rfl : k = r := by omega
          have HKK : Hid (CW = []) := Lib.hid (by rw [← Hp.out, ← Hr.out, Nat.sub_self, crowd_zero Hov.out])
          have KYl := KY.lt; have KYc := KY.get; have KYf := KY.fr
          go_wp2
          go_ret
          exact ⟨_, rfl, by rw [HKK.out]; exact Lst.nil _ _, HB.out⟩
    · have hu0 : (0 : Int) < (u : Int) := by omega
      have hu1 : 0 < u := by omega
      have hub : u - 1 < b.length := by rw [← Hu.out]; omega
      have hx0 := (Hix.out b[u - 1] (List.getElem_mem hub)).1
      obtain ⟨x, hx⟩ := Int.eq_ofNat_of_zero_le hx0
      have Hf1 : Hid (fr = x + 1) := Lib.hid (by
        rw [← Hfr.out]; unfold frmI
        rw [if_neg (by intro h; rw [h] at hub; simp at hub), ← Hu.out, show b.getD (u - 1) 0 = b[u - 1] by simp [hub], hx, Int.toNat_natCast])
      obtain ⟨bb, oo, rfl, hbb, hcb⟩ := Hc.out.get (u - 1) hub
      rw [hx] at hcb
      have e1 : IntKind.i64.wrap ((u : Int) - 1) = (u : Int) - 1 := by rw [IntWalk.i64_in _ (by omega)]
      have hxl9 : x < l.length := by have := (Hix.out b[u - 1] (List.getElem_mem hub)).2; omega
      have e3 : IntKind.i64.wrap ((x : Int) + 1) = (fr : Int) := by rw [IntWalk.i64_in _ (by omega), Hf1.out]; omega
      clear Hf1 hxl9
      clear hx hx0
      go_enter Tryz.func100, Tryz.ntmps100
      go_upto_region 1 with fail
      generalize hW : (World.alloc _ _) = W
      have HB : Hid (Below w.heap.size w W) := Lib.hid (by subst hW; go_grown)
      have KY : Bx W (w.heap.size) 25 [.slice A n c, .slice B m d] := by subst hW; repeat (first | (refine Bx.newAt _ _ _ ?_; first | rfl | (simp only [World.size_alloc]; done) | (simp only [World.size_alloc]; omega)) | refine Bx.old ?_ _)
      clear hW
      have KYl := KY.lt; have KYc := KY.get; have KYf := KY.fr
      have hcbW := (HB.out.cell (p := ⟨bb, oo + (u - 1), none⟩) hbb).trans hcb
      go_upto_region 6 with fail
      clear hcbW hcb hbb
      go_upto_region 7 with fail
      clear KYl KYc KYf
      go_loopw [10] (fun i wr => ∃ (k : Nat), fr ≤ k ∧ k ≤ r ∧ i = .int .i64 k ∧ Below w.heap.size w wr ∧ Bx wr w.heap.size 25 [.slice A n c, .slice B m d] ∧ crowdL P.length (apL K) (bsL K l) (l.length - k) b k = CW) (fun i _ => r - (intOf i).toNat)
      case atStart => exact ⟨fr, Nat.le_refl _, hfrl, rfl, HB.out, KY, by rw [← HCW.out, Hfr.out]⟩
      case round =>
        clear KY HB
        obtain ⟨k, hkf, hk, rfl, hb, KY, hp⟩ := hrel
        have Hp := Lib.hid hp
        have HB := Lib.hid hb
        clear hb hp
        by_cases hlt : k < r
        · have hkl : k < l.length := by rw [← Hr.out]; exact hlt
          have hfk : l.length - k = (l.length - (k + 1)) + 1 := by omega
          have Hfk := Lib.hid hfk
          clear hfk
          have KYl := KY.lt; have KYc := KY.get; have KYf := KY.fr
          have HO := Lib.hid (show OI (wr.alloc (.cells #[] 3)) wr.heap.size (.slice (some ⟨wr.heap.size, 0, none⟩) 0 0) [] from ⟨World.ownsRow_made wr #[] 0 (Nat.le_refl _) (by unfold maxLen; omega) rfl⟩)
          have hb1 := up_alloc wr (.cells #[] 3)
          have HC1 := Lib.hid ((Hc.out.keep HB.out).keep hb1)
          have HbX := Lib.hid hb1
          clear hb1
          clear KYl KYc KYf
          go_upto_region 10 with (first
            | (at_builtin; refine wpList_appAny HO.out (.tmp 33) (.tmp 34) rfl rfl rfl rfl HC1.out (by simp <;> omega) HbX.out.size ?_; intro A' c' Y hO hb; have hb3 := up_alloc Y (.cells #[.int .i64 (k : Int)] 3); have HX : Hid (OI (Y.alloc (.cells #[.int .i64 (k : Int)] 3)) wr.heap.size (.slice A' b.length c') b) := Lib.hid (by rw [List.nil_append] at hO; exact hO.keep hb3); have HcV : Hid ((Y.alloc (.cells #[.int .i64 (k : Int)] 3)).cell? ⟨Y.heap.size, 0, none⟩ = some (.int .i64 (k : Int))) := Lib.hid (by rw [cell_of_row _ _ _ _ _ _ (heap_alloc_new _ _)]; rfl); have HBY := Lib.hid (up (HbX.out.trans hb) hb3); clear hO hb hb3 HO)
            | (at_builtin; refine wpList_appI HX.out (.tmp 35) (.tmp 37) rfl rfl rfl rfl HcV.out (by omega) HBY.out.size ?_; intro A3 c3 Z hO hB4; have HO4 := Lib.hid hO; have HBZ := Lib.hid (HBY.out.trans hB4); clear hO hB4))
          have HBw := Lib.hid (up HB.out HBZ.out)
          have KYZ := KY.keep HBZ.out
          have hcap := HO4.out.cap
          have hcl := HO4.out.capL.1
          have HI := Lib.hid HO4.out.isP
          have Hfar : Hid (∀ p, A3 = some p → D ≤ p.block) := Lib.hid (fun p hp => by have := HO4.out.capL.2 p hp; have := HB.out.size; omega)
          have HKY := Lib.hid KYZ
          clear HO4 HX HcV HBY HbX HC1 KY
          have Hxi : Hid (idxOk l.length (b ++ [(k : Int)])) := Lib.hid (idxOk_snoc Hix.out hkl)
          have HMN : Hid (aliB K (someI l (b ++ [(k : Int)])) = apAll (apL K) (bsL K l) k b) := Lib.hid (many_next HK.out HLo.out hkl Hix.out Hal.out)
          obtain ⟨S, hS⟩ : ∃ S, someI l (b ++ [(k : Int)]) = S := ⟨_, rfl⟩
          have HS := Lib.hid hS
          have hS40 : S.length ≤ 1000 := by rw [← hS, someI_len, List.length_append, List.length_singleton]; omega
          have HSl : Hid (lOk K S = true) := Lib.hid (by rw [← hS]; exact lOk_some HLo.out Hxi.out)
          rw [hS] at HMN
          clear hS
          have hb9 : (b ++ [(k : Int)]).length ≤ 1000 := by rw [List.length_append, List.length_singleton]; omega
          have KYZl := KYZ.lt; have KYZc := KYZ.get; have KYZf := KYZ.fr
          go_upto_region 10 with fail
          refine wp_region_takesG 4 3 [0, 1, 2] (by kernel_rfl) (by kernel_rfl) (by kernel_rfl) (by kernel_rfl) (by decide) (fun d _ _ _ _ h => by cases d <;> exact h) (by kernel_rfl) rfl ?_
          refine wpTakes_step (v := .agg #[.slice A n c, .slice B m d]) rfl (by rfl) ?_ ?_
          · (rintro _ ⟨z9, rfl⟩; exact run_get 25 (.tmp 4) rfl rfl (cell_res (HKY.out.keep (grow_below Z z9)) Tryz.underlying25 rfl (by kernel_rfl)))
          simp only [Act.put, List.setIfInBounds_toArray, List.set_cons_zero, List.set_cons_succ]
          refine wpTakes_step (v := ?_) rfl (by rfl) ?_ ?_
          rotate_left
          · (rintro _ ⟨z9, rfl⟩; go_simp; try (with_reducible rfl))
          simp only [Act.put, List.setIfInBounds_toArray, List.set_cons_zero, List.set_cons_succ]
          refine wpTakes_step (v := ?_) rfl (by rfl) ?_ ?_
          rotate_left
          · (rintro _ ⟨z9, rfl⟩; go_simp; try (with_reducible rfl))
          simp only [Act.put, List.setIfInBounds_toArray, List.set_cons_zero, List.set_cons_succ]
          simp only [wpTakes]
          refine wpAnyT_step (i := 3) rfl (by kernel_rfl) rfl ?_
          have hbd : Below Z.heap.size Z Z.drew := by go_grown
          have HBd := Lib.hid hbd
          have HIV := Lib.hid (HI.out.keep hbd)
          have HlV := Lib.hid ((Hl.out.keep HBw.out).keep hbd)
          clear hbd KYZl KYZc KYZf
          go_wp2_with (go_at_call 141; refine (rsome_any L r s l _ A3 (b.length + 1) c3 (b ++ [(k : Int)]) HlV.out HIV.out Hxi.out hb9).mono ?_; rintro e T ⟨y9, rfl, hO, hbt⟩)
          rw [HS.out] at hO
          obtain ⟨A9, c9, rfl⟩ := hO.shape
          have HIS := Lib.hid hO.isP
          have HBt := Lib.hid (up HBd.out hbt)
          refine ⟨below_grow HBt.out, ?_⟩
          clear hO hbt
          refine wpAnyT_tail rfl (by kernel_rfl) (by kernel_rfl) ?_
          simp only [List.drop_succ_cons, List.drop_zero]
          cases hF : apAll (apL K) (bsL K l) k b
          · rw [hF] at HMN
            have HF := Lib.hid hF
            clear hF
            go_wp2_with (go_at_call 142; refine (ralien_any A n c B m d K A9 S.length c9 S T (Hg.out.keep (up HBw.out HBt.out)) HIS.out HK.out HSl.out hS40).mono ?_; rintro e U ⟨rfl, hbu⟩; rw [HMN.out]; have HBu := Lib.hid (up HBt.out hbu); clear hbu)
            exact ⟨⟨k + 1, by omega, by omega, by go_num, up HBw.out HBu.out, HKY.out.keep HBu.out, by rw [← Hp.out, Hfk.out, crowd_skip Hov.out HF.out]⟩, by simp [intOf]; omega⟩
          · rw [hF] at HMN
            have HF := Lib.hid hF
            clear hF
            go_upto_region 11 with (go_at_call 142; refine (ralien_any A n c B m d K A9 S.length c9 S T (Hg.out.keep (up HBw.out HBt.out)) HIS.out HK.out HSl.out hS40).mono ?_; rintro e U ⟨rfl, hbu⟩; rw [HMN.out]; have HBu := Lib.hid (up HBt.out hbu); clear hbu)
            have HBU := Lib.hid (up HBw.out HBu.out)
            have KYU := HKY.out.keep HBu.out
            have hC := Ih.out A3 (b.length + 1) c3 (b ++ [(k : Int)]) U (by have := HMl.out; rw [List.length_append, List.length_singleton]; omega) (HA.out.keep HBU.out) (Hg.out.keep HBU.out) (Hl.out.keep HBU.out) (HI.out.keep HBu.out) ⟨hcl, hcap⟩ Hxi.out (by rw [HS.out]; exact HMN.out) (by rw [frm_snoc]; omega) (by have := HBU.out.size; omega) Hfar.out
            rw [frm_snoc] at hC
            have HC := Lib.hid hC
            clear hC
            have KYUl := KYU.lt; have KYUc := KYU.get; have KYUf := KYU.fr
            cases hcr : crowdL P.length (apL K) (bsL K l) (l.length - (k + 1)) (b ++ [(k : Int)]) (k + 1) with
            | nil =>
              have Hcr := Lib.hid hcr
              have HKK : Hid (crowdL P.length (apL K) (bsL K l) (l.length - (k + 1)) b (k + 1) = CW) := Lib.hid (by rw [← Hp.out, Hfk.out, crowd_none Hov.out HF.out hcr])
              clear hcr
              go_wp2_with (go_at_call 100; refine HC.out.mono ?_; rintro e Y ⟨y8, rfl, hv, hby⟩; rw [Hcr.out] at hv; obtain ⟨C8, q8, c8, rfl, -, hisv, -⟩ := hv; have HBY := Lib.hid (up HBU.out hby); have KYY := KYU.keep hby; obtain rfl := hisv.len; clear hby hisv)
              exact ⟨⟨k + 1, by omega, by omega, by go_num, HBY.out, KYY, HKK.out⟩, by simp [intOf]; omega⟩
            | cons x9 t9 =>
              have Hcr := Lib.hid hcr
              have HKK : Hid (CW = x9 :: t9) := Lib.hid (by rw [← Hp.out, Hfk.out, crowd_some Hov.out HF.out hcr])
              clear hcr
              go_wp2_with (go_at_call 100; refine HC.out.mono ?_; rintro e Y ⟨y8, rfl, hv, hby⟩; rw [Hcr.out] at hv; obtain ⟨C8, q8, c8, rfl, hq8, hisv, hfv⟩ := hv; have HBY := Lib.hid (up HBU.out hby); have hql := hisv.len; simp only [List.length_cons] at hql; subst hql; have Hv := Lib.hid hisv; have Hfv := Lib.hid hfv; clear hby hisv hfv)
              go_ret
              exact ⟨_, rfl, by rw [HKK.out]; exact ⟨C8, t9.length + 1, c8, rfl, hq8, Hv.out, Hfv.out⟩, HBY.out⟩
        · obtain rfl : k = r := by omega
          have HKK : Hid (CW = []) := Lib.hid (by rw [← Hp.out, ← Hr.out, Nat.sub_self, crowd_zero Hov.out])
          have KYl := KY.lt; have KYc := KY.get; have KYf := KY.fr
          go_wp2
          go_ret
          exact ⟨_, rfl, by rw [HKK.out]; exact Lst.nil _ _, HB.out⟩
end Go.Proofs.YtifokapcobgjiaaGreat

namespace Go.Proofs.YtifokapcobgjiaaGreat
open Go Go.RowKit
set_option maxRecDepth 100000

theorem leastK_congr {f g : List Int → Bool} {n : Nat} (h : ∀ b, idxOk n b → f b = g b) : ∀ k, k ≤ n → leastK f n k = leastK g n k := by
  intro k
  induction k with
  | zero => intro _; rfl
  | succ k ih =>
    intro hk
    have e := ih (by omega)
    rw [leastK, leastK, ← e, h _ (idxOk_erase (leastK_ok f n k (by omega)).1 _)]
theorem someI_rng (l : List Int) : someI l (rngI l.length) = l := by
  apply List.ext_getElem?
  intro i
  unfold someI rngI
  rw [List.map_map]
  by_cases h : i < l.length
  · simp [h]
  · simp [h]
section
variable {P : List Int} {K : List Kd} {l : List Int}
theorem badI_over {b : List Int} (h : idxOk l.length b) : badI P K l 2 b = overB P (bsL K l) b := by
  unfold badI badB overB
  rw [if_pos rfl, bsL_some h]
theorem badI_stuck {b : List Int} (h : idxOk l.length b) : badI P K l 4 b = stuckB P (apL K) (bsL K l) b := by
  unfold badI badB stuckB
  rw [if_neg (by decide)]
  unfold PL
  rw [bsL_some h]
theorem badB_rng (kd : Int) : badB P K l kd = badI P K l kd (rngI l.length) := by unfold badI; rw [someI_rng]
/-- What the reference tells. -/
def rrP (P : List Int) (K : List Kd) (l : List Int) : Int × List Int :=
  if findBigL P (bsL K l) ≠ [] then (1, findBigL P (bsL K l)) else
  if badB P K l 2 = true then (2, leastK (badI P K l 2) l.length l.length) else
  if findManyL P (apL K) (bsL K l) ≠ [] then (3, findManyL P (apL K) (bsL K l)) else
  if badB P K l 4 = true then (4, leastK (badI P K l 4) l.length l.length) else (0, [])
def rrE (P : List Int) (K : List Kd) (l : List Int) : Int := if (rrP P K l).1 = 0 then 3 else 0
theorem rr_eq (h0 : sE P K l = 0) : rrP P K l = refP P K l ∧ rrE P K l = refE P K l := by
  obtain ⟨hy, h8, hlo⟩ := sE_0 h0
  obtain ⟨h5, hP, hK⟩ := yOk_k hy
  have hg := bsL_good hK hlo
  have hbl := bsL_len K l
  have e2 : leastK (badI P K l 2) l.length l.length = leastK (overB P (bsL K l)) (bsL K l).length (bsL K l).length := by
    rw [hbl]; exact leastK_congr (fun b h => badI_over h) _ (Nat.le_refl _)
  have e4 : leastK (badI P K l 4) l.length l.length = leastK (stuckB P (apL K) (bsL K l)) (bsL K l).length (bsL K l).length := by
    rw [hbl]; exact leastK_congr (fun b h => badI_stuck h) _ (Nat.le_refl _)
  have o2 : badB P K l 2 = overB P (bsL K l) (rngI (bsL K l).length) := by rw [badB_rng, badI_over (rngI_ok _), hbl]
  have o4 : badB P K l 4 = !(PL P K l != []) := by unfold badB; rw [if_neg (by decide)]
  by_cases hp : PL P K l = []
  · obtain ⟨hw1, hw2⟩ := why_rsn h0 hp
    have hE : refE P K l = 0 := by unfold refE; rw [if_pos h0, if_pos hp, if_neg hw1]
    have hW : refP P K l = whyP P K l := by unfold refP; rw [if_pos ⟨h0, hp⟩]
    rw [hE, hW]
    have main : rrP P K l = whyP P K l ∧ (rrP P K l).1 ≠ 0 := by
      unfold rrP whyP findsL
      by_cases c1 : findBigL P (bsL K l) = []
      rotate_left
      · rw [firstL_cons c1, if_pos c1]; exact ⟨rfl, fun h => by simp at h⟩
      rw [c1, firstL_nil, if_neg (by simp)]
      cases hr : overB P (bsL K l) (rngI (bsL K l).length)
      · have c2 : findMuchL P (bsL K l) = [] := least_nil hr
        rw [o2, hr, if_neg (by decide), c2, firstL_nil]
        by_cases c3 : findManyL P (apL K) (bsL K l) = []
        rotate_left
        · rw [firstL_cons c3, if_pos c3]; exact ⟨rfl, fun h => by simp at h⟩
        have hr4 : stuckB P (apL K) (bsL K l) (rngI (bsL K l).length) = true := by
          unfold stuckB
          rw [someL_rng]
          have : plc (apL K) P.length P.length (bsL K l) (st0 P) = [] := hp
          rw [this]; rfl
        have hn : stuckB P (apL K) (bsL K l) [] = false := by unfold stuckB someL; simp [plc]
        obtain ⟨b1, b2, b3⟩ := least_is (stuck_up (P := P) h5 (apL_ok hK) hg) hr4 hn
        have c4 : findTightL P (apL K) (bsL K l) ≠ [] := b3
        have f4 : findTightL P (apL K) (bsL K l) = leastK (stuckB P (apL K) (bsL K l)) (bsL K l).length (bsL K l).length := by unfold findTightL leastL; rw [if_pos hr4]
        rw [c3, firstL_nil, if_neg (by simp), o4, hp, if_pos (by decide), firstL_cons c4, e4, f4]
        exact ⟨rfl, fun h => by simp at h⟩
      · have hn : overB P (bsL K l) [] = false := by
          have := sumI_in hP h5 P.length
          rw [List.take_length] at this
          unfold overB someL
          rw [List.map_nil, sumR_nil]; simp; omega
        obtain ⟨b1, b2, b3⟩ := least_is (over_up (P := P) hg) hr hn
        have c2 : findMuchL P (bsL K l) ≠ [] := b3
        have f2 : findMuchL P (bsL K l) = leastK (overB P (bsL K l)) (bsL K l).length (bsL K l).length := by unfold findMuchL leastL; rw [if_pos hr]
        rw [o2, hr, if_pos rfl, firstL_cons c2, e2, f2]
        exact ⟨rfl, fun h => by simp at h⟩
    refine ⟨main.1, ?_⟩
    unfold rrE
    rw [if_neg main.2]
  · have hE : refE P K l = 3 := by unfold refE; rw [if_pos h0, if_neg hp]
    have hW : refP P K l = (0, []) := by unfold refP; rw [if_neg (fun h => hp h.2)]
    have main : rrP P K l = (0, []) := by
      unfold rrP
      have c1 : findBigL P (bsL K l) = [] := by
        by_cases c1 : findBigL P (bsL K l) = []
        · exact c1
        · obtain ⟨j, a1, a2, a3, a4⟩ := big_some _ _ c1
          have := no_big h0 hp (b := [(j : Int)]) (fun x hx => by rw [List.mem_singleton] at hx; subst hx; omega) (List.pairwise_singleton _ _)
          unfold isBigB at this
          simp [a4] at this
      have c2 : badB P K l 2 = false := by rw [badB_rng, badI_over (rngI_ok _)]; exact no_over h0 hp (rngI_ok _) (rngI_ris _)
      have c3 : findManyL P (apL K) (bsL K l) = [] := by
        by_cases c3 : findManyL P (apL K) (bsL K l) = []
        · exact c3
        · obtain ⟨b1, b2, b3⟩ := crowd_some2 (bsL K l).length [] 0 (fun k hk => by simp at hk) (by simp) List.Pairwise.nil (fun x hx => by cases hx) c3
          have h6 : idxOk (0 + (bsL K l).length) (findManyL P (apL K) (bsL K l)) := b3
          rw [Nat.zero_add, hbl] at h6
          have h7 := no_many h0 hp h6 b2
          have h8 : isManyB P.length (apL K) (bsL K l) (findManyL P (apL K) (bsL K l)) = true := b1
          rw [h7] at h8; cases h8
      have c4 : badB P K l 4 = false := by
        rw [o4]
        cases hq : PL P K l with
        | nil => exact absurd hq hp
        | cons a b => rfl
      rw [c1, if_neg (by simp), c2, if_neg (by decide), c3, if_neg (by simp), c4, if_neg (by decide)]
    rw [hE, hW]
    refine ⟨main, ?_⟩
    unfold rrE
    rw [main]; rfl
end
end Go.Proofs.YtifokapcobgjiaaGreat

