/- Contracts of functions of the program and of the reference, and plain facts: a part of a proof. Own text. -/
import Derived.Test.YtifokapcobgjiaaGreatJe
import Derived.Test.YtifokapcobgjiaaGreatJh
import Derived.Test.YtifokapcobgjiaaGreatJk
import Derived.Test.YtifokapcobgjiaaGreatJn
set_option linter.unusedVariables false
set_option linter.unusedSimpArgs false
set_option linter.unusedSectionVars false
namespace Go.Proofs.YtifokapcobgjiaaGreat
open Go Go.RowKit
set_option maxHeartbeats 2000000
set_option maxRecDepth 100000

/-- Those of the first k beasts that stand in a pen. -/
def inK (p : List Int) (x : Int) : Nat → List Int
  | 0 => []
  | k + 1 => if p.getD k 0 = x then inK p x k ++ [(k : Int)] else inK p x k
def insE (P : List Int) (K : List Kd) (l p : List Int) (x : Int) : Int := orE [plE P K l p, err (inB x 0 ((P.length : Int) - 1)) 56]
def insL (P : List Int) (K : List Kd) (l p : List Int) (x : Int) : List Int := if insE P K l p x = 0 then inK p x p.length else []
theorem inK_len (p : List Int) (x : Int) (k : Nat) : (inK p x k).length ≤ k := by
  induction k with
  | zero => simp [inK]
  | succ k ih =>
    rw [inK]; split
    · simp; exact ih
    · omega
theorem insE_0 {P : List Int} {K : List Kd} {l p : List Int} {x : Int} (h : insE P K l p x = 0) : plE P K l p = 0 ∧ inB x 0 ((P.length : Int) - 1) = true := by
  unfold insE orE at h
  split at h
  · rename_i h1
    refine ⟨h1, ?_⟩
    unfold orE at h
    split at h
    · rename_i h2
      unfold err at h2; split at h2
      · assumption
      · omega
    · exact absurd h (by assumption)
  · exact absurd h (by assumption)
theorem Inside_any (A : Option Addr) (n c : Nat) (P : List Int) (B : Option Addr) (m d : Nat) (K : List Kd) (L : Option Addr) (r s : Nat) (l : List Int) (C : Option Addr) (u v : Nat) (p : List Int) (x : Int) (w : World)
    (hp : Is w A n P) (hg : Ks w B m K) (hl : Is w L r l) (hc : Is w C u p) :
    Calls Tryz.prog 32 #[.agg #[.slice A n c, .slice B m d], .slice L r s, .slice C u v, .int .i64 x] w fun e w' => ∃ y, e = .returned (.tuple #[y, .int .i64 (insE P K l p x)]) ∧ Lst w.heap.size w' y (insL P K l p x) ∧ Below w.heap.size w w' := by
  have Hu : Hid (u = p.length) := Lib.hid hc.len
  have hux := hc.small
  have Hp := Lib.hid hp; have Hg := Lib.hid hg; have Hl := Lib.hid hl; have Hc := Lib.hid hc
  clear hp hg hl hc
  have HT : Hid (insE P K l p x = orE [plE P K l p, err (inB x 0 ((P.length : Int) - 1)) 56]) := Lib.hid rfl
  have HS : Hid (∀ W, Below w.heap.size w W → Calls Tryz.prog 40 #[.agg #[.slice A n c, .slice B m d], .slice L r s, .slice C u v] W fun e w' => e = .returned (.int .i64 (plE P K l p)) ∧ Below W.heap.size W w') := Lib.hid (fun W hW =>
    checkPlace_any A n c P B m d K L r s l C u v p W (Hp.out.keep hW) (Hg.out.keep hW) (Hl.out.keep hW) (Hc.out.keep hW))
  have HD : Hid (∀ W, Below w.heap.size w W → Calls Tryz.prog 83 #[.agg #[.slice A n c, .slice B m d], .int .i64 x] W fun e w' => e = .returned (.int .i64 (err (inB x 0 ((P.length : Int) - 1)) 56)) ∧ Below W.heap.size W w') := Lib.hid (fun W hW =>
    checkPen_any A n c P _ x W (Hp.out.keep hW))
  by_cases h0 : insE P K l p x = 0
  rotate_left
  · have hne : (insE P K l p x != 0) = true := by simpa using h0
    have HX : Hid (insL P K l p x = []) := Lib.hid (by unfold insL; rw [if_neg h0])
    rw [HX.out]
    clear h0 HX
    generalize plE P K l p = E at *
    generalize err (inB x 0 ((P.length : Int) - 1)) 56 = F at *
    generalize insE P K l p x = T at *
    go_enter Tryz.func32, Tryz.ntmps32
    go_upto_region 1 with fail
    generalize hW : (World.alloc _ _) = W
    have HB : Hid (Below w.heap.size w W) := Lib.hid (by subst hW; go_grown)
    have KY : Bx W (w.heap.size) 25 [.slice A n c, .slice B m d] := by subst hW; repeat (first | (refine Bx.newAt _ _ _ ?_; first | rfl | (simp only [World.size_alloc]; done) | (simp only [World.size_alloc]; omega)) | refine Bx.old ?_ _)
    clear hW
    have KYl := KY.lt; have KYc := KY.get; have KYf := KY.fr
    refine wp_region_grow_tail 7 (by kernel_rfl) (by kernel_rfl) ?_
    simp only [List.take_succ_cons, List.take_zero, List.drop_succ_cons, List.drop_zero]
    repeat (go_big_quiet_step ((first | (go_at_call 40; exact quiet_grow rfl (HS.out _ (HB.out.trans ((grow_below W _).mono HB.out.size)))) | (go_at_call 83; exact quiet_grow rfl (HD.out _ (HB.out.trans ((grow_below W _).mono HB.out.size)))))))
    refine wpQuiet_nil ?_
    intro z
    have hbz := grow_below W z
    generalize grow W z = X at *
    replace HB := Lib.hid (up HB.out hbz)
    clear hbz KYl KYc KYf
    go_wp2_with (go_at_call 82; refine (Or_any _ _ _ [E, F] _ (isC X 27 [E, F] (by simp))).mono ?_; rintro e V ⟨rfl, rfl⟩; rw [← HT.out]; replace HB := Lib.hid (up HB.out (up_alloc X (.cells ⟨ints [E, F]⟩ 27))))
    go_ret2
    exact ⟨_, rfl, Lst.nil _ _, HB.out⟩
  · obtain ⟨h1, h2⟩ := insE_0 h0
    have hpl := (plE_len h1).1
    have h8 := (plE_len h1).2
    have HX : Hid (insL P K l p x = inK p x p.length) := Lib.hid (by unfold insL; rw [if_pos h0])
    rw [HX.out, h0]
    have HO : Hid (orE [0, 0] = 0) := Lib.hid rfl
    have hu40 : u ≤ 1000 := by have := Hu.out; omega
    rw [h1] at HS
    rw [h2, show err true 56 = 0 from rfl] at HD
    clear h0 HX h1 h2 HT
    go_enter Tryz.func32, Tryz.ntmps32
    go_upto_region 1 with fail
    generalize hW : (World.alloc _ _) = W
    have HB : Hid (Below w.heap.size w W) := Lib.hid (by subst hW; go_grown)
    have KY : Bx W (w.heap.size) 25 [.slice A n c, .slice B m d] := by subst hW; repeat (first | (refine Bx.newAt _ _ _ ?_; first | rfl | (simp only [World.size_alloc]; done) | (simp only [World.size_alloc]; omega)) | refine Bx.old ?_ _)
    clear hW
    have KYl := KY.lt; have KYc := KY.get; have KYf := KY.fr
    refine wp_region_grow_tail 7 (by kernel_rfl) (by kernel_rfl) ?_
    simp only [List.take_succ_cons, List.take_zero, List.drop_succ_cons, List.drop_zero]
    repeat (go_big_quiet_step ((first | (go_at_call 40; exact quiet_grow rfl (HS.out _ (HB.out.trans ((grow_below W _).mono HB.out.size)))) | (go_at_call 83; exact quiet_grow rfl (HD.out _ (HB.out.trans ((grow_below W _).mono HB.out.size)))))))
    refine wpQuiet_nil ?_
    intro z
    have hbz := grow_below W z
    generalize grow W z = X at *
    replace HB := Lib.hid (up HB.out hbz)
    clear hbz KYl KYc KYf
    go_upto_region 4 with (go_at_call 82; have hba := up_alloc X (.cells ⟨ints [0, 0]⟩ 27); refine (Or_any _ _ _ [0, 0] _ (isC X 27 [0, 0] (by simp))).mono ?_; rintro e V ⟨rfl, rfl⟩; rw [HO.out]; replace HB := Lib.hid (up HB.out hba); clear hba)
    generalize X.alloc (.cells ⟨ints [0, 0]⟩ 27) = Y at *
    go_wp2_with fail
    have HcY := Lib.hid (Hc.out.keep HB.out)
    have hsY := HB.out.size
    go_loopw [11, 28] (fun y i wr => ∃ (k : Nat), k ≤ u ∧ i = .int .i64 k ∧ OI wr Y.heap.size y (inK p x k) ∧ Below Y.heap.size Y wr) (fun _ i _ => u - (intOf i).toNat)
    case atStart => exact ⟨0, by omega, rfl, OI.nil _ _, Below.refl _ _⟩
    case round =>
      obtain ⟨k, hk, rfl, ho, hb⟩ := hrel
      have HBb := Lib.hid hb; have HO1 := Lib.hid ho
      obtain ⟨A1, c1, rfl⟩ := ho.shape
      have hsw := hb.size
      clear hb ho
      by_cases hlt : k < u
      · have hkl : k < p.length := by rw [← Hu.out]; exact hlt
        obtain ⟨b, o, rfl, hb, hcs⟩ := (HcY.out.keep HBb.out).get k hkl
        have hth := inK_len p x k
        by_cases hT : p[k] = x
        · have HK : Hid (inK p x (k + 1) = inK p x k ++ [(k : Int)]) := Lib.hid (by rw [inK, if_pos (by simp [hkl, hT])])
          rw [hT] at hcs
          clear hT
          have hb3 := up_alloc wr (.cells #[.int .i64 (k : Int)] 3)
          have HOV := Lib.hid (HO1.out.keep hb3)
          have HB3 := Lib.hid (up HBb.out hb3)
          have HcV : Hid ((wr.alloc (.cells #[.int .i64 (k : Int)] 3)).cell? ⟨wr.heap.size, 0, none⟩ = some (.int .i64 (k : Int))) := Lib.hid (by rw [cell_of_row _ _ _ _ _ _ (heap_alloc_new _ _)]; rfl)
          clear hb3
          go_wp2_with (at_builtin; refine wpList_appI HOV.out (.tmp 36) (.tmp 38) rfl rfl rfl rfl HcV.out (by omega) (by have := HB3.out.size; omega) ?_; intro A3 c3 U3 hO hB4; have HO4 := Lib.hid hO; have HB4 := Lib.hid (HB3.out.trans hB4); clear hO hB4)
          exact ⟨⟨k + 1, by omega, by go_num, by rw [HK.out]; exact HO4.out, HB4.out⟩, by simp [intOf]; omega⟩
        · have HK : Hid (inK p x (k + 1) = inK p x k) := Lib.hid (by rw [inK, if_neg (by simp [hkl, hT])])
          have hTb : (p[k] == x) = false := by simpa using hT
          clear hT
          generalize p[k] = y at *
          go_wp2_with fail
          exact ⟨⟨k + 1, by omega, by go_num, by rw [HK.out]; exact HO1.out, HBb.out⟩, by simp [intOf]; omega⟩
      · obtain rfl : k = u := by omega
        have HE : Hid (inK p x k = inK p x p.length) := Lib.hid (by rw [Hu.out])
        go_wp2
        go_ret2
        exact ⟨_, rfl, by rw [← HE.out]; exact (HO1.out.lst).mono hsY, up HB.out HBb.out⟩
theorem rInside_any (A : Option Addr) (n c : Nat) (P : List Int) (B : Option Addr) (m d : Nat) (K : List Kd) (L : Option Addr) (r s : Nat) (l : List Int) (C : Option Addr) (u v : Nat) (p : List Int) (x : Int) (w : World)
    (hp : Is w A n P) (hg : Ks w B m K) (hl : Is w L r l) (hc : Is w C u p) (hE : rplE P K l p = plE P K l p) :
    Calls Tryz.prog 33 #[.agg #[.slice A n c, .slice B m d], .slice L r s, .slice C u v, .int .i64 x] w fun e w' => ∃ y, e = .returned (.tuple #[y, .int .i64 (insE P K l p x)]) ∧ Lst w.heap.size w' y (insL P K l p x) ∧ Below w.heap.size w w' := by
  have Hu : Hid (u = p.length) := Lib.hid hc.len
  have Hn : Hid (n = P.length) := Lib.hid hp.len
  have hux := hc.small
  have hnx := hp.small
  have Hp := Lib.hid hp; have Hg := Lib.hid hg; have Hl := Lib.hid hl; have Hc := Lib.hid hc; have HE := Lib.hid hE
  clear hp hg hl hc hE
  by_cases h1 : plE P K l p = 0
  rotate_left
  · have HT : Hid (insE P K l p x = plE P K l p) := Lib.hid (by unfold insE orE; rw [if_neg h1])
    have HX : Hid (insL P K l p x = []) := Lib.hid (by unfold insL; rw [if_neg (by rw [HT.out]; exact h1)])
    have hne : (plE P K l p != 0) = true := by simpa using h1
    rw [HX.out, HT.out]
    clear h1 HT HX
    generalize plE P K l p = E at *
    go_enter Tryz.func33, Tryz.ntmps33
    go_upto_region 1 with fail
    generalize hW : (World.alloc _ _) = W
    have HB : Hid (Below w.heap.size w W) := Lib.hid (by subst hW; go_grown)
    have KY : Bx W (w.heap.size) 25 [.slice A n c, .slice B m d] := by subst hW; repeat (first | (refine Bx.newAt _ _ _ ?_; first | rfl | (simp only [World.size_alloc]; done) | (simp only [World.size_alloc]; omega)) | refine Bx.old ?_ _)
    clear hW
    have KYl := KY.lt; have KYc := KY.get; have KYf := KY.fr
    go_wp2_with (go_at_call 41; refine (rcheckPlace_any A n c P B m d K L r s l C u v p _ (Hp.out.keep HB.out) (Hg.out.keep HB.out) (Hl.out.keep HB.out) (Hc.out.keep HB.out)).mono ?_; rintro e X ⟨rfl, hbx⟩; rw [HE.out]; clear KYl KYc KYf; replace KY := KY.keep hbx; have KYl := KY.lt; have KYc := KY.get; have KYf := KY.fr; replace HB := Lib.hid (up HB.out hbx); clear hbx)
    go_ret2
    exact ⟨_, rfl, Lst.nil _ _, HB.out⟩
  · have hpl := (plE_len h1).1
    have h8 := (plE_len h1).2
    have hu40 : u ≤ 1000 := by have := Hu.out; omega
    rw [h1] at HE
    cases hI : inB x 0 ((n : Int) - 1)
    · have HT : Hid (insE P K l p x = 56) := Lib.hid (by unfold insE orE; rw [if_pos h1, ← Hn.out, hI]; rfl)
      have HX : Hid (insL P K l p x = []) := Lib.hid (by unfold insL; rw [if_neg (by rw [HT.out]; decide)])
      have HI := Lib.hid hI
      rw [HX.out, HT.out]
      clear h1 HT HX hI
      go_enter Tryz.func33, Tryz.ntmps33
      go_upto_region 1 with fail
      generalize hW : (World.alloc _ _) = W
      have HB : Hid (Below w.heap.size w W) := Lib.hid (by subst hW; go_grown)
      have KY : Bx W (w.heap.size) 25 [.slice A n c, .slice B m d] := by subst hW; repeat (first | (refine Bx.newAt _ _ _ ?_; first | rfl | (simp only [World.size_alloc]; done) | (simp only [World.size_alloc]; omega)) | refine Bx.old ?_ _)
      clear hW
      have KYl := KY.lt; have KYc := KY.get; have KYf := KY.fr
      go_wp2_with (first
        | (go_at_call 41; refine (rcheckPlace_any A n c P B m d K L r s l C u v p _ (Hp.out.keep HB.out) (Hg.out.keep HB.out) (Hl.out.keep HB.out) (Hc.out.keep HB.out)).mono ?_; rintro e X ⟨rfl, hbx⟩; rw [HE.out]; clear KYl KYc KYf; replace KY := KY.keep hbx; have KYl := KY.lt; have KYc := KY.get; have KYf := KY.fr; replace HB := Lib.hid (up HB.out hbx); clear hbx)
        | (go_at_call 72; refine (rwithin_b _ _ _ _ _ HI.out).mono ?_; rintro e X2 ⟨rfl, hbx⟩; clear KYl KYc KYf; replace KY := KY.keep hbx; have KYl := KY.lt; have KYc := KY.get; have KYf := KY.fr; replace HB := Lib.hid (up HB.out hbx); clear hbx))
      go_ret2
      exact ⟨_, rfl, Lst.nil _ _, HB.out⟩
    · have HT : Hid (insE P K l p x = 0) := Lib.hid (by unfold insE orE; rw [if_pos h1, ← Hn.out, hI]; rfl)
      have HX : Hid (insL P K l p x = inK p x p.length) := Lib.hid (by unfold insL; rw [if_pos HT.out])
      have HI := Lib.hid hI
      rw [HX.out, HT.out]
      clear h1 HT HX hI
      go_enter Tryz.func33, Tryz.ntmps33
      go_upto_region 1 with fail
      generalize hW : (World.alloc _ _) = W
      have HB : Hid (Below w.heap.size w W) := Lib.hid (by subst hW; go_grown)
      have KY : Bx W (w.heap.size) 25 [.slice A n c, .slice B m d] := by subst hW; repeat (first | (refine Bx.newAt _ _ _ ?_; first | rfl | (simp only [World.size_alloc]; done) | (simp only [World.size_alloc]; omega)) | refine Bx.old ?_ _)
      clear hW
      have KYl := KY.lt; have KYc := KY.get; have KYf := KY.fr
      go_upto_region 6 with (first
        | (go_at_call 41; refine (rcheckPlace_any A n c P B m d K L r s l C u v p _ (Hp.out.keep HB.out) (Hg.out.keep HB.out) (Hl.out.keep HB.out) (Hc.out.keep HB.out)).mono ?_; rintro e X ⟨rfl, hbx⟩; rw [HE.out]; clear KYl KYc KYf; replace KY := KY.keep hbx; have KYl := KY.lt; have KYc := KY.get; have KYf := KY.fr; replace HB := Lib.hid (up HB.out hbx); clear hbx)
        | (go_at_call 72; refine (rwithin_b _ _ _ _ _ HI.out).mono ?_; rintro e Y ⟨rfl, hbx⟩; clear KYl KYc KYf; replace KY := KY.keep hbx; have KYl := KY.lt; have KYc := KY.get; have KYf := KY.fr; replace HB := Lib.hid (up HB.out hbx); clear hbx))
      clear KYl KYc KYf KY
      go_wp2_with fail
      have HcY := Lib.hid (Hc.out.keep HB.out)
      have hsY := HB.out.size
      go_loopw [11, 30] (fun y i wr => ∃ (k : Nat), k ≤ u ∧ i = .int .i64 k ∧ OI wr Y.heap.size y (inK p x k) ∧ Below Y.heap.size Y wr) (fun _ i _ => u - (intOf i).toNat)
      case atStart => exact ⟨0, by omega, rfl, OI.nil _ _, Below.refl _ _⟩
      case round =>
        obtain ⟨k, hk, rfl, ho, hb⟩ := hrel
        have HBb := Lib.hid hb; have HO1 := Lib.hid ho
        obtain ⟨A1, c1, rfl⟩ := ho.shape
        have hsw := hb.size
        clear hb ho
        by_cases hlt : k < u
        · have hkl : k < p.length := by rw [← Hu.out]; exact hlt
          obtain ⟨b, o, rfl, hb, hcs⟩ := (HcY.out.keep HBb.out).get k hkl
          have hth := inK_len p x k
          by_cases hT : p[k] = x
          · have HK : Hid (inK p x (k + 1) = inK p x k ++ [(k : Int)]) := Lib.hid (by rw [inK, if_pos (by simp [hkl, hT])])
            rw [hT] at hcs
            clear hT
            have hb3 := up_alloc wr (.cells #[.int .i64 (k : Int)] 3)
            have HOV := Lib.hid (HO1.out.keep hb3)
            have HB3 := Lib.hid (up HBb.out hb3)
            have HcV : Hid ((wr.alloc (.cells #[.int .i64 (k : Int)] 3)).cell? ⟨wr.heap.size, 0, none⟩ = some (.int .i64 (k : Int))) := Lib.hid (by rw [cell_of_row _ _ _ _ _ _ (heap_alloc_new _ _)]; rfl)
            clear hb3
            go_wp2_with (at_builtin; refine wpList_appI HOV.out (.tmp 38) (.tmp 40) rfl rfl rfl rfl HcV.out (by omega) (by have := HB3.out.size; omega) ?_; intro A3 c3 U3 hO hB4; have HO4 := Lib.hid hO; have HB4 := Lib.hid (HB3.out.trans hB4); clear hO hB4)
            exact ⟨⟨k + 1, by omega, by go_num, by rw [HK.out]; exact HO4.out, HB4.out⟩, by simp [intOf]; omega⟩
          · have HK : Hid (inK p x (k + 1) = inK p x k) := Lib.hid (by rw [inK, if_neg (by simp [hkl, hT])])
            have hTb : (p[k] == x) = false := by simpa using hT
            clear hT
            generalize p[k] = y at *
            go_wp2_with fail
            exact ⟨⟨k + 1, by omega, by go_num, by rw [HK.out]; exact HO1.out, HBb.out⟩, by simp [intOf]; omega⟩
        · obtain rfl : k = u := by omega
          have HE : Hid (inK p x k = inK p x p.length) := Lib.hid (by rw [Hu.out])
          go_wp2
          go_ret2
          exact ⟨_, rfl, by rw [← HE.out]; exact (HO1.out.lst).mono hsY, up HB.out HBb.out⟩
end Go.Proofs.YtifokapcobgjiaaGreat

namespace Go.Proofs.YtifokapcobgjiaaGreat
open Go Go.RowKit
set_option maxHeartbeats 2000000
set_option maxRecDepth 100000

theorem rwithout_any (A : Option Addr) (n c : Nat) (l : List Int) (i : Nat) (w : World) (hl : Is w A n l) (hi : i < l.length) (hnc : n ≤ c) (hcm : c ≤ 9223372036854775807) (h40 : l.length ≤ 1000) :
    Calls Tryz.prog 91 #[.slice A n c, .int .i64 (i : Int)] w fun e w' => ∃ A' c', e = .returned (.slice A' (l.eraseIdx i).length c') ∧ OI w' w.heap.size (.slice A' (l.eraseIdx i).length c') (l.eraseIdx i) ∧ Below w.heap.size w w' := by
  have Hn : Hid (n = l.length) := Lib.hid hl.len
  have hin : i < n := by rw [hl.len]; exact hi
  have hn40 : n ≤ 1000 := by rw [hl.len]; exact h40
  obtain ⟨b, o, rfl, hb, _⟩ := hl.get 0 (by omega)
  have HT := Lib.hid (hl.take i (by omega))
  have HD : Hid (Is w (if c = i + 1 then some ⟨b, o, none⟩ else some ⟨b, o + (i + 1), none⟩) (n - (i + 1)) (l.drop (i + 1))) := Lib.hid (by
    by_cases hc : c = i + 1
    · rw [if_pos hc, show n - (i + 1) = 0 by omega, show l.drop (i + 1) = [] by rw [show i + 1 = l.length by have := hl.len; omega]; exact List.drop_length]
      exact Is.nil _ _
    · rw [if_neg hc]; exact hl.drop (i + 1))
  obtain ⟨i0, hi0, hz0, hz1, hz2⟩ := info_parts info3
  have HI0 := Lib.hid hi0; have HZ0 := Lib.hid hz0; have HZ1 := Lib.hid hz1
  clear hl hi0 hz0 hz1 hz2
  have e1 : IntKind.i64.wrap ((i : Int) + 1) = (i : Int) + 1 := by rw [IntWalk.i64_in _ (by omega)]
  have e2 : ((i : Int) + 1).toNat = i + 1 := by omega
  go_enter Tryz.func91, Tryz.ntmps91
  go_upto_region 1 with fail
  refine wp_region_takesG 9 4 [1, 2, 3, 5, 6, 7, 8] (by kernel_rfl) (by kernel_rfl) (by kernel_rfl) (by kernel_rfl) (by decide) (fun d _ _ _ _ h => by cases d <;> exact h) (by kernel_rfl) rfl ?_
  refine wpTakes_step (v := ?_) rfl (by rfl) ?_ ?_
  rotate_left
  · (rintro _ ⟨z9, rfl⟩; go_simp; try (with_reducible rfl))
  simp only [Act.put, List.setIfInBounds_toArray, List.set_cons_zero, List.set_cons_succ]
  refine wpTakes_step (v := ?_) rfl (by rfl) ?_ ?_
  rotate_left
  · (rintro _ ⟨z9, rfl⟩; go_simp; try (with_reducible rfl))
  simp only [Act.put, List.setIfInBounds_toArray, List.set_cons_zero, List.set_cons_succ]
  refine wpTakes_step (v := .slice (some ⟨b, o, none⟩) i c) rfl (by rfl) ?_ ?_
  · (rintro _ ⟨z9, rfl⟩; go_simp; intro h9; omega)
  simp only [Act.put, List.setIfInBounds_toArray, List.set_cons_zero, List.set_cons_succ]
  refine wpTakes_step (v := ?_) rfl (by rfl) ?_ ?_
  rotate_left
  · (rintro _ ⟨z9, rfl⟩; go_simp; try (with_reducible rfl))
  simp only [Act.put, List.setIfInBounds_toArray, List.set_cons_zero, List.set_cons_succ]
  refine wpTakes_step (v := ?_) rfl (by rfl) ?_ ?_
  rotate_left
  · (rintro _ ⟨z9, rfl⟩; go_simp; try (with_reducible rfl))
  simp only [Act.put, List.setIfInBounds_toArray, List.set_cons_zero, List.set_cons_succ]
  refine wpTakes_step (v := .int .i64 ((i : Int) + 1)) rfl (by rfl) ?_ ?_
  · (rintro _ ⟨z9, rfl⟩; go_simp; try (with_reducible rfl))
  simp only [Act.put, List.setIfInBounds_toArray, List.set_cons_zero, List.set_cons_succ]
  refine wpTakes_step (v := .slice (if c = i + 1 then some ⟨b, o, none⟩ else some ⟨b, o + (i + 1), none⟩) (n - (i + 1)) (c - (i + 1))) rfl (by rfl) ?_ ?_
  · (rintro _ ⟨z9, rfl⟩; by_cases hci : c = i + 1 <;> simp only [hci, if_true, if_false] <;> go_simp <;> first | (intro h9; omega) | (rw [if_pos ⟨by omega, by omega⟩]))
  simp only [Act.put, List.setIfInBounds_toArray, List.set_cons_zero, List.set_cons_succ]
  simp only [wpTakes]
  generalize (if c = i + 1 then some (Addr.mk b o none) else some ⟨b, o + (i + 1), none⟩) = AD at *
  clear e1 e2
  refine wpAnyT_step (i := 0) rfl (by kernel_rfl) rfl ?_
  refine makes_grown (makes_slice Tryz.underlying22 HI0.out HZ0.out rfl (by rw [HZ1.out]; decide)) (below_grow (show Below w.heap.size w w.drew by go_grown)) ?_
  go_wp2_with fail
  have b1 := up_alloc w (.cells #[] 3)
  have o1 : OI (w.alloc (.cells #[] 3)) w.heap.size (.slice (some ⟨w.heap.size, 0, none⟩) 0 0) [] := ⟨World.ownsRow_made w #[] 0 (Nat.le_refl _) (by unfold maxLen; omega) rfl⟩
  have hs1 : w.heap.size < (w.alloc (.cells #[] 3)).heap.size := by simp
  generalize w.alloc (.cells #[] 3) = V0 at *
  have b2 : Below V0.heap.size V0 V0.drew := by go_grown
  replace o1 := o1.keep b2
  have bV1 := up b1 b2
  generalize V0.drew = V1 at *
  clear b1 b2 hs1
  refine wpAnyT_step (i := 4) rfl (by kernel_rfl) rfl ?_
  refine wp_appAnyD o1 9 rfl (.tmp 5) (.tmp 8) rfl rfl rfl (HT.out.keep bV1) (by simp; omega) bV1.size ?_
  intro A2 c2 V2 o2 bb2
  have bV2 := bV1.trans bb2
  clear o1 bb2 bV1
  refine ⟨below_grow bV2, ?_⟩
  simp only [Act.put, List.setIfInBounds_toArray, List.set_cons_zero, List.set_cons_succ]
  simp only [List.nil_append] at o2 ⊢
  refine wpAnyT_tail rfl (by kernel_rfl) (by kernel_rfl) ?_
  simp only [List.drop_succ_cons, List.drop_zero]
  have ht : (l.take i).length ≤ 1000 := by rw [List.length_take]; omega
  refine wpList_appAny o2 (.tmp 9) (.tmp 13) rfl rfl rfl rfl (HD.out.keep bV2) (by omega) bV2.size ?_
  intro A3 c3 V3 o3 bb3
  have bV3 := bV2.trans bb3
  have hE : l.take i ++ l.drop (i + 1) = l.eraseIdx i := by rw [List.eraseIdx_eq_take_drop_succ]
  rw [hE] at o3 ⊢
  have O3 := Lib.hid o3; have B3 := Lib.hid bV3
  clear o2 o3 bb3 bV2 bV3 HT HD hE
  go_wp2
  go_ret
  exact ⟨_, _, rfl, O3.out, B3.out⟩
end Go.Proofs.YtifokapcobgjiaaGreat

