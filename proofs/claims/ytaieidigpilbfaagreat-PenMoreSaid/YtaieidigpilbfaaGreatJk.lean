/- Contracts of functions of the program and of the reference, and plain facts: a part of a proof. Own text. -/
import Derived.Test.YtaieidigpilbfaaGreatJd
import Derived.Test.YtaieidigpilbfaaGreatJe
import Derived.Test.YtaieidigpilbfaaGreatJi
set_option linter.unusedVariables false
set_option linter.unusedSimpArgs false
set_option linter.unusedSectionVars false
namespace Go.Proofs.YtaieidigpilbfaaGreat
open Go Go.RowKit
set_option maxHeartbeats 2000000
set_option maxRecDepth 100000

theorem lOk_in {K : List Kd} {l : List Int} (hK : ksOk K = true) (hl : lOk K l = true) : ∀ x ∈ l, 1 ≤ x ∧ x ≤ 9 := by
  intro x hx
  have h1 : kdI K x = true := List.all_eq_true.1 hl x hx
  cases h : kd? K x with
  | none => rw [(kdD_none h).2] at h1; cases h1
  | some q =>
    have h2 := (kd_mem h)
    have := kdOk_iff.1 (ksOk_kd hK q h2.1)
    omega

theorem rapart_b (A : Option Addr) (n c : Nat) (B : Option Addr) (m d : Nat) (K : List Kd) (x y : Int) (b : Bool) (w : World) (hg : Ks w B m K) (hK : ksOk K = true) (hx : 0 ≤ x ∧ x ≤ 9) (hy : 0 ≤ y ∧ y ≤ 9) (h : aptB K x y = b) :
    Calls Tryz.prog 69 #[.agg #[.slice A n c, .slice B m d], .int .i64 x, .int .i64 y] w fun e w' => e = .returned (.bool b) ∧ Below w.heap.size w w' := h ▸ rapart_any A n c B m d K x y w hg hK hx hy

theorem rfits_any (A : Option Addr) (n c : Nat) (P : List Int) (B : Option Addr) (m d : Nat) (K : List Kd) (L : Option Addr) (r s : Nat) (l : List Int) (C : Option Addr) (u v : Nat) (p : List Int) (i q : Nat) (w : World)
    (hp : Is w A n P) (hg : Ks w B m K) (hl : Is w L r l) (hc : Is w C u p) (hK : ksOk K = true) (hlo : lOk K l = true) (hi : i < l.length) (hpl : p.length ≤ l.length) (hq : q < P.length) (h40 : l.length ≤ 1000) :
    Calls Tryz.prog 86 #[.agg #[.slice A n c, .slice B m d], .slice L r s, .slice C u v, .int .i64 (i : Int), .int .i64 (q : Int)] w fun e w' => e = .returned (.bool (fitS P K l p i q)) ∧ Below w.heap.size w w' := by
  have Hr : Hid (r = l.length) := Lib.hid hl.len
  have Hu : Hid (u = p.length) := Lib.hid hc.len
  have Hn : Hid (n = P.length) := Lib.hid hp.len
  have hir : i < r := by rw [hl.len]; exact hi
  have hur : u ≤ r := by rw [hl.len, hc.len]; exact hpl
  have hqn : q < n := by rw [hp.len]; exact hq
  have hr40 : r ≤ 1000 := by rw [hl.len]; exact h40
  have hnx := hp.small
  have Hin := Lib.hid (lOk_in hK hlo)
  have HK := Lib.hid hK
  have Hp := Lib.hid hp; have Hg := Lib.hid hg; have Hl := Lib.hid hl; have Hc := Lib.hid hc
  clear hp hg hl hc hK hlo
  go_enter Tryz.func86, Tryz.ntmps86
  go_upto_region 1 with fail
  generalize hW : (World.alloc _ _) = W
  have HB : Hid (Below w.heap.size w W) := Lib.hid (by subst hW; go_grown)
  have KY : Bx W (w.heap.size) 25 [.slice A n c, .slice B m d] := by subst hW; repeat (first | (refine Bx.newAt _ _ _ ?_; first | rfl | (simp only [World.size_alloc]; done) | (simp only [World.size_alloc]; omega)) | refine Bx.old ?_ _)
  clear hW
  have KYl := KY.lt; have KYc := KY.get; have KYf := KY.fr
  obtain ⟨bi, oi, hLi, hbi, hci⟩ := (Hl.out.keep HB.out).get i hi
  have Hci := Lib.hid hci
  have Hi0 : Hid (l.getD i 0 = l[i]) := Lib.hid (by simp [hi])
  have HLi := Lib.hid hLi
  subst hLi
  generalize hyi : l[i] = yi at hci Hi0
  have Hyi := Lib.hid hyi; clear hyi
  refine wp_region_grow (by kernel_rfl) (by kernel_rfl) ?_
  repeat (go_big_quiet_step (((go_at_call 81; exact quiet_grow rfl (rroom_any _ _ _ _ _ _ K _ _ ((Hg.out.keep HB.out).keep (grow_below _ _)))))))
  refine wpQuiet_nil ?_
  intro z
  have hb := grow_below W z
  generalize grow W z = V at *
  clear KYl KYc KYf; replace KY := KY.keep hb; have KYl := KY.lt; have KYc := KY.get; have KYf := KY.fr; replace HB := Lib.hid (up HB.out hb); clear hb
  clear hci hbi
  have H0 : Hid (fitK K l p i q 0 = some (kdD K yi).r) := Lib.hid (by unfold fitK; rw [Hi0.out])
  go_wp2_with fail
  clear KYl KYc KYf
  go_loopw [11, 21] (fun nn k wr => ∃ (j : Nat) (x : Int), j ≤ u ∧ k = .int .i64 j ∧ nn = .int .i64 x ∧ Below w.heap.size w wr ∧ Bx wr w.heap.size 25 [.slice A n c, .slice B m d] ∧ fitK K l p i q j = some x) (fun _ k _ => u - (intOf k).toNat)
  case atStart => exact ⟨0, _, by omega, rfl, rfl, HB.out, KY, H0.out⟩
  case round =>
    clear KY
    obtain ⟨j, x, hj, rfl, rfl, hb, KY, hx⟩ := hrel
    replace HB := Lib.hid hb
    have Hx := Lib.hid hx
    obtain ⟨x0, x1⟩ := fitK_le HK.out j x hx
    have hx2 : x ≤ 1001000 := by omega
    clear hb hx x1
    have KYl := KY.lt; have KYc := KY.get; have KYf := KY.fr
    by_cases hlt : j < u
    · have hjp : j < p.length := by rw [← Hu.out]; exact hlt
      have hjl : j < l.length := by omega
      have Hnx : Hid (fitK K l p i q (j + 1) = if (p[j] != (q : Int) || j == i) = true then some x else if aptB K l[j] yi = true then none else some (x + (kdD K l[j]).r)) := Lib.hid (by
        rw [fitK, Hx.out, Hi0.out]; simp [hjp, hjl])
      have Hno : Hid (fitK K l p i q (j + 1) = none → fitS P K l p i q = false) := Lib.hid (fitS_none hjp)
      obtain ⟨b, o, rfl, hb, hc⟩ := (Hc.out.keep HB.out).get j hjp
      obtain ⟨b2, o2, e2, hb2, hc2⟩ := (Hl.out.keep HB.out).get j hjl
      obtain ⟨rfl, rfl⟩ : bi = b2 ∧ oi = o2 := by simpa using e2
      obtain ⟨b3, o3, e3, hb3, hc3⟩ := (Hl.out.keep HB.out).get i hi
      obtain ⟨rfl, rfl⟩ : bi = b3 ∧ oi = o3 := by simpa using e3
      rw [Hyi.out] at hc3
      have hl1 := Hin.out l[j] (List.getElem_mem hjl)
      have hl2 := Hin.out l[i] (List.getElem_mem hi)
      rw [Hyi.out] at hl2
      have hrj := kdD_in HK.out l[j]
      clear e2 e3
      generalize p[j] = pj at *
      generalize l[j] = lj at *
      by_cases h1 : pj = (q : Int)
      rotate_left
      · have h1b : (pj != (q : Int)) = true := by simpa using h1
        rw [h1b] at Hnx
        clear h1
        go_wp2
        exact ⟨⟨j + 1, x, by omega, by go_num, rfl, HB.out, KY, by rw [Hnx.out]; rfl⟩, by simp [intOf]; omega⟩
      have h1b : (pj != (q : Int)) = false := by simpa using h1
      rw [h1b] at Hnx
      clear h1
      by_cases h2 : j = i
      · subst h2
        go_wp2
        exact ⟨⟨j + 1, x, by omega, by go_num, rfl, HB.out, KY, by rw [Hnx.out]; simp⟩, by simp [intOf]; omega⟩
      have h2b : ((j : Int) == (i : Int)) = false := by simp; omega
      have h2c : (j == i) = false := by simpa using h2
      rw [h2c] at Hnx
      cases ha : aptB K lj yi
      · have Ha := Lib.hid ha; clear ha
        go_upto_region 6 with fail
        refine wp_region_grow (by kernel_rfl) (by kernel_rfl) ?_
        repeat (go_big_quiet_step (((go_at_call 69; exact quiet_grow rfl (rapart_b _ _ _ _ _ _ K _ _ _ _ ((Hg.out.keep HB.out).keep (grow_below _ _)) HK.out (by omega) (by omega) Ha.out)))))
        refine wpQuiet_nil ?_
        intro z
        have hb := grow_below wr z
        have e1 : b < wr.heap.size := hb.size |> fun _ => by assumption
        replace hc2 := (hb.cell (p := ⟨bi, oi + j, none⟩) hb2).trans hc2
        have hb2' : bi < (grow wr z).heap.size := by have := hb.size; omega
        generalize grow wr z = V1 at *
        clear KYl KYc KYf; replace KY := KY.keep hb; have KYl := KY.lt; have KYc := KY.get; have KYf := KY.fr; replace HB := Lib.hid (up HB.out hb); clear hb
        go_upto_region 8 with fail
        refine wp_region_grow (by kernel_rfl) (by kernel_rfl) ?_
        repeat (go_big_quiet_step (((go_at_call 81; exact quiet_grow rfl (rroom_any _ _ _ _ _ _ K _ _ ((Hg.out.keep HB.out).keep (grow_below _ _)))))))
        refine wpQuiet_nil ?_
        intro z
        have hb := grow_below V1 z
        generalize grow V1 z = V2 at *
        clear KYl KYc KYf; replace KY := KY.keep hb; have KYl := KY.lt; have KYc := KY.get; have KYf := KY.fr; replace HB := Lib.hid (up HB.out hb); clear hb
        have ew : IntKind.i64.wrap (x + (kdD K lj).r) = x + (kdD K lj).r := by rw [IntWalk.i64_in _ (by omega)]
        go_wp2
        refine ⟨⟨j + 1, x + (kdD K lj).r, by omega, by go_num, ?_, HB.out, KY, by rw [Hnx.out, Ha.out]; simp⟩, by simp [intOf]; omega⟩
        first | rfl | (rw [ew]) | simp
      · have Ha := Lib.hid ha; clear ha
        go_upto_region 6 with fail
        refine wp_region_grow (by kernel_rfl) (by kernel_rfl) ?_
        repeat (go_big_quiet_step (((go_at_call 69; exact quiet_grow rfl (rapart_b _ _ _ _ _ _ K _ _ _ _ ((Hg.out.keep HB.out).keep (grow_below _ _)) HK.out (by omega) (by omega) Ha.out)))))
        refine wpQuiet_nil ?_
        intro z
        go_wp2
        go_ret
        exact ⟨ret_bool (Hno.out (by rw [Hnx.out, Ha.out]; rfl)).symm, up HB.out (grow_below _ _)⟩
    · obtain rfl : j = u := by omega
      obtain ⟨b, o, rfl, hb, hc⟩ := (Hp.out.keep HB.out).get q hq
      have Hf : Hid (fitS P K l p i q = decide (x ≤ P[q])) := Lib.hid (by unfold fitS; rw [← Hu.out, Hx.out]; simp [hq])
      generalize P[q] = pq at *
      go_wp2
      go_ret
      exact ⟨ret_bool Hf.out.symm, HB.out⟩
end Go.Proofs.YtaieidigpilbfaaGreat

namespace Go.Proofs.YtaieidigpilbfaaGreat
open Go Go.RowKit
set_option maxHeartbeats 2000000
set_option maxRecDepth 100000

theorem rwithin_g (n lo hi : Int) (b : Bool) (w : World) (h : inB n lo hi = b) : Calls Tryz.prog 72 #[.int .i64 n, .int .i64 lo, .int .i64 hi] w fun e w' => e = .returned (.bool b) ∧ Below w.heap.size w w' := rwithin_b n lo hi b w h
section
variable (A : Option Addr) (n c : Nat) (P : List Int) (B : Option Addr) (m d : Nat) (K : List Kd) (L : Option Addr) (r s : Nat) (l : List Int) (C : Option Addr) (u v : Nat) (p : List Int) (w : World)
  (hp : Is w A n P) (hg : Ks w B m K) (hl : Is w L r l) (hc : Is w C u p)
include hp hg hl hc
theorem rfits_b (i q : Nat) (b : Bool) (hK : ksOk K = true) (hlo : lOk K l = true) (hi : i < l.length) (hpl : p.length ≤ l.length) (hq : q < P.length) (h40 : l.length ≤ 1000) (h : fitS P K l p i q = b) :
    Calls Tryz.prog 86 #[.agg #[.slice A n c, .slice B m d], .slice L r s, .slice C u v, .int .i64 (i : Int), .int .i64 (q : Int)] w fun e w' => e = .returned (.bool b) ∧ Below w.heap.size w w' :=
  h ▸ rfits_any A n c P B m d K L r s l C u v p i q w hp hg hl hc hK hlo hi hpl hq h40

theorem risPlace_any (hK : ksOk K = true) (hlo : lOk K l = true) (h40 : l.length ≤ 1000) :
    Calls Tryz.prog 89 #[.agg #[.slice A n c, .slice B m d], .slice L r s, .slice C u v] w fun e w' => e = .returned (.bool (isPlB P K l p)) ∧ Below w.heap.size w w' := by
  have Hr : Hid (r = l.length) := Lib.hid hl.len
  have Hu : Hid (u = p.length) := Lib.hid hc.len
  have Hn : Hid (n = P.length) := Lib.hid hp.len
  have hr40 : r ≤ 1000 := by rw [hl.len]; exact h40
  have hnx := hp.small
  have hux := hc.small
  have HK := Lib.hid hK
  have HL := Lib.hid hlo
  have Hp := Lib.hid hp; have Hg := Lib.hid hg; have Hl := Lib.hid hl; have Hc := Lib.hid hc
  clear hp hg hl hc hK hlo
  go_enter Tryz.func89, Tryz.ntmps89
  go_upto_region 1 with fail
  generalize hW : (World.alloc _ _) = W
  have HB : Hid (Below w.heap.size w W) := Lib.hid (by subst hW; go_grown)
  have KY : Bx W (w.heap.size) 25 [.slice A n c, .slice B m d] := by subst hW; repeat (first | (refine Bx.newAt _ _ _ ?_; first | rfl | (simp only [World.size_alloc]; done) | (simp only [World.size_alloc]; omega)) | refine Bx.old ?_ _)
  clear hW
  have KYl := KY.lt; have KYc := KY.get; have KYf := KY.fr
  by_cases hru : r = u
  rotate_left
  · have hne : ((r : Int) != (u : Int)) = true := by simp; omega
    have hS : Hid (isPlB P K l p = false) := Lib.hid (by unfold isPlB; rw [Bool.and_eq_false_iff]; left; simp; rw [← Hr.out, ← Hu.out]; exact hru)
    go_wp2
    go_ret
    exact ⟨ret_bool hS.out.symm, HB.out⟩
  have Hlp0 : Hid (l.length = p.length) := Lib.hid (by rw [← Hr.out, ← Hu.out]; exact hru)
  obtain rfl : r = u := hru
  have hne : ((r : Int) != (r : Int)) = false := by simp
  have Hlp : Hid (l.length = p.length) := Hlp0
  go_wp2
  clear hne
  clear KYl KYc KYf
  go_loopw [15] (fun k wr => ∃ (j : Nat), j ≤ r ∧ k = .int .i64 j ∧ Below w.heap.size w wr ∧ Bx wr w.heap.size 25 [.slice A n c, .slice B m d] ∧ ∀ i, i < j → isPlK P K l p i = true) (fun k _ => r - (intOf k).toNat)
  case atStart => exact ⟨0, by omega, rfl, HB.out, KY, fun i h => by omega⟩
  case round =>
    clear KY
    obtain ⟨j, hj, rfl, hb, KY, hall⟩ := hrel
    replace HB := Lib.hid hb
    have Hall := Lib.hid hall
    clear hb hall
    have KYl := KY.lt; have KYc := KY.get; have KYf := KY.fr
    by_cases hlt : j < r
    · have hjl : j < l.length := by rw [← Hr.out]; exact hlt
      have hjp : j < p.length := by rw [← Hlp.out]; exact hjl
      have Hst : Hid (isPlK P K l p j = true → ∀ i, i < j + 1 → isPlK P K l p i = true) := Lib.hid (fun h i hi => by
        by_cases e : i = j
        · subst e; exact h
        · exact Hall.out i (by omega))
      have Hno : Hid (isPlK P K l p j = false → isPlB P K l p = false) := Lib.hid (isPlB_no hjl)
      have Hk : Hid (isPlK P K l p j = (inB p[j] 0 ((n : Int) - 1) && fitS P K l p j p[j])) := Lib.hid (by unfold isPlK; rw [Hn.out]; simp [hjp])
      obtain ⟨b, o, rfl, hb, hc⟩ := (Hc.out.keep HB.out).get j hjp
      generalize p[j] = q at *
      have e1 : IntKind.i64.wrap ((n : Int) - 1) = (n : Int) - 1 := by rw [IntWalk.i64_in _ (by omega)]
      cases hq : inB q 0 ((n : Int) - 1)
      · have Hq := Lib.hid hq; clear hq
        go_upto_region 6 with fail
        refine wp_region_grow (by kernel_rfl) (by kernel_rfl) ?_
        repeat (go_big_quiet_step (((go_at_call 72; exact quiet_grow rfl (rwithin_g _ _ _ _ _ Hq.out)))))
        refine wpQuiet_nil ?_
        intro z
        clear e1
        go_wp2
        go_ret
        exact ⟨ret_bool (Hno.out (by rw [Hk.out, Hq.out]; rfl)).symm, up HB.out (grow_below _ _)⟩
      have Hq := Lib.hid hq
      rw [inB_iff] at hq
      obtain ⟨q, rfl⟩ := Int.eq_ofNat_of_zero_le hq.1
      have hqn : q < P.length := by rw [← Hn.out]; omega
      clear hq
      have hpl : p.length ≤ l.length := by rw [Hlp.out]; exact Nat.le_refl _
      cases hf : fitS P K l p j (q : Int)
      all_goals
        have Hf := Lib.hid hf; clear hf
        go_upto_region 6 with fail
        refine wp_region_grow (by kernel_rfl) (by kernel_rfl) ?_
        repeat (go_big_quiet_step (((first | (go_at_call 72; exact quiet_grow rfl (rwithin_g _ _ _ _ _ Hq.out)) | (go_at_call 86; exact quiet_grow rfl (rfits_b _ _ _ P _ _ _ K _ _ _ l _ _ _ p _ ((Hp.out.keep HB.out).keep (grow_below _ _)) ((Hg.out.keep HB.out).keep (grow_below _ _)) ((Hl.out.keep HB.out).keep (grow_below _ _)) ((Hc.out.keep HB.out).keep (grow_below _ _)) j q _ HK.out HL.out hjl hpl hqn h40 Hf.out))))))
        refine wpQuiet_nil ?_
        intro z
        clear e1
      · go_wp2
        go_ret
        exact ⟨ret_bool (Hno.out (by rw [Hk.out, Hf.out]; simp)).symm, up HB.out (grow_below _ _)⟩
      · have hb2 := grow_below wr z
        generalize grow wr z = V at *
        clear KYl KYc KYf; replace KY := KY.keep hb2; have KYl := KY.lt; have KYc := KY.get; have KYf := KY.fr; replace HB := Lib.hid (up HB.out hb2); clear hb2
        go_wp2
        exact ⟨⟨j + 1, by omega, by go_num, HB.out, KY, Hst.out (by rw [Hk.out, Hq.out, Hf.out]; rfl)⟩, by simp [intOf]; omega⟩
    · obtain rfl : j = r := by omega
      go_wp2
      go_ret
      exact ⟨ret_bool (isPlB_yes Hlp.out fun i hi => Hall.out i (by rw [Hr.out]; exact hi)).symm, HB.out⟩

theorem rcheckPlace_any : Calls Tryz.prog 41 #[.agg #[.slice A n c, .slice B m d], .slice L r s, .slice C u v] w fun e w' => e = .returned (.int .i64 (rplE P K l p)) ∧ Below w.heap.size w w' := by
  have Hp := Lib.hid hp; have Hg := Lib.hid hg; have Hl := Lib.hid hl; have Hc := Lib.hid hc
  clear hp hg hl hc
  by_cases h0 : sE P K l = 0
  · obtain ⟨hy, h8, hlo⟩ := sE_0 h0
    have HK := Lib.hid (yOk_k hy).2.2
    have HL := Lib.hid hlo
    clear hy hlo
    cases hpl : isPlB P K l p
    all_goals
      have HE : Hid (rplE P K l p = if isPlB P K l p = true then 0 else 52) := Lib.hid (by unfold rplE; rw [if_pos h0])
      have H0 := Lib.hid h0
      have HP := Lib.hid hpl
      clear hpl
      go_enter Tryz.func41, Tryz.ntmps41
      go_upto_region 1 with fail
      generalize hW : (World.alloc _ _) = W
      have HB : Hid (Below w.heap.size w W) := Lib.hid (by subst hW; go_grown)
      have KY : Bx W (w.heap.size) 25 [.slice A n c, .slice B m d] := by subst hW; repeat (first | (refine Bx.newAt _ _ _ ?_; first | rfl | (simp only [World.size_alloc]; done) | (simp only [World.size_alloc]; omega)) | refine Bx.old ?_ _)
      clear hW
      have KYl := KY.lt; have KYc := KY.get; have KYf := KY.fr
      go_wp2_with (first
        | (go_at_call 21; refine (rcheckSorts_any _ _ _ P _ _ _ K _ _ _ l _ (Hp.out.keep HB.out) (Hg.out.keep HB.out) (Hl.out.keep HB.out)).mono ?_; rintro e X ⟨rfl, hbx⟩; clear KYl KYc KYf; replace KY := KY.keep hbx; have KYl := KY.lt; have KYc := KY.get; have KYf := KY.fr; replace HB := Lib.hid (up HB.out hbx); clear hbx; rw [H0.out])
        | (go_at_call 89; refine (risPlace_any _ _ _ P _ _ _ K _ _ _ l _ _ _ p _ (Hp.out.keep HB.out) (Hg.out.keep HB.out) (Hl.out.keep HB.out) (Hc.out.keep HB.out) HK.out HL.out (by omega)).mono ?_; rintro e V ⟨rfl, hbv⟩; replace HB := Lib.hid (up HB.out hbv); rw [HP.out]))
      go_ret
      exact ⟨ret_int (by rw [HE.out, HP.out]; rfl), HB.out⟩
  · have hne : (sE P K l != 0) = true := by simpa using h0
    have HE : Hid (rplE P K l p = sE P K l) := Lib.hid (by unfold rplE; rw [if_neg h0])
    clear h0
    go_enter Tryz.func41, Tryz.ntmps41
    go_upto_region 1 with fail
    generalize hW : (World.alloc _ _) = W
    have HB : Hid (Below w.heap.size w W) := Lib.hid (by subst hW; go_grown)
    have KY : Bx W (w.heap.size) 25 [.slice A n c, .slice B m d] := by subst hW; repeat (first | (refine Bx.newAt _ _ _ ?_; first | rfl | (simp only [World.size_alloc]; done) | (simp only [World.size_alloc]; omega)) | refine Bx.old ?_ _)
    clear hW
    have KYl := KY.lt; have KYc := KY.get; have KYf := KY.fr
    go_wp2_with (go_at_call 21; refine (rcheckSorts_any _ _ _ P _ _ _ K _ _ _ l _ (Hp.out.keep HB.out) (Hg.out.keep HB.out) (Hl.out.keep HB.out)).mono ?_; rintro e X ⟨rfl, hbx⟩; clear KYl KYc KYf; replace KY := KY.keep hbx; have KYl := KY.lt; have KYc := KY.get; have KYf := KY.fr; replace HB := Lib.hid (up HB.out hbx); clear hbx)
    go_ret
    exact ⟨ret_int HE.out.symm, HB.out⟩
end
end Go.Proofs.YtaieidigpilbfaaGreat

namespace Go.Proofs.YtaieidigpilbfaaGreat
open Go Go.RowKit
set_option maxRecDepth 100000

/-- Small sets, bit by bit. -/
def okA (ap : List Int) : Prop := ∀ j, 0 ≤ ap.getD j 0 ∧ ap.getD j 0 ≤ 1023
theorem bor_bit {a s t : Int} (ha : 0 ≤ a ∧ a ≤ 1023) (hs : 0 ≤ s ∧ s ≤ 9) (ht : 0 ≤ t ∧ t ≤ 9) : (0 ≤ bor a (2 ^ s.toNat) ∧ bor a (2 ^ s.toNat) ≤ 1023) ∧ hasB (bor a (2 ^ s.toNat)) t = (hasB a t || decide (s = t)) := by
  obtain ⟨x, rfl⟩ := Int.eq_ofNat_of_zero_le ha.1
  obtain ⟨n, rfl⟩ := Int.eq_ofNat_of_zero_le hs.1
  obtain ⟨m, rfl⟩ := Int.eq_ofNat_of_zero_le ht.1
  have hp : 2 ^ n < 1024 := by
    have : 2 ^ n ≤ 2 ^ 9 := Nat.pow_le_pow_right (by decide) (by omega)
    omega
  rw [Int.toNat_natCast, show ((2 : Int) ^ n) = ((2 ^ n : Nat) : Int) by simp, bor_nat x (2 ^ n) (by omega) (by omega)]
  have hlt : x ||| 2 ^ n < 2 ^ 10 := Nat.or_lt_two_pow (by omega) (by omega)
  refine ⟨by omega, ?_⟩
  rw [hasB_nat _ m (by omega) (by omega), hasB_nat _ m (by omega) (by omega), Nat.testBit_or, Nat.testBit_two_pow]
  congr 1
  rw [decide_eq_decide]; omega
theorem zero_bit {t : Int} (ht : 0 ≤ t ∧ t ≤ 9) : hasB 0 t = false := by
  obtain ⟨m, rfl⟩ := Int.eq_ofNat_of_zero_le ht.1
  rw [show (0 : Int) = ((0 : Nat) : Int) from rfl, hasB_nat _ m (by omega) (by omega), Nat.zero_testBit]
theorem apStep_ok {s t : Int} {ap : List Int} (h : okA ap) (hl : ap.length = 10) (hs : 0 ≤ s ∧ s ≤ 9) (ht : 0 ≤ t ∧ t ≤ 9) {x y : Int} (hx : 0 ≤ x ∧ x ≤ 9) (hy : 0 ≤ y ∧ y ≤ 9) :
    okA (apStep s ap t) ∧ hasB ((apStep s ap t).getD x.toNat 0) y = (hasB (ap.getD x.toNat 0) y || (decide (s = x) && decide (t = y)) || (decide (t = x) && decide (s = y))) := by
  have h1 := (bor_bit (h s.toNat) ht hy).1
  constructor
  · intro j
    unfold apStep
    rw [getD_set]
    split
    · have h2 : 0 ≤ (ap.set s.toNat (bor (ap.getD s.toNat 0) (2 ^ t.toNat))).getD t.toNat 0 ∧ (ap.set s.toNat (bor (ap.getD s.toNat 0) (2 ^ t.toNat))).getD t.toNat 0 ≤ 1023 := by
        rw [getD_set]; split
        · exact h1
        · exact h _
      exact (bor_bit h2 hs hy).1
    · rw [getD_set]; split
      · exact h1
      · exact h _
  · have h2 : 0 ≤ (ap.set s.toNat (bor (ap.getD s.toNat 0) (2 ^ t.toNat))).getD t.toNat 0 ∧ (ap.set s.toNat (bor (ap.getD s.toNat 0) (2 ^ t.toNat))).getD t.toNat 0 ≤ 1023 := by
      rw [getD_set]; split
      · exact h1
      · exact h _
    have b1 := (bor_bit (h s.toNat) ht hy).2
    have b2 := (bor_bit h2 hs hy).2
    have et : (t.toNat = x.toNat) = (t = x) := by apply propext; constructor <;> intro <;> omega
    have es : (s.toNat = x.toNat) = (s = x) := by apply propext; constructor <;> intro <;> omega
    unfold apStep
    rw [getD_set, List.length_set, hl]
    by_cases e1 : t = x
    · subst e1
      rw [if_pos ⟨rfl, by omega⟩, b2, getD_set, hl]
      by_cases e2 : s = t
      · subst e2; rw [if_pos ⟨rfl, by omega⟩, b1]; simp
      · rw [if_neg (by omega)]; simp [e2]
    · rw [if_neg (by omega), getD_set, hl]
      by_cases e2 : s = x
      · subst e2; rw [if_pos ⟨rfl, by omega⟩, b1]; simp [e1]
      · rw [if_neg (by omega)]; simp [e1, e2]
/-- A bit of what must stand apart from a sort, after more sorts. -/
theorem apFold_ok {s : Int} (hs : 0 ≤ s ∧ s ≤ 9) {x y : Int} (hx : 0 ≤ x ∧ x ≤ 9) (hy : 0 ≤ y ∧ y ≤ 9) (l : List Int) : ∀ ap : List Int, okA ap → ap.length = 10 → (∀ t ∈ l, 0 ≤ t ∧ t ≤ 9) →
    okA (l.foldl (apStep s) ap) ∧ hasB ((l.foldl (apStep s) ap).getD x.toNat 0) y = (hasB (ap.getD x.toNat 0) y || (decide (s = x) && decide (y ∈ l)) || (decide (s = y) && decide (x ∈ l))) := by
  induction l with
  | nil => intro ap h _ _; exact ⟨h, by simp⟩
  | cons t l ih =>
    intro ap h hl ht
    have ht0 := ht t (by simp)
    obtain ⟨h1, h2⟩ := apStep_ok h hl hs ht0 hx hy
    obtain ⟨h3, h4⟩ := ih (apStep s ap t) h1 (by rw [apStep_len]; exact hl) (fun u hu => ht u (by simp [hu]))
    refine ⟨h3, ?_⟩
    have m : ∀ u : Int, decide (u ∈ t :: l) = (decide (t = u) || decide (u ∈ l)) := by
      intro u
      rw [Bool.eq_iff_iff]
      simp only [decide_eq_true_eq, Bool.or_eq_true, List.mem_cons]
      constructor
      · rintro (h | h)
        · exact .inl h.symm
        · exact .inr h
      · rintro (h | h)
        · exact .inl h.symm
        · exact .inr h
    rw [List.foldl_cons, h4, h2, m, m]
    generalize hasB (ap.getD x.toNat 0) y = b0
    generalize decide (s = x) = b1
    generalize decide (s = y) = b2
    generalize decide (t = x) = b3
    generalize decide (t = y) = b4
    generalize decide (y ∈ l) = b5
    generalize decide (x ∈ l) = b6
    cases b0 <;> cases b1 <;> cases b2 <;> cases b3 <;> cases b4 <;> cases b5 <;> cases b6 <;> rfl
theorem eachK_mem (a : Int) : ∀ k, k ≤ 9 → ∀ t, t ∈ eachK a k ↔ (9 - (k : Int) < t ∧ t ≤ 9 ∧ hasB a t = true) := by
  intro k
  induction k with
  | zero => intro _ t; simp [eachK]; omega
  | succ k ih =>
    intro hk t
    rw [eachK]
    split
    · rename_i h
      rw [List.mem_append, ih (by omega)]
      constructor
      · rintro (⟨a1, a2, a3⟩ | h2)
        · exact ⟨by omega, a2, a3⟩
        · simp at h2; subst h2; exact ⟨by omega, by omega, h⟩
      · rintro ⟨a1, a2, a3⟩
        by_cases e : t = 9 - (k : Int)
        · right; simp [e]
        · left; exact ⟨by omega, a2, a3⟩
    · rename_i h
      rw [ih (by omega)]
      constructor
      · rintro ⟨a1, a2, a3⟩; exact ⟨by omega, a2, a3⟩
      · rintro ⟨a1, a2, a3⟩
        by_cases e : t = 9 - (k : Int)
        · subst e; exact absurd a3 h
        · exact ⟨by omega, a2, a3⟩
theorem eachL_mem {a t : Int} : t ∈ eachL a ↔ (1 ≤ t ∧ t ≤ 9 ∧ hasB a t = true) := by
  unfold eachL
  rw [eachK_mem a 9 (by omega)]
  constructor
  · rintro ⟨h1, h2, h3⟩; exact ⟨by omega, h2, h3⟩
  · rintro ⟨h1, h2, h3⟩; exact ⟨by omega, h2, h3⟩
theorem apKs_ok {x y : Int} (hx : 1 ≤ x ∧ x ≤ 9) (hy : 1 ≤ y ∧ y ≤ 9) (K : List Kd) : ∀ ap : List Int, okA ap → ap.length = 10 → (∀ k ∈ K, kdOk k = true) →
    okA (K.foldl apKd ap) ∧ hasB ((K.foldl apKd ap).getD x.toNat 0) y = (hasB (ap.getD x.toNat 0) y || K.any (fun k => decide (k.s = x) && hasB k.a y || decide (k.s = y) && hasB k.a x)) := by
  induction K with
  | nil => intro ap h _ _; exact ⟨h, by simp⟩
  | cons k K ih =>
    intro ap h hl hk
    have hk0 := kdOk_iff.1 (hk k (by simp))
    obtain ⟨h1, h2⟩ := apFold_ok (s := k.s) (by omega) (x := x) (y := y) (by omega) (by omega) (eachL k.a) ap h hl (fun t ht => by have := (eachL_mem.1 ht); omega)
    obtain ⟨h3, h4⟩ := ih (apKd ap k) h1 (by rw [apKd_len]; exact hl) (fun u hu => hk u (by simp [hu]))
    refine ⟨h3, ?_⟩
    rw [List.foldl_cons, h4]
    have e : hasB ((apKd ap k).getD x.toNat 0) y = _ := h2
    have m1 : decide (y ∈ eachL k.a) = hasB k.a y := by
      cases hb : hasB k.a y
      · simp [eachL_mem, hb]
      · simp [eachL_mem, hb]; omega
    have m2 : decide (x ∈ eachL k.a) = hasB k.a x := by
      cases hb : hasB k.a x
      · simp [eachL_mem, hb]
      · simp [eachL_mem, hb]; omega
    rw [e, m1, m2, List.any_cons]
    cases hasB (ap.getD x.toNat 0) y <;> cases hasB k.a y <;> cases hasB k.a x <;> cases decide (k.s = x) <;> cases decide (k.s = y) <;> simp
theorem ap0_ok : okA ap0 := by
  intro j
  by_cases h : j < 10
  · rcases (by omega : j = 0 ∨ j = 1 ∨ j = 2 ∨ j = 3 ∨ j = 4 ∨ j = 5 ∨ j = 6 ∨ j = 7 ∨ j = 8 ∨ j = 9) with rfl | rfl | rfl | rfl | rfl | rfl | rfl | rfl | rfl | rfl <;> (show (0 : Int) ≤ 0 ∧ (0 : Int) ≤ 1023; decide)
  · rw [List.getD_eq_getElem?_getD, List.getElem?_eq_none (by show 10 ≤ j; omega)]; decide
/-- The sorts of a valid yard are rising. -/
theorem ks_lt {K : List Kd} (h : ksOk K = true) {i j : Nat} (hij : i < j) (hj : j < K.length) : (K[i]'(by omega)).s < K[j].s := by
  induction j with
  | zero => omega
  | succ j ih =>
    have h1 := ksOk_at h hj
    simp only [ksAt, Bool.and_eq_true, Bool.or_eq_true, beq_iff_eq, decide_eq_true_eq] at h1
    have h2 : (K[j]'(by omega)).s < K[j + 1].s := by
      rcases h1.2 with h2 | h2
      · omega
      · simpa [hj, show j < K.length by omega] using h2
    by_cases e : i = j
    · subst e; exact h2
    · have := ih (by omega) (by omega); omega
theorem kd_uniq {K : List Kd} (h : ksOk K = true) {k : Kd} (hk : k ∈ K) : kdD K k.s = k := by
  obtain ⟨i, hi, rfl⟩ := List.mem_iff_getElem.1 hk
  cases hf : kd? K K[i].s with
  | none =>
    have := List.find?_eq_none.1 hf K[i] hk
    simp at this
  | some q =>
    rw [(kdD_some hf).1]
    obtain ⟨hq, hs⟩ := kd_mem hf
    obtain ⟨j, hj, rfl⟩ := List.mem_iff_getElem.1 hq
    rcases Nat.lt_trichotomy i j with h1 | h1 | h1
    · have := ks_lt h h1 hj; omega
    · subst h1; rfl
    · have := ks_lt h h1 hi; omega
theorem any_apart {K : List Kd} (h : ksOk K = true) {x y : Int} (hy : 0 ≤ y ∧ y ≤ 9) : K.any (fun k => decide (k.s = x) && hasB k.a y) = hasB (kdD K x).a y := by
  cases hb : hasB (kdD K x).a y
  · rw [List.any_eq_false]
    intro k hk
    by_cases e : k.s = x
    · subst e; rw [kd_uniq h hk] at hb; simp [hb]
    · simp [e]
  · rw [List.any_eq_true]
    cases hf : kd? K x with
    | none => rw [(kdD_none hf).1] at hb; rw [show kd0.a = 0 from rfl, zero_bit hy] at hb; cases hb
    | some q =>
      rw [(kdD_some hf).1] at hb
      obtain ⟨hq, hs⟩ := kd_mem hf
      exact ⟨q, hq, by simp [hs, hb]⟩
theorem any_or2 (K : List Kd) (p q : Kd → Bool) : K.any (fun k => p k || q k) = (K.any p || K.any q) := by
  induction K with
  | nil => rfl
  | cons k K ih => rw [List.any_cons, List.any_cons, List.any_cons, ih]; cases p k <;> cases q k <;> cases K.any p <;> rfl
/-- Both sides say the same of two sorts. -/
theorem apL_apt {K : List Kd} (h : ksOk K = true) {x y : Int} (hx : 1 ≤ x ∧ x ≤ 9) (hy : 1 ≤ y ∧ y ≤ 9) : hasB ((apL K).getD x.toNat 0) y = aptB K x y := by
  have := (apKs_ok hx hy K ap0 ap0_ok rfl (ksOk_kd h)).2
  unfold apL
  rw [this]
  have e0 : hasB (ap0.getD x.toNat 0) y = false := by
    have : ap0.getD x.toNat 0 = 0 := by
      rcases (by omega : x = 1 ∨ x = 2 ∨ x = 3 ∨ x = 4 ∨ x = 5 ∨ x = 6 ∨ x = 7 ∨ x = 8 ∨ x = 9) with rfl | rfl | rfl | rfl | rfl | rfl | rfl | rfl | rfl <;> rfl
    rw [this, zero_bit (by omega)]
  rw [e0, Bool.false_or]
  unfold aptB
  rw [← any_apart h (x := x) (y := y) (by omega), ← any_apart h (x := y) (y := x) (by omega)]
  exact any_or2 K _ _
theorem apP_apR (P : List Int) (K : List Kd) (x y : Int) : apP P K x y = apR P K x y := by
  unfold apP apR
  by_cases h : sE P K [x, y] = 0
  · obtain ⟨hy, -, hl⟩ := sE_0 h
    have hK := (yOk_k hy).2.2
    have hxy := lOk2 hl
    rw [apL_apt hK (sort_in hK hxy.1) (sort_in hK hxy.2)]
  · have : (sE P K [x, y] == 0) = false := by simpa using h
    rw [this]; rfl
end Go.Proofs.YtaieidigpilbfaaGreat

namespace Go.Proofs.YtaieidigpilbfaaGreat
open Go Go.RowKit
set_option maxRecDepth 100000

/-- The beasts stand one after the other. -/
def runP (ap : List Int) (np : Nat) : List Kd → List Int → List Int → Option (List Int)
  | [], [], st => some st
  | k :: ks, x :: p, st => if inB x 0 ((np : Int) - 1) = true then (match putS ap st k x.toNat with
    | none => none
    | some s => runP ap np ks p s) else none
  | _, _, _ => none
theorem runP_snoc {ap : List Int} {np : Nat} (ks : List Kd) : ∀ (p st : List Int) (k : Kd) (x : Int), ks.length = p.length → runP ap np (ks ++ [k]) (p ++ [x]) st = match runP ap np ks p st with
    | none => none
    | some s => if inB x 0 ((np : Int) - 1) = true then putS ap s k x.toNat else none := by
  induction ks with
  | nil =>
    intro p st k x h
    obtain rfl : p = [] := by simpa using h.symm
    simp only [List.nil_append, runP]
    split
    · cases putS ap st k x.toNat <;> rfl
    · rfl
  | cons k0 ks ih =>
    intro p st k x h
    cases p with
    | nil => simp at h
    | cons y p =>
      simp only [List.cons_append, runP]
      split
      · cases putS ap st k0 y.toNat with
        | none => rfl
        | some s => exact ih p s k x (by simpa using h)
      · rfl
theorem standK_run {P ap : List Int} {bs : List Kd} {p : List Int} (h : p.length = bs.length) : ∀ k, k ≤ p.length → standK P ap bs p k = runP ap P.length (bs.take k) (p.take k) (st0 P) := by
  intro k
  induction k with
  | zero => intro _; rfl
  | succ k ih =>
    intro hk
    have h1 : k < p.length := by omega
    have h2 : k < bs.length := by omega
    rw [List.take_succ_eq_append_getElem h1, List.take_succ_eq_append_getElem h2, runP_snoc _ _ _ _ _ (by simp; omega), ← ih (by omega), standK]
    simp [h1, h2]
    cases standK P ap bs p k <;> rfl
theorem standS_run {P ap : List Int} {bs : List Kd} {p : List Int} : (standS P ap bs p).isSome = (runP ap P.length bs p (st0 P)).isSome := by
  by_cases h : p.length = bs.length
  · rw [standS_eq h, standK_run h _ (Nat.le_refl _), List.take_length, h, List.take_length]
  · rw [standS_len h]
    have : ∀ (ks : List Kd) (q st : List Int), q.length ≠ ks.length → runP ap P.length ks q st = none := by
      intro ks
      induction ks with
      | nil => intro q st hq; cases q with
        | nil => exact absurd rfl hq
        | cons x q => rfl
      | cons k ks ih => intro q st hq; cases q with
        | nil => rfl
        | cons x q =>
          simp only [runP]
          split
          · cases putS ap st k x.toNat with
            | none => rfl
            | some s => exact ih q s (by simpa using hq)
          · rfl
    rw [this _ _ _ h]

/-- In no pen that the yard has not a beast stands. -/
def offS (np : Nat) (st : List Int) : Prop := ∀ i, np ≤ i → i < 5 → st.getD (i * 2 + 1) 0 = 0
theorem usedK_off {np : Nat} {st : List Int} (h : offS np st) : ∀ k, k ≤ 5 → usedK st k ≤ (min k np : Nat) := by
  intro k
  induction k with
  | zero => intro _; simp [usedK]
  | succ k ih =>
    intro hk
    have h1 := ih (by omega)
    rw [usedK]
    by_cases hn : np ≤ k
    · rw [h k hn (by omega)]; simp; omega
    · split <;> omega
theorem offS_add {np : Nat} {st : List Int} {k : Kd} {i : Nat} (h : offS np st) (hi : i < np) : offS np (addS st k i) := by
  intro j hj hj5
  unfold addS
  rw [getD_set, if_neg (by omega), getD_set, if_neg (by omega)]
  exact h j hj hj5
theorem offS_0 {P : List Int} : offS P.length (st0 P) := by
  have : ∀ k, ∀ i, i < 5 → (emK P k).getD (i * 2 + 1) 0 = 0 := by
    intro k
    induction k with
    | zero => intro i hi; rcases (by omega : i = 0 ∨ i = 1 ∨ i = 2 ∨ i = 3 ∨ i = 4) with rfl | rfl | rfl | rfl | rfl <;> rfl
    | succ k ih => intro i hi; rw [emK, getD_set, if_neg (by omega)]; exact ih i hi
  intro i _ hi
  exact this _ i hi
theorem putS_add {ap st s : List Int} {k : Kd} {i : Nat} (h : putS ap st k i = some s) : s = addS st k i := by
  unfold putS at h; split at h
  · cases h
  · cases h; rfl
theorem mem_plc {ap : List Int} {np : Nat} (h5 : np ≤ 5) (ks : List Kd) : ∀ (st p : List Int), offS np st → (p ∈ plc ap np np ks st ↔ (runP ap np ks p st).isSome = true) := by
  induction ks with
  | nil =>
    intro st p _
    rw [plc]
    cases p <;> simp [runP]
  | cons k ks ih =>
    intro st p h
    rw [plc_cons]
    unfold plcQ
    rw [List.mem_flatMap]
    constructor
    · rintro ⟨pen, hpen, hp⟩
      have hpn := List.mem_range.1 hpen
      unfold plc1 at hp
      cases hs : putS ap st k pen with
      | none => rw [hs] at hp; simp at hp
      | some s =>
        rw [hs] at hp
        dsimp only at hp
        split at hp
        · simp at hp
        · obtain ⟨r, hr, rfl⟩ := List.mem_map.1 hp
          have e := putS_add hs
          have := (ih s r (by rw [e]; exact offS_add h hpn)).1 hr
          simp only [runP]
          rw [if_pos (inB_iff.2 ⟨by omega, by omega⟩), Int.toNat_natCast, hs]
          exact this
    · intro hr
      cases p with
      | nil => simp [runP] at hr
      | cons x r =>
        simp only [runP] at hr
        split at hr
        · rename_i hx
          have hx2 := inB_iff.1 hx
          cases hs : putS ap st k x.toNat with
          | none => rw [hs] at hr; simp at hr
          | some s =>
            rw [hs] at hr
            dsimp only at hr
            have e := putS_add hs
            have hoff : offS np s := by rw [e]; exact offS_add h (by omega)
            refine ⟨x.toNat, List.mem_range.2 (by omega), ?_⟩
            unfold plc1
            rw [hs]
            dsimp only
            have hu := usedK_off hoff 5 (Nat.le_refl _)
            rw [if_neg (by simp; show usedS s ≤ _; unfold usedS; omega)]
            exact List.mem_map.2 ⟨r, (ih s r hoff).2 hr, by rw [Int.toNat_of_nonneg hx2.1]⟩
        · simp at hr

/-- A list is ahead of another one. -/
def ahB : List Int → List Int → Bool
  | [], _ => false
  | _ :: _, [] => false
  | x :: a, y :: b => if x = y then ahB a b else decide (x < y)
theorem ahB_self (a : List Int) : ahB a a = false := by
  induction a with
  | nil => rfl
  | cons x a ih => rw [ahB, if_pos rfl, ih]
theorem ahB_asym : ∀ (a b : List Int), ahB a b = true → ahB b a = false
  | [], _, h => by simp [ahB] at h
  | _ :: _, [], h => by simp [ahB] at h
  | x :: a, y :: b, h => by
    rw [ahB] at h ⊢
    by_cases e : x = y
    · subst e; rw [if_pos rfl] at h ⊢; exact ahB_asym a b h
    · rw [if_neg e] at h; rw [if_neg (Ne.symm e)]
      simp at h ⊢; omega
theorem plc_sorted {ap : List Int} {np : Nat} {most : Int} (ks : List Kd) : ∀ st : List Int, (plc ap np most ks st).Pairwise (fun a b => ahB a b = true) := by
  induction ks with
  | nil => intro st; rw [plc]; simp
  | cons k ks ih =>
    intro st
    rw [plc_cons]
    unfold plcQ
    have hd : ∀ pen p, p ∈ plc1 ap np most ks k st pen → ∃ r, p = (pen : Int) :: r := by
      intro pen p hp
      unfold plc1 at hp
      split at hp
      · simp at hp
      · split at hp
        · simp at hp
        · obtain ⟨r, _, rfl⟩ := List.mem_map.1 hp; exact ⟨r, rfl⟩
    rw [List.pairwise_flatMap]
    refine ⟨fun pen _ => ?_, ?_⟩
    · unfold plc1
      split
      · simp
      · split
        · simp
        · rw [List.pairwise_map]
          exact (ih _).imp fun {a b} h => by rw [ahB, if_pos rfl]; exact h
    · refine List.pairwise_lt_range.imp fun {i j} hij x hx y hy => ?_
      obtain ⟨r, rfl⟩ := hd i x hx
      obtain ⟨r', rfl⟩ := hd j y hy
      rw [ahB, if_neg (by omega)]
      simp; exact hij

theorem PL_mem {P : List Int} {K : List Kd} {l p : List Int} (h0 : sE P K l = 0) : p ∈ PL P K l ↔ plE P K l p = 0 := by
  have h5 := (yOk_k (sE_0 h0).1).1
  unfold PL plE
  rw [mem_plc h5 _ _ _ offS_0, if_pos h0, standS_run]
  cases (runP (apL K) P.length (bsL K l) p (st0 P)).isSome <;> simp
theorem PL_lt {P : List Int} {K : List Kd} {l : List Int} {i j : Nat} (hi : i < (PL P K l).length) (hj : j < (PL P K l).length) : ahB (PL P K l)[i] (PL P K l)[j] = decide (i < j) := by
  have hs := List.pairwise_iff_getElem.1 (plc_sorted (ap := apL K) (np := P.length) (most := P.length) (bsL K l) (st0 P))
  rcases Nat.lt_trichotomy i j with h | h | h
  · have := hs i j hi hj h
    simp only [h, decide_true]; exact this
  · subst h; rw [ahB_self]; simp
  · have := ahB_asym _ _ (hs j i hj hi h)
    rw [show decide (i < j) = false by simp; omega]; exact this
end Go.Proofs.YtaieidigpilbfaaGreat

namespace Go.Proofs.YtaieidigpilbfaaGreat
open Go Go.RowKit
set_option maxHeartbeats 1000000
set_option maxRecDepth 100000

def modI (n m : Int) : Int := (Int.tmod n m + m) % m
theorem tmod_in {n m : Int} (hm : 0 < m) : -m < Int.tmod n m ∧ Int.tmod n m < m := by
  have h1 := Int.emod_nonneg n (show m ≠ 0 by omega)
  have h2 := Int.emod_lt_of_pos n hm
  rw [Int.tmod_eq_emod]
  split
  · omega
  · rename_i h
    have : n % m ≠ 0 := fun h0 => h (.inr (Int.dvd_of_emod_eq_zero h0))
    omega
theorem modI_in {n m : Int} (hm : 0 < m) : 0 ≤ modI n m ∧ modI n m < m := by
  unfold modI
  exact ⟨Int.emod_nonneg _ (by omega), Int.emod_lt_of_pos _ hm⟩
theorem mod_any (n m : Int) (w : World) (hm : 0 < m) (hm2 : m ≤ 1000000) :
    Calls Tryz.prog 59 #[.int .i64 n, .int .i64 m] w fun e w' => e = .returned (.int .i64 (modI n m)) ∧ w = w' := by
  have h1 : -m < Int.tmod n m ∧ Int.tmod n m < m := tmod_in hm
  have hne : (m == 0) = false := by simp; omega
  have HM : Hid (modI n m = (Int.tmod n m + m) % m) := Lib.hid rfl
  generalize hq : Int.tmod n m = q at *
  have e1 : IntKind.i64.wrap (q + m) = q + m := by rw [IntWalk.i64_in _ (by omega)]
  have e0 : IntKind.i64.wrap q = q := by rw [IntWalk.i64_in _ (by omega)]
  go_enter Tryz.func59, Tryz.ntmps59
  go_wp2
  go_ret
  exact ⟨ret_int HM.out.symm, rfl⟩

theorem ahead_any (L : Option Addr) (r s : Nat) (a : List Int) (C : Option Addr) (u v : Nat) (b : List Int) (w : World) (hl : Is w L r a) (hc : Is w C u b) :
    Calls Tryz.prog 60 #[.slice L r s, .slice C u v] w fun e w' => e = .returned (.bool (ahB a b)) ∧ Below w.heap.size w w' := by
  have hn := hl.small
  have hu := hc.small
  have Hn : Hid (r = a.length) := Lib.hid hl.len
  have Hu : Hid (u = b.length) := Lib.hid hc.len
  have Hl := Lib.hid hl; have Hc := Lib.hid hc
  clear hl hc
  go_enter Tryz.func60, Tryz.ntmps60
  go_wp2_with fail
  go_loopw [8] (fun i wr => ∃ (k : Nat), k ≤ r ∧ i = .int .i64 k ∧ Below w.heap.size w wr ∧ ahB (a.drop k) (b.drop k) = ahB a b) (fun i _ => r - (intOf i).toNat)
  case atStart => exact ⟨0, by omega, rfl, Below.refl _ _, rfl⟩
  case round =>
    obtain ⟨k, hk, rfl, hb, hp⟩ := hrel
    have HB := Lib.hid hb
    have Hp := Lib.hid hp
    clear hb hp
    by_cases hlt : k < r
    · have hkl : k < a.length := by rw [← Hn.out]; exact hlt
      have Hd : Hid (a.drop k = a[k] :: a.drop (k + 1)) := Lib.hid (List.drop_eq_getElem_cons hkl)
      obtain ⟨b1, o1, rfl, hb1, hc1⟩ := (Hl.out.keep HB.out).get k hkl
      by_cases hku : k < u
      · have hkp : k < b.length := by rw [← Hu.out]; exact hku
        have Hd2 : Hid (b.drop k = b[k] :: b.drop (k + 1)) := Lib.hid (List.drop_eq_getElem_cons hkp)
        obtain ⟨b2, o2, rfl, hb2, hc2⟩ := (Hc.out.keep HB.out).get k hkp
        generalize a[k] = x at *
        generalize b[k] = y at *
        by_cases h0 : x = y
        · subst h0
          have HK : Hid (ahB (a.drop (k + 1)) (b.drop (k + 1)) = ahB a b) := Lib.hid (by rw [← Hp.out, Hd.out, Hd2.out, ahB, if_pos rfl])
          go_upto_region 6 with fail
          refine wp_region_grow (by kernel_rfl) (by kernel_rfl) ?_
          repeat (go_big_quiet_step ((fail)))
          refine wpQuiet_nil ?_
          intro z
          have hb3 := grow_below wr z
          generalize grow wr z = Y at *
          replace HB := Lib.hid (up HB.out hb3)
          clear hc1 hc2 hb1 hb2 hb3
          go_wp2
          exact ⟨⟨k + 1, by omega, by go_num, HB.out, HK.out⟩, by simp [intOf]; omega⟩
        · have HK : Hid (decide (x < y) = ahB a b) := Lib.hid (by rw [← Hp.out, Hd.out, Hd2.out, ahB, if_neg h0])
          have hne : (x != y) = true := by simpa using h0
          go_upto_region 6 with fail
          refine wp_region_grow (by kernel_rfl) (by kernel_rfl) ?_
          repeat (go_big_quiet_step ((fail)))
          refine wpQuiet_nil ?_
          intro z
          have hb3 := grow_below wr z
          have hc1' := (hb3.cell (p := ⟨b1, o1 + k, none⟩) hb1).trans hc1
          have hc2' := (hb3.cell (p := ⟨b2, o2 + k, none⟩) hb2).trans hc2
          have hs3 := hb3.size
          have hb1' : b1 < (grow wr z).heap.size := by omega
          have hb2' : b2 < (grow wr z).heap.size := by omega
          generalize grow wr z = Y at *
          replace HB := Lib.hid (up HB.out hb3)
          clear hc1 hc2 hb1 hb2 hb3 hs3
          go_upto_region 7 with fail
          refine wp_region_grow (by kernel_rfl) (by kernel_rfl) ?_
          repeat (go_big_quiet_step ((fail)))
          refine wpQuiet_nil ?_
          intro z2
          have hb4 := grow_below Y z2
          generalize grow Y z2 = Y2 at *
          replace HB := Lib.hid (up HB.out hb4)
          clear hc1' hc2' hb1' hb2' hb4
          go_wp2
          go_ret
          exact ⟨ret_bool HK.out, HB.out⟩
      · have HK : Hid (ahB a b = false) := Lib.hid (by rw [← Hp.out, Hd.out, show b.drop k = [] from List.drop_eq_nil_of_le (by rw [← Hu.out]; omega)]; rfl)
        go_wp2
        go_ret
        exact ⟨ret_bool HK.out.symm, HB.out⟩
    · obtain rfl : k = r := by omega
      have HK : Hid (ahB a b = false) := Lib.hid (by rw [← Hp.out, Hn.out, List.drop_length]; rfl)
      go_wp2
      go_ret
      exact ⟨ret_bool HK.out.symm, HB.out⟩
end Go.Proofs.YtaieidigpilbfaaGreat

namespace Go.Proofs.YtaieidigpilbfaaGreat
open Go Go.RowKit
set_option maxRecDepth 100000

/-- How many of the first k numbers are not ahead already. -/
def usdK (p : List Int) : Nat → Int
  | 0 => 0
  | k + 1 => if p.getD k 0 ∈ p.take k then usdK p k else usdK p k + 1
def usd (p : List Int) : Int := usdK p p.length
theorem usdK_in (p : List Int) (k : Nat) : 0 ≤ usdK p k ∧ usdK p k ≤ k := by
  induction k with
  | zero => simp [usdK]
  | succ k ih => rw [usdK]; split <;> omega
theorem usdK_app (p : List Int) (x : Int) : ∀ k, k ≤ p.length → usdK (p ++ [x]) k = usdK p k := by
  intro k
  induction k with
  | zero => intro _; rfl
  | succ k ih =>
    intro hk
    have h1 : k < p.length := by omega
    rw [usdK, usdK, ih (by omega), List.take_append_of_le_length (by omega)]
    simp only [List.getD_eq_getElem?_getD, List.getElem?_append_left h1]
theorem usd_snoc (p : List Int) (x : Int) : usd (p ++ [x]) = if x ∈ p then usd p else usd p + 1 := by
  unfold usd
  rw [List.length_append, List.length_singleton, usdK, usdK_app p x _ (Nat.le_refl _), List.take_append_of_le_length (Nat.le_refl _), List.take_length]
  simp

/-- The sets of the pens are small. -/
def hasOk (st : List Int) : Prop := ∀ i, i < 5 → 0 ≤ st.getD (i * 2 + 1) 0 ∧ st.getD (i * 2 + 1) 0 ≤ 1023
theorem add_has {st : List Int} {k : Kd} {i : Nat} (hl : st.length = 10) (hi : i < 5) (j : Nat) (hj : j < 5) : (addS st k i).getD (j * 2 + 1) 0 = if i = j then bor (st.getD (i * 2 + 1) 0) (2 ^ k.s.toNat) else st.getD (j * 2 + 1) 0 := by
  unfold addS
  rw [getD_set, List.length_set, hl]
  by_cases e : i = j
  · subst e; rw [if_pos ⟨rfl, by omega⟩, if_pos rfl]
  · rw [if_neg (by omega), if_neg e, getD_set, if_neg (by omega)]
theorem bor_ne {a s : Int} (ha : 0 ≤ a ∧ a ≤ 1023) (hs : 1 ≤ s ∧ s ≤ 9) : bor a (2 ^ s.toNat) ≠ 0 := by
  intro h
  have h1 := (bor_bit (s := s) (t := s) ha (by omega) (by omega)).2
  rw [h, zero_bit (by omega)] at h1
  simp at h1
theorem hasOk_add {st : List Int} {k : Kd} {i : Nat} (h : hasOk st) (hl : st.length = 10) (hi : i < 5) (hs : 1 ≤ k.s ∧ k.s ≤ 9) : hasOk (addS st k i) := by
  intro j hj
  rw [add_has hl hi j hj]
  split
  · exact (bor_bit (s := k.s) (t := 0) (h i hi) (by omega) (by omega)).1
  · exact h j hj
theorem used_eq {st : List Int} : usedS st = (if st.getD 1 0 ≠ 0 then 1 else 0) + (if st.getD 3 0 ≠ 0 then 1 else 0) + (if st.getD 5 0 ≠ 0 then 1 else 0) + (if st.getD 7 0 ≠ 0 then 1 else 0) + (if st.getD 9 0 ≠ 0 then 1 else 0) := by
  unfold usedS
  simp only [usedK, bne_iff_ne]
  split <;> split <;> split <;> split <;> split <;> omega
theorem used_add {st : List Int} {k : Kd} {i : Nat} (h : hasOk st) (hl : st.length = 10) (hi : i < 5) (hs : 1 ≤ k.s ∧ k.s ≤ 9) : usedS (addS st k i) = if st.getD (i * 2 + 1) 0 ≠ 0 then usedS st else usedS st + 1 := by
  have hb := bor_ne (h i hi) hs
  have g0 := add_has (k := k) hl hi 0 (by omega)
  have g1 := add_has (k := k) hl hi 1 (by omega)
  have g2 := add_has (k := k) hl hi 2 (by omega)
  have g3 := add_has (k := k) hl hi 3 (by omega)
  have g4 := add_has (k := k) hl hi 4 (by omega)
  simp only [Nat.zero_mul, Nat.zero_add, Nat.one_mul, Nat.reduceMul, Nat.reduceAdd] at g0 g1 g2 g3 g4
  rw [used_eq, used_eq, g0, g1, g2, g3, g4]
  rcases (by omega : i = 0 ∨ i = 1 ∨ i = 2 ∨ i = 3 ∨ i = 4) with rfl | rfl | rfl | rfl | rfl <;> simp only [Nat.zero_mul, Nat.zero_add, Nat.one_mul, Nat.reduceMul, Nat.reduceAdd, if_true, reduceIte, Nat.reduceEqDiff, Nat.zero_ne_one, Nat.one_ne_zero] at hb ⊢ <;> split <;> omega
/-- The pens that are used are those of the list. -/
theorem run_used {ap : List Int} {np : Nat} (h5 : np ≤ 5) {bs : List Kd} (hb : goodB bs) {p st0' : List Int} (hl0 : st0'.length = 10) (hh0 : hasOk st0') (hz0 : ∀ i, i < 5 → st0'.getD (i * 2 + 1) 0 = 0) : ∀ k, k ≤ bs.length → bs.length = p.length → ∀ st, runP ap np (bs.take k) (p.take k) st0' = some st →
    st.length = 10 ∧ hasOk st ∧ (∀ i, i < 5 → (st.getD (i * 2 + 1) 0 ≠ 0 ↔ (i : Int) ∈ p.take k)) ∧ usedS st = usd (p.take k) := by
  intro k
  induction k with
  | zero =>
    intro _ _ st h
    simp only [List.take_zero, runP] at h
    cases h
    refine ⟨hl0, hh0, fun i hi => ⟨fun h => absurd (hz0 i hi) h, fun h => by simp at h⟩, ?_⟩
    rw [used_eq]
    have z0 := hz0 0 (by omega); have z1 := hz0 1 (by omega); have z2 := hz0 2 (by omega); have z3 := hz0 3 (by omega); have z4 := hz0 4 (by omega)
    simp only [Nat.zero_mul, Nat.zero_add, Nat.one_mul, Nat.reduceMul, Nat.reduceAdd] at z0 z1 z2 z3 z4
    rw [z0, z1, z2, z3, z4]; rfl
  | succ k ih =>
    intro hk hlen st h
    have h1 : k < bs.length := by omega
    have h2 : k < p.length := by omega
    rw [List.take_succ_eq_append_getElem h1, List.take_succ_eq_append_getElem h2, runP_snoc _ _ _ _ _ (by simp; omega)] at h
    cases hr : runP ap np (bs.take k) (p.take k) st0' with
    | none => rw [hr] at h; simp at h
    | some s =>
      rw [hr] at h
      dsimp only at h
      obtain ⟨a1, a2, a3, a4⟩ := ih (by omega) hlen s hr
      split at h
      · rename_i hx
        have hx2 := inB_iff.1 hx
        have e := putS_add h
        obtain ⟨j, hj⟩ := Int.eq_ofNat_of_zero_le hx2.1
        rw [hj, Int.toNat_natCast] at e
        have hj5 : j < 5 := by omega
        have hkd := (hb bs[k] (List.getElem_mem h1)).1
        rw [List.take_succ_eq_append_getElem h2, hj, e]
        refine ⟨by rw [addS_len]; exact a1, hasOk_add a2 a1 hj5 hkd, fun i hi => ?_, ?_⟩
        · rw [add_has a1 hj5 i hi, List.mem_append, List.mem_singleton]
          by_cases e2 : j = i
          · subst e2
            rw [if_pos rfl]
            exact ⟨fun _ => .inr rfl, fun _ => bor_ne (a2 j hj5) hkd⟩
          · rw [if_neg e2, a3 i hi]
            exact ⟨.inl, fun h => h.elim id (fun h => by omega)⟩
        · rw [used_add a2 a1 hj5 hkd, usd_snoc, a4]
          have := a3 j hj5
          by_cases e2 : (j : Int) ∈ p.take k
          · rw [if_pos e2, if_pos (this.2 e2)]
          · rw [if_neg e2, if_neg (fun h => e2 (this.1 h))]
      · simp at h
/-- More beasts use no fewer pens. -/
theorem used_mono {ap : List Int} {np : Nat} (h5 : np ≤ 5) (ks : List Kd) : ∀ (st p fin : List Int), goodB ks → st.length = 10 → hasOk st → runP ap np ks p st = some fin → usedS st ≤ usedS fin := by
  induction ks with
  | nil => intro st p fin _ _ _ h; cases p with
    | nil => simp [runP] at h; subst h; exact Int.le_refl _
    | cons x p => simp [runP] at h
  | cons k ks ih =>
    intro st p fin hb hl hh h
    cases p with
    | nil => simp [runP] at h
    | cons x p =>
      simp only [runP] at h
      split at h
      · rename_i hx
        have hx2 := inB_iff.1 hx
        cases hs : putS ap st k x.toNat with
        | none => rw [hs] at h; simp at h
        | some s =>
          rw [hs] at h
          have e := putS_add hs
          have hkd := (hb k (by simp)).1
          have hx5 : x.toNat < 5 := by omega
          have h1 := ih s p fin (fun q hq => hb q (by simp [hq])) (by rw [e, addS_len]; exact hl) (by rw [e]; exact hasOk_add hh hl hx5 hkd) h
          have h2 := used_add hh hl hx5 hkd
          rw [← e] at h2
          split at h2 <;> omega
      · simp at h
theorem mem_plcM {ap : List Int} {np : Nat} (h5 : np ≤ 5) (most : Int) (ks : List Kd) : ∀ (st p : List Int), goodB ks → st.length = 10 → hasOk st → usedS st ≤ most → (p ∈ plc ap np most ks st ↔ ∃ fin, runP ap np ks p st = some fin ∧ usedS fin ≤ most) := by
  induction ks with
  | nil =>
    intro st p _ _ _ hu
    rw [plc]
    cases p with
    | nil => simp [runP]; exact hu
    | cons x p => simp [runP]
  | cons k ks ih =>
    intro st p hb hl hh hu
    have hkd := (hb k (by simp)).1
    have hb' : goodB ks := fun q hq => hb q (by simp [hq])
    rw [plc_cons]
    unfold plcQ
    rw [List.mem_flatMap]
    constructor
    · rintro ⟨pen, hpen, hp⟩
      have hpn := List.mem_range.1 hpen
      unfold plc1 at hp
      cases hs : putS ap st k pen with
      | none => rw [hs] at hp; simp at hp
      | some s =>
        rw [hs] at hp
        dsimp only at hp
        split at hp
        · simp at hp
        · rename_i hm
          simp at hm
          obtain ⟨r, hr, rfl⟩ := List.mem_map.1 hp
          have e := putS_add hs
          have := (ih s r hb' (by rw [e, addS_len]; exact hl) (by rw [e]; exact hasOk_add hh hl (by omega) hkd) hm).1 hr
          simp only [runP]
          rw [if_pos (inB_iff.2 ⟨by omega, by omega⟩), Int.toNat_natCast, hs]
          exact this
    · rintro ⟨fin, hr, hf⟩
      cases p with
      | nil => simp [runP] at hr
      | cons x r =>
        simp only [runP] at hr
        split at hr
        · rename_i hx
          have hx2 := inB_iff.1 hx
          cases hs : putS ap st k x.toNat with
          | none => rw [hs] at hr; simp at hr
          | some s =>
            rw [hs] at hr
            dsimp only at hr
            have e := putS_add hs
            have hsl : s.length = 10 := by rw [e, addS_len]; exact hl
            have hsh : hasOk s := by rw [e]; exact hasOk_add hh hl (by omega) hkd
            have hus := used_mono h5 ks s r fin hb' hsl hsh hr
            refine ⟨x.toNat, List.mem_range.2 (by omega), ?_⟩
            unfold plc1
            rw [hs]
            dsimp only
            rw [if_neg (by simp; omega)]
            exact List.mem_map.2 ⟨r, (ih s r hb' hsl hsh (by omega)).2 ⟨fin, hr, hf⟩, by rw [Int.toNat_of_nonneg hx2.1]⟩
        · simp at hr

theorem st0_zero {P : List Int} : ∀ i, i < 5 → (st0 P).getD (i * 2 + 1) 0 = 0 := by
  have : ∀ k, ∀ i, i < 5 → (emK P k).getD (i * 2 + 1) 0 = 0 := by
    intro k
    induction k with
    | zero => intro i hi; rcases (by omega : i = 0 ∨ i = 1 ∨ i = 2 ∨ i = 3 ∨ i = 4) with rfl | rfl | rfl | rfl | rfl <;> rfl
    | succ k ih => intro i hi; rw [emK, getD_set, if_neg (by omega)]; exact ih i hi
  exact this _
theorem st0_has {P : List Int} : hasOk (st0 P) := fun i hi => by rw [st0_zero i hi]; decide
theorem st0_used {P : List Int} : usedS (st0 P) = 0 := by
  rw [used_eq]
  have z0 := st0_zero (P := P) 0 (by omega); have z1 := st0_zero (P := P) 1 (by omega); have z2 := st0_zero (P := P) 2 (by omega); have z3 := st0_zero (P := P) 3 (by omega); have z4 := st0_zero (P := P) 4 (by omega)
  simp only [Nat.zero_mul, Nat.zero_add, Nat.one_mul, Nat.reduceMul, Nat.reduceAdd] at z0 z1 z2 z3 z4
  rw [z0, z1, z2, z3, z4]; rfl
theorem plE_run {P : List Int} {K : List Kd} {l p : List Int} (h0 : sE P K l = 0) : plE P K l p = 0 ↔ ∃ fin, runP (apL K) P.length (bsL K l) p (st0 P) = some fin := by
  unfold plE
  rw [if_pos h0, standS_run]
  cases h : runP (apL K) P.length (bsL K l) p (st0 P) <;> simp
theorem run_len {ap : List Int} {np : Nat} (ks : List Kd) : ∀ (p st fin : List Int), runP ap np ks p st = some fin → ks.length = p.length := by
  induction ks with
  | nil => intro p st fin h; cases p with
    | nil => rfl
    | cons x p => simp [runP] at h
  | cons k ks ih => intro p st fin h; cases p with
    | nil => simp [runP] at h
    | cons x p =>
      simp only [runP] at h
      split at h
      · cases hs : putS ap st k x.toNat with
        | none => rw [hs] at h; simp at h
        | some s => rw [hs] at h; have := ih p s fin h; simpa using this
      · simp at h
/-- The placements in at most q pens are those that use so many. -/
theorem PM_mem {P : List Int} {K : List Kd} {l p : List Int} (h0 : sE P K l = 0) (q : Nat) : p ∈ PM P K l q ↔ plE P K l p = 0 ∧ usd p ≤ (q : Int) := by
  obtain ⟨hy, h8, hlo⟩ := sE_0 h0
  obtain ⟨h5, hP, hK⟩ := yOk_k hy
  have hb := bsL_good hK hlo
  unfold PM
  rw [mem_plcM h5 _ _ _ _ hb (st0_len P) st0_has (by rw [st0_used]; omega), plE_run h0]
  constructor
  · rintro ⟨fin, hr, hf⟩
    have hlen := run_len _ _ _ _ hr
    have := run_used h5 hb (st0_len P) st0_has st0_zero _ (Nat.le_refl _) hlen fin (by rw [List.take_length, hlen, List.take_length]; exact hr)
    rw [hlen, List.take_length] at this
    exact ⟨⟨fin, hr⟩, by rw [← this.2.2.2]; exact hf⟩
  · rintro ⟨⟨fin, hr⟩, hu⟩
    have hlen := run_len _ _ _ _ hr
    have := run_used h5 hb (st0_len P) st0_has st0_zero _ (Nat.le_refl _) hlen fin (by rw [List.take_length, hlen, List.take_length]; exact hr)
    rw [hlen, List.take_length] at this
    exact ⟨fin, hr, by rw [this.2.2.2]; exact hu⟩
theorem pl_used {P : List Int} {K : List Kd} {l p : List Int} (h0 : sE P K l = 0) (h : plE P K l p = 0) : 0 ≤ usd p ∧ usd p ≤ (P.length : Int) := by
  refine ⟨(usdK_in p _).1, ?_⟩
  have h1 := (PL_mem h0).2 h
  exact ((PM_mem h0 P.length).1 h1).2
theorem fewK_some {P : List Int} {K : List Kd} {l a : List Int} : ∀ f q, fewK P K l q f = some a → ∃ j, q ≤ j ∧ j < q + f ∧ (∃ t, PM P K l j = a :: t) ∧ ∀ i, q ≤ i → i < j → PM P K l i = [] := by
  intro f
  induction f with
  | zero => intro q h; simp [fewK] at h
  | succ f ih =>
    intro q h
    rw [fewK] at h
    cases hm : PM P K l q with
    | nil =>
      rw [hm] at h
      obtain ⟨j, h1, h2, h3, h4⟩ := ih (q + 1) h
      refine ⟨j, by omega, by omega, h3, fun i hi hj => ?_⟩
      by_cases e : i = q
      · subst e; exact hm
      · exact h4 i (by omega) hj
    | cons x t =>
      rw [hm] at h
      cases h
      exact ⟨q, Nat.le_refl _, by omega, ⟨t, hm⟩, fun i hi hj => by omega⟩
theorem fewK_none {P : List Int} {K : List Kd} {l : List Int} : ∀ f q, fewK P K l q f = none → ∀ i, q ≤ i → i < q + f → PM P K l i = [] := by
  intro f
  induction f with
  | zero => intro q _ i h1 h2; omega
  | succ f ih =>
    intro q h i h1 h2
    rw [fewK] at h
    cases hm : PM P K l q with
    | nil =>
      rw [hm] at h
      by_cases e : i = q
      · subst e; exact hm
      · exact ih (q + 1) h i (by omega) (by omega)
    | cons x t => rw [hm] at h; cases h
theorem few_none {P : List Int} {K : List Kd} {l : List Int} (h : fewP P K l = none) : PL P K l = [] := fewK_none _ _ h P.length (by omega) (by omega)
theorem few_some {P : List Int} {K : List Kd} {l a : List Int} (h0 : sE P K l = 0) (h : fewP P K l = some a) : plE P K l a = 0 ∧ ∀ p, plE P K l p = 0 → usd a < usd p ∨ (usd a = usd p ∧ ahB p a = false) := by
  obtain ⟨j, h1, h2, ⟨t, h3⟩, h4⟩ := fewK_some _ _ h
  have ha := (PM_mem (p := a) h0 j).1 (by rw [h3]; simp)
  have no : ∀ p, plE P K l p = 0 → (j : Int) ≤ usd p := by
    intro p hp
    have hu := pl_used h0 hp
    by_cases hlt : usd p < (j : Int)
    · have := h4 (usd p).toNat (by omega) (by omega)
      have hm := (PM_mem (p := p) h0 (usd p).toNat).2 ⟨hp, by omega⟩
      rw [this] at hm; simp at hm
    · omega
  refine ⟨ha.1, fun p hp => ?_⟩
  have h5 := no p hp
  have h6 := no a ha.1
  by_cases e : usd p = (j : Int)
  · right
    refine ⟨by omega, ?_⟩
    have hm := (PM_mem (p := p) h0 j).2 ⟨hp, by omega⟩
    have hs := plc_sorted (ap := apL K) (np := P.length) (most := (j : Int)) (bsL K l) (st0 P)
    have hs2 : (PM P K l j).Pairwise (fun a b => ahB a b = true) := hs
    rw [h3] at hm hs2
    rcases List.mem_cons.1 hm with rfl | hm
    · exact ahB_self _
    · exact ahB_asym _ _ ((List.pairwise_cons.1 hs2).1 p hm)
  · left; omega
end Go.Proofs.YtaieidigpilbfaaGreat

namespace Go.Proofs.YtaieidigpilbfaaGreat
open Go Go.RowKit
set_option maxRecDepth 100000

/-- In the second state there is as much room at least, and no sort that is not in the first one. -/
def domS (s t : List Int) : Prop := ∀ i, i < 5 → s.getD (i * 2) 0 ≤ t.getD (i * 2) 0 ∧ ∀ j, (t.getD (i * 2 + 1) 0).toNat.testBit j = true → (s.getD (i * 2 + 1) 0).toNat.testBit j = true
theorem band_mono {a b m : Int} (ha : 0 ≤ a ∧ a ≤ 1023) (hb : 0 ≤ b ∧ b ≤ 1023) (hm : 0 ≤ m ∧ m ≤ 1023) (h : ∀ j, a.toNat.testBit j = true → b.toNat.testBit j = true) (hn : band a m ≠ 0) : band b m ≠ 0 := by
  obtain ⟨x, rfl⟩ := Int.eq_ofNat_of_zero_le ha.1
  obtain ⟨y, rfl⟩ := Int.eq_ofNat_of_zero_le hb.1
  obtain ⟨n, rfl⟩ := Int.eq_ofNat_of_zero_le hm.1
  rw [band_nat _ _ (by omega), Nat.mod_eq_of_lt (by omega)] at hn ⊢
  simp only [Int.toNat_natCast] at h
  intro h0
  apply hn
  have hy : y &&& n = 0 := by omega
  have : x &&& n = 0 := by
    apply Nat.eq_of_testBit_eq
    intro i
    rw [Nat.testBit_and, Nat.zero_testBit]
    have h2 : (y &&& n).testBit i = false := by rw [hy, Nat.zero_testBit]
    rw [Nat.testBit_and] at h2
    cases hx : x.testBit i
    · rfl
    · rw [h i hx] at h2; simpa using h2
  rw [this]; rfl
theorem dom_full {ap s t : List Int} {k : Kd} {i : Nat} (h : domS s t) (hap : okA ap) (hs : hasOk s) (ht : hasOk t) (hi : i < 5) (hf : fullS ap t k i = true) : fullS ap s k i = true := by
  unfold fullS at hf ⊢
  simp only [Bool.or_eq_true, decide_eq_true_eq, bne_iff_ne] at hf ⊢
  rcases hf with h1 | h1
  · left; have := (h i hi).1; omega
  · right; exact band_mono (ht i hi) (hs i hi) (hap _) (h i hi).2 h1
theorem add_free {st : List Int} {k : Kd} {i : Nat} (hl : st.length = 10) (hi : i < 5) (j : Nat) (hj : j < 5) : (addS st k i).getD (j * 2) 0 = if i = j then st.getD (i * 2) 0 - k.r else st.getD (j * 2) 0 := by
  unfold addS
  rw [getD_set, if_neg (by omega), getD_set, hl]
  by_cases e : i = j
  · subst e; rw [if_pos ⟨rfl, by omega⟩, if_pos rfl]
  · rw [if_neg (by omega), if_neg e]
theorem bor_test {a s : Int} (ha : 0 ≤ a ∧ a ≤ 1023) (hs : 1 ≤ s ∧ s ≤ 9) (j : Nat) : (bor a (2 ^ s.toNat)).toNat.testBit j = (a.toNat.testBit j || decide (s.toNat = j)) := by
  obtain ⟨x, rfl⟩ := Int.eq_ofNat_of_zero_le ha.1
  obtain ⟨n, rfl⟩ := Int.eq_ofNat_of_zero_le (show 0 ≤ s by omega)
  have hp : 2 ^ n < 1024 := by
    have : 2 ^ n ≤ 2 ^ 9 := Nat.pow_le_pow_right (by decide) (by omega)
    omega
  rw [Int.toNat_natCast, show ((2 : Int) ^ n) = ((2 ^ n : Nat) : Int) by simp, bor_nat x (2 ^ n) (by omega) (by omega), Int.toNat_natCast, Int.toNat_natCast, Nat.testBit_or, Nat.testBit_two_pow]
theorem dom_add {s t : List Int} {k : Kd} {i : Nat} (h : domS s t) (hs : hasOk s) (ht : hasOk t) (hls : s.length = 10) (hlt : t.length = 10) (hi : i < 5) (hk : 1 ≤ k.s ∧ k.s ≤ 9) : domS (addS s k i) (addS t k i) := by
  intro j hj
  have hh := h j hj
  rw [add_free hls hi j hj, add_free hlt hi j hj, add_has hls hi j hj, add_has hlt hi j hj]
  by_cases e : i = j
  · subst e
    rw [if_pos rfl, if_pos rfl, if_pos rfl, if_pos rfl]
    refine ⟨by omega, fun b hb => ?_⟩
    rw [bor_test (ht i hi) hk] at hb
    rw [bor_test (hs i hi) hk]
    simp only [Bool.or_eq_true] at hb ⊢
    rcases hb with hb | hb
    · exact .inl (hh.2 b hb)
    · exact .inr hb
  · rw [if_neg e, if_neg e, if_neg e, if_neg e]; exact hh
theorem dom_skip {s t : List Int} {k : Kd} {i : Nat} (h : domS s t) (hs : hasOk s) (hls : s.length = 10) (hi : i < 5) (hk : (1 ≤ k.s ∧ k.s ≤ 9) ∧ (1 ≤ k.r ∧ k.r ≤ 1000)) : domS (addS s k i) t := by
  intro j hj
  have hh := h j hj
  rw [add_free hls hi j hj, add_has hls hi j hj]
  by_cases e : i = j
  · subst e
    rw [if_pos rfl, if_pos rfl]
    refine ⟨by omega, fun b hb => ?_⟩
    rw [bor_test (hs i hi) hk.1, hh.2 b hb]; rfl
  · rw [if_neg e, if_neg e]; exact hh
theorem sub_run {ap : List Int} {np : Nat} (h5 : np ≤ 5) (hap : okA ap) {l' ks : List Kd} (hsub : l'.Sublist ks) : goodB ks → ∀ (s t p : List Int), domS s t → hasOk s → hasOk t → s.length = 10 → t.length = 10 → (runP ap np ks p s).isSome = true → ∃ q, (runP ap np l' q t).isSome = true := by
  induction hsub with
  | slnil => intro _ s t p _ _ _ _ _ _; exact ⟨[], rfl⟩
  | cons a _ ih =>
    intro hb s t p hd hs ht hls hlt h
    have hka := hb a (by simp)
    cases p with
    | nil => simp [runP] at h
    | cons x p =>
      simp only [runP] at h
      split at h
      · rename_i hx
        have hx2 := inB_iff.1 hx
        cases hp : putS ap s a x.toNat with
        | none => rw [hp] at h; simp at h
        | some s1 =>
          rw [hp] at h
          have e := putS_add hp
          subst e
          have hx5 : x.toNat < 5 := by omega
          exact ih (fun q hq => hb q (by simp [hq])) _ t p (dom_skip hd hs hls hx5 hka) (hasOk_add hs hls hx5 hka.1) ht (by rw [addS_len]; exact hls) hlt h
      · simp at h
  | cons_cons a _ ih =>
    intro hb s t p hd hs ht hls hlt h
    have hka := hb a (by simp)
    cases p with
    | nil => simp [runP] at h
    | cons x p =>
      simp only [runP] at h
      split at h
      · rename_i hx
        have hx2 := inB_iff.1 hx
        have hx5 : x.toNat < 5 := by omega
        cases hp : putS ap s a x.toNat with
        | none => rw [hp] at h; simp at h
        | some s1 =>
          rw [hp] at h
          have e := putS_add hp
          subst e
          have hfs : fullS ap s a x.toNat = false := by
            unfold putS at hp; split at hp
            · cases hp
            · rename_i h2; simpa using h2
          have hft : fullS ap t a x.toNat = false := by
            cases hc : fullS ap t a x.toNat with
            | false => rfl
            | true => rw [dom_full hd hap hs ht hx5 hc] at hfs; cases hfs
          obtain ⟨q, hq⟩ := ih (fun q hq => hb q (by simp [hq])) _ (addS t a x.toNat) p (dom_add hd hs ht hls hlt hx5 hka.1) (hasOk_add hs hls hx5 hka.1) (hasOk_add ht hlt hx5 hka.1) (by rw [addS_len]; exact hls) (by rw [addS_len]; exact hlt) h
          refine ⟨x :: q, ?_⟩
          simp only [runP]
          rw [if_pos hx]
          unfold putS
          rw [if_neg (by simp [hft])]
          exact hq
      · simp at h
theorem dom_refl (s : List Int) : domS s s := fun _ _ => ⟨Int.le_refl _, fun _ h => h⟩
theorem apL_ok {K : List Kd} (h : ksOk K = true) : okA (apL K) := (apKs_ok (x := 1) (y := 1) (by omega) (by omega) K ap0 ap0_ok rfl (ksOk_kd h)).1
theorem PL_ne {P : List Int} {K : List Kd} {l : List Int} (h5 : P.length ≤ 5) : PL P K l ≠ [] ↔ ∃ p, (runP (apL K) P.length (bsL K l) p (st0 P)).isSome = true := by
  constructor
  · intro h
    obtain ⟨p, hp⟩ := List.exists_mem_of_ne_nil _ h
    exact ⟨p, (mem_plc h5 _ _ _ offS_0).1 hp⟩
  · rintro ⟨p, hp⟩ h0
    have := (mem_plc h5 _ _ _ offS_0).2 hp
    have h1 : p ∈ PL P K l := this
    rw [h0] at h1; simp at h1
theorem PL_sub {P : List Int} {K : List Kd} {l l' : List Int} (hy : yOk P K = true) (hl : lOk K l = true) (hs : l'.Sublist l) (h : PL P K l ≠ []) : PL P K l' ≠ [] := by
  obtain ⟨h5, hP, hK⟩ := yOk_k hy
  obtain ⟨p, hp⟩ := (PL_ne h5).1 h
  obtain ⟨q, hq⟩ := sub_run h5 (apL_ok hK) (hs.map (kdD K)) (bsL_good hK hl) _ _ p (dom_refl (st0 P)) st0_has st0_has (st0_len P) (st0_len P) hp
  exact (PL_ne h5).2 ⟨q, hq⟩
end Go.Proofs.YtaieidigpilbfaaGreat

