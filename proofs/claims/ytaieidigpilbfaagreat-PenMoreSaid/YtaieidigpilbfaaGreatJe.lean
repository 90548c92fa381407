/- Contracts of functions of the program and of the reference, and plain facts: a part of a proof. Own text. -/
import Derived.Test.YtaieidigpilbfaaGreatJc
import Derived.Test.YtaieidigpilbfaaGreatJd
set_option linter.unusedVariables false
set_option linter.unusedSimpArgs false
set_option linter.unusedSectionVars false
namespace Go.Proofs.YtaieidigpilbfaaGreat
open Go Go.RowKit Go.Shelf
attribute [local go_sem] Oper.semAt_some
set_option maxHeartbeats 2000000
set_option maxRecDepth 100000

/-- The placements in at most so many pens. -/
def PM (P : List Int) (K : List Kd) (l : List Int) (q : Nat) : List (List Int) := plc (apL K) P.length (q : Int) (bsL K l) (st0 P)
/-- The first one, from so many pens on. -/
def fewK (P : List Int) (K : List Kd) (l : List Int) : Nat → Nat → Option (List Int)
  | _, 0 => none
  | q, f + 1 => match PM P K l q with
    | [] => fewK P K l (q + 1) f
    | x :: _ => some x
def fewP (P : List Int) (K : List Kd) (l : List Int) : Option (List Int) := fewK P K l 0 (P.length + 1)
def fewL (P : List Int) (K : List Kd) (l : List Int) : List Int := if sE P K l = 0 then (fewP P K l).getD [] else []
def fewE (P : List Int) (K : List Kd) (l : List Int) : Int := if sE P K l = 0 then (if (fewP P K l).isSome = true then 0 else 53) else sE P K l

structure FewI (w : World) (x0 N8 : Nat) (A : Option Addr) (n c : Nat) (P : List Int) (B : Option Addr) (m d : Nat) (B' : Option Addr) (c' : Nat) (K : List Kd) (l : List Int) (e : Int) (v : Value) (X : World) : Prop where
  bel : Below w.heap.size w X
  ky : Bx X w.heap.size 25 [.slice A n c, .slice B m d]
  ku : Bx X x0 83 (ldL A n c (.slice B' l.length c') (apL K))
  ke : Bx X (x0 + 1) 27 [.int .i64 e]
  kf : Bx X N8 22 [v]
  ks : Ks X B' l.length (bsL K l)
theorem FewI.keepB {w X Y X0 : World} {x0 N8 : Nat} {A : Option Addr} {n c : Nat} {P : List Int} {B : Option Addr} {m d : Nat} {B' : Option Addr} {c' : Nat} {K : List Kd} {l : List Int} {e : Int} {v : Value} {E : Nat}
    (h : FewI w x0 N8 A n c P B m d B' c' K l e v X) (hb : Below E X Y) (h0 : Ks X0 B' l.length (bsL K l)) (h1 : w.heap.size < x0) (h2 : x0 + 1 < N8) (h3 : N8 < E) (h4 : X0.heap.size ≤ E) : FewI w x0 N8 A n c P B m d B' c' K l e v Y :=
  ⟨h.bel.trans (hb.mono (by omega)), h.ky.keepB hb (by omega), h.ku.keepB hb (by omega), h.ke.keepB hb (by omega), h.kf.keepB hb (by omega), h.ks.keepO h0 (fun b hlt => hb.block b (by omega)) hb.size⟩

theorem Fewest_any (A : Option Addr) (n c : Nat) (P : List Int) (B : Option Addr) (m d : Nat) (K : List Kd) (L : Option Addr) (r s : Nat) (l : List Int) (w : World) (hp : Is w A n P) (hg : Ks w B m K) (hl : Is w L r l) :
    Calls Tryz.prog 44 #[.agg #[.slice A n c, .slice B m d], .slice L r s] w fun e w' => ∃ v, e = .returned (.tuple #[v, .int .i64 (fewE P K l)]) ∧ Lst w.heap.size w' v (fewL P K l) ∧ Below w.heap.size w w' := by
  have Hp := Lib.hid hp; have Hg := Lib.hid hg; have Hl := Lib.hid hl
  have Hn : Hid (n = P.length) := Lib.hid hp.len
  clear hp hg hl
  by_cases h0 : sE P K l = 0
  rotate_left
  · have H0 := Lib.hid h0
    have hne : (sE P K l != 0) = true := by simpa using h0
    have HE : Hid (fewE P K l = sE P K l) := Lib.hid (by unfold fewE; rw [if_neg h0])
    have HLs : Hid (fewL P K l = []) := Lib.hid (by unfold fewL; rw [if_neg h0])
    clear h0
    refine (callsIn_wide (n := 9)).1 (callsIn_of_wp_marks Tryz.func44 rfl trivial ?_ rfl)
    simp only [Tryz.ntmps44, List.size_toArray, List.length_cons, List.length_nil, Nat.reduceAdd, Nat.reduceSub, Array.replicate_succ, Array.replicate_zero, List.push_toArray, List.append_toArray, List.nil_append, List.cons_append]
    refine wpIn_wide.2 ?_
    go_upto_region 1 with fail
    generalize hW : (World.alloc _ _) = W
    have HB : Hid (Below w.heap.size w W) := Lib.hid (by subst hW; go_grown)
    have KY : Bx W (w.heap.size) 25 [.slice A n c, .slice B m d] := by subst hW; repeat (first | (refine Bx.newAt _ _ _ ?_; first | rfl | (simp only [World.size_alloc]; done) | (simp only [World.size_alloc]; omega)) | refine Bx.old ?_ _)
    clear hW
    have KYl := KY.lt; have KYc := KY.get; have KYf := KY.fr
    refine wp_scope_straight ?_
    go_wp2_with (first
      | (go_at_call 63; refine (loadOf_no _ _ _ P _ _ _ K _ _ _ l _ (Hp.out.keep HB.out) (Hg.out.keep HB.out) (Hl.out.keep HB.out) H0.out).mono ?_; rintro e X ⟨rfl, hbx⟩; have hwx := KY.lt; have hxs := hbx.size; clear KYl KYc KYf; replace KY := KY.keep hbx; have KYl := KY.lt; have KYc := KY.get; have KYf := KY.fr; replace HB := Lib.hid (up HB.out hbx); clear hbx)
      | (refine wpList_put 83 6 15 rfl rfl (Bx.old (Bx.new X _ 83) _) rfl rfl (sL83 rfl) (sLo rfl) ldL_one ?_; intro U KU hp; have KE : Bx U (X.heap.size + 1) 27 [.int .i64 0] := (Bx.newAt _ _ _ (by rw [World.size_alloc])).put hp (by omega); have hbu := upP ((up_alloc X _).trans ((up_alloc _ _).mono (by rw [World.size_alloc]; omega))) hp (by omega); have KEl := KE.lt; have KEc := KE.get; have KEf := KE.fr))
    have hbV := hbu.trans ((Put.cell U (X.heap.size + 1) 0 (.int .i64 (sE P K l))).below (B := X.heap.size) (by omega))
    have KE2 := KE.cell 0 (.int .i64 (sE P K l))
    generalize U.setCell ⟨X.heap.size + 1, 0, none⟩ _ = V at *
    replace HB := Lib.hid (up HB.out hbV)
    clear KE KEl KEc KEf KU KY KYl KYc KYf hbV hbu
    simp only [List.set_cons_zero] at KE2
    have KE2l := KE2.lt; have KE2c := KE2.get; have KE2f := KE2.fr
    refine wp_region_grow (by kernel_rfl) (by kernel_rfl) ?_
    repeat (go_big_quiet_step ((fail)))
    refine wpQuiet_nil ?_
    intro z
    have hb := grow_below V z
    generalize grow V z = Y at *
    replace HB := Lib.hid (up HB.out hb)
    clear KE2l KE2c KE2f hb
    go_wp2
    refine noGoto_ret (bodyPostM_marks [] rfl (by simp) (by simp) fun Z hZ => ⟨_, results_tmp2 rfl _ _ _, .slice none 0 0, ret_vi HE.out, by rw [HLs.out]; exact Lst.nil _ _, hZ.below HB.out (by simp)⟩)
  obtain ⟨hy, h8, hlo⟩ := sE_0 h0
  obtain ⟨h5, hP, hK⟩ := yOk_k hy
  have hn5 : n ≤ 5 := by rw [Hn.out]; exact h5
  have hap := apL_len K
  have H0 := Lib.hid h0
  have Hgood : Hid (goodB (bsL K l)) := Lib.hid (bsL_good hK hlo)
  have hbl : (bsL K l).length ≤ 8 := by rw [bsL_len]; exact h8
  have HE : Hid (fewE P K l = if (fewP P K l).isSome = true then 0 else 53) := Lib.hid (by unfold fewE; rw [if_pos h0])
  have HLs : Hid (fewL P K l = (fewP P K l).getD []) := Lib.hid (by unfold fewL; rw [if_pos h0])
  have HP := Lib.hid hP
  clear h0 hy hlo hP hK
  refine (callsIn_wide (n := 9)).1 (callsIn_of_wp_marks Tryz.func44 rfl trivial ?_ rfl)
  simp only [Tryz.ntmps44, List.size_toArray, List.length_cons, List.length_nil, Nat.reduceAdd, Nat.reduceSub, Array.replicate_succ, Array.replicate_zero, List.push_toArray, List.append_toArray, List.nil_append, List.cons_append]
  refine wpIn_wide.2 ?_
  go_upto_region 1 with fail
  generalize hW : (World.alloc _ _) = W
  have HB : Hid (Below w.heap.size w W) := Lib.hid (by subst hW; go_grown)
  have KY : Bx W (w.heap.size) 25 [.slice A n c, .slice B m d] := by subst hW; repeat (first | (refine Bx.newAt _ _ _ ?_; first | rfl | (simp only [World.size_alloc]; done) | (simp only [World.size_alloc]; omega)) | refine Bx.old ?_ _)
  clear hW
  have KYl := KY.lt; have KYc := KY.get; have KYf := KY.fr
  refine wp_scope_straight ?_
  go_upto_region 4 with (first
    | (go_at_call 63; refine (loadOf_ok _ _ _ P _ _ _ K _ _ _ l _ (Hp.out.keep HB.out) (Hg.out.keep HB.out) (Hl.out.keep HB.out) H0.out).mono ?_; rintro e X ⟨B', c', rfl, hlc, hks, -, hbx⟩; have Hks := Lib.hid hks; clear hks; have hwx := KY.lt; have hxs := hbx.size; clear KYl KYc KYf; replace KY := KY.keep hbx; have KYl := KY.lt; have KYc := KY.get; have KYf := KY.fr; replace HB := Lib.hid (up HB.out hbx); clear hbx)
    | (refine wpList_put 83 6 15 rfl rfl (Bx.old (Bx.new X _ 83) _) rfl rfl (sL83 hap) (sLo hap) ldL_one ?_; intro U KU hp; have KE : Bx U (X.heap.size + 1) 27 [.int .i64 0] := (Bx.newAt _ _ _ (by rw [World.size_alloc])).put hp (by omega); have hbu := upP ((up_alloc X _).trans ((up_alloc _ _).mono (by rw [World.size_alloc]; omega))) hp (by omega); have KEl := KE.lt; have KEc := KE.get; have KEf := KE.fr))
  have hbV := hbu.trans ((Put.cell U (X.heap.size + 1) 0 (.int .i64 0)).below (B := X.heap.size) (by omega))
  have KUV := KU.put (Put.cell U (X.heap.size + 1) 0 (.int .i64 0)) (by omega)
  have KEV := KE.cell 0 (.int .i64 0)
  have hsV : (U.setCell ⟨X.heap.size + 1, 0, none⟩ (.int .i64 0)).heap.size = U.heap.size := (Put.cell U (X.heap.size + 1) 0 (.int .i64 0)).size
  have hUe := KE.lt
  generalize U.setCell ⟨X.heap.size + 1, 0, none⟩ _ = V at *
  simp only [List.set_cons_zero] at KEV
  have HksV := Lib.hid (Hks.out.keep hbV)
  have hwV : w.heap.size < X.heap.size := by omega
  clear KYl KYc KYf; replace KY := KY.keep hbV; have KYl := KY.lt; have KYc := KY.get; have KYf := KY.fr; replace HB := Lib.hid (up HB.out hbV); clear hbV
  clear KE KEl KEc KEf KU hbu hp
  go_upto_region 5 with fail
  generalize hV2 : V.alloc _ = V2
  have hb2 : Below V.heap.size V V2 := by subst hV2; exact up_alloc _ _
  have KF : Bx V2 V.heap.size 22 [.slice none 0 0] := by subst hV2; exact Bx.new _ _ _
  have hs2 : V2.heap.size = V.heap.size + 1 := by subst hV2; simp
  clear hV2
  replace KUV := KUV.keep hb2
  replace KEV := KEV.keep hb2
  replace HksV := Lib.hid (HksV.out.keep hb2)
  clear KYl KYc KYf; replace KY := KY.keep hb2; have KYl := KY.lt; have KYc := KY.get; have KYf := KY.fr; replace HB := Lib.hid (up HB.out hb2); clear hb2
  have KEVl := KEV.lt; have KEVc := KEV.get; have KEVf := KEV.fr
  go_wp2_with fail
  have p53 := Put.cell V2 (X.heap.size + 1) 0 (.int .i64 53)
  have KE3 := KEV.cell 0 (.int .i64 53)
  generalize V2.setCell ⟨X.heap.size + 1, 0, none⟩ _ = V3 at *
  simp only [List.set_cons_zero] at KE3
  have hbx0 : Below X.heap.size V2 V3 := p53.below (by omega)
  have KU3 := KUV.put p53 (by omega)
  have KF3 := KF.put p53 (by omega)
  have KY3 := KY.put p53 (by omega)
  have HB3 := Lib.hid (upP HB.out p53 (by omega))
  have Hks3 := Lib.hid (HksV.out.keepO Hks.out (fun b hlt => p53.block b (by omega)) (Nat.le_of_eq p53.size.symm))
  have hs3 := p53.size
  clear KYl KYc KYf KEVl KEVc KEVf KY KEV KUV KF HB HksV p53 hbx0
  have hUs : V.heap.size = U.heap.size := hsV
  have KY3l := KY3.lt; have KY3c := KY3.get; have KY3f := KY3.fr
  refine (wpIn_wide (n := 9)).1 ?_
  refine wpIn_label ?_
  go_wp2_with fail
  have hUX : X.heap.size + 1 < U.heap.size := hUe
  have I0 : FewI w X.heap.size U.heap.size A n c P B m d B' c' K l 53 (.slice none 0 0) V3 := ⟨HB3.out, KY3, KU3, KE3, by rw [← hUs]; exact KF3, Hks3.out⟩
  have hV3 : U.heap.size < V3.heap.size := by omega
  have HKX := Lib.hid Hks.out
  have Hf0 : Hid (fewP P K l = fewK P K l 0 (n + 1 - 0)) := Lib.hid (by rw [Hn.out]; rfl)
  clear KY3l KY3c KY3f KY3 KU3 KE3 KF3 HB3 Hks3 Hks
  refine (wpIn_wide (n := 9)).1 ?_
  refine wpIn_loop (fun a wr => ∃ (k : Nat) (Ds : List Nat) (t9 t25 t26 t27 t28 t29 t32 : Value), a = { tmps := #[.agg #[.slice A n c, .slice B m d], .slice L r s, .pointer (some ⟨w.heap.size, 0, none⟩), undef, .slice none 0 0, .int .i64 0, .pointer (some ⟨X.heap.size, 0, none⟩), .pointer (some ⟨X.heap.size + 1, 0, none⟩), .pointer (some ⟨U.heap.size, 0, none⟩), t9, undef,
      .tuple #[.agg ⟨ldL A n c (.slice B' l.length c') (apL K)⟩, .int .i64 0], .agg #[.slice A n c, .slice B m d], .slice L r s, .tuple #[.agg ⟨ldL A n c (.slice B' l.length c') (apL K)⟩, .int .i64 0], .agg ⟨ldL A n c (.slice B' l.length c') (apL K)⟩, .int .i64 0, .int .i64 0, .bool false, undef, .pointer (some ⟨w.heap.size, 0, none⟩), .slice A n c, .int .i64 n, .int .i64 ((n : Int) + 1), .int .i64 k, t25, t26, t27, t28, t29, undef, undef, t32, undef, undef], defers := Ds.map mkD } ∧
      k ≤ n + 1 ∧ FewI w X.heap.size U.heap.size A n c P B m d B' c' K l 53 (.slice none 0 0) wr ∧ fewP P K l = fewK P K l k (n + 1 - k) ∧ U.heap.size < wr.heap.size ∧ Ds.Nodup ∧ (∀ D ∈ Ds, U.heap.size < D ∧ wr.heap[D]? = some (.deferred (some []))))
    (fun a _ => n + 1 - (intOf (a.tmps.getD 24 undef)).toNat) ?_ ?_
  · exact ⟨0, [], _, _, _, _, _, _, _, rfl, by omega, I0, Hf0.out, hV3, List.nodup_nil, by simp⟩
  rintro a wr ⟨k, Ds, t9, t25, t26, t27, t28, t29, t32, rfl, hk, hI, hfk, hsz, hnd, hds⟩
  clear I0 Hf0
  have Hds := Lib.hid hds
  have HDw : Hid (∀ D ∈ Ds, D < wr.heap.size) := Lib.hid (fun D hD => (Array.getElem?_eq_some_iff.1 (hds D hD).2).1)
  have Hfk := Lib.hid hfk
  have HI := Lib.hid hI
  clear hds hfk hI
  by_cases hlt : k < n + 1
  rotate_left
  · obtain rfl : k = n + 1 := by omega
    have hnone : fewP P K l = none := by rw [Hfk.out, Nat.sub_self]; rfl
    have Hno := Lib.hid hnone
    clear hnone Hfk
    have KE := HI.out.ke
    have KF := HI.out.kf
    have KEl := KE.lt; have KEc := KE.get; have KEf := KE.fr; have KFl := KF.lt; have KFc := KF.get; have KFf := KF.fr
    refine wpIn_wide.2 ?_
    go_wp2
    refine wp_region_grow (by kernel_rfl) (by kernel_rfl) ?_
    repeat (go_big_quiet_step ((fail)))
    refine wpQuiet_nil ?_
    intro z
    have hb := grow_below wr z
    generalize grow wr z = Y at *
    have hbel := (HI.out.bel).trans (hb.mono HI.out.bel.size)
    have HB := Lib.hid hbel
    have HdY : Hid (∀ D ∈ Ds, U.heap.size < D ∧ Y.heap[D]? = some (.deferred (some []))) := Lib.hid (fun D hD => ⟨(Hds.out D hD).1, (hb.block D (HDw.out D hD)).trans (Hds.out D hD).2⟩)
    clear hb hbel KE KEl KEc KEf KF KFl KFc KFf
    go_wp2
    refine noGoto_ret (bodyPostM_marks Ds rfl hnd (fun D hD => (HdY.out D hD).2) fun Z hZ => ⟨_, results_tmp2 rfl _ _ _, .slice none 0 0, ret_vi (HE.out.trans (by rw [Hno.out]; rfl)), by rw [HLs.out, Hno.out]; exact Lst.nil _ _, hZ.below HB.out (fun D hD => by have := (HdY.out D hD).1; omega)⟩)
  · have Hfk1 : Hid (fewP P K l = match PM P K l k with | [] => fewK P K l (k + 1) (n + 1 - (k + 1)) | x :: _ => some x) := Lib.hid (by rw [Hfk.out, show n + 1 - k = (n + 1 - (k + 1)) + 1 by omega]; rfl)
    clear Hfk
    have KU := HI.out.ku
    refine wpIn_wide.2 ?_
    have hk6 : (k : Int) ≤ 6 := by omega
    go_wp2_with (first
      | (refine wpList_get 83 6 rfl rfl KU rfl Tryz.underlying83 rfl (sL83' hap) ?_)
      | (go_at_call 78; refine (placements_any A n c (.slice B' l.length c') (apL K) _ _ hap).mono ?_; rintro e U2 ⟨bL, bM, rfl, hbu, kl, km⟩))
    have hsU2 := hbu.size
    have hit := places_iter bL bM A n c P B' l.length c' (bsL K l) (apL K) (k : Int) U2 kl km hap h5 HP.out Hgood.out hbl
    have HPM : Hid (plc (apL K) P.length (k : Int) (bsL K l) (st0 P) = PM P K l k) := Lib.hid rfl
    rw [HPM.out] at hit
    generalize PM P K l k = G at *
    have HI2 := Lib.hid (HI.out.keepB (hbu.mono (Nat.le_refl _)) HKX.out hwV hUX hsz (by omega))
    have HdU : Hid (∀ D ∈ Ds, U.heap.size < D ∧ D < U2.heap.size ∧ U2.heap[D]? = some (.deferred (some []))) := Lib.hid (fun D hD => ⟨(Hds.out D hD).1, by have := HDw.out D hD; omega, (hbu.block D (HDw.out D hD)).trans (Hds.out D hD).2⟩)
    clear kl km hbu KU HI Hds HDw HPM
    refine (wpIn_wide (n := 9)).1 ?_
    have hU2s : U.heap.size < U2.heap.size := by omega
    have hX2s : X.heap.size ≤ U2.heap.size := by omega
    refine rangeFunc_law (by omega) (gf := 128) (fa := #[]) (lb := #[.pointer (some ⟨bL, 0, none⟩), .pointer (some ⟨bM, 0, none⟩)]) rfl (enters_of Tryz.func128 (by kernel_rfl) rfl) hit (Below.refl _ _) (fun _ => rfl)
      (fun pre X' => FewI w X.heap.size U.heap.size A n c P B m d B' c' K l 53 (.slice none 0 0) X' ∧ pre = [] ∧ (∀ D ∈ Ds, X'.heap[D]? = some (.deferred (some []))))
      (fun cd pre X' => cd = .exit 0 ∧ ∃ x C k' c2, fewP P K l = some x ∧ FewI w X.heap.size U.heap.size A n c P B m d B' c' K l 0 (.slice C k' c2) X' ∧ Is X' C k' x ∧ (k' ≤ c2 ∧ c2 ≤ 9223372036854775807) ∧ (∀ p, C = some p → U2.heap.size + 2 ≤ p.block) ∧ (∀ D ∈ Ds, X'.heap[D]? = some (.deferred (some []))))
      ?_ ?_ ?_ ⟨HI2.out, rfl, fun D hD => (HdU.out D hD).2.2⟩ ?_ ?_ ?_
    · rintro pre X' ⟨h, _⟩
      exact ⟨Hp.out.keep h.bel, h.ks⟩
    · rintro q X1 X2 ⟨h1, h2, h3⟩ hb
      exact ⟨h1.keepB hb HKX.out hwV hUX hU2s hX2s, h2, fun D hD => (hb.block D (HdU.out D hD).2.1).trans (h3 D hD)⟩
    · rintro cd q X1 o ⟨rfl, x, C, k', c2, h1, h2, h3, h4, h5, h6⟩
      have hb : Below (U2.heap.size + 1) X1 (X1.putObj (U2.heap.size + 1) o) := below_putObj X1 (by omega) o
      exact ⟨rfl, x, C, k', c2, h1, h2.keepB hb HKX.out hwV hUX (by omega) (by omega), h3.off (by simp [World.putObj]) fun p hp _ => World.putObj_heap_other (by have := h5 p hp; omega), h4, h5, fun D hD => (hb.block D (by have := (HdU.out D hD).2.1; omega)).trans (h6 D hD)⟩
    · rintro l2 pre x X1 ⟨t, ht⟩ ⟨C, k', c2, hx, hkc, his, hfar⟩ ⟨hI, hpe, hds⟩ hsz2
      subst hpe
      obtain ⟨xl, xv⟩ := x
      simp only at hx his
      subst hx
      have Hx : Hid (fewP P K l = some xl) := Lib.hid (by rw [Hfk1.out, ht]; rfl)
      have His := Lib.hid his; have Hfar := Lib.hid hfar; have HI := Lib.hid hI; have Hds := Lib.hid hds
      clear ht his hfar hI hds
      simp only [encL]
      gi_wp2
      refine ⟨Above.refl _ _, ?_⟩
      intro Y hY1 hY2
      have KY := HI.out.keepB hY1 HKX.out hwV hUX hU2s hX2s
      have HisY : Hid (Is Y C k' xl) := Lib.hid (His.out.off hY2.size fun p hp hlt => hY2.block _ (Hfar.out p hp) hlt)
      have HdY : Hid (∀ D ∈ Ds, Y.heap[D]? = some (.deferred (some []))) := Lib.hid (fun D hD => (hY1.block D (HdU.out D hD).2.1).trans (Hds.out D hD))
      have hsY := hY1.size
      clear hY1 hY2 HI
      have ke := KY.ke; have kf := KY.kf
      have HKY := Lib.hid KY
      clear KY
      have kel := ke.lt; have kec := ke.get; have kef := ke.fr; have kfl := kf.lt; have kfc := kf.get; have kff := kf.fr
      gi_wp2
      have p1 := Put.cell Y U.heap.size 0 (.slice C k' c2)
      have k1 : Bx _ U.heap.size 22 [.slice C k' c2] := kf.cell 0 (.slice C k' c2)
      generalize Y.setCell ⟨U.heap.size, 0, none⟩ _ = Y1 at *
      have p2 := Put.cell Y1 (X.heap.size + 1) 0 (.int .i64 0)
      have k2 : Bx _ (X.heap.size + 1) 27 [.int .i64 0] := (ke.put p1 (by omega)).cell 0 (.int .i64 0)
      generalize Y1.setCell ⟨X.heap.size + 1, 0, none⟩ _ = Y2 at *
      have q := HKY.out
      exact ⟨(Above.put p1 (by omega)).trans (Above.put p2 (by omega)), rfl, xl, C, k', c2, Hx.out,
        ⟨upP (upP q.bel p1 (by omega)) p2 (by omega), (q.ky.put p1 (by omega)).put p2 (by omega), (q.ku.put p1 (by omega)).put p2 (by omega), k2, k1.put p2 (by omega),
          (q.ks.keepO HKX.out (fun b hlt => p1.block b (by omega)) (Nat.le_of_eq p1.size.symm)).keepO HKX.out (fun b hlt => p2.block b (by omega)) (Nat.le_of_eq p2.size.symm)⟩,
        (HisY.out.put p1 (fun q hq => by have := Hfar.out q hq; omega)).put p2 (fun q hq => by have := Hfar.out q hq; omega), hkc, Hfar.out, fun D hD => by
          have e1 := HdU.out D hD
          rw [p2.block D (by omega), p1.block D (by omega)]; exact HdY.out D hD⟩
    · rintro xs X1 hS ⟨hI, hxe, hds⟩ hdef
      subst hxe
      have hG : G = [] := hS.symm
      subst hG
      have Hdef := Lib.hid hdef
      have hdl := (Array.getElem?_eq_some_iff.1 hdef).1
      have HI := Lib.hid hI; have Hds := Lib.hid hds
      clear hS hdef hI hds
      gi_wp2
      go_wp2
      refine ⟨⟨k + 1, U2.heap.size :: Ds, _, _, _, _, _, _, _, rfl, by omega, HI.out, Hfk1.out, by omega, List.nodup_cons.2 ⟨fun hm => by have := (HdU.out _ hm).2.1; omega, hnd⟩, ?_⟩, by simp [intOf]; omega⟩
      intro D hD
      rcases List.mem_cons.1 hD with rfl | hD
      · exact ⟨by omega, Hdef.out⟩
      · exact ⟨(HdU.out D hD).1, Hds.out D hD⟩
    · rintro cd pre X1 ⟨t, ht⟩ ⟨rfl, x, C, k', c2, h1, h2, h3, h4, h5, h6⟩ hdef
      have Hdef := Lib.hid hdef
      have hdl := (Array.getElem?_eq_some_iff.1 hdef).1
      have H1 := Lib.hid h1; have H2 := Lib.hid h2; have H3 := Lib.hid h3; have H5 := Lib.hid h5; have H6 := Lib.hid h6
      have ke := h2.ke; have kf := h2.kf
      clear ht hdef h1 h2 h3 h5 h6
      have kel := ke.lt; have kec := ke.get; have kef := ke.fr; have kfl := kf.lt; have kfc := kf.get; have kff := kf.fr
      gi_wp2
      go_upto_region 13 with fail
      refine wp_region_grow (by kernel_rfl) (by kernel_rfl) ?_
      repeat (go_big_quiet_step ((fail)))
      refine wpQuiet_nil ?_
      intro z
      have hb := grow_below X1 z
      generalize grow X1 z = Y at *
      have HB := Lib.hid (H2.out.bel.trans (hb.mono H2.out.bel.size))
      have HdY : Hid (∀ D ∈ U2.heap.size :: Ds, U.heap.size < D ∧ Y.heap[D]? = some (.deferred (some []))) := Lib.hid (fun D hD => by
        rcases List.mem_cons.1 hD with rfl | hD
        · exact ⟨by omega, (hb.block _ hdl).trans Hdef.out⟩
        · exact ⟨(HdU.out D hD).1, (hb.block D (by have := (Array.getElem?_eq_some_iff.1 (H6.out D hD)).1; exact this)).trans (H6.out D hD)⟩)
      have HisY := Lib.hid (H3.out.keep hb)
      clear hb ke kel kec kef kf kfl kfc kff
      go_wp2
      refine noGoto_ret (bodyPostM_marks (U2.heap.size :: Ds) rfl (List.nodup_cons.2 ⟨fun hm => by have := (HdU.out _ hm).2.1; omega, hnd⟩) (fun D hD => (HdY.out D hD).2) fun Z hZ => ⟨_, results_tmp2 rfl _ _ _, .slice C k' c2, ret_vi (HE.out.trans (by rw [H1.out]; rfl)), ?_, hZ.below HB.out (fun D hD => by have := (HdY.out D hD).1; omega)⟩)
      rw [HLs.out, H1.out]
      refine ⟨C, k', c2, rfl, h4, HisY.out.off (Nat.le_of_eq hZ.size.symm) (fun p hp _ => hZ.block _ (fun hm => ?_)), fun p hp => by have := H5.out p hp; omega⟩
      have := H5.out p hp
      rcases List.mem_cons.1 hm with e | hD
      · omega
      · have := (HdU.out _ hD).2.1; omega
end Go.Proofs.YtaieidigpilbfaaGreat

namespace Go.Proofs.YtaieidigpilbfaaGreat
open Go Go.RowKit
set_option maxHeartbeats 1000000
set_option maxRecDepth 100000

theorem checkPen_any (A : Option Addr) (n c : Nat) (P : List Int) (v : Value) (x : Int) (w : World) (hp : Is w A n P) :
    Calls Tryz.prog 83 #[.agg #[.slice A n c, v], .int .i64 x] w fun e w' => e = .returned (.int .i64 (err (inB x 0 ((P.length : Int) - 1)) 56)) ∧ Below w.heap.size w w' := by
  have hn := hp.small
  have Hn : Hid (n = P.length) := Lib.hid hp.len
  clear hp
  have e1 : IntKind.i64.wrap ((n : Int) - 1) = (n : Int) - 1 := by rw [IntWalk.i64_in _ (by omega)]
  go_enter Tryz.func83, Tryz.ntmps83
  go_upto_region 1 with fail
  generalize hW : (World.alloc _ _) = W
  have HB : Hid (Below w.heap.size w W) := Lib.hid (by subst hW; go_grown)
  have KY : Bx W (w.heap.size) 25 [.slice A n c, v] := by subst hW; repeat (first | (refine Bx.newAt _ _ _ ?_; first | rfl | (simp only [World.size_alloc]; done) | (simp only [World.size_alloc]; omega)) | refine Bx.old ?_ _)
  clear hW
  have KYl := KY.lt; have KYc := KY.get; have KYf := KY.fr
  go_wp2_with (first
    | (go_at_call 70; refine (within_any _ _ _ _).mono ?_; rintro e w' ⟨rfl, rfl⟩)
    | (go_at_call 76; refine (unless_any _ _ _).mono ?_; rintro e w' ⟨rfl, rfl⟩))
  go_ret
  exact ⟨ret_int (by rw [Hn.out]), HB.out⟩
theorem checkBeast_any (L : Option Addr) (r s : Nat) (l : List Int) (x : Int) (w : World) (hl : Is w L r l) :
    Calls Tryz.prog 87 #[.slice L r s, .int .i64 x] w fun e w' => e = .returned (.int .i64 (err (inB x 0 ((l.length : Int) - 1)) 1)) ∧ w = w' := by
  have hn := hl.small
  have Hn : Hid (r = l.length) := Lib.hid hl.len
  clear hl
  have e1 : IntKind.i64.wrap ((r : Int) - 1) = (r : Int) - 1 := by rw [IntWalk.i64_in _ (by omega)]
  go_enter Tryz.func87, Tryz.ntmps87
  go_wp2_with (first
    | (go_at_call 70; refine (within_any _ _ _ _).mono ?_; rintro e w' ⟨rfl, rfl⟩)
    | (go_at_call 76; refine (unless_any _ _ _).mono ?_; rintro e w' ⟨rfl, rfl⟩))
  go_ret
  exact ⟨ret_int (by rw [Hn.out]), rfl⟩
theorem checkDay_any (x : Int) (w : World) : Calls Tryz.prog 108 #[.int .i64 x] w fun e w' => e = .returned (.int .i64 (err (inB x 0 100000) 6)) ∧ w = w' := by
  go_enter Tryz.func108, Tryz.ntmps108
  go_wp2_with (first
    | (go_at_call 147; refine (validDay_any _ _).mono ?_; rintro e w' ⟨rfl, rfl⟩)
    | (go_at_call 76; refine (unless_any _ _ _).mono ?_; rintro e w' ⟨rfl, rfl⟩))
  go_ret
  exact ⟨rfl, rfl⟩
theorem checkFodder_any (x : Int) (w : World) : Calls Tryz.prog 118 #[.int .i64 x] w fun e w' => e = .returned (.int .i64 (err (inB x 0 1000000000000) 1)) ∧ w = w' := by
  go_enter Tryz.func118, Tryz.ntmps118
  go_wp2_with (first
    | (go_at_call 70; refine (within_any _ _ _ _).mono ?_; rintro e w' ⟨rfl, rfl⟩)
    | (go_at_call 76; refine (unless_any _ _ _).mono ?_; rintro e w' ⟨rfl, rfl⟩))
  go_ret
  exact ⟨rfl, rfl⟩

/-- The first that is not nought. -/
def orE : List Int → Int
  | [] => 0
  | x :: l => if x = 0 then orE l else x
theorem orE_step {l : List Int} {k : Nat} (hk : k < l.length) (h : l[k] = 0) : orE (l.drop k) = orE (l.drop (k + 1)) := by
  rw [List.drop_eq_getElem_cons hk, orE, if_pos h]
theorem orE_hit {l : List Int} {k : Nat} (hk : k < l.length) (h : l[k] ≠ 0) : orE (l.drop k) = l[k] := by
  rw [List.drop_eq_getElem_cons hk, orE, if_neg h]
theorem Or_any (L : Option Addr) (r s : Nat) (l : List Int) (w : World) (hl : Is w L r l) :
    Calls Tryz.prog 82 #[.slice L r s] w fun e w' => e = .returned (.int .i64 (orE l)) ∧ w = w' := by
  have hn := hl.small
  have Hn : Hid (r = l.length) := Lib.hid hl.len
  have Hl := Lib.hid hl
  clear hl
  go_enter Tryz.func82, Tryz.ntmps82
  go_wp2_with fail
  go_loopw [8] (fun i wr => ∃ (k : Nat), k ≤ r ∧ i = .int .i64 k ∧ w = wr ∧ orE (l.drop k) = orE l) (fun i _ => r - (intOf i).toNat)
  case atStart => exact ⟨0, by omega, rfl, rfl, rfl⟩
  case round =>
    obtain ⟨k, hk, rfl, rfl, hor⟩ := hrel
    have Hor := Lib.hid hor
    clear hor
    by_cases hlt : k < r
    · have hkl : k < l.length := by rw [← Hn.out]; exact hlt
      obtain ⟨b, o, rfl, hb, hc⟩ := Hl.out.get k hkl
      by_cases h0 : l[k] = 0
      · have Ho := Lib.hid (orE_step hkl h0)
        rw [h0] at hc
        go_wp2
        refine ⟨⟨k + 1, by omega, by go_num, trivial, by rw [← Ho.out]; exact Hor.out⟩, by simp [intOf]; omega⟩
      · have Ho := Lib.hid (orE_hit hkl h0)
        generalize l[k] = x at *
        have hx : (x != 0) = true := by simpa using h0
        go_wp2
        go_ret
        exact ⟨ret_int (by rw [← Hor.out, Ho.out]), rfl⟩
    · obtain rfl : k = r := by omega
      have Ho : Hid (orE l = 0) := Lib.hid (by rw [← Hor.out, Hn.out, List.drop_length]; rfl)
      go_wp2
      go_ret
      exact ⟨ret_int Ho.out.symm, rfl⟩

theorem Same_any (L : Option Addr) (r s : Nat) (l : List Int) (C : Option Addr) (u v : Nat) (p : List Int) (w : World) (hl : Is w L r l) (hc : Is w C u p) :
    Calls Tryz.prog 29 #[.slice L r s, .slice C u v] w fun e w' => e = .returned (.bool (l == p)) ∧ Below w.heap.size w w' := by
  have hn := hl.small
  have Hn : Hid (r = l.length) := Lib.hid hl.len
  have Hu : Hid (u = p.length) := Lib.hid hc.len
  have Hl := Lib.hid hl; have Hc := Lib.hid hc
  clear hl hc
  by_cases hru : r = u
  rotate_left
  · have hne : ((r : Int) != (u : Int)) = true := by simp; omega
    have Hf : Hid ((l == p) = false) := Lib.hid (by simp; intro e; apply hru; rw [Hn.out, Hu.out, e])
    go_enter Tryz.func29, Tryz.ntmps29
    go_wp2
    go_ret
    exact ⟨ret_bool Hf.out.symm, Below.refl _ _⟩
  · subst hru
    go_enter Tryz.func29, Tryz.ntmps29
    go_wp2_with fail
    go_loopw [13] (fun i wr => ∃ (k : Nat), k ≤ r ∧ i = .int .i64 k ∧ Below w.heap.size w wr ∧ ∀ j (h1 : j < l.length) (h2 : j < p.length), j < k → l[j] = p[j]) (fun i _ => r - (intOf i).toNat)
    case atStart => exact ⟨0, by omega, rfl, Below.refl _ _, by omega⟩
    case round =>
      obtain ⟨k, hk, rfl, hb, hall⟩ := hrel
      have HB := Lib.hid hb
      have Hall := Lib.hid hall
      clear hb hall
      by_cases hlt : k < r
      · have hkl : k < l.length := by rw [← Hn.out]; exact hlt
        have hkp : k < p.length := by rw [← Hu.out]; exact hlt
        obtain ⟨b, o, rfl, hb, hc⟩ := (Hl.out.keep HB.out).get k hkl
        obtain ⟨b2, o2, rfl, hb2, hc2⟩ := (Hc.out.keep HB.out).get k hkp
        by_cases h0 : l[k] = p[k]
        · have H0 := Lib.hid h0
          rw [h0] at hc
          clear h0
          generalize hx : p[k] = x at hc hc2
          have Hx := Lib.hid hx
          clear hx
          go_upto_region 6 with fail
          refine wp_region_grow (by kernel_rfl) (by kernel_rfl) ?_
          repeat (go_big_quiet_step ((fail)))
          refine wpQuiet_nil ?_
          intro z
          have hb3 := grow_below wr z
          generalize grow wr z = Y at *
          replace HB := Lib.hid (up HB.out hb3)
          clear hc hc2 hb hb2 hb3
          go_wp2
          refine ⟨⟨k + 1, by omega, by go_num, HB.out, fun j h1 h2 hj => ?_⟩, by simp [intOf]; omega⟩
          by_cases e : j = k
          · subst e; exact H0.out
          · exact Hall.out j h1 h2 (by omega)
        · have Hf : Hid ((l == p) = false) := Lib.hid (by simp; intro e; apply h0; subst e; rfl)
          generalize l[k] = x at hc h0
          generalize p[k] = y at hc2 h0
          have hne : (x != y) = true := by simpa using h0
          clear h0
          go_upto_region 6 with fail
          refine wp_region_grow (by kernel_rfl) (by kernel_rfl) ?_
          repeat (go_big_quiet_step ((fail)))
          refine wpQuiet_nil ?_
          intro z
          have hb3 := grow_below wr z
          generalize grow wr z = Y at *
          replace HB := Lib.hid (up HB.out hb3)
          clear hc hc2 hb hb2 hb3
          go_wp2
          go_ret
          exact ⟨ret_bool Hf.out.symm, HB.out⟩
      · obtain rfl : k = r := by omega
        have Hf : Hid ((l == p) = true) := Lib.hid (by
          simp
          refine List.ext_getElem (by rw [← Hn.out, ← Hu.out]) fun j h1 h2 => Hall.out j h1 h2 (by rw [Hn.out]; exact h1))
        go_wp2
        go_ret
        exact ⟨ret_bool Hf.out.symm, HB.out⟩
end Go.Proofs.YtaieidigpilbfaaGreat

namespace Go.Proofs.YtaieidigpilbfaaGreat
open Go Go.RowKit
set_option maxHeartbeats 1000000
set_option maxRecDepth 100000

theorem kdD_a {K : List Kd} (hK : ksOk K = true) (x : Int) : 0 ≤ (kdD K x).a ∧ (kdD K x).a ≤ 1023 := by
  cases h : kd? K x with
  | none => rw [(kdD_none h).1]; decide
  | some k =>
    rw [(kdD_some h).1]
    have := kdOk_iff.1 (ksOk_kd hK k (kd_mem h).1)
    omega

theorem rapart_any (A : Option Addr) (n c : Nat) (B : Option Addr) (m d : Nat) (K : List Kd) (x y : Int) (w : World) (hg : Ks w B m K) (hK : ksOk K = true) (hx : 0 ≤ x ∧ x ≤ 9) (hy : 0 ≤ y ∧ y ≤ 9) :
    Calls Tryz.prog 69 #[.agg #[.slice A n c, .slice B m d], .int .i64 x, .int .i64 y] w fun e w' => e = .returned (.bool (aptB K x y)) ∧ Below w.heap.size w w' := by
  have Hg := Lib.hid hg
  obtain ⟨x0, x9⟩ := hx
  obtain ⟨y0, y9⟩ := hy
  obtain ⟨a0, a1⟩ := kdD_a hK x
  obtain ⟨b0, b1⟩ := kdD_a hK y
  have h1 := shr_bit (a := (kdD K x).a) (s := y) ⟨a0, a1⟩ ⟨y0, y9⟩
  have h2 := shr_bit (a := (kdD K y).a) (s := x) ⟨b0, b1⟩ ⟨x0, x9⟩
  have HE : Hid (aptB K x y = (hasB (kdD K x).a y || hasB (kdD K y).a x)) := Lib.hid rfl
  have e1 : min y.toNat 64 = y.toNat := by omega
  have e2 : min x.toNat 64 = x.toNat := by omega
  clear hK hg
  cases hb : hasB (kdD K x).a y
  all_goals
    rw [hb] at h1 HE
    clear hb
    generalize hasB (kdD K y).a x = z at *
    go_enter Tryz.func69, Tryz.ntmps69
    go_upto_region 1 with fail
    generalize hW : (World.alloc _ _) = W
    have HB : Hid (Below w.heap.size w W) := Lib.hid (by subst hW; go_grown)
    have KY : Bx W (w.heap.size) 25 [.slice A n c, .slice B m d] := by subst hW; repeat (first | (refine Bx.newAt _ _ _ ?_; first | rfl | (simp only [World.size_alloc]; done) | (simp only [World.size_alloc]; omega)) | refine Bx.old ?_ _)
    clear hW
    have KYl := KY.lt; have KYc := KY.get; have KYf := KY.fr
    go_upto_region 2 with (go_at_call 73; refine (rkind_any _ _ _ _ _ _ K _ _ (Hg.out.keep HB.out)).mono ?_; rintro e X ⟨rfl, hbx⟩; clear KYl KYc KYf; replace KY := KY.keep hbx; have KYl := KY.lt; have KYc := KY.get; have KYf := KY.fr; replace HB := Lib.hid (up HB.out hbx); clear hbx)
    generalize hV : World.alloc X _ = V
    have KA : Bx V X.heap.size 72 [.int .i64 (kdD K x).s, .int .i64 (kdD K x).r, .int .i64 (kdD K x).e, .int .i64 (kdD K x).a] := by subst hV; exact Bx.new _ _ _
    have hbv : Below X.heap.size X V := by subst hV; exact up_alloc _ _
    clear hV
    clear KYl KYc KYf; replace KY := KY.keep hbv; have KYl := KY.lt; have KYc := KY.get; have KYf := KY.fr; replace HB := Lib.hid (up HB.out hbv); clear hbv
    have KAl := KA.lt; have KAc := KA.get; have KAf := KA.fr
    go_upto_region 3 with (go_at_call 73; refine (rkind_any _ _ _ _ _ _ K _ _ (Hg.out.keep HB.out)).mono ?_; rintro e Y ⟨rfl, hby⟩; have hl := KA.lt; have hys := hby.size; clear KYl KYc KYf; replace KY := KY.keep hby; have KYl := KY.lt; have KYc := KY.get; have KYf := KY.fr; clear KAl KAc KAf; replace KA := KA.keep hby; have KAl := KA.lt; have KAc := KA.get; have KAf := KA.fr; replace HB := Lib.hid (up HB.out hby); clear hby)
    generalize hV2 : World.alloc Y _ = V2
    have KB : Bx V2 Y.heap.size 72 [.int .i64 (kdD K y).s, .int .i64 (kdD K y).r, .int .i64 (kdD K y).e, .int .i64 (kdD K y).a] := by subst hV2; exact Bx.new _ _ _
    have hbv : Below Y.heap.size Y V2 := by subst hV2; exact up_alloc _ _
    clear hV2
    clear KYl KYc KYf; replace KY := KY.keep hbv; have KYl := KY.lt; have KYc := KY.get; have KYf := KY.fr; clear KAl KAc KAf; replace KA := KA.keep hbv; have KAl := KA.lt; have KAc := KA.get; have KAf := KA.fr; replace HB := Lib.hid (up HB.out hbv); clear hbv
    have KBl := KB.lt; have KBc := KB.get; have KBf := KB.fr
    go_wp2
    go_ret
    exact ⟨by rw [HE.out]; rfl, HB.out⟩
end Go.Proofs.YtaieidigpilbfaaGreat

namespace Go.Proofs.YtaieidigpilbfaaGreat
open Go Go.RowKit
set_option maxHeartbeats 1000000
set_option maxRecDepth 100000

theorem is2 (X : World) (x y : Int) : Is (X.alloc (.cells #[.int .i64 x, .int .i64 y] 3)) (some ⟨X.heap.size, 0, none⟩) 2 [x, y] :=
  ⟨rfl, by omega, fun k hk => ⟨X.heap.size, 0, rfl, by simp, by
    rw [cell_of_row _ _ _ _ _ _ (heap_alloc_new _ _)]
    rcases (by simp at hk; omega : k = 0 ∨ k = 1) with rfl | rfl <;> rfl⟩⟩
theorem sort_in {K : List Kd} {x : Int} (hK : ksOk K = true) (h : kdI K x = true) : 1 ≤ x ∧ x ≤ 9 := by
  cases hk : kd? K x with
  | none => rw [(kdD_none hk).2] at h; cases h
  | some q =>
    have h1 := kd_mem hk
    have := kdOk_iff.1 (ksOk_kd hK q h1.1)
    have h2 := h1.2
    omega
theorem lOk2 {K : List Kd} {x y : Int} (h : lOk K [x, y] = true) : kdI K x = true ∧ kdI K y = true := by
  unfold lOk at h; simpa using h
def apP (P : List Int) (K : List Kd) (x y : Int) : Bool := sE P K [x, y] == 0 && hasB ((apL K).getD x.toNat 0) y
def apR (P : List Int) (K : List Kd) (x y : Int) : Bool := sE P K [x, y] == 0 && aptB K x y

theorem ret_bi {a b : Bool} {c d : Int} (h : b = a) (h2 : d = c) : Ending.returned (.tuple #[.bool a, .int .i64 c]) = .returned (.tuple #[.bool b, .int .i64 d]) := by rw [h, h2]

section
variable (A : Option Addr) (n c : Nat) (P : List Int) (B : Option Addr) (m d : Nat) (K : List Kd) (x y : Int) (w : World) (hp : Is w A n P) (hg : Ks w B m K)
include hp hg
theorem Apart_any : Calls Tryz.prog 16 #[.agg #[.slice A n c, .slice B m d], .int .i64 x, .int .i64 y] w fun e w' => e = .returned (.tuple #[.bool (apP P K x y), .int .i64 (sE P K [x, y])]) ∧ Below w.heap.size w w' := by
  have Hp := Lib.hid hp; have Hg := Lib.hid hg
  clear hp hg
  cases hy : yOk P K
  · have HE : Hid (sE P K [x, y] = 50) := Lib.hid (sE_y hy)
    have HY : Hid (yE P K = 50) := Lib.hid (yE_f hy)
    have HA : Hid (apP P K x y = false) := Lib.hid (by unfold apP; rw [HE.out]; rfl)
    clear hy
    go_enter Tryz.func16, Tryz.ntmps16
    go_upto_region 1 with fail
    generalize hW : (World.alloc _ _) = W
    have HB : Hid (Below w.heap.size w W) := Lib.hid (by subst hW; go_grown)
    have KY : Bx W (w.heap.size) 25 [.slice A n c, .slice B m d] := by subst hW; repeat (first | (refine Bx.newAt _ _ _ ?_; first | rfl | (simp only [World.size_alloc]; done) | (simp only [World.size_alloc]; omega)) | refine Bx.old ?_ _)
    clear hW
    have KYl := KY.lt; have KYc := KY.get; have KYf := KY.fr
    go_wp2_with (go_at_call 18; refine (checkYard_any _ _ _ P _ _ _ K _ (Hp.out.keep HB.out) (Hg.out.keep HB.out)).mono ?_; rintro e X ⟨rfl, hbx⟩; rw [HY.out]; clear KYl KYc KYf; replace KY := KY.keep hbx; have KYl := KY.lt; have KYc := KY.get; have KYf := KY.fr; replace HB := Lib.hid (up HB.out hbx); clear hbx)
    go_ret2
    exact ⟨ret_bi HA.out HE.out, HB.out⟩
  · have HY : Hid (yE P K = 0) := Lib.hid (yE_t hy)
    have hK := (yOk_k hy).2.2
    have HE : Hid (sE P K [x, y] = err (lOk K [x, y]) 51) := Lib.hid (sE_l hy (by simp))
    cases hl : lOk K [x, y]
    · have Hl := Lib.hid hl
      have H51 : Hid (sE P K [x, y] = 51) := Lib.hid (by rw [HE.out, hl]; rfl)
      have HA : Hid (apP P K x y = false) := Lib.hid (by unfold apP; rw [H51.out]; rfl)
      clear hy hl HE hK
      go_enter Tryz.func16, Tryz.ntmps16
      go_upto_region 1 with fail
      generalize hW : (World.alloc _ _) = W
      have HB : Hid (Below w.heap.size w W) := Lib.hid (by subst hW; go_grown)
      have KY : Bx W (w.heap.size) 25 [.slice A n c, .slice B m d] := by subst hW; repeat (first | (refine Bx.newAt _ _ _ ?_; first | rfl | (simp only [World.size_alloc]; done) | (simp only [World.size_alloc]; omega)) | refine Bx.old ?_ _)
      clear hW
      have KYl := KY.lt; have KYc := KY.get; have KYf := KY.fr
      go_wp2_with (first
        | (go_at_call 18; refine (checkYard_any _ _ _ P _ _ _ K _ (Hp.out.keep HB.out) (Hg.out.keep HB.out)).mono ?_; rintro e X ⟨rfl, hbx⟩; rw [HY.out]; clear KYl KYc KYf; replace KY := KY.keep hbx; have KYl := KY.lt; have KYc := KY.get; have KYf := KY.fr; replace HB := Lib.hid (up HB.out hbx); clear hbx; have HL := Lib.hid (is2 X x y); have HG2 := Lib.hid (Hg.out.keep (HB.out.trans ((up_alloc X (.cells #[.int .i64 x, .int .i64 y] 3)).mono HB.out.size))))
        | (go_at_call 66; refine (checkKinds_any _ _ _ _ _ _ K _ _ _ [x, y] _ HG2.out HL.out).mono ?_; rintro e V ⟨rfl, hbv⟩; rw [Hl.out]; have HB2 := Lib.hid (up (up HB.out (up_alloc X (.cells #[.int .i64 x, .int .i64 y] 3))) hbv); clear hbv))
      go_ret2
      exact ⟨ret_bi HA.out H51.out, HB2.out⟩
    · have Hl := Lib.hid hl
      have H0 : Hid (sE P K [x, y] = 0) := Lib.hid (by rw [HE.out, hl]; rfl)
      have hxy := lOk2 hl
      obtain ⟨x1, x9⟩ := sort_in hK hxy.1
      obtain ⟨y1, y9⟩ := sort_in hK hxy.2
      have HK := Lib.hid hK
      have HA : Hid (apP P K x y = hasB ((apL K).getD x.toNat 0) y) := Lib.hid (by unfold apP; rw [H0.out]; rfl)
      clear hy hl HE hK hxy
      obtain ⟨q0, q1, q2, q3, q4, q5, q6, q7, q8, q9, hq⟩ := list10 (apL_len K)
      rw [hq] at HA
      have HQ := Lib.hid hq
      clear hq
      have hx : ∀ w : World, (Instr.index 81 (.agg ⟨ints [q0, q1, q2, q3, q4, q5, q6, q7, q8, q9]⟩) (.int .i64 x)).run Tryz.prog w = .ok (.int .i64 ([q0, q1, q2, q3, q4, q5, q6, q7, q8, q9].getD x.toNat 0)) w := by
        intro w
        rcases (by omega : x = 1 ∨ x = 2 ∨ x = 3 ∨ x = 4 ∨ x = 5 ∨ x = 6 ∨ x = 7 ∨ x = 8 ∨ x = 9) with rfl | rfl | rfl | rfl | rfl | rfl | rfl | rfl | rfl <;> kernel_rfl
      generalize [q0, q1, q2, q3, q4, q5, q6, q7, q8, q9].getD x.toNat 0 = g at *
      go_enter Tryz.func16, Tryz.ntmps16
      go_upto_region 1 with fail
      generalize hW : (World.alloc _ _) = W
      have HB : Hid (Below w.heap.size w W) := Lib.hid (by subst hW; go_grown)
      have KY : Bx W (w.heap.size) 25 [.slice A n c, .slice B m d] := by subst hW; repeat (first | (refine Bx.newAt _ _ _ ?_; first | rfl | (simp only [World.size_alloc]; done) | (simp only [World.size_alloc]; omega)) | refine Bx.old ?_ _)
      clear hW
      have KYl := KY.lt; have KYc := KY.get; have KYf := KY.fr
      go_wp2_with (first
        | (go_at_call 18; refine (checkYard_any _ _ _ P _ _ _ K _ (Hp.out.keep HB.out) (Hg.out.keep HB.out)).mono ?_; rintro e X ⟨rfl, hbx⟩; rw [HY.out]; clear KYl KYc KYf; replace KY := KY.keep hbx; have KYl := KY.lt; have KYc := KY.get; have KYf := KY.fr; replace HB := Lib.hid (up HB.out hbx); clear hbx; have HL := Lib.hid (is2 X x y); have HG2 := Lib.hid (Hg.out.keep (HB.out.trans ((up_alloc X (.cells #[.int .i64 x, .int .i64 y] 3)).mono HB.out.size))))
        | (go_at_call 66; refine (checkKinds_any _ _ _ _ _ _ K _ _ _ [x, y] _ HG2.out HL.out).mono ?_; rintro e V ⟨rfl, hbv⟩; rw [Hl.out]; have HGV := Lib.hid (HG2.out.keep hbv); have hbxv := up (up_alloc X (.cells #[.int .i64 x, .int .i64 y] 3)) hbv; clear KYl KYc KYf; replace KY := KY.keep hbxv; have KYl := KY.lt; have KYc := KY.get; have KYf := KY.fr; replace HB := Lib.hid (up HB.out hbxv); clear hbxv; clear hbv)
        | (go_at_call 67; refine (apartnessOf_any _ _ _ _ _ _ K _ HGV.out HK.out).mono ?_; rintro e V2 ⟨rfl, hbv⟩; rw [HQ.out]; replace HB := Lib.hid (up HB.out hbv); clear hbv KY KYl KYc KYf)
        | (go_at_call 68; refine (has_any _ _ _ (by omega) (by omega)).mono ?_; rintro e V3 ⟨rfl, rfl⟩))
      go_ret2
      exact ⟨ret_bi HA.out H0.out, HB.out⟩
theorem rApart_any : Calls Tryz.prog 17 #[.agg #[.slice A n c, .slice B m d], .int .i64 x, .int .i64 y] w fun e w' => e = .returned (.tuple #[.bool (apR P K x y), .int .i64 (sE P K [x, y])]) ∧ Below w.heap.size w w' := by
  have Hp := Lib.hid hp; have Hg := Lib.hid hg
  clear hp hg
  by_cases h0 : sE P K [x, y] = 0
  · have H0 := Lib.hid h0
    obtain ⟨hy, -, hl⟩ := sE_0 h0
    have hK := (yOk_k hy).2.2
    have hxy := lOk2 hl
    obtain ⟨x1, x9⟩ := sort_in hK hxy.1
    obtain ⟨y1, y9⟩ := sort_in hK hxy.2
    have HK := Lib.hid hK
    have HA : Hid (apR P K x y = aptB K x y) := Lib.hid (by unfold apR; rw [h0]; rfl)
    clear hy hl hK hxy h0
    go_enter Tryz.func17, Tryz.ntmps17
    go_upto_region 1 with fail
    generalize hW : (World.alloc _ _) = W
    have HB : Hid (Below w.heap.size w W) := Lib.hid (by subst hW; go_grown)
    have KY : Bx W (w.heap.size) 25 [.slice A n c, .slice B m d] := by subst hW; repeat (first | (refine Bx.newAt _ _ _ ?_; first | rfl | (simp only [World.size_alloc]; done) | (simp only [World.size_alloc]; omega)) | refine Bx.old ?_ _)
    clear hW
    have KYl := KY.lt; have KYc := KY.get; have KYf := KY.fr
    have HL := Lib.hid (is2 W x y)
    have HGW := Lib.hid (Hg.out.keep (HB.out.trans ((up_alloc W (.cells #[.int .i64 x, .int .i64 y] 3)).mono HB.out.size)))
    have HPW := Lib.hid (Hp.out.keep (HB.out.trans ((up_alloc W (.cells #[.int .i64 x, .int .i64 y] 3)).mono HB.out.size)))
    go_wp2_with (first
      | (go_at_call 21; refine (rcheckSorts_any _ _ _ P _ _ _ K _ _ _ [x, y] _ HPW.out HGW.out HL.out).mono ?_; rintro e V ⟨rfl, hbv⟩; rw [H0.out]; have HGV := Lib.hid (HGW.out.keep hbv); have hbxv := up (up_alloc W (.cells #[.int .i64 x, .int .i64 y] 3)) hbv; clear KYl KYc KYf; replace KY := KY.keep hbxv; have KYl := KY.lt; have KYc := KY.get; have KYf := KY.fr; replace HB := Lib.hid (up HB.out hbxv); clear hbxv; clear hbv)
      | (go_at_call 69; refine (rapart_any _ _ _ _ _ _ K _ _ _ HGV.out HK.out (by omega) (by omega)).mono ?_; rintro e V3 ⟨rfl, hbv⟩; replace HB := Lib.hid (up HB.out hbv); clear hbv))
    go_ret2
    exact ⟨ret_bi HA.out H0.out, HB.out⟩
  · have hne : (sE P K [x, y] != 0) = true := by simpa using h0
    have HA : Hid (apR P K x y = false) := Lib.hid (by unfold apR; rw [Bool.and_eq_false_iff]; left; simpa using h0)
    clear h0
    generalize hE : sE P K [x, y] = E at *
    have HE := Lib.hid hE
    clear hE
    go_enter Tryz.func17, Tryz.ntmps17
    go_upto_region 1 with fail
    generalize hW : (World.alloc _ _) = W
    have HB : Hid (Below w.heap.size w W) := Lib.hid (by subst hW; go_grown)
    have KY : Bx W (w.heap.size) 25 [.slice A n c, .slice B m d] := by subst hW; repeat (first | (refine Bx.newAt _ _ _ ?_; first | rfl | (simp only [World.size_alloc]; done) | (simp only [World.size_alloc]; omega)) | refine Bx.old ?_ _)
    clear hW
    have KYl := KY.lt; have KYc := KY.get; have KYf := KY.fr
    have HL := Lib.hid (is2 W x y)
    have HGW := Lib.hid (Hg.out.keep (HB.out.trans ((up_alloc W (.cells #[.int .i64 x, .int .i64 y] 3)).mono HB.out.size)))
    have HPW := Lib.hid (Hp.out.keep (HB.out.trans ((up_alloc W (.cells #[.int .i64 x, .int .i64 y] 3)).mono HB.out.size)))
    go_wp2_with (go_at_call 21; refine (rcheckSorts_any _ _ _ P _ _ _ K _ _ _ [x, y] _ HPW.out HGW.out HL.out).mono ?_; rintro e V ⟨rfl, hbv⟩; rw [HE.out]; have hbxv := up (up_alloc W (.cells #[.int .i64 x, .int .i64 y] 3)) hbv; clear KYl KYc KYf; replace KY := KY.keep hbxv; have KYl := KY.lt; have KYc := KY.get; have KYf := KY.fr; replace HB := Lib.hid (up HB.out hbxv); clear hbxv; clear hbv)
    go_ret2
    exact ⟨ret_bi HA.out rfl, HB.out⟩
end
end Go.Proofs.YtaieidigpilbfaaGreat

namespace Go.Proofs.YtaieidigpilbfaaGreat
open Go Go.RowKit
set_option maxHeartbeats 2000000
set_option maxRecDepth 100000

theorem stand_any (A : Option Addr) (n c : Nat) (P : List Int) (B : Option Addr) (m d : Nat) (bs : List Kd) (ap : List Int) (C : Option Addr) (r s : Nat) (p : List Int) (w : World)
    (hA : Is w A n P) (hB : Ks w B m bs) (hC : Is w C r p) (hap : ap.length = 10) (h5 : P.length ≤ 5) (hP : psOk P = true) (hg : goodB bs) :
    Calls Tryz.prog 88 #[.agg ⟨ldL A n c (.slice B m d) ap⟩, .slice C r s] w fun e w' => e = .returned (.tuple #[.agg ⟨ints ((standS P ap bs p).getD ap0)⟩, .bool (standS P ap bs p).isSome]) ∧ Below w.heap.size w w' := by
  have Hn : Hid (n = P.length) := Lib.hid hA.len
  have Hm : Hid (m = bs.length) := Lib.hid hB.len
  have Hr : Hid (r = p.length) := Lib.hid hC.len
  have hmx := hB.small
  have hrx := hC.small
  have hn5 : n ≤ 5 := by rw [hA.len]; exact h5
  have HA := Lib.hid hA; have HBs := Lib.hid hB; have HC := Lib.hid hC
  have HP := Lib.hid hP; have Hgd := Lib.hid hg
  have hs0 := st0_len P
  clear hA hB hC hP hg
  obtain ⟨a0, a1, a2, a3, a4, a5, a6, a7, a8, a9, rfl⟩ := list10 hap
  go_enter Tryz.func88, Tryz.ntmps88
  go_upto_region 1 with fail
  generalize hW : (World.alloc _ _) = W
  have HB : Hid (Below w.heap.size w W) := Lib.hid (by subst hW; go_grown)
  have KL : Bx W (w.heap.size) 83 (ldL A n c (.slice B m d) [a0, a1, a2, a3, a4, a5, a6, a7, a8, a9]) := by subst hW; repeat (first | (refine Bx.newAt _ _ _ ?_; first | rfl | (simp only [World.size_alloc]; done) | (simp only [World.size_alloc]; omega)) | refine Bx.old ?_ _)
  have KZ : Bx W (w.heap.size + 1) 107 (ints ap0) := by subst hW; repeat (first | (refine Bx.newAt _ _ _ ?_; first | rfl | (simp only [World.size_alloc]; done) | (simp only [World.size_alloc]; omega)) | refine Bx.old ?_ _)
  clear hW
  have KLl := KL.lt; have KLc := KL.get; have KLf := KL.fr; have KZl := KZ.lt; have KZc := KZ.get; have KZf := KZ.fr
  by_cases hrm : r = m
  rotate_left
  · have hne : ((r : Int) != (m : Int)) = true := by simp; omega
    have hS : Hid (standS P [a0, a1, a2, a3, a4, a5, a6, a7, a8, a9] bs p = none) := Lib.hid (standS_len (by rw [← Hr.out, ← Hm.out]; exact hrm))
    go_wp2_with (refine wpList_put 107 4 16 rfl rfl KZ rfl rfl (sI107 (l := ap0) rfl) rfl (ints_one ap0) ?_; intro U KZn hp)
    exact post_2 rfl rfl rfl KZn Tryz.underlying107 rfl (sI107' (l := ap0) rfl) (v := .bool false) rfl ⟨by rw [hS.out]; rfl, upP HB.out hp (by omega)⟩
  have hne : ((r : Int) != (m : Int)) = false := by simp; omega
  have Hpl : Hid (p.length = bs.length) := Lib.hid (by rw [← Hr.out, ← Hm.out]; exact hrm)
  go_wp2_with (first
    | (refine wpList_get 83 2 rfl rfl KL rfl Tryz.underlying83 rfl (sL83' rfl) ?_)
    | (go_at_call 130; refine (empty_any _ _ _ P _ _ _ (HA.out.keep HB.out) h5).mono ?_; rintro e X ⟨rfl, hbx⟩; clear KLl KLc KLf; replace KL := KL.keep hbx; have KLl := KL.lt; have KLc := KL.get; have KLf := KL.fr; clear KZl KZc KZf; replace KZ := KZ.keep hbx; have KZl := KZ.lt; have KZc := KZ.get; have KZf := KZ.fr; replace HB := Lib.hid (up HB.out hbx); clear hbx)
    | (refine wpList_putNew 107 6 18 rfl rfl rfl rfl (sI107 hs0) (sIo hs0) (ints_one _) ?_; intro U KI hbu hsu; have hz := KZ.lt; clear KLl KLc KLf; replace KL := KL.keep hbu; have KLl := KL.lt; have KLc := KL.get; have KLf := KL.fr; clear KZl KZc KZf; replace KZ := KZ.keep hbu; have KZl := KZ.lt; have KZc := KZ.get; have KZf := KZ.fr; replace HB := Lib.hid (up HB.out hbu); clear hbu))
  clear hne
  have hNz : w.heap.size + 1 < X.heap.size := hz
  clear KLl KLc KLf KZl KZc KZf
  generalize X.heap.size = N at *
  have hUN := KI.lt
  clear hsu
  go_loopw [7, 21] (fun ok i wr => ∃ (k : Nat) (st : List Int), k ≤ r ∧ ok = .bool true ∧ i = .int .i64 k ∧ Below w.heap.size w wr ∧ Bx wr w.heap.size 83 (ldL A n c (.slice B m d) [a0, a1, a2, a3, a4, a5, a6, a7, a8, a9]) ∧ Bx wr (w.heap.size + 1) 107 (ints ap0) ∧ Bx wr N 107 (ints st) ∧ standK P [a0, a1, a2, a3, a4, a5, a6, a7, a8, a9] bs p k = some st) (fun _ i _ => r - (intOf i).toNat)
  case atStart => exact ⟨0, _, by omega, rfl, rfl, HB.out, KL, KZ, KI, rfl⟩
  case round =>
    clear KL KZ KI hUN
    obtain ⟨k, st, hk, rfl, rfl, hb, KL, KZ, KI, hst⟩ := hrel
    have HAr := Lib.hid (HA.out.keep hb)
    have HBr := Lib.hid (HBs.out.keep hb)
    have HCr := Lib.hid (HC.out.keep hb)
    replace HB := Lib.hid hb
    have Hst := Lib.hid hst
    clear hb hst
    have KLl := KL.lt; have KLc := KL.get; have KLf := KL.fr; have KZl := KZ.lt; have KZc := KZ.get; have KZf := KZ.fr; have KIl := KI.lt; have KIc := KI.get; have KIf := KI.fr
    by_cases hlt : k < r
    · have hkp : k < p.length := by rw [← Hr.out]; exact hlt
      have hkb : k < bs.length := by rw [← Hpl.out]; exact hkp
      obtain ⟨l1, l2⟩ := standK_ok HP.out Hgd.out k st (by omega) Hst.out
      have Hnx : Hid (standK P [a0, a1, a2, a3, a4, a5, a6, a7, a8, a9] bs p (k + 1) = if inB p[k] 0 ((P.length : Int) - 1) = true then putS [a0, a1, a2, a3, a4, a5, a6, a7, a8, a9] st bs[k] p[k].toNat else none) := Lib.hid (by
        rw [standK_some Hst.out]; simp [hkp, hkb])
      have hno : standK P [a0, a1, a2, a3, a4, a5, a6, a7, a8, a9] bs p (k + 1) = none → standS P [a0, a1, a2, a3, a4, a5, a6, a7, a8, a9] bs p = none := standS_none hkp
      have Hno := Lib.hid hno; clear hno
      obtain ⟨⟨s1, s9⟩, r1, r9⟩ := Hgd.out bs[k] (List.getElem_mem hkb)
      obtain ⟨b, o, rfl, hb, hc⟩ := HCr.out.get k hkp
      obtain ⟨b2, o2, rfl, hb2, hcs⟩ := HBr.out.get k hkb
      obtain ⟨c0, c1, c2, c3⟩ := hcs
      generalize bs[k] = y at *
      generalize p[k] = q at *
      have hPl : ((P.length : Int) - 1) = (n : Int) - 1 := by rw [Hn.out]
      rw [hPl] at Hnx
      clear hPl
      cases hq : inB q 0 ((n : Int) - 1)
      · have Hq := Lib.hid hq; clear hq
        go_wp2_with (first
          | (go_at_call 70; refine (within_any _ _ _ _).mono ?_; rintro e w' ⟨rfl, rfl⟩; rw [Hq.out])
          | (refine wpList_put 107 4 33 rfl rfl KZ rfl rfl (sI107 (l := ap0) rfl) rfl (ints_one ap0) ?_; intro U KZn hp))
        exact post_2 rfl rfl rfl KZn Tryz.underlying107 rfl (sI107' (l := ap0) rfl) (v := .bool false) rfl ⟨by rw [Hno.out (by rw [Hnx.out, Hq.out]; rfl)]; rfl, upP HB.out hp (by omega)⟩
      have Hq := Lib.hid hq
      rw [inB_iff] at hq
      obtain ⟨q, rfl⟩ := Int.eq_ofNat_of_zero_le hq.1
      have hq5 : q < 5 := by omega
      have hsm := l2 q hq5
      have hq0 := hq
      clear hq l2
      have hw0 := KL.lt; have hw1 := KZ.lt; have hw2 := KI.lt
      obtain ⟨t0, t1, t2, t3, t4, t5, t6, t7, t8, t9, rfl⟩ := list10 l1
      replace KL : Bx _ w.heap.size 83 [.slice A n c, .slice (some ⟨b2, o2, none⟩) m d, .int .i64 a0, .int .i64 a1, .int .i64 a2, .int .i64 a3, .int .i64 a4, .int .i64 a5, .int .i64 a6, .int .i64 a7, .int .i64 a8, .int .i64 a9] := KL
      replace KI : Bx _ N 107 [.int .i64 t0, .int .i64 t1, .int .i64 t2, .int .i64 t3, .int .i64 t4, .int .i64 t5, .int .i64 t6, .int .i64 t7, .int .i64 t8, .int .i64 t9] := KI
      clear KLl KLc KLf KIl KIc KIf KZl KZc KZf
      have KLl := KL.lt; have KLc := KL.get; have KLf := KL.fr; have KIl := KI.lt; have KIc := KI.get; have KIf := KI.fr
      cases hf : fullS [a0, a1, a2, a3, a4, a5, a6, a7, a8, a9] [t0, t1, t2, t3, t4, t5, t6, t7, t8, t9] y q
      · have Hf := Lib.hid hf; clear hf
        go_upto_region 9 with (go_at_call 70; refine (within_any _ _ _ _).mono ?_; rintro e w' ⟨rfl, rfl⟩; rw [Hq.out])
        refine wp_region_late 12 11 12 (by kernel_rfl) rfl rfl (by decide) rfl rfl (by kernel_rfl) (by kernel_rfl) (by kernel_rfl) (by kernel_rfl) ?_
        simp only [List.set_cons_succ, List.set_cons_zero, late, List.take_succ_cons, List.take_zero, List.drop_succ_cons, List.drop_zero]
        repeat (go_big_quiet_step (((go_at_call 85; exact quiet_grow rfl (put_ok A n c (some ⟨b2, o2, none⟩) m d [a0, a1, a2, a3, a4, a5, a6, a7, a8, a9] [t0, t1, t2, t3, t4, t5, t6, t7, t8, t9] y q _ rfl rfl hq5 ⟨s1, s9⟩ ⟨by omega, r9⟩ (by omega) Hf.out)))))
        refine wpQuiet_nil ?_
        intro z
        have hb := grow_below wr z
        generalize grow wr z = V at *
        replace KZ := KZ.keep hb
        clear KLl KLc KLf; replace KL := KL.keep hb; have KLl := KL.lt; have KLc := KL.get; have KLf := KL.fr; clear KIl KIc KIf; replace KI := KI.keep hb; have KIl := KI.lt; have KIc := KI.get; have KIf := KI.fr; replace HB := Lib.hid (up HB.out hb); clear hb
        have hl : (addS [t0, t1, t2, t3, t4, t5, t6, t7, t8, t9] y q).length = 10 := by rw [addS_len]; rfl
        go_wp2_with (refine wpList_put 107 6 44 rfl rfl KI rfl rfl (sI107 hl) (sIo hl) (ints_one _) ?_; intro U KIn hp)
        refine ⟨rfl, ?_⟩
        have hBU := Lib.hid (upP HB.out hp (by omega))
        replace KL := KL.put hp (by omega); replace KZ := KZ.put hp (by omega)
        clear KLl KLc KLf KIl KIc KIf KI hp HB
        go_wp2
        refine ⟨⟨k + 1, _, by omega, rfl, by go_num, hBU.out, KL, KZ, KIn, ?_⟩, by simp [intOf]; omega⟩
        rw [Hnx.out, Hq.out, if_pos rfl]
        unfold putS
        rw [Int.toNat_natCast, Hf.out]; rfl
      · have Hf := Lib.hid hf; clear hf
        go_upto_region 9 with (go_at_call 70; refine (within_any _ _ _ _).mono ?_; rintro e w' ⟨rfl, rfl⟩; rw [Hq.out])
        refine wp_region_late 12 11 12 (by kernel_rfl) rfl rfl (by decide) rfl rfl (by kernel_rfl) (by kernel_rfl) (by kernel_rfl) (by kernel_rfl) ?_
        simp only [List.set_cons_succ, List.set_cons_zero, late, List.take_succ_cons, List.take_zero, List.drop_succ_cons, List.drop_zero]
        repeat (go_big_quiet_step (((go_at_call 85; exact quiet_grow rfl (put_no A n c (some ⟨b2, o2, none⟩) m d [a0, a1, a2, a3, a4, a5, a6, a7, a8, a9] [t0, t1, t2, t3, t4, t5, t6, t7, t8, t9] y q _ rfl rfl hq5 ⟨s1, s9⟩ Hf.out)))))
        refine wpQuiet_nil ?_
        intro z
        have hb := grow_below wr z
        generalize grow wr z = V at *
        replace KZ := KZ.keep hb
        clear KLl KLc KLf; replace KL := KL.keep hb; have KLl := KL.lt; have KLc := KL.get; have KLf := KL.fr; clear KIl KIc KIf; replace KI := KI.keep hb; have KIl := KI.lt; have KIc := KI.get; have KIf := KI.fr; replace HB := Lib.hid (up HB.out hb); clear hb
        have hl : (ap0).length = 10 := by rfl
        go_wp2_with (refine wpList_put 107 6 44 rfl rfl KI rfl rfl (sI107 hl) (sIo hl) (ints_one _) ?_; intro U KIn hp)
        refine ⟨rfl, ?_⟩
        have hBU := Lib.hid (upP HB.out hp (by omega))
        replace KL := KL.put hp (by omega); replace KZ := KZ.put hp (by omega)
        clear KLl KLc KLf KIl KIc KIf KI hp HB
        go_wp2_with (refine wpList_put 107 4 48 rfl rfl KZ rfl rfl (sI107 (l := ap0) rfl) rfl (ints_one ap0) ?_; intro U2 KZn hp)
        exact post_2 rfl rfl rfl KZn Tryz.underlying107 rfl (sI107' (l := ap0) rfl) (v := .bool false) rfl ⟨by rw [Hno.out (by rw [Hnx.out, Hq.out, if_pos rfl]; unfold putS; rw [Int.toNat_natCast, Hf.out]; rfl)]; rfl, upP hBU.out hp (by omega)⟩
    · obtain rfl : k = r := by omega
      have Hss : Hid (standS P [a0, a1, a2, a3, a4, a5, a6, a7, a8, a9] bs p = some st) := Lib.hid (by rw [standS_eq Hpl.out, ← Hr.out]; exact Hst.out)
      obtain ⟨l1, _⟩ := standK_ok HP.out Hgd.out k st (by rw [← Hm.out]; omega) Hst.out
      go_wp2_with (first
        | (refine wpList_get 107 6 rfl rfl KI rfl Tryz.underlying107 rfl (sI107' l1) ?_)
        | (refine wpList_put 107 4 50 rfl rfl KZ rfl rfl (sI107 l1) (sIo l1) (ints_one _) ?_; intro U KZn hp))
      exact post_2 rfl rfl rfl KZn Tryz.underlying107 rfl (sI107' l1) (v := .bool true) rfl ⟨by rw [Hss.out]; rfl, upP HB.out hp (by omega)⟩
end Go.Proofs.YtaieidigpilbfaaGreat

namespace Go.Proofs.YtaieidigpilbfaaGreat
open Go Go.RowKit
set_option maxHeartbeats 400000
set_option maxRecDepth 100000
section
variable {P : Program} {ops : Array Oper} {md : Region.Mode} {Q : Exit → Act → World → Prop} {fuel : Nat} {listed : Array Bool} {a : Act} {w : World}
theorem wpAny_1 {i : Nat} {o : Oper} (hr : Region.ready md ops listed = [i]) (ho : ops[i]? = some o) (hg : o.guard = none) (h : o.wp P a w (wpAny P md ops Q fuel (listed.setIfInBounds i true)) Q) : wpAny P md ops Q (fuel + 1) listed a w := by
  refine ⟨fun h0 => absurd (hr.symm.trans h0) (by simp), fun k hk => ?_⟩
  rw [hr] at hk
  obtain rfl : k = i := by simpa using hk
  unfold wpOp
  simp only [ho, Region.wanted, hg, if_true]
  exact .inl h
theorem wpAny_2 {i j : Nat} {o p : Oper} (hr : Region.ready md ops listed = [i, j]) (ho : ops[i]? = some o) (hg : o.guard = none) (hp : ops[j]? = some p) (hg2 : p.guard = none)
    (h : o.wp P a w (wpAny P md ops Q fuel (listed.setIfInBounds i true)) Q) (h2 : p.wp P a w (wpAny P md ops Q fuel (listed.setIfInBounds j true)) Q) : wpAny P md ops Q (fuel + 1) listed a w := by
  refine ⟨fun h0 => absurd (hr.symm.trans h0) (by simp), fun k hk => ?_⟩
  rw [hr] at hk
  unfold wpOp
  rcases (by simpa using hk : k = i ∨ k = j) with rfl | rfl
  · simp only [ho, Region.wanted, hg, if_true]
    exact .inl h
  · simp only [hp, Region.wanted, hg2, if_true]
    exact .inl h2
theorem wpAny_0 (hr : Region.ready md ops listed = []) (h : Q .normal a w) : wpAny P md ops Q 0 listed a w := ⟨hr, h⟩
variable {o : Oper} {K : Act → World → Prop} {b : Nat} {t : TypeId}
theorem op_put (ty : TypeId) (p s : Tmp) (ho : o.op = .store ty (.tmp p) (.tmp s)) {old : List Value} {cs : Array Value} (B : Bx w b t old) (hx : a.eval (.tmp p) = .pointer (some ⟨b, 0, none⟩))
    (hy : a.eval (.tmp s) = .agg cs) (hi : (P.info? ty).map (·.size) = some cs.size) (hold : old.length = cs.size) (h1 : cs.all (·.oneCell') = true)
    (h : ∀ U, Bx U b t cs.toList → Put w b U → K (a.put o.dst undef) U) : o.wp P a w K Q :=
  wp_store_row ty _ _ ho b cs hx hy t _ B.h hi (by simpa using hold) h1 (h _ (B.row cs) (Put.row w b cs))
theorem op_get (ty : TypeId) (p : Tmp) (ho : o.op = .load ty (.tmp p)) {cs : List Value} (B : Bx w b t cs) (hx : a.eval (.tmp p) = .pointer (some ⟨b, 0, none⟩)) {d : TypeDesc}
    (hu : P.underlying ty = some d) (hd : (match d with | .struct _ | .array _ _ => true | _ => false) = true) (hi : (P.info? ty).map (·.size) = some cs.length)
    (h : K (a.put o.dst (.agg ⟨cs⟩)) w) : o.wp P a w K Q :=
  wp_load_row ty _ ho b hx t _ _ d B.h hu hd (by simpa using hi) h
theorem op_assign (v : Value) (ho : o.op = .assign (.const v)) (h : K (a.put o.dst v) w) : o.wp P a w K Q := by
  unfold Oper.wp
  simp [execOp, ho, Act.eval, go_sem]
  exact h
end
end Go.Proofs.YtaieidigpilbfaaGreat

namespace Go.Proofs.YtaieidigpilbfaaGreat
open Go Go.RowKit
set_option maxHeartbeats 2000000
set_option maxRecDepth 100000

theorem post_3 {P : Program} {fn : Func} {w : World} {b b2 : Nat} {t ty t2 ty2 : TypeId} {cs cs2 : List Value} {d d2 : TypeDesc} {R : Ending → World → Prop} {a : Act} {p p2 q : Tmp} {v : Value}
    (h : fn.results = #[.cell p ty, .cell p2 ty2, .tmp q]) (h0 : a.defers = []) (hp : a.tmps.getD p undef = .pointer (some ⟨b, 0, none⟩)) (hp2 : a.tmps.getD p2 undef = .pointer (some ⟨b2, 0, none⟩)) (K : Bx w b t cs) (K2 : Bx w b2 t2 cs2)
    (hu : P.underlying ty = some d) (hd : (match d with | .struct _ | .array _ _ => true | _ => false) = true) (hi : (P.info? ty).map (·.size) = some cs.length)
    (hu2 : P.underlying ty2 = some d2) (hd2 : (match d2 with | .struct _ | .array _ _ => true | _ => false) = true) (hi2 : (P.info? ty2).map (·.size) = some cs2.length)
    (hq : a.tmps.getD q undef = v) (hR : R (.returned (.tuple #[.agg ⟨cs⟩, .agg ⟨cs2⟩, v])) w) : bodyPost P fn R .ret a w := by
  have hp' : a.tmps[p]?.getD undef = .pointer (some ⟨b, 0, none⟩) := by simpa using hp
  have hp2' : a.tmps[p2]?.getD undef = .pointer (some ⟨b2, 0, none⟩) := by simpa using hp2
  have hq' : a.tmps[q]?.getD undef = v := by simpa using hq
  exact bodyPost_ret (v := .tuple #[.agg ⟨cs⟩, .agg ⟨cs2⟩, v]) (by simp [results, h, hp', hp2', hq', asAddr, cell_res K hu hd hi, cell_res K2 hu2 hd2 hi2]) h0 hR

section
variable (A : Option Addr) (n c : Nat) (P : List Int) (B : Option Addr) (m d : Nat) (K : List Kd) (L : Option Addr) (r s : Nat) (l : List Int) (C : Option Addr) (u v : Nat) (p : List Int) (w : World)
  (hp : Is w A n P) (hg : Ks w B m K) (hl : Is w L r l) (hc : Is w C u p)
include hp hg hl hc
theorem placed_e (h0 : sE P K l ≠ 0) :
    Calls Tryz.prog 79 #[.agg #[.slice A n c, .slice B m d], .slice L r s, .slice C u v] w fun e w' => e = .returned (.tuple #[.agg ⟨ldL none 0 0 (.slice none 0 0) ap0⟩, .agg ⟨ints ap0⟩, .int .i64 (sE P K l)]) ∧ Below w.heap.size w w' := by
  have Hp := Lib.hid hp; have Hg := Lib.hid hg; have Hl := Lib.hid hl
  clear hp hg hl hc
  have hne : (sE P K l != 0) = true := by simpa using h0
  have H0 := Lib.hid h0; clear h0
  go_enter Tryz.func79, Tryz.ntmps79
  go_upto_region 1 with fail
  generalize hW : (World.alloc _ _) = W
  have HB : Hid (Below w.heap.size w W) := Lib.hid (by subst hW; go_grown)
  have KY : Bx W (w.heap.size) 25 [.slice A n c, .slice B m d] := by subst hW; repeat (first | (refine Bx.newAt _ _ _ ?_; first | rfl | (simp only [World.size_alloc]; done) | (simp only [World.size_alloc]; omega)) | refine Bx.old ?_ _)
  have KZ : Bx W (w.heap.size + 1) 83 (ldL none 0 0 (.slice none 0 0) ap0) := by subst hW; repeat (first | (refine Bx.newAt _ _ _ ?_; first | rfl | (simp only [World.size_alloc]; done) | (simp only [World.size_alloc]; omega)) | refine Bx.old ?_ _)
  have KE : Bx W (w.heap.size + 1 + 1) 107 (ints ap0) := by subst hW; repeat (first | (refine Bx.newAt _ _ _ ?_; first | rfl | (simp only [World.size_alloc]; done) | (simp only [World.size_alloc]; omega)) | refine Bx.old ?_ _)
  clear hW
  have KYl := KY.lt; have KYc := KY.get; have KYf := KY.fr; have KZl := KZ.lt; have KZc := KZ.get; have KZf := KZ.fr; have KEl := KE.lt; have KEc := KE.get; have KEf := KE.fr
  go_wp2_with (first
    | (go_at_call 63; refine (loadOf_no _ _ _ P _ _ _ K _ _ _ l _ (Hp.out.keep HB.out) (Hg.out.keep HB.out) (Hl.out.keep HB.out) H0.out).mono ?_; rintro e X ⟨rfl, hbx⟩; clear KYl KYc KYf; replace KY := KY.keep hbx; have KYl := KY.lt; have KYc := KY.get; have KYf := KY.fr; clear KZl KZc KZf; replace KZ := KZ.keep hbx; have KZl := KZ.lt; have KZc := KZ.get; have KZf := KZ.fr; clear KEl KEc KEf; replace KE := KE.keep hbx; have KEl := KE.lt; have KEc := KE.get; have KEf := KE.fr; replace HB := Lib.hid (up HB.out hbx); clear hbx)
    | (refine wpList_putNew 83 9 17 rfl rfl rfl rfl (sL83 rfl) (sLo rfl) ldL_one ?_; intro U KU hbu hsu; clear KYl KYc KYf; replace KY := KY.keep hbu; have KYl := KY.lt; have KYc := KY.get; have KYf := KY.fr; clear KZl KZc KZf; replace KZ := KZ.keep hbu; have KZl := KZ.lt; have KZc := KZ.get; have KZf := KZ.fr; clear KEl KEc KEf; replace KE := KE.keep hbu; have KEl := KE.lt; have KEc := KE.get; have KEf := KE.fr; replace HB := Lib.hid (up HB.out hbu); clear hbu)
    | (refine wpList_put 83 6 21 rfl rfl KZ rfl rfl (sL83 (ap := ap0) rfl) rfl (ldL_one (ap := ap0)) ?_; intro U1 KZ1 hp1; have KE1 := KE.put hp1 (by omega))
    | (refine wpList_put 107 7 22 rfl rfl KE1 rfl rfl (sI107 (l := ap0) rfl) rfl (ints_one ap0) ?_; intro U2 KE2 hp2; have KZ2 := KZ1.put hp2 (by omega)))
  exact post_3 rfl rfl rfl rfl KZ2 KE2 Tryz.underlying83 rfl sz83 Tryz.underlying107 rfl (sI107' (l := ap0) rfl) (v := .int .i64 (sE P K l)) rfl ⟨rfl, upP (upP HB.out hp1 (by omega)) hp2 (by omega)⟩

theorem placed_no (h0 : sE P K l = 0) (hS : standS P (apL K) (bsL K l) p = none) :
    Calls Tryz.prog 79 #[.agg #[.slice A n c, .slice B m d], .slice L r s, .slice C u v] w fun e w' => e = .returned (.tuple #[.agg ⟨ldL none 0 0 (.slice none 0 0) ap0⟩, .agg ⟨ints ap0⟩, .int .i64 52]) ∧ Below w.heap.size w w' := by
  have Hp := Lib.hid hp; have Hg := Lib.hid hg; have Hl := Lib.hid hl; have Hc := Lib.hid hc
  clear hp hg hl hc
  have hap := apL_len K
  obtain ⟨hy, h8, hlo⟩ := sE_0 h0
  obtain ⟨h5, hpo, hko⟩ := yOk_k hy
  have HPo := Lib.hid hpo; have Hgd := Lib.hid (bsL_good hko hlo)
  have H0 := Lib.hid h0; have HS := Lib.hid hS; clear h0 hS hy hlo hpo hko
  go_enter Tryz.func79, Tryz.ntmps79
  go_upto_region 1 with fail
  generalize hW : (World.alloc _ _) = W
  have HB : Hid (Below w.heap.size w W) := Lib.hid (by subst hW; go_grown)
  have KY : Bx W (w.heap.size) 25 [.slice A n c, .slice B m d] := by subst hW; repeat (first | (refine Bx.newAt _ _ _ ?_; first | rfl | (simp only [World.size_alloc]; done) | (simp only [World.size_alloc]; omega)) | refine Bx.old ?_ _)
  have KZ : Bx W (w.heap.size + 1) 83 (ldL none 0 0 (.slice none 0 0) ap0) := by subst hW; repeat (first | (refine Bx.newAt _ _ _ ?_; first | rfl | (simp only [World.size_alloc]; done) | (simp only [World.size_alloc]; omega)) | refine Bx.old ?_ _)
  have KE : Bx W (w.heap.size + 1 + 1) 107 (ints ap0) := by subst hW; repeat (first | (refine Bx.newAt _ _ _ ?_; first | rfl | (simp only [World.size_alloc]; done) | (simp only [World.size_alloc]; omega)) | refine Bx.old ?_ _)
  clear hW
  have KYl := KY.lt; have KYc := KY.get; have KYf := KY.fr; have KZl := KZ.lt; have KZc := KZ.get; have KZf := KZ.fr; have KEl := KE.lt; have KEc := KE.get; have KEf := KE.fr
  go_wp2_with (first
    | (go_at_call 63; refine (loadOf_ok _ _ _ P _ _ _ K _ _ _ l _ (Hp.out.keep HB.out) (Hg.out.keep HB.out) (Hl.out.keep HB.out) H0.out).mono ?_; rintro e X ⟨B', c', rfl, hlc, hks, -, hbx⟩; have Hks := Lib.hid hks; clear hks; clear KYl KYc KYf; replace KY := KY.keep hbx; have KYl := KY.lt; have KYc := KY.get; have KYf := KY.fr; clear KZl KZc KZf; replace KZ := KZ.keep hbx; have KZl := KZ.lt; have KZc := KZ.get; have KZf := KZ.fr; clear KEl KEc KEf; replace KE := KE.keep hbx; have KEl := KE.lt; have KEc := KE.get; have KEf := KE.fr; replace HB := Lib.hid (up HB.out hbx); clear hbx)
    | (refine wpList_putNew 83 9 17 rfl rfl rfl rfl (sL83 hap) (sLo hap) ldL_one ?_; intro U KU hbu hsu; have HksU := Lib.hid (Hks.out.keep hbu); clear KYl KYc KYf; replace KY := KY.keep hbu; have KYl := KY.lt; have KYc := KY.get; have KYf := KY.fr; clear KZl KZc KZf; replace KZ := KZ.keep hbu; have KZl := KZ.lt; have KZc := KZ.get; have KZf := KZ.fr; clear KEl KEc KEf; replace KE := KE.keep hbu; have KEl := KE.lt; have KEc := KE.get; have KEf := KE.fr; replace HB := Lib.hid (up HB.out hbu); clear hbu)
    | (refine wpList_get 83 9 rfl rfl KU rfl Tryz.underlying83 rfl (sL83' hap) ?_)
    | (go_at_call 88; refine (stand_any _ _ _ P _ _ _ (bsL K l) _ _ _ _ p _ (Hp.out.keep HB.out) HksU.out (Hc.out.keep HB.out) hap h5 HPo.out Hgd.out).mono ?_; rintro e X2 ⟨rfl, hbx⟩; clear KYl KYc KYf; replace KY := KY.keep hbx; have KYl := KY.lt; have KYc := KY.get; have KYf := KY.fr; clear KZl KZc KZf; replace KZ := KZ.keep hbx; have KZl := KZ.lt; have KZc := KZ.get; have KZf := KZ.fr; clear KEl KEc KEf; replace KE := KE.keep hbx; have KEl := KE.lt; have KEc := KE.get; have KEf := KE.fr; replace HB := Lib.hid (up HB.out hbx); clear hbx; rw [HS.out]; simp only [Option.getD_none, Option.isSome_none])
    | (refine wpList_putNew 107 11 28 rfl rfl rfl rfl (sI107 (l := ap0) rfl) (sIo (l := ap0) rfl) (ints_one _) ?_; intro U3 KU3 hbu hsu3; clear KYl KYc KYf; replace KY := KY.keep hbu; have KYl := KY.lt; have KYc := KY.get; have KYf := KY.fr; clear KZl KZc KZf; replace KZ := KZ.keep hbu; have KZl := KZ.lt; have KZc := KZ.get; have KZf := KZ.fr; clear KEl KEc KEf; replace KE := KE.keep hbu; have KEl := KE.lt; have KEc := KE.get; have KEf := KE.fr; replace HB := Lib.hid (up HB.out hbu); clear hbu)
    | (refine wpList_put 83 6 32 rfl rfl KZ rfl rfl (sL83 (ap := ap0) rfl) rfl (ldL_one (ap := ap0)) ?_; intro U1 KZ1 hp1; have KE1 := KE.put hp1 (by omega))
    | (refine wpList_put 107 7 33 rfl rfl KE1 rfl rfl (sI107 (l := ap0) rfl) rfl (ints_one ap0) ?_; intro U2 KE2 hp2; have KZ2 := KZ1.put hp2 (by omega)))
  exact post_3 rfl rfl rfl rfl KZ2 KE2 Tryz.underlying83 rfl sz83 Tryz.underlying107 rfl (sI107' (l := ap0) rfl) (v := .int .i64 52) rfl ⟨rfl, upP (upP HB.out hp1 (by omega)) hp2 (by omega)⟩
end
end Go.Proofs.YtaieidigpilbfaaGreat

namespace Go.Proofs.YtaieidigpilbfaaGreat
open Go Go.RowKit
set_option maxHeartbeats 2000000
set_option maxRecDepth 100000
section
variable (A : Option Addr) (n c : Nat) (P : List Int) (B : Option Addr) (m d : Nat) (K : List Kd) (L : Option Addr) (r s : Nat) (l : List Int) (C : Option Addr) (u v : Nat) (p : List Int) (w : World)
  (hp : Is w A n P) (hg : Ks w B m K) (hl : Is w L r l) (hc : Is w C u p)
include hp hg hl hc
theorem placed_ok {st : List Int} (h0 : sE P K l = 0) (hS : standS P (apL K) (bsL K l) p = some st) :
    Calls Tryz.prog 79 #[.agg #[.slice A n c, .slice B m d], .slice L r s, .slice C u v] w fun e w' => ∃ B' c', e = .returned (.tuple #[.agg ⟨ldL A n c (.slice B' l.length c') (apL K)⟩, .agg ⟨ints st⟩, .int .i64 0]) ∧ l.length ≤ c' ∧ Ks w' B' l.length (bsL K l) ∧ Below w.heap.size w w' := by
  have Hp := Lib.hid hp; have Hg := Lib.hid hg; have Hl := Lib.hid hl; have Hc := Lib.hid hc
  clear hp hg hl hc
  have hap := apL_len K
  obtain ⟨hy, h8, hlo⟩ := sE_0 h0
  obtain ⟨h5, hpo, hko⟩ := yOk_k hy
  have hpl : p.length = (bsL K l).length := by
    by_cases e : p.length = (bsL K l).length
    · exact e
    · rw [standS_len e] at hS; cases hS
  have hst : st.length = 10 := by
    rw [standS_eq hpl] at hS
    exact (standK_ok hpo (bsL_good hko hlo) _ _ (by omega) hS).1
  have HPo := Lib.hid hpo; have Hgd := Lib.hid (bsL_good hko hlo)
  have H0 := Lib.hid h0; have HS := Lib.hid hS; clear h0 hS hy hlo hpo hko hpl
  go_enter Tryz.func79, Tryz.ntmps79
  go_upto_region 1 with fail
  generalize hW : (World.alloc _ _) = W
  have HB : Hid (Below w.heap.size w W) := Lib.hid (by subst hW; go_grown)
  have KY : Bx W (w.heap.size) 25 [.slice A n c, .slice B m d] := by subst hW; repeat (first | (refine Bx.newAt _ _ _ ?_; first | rfl | (simp only [World.size_alloc]; done) | (simp only [World.size_alloc]; omega)) | refine Bx.old ?_ _)
  have KZ : Bx W (w.heap.size + 1) 83 (ldL none 0 0 (.slice none 0 0) ap0) := by subst hW; repeat (first | (refine Bx.newAt _ _ _ ?_; first | rfl | (simp only [World.size_alloc]; done) | (simp only [World.size_alloc]; omega)) | refine Bx.old ?_ _)
  have KE : Bx W (w.heap.size + 1 + 1) 107 (ints ap0) := by subst hW; repeat (first | (refine Bx.newAt _ _ _ ?_; first | rfl | (simp only [World.size_alloc]; done) | (simp only [World.size_alloc]; omega)) | refine Bx.old ?_ _)
  clear hW
  have KYl := KY.lt; have KYc := KY.get; have KYf := KY.fr; have KZl := KZ.lt; have KZc := KZ.get; have KZf := KZ.fr; have KEl := KE.lt; have KEc := KE.get; have KEf := KE.fr
  have hWW := KE.lt
  go_upto_region 7 with (first
    | (go_at_call 63; refine (loadOf_ok _ _ _ P _ _ _ K _ _ _ l _ (Hp.out.keep HB.out) (Hg.out.keep HB.out) (Hl.out.keep HB.out) H0.out).mono ?_; rintro e X ⟨B', c', rfl, hlc, hks, hfar, hbx⟩; have Hks := Lib.hid hks; have Hfar := Lib.hid hfar; have hWx := hbx.size; clear hks hfar; clear KYl KYc KYf; replace KY := KY.keep hbx; have KYl := KY.lt; have KYc := KY.get; have KYf := KY.fr; clear KZl KZc KZf; replace KZ := KZ.keep hbx; have KZl := KZ.lt; have KZc := KZ.get; have KZf := KZ.fr; clear KEl KEc KEf; replace KE := KE.keep hbx; have KEl := KE.lt; have KEc := KE.get; have KEf := KE.fr; replace HB := Lib.hid (up HB.out hbx); clear hbx)
    | (refine wpList_putNew 83 9 17 rfl rfl rfl rfl (sL83 hap) (sLo hap) ldL_one ?_; intro U KU hbu hsu; have HksU := Lib.hid (Hks.out.keep hbu); have hKEx := KE.lt; clear KYl KYc KYf; replace KY := KY.keep hbu; have KYl := KY.lt; have KYc := KY.get; have KYf := KY.fr; clear KZl KZc KZf; replace KZ := KZ.keep hbu; have KZl := KZ.lt; have KZc := KZ.get; have KZf := KZ.fr; clear KEl KEc KEf; replace KE := KE.keep hbu; have KEl := KE.lt; have KEc := KE.get; have KEf := KE.fr; replace HB := Lib.hid (up HB.out hbu); clear hbu)
    | (refine wpList_get 83 9 rfl rfl KU rfl Tryz.underlying83 rfl (sL83' hap) ?_)
    | (go_at_call 88; refine (stand_any _ _ _ P _ _ _ (bsL K l) _ _ _ _ p _ (Hp.out.keep HB.out) HksU.out (Hc.out.keep HB.out) hap h5 HPo.out Hgd.out).mono ?_; rintro e X2 ⟨rfl, hbx⟩; have hUx := hbx.size; replace KU := KU.keep hbx; have HksX := Lib.hid (HksU.out.keep hbx); clear KYl KYc KYf; replace KY := KY.keep hbx; have KYl := KY.lt; have KYc := KY.get; have KYf := KY.fr; clear KZl KZc KZf; replace KZ := KZ.keep hbx; have KZl := KZ.lt; have KZc := KZ.get; have KZf := KZ.fr; clear KEl KEc KEf; replace KE := KE.keep hbx; have KEl := KE.lt; have KEc := KE.get; have KEf := KE.fr; replace HB := Lib.hid (up HB.out hbx); clear hbx; rw [HS.out]; simp only [Option.getD_some, Option.isSome_some])
    | (refine wpList_putNew 107 11 28 rfl rfl rfl rfl (sI107 hst) (sIo hst) (ints_one _) ?_; intro U3 KU3 hbu hsu3; have hXu := hbu.size; replace KU := KU.keep hbu; have HksY := Lib.hid (HksX.out.keep hbu); clear KYl KYc KYf; replace KY := KY.keep hbu; have KYl := KY.lt; have KYc := KY.get; have KYf := KY.fr; clear KZl KZc KZf; replace KZ := KZ.keep hbu; have KZl := KZ.lt; have KZc := KZ.get; have KZf := KZ.fr; clear KEl KEc KEf; replace KE := KE.keep hbu; have KEl := KE.lt; have KEc := KE.get; have KEf := KE.fr; replace HB := Lib.hid (up HB.out hbu); clear hbu))
  have hKEy := KE.lt
  clear KYl KYc KYf KZl KZc KZf KEl KEc KEf
  have fin : ∀ U, Bx U (w.heap.size + 1) 83 (ldL A n c (.slice B' l.length c') (apL K)) → Bx U (w.heap.size + 1 + 1) 107 (ints st) → Below w.heap.size w U → Ks U B' l.length (bsL K l) →
      ∀ a : Act, a.tmps.getD 6 undef = .pointer (some ⟨w.heap.size + 1, 0, none⟩) → a.tmps.getD 7 undef = .pointer (some ⟨w.heap.size + 1 + 1, 0, none⟩) → a.tmps.getD 8 undef = .int .i64 0 → a.defers = [] →
      bodyPost Tryz.prog Tryz.f79 (fun e w' => ∃ B' c', e = .returned (.tuple #[.agg ⟨ldL A n c (.slice B' l.length c') (apL K)⟩, .agg ⟨ints st⟩, .int .i64 0]) ∧ l.length ≤ c' ∧ Ks w' B' l.length (bsL K l) ∧ Below w.heap.size w w') .ret a U :=
    fun U k1 k2 k3 k4 a g1 g2 g3 g4 => post_3 rfl g4 g1 g2 k1 k2 Tryz.underlying83 rfl (sL83' hap) Tryz.underlying107 rfl (sI107' hst) g3 ⟨B', c', rfl, hlc, k4, k3⟩
  have Fin := Lib.hid fin; clear fin
  have hN1 : w.heap.size + 1 < X.heap.size := by omega
  have hN2 : w.heap.size + 1 + 1 < X.heap.size := by omega
  have hN3 : w.heap.size + 1 + 1 < X2.heap.size := by omega
  have hNe : X.heap.size ≠ X2.heap.size := by omega
  replace KU := KU.drew; replace KU3 := KU3.drew; replace KZ := KZ.drew; replace KE := KE.drew
  have hdr : Below U3.heap.size U3 U3.drew := by go_grown
  replace HB := Lib.hid (up HB.out hdr)
  replace HksY := Lib.hid (HksY.out.keep hdr)
  clear hdr
  refine wp_region_any (by kernel_rfl) ?_
  show wpAny _ _ _ _ _ _ _ U3.drew
  generalize U3.drew = V at *
  refine wpAny_2 (i := 0) (j := 1) (by kernel_rfl) rfl rfl rfl rfl ?_ ?_
  · refine op_get 83 9 rfl KU rfl Tryz.underlying83 rfl (sL83' hap) ?_
    refine wpAny_2 (i := 1) (j := 2) (by kernel_rfl) rfl rfl rfl rfl ?_ ?_
    · refine op_get 107 11 rfl KU3 rfl Tryz.underlying107 rfl (sI107' hst) ?_
      refine wpAny_1 (i := 2) (by kernel_rfl) rfl rfl ?_
      refine op_put 83 6 34 rfl KZ rfl rfl (sL83 hap) (sLo hap) ldL_one fun U1 KZ1 hp1 => ?_
      refine wpAny_1 (i := 3) (by kernel_rfl) rfl rfl ?_
      refine op_put 107 7 35 rfl (KE.put hp1 (by omega)) rfl rfl (sI107 hst) (sIo hst) (ints_one _) fun U2 KE2 hp2 => ?_
      refine wpAny_1 (i := 4) (by kernel_rfl) rfl rfl ?_
      refine op_assign (.int .i64 0) rfl ?_
      refine wpAny_0 (by kernel_rfl) ?_
      go_wp2
      exact Fin.out U2 (KZ1.put hp2 (by omega)) KE2 (upP (upP HB.out hp1 (by omega)) hp2 (by omega)) ((HksY.out.put hp1 fun q hq => by have := Hfar.out q hq; omega).put hp2 fun q hq => by have := Hfar.out q hq; omega) _ rfl rfl rfl rfl
    · refine op_put 83 6 34 rfl KZ rfl rfl (sL83 hap) (sLo hap) ldL_one fun U1 KZ1 hp1 => ?_
      refine wpAny_1 (i := 1) (by kernel_rfl) rfl rfl ?_
      refine op_get 107 11 rfl (KU3.put hp1 (by omega)) rfl Tryz.underlying107 rfl (sI107' hst) ?_
      refine wpAny_1 (i := 3) (by kernel_rfl) rfl rfl ?_
      refine op_put 107 7 35 rfl (KE.put hp1 (by omega)) rfl rfl (sI107 hst) (sIo hst) (ints_one _) fun U2 KE2 hp2 => ?_
      refine wpAny_1 (i := 4) (by kernel_rfl) rfl rfl ?_
      refine op_assign (.int .i64 0) rfl ?_
      refine wpAny_0 (by kernel_rfl) ?_
      go_wp2
      exact Fin.out U2 (KZ1.put hp2 (by omega)) KE2 (upP (upP HB.out hp1 (by omega)) hp2 (by omega)) ((HksY.out.put hp1 fun q hq => by have := Hfar.out q hq; omega).put hp2 fun q hq => by have := Hfar.out q hq; omega) _ rfl rfl rfl rfl
  · refine op_get 107 11 rfl KU3 rfl Tryz.underlying107 rfl (sI107' hst) ?_
    refine wpAny_1 (i := 0) (by kernel_rfl) rfl rfl ?_
    refine op_get 83 9 rfl KU rfl Tryz.underlying83 rfl (sL83' hap) ?_
    refine wpAny_1 (i := 2) (by kernel_rfl) rfl rfl ?_
    refine op_put 83 6 34 rfl KZ rfl rfl (sL83 hap) (sLo hap) ldL_one fun U1 KZ1 hp1 => ?_
    refine wpAny_1 (i := 3) (by kernel_rfl) rfl rfl ?_
    refine op_put 107 7 35 rfl (KE.put hp1 (by omega)) rfl rfl (sI107 hst) (sIo hst) (ints_one _) fun U2 KE2 hp2 => ?_
    refine wpAny_1 (i := 4) (by kernel_rfl) rfl rfl ?_
    refine op_assign (.int .i64 0) rfl ?_
    refine wpAny_0 (by kernel_rfl) ?_
    go_wp2
    exact Fin.out U2 (KZ1.put hp2 (by omega)) KE2 (upP (upP HB.out hp1 (by omega)) hp2 (by omega)) ((HksY.out.put hp1 fun q hq => by have := Hfar.out q hq; omega).put hp2 fun q hq => by have := Hfar.out q hq; omega) _ rfl rfl rfl rfl
end
end Go.Proofs.YtaieidigpilbfaaGreat

namespace Go.Proofs.YtaieidigpilbfaaGreat
open Go Go.RowKit
set_option maxHeartbeats 2000000
set_option maxRecDepth 100000
section
variable (A : Option Addr) (n c : Nat) (P : List Int) (B : Option Addr) (m d : Nat) (K : List Kd) (L : Option Addr) (r s : Nat) (l : List Int) (C : Option Addr) (u v : Nat) (p : List Int) (w : World)
  (hp : Is w A n P) (hg : Ks w B m K) (hl : Is w L r l) (hc : Is w C u p)
include hp hg hl hc
/-- The error of beasts and a placement. -/
def plE (P : List Int) (K : List Kd) (l p : List Int) : Int := if sE P K l = 0 then (if (standS P (apL K) (bsL K l) p).isSome = true then 0 else 52) else sE P K l


theorem checkPlace_any : Calls Tryz.prog 40 #[.agg #[.slice A n c, .slice B m d], .slice L r s, .slice C u v] w fun e w' => e = .returned (.int .i64 (plE P K l p)) ∧ Below w.heap.size w w' := by
  have Hp := Lib.hid hp; have Hg := Lib.hid hg; have Hl := Lib.hid hl; have Hc := Lib.hid hc
  clear hp hg hl hc
  have hap := apL_len K
  by_cases h0 : sE P K l = 0
  · cases hS : standS P (apL K) (bsL K l) p with
    | none =>
      have HE : Hid (plE P K l p = 52) := Lib.hid (by unfold plE; rw [if_pos h0, hS]; rfl)
      have H0 := Lib.hid h0; have HS := Lib.hid hS; clear h0 hS
      go_enter Tryz.func40, Tryz.ntmps40
      go_upto_region 1 with fail
      generalize hW : (World.alloc _ _) = W
      have HB : Hid (Below w.heap.size w W) := Lib.hid (by subst hW; go_grown)
      have KY : Bx W (w.heap.size) 25 [.slice A n c, .slice B m d] := by subst hW; repeat (first | (refine Bx.newAt _ _ _ ?_; first | rfl | (simp only [World.size_alloc]; done) | (simp only [World.size_alloc]; omega)) | refine Bx.old ?_ _)
      clear hW
      have KYl := KY.lt; have KYc := KY.get; have KYf := KY.fr
      go_wp2_with (first
        | (go_at_call 79; refine (placed_no _ _ _ P _ _ _ K _ _ _ l _ _ _ p _ (Hp.out.keep HB.out) (Hg.out.keep HB.out) (Hl.out.keep HB.out) (Hc.out.keep HB.out) H0.out HS.out).mono ?_; rintro e X ⟨rfl, hbx⟩; clear KYl KYc KYf; replace KY := KY.keep hbx; have KYl := KY.lt; have KYc := KY.get; have KYf := KY.fr; replace HB := Lib.hid (up HB.out hbx); clear hbx)
        | (refine wpList_put 83 7 15 rfl rfl ((Bx.new X (ldL none 0 0 (.slice none 0 0) ap0) 83).old _) rfl rfl (sL83 (ap := ap0) rfl) rfl (ldL_one (ap := ap0)) ?_; intro U1 KZ1 hp1; have K2 := (Bx.newAt (b := X.heap.size + 1) (X.alloc (.cells ⟨ldL none 0 0 (.slice none 0 0) ap0⟩ 83)) (ints ap0) 107 (by simp)).put hp1 (by omega))
        | (refine wpList_put 107 8 16 rfl rfl K2 rfl rfl (sI107 (l := ap0) rfl) rfl (ints_one ap0) ?_; intro U2 KE2 hp2))
      go_ret
      exact ⟨ret_int HE.out.symm, up HB.out (upP (upP (up (up_alloc _ _) (up_alloc _ _)) hp1 (by omega)) hp2 (by omega))⟩
    | some st =>
      have HE : Hid (plE P K l p = 0) := Lib.hid (by unfold plE; rw [if_pos h0, hS]; rfl)
      have hst : st.length = 10 := by
        obtain ⟨hy, h8, hlo⟩ := sE_0 h0
        obtain ⟨h5, hpo, hko⟩ := yOk_k hy
        by_cases e : p.length = (bsL K l).length
        · rw [standS_eq e] at hS; exact (standK_ok hpo (bsL_good hko hlo) _ _ (by omega) hS).1
        · rw [standS_len e] at hS; cases hS
      have H0 := Lib.hid h0; have HS := Lib.hid hS; clear h0 hS
      go_enter Tryz.func40, Tryz.ntmps40
      go_upto_region 1 with fail
      generalize hW : (World.alloc _ _) = W
      have HB : Hid (Below w.heap.size w W) := Lib.hid (by subst hW; go_grown)
      have KY : Bx W (w.heap.size) 25 [.slice A n c, .slice B m d] := by subst hW; repeat (first | (refine Bx.newAt _ _ _ ?_; first | rfl | (simp only [World.size_alloc]; done) | (simp only [World.size_alloc]; omega)) | refine Bx.old ?_ _)
      clear hW
      have KYl := KY.lt; have KYc := KY.get; have KYf := KY.fr
      go_wp2_with (first
        | (go_at_call 79; refine (placed_ok _ _ _ P _ _ _ K _ _ _ l _ _ _ p _ (Hp.out.keep HB.out) (Hg.out.keep HB.out) (Hl.out.keep HB.out) (Hc.out.keep HB.out) H0.out HS.out).mono ?_; rintro e X ⟨B', c', rfl, -, -, hbx⟩; clear KYl KYc KYf; replace KY := KY.keep hbx; have KYl := KY.lt; have KYc := KY.get; have KYf := KY.fr; replace HB := Lib.hid (up HB.out hbx); clear hbx)
        | (refine wpList_put 83 7 15 rfl rfl ((Bx.new X (ldL none 0 0 (.slice none 0 0) ap0) 83).old _) rfl rfl (sL83 hap) (sLo hap) ldL_one ?_; intro U1 KZ1 hp1; have K2 := (Bx.newAt (b := X.heap.size + 1) (X.alloc (.cells ⟨ldL none 0 0 (.slice none 0 0) ap0⟩ 83)) (ints ap0) 107 (by simp)).put hp1 (by omega))
        | (refine wpList_put 107 8 16 rfl rfl K2 rfl rfl (sI107 hst) (sIo hst) (ints_one _) ?_; intro U2 KE2 hp2))
      go_ret
      exact ⟨ret_int HE.out.symm, up HB.out (upP (upP (up (up_alloc _ _) (up_alloc _ _)) hp1 (by omega)) hp2 (by omega))⟩
  · have HE : Hid (plE P K l p = sE P K l) := Lib.hid (by unfold plE; rw [if_neg h0])
    have H0 := Lib.hid h0; clear h0
    go_enter Tryz.func40, Tryz.ntmps40
    go_upto_region 1 with fail
    generalize hW : (World.alloc _ _) = W
    have HB : Hid (Below w.heap.size w W) := Lib.hid (by subst hW; go_grown)
    have KY : Bx W (w.heap.size) 25 [.slice A n c, .slice B m d] := by subst hW; repeat (first | (refine Bx.newAt _ _ _ ?_; first | rfl | (simp only [World.size_alloc]; done) | (simp only [World.size_alloc]; omega)) | refine Bx.old ?_ _)
    clear hW
    have KYl := KY.lt; have KYc := KY.get; have KYf := KY.fr
    go_wp2_with (first
      | (go_at_call 79; refine (placed_e _ _ _ P _ _ _ K _ _ _ l _ _ _ p _ (Hp.out.keep HB.out) (Hg.out.keep HB.out) (Hl.out.keep HB.out) (Hc.out.keep HB.out) H0.out).mono ?_; rintro e X ⟨rfl, hbx⟩; clear KYl KYc KYf; replace KY := KY.keep hbx; have KYl := KY.lt; have KYc := KY.get; have KYf := KY.fr; replace HB := Lib.hid (up HB.out hbx); clear hbx)
      | (refine wpList_put 83 7 15 rfl rfl ((Bx.new X (ldL none 0 0 (.slice none 0 0) ap0) 83).old _) rfl rfl (sL83 (ap := ap0) rfl) rfl (ldL_one (ap := ap0)) ?_; intro U1 KZ1 hp1; have K2 := (Bx.newAt (b := X.heap.size + 1) (X.alloc (.cells ⟨ldL none 0 0 (.slice none 0 0) ap0⟩ 83)) (ints ap0) 107 (by simp)).put hp1 (by omega))
      | (refine wpList_put 107 8 16 rfl rfl K2 rfl rfl (sI107 (l := ap0) rfl) rfl (ints_one ap0) ?_; intro U2 KE2 hp2))
    go_ret
    exact ⟨ret_int HE.out.symm, up HB.out (upP (upP (up (up_alloc _ _) (up_alloc _ _)) hp1 (by omega)) hp2 (by omega))⟩
end
end Go.Proofs.YtaieidigpilbfaaGreat

namespace Go.Proofs.YtaieidigpilbfaaGreat
open Go Go.RowKit
set_option maxHeartbeats 1000000
set_option maxRecDepth 100000

theorem isC (X : World) (t : TypeId) (l : List Int) (h : l.length < 1000) : Is (X.alloc (.cells ⟨ints l⟩ t)) (some ⟨X.heap.size, 0, none⟩) l.length l :=
  ⟨rfl, by omega, fun k hk => ⟨X.heap.size, 0, rfl, by simp, by
    rw [cell_of_row _ _ _ _ _ _ (heap_alloc_new _ _)]
    simp [ints, hk]⟩⟩
theorem OI.lst {w : World} {base : Nat} {v : Value} {l : List Int} (h : OI w base v l) : Lst base w v l := by
  obtain ⟨A, c, h1, h2, h3, h4⟩ := h.is
  subst h1
  exact ⟨A, _, c, rfl, ⟨h2, h.cap⟩, h3, h4⟩
theorem plE_len {P : List Int} {K : List Kd} {l p : List Int} (h : plE P K l p = 0) : p.length = l.length ∧ l.length ≤ 8 := by
  unfold plE at h
  split at h
  · rename_i h0
    obtain ⟨hy, h8, -⟩ := sE_0 h0
    refine ⟨?_, h8⟩
    by_cases e : p.length = (bsL K l).length
    · rw [bsL_len] at e; exact e
    · rw [standS_len e] at h; simp at h
  · exact absurd h (by assumption)
theorem ret_vvi {v1 v2 : Value} {a b : Int} (h : b = a) : Ending.returned (.tuple #[v1, v2, .int .i64 a]) = .returned (.tuple #[v1, v2, .int .i64 b]) := by rw [h]
/-- What taking a beast away says. -/
def takE (P : List Int) (K : List Kd) (l p : List Int) (i : Int) : Int := orE [plE P K l p, err (inB i 0 ((l.length : Int) - 1)) 1]
def takL (P : List Int) (K : List Kd) (l p : List Int) (i : Int) (q : List Int) : List Int := if takE P K l p i = 0 then q.eraseIdx i.toNat else []
theorem takE_0 {P : List Int} {K : List Kd} {l p : List Int} {i : Int} (h : takE P K l p i = 0) : plE P K l p = 0 ∧ inB i 0 ((l.length : Int) - 1) = true := by
  unfold takE orE at h
  split at h
  · rename_i h1
    refine ⟨h1, ?_⟩
    unfold orE at h
    split at h
    · rename_i h2
      unfold err at h2; split at h2
      · assumption
      · omega
    · exact absurd h (by assumption)
  · exact absurd h (by assumption)

theorem Take_any (A : Option Addr) (n c : Nat) (P : List Int) (B : Option Addr) (m d : Nat) (K : List Kd) (L : Option Addr) (r s : Nat) (l : List Int) (C : Option Addr) (u v : Nat) (p : List Int) (i : Int) (w : World)
    (hp : Is w A n P) (hg : Ks w B m K) (hl : Is w L r l) (hc : Is w C u p) (hrs : r ≤ s) (hs : s ≤ 9223372036854775807) (huv : u ≤ v) (hv : v ≤ 9223372036854775807) :
    Calls Tryz.prog 38 #[.agg #[.slice A n c, .slice B m d], .slice L r s, .slice C u v, .int .i64 i] w fun e w' => ∃ v1 v2, e = .returned (.tuple #[v1, v2, .int .i64 (takE P K l p i)]) ∧ Lst w.heap.size w' v1 (takL P K l p i l) ∧ Lst w.heap.size w' v2 (takL P K l p i p) ∧ Below w.heap.size w w' := by
  have Hp := Lib.hid hp; have Hg := Lib.hid hg; have Hl := Lib.hid hl; have Hc := Lib.hid hc
  clear hp hg hl hc
  have HT : Hid (takE P K l p i = orE [plE P K l p, err (inB i 0 ((l.length : Int) - 1)) 1]) := Lib.hid rfl
  by_cases h0 : takE P K l p i = 0
  · obtain ⟨h1, h2⟩ := takE_0 h0
    obtain ⟨hpl, h8⟩ := plE_len h1
    have hb := inB_iff.1 h2
    obtain ⟨j, rfl⟩ := Int.eq_ofNat_of_zero_le hb.1
    have hjl : j < l.length := by omega
    have hjp : j < p.length := by omega
    have hl40 : l.length ≤ 1000 := by omega
    have hp40 : p.length ≤ 1000 := by omega
    have H1 : Hid (takL P K l p j l = l.eraseIdx j) := Lib.hid (by unfold takL; rw [if_pos h0, Int.toNat_natCast])
    have H2 : Hid (takL P K l p j p = p.eraseIdx j) := Lib.hid (by unfold takL; rw [if_pos h0, Int.toNat_natCast])
    have HE := Lib.hid h1
    have HF : Hid (err (inB (j : Int) 0 ((l.length : Int) - 1)) 1 = 0) := Lib.hid (by rw [h2]; rfl)
    have HO : Hid (orE [0, 0] = 0) := Lib.hid rfl
    have H0 := Lib.hid h0
    clear h0 h1 h2 hb HT
    go_enter Tryz.func38, Tryz.ntmps38
    go_upto_region 1 with fail
    generalize hW : (World.alloc _ _) = W
    have HB : Hid (Below w.heap.size w W) := Lib.hid (by subst hW; go_grown)
    have KY : Bx W (w.heap.size) 25 [.slice A n c, .slice B m d] := by subst hW; repeat (first | (refine Bx.newAt _ _ _ ?_; first | rfl | (simp only [World.size_alloc]; done) | (simp only [World.size_alloc]; omega)) | refine Bx.old ?_ _)
    clear hW
    have KYl := KY.lt; have KYc := KY.get; have KYf := KY.fr
    go_wp2_with (first
      | (go_at_call 40; refine (checkPlace_any _ _ _ P _ _ _ K _ _ _ l _ _ _ p _ (Hp.out.keep HB.out) (Hg.out.keep HB.out) (Hl.out.keep HB.out) (Hc.out.keep HB.out)).mono ?_; rintro e X ⟨rfl, hbx⟩; rw [HE.out]; clear KYl KYc KYf; replace KY := KY.keep hbx; have KYl := KY.lt; have KYc := KY.get; have KYf := KY.fr; replace HB := Lib.hid (up HB.out hbx); clear hbx)
      | (go_at_call 87; refine (checkBeast_any _ _ _ l _ _ (Hl.out.keep HB.out)).mono ?_; rintro e V ⟨rfl, rfl⟩; rw [HF.out])
      | (go_at_call 82; refine (Or_any _ _ _ [0, 0] _ (isC X 27 [0, 0] (by simp))).mono ?_; rintro e V ⟨rfl, rfl⟩; rw [HO.out]; replace HB := Lib.hid (up HB.out (up_alloc X (.cells ⟨ints [0, 0]⟩ 27))))
      | (go_at_call 90; have _hh := HO.out; clear _hh; refine (without_any L r s l j _ (Hl.out.keep HB.out) hjl hrs hs hl40).mono ?_; rintro e V ⟨A1, c1, rfl, hO, hbv⟩; have HO1 := Lib.hid (hO.lst.mono HB.out.size); replace HB := Lib.hid (up HB.out hbv); clear hO hbv; clear HO)
      | (go_at_call 90; refine (without_any C u v p j _ (Hc.out.keep HB.out) hjp huv hv hp40).mono ?_; rintro e V2 ⟨A2, c2, rfl, hO, hbv⟩; have HO2 := Lib.hid (hO.lst.mono HB.out.size); have HO3 := Lib.hid (HO1.out.keep hbv); replace HB := Lib.hid (up HB.out hbv); clear hO hbv))
    go_ret3
    exact ⟨_, _, ret_vvi H0.out, by rw [H1.out]; exact HO3.out, by rw [H2.out]; exact HO2.out, HB.out⟩
  · have H1 : Hid (takL P K l p i l = []) := Lib.hid (by unfold takL; rw [if_neg h0])
    have H2 : Hid (takL P K l p i p = []) := Lib.hid (by unfold takL; rw [if_neg h0])
    have hne : (takE P K l p i != 0) = true := by simpa using h0
    clear h0
    generalize hE : plE P K l p = E at *
    generalize hF : err (inB i 0 ((l.length : Int) - 1)) 1 = F at *
    have HE := Lib.hid hE; have HF := Lib.hid hF
    clear hE hF
    generalize takE P K l p i = T at *
    go_enter Tryz.func38, Tryz.ntmps38
    go_upto_region 1 with fail
    generalize hW : (World.alloc _ _) = W
    have HB : Hid (Below w.heap.size w W) := Lib.hid (by subst hW; go_grown)
    have KY : Bx W (w.heap.size) 25 [.slice A n c, .slice B m d] := by subst hW; repeat (first | (refine Bx.newAt _ _ _ ?_; first | rfl | (simp only [World.size_alloc]; done) | (simp only [World.size_alloc]; omega)) | refine Bx.old ?_ _)
    clear hW
    have KYl := KY.lt; have KYc := KY.get; have KYf := KY.fr
    go_wp2_with (first
      | (go_at_call 40; refine (checkPlace_any _ _ _ P _ _ _ K _ _ _ l _ _ _ p _ (Hp.out.keep HB.out) (Hg.out.keep HB.out) (Hl.out.keep HB.out) (Hc.out.keep HB.out)).mono ?_; rintro e X ⟨rfl, hbx⟩; rw [HE.out]; clear KYl KYc KYf; replace KY := KY.keep hbx; have KYl := KY.lt; have KYc := KY.get; have KYf := KY.fr; replace HB := Lib.hid (up HB.out hbx); clear hbx)
      | (go_at_call 87; refine (checkBeast_any _ _ _ l _ _ (Hl.out.keep HB.out)).mono ?_; rintro e V ⟨rfl, rfl⟩; rw [HF.out])
      | (go_at_call 82; refine (Or_any _ _ _ [E, F] _ (isC X 27 [E, F] (by simp))).mono ?_; rintro e V ⟨rfl, rfl⟩; rw [← HT.out]; replace HB := Lib.hid (up HB.out (up_alloc X (.cells ⟨ints [E, F]⟩ 27)))))
    go_ret3
    exact ⟨.slice none 0 0, .slice none 0 0, rfl, by rw [H1.out]; exact Lst.nil _ _, by rw [H2.out]; exact Lst.nil _ _, HB.out⟩
end Go.Proofs.YtaieidigpilbfaaGreat

