/- whatever the yard, the stays and the three numbers, the law returns true, and its arguments read as before -/
import Derived.Test.YtollccpghhgpfaaGreatJl
set_option linter.unusedVariables false
set_option linter.unusedSimpArgs false
set_option linter.unusedSectionVars false
namespace Go.Proofs.YtollccpghhgpfaaGreat
open Go Go.ChangeShapes Go.WideShapes Go.RowKit Go.Deep
set_option maxHeartbeats 8000000
set_option maxRecDepth 100000

theorem thrE_ok {P : List Int} {K : List Kd} {l : List St} {d : Int} (h : ssE P K l = 0) (hd : 0 ≤ d ∧ d ≤ 100000) : thrE P K l d = 0 := by
  unfold thrE; rw [h, inB_iff.2 hd]; rfl
theorem bool_is {Pr : Program} {f : FuncId} {args : Array Value} {w : World} {b b' : Bool} {Q : World → Prop} (h : Calls Pr f args w fun e w' => e = .returned (.bool b) ∧ Q w') (hb : b = b') : Calls Pr f args w fun e w' => e = .returned (.bool b') ∧ Q w' := by
  subst hb; exact h
section
variable (A : Option Addr) (n c : Nat) (P : List Int) (B : Option Addr) (m d : Nat) (K : List Kd) (L : Option Addr) (r s : Nat) (l : List St) (n0 n1 n2 : Int) (w : World) (hp : Is w A n P) (hg : Ks w B m K) (hl : Ss w L r l)
include hp hg hl
theorem Eaten_ok (dd : Int) (h0 : thrE P K l dd = 0) :
    Calls Tryz.prog 52 #[.agg #[.slice A n c, .slice B m d], .slice L r s, .int .i64 dd] w fun e w' => e = .returned (.tuple #[.int .i64 (eatL K l dd), .int .i64 0]) ∧ Below w.heap.size w w' := by
  have := Eaten_any A n c P B m d K L r s l dd w hp hg hl
  rw [if_pos h0, h0] at this
  exact this
theorem Eaten_bad (h0 : ssE P K l = 0) :
    Calls Tryz.prog 52 #[.agg #[.slice A n c, .slice B m d], .slice L r s, .int .i64 100001] w fun e w' => e = .returned (.tuple #[.int .i64 0, .int .i64 6]) ∧ Below w.heap.size w w' := by
  have := Eaten_any A n c P B m d K L r s l 100001 w hp hg hl
  have h6 : thrE P K l 100001 = 6 := by unfold thrE; rw [h0]; rfl
  rw [if_neg (by rw [h6]; decide), h6] at this
  exact this
theorem penFodder_no (h0 : ssE P K l ≠ 0) :
    Calls Tryz.prog 13 #[.agg #[.slice A n c, .slice B m d], .slice L r s, .agg #[.int .i64 n0, .int .i64 n1, .int .i64 n2]] w fun e w' => e = .returned (.bool true) ∧ Below w.heap.size w w' := by
  have Hp := Lib.hid hp; have Hg := Lib.hid hg; have Hl := Lib.hid hl
  have hne : (ssE P K l != 0) = true := by simpa using h0
  clear hp hg hl h0
  go_enter Tryz.func13, Tryz.ntmps13
  go_upto_region 1 with fail
  generalize hW : (World.alloc _ _) = W
  have HB : Hid (Below w.heap.size w W) := Lib.hid (by subst hW; go_grown)
  have KY : Bx W (w.heap.size) 25 [.slice A n c, .slice B m d] := by subst hW; repeat (first | (refine Bx.newAt _ _ _ ?_; first | rfl | (simp only [World.size_alloc]; done) | (simp only [World.size_alloc]; omega)) | refine Bx.old ?_ _)
  have KS : Bx W (w.heap.size + 1) 69 [.int .i64 n0, .int .i64 n1, .int .i64 n2] := by subst hW; repeat (first | (refine Bx.newAt _ _ _ ?_; first | rfl | (simp only [World.size_alloc]; done) | (simp only [World.size_alloc]; omega)) | refine Bx.old ?_ _)
  clear hW
  have KYl := KY.lt; have KYc := KY.get; have KYf := KY.fr; have KSl := KS.lt; have KSc := KS.get; have KSf := KS.fr
  go_wp2_with (first
    | (go_at_call 57; refine (rcheckStays_any A n c P B m d K L r s l _ (Hp.out.keep HB.out) (Hg.out.keep HB.out) (Hl.out.keep HB.out)).mono ?_; rintro e X ⟨rfl, hbx⟩; clear KYl KYc KYf; replace KY := KY.keep hbx; have KYl := KY.lt; have KYc := KY.get; have KYf := KY.fr; clear KSl KSc KSf; replace KS := KS.keep hbx; have KSl := KS.lt; have KSc := KS.get; have KSf := KS.fr; replace HB := Lib.hid (up HB.out hbx); clear hbx)
    | (go_at_call 22; refine (sane_any _).mono ?_; rintro e X2 ⟨rfl, hbx⟩; clear KYl KYc KYf; replace KY := KY.keep hbx; have KYl := KY.lt; have KYc := KY.get; have KYf := KY.fr; clear KSl KSc KSf; replace KS := KS.keep hbx; have KSl := KS.lt; have KSc := KS.get; have KSf := KS.fr; replace HB := Lib.hid (up HB.out hbx); clear hbx))
  go_ret
  exact ⟨rfl, HB.out⟩
theorem penFodder_yes (h0 : ssE P K l = 0) :
    Calls Tryz.prog 13 #[.agg #[.slice A n c, .slice B m d], .slice L r s, .agg #[.int .i64 n0, .int .i64 n1, .int .i64 n2]] w fun e w' => e = .returned (.bool true) ∧ Below w.heap.size w w' := by
  obtain ⟨hy, h40, hss⟩ := ssE_0 h0
  obtain ⟨h5, hP, hK⟩ := yOk_k hy
  have Hr : Hid (r = l.length) := Lib.hid hl.len
  have Hm : Hid (m = K.length) := Lib.hid hg.len
  have hrx := hl.small
  have hmx := hg.small
  have Hp := Lib.hid hp; have Hg := Lib.hid hg; have Hl := Lib.hid hl
  have Hy := Lib.hid hy; have Hss := Lib.hid hss; have HK := Lib.hid hK
  have H0 := Lib.hid h0
  have HLas : Hid (∀ f, 0 ≤ f → f < 100000 → lasE P K l f = 0) := Lib.hid (fun f h1 h2 => by unfold lasE; rw [h0, inB_iff.2 ⟨h1, by omega⟩]; rfl)
  obtain ⟨dd, hdd⟩ : ∃ dd, modI n0 100000 = dd := ⟨_, rfl⟩
  obtain ⟨fd, hfd⟩ : ∃ fd, modI n1 100000 = fd := ⟨_, rfl⟩
  obtain ⟨md, hmd⟩ : ∃ md, modI n2 100000 = md := ⟨_, rfl⟩
  have hd1 := modI_in (n := n0) (m := 100000) (by omega)
  have hf1 := modI_in (n := n1) (m := 100000) (by omega)
  have hm1 := modI_in (n := n2) (m := 100000) (by omega)
  rw [hdd] at hd1; rw [hfd] at hf1; rw [hmd] at hm1
  have Hdd := Lib.hid hdd; have Hfd := Lib.hid hfd; have Hmd := Lib.hid hmd
  have Hid1 := Lib.hid (thL_idx l (dd + 1))
  have Hstep := Lib.hid (eatL_step (K := K) hss hd1.1)
  have hT40 : (thL l (dd + 1)).length ≤ 40 := by have := thL_len l (dd + 1); omega
  have hea := eatK_in (d := dd) hK hss (by omega) l.length (Nat.le_refl _)
  have heb := eatK_in (d := dd + 1) hK hss (by omega) l.length (Nat.le_refl _)
  have hea' : 0 ≤ eatL K l dd ∧ eatL K l dd ≤ 8000000000 := by unfold eatL; omega
  have heb' : 0 ≤ eatL K l (dd + 1) ∧ eatL K l (dd + 1) ≤ 8000000000 := by unfold eatL; omega
  clear hp hg hl h0 hy hss hK hP hdd hfd hmd hea heb
  go_enter Tryz.func13, Tryz.ntmps13
  go_upto_region 1 with fail
  generalize hW : (World.alloc _ _) = W
  have HB : Hid (Below w.heap.size w W) := Lib.hid (by subst hW; go_grown)
  have KY : Bx W (w.heap.size) 25 [.slice A n c, .slice B m d] := by subst hW; repeat (first | (refine Bx.newAt _ _ _ ?_; first | rfl | (simp only [World.size_alloc]; done) | (simp only [World.size_alloc]; omega)) | refine Bx.old ?_ _)
  have KS : Bx W (w.heap.size + 1) 69 [.int .i64 n0, .int .i64 n1, .int .i64 n2] := by subst hW; repeat (first | (refine Bx.newAt _ _ _ ?_; first | rfl | (simp only [World.size_alloc]; done) | (simp only [World.size_alloc]; omega)) | refine Bx.old ?_ _)
  clear hW
  have KYl := KY.lt; have KYc := KY.get; have KYf := KY.fr; have KSl := KS.lt; have KSc := KS.get; have KSf := KS.fr
  go_upto_region 4 with (first
    | (go_at_call 57; refine (rcheckStays_any A n c P B m d K L r s l _ (Hp.out.keep HB.out) (Hg.out.keep HB.out) (Hl.out.keep HB.out)).mono ?_; rw [H0.out]; rintro e X ⟨rfl, hbx⟩; clear KYl KYc KYf; replace KY := KY.keep hbx; have KYl := KY.lt; have KYc := KY.get; have KYf := KY.fr; clear KSl KSc KSf; replace KS := KS.keep hbx; have KSl := KS.lt; have KSc := KS.get; have KSf := KS.fr; replace HB := Lib.hid (up HB.out hbx); clear hbx)
    | (go_at_call 59; refine (mod_any _ _ _ (by omega) (by omega)).mono ?_; rw [Hdd.out]; rintro e X1 ⟨rfl, rfl⟩))
  go_upto_region 5 with (go_at_call 52; refine (Eaten_ok A n c P B m d K L r s l _ (Hp.out.keep HB.out) (Hg.out.keep HB.out) (Hl.out.keep HB.out) dd (thrE_ok H0.out (by omega))).mono ?_; rintro e X2 ⟨rfl, hbx⟩; clear KYl KYc KYf; replace KY := KY.keep hbx; have KYl := KY.lt; have KYc := KY.get; have KYf := KY.fr; clear KSl KSc KSf; replace KS := KS.keep hbx; have KSl := KS.lt; have KSc := KS.get; have KSf := KS.fr; replace HB := Lib.hid (up HB.out hbx); clear hbx)
  go_upto_region 6 with (go_at_call 52; refine (Eaten_ok A n c P B m d K L r s l _ (Hp.out.keep HB.out) (Hg.out.keep HB.out) (Hl.out.keep HB.out) (dd + 1) (thrE_ok H0.out (by omega))).mono ?_; rintro e X3 ⟨rfl, hbx⟩; clear KYl KYc KYf; replace KY := KY.keep hbx; have KYl := KY.lt; have KYc := KY.get; have KYf := KY.fr; clear KSl KSc KSf; replace KS := KS.keep hbx; have KSl := KS.lt; have KSc := KS.get; have KSf := KS.fr; replace HB := Lib.hid (up HB.out hbx); clear hbx)
  go_upto_region 9 with (go_at_call 48; refine (There_ok A n c P B m d K L r s l (dd + 1) _ (Hp.out.keep HB.out) (Hg.out.keep HB.out) (Hl.out.keep HB.out) (thrE_ok H0.out (by omega))).mono ?_; rintro e V ⟨v, rfl, hO, hbv⟩; obtain ⟨TA, tk, tc, rfl, htc, hT, -⟩ := hO; have HT := Lib.hid hT; have htl := hT.len; clear KYl KYc KYf; replace KY := KY.keep hbv; have KYl := KY.lt; have KYc := KY.get; have KYf := KY.fr; clear KSl KSc KSf; replace KS := KS.keep hbv; have KSl := KS.lt; have KSc := KS.get; have KSf := KS.fr; replace HB := Lib.hid (up HB.out hbv); clear hbv; clear hT)
  generalize hTd : thL l (dd + 1) = T at *
  subst htl
  generalize hea2 : eatL K l dd = ea at *
  generalize heb2 : eatL K l (dd + 1) = eb at *
  have HVw := Lib.hid HB.out
  clear KYl KYc KYf KSl KSc KSf
  go_wp2_with fail
  go_loopw [14, 73] (fun v i wr => ∃ (k : Nat), k ≤ T.length ∧ i = .int .i64 k ∧ v = .int .i64 (grK K l T k) ∧ Below w.heap.size w wr ∧ Below V.heap.size V wr ∧ Bx wr w.heap.size 25 [.slice A n c, .slice B m d] ∧ Bx wr (w.heap.size + 1) 69 [.int .i64 n0, .int .i64 n1, .int .i64 n2]) (fun _ i _ => T.length - (intOf i).toNat)
  case atStart => exact ⟨0, by omega, rfl, rfl, HB.out, Below.refl _ _, KY, KS⟩
  case round =>
    clear KY KS HB
    obtain ⟨k, hk, rfl, rfl, hb, hbV, KY, KS⟩ := hrel
    have HB := Lib.hid hb; have HBV := Lib.hid hbV
    clear hb hbV
    by_cases hlt : k < T.length
    · have hgk := grK_in HK.out l T k
      have hin := Hid1.out T[k] (List.getElem_mem hlt)
      have Hgs : Hid (grK K l T (k + 1) = grK K l T k + (kdD K (l.getD T[k].toNat st00).s).e) := Lib.hid (by rw [grK]; simp [hlt])
      obtain ⟨b, o, rfl, hb, hc⟩ := (HT.out.keep HBV.out).get k hlt
      generalize hyy : T[k] = y at *
      clear hyy
      obtain ⟨j, rfl⟩ := Int.eq_ofNat_of_zero_le hin.1
      have hjl : j < l.length := by omega
      have hjr : j < r := by rw [Hr.out]; exact hjl
      have Hq : Hid (l.getD (j : Int).toNat st00 = l[j]) := Lib.hid (by simp [hjl])
      rw [Hq.out] at Hgs
      have hex := fun q (hq : q ≤ K.length) => ekK_in HK.out l[j].s hq
      have Hex := Lib.hid hex
      have Hea : Hid (ekK K l[j].s K.length = (kdD K l[j].s).e) := Lib.hid (ekK_all HK.out l[j].s)
      have HSc : Hid (∀ Z, Below w.heap.size w Z → ∃ b2 o2, L = some ⟨b2, o2, none⟩ ∧ b2 < Z.heap.size ∧ Z.cell? ⟨b2, o2 + j * 3, none⟩ = some (.int .i64 l[j].s)) := Lib.hid (fun Z hZ => by
        obtain ⟨b2, o2, e2, hb2, hcs⟩ := (Hl.out.keep hZ).get j hjl
        exact ⟨b2, o2, e2, hb2, hcs.c0⟩)
      clear hex hin Hq
      generalize l[j].s = x at *
      generalize hG : grK K l T k = G at *
      have hG40 : 0 ≤ G ∧ G ≤ 40000 := by omega
      clear hG
      have KYl := KY.lt; have KYc := KY.get; have KYf := KY.fr
      go_wp2_with fail
      clear KYl KYc KYf
      go_loopw [14, 88] (fun v i wr => ∃ (q : Nat), q ≤ m ∧ i = .int .i64 q ∧ v = .int .i64 (G + ekK K x q) ∧ Below w.heap.size w wr ∧ Below V.heap.size V wr ∧ Bx wr w.heap.size 25 [.slice A n c, .slice B m d] ∧ Bx wr (w.heap.size + 1) 69 [.int .i64 n0, .int .i64 n1, .int .i64 n2]) (fun _ i _ => m - (intOf i).toNat)
      case atStart => exact ⟨0, by omega, rfl, by rw [ekK, Int.add_zero], HB.out, HBV.out, KY, KS⟩
      case round =>
        clear KY KS HB HBV hc hb
        obtain ⟨q, hq, rfl, rfl, hb, hbV, KY, KS⟩ := hrel
        have HB := Lib.hid hb; have HBV := Lib.hid hbV
        clear hb hbV
        by_cases hqm : q < m
        · have hqK : q < K.length := by rw [← Hm.out]; exact hqm
          have hx1 := Hex.out q (by omega)
          have hx2 := Hex.out (q + 1) (by omega)
          have Hek : Hid (ekK K x (q + 1) = if K[q].s = x then ekK K x q + K[q].e else ekK K x q) := Lib.hid (by rw [ekK]; simp [hqK])
          obtain ⟨b2, o2, hLe, hb2, hxc⟩ := HSc.out _ HB.out
          obtain ⟨b3, o3, rfl, hb3, hcs⟩ := (Hg.out.keep HB.out).get q hqK
          obtain ⟨c0, c1, c2, c3⟩ := hcs
          subst hLe
          generalize K[q] = y at *
          generalize ekK K x q = EK at *
          go_upto_region 18 with (refine wpList_putNew 72 18 91 rfl rfl rfl rfl (by kernel_rfl) rfl (by simp [Value.oneCell']) ?_; intro U KK hbu hsu; have HBU := Lib.hid (up HB.out hbu); have HBVU := Lib.hid (up HBV.out hbu); have hxcU := (hbu.cell (p := ⟨b2, o2 + j * 3, none⟩) hb2).trans hxc; have hbu2 : b2 < U.heap.size := (by have := hbu.size; omega); have KYU := KY.keep hbu; have KSU := KS.keep hbu; clear hbu hsu c0 c1 c2 c3 hb3 hxc hb2; have KKl := KK.lt; have KKc := KK.get; have KKf := KK.fr)
          by_cases hs : y.s = x
          · have hsb : (y.s == x) = true := by simpa using hs
            have Hek2 : Hid (ekK K x (q + 1) = EK + y.e) := Lib.hid (by rw [Hek.out, if_pos hs])
            rw [Hek2.out] at hx2
            have hwr : IntKind.i64.wrap (G + EK + y.e) = G + EK + y.e := by rw [IntWalk.i64_in _ (by omega)]
            simp only [Act.put]
            refine wp_region_grow (by kernel_rfl) (by kernel_rfl) ?_
            repeat (go_big_quiet_step ((fail)))
            refine wpQuiet_nil ?_
            intro z
            have hbz := grow_below U z
            have KKz := KK.keep hbz
            have KYz := KYU.keep hbz; have KSz := KSU.keep hbz
            have HBz := Lib.hid (up HBU.out hbz); have HBVz := Lib.hid (up HBVU.out hbz)
            generalize grow U z = Z at *
            clear hbz KKl KKc KKf hxcU hbu2
            have KKzl := KKz.lt; have KKzc := KKz.get; have KKzf := KKz.fr
            go_wp2
            exact ⟨⟨q + 1, by omega, by go_num, by rw [Hek2.out, Int.add_assoc], HBz.out, HBVz.out, KYz, KSz⟩, by simp [intOf]; omega⟩
          · have hsb : (y.s == x) = false := by simpa using hs
            have Hek2 : Hid (ekK K x (q + 1) = EK) := Lib.hid (by rw [Hek.out, if_neg hs])
            simp only [Act.put]
            refine wp_region_grow (by kernel_rfl) (by kernel_rfl) ?_
            repeat (go_big_quiet_step ((fail)))
            refine wpQuiet_nil ?_
            intro z
            have hbz := grow_below U z
            have KYz := KYU.keep hbz; have KSz := KSU.keep hbz
            have HBz := Lib.hid (up HBU.out hbz); have HBVz := Lib.hid (up HBVU.out hbz)
            generalize grow U z = Z at *
            clear hbz KKl KKc KKf hxcU hbu2
            go_wp2
            exact ⟨⟨q + 1, by omega, by go_num, by rw [Hek2.out], HBz.out, HBVz.out, KYz, KSz⟩, by simp [intOf]; omega⟩
        · obtain rfl : q = m := by omega
          have HG2 : Hid (grK K l T (k + 1) = G + ekK K x q) := Lib.hid (by rw [Hgs.out, Hm.out, Hea.out])
          go_wp2
          exact ⟨⟨k + 1, by omega, by go_num, by rw [HG2.out], HB.out, HBV.out, KY, KS⟩, by simp [intOf]; omega⟩
    · obtain rfl : k = T.length := by omega
      have HSt : Hid (eb - ea = grK K l T T.length) := Hstep
      have hgs := HSt.out
      generalize grK K l T T.length = G at *
      have hne : (eb - ea != G) = false := by simp; omega
      have hwr : IntKind.i64.wrap (eb - ea) = eb - ea := by rw [IntWalk.i64_in _ (by omega)]
      have hf100 : 0 ≤ fd ∧ fd < 100000 := hf1
      have KYl := KY.lt; have KYc := KY.get; have KYf := KY.fr; have KSl := KS.lt; have KSc := KS.get; have KSf := KS.fr
      clear HT Hid1 Hstep hgs HSt HBV HVw
      go_upto_region 25 with (go_at_call 59; refine (mod_any _ _ _ (by omega) (by omega)).mono ?_; rw [Hfd.out]; rintro e X5 ⟨rfl, rfl⟩)
      go_upto_region 26 with (go_at_call 54; refine (Lasts_any A n c P B m d K L r s l fd _ (Hp.out.keep HB.out) (Hg.out.keep HB.out) (Hl.out.keep HB.out)).mono ?_; rintro e X6 ⟨lv, lx, rfl, hlv, hbx⟩; have hlp : LasP K l fd lv lx := (by rcases hlv with ⟨h, _⟩ | ⟨_, h⟩; exact absurd (HLas.out fd hf100.1 hf100.2) h; exact h); have HLP := Lib.hid hlp; clear hlv hlp; clear KYl KYc KYf; replace KY := KY.keep hbx; have KYl := KY.lt; have KYc := KY.get; have KYf := KY.fr; clear KSl KSc KSf; replace KS := KS.keep hbx; have KSl := KS.lt; have KSc := KS.get; have KSf := KS.fr; replace HB := Lib.hid (up HB.out hbx); clear hbx)
      have HFu : Hid (∀ W x, Below w.heap.size w W → 0 ≤ x → x ≤ 100000 → Calls Tryz.prog 62 #[.agg #[.slice A n c, .slice B m d], .slice L r s, .int .i64 x] W fun e w' => e = .returned (.bool (fullB P K l x)) ∧ Below W.heap.size W w') := Lib.hid (fun W x hW h1 h2 => lawFull_any A n c P B m d K L r s l x W (Hp.out.keep hW) (Hg.out.keep hW) (Hl.out.keep hW) (thrE_ok H0.out ⟨h1, h2⟩))
      have HM1 : Hid (∀ W, Calls Tryz.prog 59 #[.int .i64 n2, .int .i64 100000] W fun e w' => e = .returned (.int .i64 md) ∧ Below W.heap.size W w') := Lib.hid (fun W => by rw [← Hmd.out]; exact still_grow (mod_any n2 100000 W (by omega) (by omega)))
      have HMD : Hid (∀ D, 0 < D → D ≤ 100000 → ∀ W, Calls Tryz.prog 59 #[.int .i64 n2, .int .i64 D] W fun e w' => e = .returned (.int .i64 (modI n2 D)) ∧ Below W.heap.size W w') := Lib.hid (fun D h1 h2 W => still_grow (mod_any n2 D W h1 (by omega)))
      rcases HLP.out with ⟨rfl, rfl, hlt0⟩ | ⟨rfl, hv, hle, hlt1⟩
      · have hc0 : decide (eatL K l 0 ≤ fd) = false := by simp; omega
        go_upto_region 34 with (go_at_call 52; refine (Eaten_ok A n c P B m d K L r s l _ (Hp.out.keep HB.out) (Hg.out.keep HB.out) (Hl.out.keep HB.out) 0 (thrE_ok H0.out (by omega))).mono ?_; rintro e X7 ⟨rfl, hbx⟩; clear KYl KYc KYf; replace KY := KY.keep hbx; have KYl := KY.lt; have KYc := KY.get; have KYf := KY.fr; clear KSl KSc KSf; replace KS := KS.keep hbx; have KSl := KS.lt; have KSc := KS.get; have KSf := KS.fr; replace HB := Lib.hid (up HB.out hbx); clear hbx)
        clear hc0
        cases hfp : fulP P K l with
        | none =>
          have Hno := Lib.hid (ful_none Hy.out Hss.out hfp)
          have HFD : Hid (fulD P K l = 0 ∧ fulE P K l = 3) := Lib.hid (by unfold fulD fulE; rw [if_pos H0.out, if_pos H0.out, hfp]; exact ⟨rfl, rfl⟩)
          have hq1 : fullB P K l md = false := Hno.out md
          go_upto_region 36 with (go_at_call 50; refine (Full_any A n c P B m d K L r s l _ (Hp.out.keep HB.out) (Hg.out.keep HB.out) (Hl.out.keep HB.out)).mono ?_; rw [HFD.out.1, HFD.out.2]; rintro e X9 ⟨rfl, hbx⟩; clear KYl KYc KYf; replace KY := KY.keep hbx; have KYl := KY.lt; have KYc := KY.get; have KYf := KY.fr; clear KSl KSc KSf; replace KS := KS.keep hbx; have KSl := KS.lt; have KSc := KS.get; have KSf := KS.fr; replace HB := Lib.hid (up HB.out hbx); clear hbx)
          refine wp_region_grow (by kernel_rfl) (by kernel_rfl) ?_
          repeat (go_big_quiet_step ((first | (go_at_call 59; exact quiet_grow rfl (HM1.out _)) | (go_at_call 62; exact quiet_grow rfl (HFu.out _ _ (up HB.out (grow_below _ _)) (by omega) (by omega))) | (go_at_call 22; exact quiet_grow rfl (sane_any _)))))
          refine wpQuiet_nil ?_
          intro z
          go_wp2
          go_ret
          exact ⟨rfl, up HB.out (grow_below _ _)⟩
        | some D =>
          obtain ⟨hq1, hDr, hlo⟩ := ful_some Hy.out Hss.out hfp
          have HFD : Hid (fulD P K l = D ∧ fulE P K l = 0) := Lib.hid (by unfold fulD fulE; rw [if_pos H0.out, if_pos H0.out, hfp]; exact ⟨rfl, rfl⟩)
          go_upto_region 37 with (go_at_call 50; refine (Full_any A n c P B m d K L r s l _ (Hp.out.keep HB.out) (Hg.out.keep HB.out) (Hl.out.keep HB.out)).mono ?_; rw [HFD.out.1, HFD.out.2]; rintro e X9 ⟨rfl, hbx⟩; clear KYl KYc KYf; replace KY := KY.keep hbx; have KYl := KY.lt; have KYc := KY.get; have KYf := KY.fr; clear KSl KSc KSf; replace KS := KS.keep hbx; have KSl := KS.lt; have KSc := KS.get; have KSf := KS.fr; replace HB := Lib.hid (up HB.out hbx); clear hbx)
          have HFuD : Hid (∀ W, Below w.heap.size w W → Calls Tryz.prog 62 #[.agg #[.slice A n c, .slice B m d], .slice L r s, .int .i64 D] W fun e w' => e = .returned (.bool true) ∧ Below W.heap.size W w') := Lib.hid (fun W hW => by rw [← hq1]; exact HFu.out W D hW hDr.1 hDr.2)
          by_cases hD0 : D = 0
          · subst hD0
            clear hlo
            refine wp_region_grow (by kernel_rfl) (by kernel_rfl) ?_
            repeat (go_big_quiet_step ((first | (go_at_call 62; exact quiet_grow rfl (HFuD.out _ (up HB.out (grow_below _ _)))) | (go_at_call 22; exact quiet_grow rfl (sane_any _)))))
            refine wpQuiet_nil ?_
            intro z
            go_wp2
            go_ret
            exact ⟨rfl, up HB.out (grow_below _ _)⟩
          · have hDb : (D == 0) = false := by simpa using hD0
            have hmD := modI_in (n := n2) (m := D) (by omega)
            have hq3 : fullB P K l (modI n2 D) = false := hlo _ hmD.2
            have hDp : 0 < D := by omega
            have HMD2 := Lib.hid (HMD.out D hDp hDr.2)
            obtain ⟨D1, hD1⟩ : ∃ D1, D - 1 = D1 := ⟨_, rfl⟩
            have hD1r : 0 ≤ D1 ∧ D1 < D := by omega
            have hq2 : fullB P K l D1 = false := hlo D1 hD1r.2
            generalize modI n2 D = mD at *
            clear hlo HMD HFuD
            have e1 : IntKind.i64.wrap (D - 1) = D1 := by rw [IntWalk.i64_in _ (by omega)]; exact hD1
            clear hD1
            have HF1 : Hid (∀ W, Below w.heap.size w W → Calls Tryz.prog 62 #[.agg #[.slice A n c, .slice B m d], .slice L r s, .int .i64 D] W fun e w' => e = .returned (.bool true) ∧ Below W.heap.size W w') := Lib.hid (fun W hW => by rw [← hq1]; exact HFu.out W D hW hDr.1 hDr.2)
            have HF2 : Hid (∀ W, Below w.heap.size w W → Calls Tryz.prog 62 #[.agg #[.slice A n c, .slice B m d], .slice L r s, .int .i64 D1] W fun e w' => e = .returned (.bool false) ∧ Below W.heap.size W w') := Lib.hid (fun W hW => by rw [← hq2]; exact HFu.out W D1 hW hD1r.1 (by omega))
            have HF3 : Hid (∀ W, Below w.heap.size w W → Calls Tryz.prog 62 #[.agg #[.slice A n c, .slice B m d], .slice L r s, .int .i64 mD] W fun e w' => e = .returned (.bool false) ∧ Below W.heap.size W w') := Lib.hid (fun W hW => by rw [← hq3]; exact HFu.out W mD hW hmD.1 (by omega))
            clear HFu HM1 hq1 hq2 hq3
            refine wp_region_grow (by kernel_rfl) (by kernel_rfl) ?_
            repeat (go_big_quiet_step ((first | (go_at_call 59; exact quiet_grow rfl (HMD2.out _)) | (go_at_call_of 62 (Value.int .i64 mD); exact quiet_grow rfl (HF3.out _ (up HB.out (grow_below _ _)))) | (go_at_call_of 62 (Value.int .i64 D1); exact quiet_grow rfl (HF2.out _ (up HB.out (grow_below _ _)))) | (go_at_call_of 62 (Value.int .i64 D); exact quiet_grow rfl (HF1.out _ (up HB.out (grow_below _ _)))) | (go_at_call 22; exact quiet_grow rfl (sane_any _)))))
            refine wpQuiet_nil ?_
            intro z
            go_wp2
            go_ret
            exact ⟨rfl, up HB.out (grow_below _ _)⟩
      · have hc0 : decide (fd < eatL K l lv) = false := by simp; omega
        by_cases hv1 : lv < 100000
        · have hl1 := hlt1 hv1
          have hc1 : decide (eatL K l (lv + 1) ≤ fd) = false := by simp; omega
          go_upto_region 28 with (go_at_call 52; refine (Eaten_ok A n c P B m d K L r s l _ (Hp.out.keep HB.out) (Hg.out.keep HB.out) (Hl.out.keep HB.out) lv (thrE_ok H0.out hv)).mono ?_; rintro e X7 ⟨rfl, hbx⟩; clear KYl KYc KYf; replace KY := KY.keep hbx; have KYl := KY.lt; have KYc := KY.get; have KYf := KY.fr; clear KSl KSc KSf; replace KS := KS.keep hbx; have KSl := KS.lt; have KSc := KS.get; have KSf := KS.fr; replace HB := Lib.hid (up HB.out hbx); clear hbx)
          go_upto_region 34 with (go_at_call 52; refine (Eaten_ok A n c P B m d K L r s l _ (Hp.out.keep HB.out) (Hg.out.keep HB.out) (Hl.out.keep HB.out) (lv + 1) (thrE_ok H0.out (by omega))).mono ?_; rintro e X8 ⟨rfl, hbx⟩; clear KYl KYc KYf; replace KY := KY.keep hbx; have KYl := KY.lt; have KYc := KY.get; have KYf := KY.fr; clear KSl KSc KSf; replace KS := KS.keep hbx; have KSl := KS.lt; have KSc := KS.get; have KSf := KS.fr; replace HB := Lib.hid (up HB.out hbx); clear hbx)
          clear hc0
          cases hfp : fulP P K l with
          | none =>
            have Hno := Lib.hid (ful_none Hy.out Hss.out hfp)
            have HFD : Hid (fulD P K l = 0 ∧ fulE P K l = 3) := Lib.hid (by unfold fulD fulE; rw [if_pos H0.out, if_pos H0.out, hfp]; exact ⟨rfl, rfl⟩)
            have hq1 : fullB P K l md = false := Hno.out md
            go_upto_region 36 with (go_at_call 50; refine (Full_any A n c P B m d K L r s l _ (Hp.out.keep HB.out) (Hg.out.keep HB.out) (Hl.out.keep HB.out)).mono ?_; rw [HFD.out.1, HFD.out.2]; rintro e X9 ⟨rfl, hbx⟩; clear KYl KYc KYf; replace KY := KY.keep hbx; have KYl := KY.lt; have KYc := KY.get; have KYf := KY.fr; clear KSl KSc KSf; replace KS := KS.keep hbx; have KSl := KS.lt; have KSc := KS.get; have KSf := KS.fr; replace HB := Lib.hid (up HB.out hbx); clear hbx)
            refine wp_region_grow (by kernel_rfl) (by kernel_rfl) ?_
            repeat (go_big_quiet_step ((first | (go_at_call 59; exact quiet_grow rfl (HM1.out _)) | (go_at_call 62; exact quiet_grow rfl (HFu.out _ _ (up HB.out (grow_below _ _)) (by omega) (by omega))) | (go_at_call 22; exact quiet_grow rfl (sane_any _)))))
            refine wpQuiet_nil ?_
            intro z
            go_wp2
            go_ret
            exact ⟨rfl, up HB.out (grow_below _ _)⟩
          | some D =>
            obtain ⟨hq1, hDr, hlo⟩ := ful_some Hy.out Hss.out hfp
            have HFD : Hid (fulD P K l = D ∧ fulE P K l = 0) := Lib.hid (by unfold fulD fulE; rw [if_pos H0.out, if_pos H0.out, hfp]; exact ⟨rfl, rfl⟩)
            go_upto_region 37 with (go_at_call 50; refine (Full_any A n c P B m d K L r s l _ (Hp.out.keep HB.out) (Hg.out.keep HB.out) (Hl.out.keep HB.out)).mono ?_; rw [HFD.out.1, HFD.out.2]; rintro e X9 ⟨rfl, hbx⟩; clear KYl KYc KYf; replace KY := KY.keep hbx; have KYl := KY.lt; have KYc := KY.get; have KYf := KY.fr; clear KSl KSc KSf; replace KS := KS.keep hbx; have KSl := KS.lt; have KSc := KS.get; have KSf := KS.fr; replace HB := Lib.hid (up HB.out hbx); clear hbx)
            have HFuD : Hid (∀ W, Below w.heap.size w W → Calls Tryz.prog 62 #[.agg #[.slice A n c, .slice B m d], .slice L r s, .int .i64 D] W fun e w' => e = .returned (.bool true) ∧ Below W.heap.size W w') := Lib.hid (fun W hW => by rw [← hq1]; exact HFu.out W D hW hDr.1 hDr.2)
            by_cases hD0 : D = 0
            · subst hD0
              clear hlo
              refine wp_region_grow (by kernel_rfl) (by kernel_rfl) ?_
              repeat (go_big_quiet_step ((first | (go_at_call 62; exact quiet_grow rfl (HFuD.out _ (up HB.out (grow_below _ _)))) | (go_at_call 22; exact quiet_grow rfl (sane_any _)))))
              refine wpQuiet_nil ?_
              intro z
              go_wp2
              go_ret
              exact ⟨rfl, up HB.out (grow_below _ _)⟩
            · have hDb : (D == 0) = false := by simpa using hD0
              have hmD := modI_in (n := n2) (m := D) (by omega)
              have hq3 : fullB P K l (modI n2 D) = false := hlo _ hmD.2
              have hDp : 0 < D := by omega
              have HMD2 := Lib.hid (HMD.out D hDp hDr.2)
              obtain ⟨D1, hD1⟩ : ∃ D1, D - 1 = D1 := ⟨_, rfl⟩
              have hD1r : 0 ≤ D1 ∧ D1 < D := by omega
              have hq2 : fullB P K l D1 = false := hlo D1 hD1r.2
              generalize modI n2 D = mD at *
              clear hlo HMD HFuD
              have e1 : IntKind.i64.wrap (D - 1) = D1 := by rw [IntWalk.i64_in _ (by omega)]; exact hD1
              clear hD1
              have HF1 : Hid (∀ W, Below w.heap.size w W → Calls Tryz.prog 62 #[.agg #[.slice A n c, .slice B m d], .slice L r s, .int .i64 D] W fun e w' => e = .returned (.bool true) ∧ Below W.heap.size W w') := Lib.hid (fun W hW => by rw [← hq1]; exact HFu.out W D hW hDr.1 hDr.2)
              have HF2 : Hid (∀ W, Below w.heap.size w W → Calls Tryz.prog 62 #[.agg #[.slice A n c, .slice B m d], .slice L r s, .int .i64 D1] W fun e w' => e = .returned (.bool false) ∧ Below W.heap.size W w') := Lib.hid (fun W hW => by rw [← hq2]; exact HFu.out W D1 hW hD1r.1 (by omega))
              have HF3 : Hid (∀ W, Below w.heap.size w W → Calls Tryz.prog 62 #[.agg #[.slice A n c, .slice B m d], .slice L r s, .int .i64 mD] W fun e w' => e = .returned (.bool false) ∧ Below W.heap.size W w') := Lib.hid (fun W hW => by rw [← hq3]; exact HFu.out W mD hW hmD.1 (by omega))
              clear HFu HM1 hq1 hq2 hq3
              refine wp_region_grow (by kernel_rfl) (by kernel_rfl) ?_
              repeat (go_big_quiet_step ((first | (go_at_call 59; exact quiet_grow rfl (HMD2.out _)) | (go_at_call_of 62 (Value.int .i64 mD); exact quiet_grow rfl (HF3.out _ (up HB.out (grow_below _ _)))) | (go_at_call_of 62 (Value.int .i64 D1); exact quiet_grow rfl (HF2.out _ (up HB.out (grow_below _ _)))) | (go_at_call_of 62 (Value.int .i64 D); exact quiet_grow rfl (HF1.out _ (up HB.out (grow_below _ _)))) | (go_at_call 22; exact quiet_grow rfl (sane_any _)))))
              refine wpQuiet_nil ?_
              intro z
              go_wp2
              go_ret
              exact ⟨rfl, up HB.out (grow_below _ _)⟩
        · obtain rfl : lv = 100000 := by omega
          go_upto_region 28 with (go_at_call 52; refine (Eaten_ok A n c P B m d K L r s l _ (Hp.out.keep HB.out) (Hg.out.keep HB.out) (Hl.out.keep HB.out) 100000 (thrE_ok H0.out hv)).mono ?_; rintro e X7 ⟨rfl, hbx⟩; clear KYl KYc KYf; replace KY := KY.keep hbx; have KYl := KY.lt; have KYc := KY.get; have KYf := KY.fr; clear KSl KSc KSf; replace KS := KS.keep hbx; have KSl := KS.lt; have KSc := KS.get; have KSf := KS.fr; replace HB := Lib.hid (up HB.out hbx); clear hbx)
          go_upto_region 34 with (go_at_call 52; refine (Eaten_bad A n c P B m d K L r s l _ (Hp.out.keep HB.out) (Hg.out.keep HB.out) (Hl.out.keep HB.out) H0.out).mono ?_; rintro e X8 ⟨rfl, hbx⟩; clear KYl KYc KYf; replace KY := KY.keep hbx; have KYl := KY.lt; have KYc := KY.get; have KYf := KY.fr; clear KSl KSc KSf; replace KS := KS.keep hbx; have KSl := KS.lt; have KSc := KS.get; have KSf := KS.fr; replace HB := Lib.hid (up HB.out hbx); clear hbx)
          clear hc0
          cases hfp : fulP P K l with
          | none =>
            have Hno := Lib.hid (ful_none Hy.out Hss.out hfp)
            have HFD : Hid (fulD P K l = 0 ∧ fulE P K l = 3) := Lib.hid (by unfold fulD fulE; rw [if_pos H0.out, if_pos H0.out, hfp]; exact ⟨rfl, rfl⟩)
            have hq1 : fullB P K l md = false := Hno.out md
            go_upto_region 36 with (go_at_call 50; refine (Full_any A n c P B m d K L r s l _ (Hp.out.keep HB.out) (Hg.out.keep HB.out) (Hl.out.keep HB.out)).mono ?_; rw [HFD.out.1, HFD.out.2]; rintro e X9 ⟨rfl, hbx⟩; clear KYl KYc KYf; replace KY := KY.keep hbx; have KYl := KY.lt; have KYc := KY.get; have KYf := KY.fr; clear KSl KSc KSf; replace KS := KS.keep hbx; have KSl := KS.lt; have KSc := KS.get; have KSf := KS.fr; replace HB := Lib.hid (up HB.out hbx); clear hbx)
            refine wp_region_grow (by kernel_rfl) (by kernel_rfl) ?_
            repeat (go_big_quiet_step ((first | (go_at_call 59; exact quiet_grow rfl (HM1.out _)) | (go_at_call 62; exact quiet_grow rfl (HFu.out _ _ (up HB.out (grow_below _ _)) (by omega) (by omega))) | (go_at_call 22; exact quiet_grow rfl (sane_any _)))))
            refine wpQuiet_nil ?_
            intro z
            go_wp2
            go_ret
            exact ⟨rfl, up HB.out (grow_below _ _)⟩
          | some D =>
            obtain ⟨hq1, hDr, hlo⟩ := ful_some Hy.out Hss.out hfp
            have HFD : Hid (fulD P K l = D ∧ fulE P K l = 0) := Lib.hid (by unfold fulD fulE; rw [if_pos H0.out, if_pos H0.out, hfp]; exact ⟨rfl, rfl⟩)
            go_upto_region 37 with (go_at_call 50; refine (Full_any A n c P B m d K L r s l _ (Hp.out.keep HB.out) (Hg.out.keep HB.out) (Hl.out.keep HB.out)).mono ?_; rw [HFD.out.1, HFD.out.2]; rintro e X9 ⟨rfl, hbx⟩; clear KYl KYc KYf; replace KY := KY.keep hbx; have KYl := KY.lt; have KYc := KY.get; have KYf := KY.fr; clear KSl KSc KSf; replace KS := KS.keep hbx; have KSl := KS.lt; have KSc := KS.get; have KSf := KS.fr; replace HB := Lib.hid (up HB.out hbx); clear hbx)
            have HFuD : Hid (∀ W, Below w.heap.size w W → Calls Tryz.prog 62 #[.agg #[.slice A n c, .slice B m d], .slice L r s, .int .i64 D] W fun e w' => e = .returned (.bool true) ∧ Below W.heap.size W w') := Lib.hid (fun W hW => by rw [← hq1]; exact HFu.out W D hW hDr.1 hDr.2)
            by_cases hD0 : D = 0
            · subst hD0
              clear hlo
              refine wp_region_grow (by kernel_rfl) (by kernel_rfl) ?_
              repeat (go_big_quiet_step ((first | (go_at_call 62; exact quiet_grow rfl (HFuD.out _ (up HB.out (grow_below _ _)))) | (go_at_call 22; exact quiet_grow rfl (sane_any _)))))
              refine wpQuiet_nil ?_
              intro z
              go_wp2
              go_ret
              exact ⟨rfl, up HB.out (grow_below _ _)⟩
            · have hDb : (D == 0) = false := by simpa using hD0
              have hmD := modI_in (n := n2) (m := D) (by omega)
              have hq3 : fullB P K l (modI n2 D) = false := hlo _ hmD.2
              have hDp : 0 < D := by omega
              have HMD2 := Lib.hid (HMD.out D hDp hDr.2)
              obtain ⟨D1, hD1⟩ : ∃ D1, D - 1 = D1 := ⟨_, rfl⟩
              have hD1r : 0 ≤ D1 ∧ D1 < D := by omega
              have hq2 : fullB P K l D1 = false := hlo D1 hD1r.2
              generalize modI n2 D = mD at *
              clear hlo HMD HFuD
              have e1 : IntKind.i64.wrap (D - 1) = D1 := by rw [IntWalk.i64_in _ (by omega)]; exact hD1
              clear hD1
              have HF1 : Hid (∀ W, Below w.heap.size w W → Calls Tryz.prog 62 #[.agg #[.slice A n c, .slice B m d], .slice L r s, .int .i64 D] W fun e w' => e = .returned (.bool true) ∧ Below W.heap.size W w') := Lib.hid (fun W hW => by rw [← hq1]; exact HFu.out W D hW hDr.1 hDr.2)
              have HF2 : Hid (∀ W, Below w.heap.size w W → Calls Tryz.prog 62 #[.agg #[.slice A n c, .slice B m d], .slice L r s, .int .i64 D1] W fun e w' => e = .returned (.bool false) ∧ Below W.heap.size W w') := Lib.hid (fun W hW => by rw [← hq2]; exact HFu.out W D1 hW hD1r.1 (by omega))
              have HF3 : Hid (∀ W, Below w.heap.size w W → Calls Tryz.prog 62 #[.agg #[.slice A n c, .slice B m d], .slice L r s, .int .i64 mD] W fun e w' => e = .returned (.bool false) ∧ Below W.heap.size W w') := Lib.hid (fun W hW => by rw [← hq3]; exact HFu.out W mD hW hmD.1 (by omega))
              clear HFu HM1 hq1 hq2 hq3
              refine wp_region_grow (by kernel_rfl) (by kernel_rfl) ?_
              repeat (go_big_quiet_step ((first | (go_at_call 59; exact quiet_grow rfl (HMD2.out _)) | (go_at_call_of 62 (Value.int .i64 mD); exact quiet_grow rfl (HF3.out _ (up HB.out (grow_below _ _)))) | (go_at_call_of 62 (Value.int .i64 D1); exact quiet_grow rfl (HF2.out _ (up HB.out (grow_below _ _)))) | (go_at_call_of 62 (Value.int .i64 D); exact quiet_grow rfl (HF1.out _ (up HB.out (grow_below _ _)))) | (go_at_call 22; exact quiet_grow rfl (sane_any _)))))
              refine wpQuiet_nil ?_
              intro z
              go_wp2
              go_ret
              exact ⟨rfl, up HB.out (grow_below _ _)⟩
theorem penFodder_any :
    Calls Tryz.prog 13 #[.agg #[.slice A n c, .slice B m d], .slice L r s, .agg #[.int .i64 n0, .int .i64 n1, .int .i64 n2]] w fun e w' => e = .returned (.bool true) ∧ Below w.heap.size w w' := by
  by_cases h0 : ssE P K l = 0
  · exact penFodder_yes A n c P B m d K L r s l n0 n1 n2 w hp hg hl h0
  · exact penFodder_no A n c P B m d K L r s l n0 n1 n2 w hp hg hl h0
end

theorem penFodder_lifted (os : Os) (started : os.Started) (H : Type) (enc : TypeId × Value → H) :
    ReturnsInHanded {} Tryz.checked os 13 .any (Rows.penFodderSpec.pre6 enc Tryz.prog Tryz.f13 Rows.penFodderRow.domain false) (Rows.penFodderSpec.post enc Tryz.prog Tryz.f13 false true false false) := by
  refine law_lift started (by kernel_rfl) Tryz.func13 (ChangeSpec.witness6 (enc := enc) (C := Tryz.checked) false ⟨#[], #[.agg #[.slice none 0 0, .slice none 0 0], .slice none 0 0, .agg #[.int .i64 0, .int .i64 0, .int .i64 0]], []⟩ 8 (by kernel_rfl) (by kernel_rfl) (by kernel_rfl) (by kernel_rfl))
    rfl rfl (fun ds h => ?_) ?_ ?_
  · match ds, h with
    | [a, b, c], _ => rfl
  · rw [Tryz.params13]; intro t ht; simp at ht; rcases ht with rfl | rfl | rfl <;> exact ⟨by kernel_rfl, of_decide_eq_true (by kernel_rfl)⟩
  · intro W base args ds p hval hA hz
    rw [Tryz.params13] at hA hval hz
    obtain ⟨v0, v1, v2, d0, d1, d2, p0, p1, p2, rfl, rfl, rfl, h0, h1, h2⟩ := trodAll_three hA
    obtain ⟨A, n, c, P, B, m, d, K, rfl, hp, hg, _, _⟩ := open_yard (hval 0 25 v0 rfl rfl) h0 (hz 0 25 d0 rfl rfl)
    obtain ⟨L, r, s, l, rfl, hl, _, _⟩ := open_stays (hval 1 58 v1 rfl rfl) h1 (hz 1 58 d1 rfl rfl)
    obtain ⟨n0, n1, n2, rfl⟩ := open_three (hval 2 69 v2 rfl rfl) h2
    exact penFodder_any A n c P B m d K L r s l n0 n1 n2 W hp hg hl

theorem penFodder_holds : Rows.PenFodderSaid :=
  OpenClaim.holds_of_wide 13 Tryz.f13 rfl rfl rfl rfl rfl rfl rfl ⟨rfl, rfl, rfl, rfl, rfl⟩ rfl rfl rfl rfl rfl (by kernel_rfl) Tryz.func13 (by kernel_rfl)
    (of_decide_eq_true (by kernel_rfl)) (by unfold Func.isWrapper; first | (rw [if_pos (by decide +kernel)]; kernel_rfl) | (rw [if_neg (by decide +kernel)]; exact ⟨rfl, rfl⟩))
    (fun os started H enc _ => penFodder_lifted os started H enc)
end Go.Proofs.YtollccpghhgpfaaGreat

