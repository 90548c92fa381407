/- PenRefuses: whatever the yard, the beasts and the reason, the law returns true, and its arguments read as before. No condition. -/
import Derived.Test.YtifokapcobgjiaaGreatJe
import Derived.Test.YtifokapcobgjiaaGreatJj
import Derived.Test.YtifokapcobgjiaaGreatJr
import Derived.Test.YtifokapcobgjiaaGreatJx
import Derived.Test.YtifokapcobgjiaaGreatJz
set_option linter.unusedVariables false
set_option linter.unusedSimpArgs false
set_option linter.unusedSectionVars false
namespace Go.Proofs.YtifokapcobgjiaaGreat
open Go Go.ChangeShapes Go.WideShapes Go.RowKit Go.Deep
set_option maxHeartbeats 8000000
set_option maxRecDepth 100000

section
variable {H : Type} {enc : TypeId × Value → H} {w : World} {base : Nat} {spare : Nat → Bool} {held : Bool}
/-- A reason that came in. -/
theorem open_ref {r : Reach} {b0 : Nat} {v : Value} {d : DataW H} {p : List MemPlace} (hv : Value.okWide Tryz.prog w r b0 53 v) (h : DataW.Trod enc Tryz.prog w base spare held 53 v d p) (hz : ∀ y ∈ d.weights Tryz.prog 53, y ≤ reachBytes) :
    ∃ kd D x y b, v = .agg #[.int .i64 kd, .slice D x y] ∧ Is w D x b ∧ x ≤ y ∧ y ≤ 9223372036854775807 := by
  obtain ⟨cs, rfl, hsz⟩ := okWide_struct Tryz.underlying53 hv
  rw [show Tryz.prog.cellsOf 53 = 2 by kernel_rfl] at hsz
  obtain ⟨fuel, hf⟩ := h
  obtain ⟨z0, z1, n2, hd2, hl2, k0, k1⟩ := trod_struct2 Tryz.underlying53 hf
  dsimp only at k0 k1
  rw [show Tryz.prog.cellsOf 3 = 1 by kernel_rfl] at k0
  rw [show Tryz.prog.cellsOf 22 = 1 by kernel_rfl] at k1
  have hd2' : d = .agg [z0.1, z1.1] := (Prod.ext_iff.1 hd2).1
  have hz1 : ∀ y ∈ z1.1.weights Tryz.prog 22, y ≤ reachBytes := fun y hy => hz y (by
    rw [hd2']; simp [DataW.weights, DataW.weightsEach, Tryz.underlying53, hy])
  obtain ⟨kd, e1, _, b1⟩ := DataW.trod_int Tryz.underlying3 k0
  obtain ⟨D, x, y, b, e2, hb, hxy, _, _⟩ := is_open k1 hz1
  have hy : y ≤ 9223372036854775807 := by rw [e2] at k1; exact cap_open k1
  obtain ⟨cl⟩ := cs
  match cl, hsz with
  | [c1, c2], _ =>
    simp [Value.cells] at e1 e2
    subst e1; subst e2
    exact ⟨kd, D, x, y, b, rfl, hb, hxy, hy⟩
end
theorem checkRefusal_g (A : Option Addr) (n c : Nat) (P : List Int) (B : Option Addr) (m d : Nat) (K : List Kd) (L : Option Addr) (r s : Nat) (l : List Int) (kd : Int) (C : Option Addr) (u v : Nat) (b : List Int) (w : World) (hp : Is w A n P) (hg : Ks w B m K) (hl : Is w L r l) (hc : Is w C u b) (huv : u ≤ v ∧ v ≤ 9223372036854775807) :
    Calls Tryz.prog 46 #[.agg #[.slice A n c, .slice B m d], .slice L r s, .agg #[.int .i64 kd, .slice C u v]] w fun e w' => e = .returned (.int .i64 (rsnE P K l kd b)) ∧ Below w.heap.size w w' := by
  by_cases h0 : sE P K l = 0
  · cases hR : risC l.length b
    · exact checkRefusal_bad A n c P B m d K L r s l kd C u v b w hp hg hl hc huv.1 huv.2 h0 hR
    · exact checkRefusal_ok A n c P B m d K L r s l kd C u v b w hp hg hl hc huv.1 huv.2 h0 hR
  · exact checkRefusal_no A n c P B m d K L r s l kd C u v b w hp hg hl hc h0
theorem same_t6 (T : List Int) {C D : Option Addr} {k j c e : Nat} {V : World} (h1 : Is V C k T) (h2 : Is V D j T) :
    Calls Tryz.prog 29 #[.slice C k c, .slice D j e] V fun e w' => e = .returned (.bool true) ∧ Below V.heap.size V w' := by
  have := Same_any C k c T D j e T V h1 h2
  rwa [show (T == T) = true by simp] at this
theorem penRefuses_any (A : Option Addr) (n c : Nat) (P : List Int) (B : Option Addr) (m d : Nat) (K : List Kd) (L : Option Addr) (r s : Nat) (l : List Int) (kd : Int) (D : Option Addr) (x y : Nat) (b : List Int) (w : World) (hp : Is w A n P) (hg : Ks w B m K) (hl : Is w L r l) (hd : Is w D x b) (hxy : x ≤ y ∧ y ≤ 9223372036854775807) :
    Calls Tryz.prog 6 #[.agg #[.slice A n c, .slice B m d], .slice L r s, .agg #[.int .i64 kd, .slice D x y]] w fun e w' => e = .returned (.bool true) ∧ Below w.heap.size w w' := by
  have Hp := Lib.hid hp; have Hg := Lib.hid hg; have Hl := Lib.hid hl; have Hd := Lib.hid hd; have Hxy := Lib.hid hxy
  clear hp hg hl hd hxy
  go_enter Tryz.func6, Tryz.ntmps6
  go_upto_region 1 with fail
  generalize hW : (World.alloc _ _) = W
  have HB : Hid (Below w.heap.size w W) := Lib.hid (by subst hW; go_grown)
  have KY : Bx W (w.heap.size) 25 [.slice A n c, .slice B m d] := by subst hW; repeat (first | (refine Bx.newAt _ _ _ ?_; first | rfl | (simp only [World.size_alloc]; done) | (simp only [World.size_alloc]; omega)) | refine Bx.old ?_ _)
  have KS : Bx W (w.heap.size + 1) 53 [.int .i64 kd, .slice D x y] := by subst hW; repeat (first | (refine Bx.newAt _ _ _ ?_; first | rfl | (simp only [World.size_alloc]; done) | (simp only [World.size_alloc]; omega)) | refine Bx.old ?_ _)
  clear hW
  have KYl := KY.lt; have KYc := KY.get; have KYf := KY.fr; have KSl := KS.lt; have KSc := KS.get; have KSf := KS.fr
  go_upto_region 2 with (first
    | (go_at_call 42; refine (Refuse_any A n c P B m d K L r s l _ (Hp.out.keep HB.out) (Hg.out.keep HB.out) (Hl.out.keep HB.out)).mono ?_; rintro e X1 ⟨v1, rfl, hv, hbx⟩; obtain ⟨C1, k1, c1, rfl, -, h1, -⟩ := hv; have HI1 := Lib.hid h1; clear h1; clear KYl KYc KYf; replace KY := KY.keep hbx; have KYl := KY.lt; have KYc := KY.get; have KYf := KY.fr; clear KSl KSc KSf; replace KS := KS.keep hbx; have KSl := KS.lt; have KSc := KS.get; have KSf := KS.fr; replace HB := Lib.hid (up HB.out hbx); clear hbx)
    | (refine wpList_putNew 53 7 19 rfl rfl rfl rfl (by kernel_rfl) rfl (by simp [Value.oneCell']) ?_; intro T1 K1 hbt hst; clear hst; replace HI1 := Lib.hid (HI1.out.keep hbt); clear KYl KYc KYf; replace KY := KY.keep hbt; have KYl := KY.lt; have KYc := KY.get; have KYf := KY.fr; clear KSl KSc KSf; replace KS := KS.keep hbt; have KSl := KS.lt; have KSc := KS.get; have KSf := KS.fr; replace HB := Lib.hid (up HB.out hbt); clear hbt; have K1l := K1.lt; have K1c := K1.get; have K1f := K1.fr))
  go_upto_region 3 with (first
    | (go_at_call 43; refine (rRefuse_any A n c P B m d K L r s l _ (Hp.out.keep HB.out) (Hg.out.keep HB.out) (Hl.out.keep HB.out)).mono ?_; rintro e X2 ⟨v2, rfl, hv, hbx⟩; obtain ⟨C2, k2, c2, rfl, -, h2, -⟩ := hv; have HI2 := Lib.hid h2; clear h2; replace HI1 := Lib.hid (HI1.out.keep hbx); clear KYl KYc KYf; replace KY := KY.keep hbx; have KYl := KY.lt; have KYc := KY.get; have KYf := KY.fr; clear KSl KSc KSf; replace KS := KS.keep hbx; have KSl := KS.lt; have KSc := KS.get; have KSf := KS.fr; clear K1l K1c K1f; replace K1 := K1.keep hbx; have K1l := K1.lt; have K1c := K1.get; have K1f := K1.fr; replace HB := Lib.hid (up HB.out hbx); clear hbx)
    | (refine wpList_putNew 53 9 25 rfl rfl rfl rfl (by kernel_rfl) rfl (by simp [Value.oneCell']) ?_; intro T2 K2 hbt hst; clear hst; replace HI1 := Lib.hid (HI1.out.keep hbt); replace HI2 := Lib.hid (HI2.out.keep hbt); clear KYl KYc KYf; replace KY := KY.keep hbt; have KYl := KY.lt; have KYc := KY.get; have KYf := KY.fr; clear KSl KSc KSf; replace KS := KS.keep hbt; have KSl := KS.lt; have KSc := KS.get; have KSf := KS.fr; clear K1l K1c K1f; replace K1 := K1.keep hbt; have K1l := K1.lt; have K1c := K1.get; have K1f := K1.fr; replace HB := Lib.hid (up HB.out hbt); clear hbt; have K2l := K2.lt; have K2c := K2.get; have K2f := K2.fr))
  generalize (refP P K l).2 = RL at *
  generalize (refP P K l).1 = RK at *
  generalize refE P K l = RE at *
  go_upto_region 4 with (go_at_call 44; refine (Fewest_any A n c P B m d K L r s l _ (Hp.out.keep HB.out) (Hg.out.keep HB.out) (Hl.out.keep HB.out)).mono ?_; rintro e X3 ⟨v3, rfl, hv, hbx⟩; obtain ⟨C3, k3, c3, rfl, -, h3, -⟩ := hv; have HI3 := Lib.hid h3; clear h3; replace HI1 := Lib.hid (HI1.out.keep hbx); replace HI2 := Lib.hid (HI2.out.keep hbx); clear KYl KYc KYf; replace KY := KY.keep hbx; have KYl := KY.lt; have KYc := KY.get; have KYf := KY.fr; clear KSl KSc KSf; replace KS := KS.keep hbx; have KSl := KS.lt; have KSc := KS.get; have KSf := KS.fr; clear K1l K1c K1f; replace K1 := K1.keep hbx; have K1l := K1.lt; have K1c := K1.get; have K1f := K1.fr; clear K2l K2c K2f; replace K2 := K2.keep hbx; have K2l := K2.lt; have K2c := K2.get; have K2f := K2.fr; replace HB := Lib.hid (up HB.out hbx); clear hbx)
  go_upto_region 5 with (go_at_call 45; refine (rFewest_any A n c P B m d K L r s l _ (Hp.out.keep HB.out) (Hg.out.keep HB.out) (Hl.out.keep HB.out)).mono ?_; rintro e X4 ⟨v4, rfl, hv, hbx⟩; obtain ⟨C4, k4, c4, rfl, -, h4, -⟩ := hv; have HI4 := Lib.hid h4; clear h4; replace HI1 := Lib.hid (HI1.out.keep hbx); replace HI2 := Lib.hid (HI2.out.keep hbx); replace HI3 := Lib.hid (HI3.out.keep hbx); clear KYl KYc KYf; replace KY := KY.keep hbx; have KYl := KY.lt; have KYc := KY.get; have KYf := KY.fr; clear KSl KSc KSf; replace KS := KS.keep hbx; have KSl := KS.lt; have KSc := KS.get; have KSf := KS.fr; clear K1l K1c K1f; replace K1 := K1.keep hbx; have K1l := K1.lt; have K1c := K1.get; have K1f := K1.fr; clear K2l K2c K2f; replace K2 := K2.keep hbx; have K2l := K2.lt; have K2c := K2.get; have K2f := K2.fr; replace HB := Lib.hid (up HB.out hbx); clear hbx)
  generalize fewL P K l = FL at *
  generalize fewE P K l = FE at *
  have H29a : Hid (∀ V, Below X4.heap.size X4 V → Calls Tryz.prog 29 #[.slice C1 k1 c1, .slice C2 k2 c2] V fun e w' => e = .returned (.bool true) ∧ Below V.heap.size V w') := Lib.hid (fun V hV => same_t6 RL (HI1.out.keep hV) (HI2.out.keep hV))
  have H29b : Hid (∀ V, Below X4.heap.size X4 V → Calls Tryz.prog 29 #[.slice C3 k3 c3, .slice C4 k4 c4] V fun e w' => e = .returned (.bool true) ∧ Below V.heap.size V w') := Lib.hid (fun V hV => same_t6 FL (HI3.out.keep hV) (HI4.out.keep hV))
  have H46 : Hid (∀ V, Below w.heap.size w V → Calls Tryz.prog 46 #[.agg #[.slice A n c, .slice B m d], .slice L r s, .agg #[.int .i64 kd, .slice D x y]] V fun e w' => e = .returned (.int .i64 (rsnE P K l kd b)) ∧ Below V.heap.size V w') := Lib.hid (fun V hV => checkRefusal_g A n c P B m d K L r s l kd D x y b V (Hp.out.keep hV) (Hg.out.keep hV) (Hl.out.keep hV) (Hd.out.keep hV) Hxy.out)
  have H47 : Hid (∀ V, Below w.heap.size w V → Calls Tryz.prog 47 #[.agg #[.slice A n c, .slice B m d], .slice L r s, .agg #[.int .i64 kd, .slice D x y]] V fun e w' => e = .returned (.int .i64 (rsnE P K l kd b)) ∧ Below V.heap.size V w') := Lib.hid (fun V hV => rCheckRefusal_any A n c P B m d K L r s l V (Hp.out.keep hV) (Hg.out.keep hV) (Hl.out.keep hV) kd D x y b (Hd.out.keep hV))
  generalize rsnE P K l kd b = RR at *
  clear HI1 HI2 HI3 HI4 Hp Hg Hl Hd Hxy
  refine wp_region_grow (by kernel_rfl) (by kernel_rfl) ?_
  repeat (go_big_quiet_step ((first | (go_at_call_of 29 (Value.slice C1 k1 c1); exact quiet_grow rfl (H29a.out _ (grow_below _ _))) | (go_at_call_of 29 (Value.slice C3 k3 c3); exact quiet_grow rfl (H29b.out _ (grow_below _ _))) | (go_at_call 46; exact quiet_grow rfl (H46.out _ (up HB.out (grow_below _ _)))) | (go_at_call 47; exact quiet_grow rfl (H47.out _ (up HB.out (grow_below _ _)))) | (go_at_call 22; exact quiet_grow rfl (sane_any _)))))
  refine wpQuiet_nil ?_
  intro z
  go_wp2
  go_ret
  exact ⟨rfl, up HB.out (grow_below _ _)⟩

theorem penRefuses_lifted (os : Os) (started : os.Started) (H : Type) (enc : TypeId × Value → H) :
    ReturnsInHanded {} Tryz.checked os 6 .any (Rows.penRefusesSpec.pre6 enc Tryz.prog Tryz.f6 Rows.penRefusesRow.domain false) (Rows.penRefusesSpec.post enc Tryz.prog Tryz.f6 false true false false) := by
  refine law_lift started (by kernel_rfl) Tryz.func6 (ChangeSpec.witness6 (enc := enc) (C := Tryz.checked) false ⟨#[], #[.agg #[.slice none 0 0, .slice none 0 0], .slice none 0 0, .agg #[.int .i64 0, .slice none 0 0]], []⟩ 8 (by kernel_rfl) (by kernel_rfl) (by kernel_rfl) (by kernel_rfl))
    rfl rfl (fun ds h => ?_) ?_ ?_
  · match ds, h with
    | [a, b, c], _ => rfl
  · rw [Tryz.params6]; intro t ht; simp at ht; rcases ht with rfl | rfl | rfl <;> exact ⟨by kernel_rfl, of_decide_eq_true (by kernel_rfl)⟩
  · intro W base args ds p hval hA hz
    rw [Tryz.params6] at hA hval hz
    obtain ⟨v0, v1, v2, d0, d1, d2, p0, p1, p2, rfl, rfl, rfl, h0, h1, h2⟩ := trodAll_three hA
    obtain ⟨A, n, c, P, B, m, d, K, rfl, hp, hg, _, _⟩ := open_yard (hval 0 25 v0 rfl rfl) h0 (hz 0 25 d0 rfl rfl)
    obtain ⟨L, r, s, l, rfl, hl, _, _, _⟩ := open_is (hval 1 22 v1 rfl rfl) h1 (hz 1 22 d1 rfl rfl)
    obtain ⟨kd, D, x, y, b, rfl, hd, hxy, hy⟩ := open_ref (hval 2 53 v2 rfl rfl) h2 (hz 2 53 d2 rfl rfl)
    exact penRefuses_any A n c P B m d K L r s l kd D x y b W hp hg hl hd ⟨hxy, hy⟩

theorem penRefuses_holds : Rows.PenRefusesSaid :=
  OpenClaim.holds_of_wide 6 Tryz.f6 rfl rfl rfl rfl rfl rfl rfl ⟨rfl, rfl, rfl, rfl, rfl⟩ rfl rfl rfl rfl rfl (by kernel_rfl) Tryz.func6 (by kernel_rfl)
    (of_decide_eq_true (by kernel_rfl)) (by unfold Func.isWrapper; first | (rw [if_pos (by decide +kernel)]; kernel_rfl) | (rw [if_neg (by decide +kernel)]; exact ⟨rfl, rfl⟩))
    (fun os started H enc _ => penRefuses_lifted os started H enc)
end Go.Proofs.YtifokapcobgjiaaGreat

