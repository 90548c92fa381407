/- The signs of a set, whether a list has a number, what may be read of a mark: the reference. Own text. -/
import Derived.Test.YtpahbpgkmebieaaW30
namespace Go.Proofs.Ytpahbpgkmebieaa
open Go Go.RowKit
set_option maxHeartbeats 400000
set_option maxRecDepth 100000

theorem members_any (a : Int) (w : World) :
    Calls Try.prog 63 #[.int .i64 a] w fun e w' => ∃ v, e = .returned v ∧ w'.ownsRow w.heap.size 3 1 v (sgK a 5).length (ints (sgK a 5)) ∧ Below w.heap.size w w' := by
  obtain ⟨i0, hi, hz0, hz1, hz2⟩ := info_parts info3
  have HI := Lib.hid hi
  have HZ0 := Lib.hid hz0
  have HZ1 := Lib.hid hz1
  have HZ2 := Lib.hid hz2
  clear hi hz0 hz1 hz2
  go_enter Try.func63, Try.ntmps63
  go_wp2
  go_loopw [3, 4] (fun v i wr => ∃ (k : Nat) (z : Gr), k ≤ 5 ∧ i = .int .i64 k ∧ wr = grow w z ∧ (grow w z).ownsRow w.heap.size 3 1 v (sgK a k).length (ints (sgK a k))) (fun _ i _ => 5 - (intOf i).toNat)
  case atStart => exact ⟨0, ⟨#[], w.drawn⟩, by omega, rfl, by simp [grow], World.ownsRow_nil _ _ _ _⟩
  case round =>
    obtain ⟨k, z, hk, rfl, rfl, hown⟩ := hrel
    have Hown := Lib.hid hown; clear hown
    by_cases hlt : k < 5
    · have hln := sgK_len a k
      have hp := p2n k hlt
      have Hy : Hid (hasB a k = true → sgK a (k + 1) = sgK a k ++ [(k : Int)]) := Lib.hid (fun h => by rw [sgK, if_pos h])
      have Hn : Hid (hasB a k = false → sgK a (k + 1) = sgK a k) := Lib.hid (fun h => by rw [sgK, if_neg (by rw [h]; simp)])
      generalize hX : sgK a k = X at *
      have HX := Lib.hid hX
      clear hX
      generalize hnX : X.length = nX at *
      have HnX := Lib.hid hnX
      clear hnX
      cases hh : hasB a k
      · have hb1 : (bits BinOp.and IntKind.i64 a (2 ^ k) != 0) = false := hh
        have hb2 : (bits BinOp.and IntKind.i64 a (2 ^ k) == 0) = true := by simpa [bne] using hb1
        have Hh := Lib.hid hh
        clear hh
        go_wp2
        refine ⟨⟨k + 1, z, by omega, by go_num, rfl, ?_⟩, by simp [intOf]; omega⟩
        rw [Hn.out Hh.out, HnX.out]; exact Hown.out
      · have hb1 : (bits BinOp.and IntKind.i64 a (2 ^ k) != 0) = true := hh
        have hb2 : (bits BinOp.and IntKind.i64 a (2 ^ k) == 0) = false := by simpa [bne] using hb1
        have Hh := Lib.hid hh
        clear hh
        go_wp2_with (at_builtin; refine wpList_append_own _ rfl _ _ 54 rfl w.heap.size 3 i0 (.int .i64 0) 1 8 Try.underlying54 HI.out HZ0.out HZ1.out HZ2.out rfl (by decide) _ _ _ rfl (Hown.out.alloc _) ⟨w.heap.size + z.blocks.size, 0, none⟩ 1 1 [.int .i64 k] rfl rfl ?c1 ?c2 ?c3 ?c4 ?c5 ?_)
        case c1 =>
          intro j u hu
          rw [Addr.add_lit, World.cell?_alloc_at _ _ _ _ (by simp), Nat.zero_add]
          simpa using hu
        case c2 => intro u hu; simp at hu; subst hu; rfl
        case c3 => unfold maxLen; omega
        case c4 => omega
        case c5 => simp; omega
        intro v' w' hown' hgr _
        have hbel : Below w.heap.size w w' := (up (grow_below w z) (up_alloc _ _)).grown hgr (by simp; omega) (fun q hq => (Hown.out.lt q hq).1)
        have Hown' := Lib.hid hown'
        clear hown' hgr
        obtain ⟨y3, rfl⟩ := below_grow hbel
        go_wp2
        refine ⟨⟨k + 1, y3, by omega, by go_num, rfl, ?_⟩, by simp [intOf]; omega⟩
        rw [Hy.out Hh.out, ints_snoc, List.length_append, HnX.out]
        exact Hown'.out
    · obtain rfl : k = 5 := by omega
      go_wp2
      go_ret
      exact ⟨_, rfl, Hown.out, grow_below w z⟩

/-- Has a list a number? -/
def hasL (l : List Int) (x : Int) : Bool := l.any (· == x)
theorem hasL_yes {l : List Int} {k : Nat} {x : Int} (hk : k < l.length) (h : l[k] = x) : hasL l x = true := by
  unfold hasL; rw [List.any_eq_true]; exact ⟨l[k], List.getElem_mem hk, by simp [h]⟩
theorem has_any' (A : Option Addr) (n c : Nat) (l : List Int) (x : Int) (w : World) (hg : Is w A n l) :
    Calls Try.prog 62 #[.slice A n c, .int .i64 x] w fun e w' => e = .returned (.bool (hasL l x)) ∧ w = w' := by
  have hn := hg.small
  have Hl : Hid (n = l.length) := Lib.hid hg.len
  go_enter Try.func62, Try.ntmps62
  go_wp2
  go_loop [5] (fun i => ∃ k : Nat, k ≤ n ∧ i = .int .i64 k ∧ hasL (l.take k) x = false) (fun i => n - (intOf i).toNat)
  case atStart => exact ⟨0, by omega, rfl, rfl⟩
  case round =>
    obtain ⟨k, hk, rfl, hp⟩ := hrel
    have Hp := Lib.hid hp; clear hp
    by_cases hlt : k < n
    · have hkl : k < l.length := by rw [← Hl.out]; exact hlt
      have Htk : Hid (l.take (k + 1) = l.take k ++ [l[k]]) := Lib.hid (List.take_succ_eq_append_getElem hkl)
      have Hyes := Lib.hid (hasL_yes (x := x) hkl)
      obtain ⟨b, o, rfl, hb, hc⟩ := hg.get k hkl
      generalize l[k] = y at *
      by_cases h1 : y = x
      · have hbb : (y == x) = true := by simpa using h1
        have H1 := Lib.hid h1
        clear h1
        go_wp2
        go_ret
        exact ⟨congrArg (fun v => Ending.returned (Value.bool v)) (Hyes.out H1.out).symm, rfl⟩
      · have hbb : (y == x) = false := by simpa using h1
        have H1 := Lib.hid hbb
        clear h1
        go_wp2
        refine ⟨⟨k + 1, by omega, by go_num, ?_⟩, by simp [intOf]; omega⟩
        rw [Htk.out]; unfold hasL; rw [List.any_append, show (l.take k).any (· == x) = false from Hp.out]; simp [H1.out]
    · obtain rfl : k = n := by omega
      go_wp2
      go_ret
      refine ⟨congrArg (fun v => Ending.returned (Value.bool v)) ?_, rfl⟩
      have := Hp.out
      rw [List.take_of_length_le (by rw [← Hl.out]; exact Nat.le_refl _)] at this
      exact this.symm

theorem atL_pickL (l : List Int) (k : Nat) : atL l (k : Int) = pickL l k := by
  unfold atL pickL
  rw [← Int.natCast_emod, Int.toNat_natCast]
/-- A valid sign, and an index: what Members and the picks give. -/
theorem refWorn_any (w0 w1 w2 w3 w4 m0 m1 m2 m3 m4 m5 : Int) (A : Option Addr) (n c : Nat) (l : List Int) (w : World) (hg : Is w A n l) (hn : n ≤ 4611686018427387904) :
    Calls Try.prog 55 #[.agg #[.int .i64 w0, .int .i64 w1, .int .i64 w2, .int .i64 w3, .int .i64 w4], .agg #[.int .i64 m0, .int .i64 m1, .int .i64 m2, .int .i64 m3, .int .i64 m4, .int .i64 m5], .slice A n c] w fun e w' => e = .returned (.tuple #[.agg #[.int .i64 (wornV w0 w1 w2 w3 w4 m0 m1 m2 m3 m4 m5 l 0), .int .i64 (wornV w0 w1 w2 w3 w4 m0 m1 m2 m3 m4 m5 l 1), .int .i64 (wornV w0 w1 w2 w3 w4 m0 m1 m2 m3 m4 m5 l 2), .int .i64 (wornV w0 w1 w2 w3 w4 m0 m1 m2 m3 m4 m5 l 3), .int .i64 (wornV w0 w1 w2 w3 w4 m0 m1 m2 m3 m4 m5 l 4), .int .i64 (wornV w0 w1 w2 w3 w4 m0 m1 m2 m3 m4 m5 l 5)], .int .i64 (wornE w0 w1 w2 w3 w4 m0 m1 m2 m3 m4 m5)]) ∧ Below w.heap.size w w' := by
  go_enter Try.func55, Try.ntmps55
  go_wp2_with fail
  generalize hW : (World.alloc _ _) = W
  have HW : Hid (Below w.heap.size w W) := Lib.hid (by subst hW; go_grown)
  have KW : Bk W w.heap.size [Value.int .i64 w0, Value.int .i64 w1, Value.int .i64 w2, Value.int .i64 w3, Value.int .i64 w4] := ⟨by subst hW; simp only [World.size_alloc]; omega, by subst hW; intro j; simp [go_sem]⟩
  have KM : Bk W (w.heap.size + 1) [Value.int .i64 m0, Value.int .i64 m1, Value.int .i64 m2, Value.int .i64 m3, Value.int .i64 m4, Value.int .i64 m5] := ⟨by subst hW; simp only [World.size_alloc]; omega, by subst hW; intro j; simp [go_sem]⟩
  have KX : Bk W (w.heap.size + 1 + 1) [.int .i64 0, .int .i64 0, .int .i64 0, .int .i64 0, .int .i64 0, .int .i64 0] := ⟨by subst hW; simp only [World.size_alloc]; omega, by subst hW; intro j; simp [go_sem]⟩
  have FX : Hid (∀ j, W.frozen? ⟨w.heap.size + 1 + 1, j, none⟩ = false) := Lib.hid (by subst hW; intro j; simp [go_sem])
  clear hW
  have HG := Lib.hid (hg.keep HW.out)
  have Hv0 : Hid (wornE w0 w1 w2 w3 w4 m0 m1 m2 m3 m4 m5 ≠ 0 → ∀ k, wornV w0 w1 w2 w3 w4 m0 m1 m2 m3 m4 m5 l k = 0) := Lib.hid (fun h k => by unfold wornV; rw [if_neg h])
  cases hw : okW w0 w1 w2 w3 w4
  · have Hw := Lib.hid hw
    clear hw
    refine (refCheckWear_no w0 w1 w2 w3 w4 W Hw.out).mono ?_; rintro e V ⟨rfl, hb1⟩
    have frV : ∀ j, V.frozen? ⟨w.heap.size + 1 + 1, j, none⟩ = false := fun j => (hb1.frozen (p := ⟨w.heap.size + 1 + 1, j, none⟩) KX.lt).trans (FX.out j)
    replace KX := KX.keep hb1
    have KXl := KX.lt; have KXc := KX.get
    have HB1 := Lib.hid hb1
    clear hb1
    have Ex : Hid (∀ j, j < 6 → (V.cell? ⟨w.heap.size + 1 + 1, j, none⟩).isSome = true) := Lib.hid (by
      intro j hj
      rw [KXc j]
      rcases (by omega : j = 0 ∨ j = 1 ∨ j = 2 ∨ j = 3 ∨ j = 4 ∨ j = 5) with rfl | rfl | rfl | rfl | rfl | rfl <;> rfl)
    go_wp2
    have P := put6 V (w.heap.size + 1 + 1) (.int .i64 0) (.int .i64 0) (.int .i64 0) (.int .i64 0) (.int .i64 0) (.int .i64 0) Ex.out
    have B := put6_below (up HW.out HB1.out) (by omega : w.heap.size ≤ w.heap.size + 1 + 1) (.int .i64 0) (.int .i64 0) (.int .i64 0) (.int .i64 0) (.int .i64 0) (.int .i64 0)
    generalize World.setCell _ ⟨w.heap.size + 1 + 1, 5, none⟩ _ = U at P B ⊢
    have p0 := P 0 (by omega); have p1 := P 1 (by omega); have p2 := P 2 (by omega); have p3 := P 3 (by omega); have p4 := P 4 (by omega); have p5 := P 5 (by omega)
    clear P
    simp at p0 p1 p2 p3 p4 p5
    refine bodyPost_ret (v := .tuple #[.agg #[.int .i64 0, .int .i64 0, .int .i64 0, .int .i64 0, .int .i64 0, .int .i64 0], .int .i64 11]) (by simp [results, Try.results55, go_sem, p0, p1, p2, p3, p4, p5]) rfl ⟨?_, B⟩
    have E : wornE w0 w1 w2 w3 w4 m0 m1 m2 m3 m4 m5 = 11 := by unfold wornE; rw [firstE_cons, err_f (b := okW w0 w1 w2 w3 w4) 11 (by simp [Hw.out]), if_neg (by decide)]
    have Hv := Hv0.out (by rw [E]; decide)
    rw [Hv, Hv, Hv, Hv, Hv, Hv, E]
  have Hw := Lib.hid hw
  clear hw
  refine (refCheckWear_yes w0 w1 w2 w3 w4 W Hw.out).mono ?_; rintro e x1 ⟨rfl, hb1⟩
  have frV : ∀ j, x1.frozen? ⟨w.heap.size + 1 + 1, j, none⟩ = false := fun j => (hb1.frozen (p := ⟨w.heap.size + 1 + 1, j, none⟩) KX.lt).trans (FX.out j)
  replace HG := Lib.hid (HG.out.keep hb1)
  replace KW := KW.keep hb1; replace KM := KM.keep hb1; replace KX := KX.keep hb1
  have HB1 := Lib.hid hb1
  clear hb1
  have KWl := KW.lt; have KWc := KW.get; have KMl := KM.lt; have KMc := KM.get; have KXl := KX.lt; have KXc := KX.get
  cases hm : okM m0 m1 m2 m3 m4 m5
  · have Hm := Lib.hid hm
    clear hm
    go_wp2_with fail
    refine (refCheckMark_no m0 m1 m2 m3 m4 m5 x1 Hm.out).mono ?_; rintro e V ⟨rfl, hb2⟩
    have frV2 : ∀ j, V.frozen? ⟨w.heap.size + 1 + 1, j, none⟩ = false := fun j => (hb2.frozen (p := ⟨w.heap.size + 1 + 1, j, none⟩) KX.lt).trans (frV j)
    clear KWl KWc KMl KMc KXl KXc; replace KW := KW.keep hb2; have KWl := KW.lt; have KWc := KW.get; replace KM := KM.keep hb2; have KMl := KM.lt; have KMc := KM.get; replace KX := KX.keep hb2; have KXl := KX.lt; have KXc := KX.get; have HB2 := Lib.hid hb2; clear hb2
    have Ex : Hid (∀ j, j < 6 → (V.cell? ⟨w.heap.size + 1 + 1, j, none⟩).isSome = true) := Lib.hid (by
      intro j hj
      rw [KXc j]
      rcases (by omega : j = 0 ∨ j = 1 ∨ j = 2 ∨ j = 3 ∨ j = 4 ∨ j = 5) with rfl | rfl | rfl | rfl | rfl | rfl <;> rfl)
    go_wp2
    have P := put6 V (w.heap.size + 1 + 1) (.int .i64 0) (.int .i64 0) (.int .i64 0) (.int .i64 0) (.int .i64 0) (.int .i64 0) Ex.out
    have B := put6_below (up HW.out (up HB1.out HB2.out)) (by omega : w.heap.size ≤ w.heap.size + 1 + 1) (.int .i64 0) (.int .i64 0) (.int .i64 0) (.int .i64 0) (.int .i64 0) (.int .i64 0)
    generalize World.setCell _ ⟨w.heap.size + 1 + 1, 5, none⟩ _ = U at P B ⊢
    have p0 := P 0 (by omega); have p1 := P 1 (by omega); have p2 := P 2 (by omega); have p3 := P 3 (by omega); have p4 := P 4 (by omega); have p5 := P 5 (by omega)
    clear P
    simp at p0 p1 p2 p3 p4 p5
    refine bodyPost_ret (v := .tuple #[.agg #[.int .i64 0, .int .i64 0, .int .i64 0, .int .i64 0, .int .i64 0, .int .i64 0], .int .i64 10]) (by simp [results, Try.results55, go_sem, p0, p1, p2, p3, p4, p5]) rfl ⟨?_, B⟩
    have E : wornE w0 w1 w2 w3 w4 m0 m1 m2 m3 m4 m5 = 10 := by unfold wornE; rw [firstE_cons, err_t (b := okW w0 w1 w2 w3 w4) 11 Hw.out, if_pos rfl, firstE_cons, err_f (b := okM m0 m1 m2 m3 m4 m5) 10 (by simp [Hm.out]), if_neg (by decide)]
    have Hv := Hv0.out (by rw [E]; decide)
    rw [Hv, Hv, Hv, Hv, Hv, Hv, E]
  have Hm := Lib.hid hm
  obtain ⟨⟨p0, q0⟩, ⟨p1, q1⟩, ⟨p2, q2⟩, ⟨p3, q3⟩, ⟨p4, q4⟩, ⟨p5, q5⟩⟩ := (okM_iff _ _ _ _ _ _).1 hm
  clear hm
  have E : Hid (wornE w0 w1 w2 w3 w4 m0 m1 m2 m3 m4 m5 = 0) := Lib.hid (by unfold wornE; rw [err_t (b := okW w0 w1 w2 w3 w4) 11 Hw.out, err_t (b := okM m0 m1 m2 m3 m4 m5) 10 Hm.out]; rfl)
  have Hva : Hid (∀ k, wornV w0 w1 w2 w3 w4 m0 m1 m2 m3 m4 m5 l k = wornAt w0 w1 w2 w3 w4 m0 m1 m2 m3 m4 m5 l k) := Lib.hid (fun k => by unfold wornV; rw [if_pos E.out])
  go_wp2_with fail
  refine (refCheckMark_yes m0 m1 m2 m3 m4 m5 x1 Hm.out).mono ?_; rintro e V ⟨rfl, hb2⟩
  have frV2 : Hid (∀ j, V.frozen? ⟨w.heap.size + 1 + 1, j, none⟩ = false) := Lib.hid (fun j => (hb2.frozen (p := ⟨w.heap.size + 1 + 1, j, none⟩) KX.lt).trans (frV j))
  clear frV
  replace HG := Lib.hid (HG.out.keep hb2)
  clear KWl KWc KMl KMc KXl KXc; replace KW := KW.keep hb2; have KWl := KW.lt; have KWc := KW.get; replace KM := KM.keep hb2; have KMl := KM.lt; have KMc := KM.get; replace KX := KX.keep hb2; have KXl := KX.lt; have KXc := KX.get; have HB2 := Lib.hid hb2; clear hb2
  go_wp2
  generalize hV2 : World.alloc V _ = V2
  have Hbx : Hid (FBox V2 V.heap.size 6 (wornAt w0 w1 w2 w3 w4 m0 m1 m2 m3 m4 m5 l) 0) := Lib.hid (by
    subst hV2
    exact ⟨by simp, fun j hj => by
      rw [World.cell?_alloc_at _ _ _ _ rfl, if_neg (by omega)]
      rcases (by omega : j = 0 ∨ j = 1 ∨ j = 2 ∨ j = 3 ∨ j = 4 ∨ j = 5) with rfl | rfl | rfl | rfl | rfl | rfl <;> rfl, fun j => World.frozen?_alloc_at _ _ _ _ rfl⟩)
  have HV0 : Hid (Below V.heap.size V V2) := Lib.hid (by subst hV2; exact up_alloc _ _)
  clear hV2
  clear KWl KWc KMl KMc KXl KXc
  go_loopw [9] (fun i wr => ∃ (k : Nat), k ≤ 6 ∧ i = .int .i64 k ∧ Below V.heap.size V wr ∧ FBox wr V.heap.size 6 (wornAt w0 w1 w2 w3 w4 m0 m1 m2 m3 m4 m5 l) k) (fun i _ => 6 - (intOf i).toNat)
  case atStart => exact ⟨0, by omega, rfl, HV0.out, Hbx.out⟩
  case round =>
    obtain ⟨k, hk, rfl, hbw, hbx⟩ := hrel
    have Hbw := Lib.hid hbw
    have Hbx2 := Lib.hid hbx
    clear hbw hbx
    by_cases hlt : k < 6
    · have bm : 0 ≤ g6 m0 m1 m2 m3 m4 m5 k ∧ g6 m0 m1 m2 m3 m4 m5 k < 5 := by
        rcases (by omega : k = 0 ∨ k = 1 ∨ k = 2 ∨ k = 3 ∨ k = 4 ∨ k = 5) with rfl | rfl | rfl | rfl | rfl | rfl <;> exact ⟨by assumption, by assumption⟩
      obtain ⟨bm0, bm1⟩ := bm
      have hne := worn_ne Hw.out bm0 bm1
      have Hval : Hid (wornAt w0 w1 w2 w3 w4 m0 m1 m2 m3 m4 m5 l k = pickS (g5 w0 w1 w2 w3 w4 (g6 m0 m1 m2 m3 m4 m5 k)) (pickL l k)) := Lib.hid rfl
      have lw : w.heap.size < wr.heap.size := (KW.keep Hbw.out).lt
      have lm : w.heap.size + 1 < wr.heap.size := (KM.keep Hbw.out).lt
      have cm : wr.cell? ⟨w.heap.size + 1, k, none⟩ = some (.int .i64 (g6 m0 m1 m2 m3 m4 m5 k)) := ((KM.keep Hbw.out).get k).trans (at6n _ _ _ _ _ _ k hlt)
      have cw : wr.cell? ⟨w.heap.size, (g6 m0 m1 m2 m3 m4 m5 k).toNat, none⟩ = some (.int .i64 (g5 w0 w1 w2 w3 w4 (g6 m0 m1 m2 m3 m4 m5 k))) := ((KW.keep Hbw.out).get _).trans (at5 _ _ _ _ _ _ bm0 bm1)
      generalize g6 m0 m1 m2 m3 m4 m5 k = s at *
      generalize g5 w0 w1 w2 w3 w4 s = a at *
      have Hpk := Lib.hid (atL_pickL l k)
      generalize hp : pickL l k = p at *
      have Hp := Lib.hid hp
      clear hp
      have hln := sgK_len a 5
      obtain ⟨q, hq⟩ := Int.eq_ofNat_of_zero_le (Int.emod_nonneg p (by omega : ((sgK a 5).length : Int) ≠ 0))
      have hql : q < (sgK a 5).length := by have := Int.emod_lt_of_pos p (by omega : (0 : Int) < ((sgK a 5).length : Int)); omega
      have hx := sgK_in a 5 _ (List.getElem_mem hql)
      have Hv2 : Hid (pickS a p = 2 ^ ((sgK a 5)[q]).toNat) := Lib.hid (by unfold pickS; rw [hq]; simp [hql])
      obtain ⟨hx0, hx5⟩ := hx
      have Hq := Lib.hid hq
      clear hq
      have HS : Hid (∀ (w1 : World) (A' : Option Addr) (c' : Nat), Is w1 A' (sgK a 5).length (sgK a 5) → ∃ b o, A' = some ⟨b, o, none⟩ ∧ b < w1.heap.size ∧ w1.cell? ⟨b, o + q, none⟩ = some (.int .i64 (sgK a 5)[q])) := Lib.hid (fun w1 A' c' h => h.get q hql)
      have hp2 := p2_wrap ((sgK a 5)[q]) hx0 hx5
      generalize (sgK a 5)[q] = x at *
      go_wp2_with (first
        | (go_at_call 63; refine (members_any _ _).mono ?_; rintro e x3 ⟨v, rfl, hown, hb3⟩; have HRB := Lib.hid (Hbx2.out.keep hb3); have HB3 := Lib.hid (Hbw.out.trans (hb3.mono (by have := Hbx2.out.lt; omega))); clear hb3; obtain ⟨A', c', rfl, _, his⟩ := Is.of_own hown; clear hown; obtain ⟨bb, oo, rfl, hbb, hcc⟩ := HS.out _ _ c' his; clear his; have f1 := HRB.out.cell k hlt; have f2 := HRB.out.fro k)
        | (go_at_call 59; refine (at_any _ _ _ l k _ (HG.out.keep HB3.out) hn).mono ?_; rintro e x4 ⟨rfl, rfl⟩; rw [Hpk.out])
        | (go_at_call 58; refine (mod_any _ _ _ (by omega) (by omega)).mono ?_; rintro e x4 ⟨rfl, rfl⟩; rw [Hq.out]))
      have Hfin : Hid (wornAt w0 w1 w2 w3 w4 m0 m1 m2 m3 m4 m5 l k = 2 ^ x.toNat) := Lib.hid (Hval.out.trans Hv2.out)
      refine ⟨⟨k + 1, by omega, by go_num, HB3.out.setCell (Nat.le_refl _) _, ?_⟩, by simp [intOf]; omega⟩
      exact HRB.out.put hlt _ Hfin.out (fun _ _ => rfl)
    · obtain rfl : k = 6 := by omega
      have hlt6 := Hbx2.out.lt
      have d0 := Hbx2.out.cell 0 (by omega); have d1 := Hbx2.out.cell 1 (by omega); have d2 := Hbx2.out.cell 2 (by omega); have d3 := Hbx2.out.cell 3 (by omega); have d4 := Hbx2.out.cell 4 (by omega); have d5 := Hbx2.out.cell 5 (by omega)
      simp only [show (0 : Nat) < 6 by decide, show (1 : Nat) < 6 by decide, show (2 : Nat) < 6 by decide, show (3 : Nat) < 6 by decide, show (4 : Nat) < 6 by decide, show (5 : Nat) < 6 by decide, if_true] at d0 d1 d2 d3 d4 d5
      have fr3 : ∀ j, wr.frozen? ⟨w.heap.size + 1 + 1, j, none⟩ = false := fun j => (Hbw.out.frozen (p := ⟨w.heap.size + 1 + 1, j, none⟩) KX.lt).trans (frV2.out j)
      replace KX := KX.keep Hbw.out
      have KXl := KX.lt; have KXc := KX.get
      have Ex : Hid (∀ j, j < 6 → (wr.cell? ⟨w.heap.size + 1 + 1, j, none⟩).isSome = true) := Lib.hid (by
        intro j hj
        rw [KXc j]
        rcases (by omega : j = 0 ∨ j = 1 ∨ j = 2 ∨ j = 3 ∨ j = 4 ∨ j = 5) with rfl | rfl | rfl | rfl | rfl | rfl <;> rfl)
      clear KX
      have HBf := Lib.hid (up HW.out (up HB1.out (up HB2.out Hbw.out)))
      generalize wornAt w0 w1 w2 w3 w4 m0 m1 m2 m3 m4 m5 l = f at *
      go_wp2
      have P := put6 wr (w.heap.size + 1 + 1) (.int .i64 (f 0)) (.int .i64 (f 1)) (.int .i64 (f 2)) (.int .i64 (f 3)) (.int .i64 (f 4)) (.int .i64 (f 5)) Ex.out
      have B := put6_below (HBf.out) (by omega : w.heap.size ≤ w.heap.size + 1 + 1) (.int .i64 (f 0)) (.int .i64 (f 1)) (.int .i64 (f 2)) (.int .i64 (f 3)) (.int .i64 (f 4)) (.int .i64 (f 5))
      generalize World.setCell _ ⟨w.heap.size + 1 + 1, 5, none⟩ _ = U at P B ⊢
      have p0 := P 0 (by omega); have p1 := P 1 (by omega); have p2 := P 2 (by omega); have p3 := P 3 (by omega); have p4 := P 4 (by omega); have p5 := P 5 (by omega)
      clear P
      simp at p0 p1 p2 p3 p4 p5
      refine bodyPost_ret (v := .tuple #[.agg #[.int .i64 (f 0), .int .i64 (f 1), .int .i64 (f 2), .int .i64 (f 3), .int .i64 (f 4), .int .i64 (f 5)], .int .i64 0]) (by simp [results, Try.results55, go_sem, p0, p1, p2, p3, p4, p5]) rfl ⟨?_, B⟩
      rw [Hva.out, Hva.out, Hva.out, Hva.out, Hva.out, Hva.out, E.out]
end Go.Proofs.Ytpahbpgkmebieaa
