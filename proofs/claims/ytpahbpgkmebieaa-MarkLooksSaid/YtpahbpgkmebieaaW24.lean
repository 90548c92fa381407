/- The possible owners, as the reference finds them. Own text. -/
import Derived.Test.YtpahbpgkmebieaaW22
namespace Go.Proofs.Ytpahbpgkmebieaa
open Go.RowKit
set_option maxHeartbeats 400000
set_option maxRecDepth 100000

theorem poss1 (w0 w1 w2 w3 w4 F : Int) (g : Giv) (r : Rd) : possAll w0 w1 w2 w3 w4 F [r] g = decide (wcost w0 w1 w2 w3 w4 g.m0 g.m1 g.m2 g.m3 g.m4 g.m5 r.r0 r.r1 r.r2 r.r3 r.r4 r.r5 ≤ F) := by simp [possAll, possR]

theorem refOwnersL_any (w0 w1 w2 w3 w4 F : Int) (A : Option Addr) (n c : Nat) (gs : List Giv) (r : Rd) (w : World) (hg : Gs w A n gs) (hok : ∀ g ∈ gs, g.ok) (h40 : n ≤ 40) :
    Calls Try.prog 86 #[.agg #[.int .i64 w0, .int .i64 w1, .int .i64 w2, .int .i64 w3, .int .i64 w4, .int .i64 F, .slice A n c], .agg #[.int .i64 r.r0, .int .i64 r.r1, .int .i64 r.r2, .int .i64 r.r3, .int .i64 r.r4, .int .i64 r.r5]] w fun e w' =>
      ∃ v, e = .returned v ∧ w'.ownsRow w.heap.size 3 1 v (possG w0 w1 w2 w3 w4 F [r] gs).length (ints (own (possG w0 w1 w2 w3 w4 F [r] gs))) ∧ Below w.heap.size w w' := by
  have Hl : Hid (n = gs.length) := Lib.hid hg.len
  have HK := Lib.hid hok
  clear hok
  obtain ⟨i0, hi, hz0, hz1, hz2⟩ := info_parts info3
  have HI := Lib.hid hi
  have HZ0 := Lib.hid hz0
  have HZ1 := Lib.hid hz1
  have HZ2 := Lib.hid hz2
  clear hi hz0 hz1 hz2
  go_enter Try.func86, Try.ntmps86
  go_wp2
  generalize hW : (World.alloc _ _) = W
  have HW : Hid (Below w.heap.size w W) := Lib.hid (by subst hW; go_grown)
  have KM : Bk W w.heap.size [.int .i64 w0, .int .i64 w1, .int .i64 w2, .int .i64 w3, .int .i64 w4, .int .i64 F, .slice A n c] := ⟨by subst hW; simp only [World.size_alloc]; omega, by subst hW; intro j; simp [go_sem]⟩
  have KR : Bk W (w.heap.size + 1) [.int .i64 r.r0, .int .i64 r.r1, .int .i64 r.r2, .int .i64 r.r3, .int .i64 r.r4, .int .i64 r.r5] := ⟨by subst hW; simp only [World.size_alloc]; omega, by subst hW; intro j; simp [go_sem]⟩
  clear hW
  have KMl := KM.lt; have KMc := KM.get; have KRl := KR.lt; have KRc := KR.get
  have Hg1 := Lib.hid (hg.keep HW.out)
  go_loopw [5, 6] (fun v i wr => ∃ (k : Nat) (z : Gr), k ≤ n ∧ i = .int .i64 k ∧ wr = grow W z ∧ (grow W z).ownsRow W.heap.size 3 1 v (possG w0 w1 w2 w3 w4 F [r] (gs.take k)).length (ints (own (possG w0 w1 w2 w3 w4 F [r] (gs.take k))))) (fun _ i _ => n - (intOf i).toNat)
  case atStart => exact ⟨0, ⟨#[], W.drawn⟩, by omega, rfl, by simp [grow], World.ownsRow_nil _ _ _ _⟩
  case round =>
    obtain ⟨k, z, hk, rfl, rfl, hown⟩ := hrel
    have Hown := Lib.hid hown; clear hown
    have hklen : (possG w0 w1 w2 w3 w4 F [r] (gs.take k)).length ≤ 40 := Nat.le_trans (possG_len w0 w1 w2 w3 w4 F [r] (gs.take k)) (by simp; omega)
    have e1 : w.heap.size < W.heap.size + z.blocks.size := by omega
    have e2 : w.heap.size + 1 < W.heap.size + z.blocks.size := by omega
    by_cases hlt : k < n
    rotate_left
    · obtain rfl : k = n := by omega
      have Hf : Hid (possG w0 w1 w2 w3 w4 F [r] (gs.take k) = possG w0 w1 w2 w3 w4 F [r] gs) := Lib.hid (by rw [List.take_of_length_le (by rw [← Hl.out]; exact Nat.le_refl _)])
      go_wp2
      go_ret
      refine ⟨_, rfl, ?_, up HW.out (grow_below W z)⟩
      rw [← Hf.out]
      exact own_mono Hown.out HW.out.size
    have hkl : k < gs.length := by rw [← Hl.out]; exact hlt
    have Htk : Hid (gs.take (k + 1) = gs.take k ++ [gs[k]]) := Lib.hid (List.take_succ_eq_append_getElem hkl)
    obtain ⟨b, o, rfl, hb, hc⟩ := Hg1.out.get k hkl
    obtain ⟨c0, c1, c2, c3, c4, c5, c6⟩ := hc
    obtain ⟨⟨p0, q0⟩, ⟨p1, q1⟩, ⟨p2, q2⟩, ⟨p3, q3⟩, ⟨p4, q4⟩, ⟨p5, q5⟩⟩ := HK.out _ (List.getElem_mem hkl)
    generalize gs[k] = g at *
    have Hp := Lib.hid (poss1 w0 w1 w2 w3 w4 F g r)
    generalize hX : possG w0 w1 w2 w3 w4 F [r] (gs.take k) = X at *
    have HX := Lib.hid hX
    clear hX
    generalize hnX : X.length = nX at *
    have HnX := Lib.hid hnX
    clear hnX
    have e5 : b < W.heap.size + z.blocks.size := by omega
    go_wp2
    by_cases hp : wcost w0 w1 w2 w3 w4 g.m0 g.m1 g.m2 g.m3 g.m4 g.m5 r.r0 r.r1 r.r2 r.r3 r.r4 r.r5 ≤ F
    · have Hy : Hid (possAll w0 w1 w2 w3 w4 F [r] g = true) := Lib.hid (by rw [Hp.out]; simpa using hp)
      refine wp_region_grow (by kernel_rfl) (by kernel_rfl) ?_
      repeat (go_big_quiet_step ((go_at_call 79; exact quiet_grow rfl (refCost_any _ _ _ _ _ _ _ _ _ _ _ _ _ _ _ _ _ _ p0 q0 p1 q1 p2 q2 p3 q3 p4 q4 p5 q5))))
      refine wpQuiet_nil ?_
      intro z1
      obtain ⟨y, hy⟩ := grow_grow W z z1
      have Ho : Hid ((grow W y).ownsRow W.heap.size 3 1 _ nX (ints (own X))) := Lib.hid (by rw [← hy]; exact own_below Hown.out (grow_below _ z1))
      rw [hy]
      clear hy
      have f1 : w.heap.size < W.heap.size + y.blocks.size := by omega
      have f5 : b < W.heap.size + y.blocks.size := by omega
      go_wp2_with (at_builtin; refine wpList_append_own _ rfl _ _ 54 rfl W.heap.size 3 i0 (.int .i64 0) 1 8 Try.underlying54 HI.out HZ0.out HZ1.out HZ2.out rfl (by decide) _ _ _ rfl (Ho.out.alloc _) ⟨W.heap.size + y.blocks.size, 0, none⟩ 1 1 [.int .i64 g.o] rfl rfl ?c1 ?c2 ?c3 ?c4 ?c5 ?_)
      case c1 =>
        intro j u hu
        rw [Addr.add_lit, World.cell?_alloc_at _ _ _ _ (by simp), Nat.zero_add]
        simpa using hu
      case c2 => intro u hu; simp at hu; subst hu; rfl
      case c3 => unfold maxLen; omega
      case c4 => omega
      case c5 => simp; omega
      intro v' w' hown' hgr _
      have hbel : Below W.heap.size W w' := (up (grow_below W y) (up_alloc _ _)).grown hgr (by simp; omega) (fun q hq => (Ho.out.lt q hq).1)
      have Hown' := Lib.hid hown'
      clear hown' hgr
      obtain ⟨y2, rfl⟩ := below_grow hbel
      go_wp2
      refine ⟨⟨k + 1, y2, by omega, by go_num, rfl, ?_⟩, by simp [intOf]; omega⟩
      rw [Htk.out, possG_yes Hy.out, HX.out, own_snoc, ints_snoc, List.length_append, HnX.out]
      exact Hown'.out
    · have Hy : Hid (possAll w0 w1 w2 w3 w4 F [r] g = false) := Lib.hid (by rw [Hp.out]; simpa using hp)
      refine wp_region_grow (by kernel_rfl) (by kernel_rfl) ?_
      repeat (go_big_quiet_step ((go_at_call 79; exact quiet_grow rfl (refCost_any _ _ _ _ _ _ _ _ _ _ _ _ _ _ _ _ _ _ p0 q0 p1 q1 p2 q2 p3 q3 p4 q4 p5 q5))))
      refine wpQuiet_nil ?_
      intro z1
      obtain ⟨y, hy⟩ := grow_grow W z z1
      have Ho : Hid ((grow W y).ownsRow W.heap.size 3 1 _ nX (ints (own X))) := Lib.hid (by rw [← hy]; exact own_below Hown.out (grow_below _ z1))
      rw [hy]
      clear hy
      go_wp2
      refine ⟨⟨k + 1, y, by omega, by go_num, rfl, ?_⟩, by simp [intOf]; omega⟩
      rw [Htk.out, possG_no Hy.out, HX.out, HnX.out]
      exact Ho.out

theorem refOwners_any (w0 w1 w2 w3 w4 F : Int) (A : Option Addr) (n c : Nat) (gs : List Giv) (r : Rd) (w : World) (hg : Gs w A n gs) :
    Calls Try.prog 33 #[.agg #[.int .i64 w0, .int .i64 w1, .int .i64 w2, .int .i64 w3, .int .i64 w4, .int .i64 F, .slice A n c], .agg #[.int .i64 r.r0, .int .i64 r.r1, .int .i64 r.r2, .int .i64 r.r3, .int .i64 r.r4, .int .i64 r.r5]] w fun e w' =>
      ∃ v, e = .returned (.tuple #[v, .int .i64 (brE w0 w1 w2 w3 w4 F gs r)]) ∧ w'.ownsRow w.heap.size 3 1 v (brG w0 w1 w2 w3 w4 F gs r).length (ints (own (brG w0 w1 w2 w3 w4 F gs r))) ∧ Below w.heap.size w w' := by
  have Hl : Hid (n = gs.length) := Lib.hid hg.len
  go_enter Try.func33, Try.ntmps33
  go_wp2_with fail
  generalize hW : (World.alloc _ _) = W
  have HW : Hid (Below w.heap.size w W) := Lib.hid (by subst hW; go_grown)
  have KM : Bk W w.heap.size [.int .i64 w0, .int .i64 w1, .int .i64 w2, .int .i64 w3, .int .i64 w4, .int .i64 F, .slice A n c] := ⟨by subst hW; simp only [World.size_alloc]; omega, by subst hW; intro j; simp [go_sem]⟩
  have KR : Bk W (w.heap.size + 1) [.int .i64 r.r0, .int .i64 r.r1, .int .i64 r.r2, .int .i64 r.r3, .int .i64 r.r4, .int .i64 r.r5] := ⟨by subst hW; simp only [World.size_alloc]; omega, by subst hW; intro j; simp [go_sem]⟩
  clear hW
  have KMl := KM.lt; have KMc := KM.get; have KRl := KR.lt; have KRc := KR.get
  have HG := Lib.hid (hg.keep HW.out)
  cases hb : okB w0 w1 w2 w3 w4 F gs
  · have Hb := Lib.hid hb
    clear hb
    refine (refCheck_no _ _ _ _ _ _ _ _ _ gs _ HG.out Hb.out).mono ?_; rintro e x1 ⟨rfl, hb1⟩; clear KMl KMc KRl KRc; replace KM := KM.keep hb1; have KMl := KM.lt; have KMc := KM.get; replace KR := KR.keep hb1; have KRl := KR.lt; have KRc := KR.get; have HB1 := Lib.hid hb1; clear hb1
    go_wp2
    go_ret2
    refine ⟨_, by rw [brE_1 Hb.out]; rfl, ?_, up HW.out HB1.out⟩
    unfold brG; rw [brE_1 Hb.out]; exact World.ownsRow_nil _ _ _ _
  have Hb := Lib.hid hb
  clear hb
  refine (refCheck_yes _ _ _ _ _ _ _ _ _ gs _ HG.out Hb.out).mono ?_; rintro e x1 ⟨rfl, hb1⟩; replace HG := Lib.hid (HG.out.keep hb1); clear KMl KMc KRl KRc; replace KM := KM.keep hb1; have KMl := KM.lt; have KMc := KM.get; replace KR := KR.keep hb1; have KRl := KR.lt; have KRc := KR.get; have HB1 := Lib.hid hb1; clear hb1
  have h40 : n ≤ 40 := by have := Hl.out; have := okB_40 Hb.out; omega
  cases hr : r.ok
  · have Hr := Lib.hid hr
    clear hr
    go_wp2_with (go_at_call 19; refine (refCheckReading_no _ _ _ _ _ _ _ Hr.out).mono ?_; rintro e x2 ⟨rfl, hb2⟩; clear KMl KMc KRl KRc; replace KM := KM.keep hb2; have KMl := KM.lt; have KMc := KM.get; replace KR := KR.keep hb2; have KRl := KR.lt; have KRc := KR.get; have HB2 := Lib.hid hb2; clear hb2)
    go_ret2
    refine ⟨_, by rw [brE_2 Hb.out Hr.out]; rfl, ?_, up HW.out (up HB1.out HB2.out)⟩
    unfold brG; rw [brE_2 Hb.out Hr.out]; exact World.ownsRow_nil _ _ _ _
  have Hr := Lib.hid hr
  clear hr
  go_wp2_with (first
    | (go_at_call 19; refine (refCheckReading_yes _ _ _ _ _ _ _ Hr.out).mono ?_; rintro e x2 ⟨rfl, hb2⟩; replace HG := Lib.hid (HG.out.keep hb2); clear KMl KMc KRl KRc; replace KM := KM.keep hb2; have KMl := KM.lt; have KMc := KM.get; replace KR := KR.keep hb2; have KRl := KR.lt; have KRc := KR.get; have HB2 := Lib.hid hb2; clear hb2)
    | (go_at_call 86; refine (refOwnersL_any _ _ _ _ _ _ _ _ _ gs r _ HG.out (okB_ok Hb.out) h40).mono ?_; rintro e x3 ⟨v, rfl, hown, hb3⟩; have Hown := Lib.hid hown; clear hown; have HB3 := Lib.hid hb3; clear hb3))
  go_ret2
  refine ⟨_, by rw [brE_0 Hb.out Hr.out]; rfl, ?_, up HW.out (up HB1.out (up HB2.out HB3.out))⟩
  unfold brG; rw [brE_0 Hb.out Hr.out]
  exact own_mono Hown.out (by have := HW.out.size; have := HB1.out.size; have := HB2.out.size; omega)
end Go.Proofs.Ytpahbpgkmebieaa
