/- A reading of two marks; sharp readings. Own text. -/
import Derived.Test.YtpahbpgkmebieaaP1
import Derived.Test.YtpahbpgkmebieaaO1
namespace Go.Proofs.Ytpahbpgkmebieaa
open Go Go.RowKit
set_option maxHeartbeats 400000
set_option maxRecDepth 100000

theorem between_any (a0 a1 a2 a3 a4 a5 b0 b1 b2 b3 b4 b5 p : Int) (w : World) (hp0 : 0 ≤ p) (hp2 : p ≤ 2) (hsa : ∀ k : Nat, k < 6 → st (g6 a0 a1 a2 a3 a4 a5 k)) (hsb : ∀ k : Nat, k < 6 → st (g6 b0 b1 b2 b3 b4 b5 k)) :
    Calls Try.prog 82 #[.agg #[.int .i64 a0, .int .i64 a1, .int .i64 a2, .int .i64 a3, .int .i64 a4, .int .i64 a5], .agg #[.int .i64 b0, .int .i64 b1, .int .i64 b2, .int .i64 b3, .int .i64 b4, .int .i64 b5], .int .i64 p] w fun e w' => e = .returned (.agg #[.int .i64 (btK (fun j => g6 a0 a1 a2 a3 a4 a5 j) (fun j => g6 b0 b1 b2 b3 b4 b5 j) p 0), .int .i64 (btK (fun j => g6 a0 a1 a2 a3 a4 a5 j) (fun j => g6 b0 b1 b2 b3 b4 b5 j) p 1), .int .i64 (btK (fun j => g6 a0 a1 a2 a3 a4 a5 j) (fun j => g6 b0 b1 b2 b3 b4 b5 j) p 2), .int .i64 (btK (fun j => g6 a0 a1 a2 a3 a4 a5 j) (fun j => g6 b0 b1 b2 b3 b4 b5 j) p 3), .int .i64 (btK (fun j => g6 a0 a1 a2 a3 a4 a5 j) (fun j => g6 b0 b1 b2 b3 b4 b5 j) p 4), .int .i64 (btK (fun j => g6 a0 a1 a2 a3 a4 a5 j) (fun j => g6 b0 b1 b2 b3 b4 b5 j) p 5)]) ∧ Below w.heap.size w w' := by
  have HSa := Lib.hid hsa
  have HSb := Lib.hid hsb
  clear hsa hsb
  go_enter Try.func82, Try.ntmps82
  go_wp2
  generalize hW : (World.alloc (World.alloc (World.alloc w _) _) _) = W
  have HW : Hid (Below w.heap.size w W) := Lib.hid (by subst hW; go_grown)
  have KA : Bk W w.heap.size [Value.int .i64 a0, Value.int .i64 a1, Value.int .i64 a2, Value.int .i64 a3, Value.int .i64 a4, Value.int .i64 a5] := ⟨by subst hW; simp only [World.size_alloc]; omega, by subst hW; intro j; simp [go_sem]⟩
  have KB : Bk W (w.heap.size + 1) [Value.int .i64 b0, Value.int .i64 b1, Value.int .i64 b2, Value.int .i64 b3, Value.int .i64 b4, Value.int .i64 b5] := ⟨by subst hW; simp only [World.size_alloc]; omega, by subst hW; intro j; simp [go_sem]⟩
  have KX : Bk W (w.heap.size + 1 + 1) [.int .i64 0, .int .i64 0, .int .i64 0, .int .i64 0, .int .i64 0, .int .i64 0] := ⟨by subst hW; simp only [World.size_alloc]; omega, by subst hW; intro j; simp [go_sem]⟩
  have FX : Hid (∀ j, W.frozen? ⟨w.heap.size + 1 + 1, j, none⟩ = false) := Lib.hid (by subst hW; intro j; simp [go_sem])
  have Hsz : Hid (W.heap.size = w.heap.size + 1 + 1 + 1) := Lib.hid (by subst hW; simp)
  clear hW
  generalize hf : btK (fun j => g6 a0 a1 a2 a3 a4 a5 j) (fun j => g6 b0 b1 b2 b3 b4 b5 j) p = f
  have Hf := Lib.hid hf
  clear hf
  generalize hV : World.alloc W _ = V
  have Hbx : Hid (RBox V (w.heap.size + 1 + 1 + 1) f 0) := Lib.hid (by
    subst hV
    rw [← Hsz.out]
    exact ⟨by simp, fun j hj => by
      rw [World.cell?_alloc_at _ _ _ _ rfl, if_neg (by omega)]
      rcases (by omega : j = 0 ∨ j = 1 ∨ j = 2 ∨ j = 3 ∨ j = 4 ∨ j = 5) with rfl | rfl | rfl | rfl | rfl | rfl <;> rfl, fun j => World.frozen?_alloc_at _ _ _ _ rfl⟩)
  have HV0 : Hid (Below W.heap.size W V) := Lib.hid (by subst hV; exact up_alloc _ _)
  clear hV
  have kx0 := KX.lt
  go_loopw [2, 10] (fun q i wr => ∃ (k : Nat), k ≤ 6 ∧ i = .int .i64 k ∧ q = .int .i64 (qK (fun j => g6 a0 a1 a2 a3 a4 a5 j) (fun j => g6 b0 b1 b2 b3 b4 b5 j) p k) ∧ Below W.heap.size W wr ∧ RBox wr (w.heap.size + 1 + 1 + 1) f k) (fun _ i _ => 6 - (intOf i).toNat)
  case atStart => exact ⟨0, by omega, rfl, rfl, HV0.out, Hbx.out⟩
  case round =>
    obtain ⟨k, hk, rfl, rfl, hbw, hbx⟩ := hrel
    have Hbw := Lib.hid hbw
    have Hbx2 := Lib.hid hbx
    clear hbw hbx
    by_cases hlt : k < 6
    · have bc := bt_cost (p := p) hp0 k (fun j hj => HSa.out j (by omega)) (fun j hj => HSb.out j (by omega))
      have q0 := bc.1
      have q2 : qK (fun j => g6 a0 a1 a2 a3 a4 a5 j) (fun j => g6 b0 b1 b2 b3 b4 b5 j) p k ≤ 2 := by have := bc.2.2.1; omega
      clear bc
      have Hq1 : Hid (qK (fun j => g6 a0 a1 a2 a3 a4 a5 j) (fun j => g6 b0 b1 b2 b3 b4 b5 j) p (k + 1) = nxtQ (g6 a0 a1 a2 a3 a4 a5 k) (g6 b0 b1 b2 b3 b4 b5 k) (qK (fun j => g6 a0 a1 a2 a3 a4 a5 j) (fun j => g6 b0 b1 b2 b3 b4 b5 j) p k)) := Lib.hid rfl
      have Hfk : Hid (f k = lowS (selS (g6 a0 a1 a2 a3 a4 a5 k) (g6 b0 b1 b2 b3 b4 b5 k) (qK (fun j => g6 a0 a1 a2 a3 a4 a5 j) (fun j => g6 b0 b1 b2 b3 b4 b5 j) p k))) := Lib.hid (by rw [← Hf.out]; rfl)
      have sa := HSa.out k hlt
      have sb := HSb.out k hlt
      have ca : wr.cell? ⟨w.heap.size, k, none⟩ = some (.int .i64 (g6 a0 a1 a2 a3 a4 a5 k)) := ((KA.keep Hbw.out).get k).trans (at6n _ _ _ _ _ _ k hlt)
      have cb : wr.cell? ⟨w.heap.size + 1, k, none⟩ = some (.int .i64 (g6 b0 b1 b2 b3 b4 b5 k)) := ((KB.keep Hbw.out).get k).trans (at6n _ _ _ _ _ _ k hlt)
      have la : w.heap.size < wr.heap.size := (KA.keep Hbw.out).lt
      have lb : w.heap.size + 1 < wr.heap.size := (KB.keep Hbw.out).lt
      generalize qK (fun j => g6 a0 a1 a2 a3 a4 a5 j) (fun j => g6 b0 b1 b2 b3 b4 b5 j) p k = q at *
      generalize g6 a0 a1 a2 a3 a4 a5 k = x at *
      generalize g6 b0 b1 b2 b3 b4 b5 k = y at *
      have SX := Lib.hid sa
      have SY := Lib.hid sb
      clear sa sb
      have three : ∃ S : Int, selS x y q = S ∧ st S ∧ (((band x y == 0) = false ∧ S = band x y ∧ nxtQ x y q = q) ∨ ((band x y == 0) = true ∧ 0 < q ∧ S = x ∧ nxtQ x y q = q - 1) ∨ ((band x y == 0) = true ∧ ¬ 0 < q ∧ S = y ∧ nxtQ x y q = q)) := by
        refine ⟨_, rfl, sel_st SX.out SY.out, ?_⟩
        cases h : (band x y == 0)
        · exact Or.inl ⟨rfl, by unfold selS; simp [h], by unfold nxtQ; simp [h]⟩
        · by_cases hq : 0 < q
          · exact Or.inr (Or.inl ⟨rfl, hq, by unfold selS; simp [h, hq], by unfold nxtQ; simp [h, hq]⟩)
          · exact Or.inr (Or.inr ⟨rfl, hq, by unfold selS; simp [h, hq], by unfold nxtQ; simp [h, hq]⟩)
      obtain ⟨S, hS, sS, three⟩ := three
      have HS := Lib.hid hS
      clear hS
      have hne := (low_st sS).2.2.2
      have Hlow : Hid (lowS S = 2 ^ ((sgK S 5)[0]'hne).toNat) := Lib.hid (by unfold lowS; simp [List.getD, List.getElem?_eq_getElem hne])
      have hx := sgK_in S 5 _ (List.getElem_mem hne)
      obtain ⟨hx0, hx5⟩ := hx
      have HSg : Hid (∀ (w1 : World) (A' : Option Addr) (c' : Nat), Is w1 A' (sgK S 5).length (sgK S 5) → ∃ b o, A' = some ⟨b, o, none⟩ ∧ b < w1.heap.size ∧ w1.cell? ⟨b, o + 0, none⟩ = some (.int .i64 (sgK S 5)[0])) := Lib.hid (fun w1 A' c' h => h.get 0 hne)
      have hln := sgK_len S 5
      generalize (sgK S 5)[0] = e0 at *
      clear sS
      rcases three with ⟨hm, hSe, hn⟩ | ⟨hm, hq, hSe, hn⟩ | ⟨hm, hq, hSe, hn⟩
      all_goals
        have Hn := Lib.hid hn
        have Hm := Lib.hid hm
        subst hSe
        clear hn
        go_wp2
        refine wp_region_grow (by kernel_rfl) (by kernel_rfl) ?_
        repeat (go_big_quiet_step ((fail)))
        refine wpQuiet_nil ?_
        intro z
        have HRz := Lib.hid (Hbx2.out.keep (grow_below wr z))
        have HBz := Lib.hid (Hbw.out.trans ((grow_below wr z).mono (by have := Hbw.out.size; omega)))
        go_wp2
        refine wp_region_grow (by kernel_rfl) (by kernel_rfl) ?_
        repeat (go_big_quiet_step ((go_at_call 108; exact quiet_grow rfl (still_grow (misses_any _ _ _)))))
        refine wpQuiet_nil ?_
        intro z2
        obtain ⟨y2, hy2⟩ := grow_grow wr z z2
        have HRy := Lib.hid (hy2 ▸ HRz.out.keep (grow_below (grow wr z) z2))
        have HBy := Lib.hid (Hbw.out.trans ((grow_below wr y2).mono (by have := Hbw.out.size; omega)))
        rw [hy2]
        clear hy2
        go_wp2_with (first
          | (go_at_call 102; refine (list_any _ _).mono ?_; rintro e x3 ⟨v, rfl, hown, hb3⟩; have HRB := Lib.hid (HRy.out.keep hb3); have HB3 := Lib.hid (HBy.out.trans (hb3.mono (by have := HRy.out.lt; have := Hsz.out; omega))); clear hb3; obtain ⟨A', c', rfl, _, his⟩ := Is.of_own hown; clear hown; obtain ⟨bb, oo, rfl, hbb, hcc⟩ := HSg.out _ _ c' his; clear his; rw [Nat.add_zero] at hcc; have f1 := HRB.out.cell k hlt; have f2 := HRB.out.fro k)
          | (go_at_call 103; refine (only_any _ _ hx0 hx5).mono ?_; rintro e x4 ⟨rfl, rfl⟩))
        have Hfin : Hid (f k = 2 ^ e0.toNat) := Lib.hid (by rw [Hfk.out, HS.out, Hlow.out]; rfl)
        refine ⟨⟨k + 1, by omega, by go_num, by first | (rw [Hq1.out, Hn.out]; done) | (rw [Hq1.out, Hn.out]; go_num), HB3.out.setCell (Nat.le_of_eq Hsz.out) _, ?_⟩, by simp [intOf]; omega⟩
        rw [← Hfin.out]
        exact HRB.out.put hlt
    · obtain rfl : k = 6 := by omega
      have hlt6 := Hbx2.out.lt
      have d0 := Hbx2.out.cell 0 (by omega); have d1 := Hbx2.out.cell 1 (by omega); have d2 := Hbx2.out.cell 2 (by omega); have d3 := Hbx2.out.cell 3 (by omega); have d4 := Hbx2.out.cell 4 (by omega); have d5 := Hbx2.out.cell 5 (by omega)
      simp only [show (0 : Nat) < 6 by decide, show (1 : Nat) < 6 by decide, show (2 : Nat) < 6 by decide, show (3 : Nat) < 6 by decide, show (4 : Nat) < 6 by decide, show (5 : Nat) < 6 by decide, if_true] at d0 d1 d2 d3 d4 d5
      replace KX := KX.keep Hbw.out
      have KXl := KX.lt; have KXc := KX.get
      have fr3 : ∀ j, wr.frozen? ⟨w.heap.size + 1 + 1, j, none⟩ = false := fun j => (Hbw.out.frozen (p := ⟨w.heap.size + 1 + 1, j, none⟩) kx0).trans (FX.out j)
      have Ex : Hid (∀ j, j < 6 → (wr.cell? ⟨w.heap.size + 1 + 1, j, none⟩).isSome = true) := Lib.hid (by
        intro j hj
        rw [KXc j]
        rcases (by omega : j = 0 ∨ j = 1 ∨ j = 2 ∨ j = 3 ∨ j = 4 ∨ j = 5) with rfl | rfl | rfl | rfl | rfl | rfl <;> rfl)
      clear KX
      go_wp2
      have P := put6 wr (w.heap.size + 1 + 1) (.int .i64 (f 0)) (.int .i64 (f 1)) (.int .i64 (f 2)) (.int .i64 (f 3)) (.int .i64 (f 4)) (.int .i64 (f 5)) Ex.out
      have B := put6_below (HW.out.trans (Hbw.out.mono (HW.out.size))) (by omega : w.heap.size ≤ w.heap.size + 1 + 1) (.int .i64 (f 0)) (.int .i64 (f 1)) (.int .i64 (f 2)) (.int .i64 (f 3)) (.int .i64 (f 4)) (.int .i64 (f 5))
      generalize World.setCell _ ⟨w.heap.size + 1 + 1, 5, none⟩ _ = U at P B ⊢
      have p0 := P 0 (by omega); have p1 := P 1 (by omega); have p2 := P 2 (by omega); have p3 := P 3 (by omega); have p4 := P 4 (by omega); have p5 := P 5 (by omega)
      clear P
      simp at p0 p1 p2 p3 p4 p5
      refine bodyPost_ret (v := .agg #[.int .i64 (f 0), .int .i64 (f 1), .int .i64 (f 2), .int .i64 (f 3), .int .i64 (f 4), .int .i64 (f 5)]) (by simp [results, Try.results82, go_sem, p0, p1, p2, p3, p4, p5]) rfl ⟨by rw [← Hf.out], B⟩
end Go.Proofs.Ytpahbpgkmebieaa
