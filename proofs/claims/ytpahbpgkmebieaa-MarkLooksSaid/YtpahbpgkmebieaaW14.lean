/- An owner's mark, as the reference looks it up. Own text. -/
import Derived.Test.YtpahbpgkmebieaaW13
namespace Go.Proofs.Ytpahbpgkmebieaa
open Go.RowKit
set_option maxHeartbeats 400000
set_option maxRecDepth 100000

theorem refMarkOf_any (w0 w1 w2 w3 w4 F x : Int) (A : Option Addr) (n c : Nat) (gs : List Giv) (w : World) (hg : Gs w A n gs) :
    Calls Try.prog 13 #[.agg #[.int .i64 w0, .int .i64 w1, .int .i64 w2, .int .i64 w3, .int .i64 w4, .int .i64 F, .slice A n c], .int .i64 x] w fun e w' => e = .returned (.tuple #[(foundM w0 w1 w2 w3 w4 F gs x).agg, .int .i64 (findE w0 w1 w2 w3 w4 F gs x)]) ∧ Below w.heap.size w w' := by
  have Hl : Hid (n = gs.length) := Lib.hid hg.len
  go_enter Try.func13, Try.ntmps13
  go_wp2_with fail
  generalize hW : (World.alloc _ _) = W
  have HW : Hid (Below w.heap.size w W) := Lib.hid (by subst hW; go_grown)
  have hs : w.heap.size + 1 < W.heap.size := by subst hW; simp
  have cm : ∀ j, W.cell? ⟨w.heap.size, j, none⟩ = [Value.int .i64 w0, .int .i64 w1, .int .i64 w2, .int .i64 w3, .int .i64 w4, .int .i64 F, .slice A n c][j]? := by subst hW; intro j; simp [go_sem]
  have cr : ∀ j, W.cell? ⟨w.heap.size + 1, j, none⟩ = [Value.int .i64 0, .int .i64 0, .int .i64 0, .int .i64 0, .int .i64 0, .int .i64 0][j]? := by subst hW; intro j; simp [go_sem]
  have fr : ∀ j, W.frozen? ⟨w.heap.size + 1, j, none⟩ = false := by subst hW; intro j; simp [go_sem]
  clear hW
  refine (refAsked_any w0 w1 w2 w3 w4 F x A n c gs W (hg.keep HW.out)).mono ?_
  rintro e x1 ⟨rfl, hb1⟩
  obtain ⟨z, rfl⟩ := below_grow hb1
  clear hb1
  have hs0 : w.heap.size < W.heap.size := by omega
  have Ex : Hid (∀ z, ∀ j, j < 6 → ((grow W z).cell? ⟨w.heap.size + 1, j, none⟩).isSome = true) := Lib.hid (by
    intro z j hj
    rw [grow_cell_lt _ _ _ _ hs, cr j]
    rcases (by omega : j = 0 ∨ j = 1 ∨ j = 2 ∨ j = 3 ∨ j = 4 ∨ j = 5) with rfl | rfl | rfl | rfl | rfl | rfl <;> rfl)
  have P := fun z => put6 (grow W z) (w.heap.size + 1) (.int .i64 0) (.int .i64 0) (.int .i64 0) (.int .i64 0) (.int .i64 0) (.int .i64 0) (Ex.out z)
  have HP := Lib.hid P
  clear P
  by_cases hb : okB w0 w1 w2 w3 w4 F gs = true
  rotate_left
  · have He : Hid (findE w0 w1 w2 w3 w4 F gs x = 13) := Lib.hid (by unfold findE; rw [if_neg hb])
    have Hd : Hid (foundM w0 w1 w2 w3 w4 F gs x = default) := Lib.hid (by unfold foundM; rw [if_neg (by rw [He.out]; decide)])
    rw [if_neg hb]
    clear hb
    go_wp2
    have P := HP.out z
    have B := put6_below (up HW.out (grow_below W z)) (by omega : w.heap.size ≤ w.heap.size + 1) (.int .i64 0) (.int .i64 0) (.int .i64 0) (.int .i64 0) (.int .i64 0) (.int .i64 0)
    generalize World.setCell _ ⟨w.heap.size + 1, 5, none⟩ _ = V at P B ⊢
    have p0 := P 0 (by omega); have p1 := P 1 (by omega); have p2 := P 2 (by omega); have p3 := P 3 (by omega); have p4 := P 4 (by omega); have p5 := P 5 (by omega)
    clear P
    simp at p0 p1 p2 p3 p4 p5
    refine bodyPost_ret (v := .tuple #[.agg #[.int .i64 0, .int .i64 0, .int .i64 0, .int .i64 0, .int .i64 0, .int .i64 0], .int .i64 13]) (by simp [results, Try.results13, go_sem, p0, p1, p2, p3, p4, p5]) rfl ⟨ret_gi Hd.out He.out.symm, B⟩
  by_cases hx : 1 ≤ x ∧ x ≤ 99
  rotate_left
  · have He : Hid (findE w0 w1 w2 w3 w4 F gs x = 15) := Lib.hid (by unfold findE; rw [if_pos hb, if_neg hx])
    have Hd : Hid (foundM w0 w1 w2 w3 w4 F gs x = default) := Lib.hid (by unfold foundM; rw [if_neg (by rw [He.out]; decide)])
    rw [if_pos hb, if_neg hx]
    clear hb hx
    go_wp2
    have P := HP.out z
    have B := put6_below (up HW.out (grow_below W z)) (by omega : w.heap.size ≤ w.heap.size + 1) (.int .i64 0) (.int .i64 0) (.int .i64 0) (.int .i64 0) (.int .i64 0) (.int .i64 0)
    generalize World.setCell _ ⟨w.heap.size + 1, 5, none⟩ _ = V at P B ⊢
    have p0 := P 0 (by omega); have p1 := P 1 (by omega); have p2 := P 2 (by omega); have p3 := P 3 (by omega); have p4 := P 4 (by omega); have p5 := P 5 (by omega)
    clear P
    simp at p0 p1 p2 p3 p4 p5
    refine bodyPost_ret (v := .tuple #[.agg #[.int .i64 0, .int .i64 0, .int .i64 0, .int .i64 0, .int .i64 0, .int .i64 0], .int .i64 15]) (by simp [results, Try.results13, go_sem, p0, p1, p2, p3, p4, p5]) rfl ⟨ret_gi Hd.out He.out.symm, B⟩
  rw [if_pos hb, if_pos hx]
  have hf := findE_cases w0 w1 w2 w3 w4 F gs x
  by_cases hp : pos (own gs) x 0 < 0
  · have He : Hid (findE w0 w1 w2 w3 w4 F gs x = 3) := Lib.hid (by unfold findE; rw [if_pos hb, if_pos hx, if_neg (by omega)])
    have Hd : Hid (foundM w0 w1 w2 w3 w4 F gs x = default) := Lib.hid (by unfold foundM; rw [if_neg (by rw [He.out]; decide)])
    clear hb hx hf
    go_wp2_with (go_at_call 66; refine (refIndex_any _ _ _ _ _ _ _ _ _ _ gs _ ((hg.keep HW.out).keep (grow_below W z))).mono ?_; rintro e x1 ⟨rfl, hb2⟩; obtain ⟨z2, rfl⟩ := below_grow (up (grow_below W z) hb2); clear hb2)
    have P := HP.out z2
    have B := put6_below (up HW.out (grow_below W z2)) (by omega : w.heap.size ≤ w.heap.size + 1) (.int .i64 0) (.int .i64 0) (.int .i64 0) (.int .i64 0) (.int .i64 0) (.int .i64 0)
    generalize World.setCell _ ⟨w.heap.size + 1, 5, none⟩ _ = V at P B ⊢
    have p0 := P 0 (by omega); have p1 := P 1 (by omega); have p2 := P 2 (by omega); have p3 := P 3 (by omega); have p4 := P 4 (by omega); have p5 := P 5 (by omega)
    clear P
    simp at p0 p1 p2 p3 p4 p5
    refine bodyPost_ret (v := .tuple #[.agg #[.int .i64 0, .int .i64 0, .int .i64 0, .int .i64 0, .int .i64 0, .int .i64 0], .int .i64 3]) (by simp [results, Try.results13, go_sem, p0, p1, p2, p3, p4, p5]) rfl ⟨ret_gi Hd.out He.out.symm, B⟩
  · have He : Hid (findE w0 w1 w2 w3 w4 F gs x = 0) := Lib.hid (by unfold findE; rw [if_pos hb, if_pos hx, if_pos (by omega)])
    rcases hf with ⟨h0, _⟩ | ⟨_, _, _, k, hk, _, hpk, hd⟩
    · exact absurd He.out h0
    have Hd := Lib.hid hd
    have Hpk := Lib.hid hpk
    obtain ⟨b, o, rfl, hbl, hc⟩ := (hg.keep HW.out).get k hk
    obtain ⟨c0, c1, c2, c3, c4, c5, c6⟩ := hc
    have Hgk : Hid (gs.getD k default = gs[k]) := Lib.hid (by simp [hk])
    have hkn : k < n := by rw [Hl.out]; exact hk
    generalize gs[k] = g at *
    clear hb hx hd hpk hp
    go_wp2_with (go_at_call 66; refine (refIndex_any _ _ _ _ _ _ _ _ _ _ gs _ ((hg.keep HW.out).keep (grow_below W z))).mono ?_; rintro e x1 ⟨rfl, hb2⟩; obtain ⟨z2, rfl⟩ := below_grow (up (grow_below W z) hb2); clear hb2; rw [Hpk.out])
    have P := put6 (grow W z2) (w.heap.size + 1) (.int .i64 g.m0) (.int .i64 g.m1) (.int .i64 g.m2) (.int .i64 g.m3) (.int .i64 g.m4) (.int .i64 g.m5) (Ex.out z2)
    have B := put6_below (up HW.out (grow_below W z2)) (by omega : w.heap.size ≤ w.heap.size + 1) (.int .i64 g.m0) (.int .i64 g.m1) (.int .i64 g.m2) (.int .i64 g.m3) (.int .i64 g.m4) (.int .i64 g.m5)
    generalize World.setCell _ ⟨w.heap.size + 1, 5, none⟩ _ = V at P B ⊢
    have p0 := P 0 (by omega); have p1 := P 1 (by omega); have p2 := P 2 (by omega); have p3 := P 3 (by omega); have p4 := P 4 (by omega); have p5 := P 5 (by omega)
    clear P
    simp at p0 p1 p2 p3 p4 p5
    refine bodyPost_ret (v := .tuple #[.agg #[.int .i64 g.m0, .int .i64 g.m1, .int .i64 g.m2, .int .i64 g.m3, .int .i64 g.m4, .int .i64 g.m5], .int .i64 0]) (by simp [results, Try.results13, go_sem, p0, p1, p2, p3, p4, p5]) rfl ⟨ret_Gi (by rw [Hd.out, Hgk.out]) He.out.symm, B⟩
end Go.Proofs.Ytpahbpgkmebieaa
