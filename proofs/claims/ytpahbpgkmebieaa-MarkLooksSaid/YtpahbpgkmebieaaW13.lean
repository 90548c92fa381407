/- An owner's mark, in the program and in the reference. Own text. -/
import Derived.Test.YtpahbpgkmebieaaW12
namespace Go.Proofs.Ytpahbpgkmebieaa
open Go.RowKit
set_option maxHeartbeats 400000
set_option maxRecDepth 100000

/-- The mark that is found; zeros if none. -/
def foundM (w0 w1 w2 w3 w4 F : Int) (gs : List Giv) (x : Int) : Giv := if findE w0 w1 w2 w3 w4 F gs x = 0 then gs.getD (findI w0 w1 w2 w3 w4 F gs x).toNat default else default
def Giv.agg (g : Giv) : Value := .agg #[.int .i64 g.m0, .int .i64 g.m1, .int .i64 g.m2, .int .i64 g.m3, .int .i64 g.m4, .int .i64 g.m5]

theorem findE_cases (w0 w1 w2 w3 w4 F : Int) (gs : List Giv) (x : Int) :
    (findE w0 w1 w2 w3 w4 F gs x ≠ 0 ∧ foundM w0 w1 w2 w3 w4 F gs x = default) ∨
    (findE w0 w1 w2 w3 w4 F gs x = 0 ∧ okB w0 w1 w2 w3 w4 F gs = true ∧ (1 ≤ x ∧ x ≤ 99) ∧ ∃ k : Nat, k < gs.length ∧ findI w0 w1 w2 w3 w4 F gs x = k ∧ pos (own gs) x 0 = k ∧ foundM w0 w1 w2 w3 w4 F gs x = gs.getD k default) := by
  by_cases h : findE w0 w1 w2 w3 w4 F gs x = 0
  · right
    have h0 := h
    unfold findE at h
    by_cases h1 : okB w0 w1 w2 w3 w4 F gs = true
    · rw [if_pos h1] at h
      by_cases h2 : 1 ≤ x ∧ x ≤ 99
      · rw [if_pos h2] at h
        by_cases h3 : 0 ≤ pos (own gs) x 0
        · have hI : findI w0 w1 w2 w3 w4 F gs x = pos (own gs) x 0 := by unfold findI; rw [if_pos ⟨h1, h2, h3⟩]
          have hb := pos_bd (own gs) x 0
          have hl : (own gs).length = gs.length := by simp [own]
          obtain ⟨k, hk⟩ := Int.eq_ofNat_of_zero_le h3
          refine ⟨h0, h1, h2, k, by omega, by rw [hI, hk], hk, ?_⟩
          unfold foundM; rw [if_pos h0, hI, hk]; rfl
        · rw [if_neg h3] at h; omega
      · rw [if_neg h2] at h; omega
    · rw [if_neg h1] at h; omega
  · left; exact ⟨h, by unfold foundM; rw [if_neg h]⟩

theorem ret_gi {a c : Int} {g : Giv} (h1 : g = default) (h2 : a = c) : Ending.returned (.tuple #[.agg #[.int .i64 0, .int .i64 0, .int .i64 0, .int .i64 0, .int .i64 0, .int .i64 0], .int .i64 a]) = Ending.returned (.tuple #[g.agg, .int .i64 c]) := by
  rw [h1, h2]; rfl
theorem ret_Gi {a c : Int} {g g' : Giv} (h1 : g = g') (h2 : a = c) : Ending.returned (.tuple #[.agg #[.int .i64 g.m0, .int .i64 g.m1, .int .i64 g.m2, .int .i64 g.m3, .int .i64 g.m4, .int .i64 g.m5], .int .i64 a]) = Ending.returned (.tuple #[g'.agg, .int .i64 c]) := by
  rw [h1, h2]; rfl

/-- Six cells written, read again. -/
theorem put6 (w : World) (b : Nat) (v0 v1 v2 v3 v4 v5 : Value) (h : ∀ j, j < 6 → (w.cell? ⟨b, j, none⟩).isSome = true) : ∀ j, j < 6 →
    ((((((w.setCell ⟨b, 0, none⟩ v0).setCell ⟨b, 1, none⟩ v1).setCell ⟨b, 2, none⟩ v2).setCell ⟨b, 3, none⟩ v3).setCell ⟨b, 4, none⟩ v4).setCell ⟨b, 5, none⟩ v5).cell? ⟨b, j, none⟩ = [v0, v1, v2, v3, v4, v5][j]? := by
  intro j hj
  have := World.cell?_setCells_in b [v0, v1, v2, v3, v4, v5] 0 w (fun j hj => by rw [Nat.zero_add]; exact h j (by simpa using hj)) j (by simpa using hj)
  rw [Nat.zero_add] at this
  rw [List.getElem?_eq_getElem (by simpa using hj)]
  exact this
theorem put6_below {a w : World} {B b : Nat} (h : Below B a w) (hB : B ≤ b) (v0 v1 v2 v3 v4 v5 : Value) :
    Below B a ((((((w.setCell ⟨b, 0, none⟩ v0).setCell ⟨b, 1, none⟩ v1).setCell ⟨b, 2, none⟩ v2).setCell ⟨b, 3, none⟩ v3).setCell ⟨b, 4, none⟩ v4).setCell ⟨b, 5, none⟩ v5) :=
  (((((h.setCell hB _).setCell hB _).setCell hB _).setCell hB _).setCell hB _).setCell hB _

theorem markOf_any (w0 w1 w2 w3 w4 F x : Int) (A : Option Addr) (n c : Nat) (gs : List Giv) (w : World) (hg : Gs w A n gs) (hnc : n ≤ c) :
    Calls Try.prog 12 #[.agg #[.int .i64 w0, .int .i64 w1, .int .i64 w2, .int .i64 w3, .int .i64 w4, .int .i64 F, .slice A n c], .int .i64 x] w fun e w' => e = .returned (.tuple #[(foundM w0 w1 w2 w3 w4 F gs x).agg, .int .i64 (findE w0 w1 w2 w3 w4 F gs x)]) ∧ Below w.heap.size w w' := by
  have Hl : Hid (n = gs.length) := Lib.hid hg.len
  go_enter Try.func12, Try.ntmps12
  go_wp2_with fail
  generalize hW : (World.alloc _ _) = W
  have HW : Hid (Below w.heap.size w W) := Lib.hid (by subst hW; go_grown)
  have hs : w.heap.size + 1 < W.heap.size := by subst hW; simp
  have cm : ∀ j, W.cell? ⟨w.heap.size, j, none⟩ = [Value.int .i64 w0, .int .i64 w1, .int .i64 w2, .int .i64 w3, .int .i64 w4, .int .i64 F, .slice A n c][j]? := by subst hW; intro j; simp [go_sem]
  have cr : ∀ j, W.cell? ⟨w.heap.size + 1, j, none⟩ = [Value.int .i64 0, .int .i64 0, .int .i64 0, .int .i64 0, .int .i64 0, .int .i64 0][j]? := by subst hW; intro j; simp [go_sem]
  have fr : ∀ j, W.frozen? ⟨w.heap.size + 1, j, none⟩ = false := by subst hW; intro j; simp [go_sem]
  clear hW
  refine (find_any w0 w1 w2 w3 w4 F x A n c gs W (hg.keep HW.out) hnc).mono ?_
  rintro e x1 ⟨rfl, hb1⟩
  obtain ⟨z, rfl⟩ := below_grow hb1
  clear hb1
  have hs0 : w.heap.size < W.heap.size := by omega
  have Ex : Hid (∀ j, j < 6 → ((grow W z).cell? ⟨w.heap.size + 1, j, none⟩).isSome = true) := Lib.hid (by
    intro j hj
    rw [grow_cell_lt _ _ _ _ hs, cr j]
    rcases (by omega : j = 0 ∨ j = 1 ∨ j = 2 ∨ j = 3 ∨ j = 4 ∨ j = 5) with rfl | rfl | rfl | rfl | rfl | rfl <;> rfl)
  rcases findE_cases w0 w1 w2 w3 w4 F gs x with ⟨h0, hd⟩ | ⟨h0, hb, hx, k, hk, hI, hp, hd⟩
  · have H0 := Lib.hid h0
    have Hd := Lib.hid hd
    have h1 : (findE w0 w1 w2 w3 w4 F gs x != 0) = true := by simpa using h0
    clear h0 hd
    go_wp2
    have P := put6 (grow W z) (w.heap.size + 1) (.int .i64 0) (.int .i64 0) (.int .i64 0) (.int .i64 0) (.int .i64 0) (.int .i64 0) Ex.out
    have B := put6_below (up HW.out (grow_below W z)) (by omega : w.heap.size ≤ w.heap.size + 1) (.int .i64 0) (.int .i64 0) (.int .i64 0) (.int .i64 0) (.int .i64 0) (.int .i64 0)
    generalize World.setCell _ ⟨w.heap.size + 1, 5, none⟩ _ = V at P B ⊢
    have p0 := P 0 (by omega); have p1 := P 1 (by omega); have p2 := P 2 (by omega); have p3 := P 3 (by omega); have p4 := P 4 (by omega); have p5 := P 5 (by omega)
    clear P
    simp at p0 p1 p2 p3 p4 p5
    refine bodyPost_ret (v := .tuple #[.agg #[.int .i64 0, .int .i64 0, .int .i64 0, .int .i64 0, .int .i64 0, .int .i64 0], .int .i64 (findE w0 w1 w2 w3 w4 F gs x)]) (by simp [results, Try.results12, go_sem, p0, p1, p2, p3, p4, p5]) rfl ⟨ret_gi Hd.out rfl, B⟩
  · have H0 := Lib.hid h0
    have Hd := Lib.hid hd
    have h1 : (findE w0 w1 w2 w3 w4 F gs x != 0) = false := by simpa using h0
    clear h0 hd hp
    obtain ⟨b, o, rfl, hbl, hc⟩ := (hg.keep HW.out).get k hk
    obtain ⟨c0, c1, c2, c3, c4, c5, c6⟩ := hc
    have Hgk : Hid (gs.getD k default = gs[k]) := Lib.hid (by simp [hk])
    have hkn : k < n := by rw [Hl.out]; exact hk
    generalize gs[k] = g at *
    rw [hI]
    clear hI
    go_wp2
    have P := put6 (grow W z) (w.heap.size + 1) (.int .i64 g.m0) (.int .i64 g.m1) (.int .i64 g.m2) (.int .i64 g.m3) (.int .i64 g.m4) (.int .i64 g.m5) Ex.out
    have B := put6_below (up HW.out (grow_below W z)) (by omega : w.heap.size ≤ w.heap.size + 1) (.int .i64 g.m0) (.int .i64 g.m1) (.int .i64 g.m2) (.int .i64 g.m3) (.int .i64 g.m4) (.int .i64 g.m5)
    generalize World.setCell _ ⟨w.heap.size + 1, 5, none⟩ _ = V at P B ⊢
    have p0 := P 0 (by omega); have p1 := P 1 (by omega); have p2 := P 2 (by omega); have p3 := P 3 (by omega); have p4 := P 4 (by omega); have p5 := P 5 (by omega)
    clear P
    simp at p0 p1 p2 p3 p4 p5
    refine bodyPost_ret (v := .tuple #[.agg #[.int .i64 g.m0, .int .i64 g.m1, .int .i64 g.m2, .int .i64 g.m3, .int .i64 g.m4, .int .i64 g.m5], .int .i64 0]) (by simp [results, Try.results12, go_sem, p0, p1, p2, p3, p4, p5]) rfl ⟨ret_Gi (by rw [Hd.out, Hgk.out]) H0.out.symm, B⟩

theorem refAsked_any (w0 w1 w2 w3 w4 F x : Int) (A : Option Addr) (n c : Nat) (gs : List Giv) (w : World) (hg : Gs w A n gs) :
    Calls Try.prog 65 #[.agg #[.int .i64 w0, .int .i64 w1, .int .i64 w2, .int .i64 w3, .int .i64 w4, .int .i64 F, .slice A n c], .int .i64 x] w fun e w' => e = .returned (.int .i64 (if okB w0 w1 w2 w3 w4 F gs = true then if 1 ≤ x ∧ x ≤ 99 then 0 else 15 else 13)) ∧ Below w.heap.size w w' := by
  generalize hR : (if okB w0 w1 w2 w3 w4 F gs = true then if 1 ≤ x ∧ x ≤ 99 then (0 : Int) else 15 else 13) = R
  have HR := Lib.hid hR
  clear hR
  go_enter Try.func65, Try.ntmps65
  cases hb : okB w0 w1 w2 w3 w4 F gs
  · have Hb := Lib.hid hb
    clear hb
    go_wp2_with (go_at_call 21; refine (refCheck_no w0 w1 w2 w3 w4 F A n c gs _ (hg.keep (up_alloc _ _)) Hb.out).mono ?_; rintro e x1 ⟨rfl, hb1⟩)
    go_ret
    refine ⟨congrArg (fun v => Ending.returned (Value.int .i64 v)) ?_, up (up_alloc _ _) hb1⟩
    rw [← HR.out, if_neg (by rw [Hb.out]; simp)]
  · have Hb := Lib.hid hb
    clear hb
    by_cases hx : 1 ≤ x ∧ x ≤ 99
    · have Hx := Lib.hid hx
      go_wp2_with (first | (go_at_call 21; refine (refCheck_yes w0 w1 w2 w3 w4 F A n c gs _ (hg.keep (up_alloc _ _)) Hb.out).mono ?_; rintro e x1 ⟨rfl, hb1⟩) | (go_at_call 67; refine (in_dec _ _ _ _).mono ?_; rintro e x1 (⟨rfl, hi, rfl⟩ | ⟨rfl, hi, rfl⟩)))
      · go_ret
        refine ⟨congrArg (fun v => Ending.returned (Value.int .i64 v)) ?_, up (up_alloc _ _) hb1⟩
        rw [← HR.out, if_pos Hb.out, if_pos Hx.out]
      · exact absurd hx hi
    · have Hx := Lib.hid hx
      go_wp2_with (first | (go_at_call 21; refine (refCheck_yes w0 w1 w2 w3 w4 F A n c gs _ (hg.keep (up_alloc _ _)) Hb.out).mono ?_; rintro e x1 ⟨rfl, hb1⟩) | (go_at_call 67; refine (in_dec _ _ _ _).mono ?_; rintro e x1 (⟨rfl, hi, rfl⟩ | ⟨rfl, hi, rfl⟩)))
      · exact absurd hi Hx.out
      · go_ret
        refine ⟨congrArg (fun v => Ending.returned (Value.int .i64 v)) ?_, up (up_alloc _ _) hb1⟩
        rw [← HR.out, if_pos Hb.out, if_neg Hx.out]

theorem refIndex_any (w0 w1 w2 w3 w4 F x : Int) (A : Option Addr) (n c : Nat) (gs : List Giv) (w : World) (hg : Gs w A n gs) :
    Calls Try.prog 66 #[.agg #[.int .i64 w0, .int .i64 w1, .int .i64 w2, .int .i64 w3, .int .i64 w4, .int .i64 F, .slice A n c], .int .i64 x] w fun e w' => e = .returned (.int .i64 (pos (own gs) x 0)) ∧ Below w.heap.size w w' := by
  have hn := hg.small
  have Hl : Hid (n = gs.length) := Lib.hid hg.len
  go_enter Try.func66, Try.ntmps66
  go_wp2
  generalize hW : (World.alloc _ _) = W
  have HW : Hid (Below w.heap.size w W) := Lib.hid (by subst hW; go_grown)
  have hs : w.heap.size < W.heap.size := by subst hW; simp
  have cm : ∀ j, W.cell? ⟨w.heap.size, j, none⟩ = [Value.int .i64 w0, .int .i64 w1, .int .i64 w2, .int .i64 w3, .int .i64 w4, .int .i64 F, .slice A n c][j]? := by subst hW; intro j; simp [go_sem]
  clear hW
  have hg1 := hg.keep HW.out
  go_loop [5] (fun i => ∃ (k : Nat), k ≤ n ∧ i = .int .i64 k ∧ pos ((own gs).drop k) x k = pos (own gs) x 0) (fun i => n - (intOf i).toNat)
  case atStart => exact ⟨0, by omega, rfl, rfl⟩
  case round =>
    obtain ⟨k, hk, rfl, hp⟩ := hrel
    have Hp := Lib.hid hp; clear hp
    by_cases hlt : k < n
    · have hkl : k < gs.length := by rw [← Hl.out]; exact hlt
      have hko : k < (own gs).length := by simp [own]; exact hkl
      have Hd : Hid ((own gs).drop k = gs[k].o :: (own gs).drop (k + 1)) := Lib.hid (by rw [List.drop_eq_getElem_cons hko]; simp [own])
      obtain ⟨b, o, rfl, hb, hc⟩ := hg1.get k hkl
      obtain ⟨c0, c1, c2, c3, c4, c5, c6⟩ := hc
      generalize gs[k] = g at *
      by_cases hy : g.o = x
      · have hy1 : (g.o == x) = true := by simpa using hy
        have Hy := Lib.hid hy
        clear hy
        go_wp2
        go_ret
        refine ⟨congrArg (fun v => Ending.returned (Value.int .i64 v)) ?_, HW.out⟩
        rw [← Hp.out, Hd.out, pos_yes _ _ Hy.out]
      · have hy1 : (g.o == x) = false := by simpa using hy
        have Hy := Lib.hid hy
        clear hy
        go_wp2
        refine ⟨⟨k + 1, by omega, by go_num, ?_⟩, by simp [intOf]; omega⟩
        rw [← Hp.out, Hd.out, pos_no _ _ Hy.out]
    · obtain rfl : k = n := by omega
      go_wp2
      go_ret
      refine ⟨congrArg (fun v => Ending.returned (Value.int .i64 v)) ?_, HW.out⟩
      rw [← Hp.out, List.drop_of_length_le (by simp [own]; rw [← Hl.out]; exact Nat.le_refl _)]; rfl
end Go.Proofs.Ytpahbpgkmebieaa
