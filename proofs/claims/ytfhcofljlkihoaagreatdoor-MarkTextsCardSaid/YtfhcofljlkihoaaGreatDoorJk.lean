/- Contracts of functions of the program and of the reference, and plain facts: a part of a proof. Own text. -/
import Derived.Test.YtfhcofljlkihoaaGreatDoorJj
import Derived.Scope
set_option linter.unusedVariables false
set_option linter.unusedSimpArgs false
set_option linter.unusedSectionVars false
namespace Go.Proofs.YtfhcofljlkihoaaGreatDoor
open Go Go.RowKit Go.Shelf
attribute [local go_sem] Oper.semAt_some
set_option maxHeartbeats 400000
set_option maxRecDepth 100000

/-- Is a mark apart from all that were given? -/
def apAll (w0 w1 w2 w3 w4 F : Int) (gs : List Giv) (m : Rd) : Bool := gs.all fun g => apartB w0 w1 w2 w3 w4 F g.m0 g.m1 g.m2 g.m3 g.m4 g.m5 m.r0 m.r1 m.r2 m.r3 m.r4 m.r5
def zeroR : Rd := ⟨0, 0, 0, 0, 0, 0⟩
def nextR (w0 w1 w2 w3 w4 F : Int) (gs : List Giv) : Rd × Int :=
  if okB w0 w1 w2 w3 w4 F gs = true then (if gs.length = 40 then (zeroR, 16) else match (upto 15625).find? (apAll w0 w1 w2 w3 w4 F gs) with | some m => (m, 0) | none => (zeroR, 16)) else (zeroR, 13)
def encR (r : Rd) : Value := .agg #[.int .i64 r.r0, .int .i64 r.r1, .int .i64 r.r2, .int .i64 r.r3, .int .i64 r.r4, .int .i64 r.r5]

theorem put6_heap (w : World) (b k : Nat) (h : k ≠ b) (v0 v1 v2 v3 v4 v5 : Value) :
    ((((((w.setCell ⟨b, 0, none⟩ v0).setCell ⟨b, 1, none⟩ v1).setCell ⟨b, 2, none⟩ v2).setCell ⟨b, 3, none⟩ v3).setCell ⟨b, 4, none⟩ v4).setCell ⟨b, 5, none⟩ v5).heap[k]? = w.heap[k]? := by
  rw [Below.heap_setCell _ _ _ _ h, Below.heap_setCell _ _ _ _ h, Below.heap_setCell _ _ _ _ h, Below.heap_setCell _ _ _ _ h, Below.heap_setCell _ _ _ _ h, Below.heap_setCell _ _ _ _ h]
theorem cell_putObj (w : World) (b j l : Nat) (o : Obj) (h : b ≠ l) : (w.putObj l o).cell? ⟨b, j, none⟩ = w.cell? ⟨b, j, none⟩ :=
  World.cell?_of_block (a := ⟨b, j, none⟩) (World.putObj_heap_other h)
theorem wpIn_scope_wide {n : Nat} {P : Program} {Q : Exit → Act → World → Prop} {a : Act} {w : World} {c : Code} (h : c.wpIn Fence.wide n P (Exit.noGoto Q) a w) : (Code.scope c).wpIn Fence.wide n P Q a w :=
  wpIn_wide.2 (wp_scope_straight (wpIn_wide.1 h))
theorem noGoto_ret {Q : Exit → Act → World → Prop} {a : Act} {w : World} (h : Q .ret a w) : Exit.noGoto Q .ret a w := h
theorem find_hit {p : Rd → Bool} {pre : List Rd} {m : Rd} {k N : Nat} (hk : k < N) (he : upto (k + 1) = pre ++ [m]) (h0 : ∀ x ∈ pre, p x = false) (h1 : p m = true) : (upto N).find? p = some m := by
  have hsub : upto N = upto (k + 1) ++ ((List.range N).drop (k + 1)).map markNo := by
    unfold upto
    rw [← List.map_append]
    have : List.range (k + 1) = (List.range N).take (k + 1) := by rw [List.take_range, Nat.min_eq_left (by omega)]
    rw [this, List.take_append_drop]
  rw [hsub, he, List.append_assoc, List.find?_append]
  have : pre.find? p = none := by rw [List.find?_eq_none]; intro x hx; rw [h0 x hx]; simp
  rw [this]; simp [h1]
theorem find_no {p : Rd → Bool} {N : Nat} (h0 : ∀ x ∈ upto N, p x = false) : (upto N).find? p = none := by
  rw [List.find?_eq_none]; intro x hx; rw [h0 x hx]; simp

theorem bodyPostM_ret0 {F : Fence} {n : Nat} {P : Program} {fn : Func} {R : Ending → World → Prop} {a : Act} {w : World} {v : Value}
    (hr : (results fn a.tmps).run P w = .ok v w) (hd : a.defers = []) (hR : R (.returned v) w) : bodyPostM F n P fn R .ret a w := by
  show LeavesInM F n P fn a.tmps R a.defers .returning w; rw [hd]; exact ⟨v, hr, hR⟩
theorem bodyPostM_ret1 {F : Fence} {n D : Nat} {P : Program} {fn : Func} {R : Ending → World → Prop} {a : Act} {w : World} {v : Value}
    (hd : a.defers = [{ target := .collected D, args := #[] }]) (hk : w.heap[D]? = some (.deferred (some [])))
    (hr : (results fn a.tmps).run P (w.putObj D (.deferred none)) = .ok v (w.putObj D (.deferred none))) (hR : R (.returned v) (w.putObj D (.deferred none))) : bodyPostM F n P fn R .ret a w := by
  show LeavesInM F n P fn a.tmps R a.defers .returning w; rw [hd]; exact ⟨by simp, .inl ⟨_, _, rfl, run_takeDeferred hk, v, hr, hR⟩⟩

theorem next_any (w0 w1 w2 w3 w4 F : Int) (A : Option Addr) (n c : Nat) (gs : List Giv) (w : World) (hg : Gs w A n gs) (hnc : n ≤ c) :
    Calls Tryz.prog 23 #[.agg #[.int .i64 w0, .int .i64 w1, .int .i64 w2, .int .i64 w3, .int .i64 w4, .int .i64 F, .slice A n c]] w fun e w' =>
      e = .returned (.tuple #[encR (nextR w0 w1 w2 w3 w4 F gs).1, .int .i64 (nextR w0 w1 w2 w3 w4 F gs).2]) ∧ Below w.heap.size w w' := by
  have Hl : Hid (n = gs.length) := Lib.hid hg.len
  refine (callsIn_wide (n := 9)).1 (callsIn_of_wp_marks Tryz.func23 rfl trivial ?_ rfl)
  simp only [Tryz.ntmps23, List.size_toArray, List.length_cons, List.length_nil, Nat.reduceAdd, Nat.reduceSub, Array.replicate_succ, Array.replicate_zero, List.push_toArray, List.append_toArray, List.nil_append, List.cons_append]
  gi_wp2_with fail
  generalize hW : (World.alloc _ _) = W
  have HW : Hid (Below w.heap.size w W) := Lib.hid (by subst hW; go_grown)
  have hs : w.heap.size + 1 < W.heap.size := by subst hW; simp
  have cm : ∀ j, W.cell? ⟨w.heap.size, j, none⟩ = [Value.int .i64 w0, .int .i64 w1, .int .i64 w2, .int .i64 w3, .int .i64 w4, .int .i64 F, .slice A n c][j]? := by subst hW; intro j; simp [go_sem]
  have cr : ∀ j, W.cell? ⟨w.heap.size + 1, j, none⟩ = [Value.int .i64 0, .int .i64 0, .int .i64 0, .int .i64 0, .int .i64 0, .int .i64 0][j]? := by subst hW; intro j; simp [go_sem]
  have fr : ∀ j, W.frozen? ⟨w.heap.size + 1, j, none⟩ = false := by subst hW; intro j; simp [go_sem]
  clear hW
  refine wpIn_scope_wide ?_
  have hs0 : w.heap.size < W.heap.size := by omega
  have Hg1 := Lib.hid (hg.keep HW.out)
  have Ex : ∀ z, Hid (∀ j, j < 6 → ((grow W z).cell? ⟨w.heap.size + 1, j, none⟩).isSome = true) := fun z => Lib.hid (by
    intro j hj
    rw [grow_cell_lt _ _ _ _ hs, cr j]
    rcases (by omega : j = 0 ∨ j = 1 ∨ j = 2 ∨ j = 3 ∨ j = 4 ∨ j = 5) with rfl | rfl | rfl | rfl | rfl | rfl <;> rfl)
  cases hb : okB w0 w1 w2 w3 w4 F gs
  · have Hb := Lib.hid hb
    clear hb
    gi_wp2_with (refine ⟨trivial, (callsIn_wide.2 (check_no _ _ _ _ _ _ _ _ _ _ _ Hg1.out hnc Hb.out)).mono ?_⟩; rintro e x1 ⟨rfl, hb1⟩; obtain ⟨z, rfl⟩ := below_grow hb1; clear hb1)
    have P := put6 (grow W z) (w.heap.size + 1) (.int .i64 0) (.int .i64 0) (.int .i64 0) (.int .i64 0) (.int .i64 0) (.int .i64 0) (Ex z).out
    have B := put6_below (up HW.out (grow_below W z)) (by omega : w.heap.size ≤ w.heap.size + 1) (.int .i64 0) (.int .i64 0) (.int .i64 0) (.int .i64 0) (.int .i64 0) (.int .i64 0)
    generalize World.setCell _ ⟨w.heap.size + 1, 5, none⟩ _ = V at P B ⊢
    have p0 := P 0 (by omega); have p1 := P 1 (by omega); have p2 := P 2 (by omega); have p3 := P 3 (by omega); have p4 := P 4 (by omega); have p5 := P 5 (by omega)
    clear P
    simp at p0 p1 p2 p3 p4 p5
    refine noGoto_ret (bodyPostM_ret0 (v := .tuple #[.agg #[.int .i64 0, .int .i64 0, .int .i64 0, .int .i64 0, .int .i64 0, .int .i64 0], .int .i64 13]) (by simp [results, Tryz.results23, go_sem, p0, p1, p2, p3, p4, p5]) rfl ⟨?_, B⟩)
    unfold nextR; rw [Hb.out]; rfl
  have Hb := Lib.hid hb
  clear hb
  by_cases h40 : n = 40
  · have H40 := Lib.hid h40
    subst h40
    gi_wp2_with (refine ⟨trivial, (callsIn_wide.2 (check_yes _ _ _ _ _ _ _ _ _ _ _ Hg1.out hnc Hb.out)).mono ?_⟩; rintro e x1 ⟨rfl, hb1⟩; obtain ⟨z, rfl⟩ := below_grow hb1; clear hb1)
    have P := put6 (grow W z) (w.heap.size + 1) (.int .i64 0) (.int .i64 0) (.int .i64 0) (.int .i64 0) (.int .i64 0) (.int .i64 0) (Ex z).out
    have B := put6_below (up HW.out (grow_below W z)) (by omega : w.heap.size ≤ w.heap.size + 1) (.int .i64 0) (.int .i64 0) (.int .i64 0) (.int .i64 0) (.int .i64 0) (.int .i64 0)
    generalize World.setCell _ ⟨w.heap.size + 1, 5, none⟩ _ = V at P B ⊢
    have p0 := P 0 (by omega); have p1 := P 1 (by omega); have p2 := P 2 (by omega); have p3 := P 3 (by omega); have p4 := P 4 (by omega); have p5 := P 5 (by omega)
    clear P
    simp at p0 p1 p2 p3 p4 p5
    refine noGoto_ret (bodyPostM_ret0 (v := .tuple #[.agg #[.int .i64 0, .int .i64 0, .int .i64 0, .int .i64 0, .int .i64 0, .int .i64 0], .int .i64 16]) (by simp [results, Tryz.results23, go_sem, p0, p1, p2, p3, p4, p5]) rfl ⟨?_, B⟩)
    unfold nextR; rw [Hb.out, if_pos rfl, if_pos Hl.out.symm]; rfl
  have H40 := Lib.hid h40
  have h40b : ((n : Int) == 40) = false := by simp; omega
  gi_wp2_with (refine ⟨trivial, (callsIn_wide.2 (check_yes _ _ _ _ _ _ _ _ _ _ _ Hg1.out hnc Hb.out)).mono ?_⟩; rintro e x1 ⟨rfl, hb1⟩; obtain ⟨z, rfl⟩ := below_grow hb1; clear hb1)
  refine wpIn_label ?_
  gi_wp2
  have hz0 : w.heap.size < W.heap.size + z.blocks.size := by omega
  have hz1 : w.heap.size + 1 < W.heap.size + z.blocks.size := by omega
  generalize hU : World.alloc _ (.cells #[.int .i64 16] 27) = U
  have HU : Hid (Below W.heap.size W U) := Lib.hid (by subst hU; exact up (grow_below W z) (up (up_alloc _ _) (up_alloc _ _)))
  have hUs : U.heap.size = W.heap.size + z.blocks.size + 1 + 1 := by subst hU; simp
  have F5 : ∀ j, U.cell? ⟨W.heap.size + z.blocks.size, j, none⟩ = [Value.int .i64 0, .int .i64 0, .int .i64 0, .int .i64 0, .int .i64 0, .int .i64 0][j]? := by subst hU; intro j; simp [go_sem]
  have F6 : U.cell? ⟨W.heap.size + z.blocks.size + 1, 0, none⟩ = some (.int .i64 16) := by subst hU; simp [go_sem]
  have Z5 : ∀ j, U.frozen? ⟨W.heap.size + z.blocks.size, j, none⟩ = false := by subst hU; intro j; simp [go_sem]
  have Z6 : U.frozen? ⟨W.heap.size + z.blocks.size + 1, 0, none⟩ = false := by subst hU; simp [go_sem]
  clear hU
  have u5 : W.heap.size + z.blocks.size < U.heap.size := by omega
  have u6 : W.heap.size + z.blocks.size + 1 < U.heap.size := by omega
  have Hd := Lib.hid (okB_ok Hb.out)
  have H16 : Hid (0 ≤ F ∧ F ≤ 2) := Lib.hid (by have := Hb.out; simp only [okB, Bool.and_eq_true, decide_eq_true_eq] at this; exact this.1.1.2)
  refine rangeFunc_law (by omega) (gf := 53) (lb := #[]) rfl (enters_of Tryz.func53 (by kernel_rfl) rfl) (every_iter w) (up HW.out HU.out) (fun _ => rfl)
    (fun pre X => Below U.heap.size U X ∧ ∀ x ∈ pre, apAll w0 w1 w2 w3 w4 F gs x = false)
    (fun c pre X => c = .exit 0 ∧ ∃ pre0 m, pre = pre0 ++ [m] ∧ (∀ x ∈ pre0, apAll w0 w1 w2 w3 w4 F gs x = false) ∧ apAll w0 w1 w2 w3 w4 F gs m = true ∧ Below W.heap.size W X ∧ MBox X (W.heap.size + z.blocks.size) m ∧ X.cell? ⟨W.heap.size + z.blocks.size + 1, 0, none⟩ = some (.int .i64 0))
    (fun _ _ _ => trivial) ?_ ?_ ⟨Below.refl _ _, by simp⟩ ?_ ?_ ?_
  · rintro s X Y ⟨h1, h2⟩ hb
    exact ⟨h1.trans hb, h2⟩
  · rintro c s X o ⟨rfl, pre0, m, rfl, h0, h1, h2, h3, h4⟩
    have hb : Below U.heap.size X (X.putObj (U.heap.size + 1) o) := below_putObj X (by omega) o
    generalize X.putObj (U.heap.size + 1) o = Y at hb ⊢
    refine ⟨rfl, pre0, m, rfl, h0, h1, h2.trans (hb.mono (by have := HU.out.size; omega)), ?_, (hb.cell (p := ⟨W.heap.size + z.blocks.size + 1, 0, none⟩) u6).trans h4⟩
    obtain ⟨b0, b1, b2, b3, b4, b5, b6, b7⟩ := h3
    have k : ∀ j, Y.cell? ⟨W.heap.size + z.blocks.size, j, none⟩ = X.cell? ⟨W.heap.size + z.blocks.size, j, none⟩ := fun j => hb.cell (p := ⟨W.heap.size + z.blocks.size, j, none⟩) u5
    exact ⟨by have := hb.size; omega, (k 0).trans b1, (k 1).trans b2, (k 2).trans b3, (k 3).trans b4, (k 4).trans b5, (k 5).trans b6, fun j => (hb.frozen (p := ⟨W.heap.size + z.blocks.size, j, none⟩) u5).trans (b7 j)⟩
  · rintro l pre x X ⟨k, hk, hsp⟩ _ ⟨hbx, hno⟩ hsz
    obtain ⟨rfl, rfl⟩ : upto k = pre ∧ markNo k = x := by
      rw [upto_succ] at hsp
      exact ⟨(List.append_inj_left' hsp rfl).symm, by simpa using (List.append_inj_right' hsp rfl).symm⟩
    have hdg := markNo_dig k
    have Hsp := Lib.hid hsp
    have Hno := Lib.hid hno
    have Hbx := Lib.hid hbx
    clear hsp hno hbx
    have xs0 : U.heap.size ≤ X.heap.size := by omega
    have xs1 : w.heap.size < X.heap.size := by omega
    have xs2 : W.heap.size + z.blocks.size < X.heap.size := by omega
    have xs3 : W.heap.size + z.blocks.size + 1 < X.heap.size := by omega
    generalize upto k = pre at *
    generalize markNo k = x at *
    simp only [encM]
    gi_wp2
    refine ⟨Above.of_below (up_alloc _ _), ?_⟩
    intro V hV1 hV2
    have HXV : Hid (Below U.heap.size X V) := Lib.hid (((up_alloc _ _).mono xs0).trans hV1)
    have HUV : Hid (Below U.heap.size U V) := Lib.hid (Hbx.out.trans HXV.out)
    have HWV : Hid (Below W.heap.size W V) := Lib.hid (HU.out.trans (HUV.out.mono (by omega)))
    have vN : X.heap.size < V.heap.size := by have := hV2.size; simp at this; omega
    have hN : ∀ j, V.cell? ⟨X.heap.size, j, none⟩ = [Value.int .i64 x.r0, .int .i64 x.r1, .int .i64 x.r2, .int .i64 x.r3, .int .i64 x.r4, .int .i64 x.r5][j]? := by
      intro j
      rw [World.cell?_of_block (a := ⟨X.heap.size, j, none⟩) (hV2.block X.heap.size hsz (by simp))]
      simp [go_sem]
    have HN : Hid (MBox V X.heap.size x) := Lib.hid (by
      refine ⟨vN, hN 0, hN 1, hN 2, hN 3, hN 4, hN 5, fun j => ?_⟩
      rw [World.frozen?_of_block (a := ⟨X.heap.size, j, none⟩) (hV2.block X.heap.size hsz (by simp))]
      simp [go_sem])
    have H5 : Hid (MBox V (W.heap.size + z.blocks.size) zeroR) := Lib.hid (MBox.keep (w := U) ⟨u5, F5 0, F5 1, F5 2, F5 3, F5 4, F5 5, Z5⟩ HUV.out u5)
    clear hV1 hV2 hN
    have v0 : w.heap.size < V.heap.size := by omega
    have v5 : W.heap.size + z.blocks.size < V.heap.size := by omega
    have v6 : W.heap.size + z.blocks.size + 1 < V.heap.size := by omega
    have cmV : ∀ j, V.cell? ⟨w.heap.size, j, none⟩ = [Value.int .i64 w0, .int .i64 w1, .int .i64 w2, .int .i64 w3, .int .i64 w4, .int .i64 F, .slice A n c][j]? := fun j => (HWV.out.cell (p := ⟨w.heap.size, j, none⟩) hs0).trans (cm j)
    have c6V : V.cell? ⟨W.heap.size + z.blocks.size + 1, 0, none⟩ = some (.int .i64 16) := (HUV.out.cell (p := ⟨_, 0, none⟩) u6).trans F6
    have z6V : V.frozen? ⟨W.heap.size + z.blocks.size + 1, 0, none⟩ = false := (HUV.out.frozen (p := ⟨_, 0, none⟩) u6).trans Z6
    have HgV := Lib.hid (hg.keep (up HW.out HWV.out))
    have hn40 : n ≤ 40 := by have := okB_40 Hb.out; have := Hl.out; omega
    clear cm cr fr F5 F6 Z5 Z6
    obtain ⟨_, x0, x1, x2, x3, x4, x5, _⟩ := HN.out
    obtain ⟨_, y0, y1, y2, y3, y4, y5, yf⟩ := H5.out
    obtain ⟨⟨a0, b0⟩, ⟨a1, b1⟩, ⟨a2, b2⟩, ⟨a3, b3⟩, ⟨a4, b4⟩, ⟨a5, b5⟩⟩ := hdg
    gi_wp2
    gi_loopw [25] (fun i wr => ∃ (k : Nat) (y : Gr), k ≤ n ∧ i = .int .i64 k ∧ wr = grow V y ∧ apAll w0 w1 w2 w3 w4 F (gs.take k) x = true) (fun i _ => n - (intOf i).toNat)
    case atStart => exact ⟨0, ⟨#[], V.drawn⟩, by omega, rfl, by simp [grow], rfl⟩
    case round =>
      obtain ⟨k, y, hk, rfl, rfl, hall⟩ := hrel
      have Hall := Lib.hid hall
      clear hall
      by_cases hlt : k < n
      rotate_left
      · obtain rfl : k = n := by omega
        have Hf : Hid (apAll w0 w1 w2 w3 w4 F gs x = true) := Lib.hid (by have := Hall.out; rwa [List.take_of_length_le (by rw [← Hl.out]; exact Nat.le_refl _)] at this)
        gi_wp2
        have M := ((((((H5.out.keep (grow_below V y) v5).set0 x.r0).set1 x.r1).set2 x.r2).set3 x.r3).set4 x.r4).set5 x.r5
        have c6 : (grow V y).cell? ⟨W.heap.size + z.blocks.size + 1, 0, none⟩ = some (.int .i64 16) := ((grow_below V y).cell (p := ⟨W.heap.size + z.blocks.size + 1, 0, none⟩) v6).trans c6V
        have wz : W.heap.size ≤ W.heap.size + z.blocks.size := by omega
        have wz1 : W.heap.size ≤ W.heap.size + z.blocks.size + 1 := by omega
        refine ⟨?_, rfl, pre, x, rfl, Hno.out, Hf.out, ?_, M.other (by simp) _, World.cell?_setCell_same' _ _ _ ?_⟩
        · exact (((((((Above.of_below (grow_below V y)).trans (Above.setCell _ u5 _)).trans (Above.setCell _ u5 _)).trans (Above.setCell _ u5 _)).trans (Above.setCell _ u5 _)).trans (Above.setCell _ u5 _)).trans (Above.setCell _ u5 _)).trans (Above.setCell _ u6 _)
        · exact (((((((HWV.out.trans ((grow_below V y).mono (by omega))).setCell wz _).setCell wz _).setCell wz _).setCell wz _).setCell wz _).setCell wz _).setCell wz1 _
        · rw [World.cell?_setCell_other _ _ _ _ (by simp), World.cell?_setCell_other _ _ _ _ (by simp), World.cell?_setCell_other _ _ _ _ (by simp), World.cell?_setCell_other _ _ _ _ (by simp), World.cell?_setCell_other _ _ _ _ (by simp), World.cell?_setCell_other _ _ _ _ (by simp), c6]; rfl
      have hkl : k < gs.length := by rw [← Hl.out]; exact hlt
      have Htk : Hid (gs.take (k + 1) = gs.take k ++ [gs[k]]) := Lib.hid (List.take_succ_eq_append_getElem hkl)
      have Hmem : Hid (gs[k] ∈ gs) := Lib.hid (List.getElem_mem hkl)
      obtain ⟨b, o, rfl, hb, hc⟩ := HgV.out.get k hkl
      obtain ⟨c0, c1, c2, c3, c4, c5, c6⟩ := hc
      obtain ⟨⟨p0, q0⟩, ⟨p1, q1⟩, ⟨p2, q2⟩, ⟨p3, q3⟩, ⟨p4, q4⟩, ⟨p5, q5⟩⟩ := Hd.out _ (List.getElem_mem hkl)
      generalize gs[k] = g at *
      have w0' : w.heap.size < V.heap.size + y.blocks.size + 1 := by omega
      have e0' : w.heap.size < V.heap.size + y.blocks.size := by omega
      have e1' : X.heap.size < V.heap.size + y.blocks.size := by omega
      have w1' : X.heap.size < V.heap.size + y.blocks.size + 1 := by omega
      cases hap : apartB w0 w1 w2 w3 w4 F g.m0 g.m1 g.m2 g.m3 g.m4 g.m5 x.r0 x.r1 x.r2 x.r3 x.r4 x.r5
      · have Hap := Lib.hid hap
        clear hap
        gi_wp2_with (refine ⟨trivial, (CallsIn.inRound l (callsIn_wide.2 (apart_any _ _ _ _ _ _ _ _ _ _ _ _ _ _ _ _ _ _ _ p0 q0 p1 q1 p2 q2 p3 q3 p4 q4 p5 q5 a0 b0 a1 b1 a2 b2 a3 b3 a4 b4 a5 b5 H16.out.1 H16.out.2))).mono ?_⟩; rintro e x1 ⟨rfl, hb1⟩; obtain ⟨y2, rfl⟩ := below_grow hb1; clear hb1; rw [Hap.out])
        have hbel : Below V.heap.size V _ := up (grow_below V y) (up (up_alloc (grow V y) (.cells #[.int .i64 g.o, .int .i64 g.m0, .int .i64 g.m1, .int .i64 g.m2, .int .i64 g.m3, .int .i64 g.m4, .int .i64 g.m5] 41)) (grow_below _ y2))
        refine ⟨Above.of_below hbel, HUV.out.trans (hbel.mono (by have := HUV.out.size; omega)), fun m hm => ?_⟩
        rcases List.mem_append.1 hm with hm | hm
        · exact Hno.out m hm
        · simp at hm; subst hm
          unfold apAll; rw [List.all_eq_false]; exact ⟨g, Hmem.out, by rw [Hap.out]; simp⟩
      · have Hap := Lib.hid hap
        clear hap
        gi_wp2_with (refine ⟨trivial, (CallsIn.inRound l (callsIn_wide.2 (apart_any _ _ _ _ _ _ _ _ _ _ _ _ _ _ _ _ _ _ _ p0 q0 p1 q1 p2 q2 p3 q3 p4 q4 p5 q5 a0 b0 a1 b1 a2 b2 a3 b3 a4 b4 a5 b5 H16.out.1 H16.out.2))).mono ?_⟩; rintro e x1 ⟨rfl, hb1⟩; obtain ⟨y2, rfl⟩ := below_grow hb1; clear hb1; rw [Hap.out])
        have hbel : Below V.heap.size V _ := up (grow_below V y) (up (up_alloc (grow V y) (.cells #[.int .i64 g.o, .int .i64 g.m0, .int .i64 g.m1, .int .i64 g.m2, .int .i64 g.m3, .int .i64 g.m4, .int .i64 g.m5] 41)) (grow_below _ y2))
        obtain ⟨y3, hy3⟩ := below_grow hbel
        refine ⟨⟨k + 1, y3, by omega, by go_num, hy3, ?_⟩, by simp [intOf]; omega⟩
        rw [Htk.out]
        have := Hall.out
        unfold apAll at this ⊢
        rw [List.all_append, this]; simp [Hap.out]
  · rintro xs X rfl ⟨hbx, hno⟩ hdef
    have Hnone : Hid ((upto 15625).find? (apAll w0 w1 w2 w3 w4 F gs) = none) := Lib.hid (find_no hno)
    have Hdef := Lib.hid hdef
    have HWX : Hid (Below W.heap.size W X) := Lib.hid (HU.out.trans (hbx.mono (by omega)))
    have d5 : ∀ j, X.cell? ⟨W.heap.size + z.blocks.size, j, none⟩ = [Value.int .i64 0, .int .i64 0, .int .i64 0, .int .i64 0, .int .i64 0, .int .i64 0][j]? := fun j => (hbx.cell (p := ⟨W.heap.size + z.blocks.size, j, none⟩) u5).trans (F5 j)
    have d6 : X.cell? ⟨W.heap.size + z.blocks.size + 1, 0, none⟩ = some (.int .i64 16) := (hbx.cell (p := ⟨W.heap.size + z.blocks.size + 1, 0, none⟩) u6).trans F6
    clear hno hdef hbx
    have xU : U.heap.size < X.heap.size := (Array.getElem?_eq_some_iff.1 Hdef.out).1
    have x0 : w.heap.size + 1 < X.heap.size := by omega
    have x5 : W.heap.size + z.blocks.size < X.heap.size := by omega
    have x6 : W.heap.size + z.blocks.size + 1 < X.heap.size := by omega
    have crX : ∀ j, X.cell? ⟨w.heap.size + 1, j, none⟩ = [Value.int .i64 0, .int .i64 0, .int .i64 0, .int .i64 0, .int .i64 0, .int .i64 0][j]? := fun j => (HWX.out.cell (p := ⟨w.heap.size + 1, j, none⟩) hs).trans (cr j)
    have frX : ∀ j, X.frozen? ⟨w.heap.size + 1, j, none⟩ = false := fun j => (HWX.out.frozen (p := ⟨w.heap.size + 1, j, none⟩) hs).trans (fr j)
    clear cm cr fr F5 F6 Z5 Z6
    have Ex2 : Hid (∀ j, j < 6 → (X.cell? ⟨w.heap.size + 1, j, none⟩).isSome = true) := Lib.hid (by
      intro j hj
      rw [crX j]
      rcases (by omega : j = 0 ∨ j = 1 ∨ j = 2 ∨ j = 3 ∨ j = 4 ∨ j = 5) with rfl | rfl | rfl | rfl | rfl | rfl <;> rfl)
    gi_wp2
    refine wpIn_wide.2 ?_
    go_region
    gi_wp2
    have P := put6 X (w.heap.size + 1) (.int .i64 0) (.int .i64 0) (.int .i64 0) (.int .i64 0) (.int .i64 0) (.int .i64 0) Ex2.out
    have B := (put6_below (up HW.out HWX.out) (by omega : w.heap.size ≤ w.heap.size + 1) (.int .i64 0) (.int .i64 0) (.int .i64 0) (.int .i64 0) (.int .i64 0) (.int .i64 0)).drew
    have D := put6_heap X (w.heap.size + 1) U.heap.size (by omega) (.int .i64 0) (.int .i64 0) (.int .i64 0) (.int .i64 0) (.int .i64 0) (.int .i64 0)
    rw [Hdef.out] at D
    generalize hV : World.setCell _ ⟨w.heap.size + 1, 5, none⟩ _ = V0 at P B D ⊢
    clear hV
    change ∀ j, j < 6 → V0.drew.cell? _ = _ at P
    change V0.drew.heap[U.heap.size]? = _ at D
    generalize V0.drew = V at P B D ⊢
    have P' : ∀ j, j < 6 → (V.putObj U.heap.size (.deferred none)).cell? ⟨w.heap.size + 1, j, none⟩ = _ := fun j hj => (cell_putObj V (w.heap.size + 1) j U.heap.size (.deferred none) (by omega)).trans (P j hj)
    have B' := B.trans (below_putObj (B := w.heap.size) V (l := U.heap.size) (by omega) (.deferred none))
    have p0 := P' 0 (by omega); have p1 := P' 1 (by omega); have p2 := P' 2 (by omega); have p3 := P' 3 (by omega); have p4 := P' 4 (by omega); have p5 := P' 5 (by omega)
    clear P P'
    simp at p0 p1 p2 p3 p4 p5
    refine noGoto_ret (bodyPostM_ret1 (D := U.heap.size) (v := .tuple #[.agg #[.int .i64 0, .int .i64 0, .int .i64 0, .int .i64 0, .int .i64 0, .int .i64 0], .int .i64 16]) rfl D ?_ ⟨?_, B'⟩)
    · generalize V.putObj U.heap.size (.deferred none) = V' at *
      simp [results, Tryz.results23, go_sem, p0, p1, p2, p3, p4, p5]
    · unfold nextR; rw [if_pos Hb.out, if_neg (by rw [← Hl.out]; exact H40.out), Hnone.out]; rfl
  · rintro c pre X ⟨k, hk, rfl⟩ ⟨rfl, pre0, m, hpre, h0, h1, h2, h3, h4⟩ hdef
    have Hhit : Hid ((upto 15625).find? (apAll w0 w1 w2 w3 w4 F gs) = some m) := Lib.hid (find_hit hk hpre h0 h1)
    have Hdef := Lib.hid hdef
    have HWX := Lib.hid h2
    obtain ⟨_, y0, y1, y2, y3, y4, y5, _⟩ := h3
    clear hdef hpre h0 h1 h2
    have xU : U.heap.size < X.heap.size := (Array.getElem?_eq_some_iff.1 Hdef.out).1
    have x0 : w.heap.size + 1 < X.heap.size := by omega
    have x5 : W.heap.size + z.blocks.size < X.heap.size := by omega
    have x6 : W.heap.size + z.blocks.size + 1 < X.heap.size := by omega
    have crX : ∀ j, X.cell? ⟨w.heap.size + 1, j, none⟩ = [Value.int .i64 0, .int .i64 0, .int .i64 0, .int .i64 0, .int .i64 0, .int .i64 0][j]? := fun j => (HWX.out.cell (p := ⟨w.heap.size + 1, j, none⟩) hs).trans (cr j)
    have frX : ∀ j, X.frozen? ⟨w.heap.size + 1, j, none⟩ = false := fun j => (HWX.out.frozen (p := ⟨w.heap.size + 1, j, none⟩) hs).trans (fr j)
    clear cm cr fr F5 F6 Z5 Z6
    have Ex2 : Hid (∀ j, j < 6 → (X.cell? ⟨w.heap.size + 1, j, none⟩).isSome = true) := Lib.hid (by
      intro j hj
      rw [crX j]
      rcases (by omega : j = 0 ∨ j = 1 ∨ j = 2 ∨ j = 3 ∨ j = 4 ∨ j = 5) with rfl | rfl | rfl | rfl | rfl | rfl <;> rfl)
    gi_wp2
    refine wpIn_wide.2 ?_
    go_region
    gi_wp2
    have P := put6 X (w.heap.size + 1) (.int .i64 m.r0) (.int .i64 m.r1) (.int .i64 m.r2) (.int .i64 m.r3) (.int .i64 m.r4) (.int .i64 m.r5) Ex2.out
    have B := (put6_below (up HW.out HWX.out) (by omega : w.heap.size ≤ w.heap.size + 1) (.int .i64 m.r0) (.int .i64 m.r1) (.int .i64 m.r2) (.int .i64 m.r3) (.int .i64 m.r4) (.int .i64 m.r5)).drew
    have D := put6_heap X (w.heap.size + 1) U.heap.size (by omega) (.int .i64 m.r0) (.int .i64 m.r1) (.int .i64 m.r2) (.int .i64 m.r3) (.int .i64 m.r4) (.int .i64 m.r5)
    rw [Hdef.out] at D
    generalize hV : World.setCell _ ⟨w.heap.size + 1, 5, none⟩ _ = V0 at P B D ⊢
    clear hV
    change ∀ j, j < 6 → V0.drew.cell? _ = _ at P
    change V0.drew.heap[U.heap.size]? = _ at D
    generalize V0.drew = V at P B D ⊢
    have P' : ∀ j, j < 6 → (V.putObj U.heap.size (.deferred none)).cell? ⟨w.heap.size + 1, j, none⟩ = _ := fun j hj => (cell_putObj V (w.heap.size + 1) j U.heap.size (.deferred none) (by omega)).trans (P j hj)
    have B' := B.trans (below_putObj (B := w.heap.size) V (l := U.heap.size) (by omega) (.deferred none))
    have p0 := P' 0 (by omega); have p1 := P' 1 (by omega); have p2 := P' 2 (by omega); have p3 := P' 3 (by omega); have p4 := P' 4 (by omega); have p5 := P' 5 (by omega)
    clear P P'
    simp at p0 p1 p2 p3 p4 p5
    refine noGoto_ret (bodyPostM_ret1 (D := U.heap.size) (v := .tuple #[.agg #[.int .i64 m.r0, .int .i64 m.r1, .int .i64 m.r2, .int .i64 m.r3, .int .i64 m.r4, .int .i64 m.r5], .int .i64 0]) rfl D ?_ ⟨?_, B'⟩)
    · generalize V.putObj U.heap.size (.deferred none) = V' at *
      simp [results, Tryz.results23, go_sem, p0, p1, p2, p3, p4, p5]
    · unfold nextR; rw [if_pos Hb.out, if_neg (by rw [← Hl.out]; exact H40.out), Hhit.out]; rfl
end Go.Proofs.YtfhcofljlkihoaaGreatDoor

namespace Go.Proofs.YtfhcofljlkihoaaGreatDoor
open Go Go.RowKit
set_option maxHeartbeats 400000
set_option maxRecDepth 100000

/-- Does a set have a place? -/
def bitB (s k : Nat) : Bool := bits BinOp.and IntKind.i64 ((s : Int) / 2 ^ (5 - k)) 1 == 1
/-- The places of a set below k, rising. -/
def plK (s : Nat) : Nat → List Int
  | 0 => []
  | k + 1 => if bitB s k = true then plK s k ++ [(k : Int)] else plK s k
theorem plK_len (s k : Nat) : (plK s k).length ≤ k := by
  induction k with
  | zero => exact Nat.le_refl _
  | succ k ih =>
    unfold plK
    split
    · simp; omega
    · omega
theorem plK_in (s k : Nat) : ∀ x ∈ plK s k, 0 ≤ x ∧ x < k := by
  induction k with
  | zero => intro x hx; simp [plK] at hx
  | succ k ih =>
    intro x hx
    unfold plK at hx
    split at hx
    · rcases List.mem_append.1 hx with h | h
      · have := ih x h; omega
      · simp at h; omega
    · have := ih x hx; omega

theorem placesOf_any (s : Nat) (hs : s < 64) (w : World) :
    Calls Tryz.prog 71 #[.int .i64 s] w fun e w' => ∃ v, e = .returned v ∧ w'.ownsRow w.heap.size 3 1 v (plK s 6).length (ints (plK s 6)) ∧ Below w.heap.size w w' := by
  obtain ⟨i0, hi, hz0, hz1, hz2⟩ := info_parts info3
  have HI := Lib.hid hi
  have HZ0 := Lib.hid hz0
  have HZ1 := Lib.hid hz1
  have HZ2 := Lib.hid hz2
  clear hi hz0 hz1 hz2
  go_enter Tryz.func71, Tryz.ntmps71
  go_wp2
  go_loopw [3, 5] (fun v i wr => ∃ (k : Nat) (z : Gr), k ≤ 6 ∧ i = .int .i64 k ∧ wr = grow w z ∧ (grow w z).ownsRow w.heap.size 3 1 v (plK s k).length (ints (plK s k))) (fun _ i _ => 6 - (intOf i).toNat)
  case atStart => exact ⟨0, ⟨#[], w.drawn⟩, by omega, rfl, by simp [grow], World.ownsRow_nil _ _ _ _⟩
  case round =>
    obtain ⟨k, z, hk, rfl, rfl, hown⟩ := hrel
    have Hown := Lib.hid hown; clear hown
    by_cases hlt : k < 6
    · have hln := plK_len s k
      have Hy : Hid (bitB s k = true → plK s (k + 1) = plK s k ++ [(k : Int)]) := Lib.hid (fun h => by rw [plK, if_pos h])
      have Hn : Hid (bitB s k = false → plK s (k + 1) = plK s k) := Lib.hid (fun h => by rw [plK, if_neg (by rw [h]; simp)])
      generalize hX : plK s k = X at *
      have HX := Lib.hid hX
      clear hX
      generalize hnX : X.length = nX at *
      have HnX := Lib.hid hnX
      clear hnX
      cases hh : bitB s k
      · have Hh := Lib.hid hh
        have hb : (bits BinOp.and IntKind.i64 ((s : Int) / 2 ^ (5 - k)) 1 == 1) = false := hh
        clear hh
        go_wp2
        refine ⟨⟨k + 1, z, by omega, by go_num, rfl, ?_⟩, by simp [intOf]; omega⟩
        rw [Hn.out Hh.out, HnX.out]; exact Hown.out
      · have Hh := Lib.hid hh
        have hb : (bits BinOp.and IntKind.i64 ((s : Int) / 2 ^ (5 - k)) 1 == 1) = true := hh
        clear hh
        go_wp2_with (at_builtin; refine wpList_append_own _ rfl _ _ 37 rfl w.heap.size 3 i0 (.int .i64 0) 1 8 Tryz.underlying37 HI.out HZ0.out HZ1.out HZ2.out rfl (by decide) _ _ _ rfl (Hown.out.alloc _) ⟨w.heap.size + z.blocks.size, 0, none⟩ 1 1 [.int .i64 k] rfl rfl ?c1 ?c2 ?c3 ?c4 ?c5 ?_)
        case c1 =>
          intro j u hu
          rw [Addr.add_lit, World.cell?_alloc_at _ _ _ _ (by simp), Nat.zero_add]
          simpa using hu
        case c2 => intro u hu; simp at hu; subst hu; rfl
        case c3 => unfold maxLen; omega
        case c4 => omega
        case c5 => simp; omega
        intro v' w' hown' hgr _
        have hbel : Below w.heap.size w w' := (up (grow_below w z) (up_alloc _ _)).grown hgr (by simp; omega) (fun q hq => (Hown.out.lt q hq).1)
        have Hown' := Lib.hid hown'
        clear hown' hgr
        obtain ⟨y3, rfl⟩ := below_grow hbel
        go_wp2
        refine ⟨⟨k + 1, y3, by omega, by go_num, rfl, ?_⟩, by simp [intOf]; omega⟩
        rw [Hy.out Hh.out, ints_snoc, List.length_append, HnX.out]
        exact Hown'.out
    · obtain rfl : k = 6 := by omega
      go_wp2
      go_ret
      exact ⟨_, rfl, Hown.out, grow_below w z⟩
end Go.Proofs.YtfhcofljlkihoaaGreatDoor

namespace Go.Proofs.YtfhcofljlkihoaaGreatDoor
open Go Go.RowKit Go.Shelf
attribute [local go_sem] Oper.semAt_some
set_option maxHeartbeats 400000
set_option maxRecDepth 100000

/-- The lists of n places of the first m sets, from the greatest set down. -/
def procL (n : Nat) : Nat → List (List Int)
  | 0 => []
  | m + 1 => if (plK (63 - m) 6).length = n then procL n m ++ [plK (63 - m) 6] else procL n m
def encL (x : List Int × Value) : Array Value := #[x.2]
/-- A list that is yielded lies there. -/
def LiesL (B : Nat) (x : List Int × Value) (X : World) : Prop := ∃ A k c, x.2 = .slice A k c ∧ k ≤ c ∧ Is X A k x.1 ∧ ∀ p, A = some p → B ≤ p.block
theorem Is.of_own2 {w : World} {base n : Nat} {v : Value} {l : List Int} (h : w.ownsRow base 3 1 v n (ints l)) : ∃ A c, v = .slice A n c ∧ n ≤ c ∧ Is w A n l ∧ ∀ p, A = some p → base ≤ p.block := by
  obtain ⟨A, c, rfl, hnc, his⟩ := Is.of_own h
  refine ⟨A, c, rfl, hnc, his, ?_⟩
  rintro p rfl
  rcases h.2 with ⟨h1, h2⟩ | ⟨g, cap, cur, h1, h2, _⟩
  · cases h1
  · cases h1; exact h2

theorem lists_iter (n nb : Nat) (w : World) (hnb : nb < w.heap.size) :
    Iter Tryz.prog 70 #[.pointer (some ⟨nb, 0, none⟩)] encL LiesL (fun X => X.cell? ⟨nb, 0, none⟩ = some (.int .i64 n))
      (fun xs => xs.map Prod.fst = procL n 64) (fun pre => ∃ m, m < 64 ∧ (plK (63 - m) 6).length = n ∧ pre.map Prod.fst = procL n (m + 1)) w := by
  intro N l J Jx W hn hW hJ hKx hY h0
  refine callsIn_of_wp Tryz.func70 rfl trivial ?_ rfl
  simp only [Tryz.ntmps70, List.size_toArray, List.length_cons, List.length_nil, Nat.reduceAdd, Nat.reduceSub, Array.replicate_succ, Array.replicate_zero, List.push_toArray, List.append_toArray, List.nil_append, List.cons_append]
  have HJ := Lib.hid hJ
  have HY := Lib.hid hY
  have HKx := Lib.hid hKx
  clear hJ hY hKx
  gi_wp2
  gi_loopw [3] (fun s wr => ∃ (t : Nat) (pre : List (List Int × Value)), t ≤ 64 ∧ s = .int .i64 ((t : Int) - 1) ∧ pre.map Prod.fst = procL n (64 - t) ∧ J pre wr ∧ W.heap.size ≤ wr.heap.size) (fun s _ => (intOf s + 1).toNat)
  case atStart => exact ⟨64, [], by omega, rfl, rfl, h0, by omega⟩
  case round =>
    obtain ⟨t, pre, ht, rfl, hpre, hjp, hsz⟩ := hrel
    have Hpre := Lib.hid hpre
    clear hpre
    cases t with
    | zero =>
      gi_wp2
      exact bodyPost_end (results_none rfl _ _ _) rfl ⟨⟨_, rfl⟩, .inl ⟨pre, Hpre.out, hjp⟩⟩
    | succ t =>
      have Hp : Hid ((plK t 6).length = n → procL n (64 - t) = procL n (64 - (t + 1)) ++ [plK t 6]) := Lib.hid (fun h => by
        obtain ⟨m, hm⟩ : ∃ m, 64 - t = m + 1 := ⟨63 - t, by omega⟩
        rw [hm, show 64 - (t + 1) = m by omega, procL, show 63 - m = t by omega, if_pos h])
      have Hq : Hid ((plK t 6).length ≠ n → procL n (64 - t) = procL n (64 - (t + 1))) := Lib.hid (fun h => by
        obtain ⟨m, hm⟩ : ∃ m, 64 - t = m + 1 := ⟨63 - t, by omega⟩
        rw [hm, show 64 - (t + 1) = m by omega, procL, show 63 - m = t by omega, if_neg h])
      have e1 : ((t + 1 : Nat) : Int) - 1 = (t : Int) := by omega
      rw [e1]
      have cn : wr.cell? ⟨nb, 0, none⟩ = some (.int .i64 n) := HKx.out _ _ hjp
      have hnw : nb < wr.heap.size := by have := hW.size; omega
      by_cases hlen : (plK t 6).length = n
      · have Hlen := Lib.hid hlen
        gi_wp2_with (refine ⟨trivial, fun h => (by cases h), (callsIn_wide.2 (placesOf_any t (by omega) wr)).mono ?_⟩; rintro e x1 ⟨v, rfl, hown, hb1⟩; obtain ⟨A0, c0, rfl, hkc, his, hfar⟩ := Is.of_own2 hown; clear hown; have cn1 : x1.cell? ⟨nb, 0, none⟩ = some (.int .i64 n) := (hb1.cell (p := ⟨nb, 0, none⟩) hnw).trans cn; have HJ1 := Lib.hid (HJ.out _ _ _ hjp (hb1.mono hsz)); obtain ⟨fn, tmps, assign, body, hy, hR⟩ := HY.out pre (plK t 6, .slice A0 (plK t 6).length c0) x1 ⟨63 - t, by omega, by rw [show 63 - (63 - t) = t by omega]; exact hlen, by rw [List.map_append, Hpre.out, show 63 - t + 1 = 64 - t by omega, Hp.out hlen]; rfl⟩ ⟨_, _, _, rfl, hkc, his, fun p hp => Nat.le_trans hsz (hfar p hp)⟩ HJ1.out (by have := hb1.size; omega); dsimp only [encL] at hy; rw [hlen] at hy ⊢)
        refine ⟨fun h => (by cases h), hR.mono ?_⟩
        rintro e W' (⟨rfl, hJ', hAb⟩ | ⟨rfl, hJx'⟩)
        · have hs2 : W.heap.size ≤ W'.heap.size := by have := hb1.size; have := hAb.size; omega
          have HJ' := Lib.hid hJ'
          clear hJ' hR hy
          gi_wp2
          refine ⟨⟨t, _, by omega, by go_num, ?_, HJ'.out, hs2⟩, by simp [intOf]⟩
          rw [List.map_append, Hpre.out, Hp.out Hlen.out]; rfl
        · have HJx := Lib.hid hJx'
          clear hJx' hR hy
          gi_wp2
          refine bodyPost_ret (results_none rfl _ _ _) rfl ⟨⟨_, rfl⟩, .inr ⟨_, ⟨63 - t, by omega, by rw [show 63 - (63 - t) = t by omega]; exact Hlen.out, ?_⟩, HJx.out⟩⟩
          rw [List.map_append, Hpre.out, show 63 - t + 1 = 64 - t by omega, Hp.out Hlen.out]; rfl
      · have Hlen := Lib.hid hlen
        have hlb : (((plK t 6).length : Int) == (n : Int)) = false := by simp; omega
        gi_wp2_with (refine ⟨trivial, fun h => (by cases h), (callsIn_wide.2 (placesOf_any t (by omega) wr)).mono ?_⟩; rintro e x1 ⟨v, rfl, hown, hb1⟩; obtain ⟨A0, c0, rfl, hkc, his⟩ := Is.of_own hown; clear hown; have cn1 : x1.cell? ⟨nb, 0, none⟩ = some (.int .i64 n) := (hb1.cell (p := ⟨nb, 0, none⟩) hnw).trans cn)
        refine ⟨fun f h => (by cases h), ?_⟩
        have hs2 : W.heap.size ≤ x1.heap.size := by have := hb1.size; omega
        have HJ1 := Lib.hid (HJ.out _ _ _ hjp (hb1.mono hsz))
        gi_wp2
        refine ⟨⟨t, pre, by omega, by go_num, ?_, HJ1.out, hs2⟩, by simp [intOf]⟩
        rw [Hpre.out, Hq.out Hlen.out]
end Go.Proofs.YtfhcofljlkihoaaGreatDoor

namespace Go.Proofs.YtfhcofljlkihoaaGreatDoor
open Go Go.RowKit Go.Shelf
attribute [local go_sem] Oper.semAt_some
set_option maxHeartbeats 400000
set_option maxRecDepth 100000

theorem listsOf_any (n : Nat) (w : World) :
    Calls Tryz.prog 47 #[.int .i64 n] w fun e w' => e = .returned (.func (.func 70) #[] #[.pointer (some ⟨w.heap.size, 0, none⟩)]) ∧ w' = w.alloc (.cells #[.int .i64 n] 3) := by
  go_enter Tryz.func47, Tryz.ntmps47
  go_wp2
  go_ret
  exact ⟨rfl, rfl⟩

/-- Another world but at some blocks. -/
structure OffD (Ds : List Nat) (X Y : World) : Prop where
  os : Y.os = X.os
  tape : Y.tape = X.tape
  output : Y.output = X.output
  size : Y.heap.size = X.heap.size
  block : ∀ b, b ∉ Ds → Y.heap[b]? = X.heap[b]?
theorem OffD.below {Ds : List Nat} {X Y Z : World} {B : Nat} (h : OffD Ds X Y) (hb : Below B Z X) (hD : ∀ D ∈ Ds, B ≤ D) : Below B Z Y :=
  hb.trans ⟨h.os, h.tape, h.output, Nat.le_of_eq h.size.symm, fun k hk => h.block k (fun hm => by have := hD k hm; omega)⟩
def mkD (D : Nat) : Deferred := { target := .collected D, args := #[] }
theorem leaves_marks {F : Fence} {n : Nat} {P : Program} {fn : Func} {tmps : Array Value} {R : Ending → World → Prop} : ∀ (Ds : List Nat) (X : World), Ds.Nodup →
    (∀ D ∈ Ds, X.heap[D]? = some (.deferred (some []))) → (∀ Y, OffD Ds X Y → ∃ v, (results fn tmps).run P Y = .ok v Y ∧ R (.returned v) Y) →
    LeavesInM F n P fn tmps R (Ds.map mkD) .returning X
  | [], X, _, _, h => by
    obtain ⟨v, h1, h2⟩ := h X ⟨rfl, rfl, rfl, rfl, fun _ _ => rfl⟩
    exact ⟨v, h1, h2⟩
  | D :: Ds, X, hn, hD, h => by
    refine ⟨by simp, .inl ⟨D, _, rfl, run_takeDeferred (hD D (List.mem_cons_self ..)), ?_⟩⟩
    obtain ⟨hn1, hn2⟩ := List.nodup_cons.1 hn
    refine leaves_marks Ds _ hn2 (fun E hE => (World.putObj_heap_other (by rintro rfl; exact hn1 hE)).trans (hD E (List.mem_cons_of_mem _ hE))) fun Y hY => h Y ⟨hY.os, hY.tape, hY.output, by rw [hY.size]; simp [World.putObj], fun b hb => ?_⟩
    rw [hY.block b (fun hm => hb (List.mem_cons_of_mem _ hm))]
    exact World.putObj_heap_other (by rintro rfl; exact hb (List.mem_cons_self ..))
theorem bodyPostM_marks {F : Fence} {n : Nat} {P : Program} {fn : Func} {R : Ending → World → Prop} {a : Act} {w : World} (Ds : List Nat) (hd : a.defers = Ds.map mkD) (hn : Ds.Nodup)
    (hk : ∀ D ∈ Ds, w.heap[D]? = some (.deferred (some []))) (h : ∀ Y, OffD Ds w Y → ∃ v, (results fn a.tmps).run P Y = .ok v Y ∧ R (.returned v) Y) : bodyPostM F n P fn R .ret a w := by
  show LeavesInM F n P fn a.tmps R a.defers .returning w; rw [hd]; exact leaves_marks Ds w hn hk h

/-- The lists of places, in their order; the first one that settles rows. -/
def allL : Nat → List (List Int)
  | 0 => []
  | n + 1 => allL n ++ procL n 64
def lookL (rs : List Rd) : List Int := ((allL 7).find? (settleB rs)).getD []
def lookR (w0 w1 w2 w3 w4 F : Int) (gs : List Giv) (r : Rd) : List Int := if brE w0 w1 w2 w3 w4 F gs r = 0 then lookL (rowsOf w0 w1 w2 w3 w4 (possG w0 w1 w2 w3 w4 F [r] gs)) else []

theorem procL_pre (n : Nat) : ∀ (m j : Nat), ∃ t, procL n (m + j) = procL n m ++ t
  | m, 0 => ⟨[], by simp⟩
  | m, j + 1 => by
    obtain ⟨t, ht⟩ := procL_pre n m j
    rw [← Nat.add_assoc, procL]
    split
    · exact ⟨t ++ [plK (63 - (m + j)) 6], by rw [ht, List.append_assoc]⟩
    · exact ⟨t, ht⟩
theorem allL_pre : ∀ (m j : Nat), ∃ t, allL (m + j) = allL m ++ t
  | m, 0 => ⟨[], by simp⟩
  | m, j + 1 => by
    obtain ⟨t, ht⟩ := allL_pre m j
    exact ⟨t ++ procL (m + j) 64, by rw [← Nat.add_assoc, allL, ht, List.append_assoc]⟩
theorem procL_in (n m : Nat) : ∀ l ∈ procL n m, ∀ i ∈ l, 0 ≤ i ∧ i < 6 := by
  induction m with
  | zero => intro l hl; simp [procL] at hl
  | succ m ih =>
    intro l hl
    rw [procL] at hl
    split at hl
    · rcases List.mem_append.1 hl with h | h
      · exact ih l h
      · simp at h; subst h; exact plK_in _ 6
    · exact ih l hl
theorem find_none_of {p : List Int → Bool} {l : List (List Int)} (h : ∀ x ∈ l, p x = false) : l.find? p = none := by
  rw [List.find?_eq_none]; intro x hx; rw [h x hx]; simp
theorem lookL_none {rs : List Rd} (h : ∀ l ∈ allL 7, settleB rs l = false) : lookL rs = [] := by
  unfold lookL; rw [find_none_of h]; rfl
theorem lookL_some {rs : List Rd} {k m : Nat} {pre : List (List Int × Value)} {x : List Int × Value} (hk : k < 7) (hm : m < 64) (h0 : ∀ l ∈ allL k, settleB rs l = false)
    (hp : (pre ++ [x]).map Prod.fst = procL k (m + 1)) (h1 : ∀ y ∈ pre, settleB rs y.1 = false) (h2 : settleB rs x.1 = true) : lookL rs = x.1 := by
  obtain ⟨t, ht⟩ := allL_pre (k + 1) (6 - k)
  obtain ⟨t', ht'⟩ := procL_pre k (m + 1) (63 - m)
  rw [show k + 1 + (6 - k) = 7 by omega] at ht
  rw [show m + 1 + (63 - m) = 64 by omega] at ht'
  unfold lookL
  rw [ht, allL, ht', ← hp, List.map_append, List.append_assoc, List.append_assoc, List.append_assoc, List.find?_append, find_none_of h0, List.find?_append,
    find_none_of (l := pre.map Prod.fst) (by intro l hl; obtain ⟨y, hy, rfl⟩ := List.mem_map.1 hl; exact h1 y hy)]
  simp [h2]
theorem Is.off {w w' : World} {A : Option Addr} {n : Nat} {l : List Int} (h : Is w A n l) (hs : w.heap.size ≤ w'.heap.size) (hA : ∀ p, A = some p → p.block < w.heap.size → w'.heap[p.block]? = w.heap[p.block]?) : Is w' A n l :=
  ⟨h.len, h.small, fun k hk => by
    obtain ⟨b, o, e, hb, hc⟩ := h.get k hk
    exact ⟨b, o, e, by omega, (World.cell?_of_block (a := ⟨b, o + k, none⟩) (hA ⟨b, o, none⟩ e hb)).trans hc⟩⟩

theorem look_any (w0 w1 w2 w3 w4 F : Int) (A : Option Addr) (n c : Nat) (gs : List Giv) (r : Rd) (w : World) (hg : Gs w A n gs) (hnc : n ≤ c) :
    Calls Tryz.prog 21 #[.agg #[.int .i64 w0, .int .i64 w1, .int .i64 w2, .int .i64 w3, .int .i64 w4, .int .i64 F, .slice A n c], .agg #[.int .i64 r.r0, .int .i64 r.r1, .int .i64 r.r2, .int .i64 r.r3, .int .i64 r.r4, .int .i64 r.r5]] w fun e w' =>
      ∃ B k c', e = .returned (.tuple #[.slice B k c', .int .i64 (brE w0 w1 w2 w3 w4 F gs r)]) ∧ k ≤ c' ∧ Is w' B k (lookR w0 w1 w2 w3 w4 F gs r) ∧ Below w.heap.size w w' := by
  have Hl : Hid (n = gs.length) := Lib.hid hg.len
  refine (callsIn_wide (n := 9)).1 (callsIn_of_wp_marks Tryz.func21 rfl trivial ?_ rfl)
  simp only [Tryz.ntmps21, List.size_toArray, List.length_cons, List.length_nil, Nat.reduceAdd, Nat.reduceSub, Array.replicate_succ, Array.replicate_zero, List.push_toArray, List.append_toArray, List.nil_append, List.cons_append]
  refine wpIn_wide.2 ?_
  go_wp2_with fail
  generalize hW : (World.alloc _ _) = W
  have HW : Hid (Below w.heap.size w W) := Lib.hid (by subst hW; go_grown)
  have hs : w.heap.size + 1 < W.heap.size := by subst hW; simp
  have hs0 : w.heap.size < W.heap.size := by omega
  have cm : ∀ j, W.cell? ⟨w.heap.size, j, none⟩ = [Value.int .i64 w0, .int .i64 w1, .int .i64 w2, .int .i64 w3, .int .i64 w4, .int .i64 F, .slice A n c][j]? := by subst hW; intro j; simp [go_sem]
  have cr : ∀ j, W.cell? ⟨w.heap.size + 1, j, none⟩ = [Value.int .i64 r.r0, .int .i64 r.r1, .int .i64 r.r2, .int .i64 r.r3, .int .i64 r.r4, .int .i64 r.r5][j]? := by subst hW; intro j; simp [go_sem]
  clear hW
  refine wp_scope_straight ?_
  have Hg1 := Lib.hid (hg.keep HW.out)
  go_wp2_with fail
  refine wp_region_grow_tail 4 (by kernel_rfl) (by kernel_rfl) ?_
  simp only [List.take_succ_cons, List.take_zero, List.drop_succ_cons, List.drop_zero]
  repeat (go_big_quiet_step ((first | (go_at_call 10; exact quiet_grow rfl (check_any _ _ _ _ _ _ _ _ _ gs _ (Hg1.out.keep (grow_below _ _)) hnc)) | (go_at_call 43; exact quiet_grow rfl (checkReading_any _ _ _ _ _ _ _)))))
  refine wpQuiet_nil ?_
  intro z
  go_wp2_with fail
  refine Calls.mono (first_any _ _ _ _ _ (is2 _ _ _ _ _ (by simp))) ?_
  rintro e x1 ⟨rfl, rfl⟩
  rw [show firstE [err (okB w0 w1 w2 w3 w4 F gs) 13, err (okR r.r0 r.r1 r.r2 r.r3 r.r4 r.r5) 12] = brE w0 w1 w2 w3 w4 F gs r from rfl]
  generalize hV : World.alloc (grow W z) _ = V
  have HV : Hid (Below W.heap.size W V) := Lib.hid (by subst hV; exact up (grow_below W z) (up_alloc _ _))
  clear hV
  have v1 : w.heap.size + 1 < V.heap.size := by have := HV.out.size; omega
  have v0 : w.heap.size < V.heap.size := by omega
  have cm2 : ∀ j, V.cell? ⟨w.heap.size, j, none⟩ = [Value.int .i64 w0, .int .i64 w1, .int .i64 w2, .int .i64 w3, .int .i64 w4, .int .i64 F, .slice A n c][j]? := fun j => (HV.out.cell (p := ⟨w.heap.size, j, none⟩) hs0).trans (cm j)
  have cr2 : ∀ j, V.cell? ⟨w.heap.size + 1, j, none⟩ = [Value.int .i64 r.r0, .int .i64 r.r1, .int .i64 r.r2, .int .i64 r.r3, .int .i64 r.r4, .int .i64 r.r5][j]? := fun j => (HV.out.cell (p := ⟨w.heap.size + 1, j, none⟩) hs).trans (cr j)
  clear cm cr
  have HgV := Lib.hid (hg.keep (up HW.out HV.out))
  by_cases hE : brE w0 w1 w2 w3 w4 F gs r = 0
  rotate_left
  · have HE := Lib.hid hE
    have hb : (brE w0 w1 w2 w3 w4 F gs r != 0) = true := by simpa using hE
    clear hE
    go_wp2
    refine noGoto_ret (bodyPostM_ret0 (results_tmp2 rfl _ _ _) rfl ⟨none, 0, 0, rfl, Nat.le_refl _, ?_, up HW.out HV.out⟩)
    unfold lookR; rw [if_neg HE.out]; exact ⟨rfl, by omega, fun k hk => by simp at hk⟩
  have HE := Lib.hid hE
  rw [hE]
  have hE1 := hE
  unfold brE at hE1
  have Ob : Hid (okB w0 w1 w2 w3 w4 F gs = true) := Lib.hid (by
    cases h : okB w0 w1 w2 w3 w4 F gs
    · rw [h] at hE1; simp [err, firstE] at hE1
    · rfl)
  clear hE hE1
  have h40 : n ≤ 40 := by have := Hl.out; have := okB_40 Ob.out; omega
  go_wp2_with (go_at_call 46; refine (possibleRows_any _ _ _ _ _ _ _ _ _ gs r _ HgV.out (okB_ok Ob.out) h40).mono ?_; rintro e U0 ⟨v, rfl, hown, hb1⟩; have HU0 := Lib.hid hb1; clear hb1; obtain ⟨B1, c1, rfl, hcp, hrs⟩ := Rs.of_own hown; have HR0 := Lib.hid hrs; clear hrs hown)
  refine wp_label ?_
  go_wp2
  have hNp : (rowsOf w0 w1 w2 w3 w4 (possG w0 w1 w2 w3 w4 F [r] gs)).length = (possG w0 w1 w2 w3 w4 F [r] gs).length := rowsOf_len _ _ _ _ _ _
  generalize hU : World.alloc _ (.cells #[.slice none 0 0] 37) = U
  have HU : Hid (Below V.heap.size V U) := Lib.hid (by subst hU; exact up HU0.out (up (up_alloc _ _) (up_alloc _ _)))
  have HR : Hid (Rs U B1 (possG w0 w1 w2 w3 w4 F [r] gs).length (rowsOf w0 w1 w2 w3 w4 (possG w0 w1 w2 w3 w4 F [r] gs))) := Lib.hid (HR0.out.keep (by subst hU; exact up (up_alloc _ _) (up_alloc _ _)))
  have hUs : U.heap.size = U0.heap.size + 1 + 1 := by subst hU; simp
  have F7 : U.cell? ⟨U0.heap.size, 0, none⟩ = some (.slice B1 (possG w0 w1 w2 w3 w4 F [r] gs).length c1) := by subst hU; simp [go_sem]
  have F8 : U.cell? ⟨U0.heap.size + 1, 0, none⟩ = some (.slice none 0 0) := by subst hU; simp [go_sem]
  have Z8 : U.frozen? ⟨U0.heap.size + 1, 0, none⟩ = false := by subst hU; simp [go_sem]
  have hVU0 : V.heap.size ≤ U0.heap.size := HU0.out.size
  clear hU cm2 cr2 HU0 HR0
  have HLk : Hid (lookR w0 w1 w2 w3 w4 F gs r = lookL (rowsOf w0 w1 w2 w3 w4 (possG w0 w1 w2 w3 w4 F [r] gs))) := Lib.hid (by unfold lookR; rw [if_pos HE.out])
  generalize rowsOf w0 w1 w2 w3 w4 (possG w0 w1 w2 w3 w4 F [r] gs) = rs at *
  generalize (possG w0 w1 w2 w3 w4 F [r] gs).length = pn at *
  have HBw : Hid (Below w.heap.size w V) := Lib.hid (up HW.out HV.out)
  generalize Value.agg #[.int .i64 w0, .int .i64 w1, .int .i64 w2, .int .i64 w3, .int .i64 w4, .int .i64 F, .slice A n c] = BK
  generalize Value.agg #[.int .i64 r.r0, .int .i64 r.r1, .int .i64 r.r2, .int .i64 r.r3, .int .i64 r.r4, .int .i64 r.r5] = RD
  generalize Value.int .i64 (err (okB w0 w1 w2 w3 w4 F gs) 13) = E1
  generalize Value.int .i64 (err (okR r.r0 r.r1 r.r2 r.r3 r.r4 r.r5) 12) = E2
  generalize Value.slice (some ⟨W.heap.size + z.blocks.size, 0, none⟩) 2 2 = S15
  refine (wpIn_wide (n := 9)).1 ?_
  refine wpIn_loop (fun a wr => ∃ (k : Nat) (Ds : List Nat) (t9 t24 t25 t26 t27 t33 : Value), a = { tmps := #[BK, RD, .pointer (some ⟨w.heap.size, 0, none⟩), .pointer (some ⟨w.heap.size + 1, 0, none⟩), .slice none 0 0, .int .i64 0, .int .i64 0, .pointer (some ⟨U0.heap.size, 0, none⟩), .pointer (some ⟨U0.heap.size + 1, 0, none⟩), t9, undef, BK, E1, RD, E2, S15, .int .i64 0, .int .i64 0, .bool false, undef, BK, RD, .slice B1 pn c1, .int .i64 k, t24, t25, t26, t27, undef, undef, undef, undef, undef, t33, undef], defers := Ds.map mkD } ∧ k ≤ 7 ∧ Below U.heap.size U wr ∧ Ds.Nodup ∧ (∀ D ∈ Ds, U.heap.size ≤ D ∧ wr.heap[D]? = some (.deferred (some []))) ∧ (∀ l ∈ allL k, settleB rs l = false)) (fun a _ => (7 - intOf (a.tmps.getD 23 undef)).toNat) ⟨0, [], _, _, _, _, _, _, rfl, by omega, Below.refl _ _, List.nodup_nil, by simp, by simp [allL]⟩ ?_
  rintro a wr ⟨k, Ds, t9, t24, t25, t26, t27, t33, rfl, hk, hbw, hnd, hds, hno⟩
  have Hbw := Lib.hid hbw
  have Hds := Lib.hid hds
  have Hno := Lib.hid hno
  have u7 : U0.heap.size < U.heap.size := by omega
  have u8 : U0.heap.size + 1 < U.heap.size := by omega
  have f8 : wr.cell? ⟨U0.heap.size + 1, 0, none⟩ = some (.slice none 0 0) := (hbw.cell (p := ⟨U0.heap.size + 1, 0, none⟩) u8).trans F8
  have HDw : Hid (∀ D ∈ Ds, D < wr.heap.size) := Lib.hid (fun D hD => (Array.getElem?_eq_some_iff.1 (hds D hD).2).1)
  clear hbw hds hno
  by_cases hlt : k < 7
  rotate_left
  · obtain rfl : k = 7 := by omega
    gi_wp2
    go_wp2
    refine noGoto_ret (bodyPostM_marks Ds rfl hnd (fun D h => (Hds.out D h).2) fun Y hY => ⟨_, results_tmp2 rfl _ _ _, none, 0, 0, by rw [HE.out]; rfl, Nat.le_refl _, ?_, ?_⟩)
    · rw [HLk.out, lookL_none Hno.out]; exact ⟨rfl, by omega, fun k hk => by simp at hk⟩
    · exact hY.below (up HBw.out (up HU.out Hbw.out)) (fun D h => by have := (Hds.out D h).1; omega)
  gi_wp2_with (refine ⟨trivial, (callsIn_wide.2 (listsOf_any k wr)).mono ?_⟩; rintro e x1 ⟨rfl, rfl⟩)
  generalize hX1 : wr.alloc _ = X1
  have x1s : X1.heap.size = wr.heap.size + 1 := by subst hX1; simp
  have HX1 : Hid (Below wr.heap.size wr X1) := Lib.hid (by subst hX1; exact up_alloc _ _)
  have hc1 : X1.cell? ⟨wr.heap.size, 0, none⟩ = some (.int .i64 k) := by subst hX1; simp [go_sem]
  clear hX1
  have Hx1s := Lib.hid x1s
  have hUw : U.heap.size ≤ wr.heap.size := Hbw.out.size
  have HUX : Hid (Below U.heap.size U X1) := Lib.hid (Hbw.out.trans (HX1.out.mono hUw))
  have n1 : wr.heap.size < X1.heap.size := by omega
  have n8 : U0.heap.size + 1 < X1.heap.size := by omega
  have n9 : U.heap.size < X1.heap.size := by omega
  have HUs := Lib.hid hUs
  clear x1s hUs
  refine rangeFunc_law (by omega) (gf := 70) (lb := #[.pointer (some ⟨wr.heap.size, 0, none⟩)]) rfl (enters_of Tryz.func70 (by kernel_rfl) rfl) (lists_iter k wr.heap.size X1 n1) (Below.refl _ _) (fun _ => rfl)
    (fun pre X => Below X1.heap.size X1 X ∧ ∀ x ∈ pre, settleB rs x.1 = false)
    (fun c pre X => c = .exit 0 ∧ ∃ pre0 x, pre = pre0 ++ [x] ∧ (∀ y ∈ pre0, settleB rs y.1 = false) ∧ settleB rs x.1 = true ∧ Below V.heap.size V X ∧ X.cell? ⟨U0.heap.size + 1, 0, none⟩ = some x.2 ∧ LiesL (X1.heap.size + 2) x X ∧ ∀ D ∈ Ds, X.heap[D]? = some (.deferred (some [])))
    ?_ ?_ ?_ ⟨Below.refl _ _, by simp⟩ ?_ ?_ ?_
  · rintro pre X ⟨h, _⟩
    exact (h.cell (p := ⟨wr.heap.size, 0, none⟩) n1).trans hc1
  · rintro s X Y ⟨h1, h2⟩ hb
    exact ⟨h1.trans hb, h2⟩
  · rintro c s X o ⟨rfl, pre0, x, rfl, h0, h1, h2, h3, ⟨A0, kk, cc, h4, h5, h6, h7⟩, h8⟩
    refine ⟨rfl, pre0, x, rfl, h0, h1, h2.trans (below_putObj X (by have := HU.out.size; omega) o), (cell_putObj X (U0.heap.size + 1) 0 (X1.heap.size + 1) o (by omega)).trans h3, ⟨A0, kk, cc, h4, h5, ?_, h7⟩, fun D hD => ?_⟩
    · refine h6.off (by simp [World.putObj]) fun p hp _ => World.putObj_heap_other ?_
      have := h7 p hp; omega
    · refine (World.putObj_heap_other ?_).trans (h8 D hD)
      have := HDw.out D hD; have := Hx1s.out; omega
  · rintro l pre ⟨xl, xv⟩ X ⟨m, hm, hlen, hsp⟩ ⟨A0, kk, cc, hx2, hkc, his, hfar⟩ ⟨hbx, hno2⟩ hsz
    simp only at hx2
    subst hx2
    have Hin : Hid (∀ i ∈ xl, 0 ≤ i ∧ i < 6) := Lib.hid (procL_in k (m + 1) xl (by rw [← hsp]; simp))
    have Hsp := Lib.hid hsp
    have Hno2 := Lib.hid hno2
    have Hbx := Lib.hid hbx
    have His := Lib.hid his
    have Hfar := Lib.hid hfar
    clear hsp hno2 hbx his hfar
    simp only [encL]
    gi_wp2
    refine ⟨Above.refl _ _, ?_⟩
    intro Y hY1 hY2
    have HXY : Hid (Below X1.heap.size X1 Y) := Lib.hid (Hbx.out.trans hY1)
    have HUY : Hid (Below U.heap.size U Y) := Lib.hid (HUX.out.trans (HXY.out.mono (by omega)))
    have HisY : Hid (Is Y A0 kk xl) := Lib.hid (His.out.off hY2.size fun p hp hlt => hY2.block _ (Hfar.out p hp) hlt)
    have HRY := Lib.hid (HR.out.keep HUY.out)
    have y8 : U0.heap.size + 1 < Y.heap.size := by have := HXY.out.size; omega
    have y7 : U0.heap.size < Y.heap.size := by omega
    have f7 : Y.cell? ⟨U0.heap.size, 0, none⟩ = some (.slice B1 pn c1) := (HUY.out.cell (p := ⟨U0.heap.size, 0, none⟩) u7).trans F7
    have f8' : Y.cell? ⟨U0.heap.size + 1, 0, none⟩ = some (.slice none 0 0) := (HUY.out.cell (p := ⟨U0.heap.size + 1, 0, none⟩) u8).trans F8
    have z8 : Y.frozen? ⟨U0.heap.size + 1, 0, none⟩ = false := (HUY.out.frozen (p := ⟨U0.heap.size + 1, 0, none⟩) u8).trans Z8
    clear hY1 hY2
    cases hst : settleB rs xl
    · have Hst := Lib.hid hst
      clear hst
      gi_wp2_with (refine ⟨trivial, (CallsIn.inRound l (callsIn_wide.2 (settle_any _ _ _ rs _ _ _ xl _ HRY.out hcp HisY.out Hin.out))).mono ?_⟩; rintro e x1 ⟨rfl, hb1⟩; obtain ⟨y, rfl⟩ := below_grow hb1; clear hb1; rw [Hst.out])
      refine ⟨Above.of_below (grow_below Y y), HXY.out.trans ((grow_below Y y).mono (by have := HXY.out.size; omega)), ?_⟩
      rintro a b hm
      rcases List.mem_append.1 hm with hm | hm
      · exact Hno2.out (a, b) hm
      · simp at hm
        obtain ⟨rfl, rfl⟩ := hm
        exact Hst.out
    · have Hst := Lib.hid hst
      clear hst
      gi_wp2_with (refine ⟨trivial, (CallsIn.inRound l (callsIn_wide.2 (settle_any _ _ _ rs _ _ _ xl _ HRY.out hcp HisY.out Hin.out))).mono ?_⟩; rintro e x1 ⟨rfl, hb1⟩; obtain ⟨y, rfl⟩ := below_grow hb1; clear hb1; rw [Hst.out])
      refine ⟨(Above.of_below (grow_below Y y)).trans (Above.setCell _ n8 _), rfl, pre, xl, _, rfl, fun a b hm => Hno2.out (a, b) hm, Hst.out, ?_, World.cell?_setCell_same' _ _ _ ?_, ⟨A0, kk, cc, rfl, hkc, ?_, Hfar.out⟩, fun D hD => ?_⟩
      · exact ((HU.out.trans (HUY.out.mono HU.out.size)).trans ((grow_below Y y).mono (by have := HUY.out.size; have := HU.out.size; omega))).setCell (p := ⟨U0.heap.size + 1, 0, none⟩) (Nat.le_succ_of_le hVU0) _
      · rw [(grow_below Y y).cell (p := ⟨U0.heap.size + 1, 0, none⟩) y8, f8']; rfl
      · exact (HisY.out.keep (grow_below Y y)).off (by simp [World.setCell]) fun p hp _ => Below.heap_setCell _ _ _ _ (by have := Hfar.out p hp; show p.block ≠ U0.heap.size + 1; omega)
      · have e1 := HDw.out D hD
        have e2 := (Hds.out D hD)
        have e3 := Hx1s.out
        have e4 := HXY.out.size
        rw [Below.heap_setCell _ _ _ _ (by show D ≠ U0.heap.size + 1; omega), (grow_below Y y).block D (by omega), HXY.out.block D (by omega), HX1.out.block D e1, e2.2]
  · rintro xs X hS ⟨hbx, hno2⟩ hdef
    have HS := Lib.hid hS
    have Hbx := Lib.hid hbx
    have Hno2 := Lib.hid hno2
    have Hdef := Lib.hid hdef
    clear hS hbx hno2 hdef
    gi_wp2
    refine ⟨⟨k + 1, X1.heap.size :: Ds, _, _, _, _, _, _, rfl, by omega, HUX.out.trans (Hbx.out.mono (by omega)), List.nodup_cons.2 ⟨fun hm => by have := HDw.out _ hm; have := Hx1s.out; omega, hnd⟩, ?_, ?_⟩, by simp [intOf]; omega⟩
    · intro D hD
      rcases List.mem_cons.1 hD with rfl | hD
      · exact ⟨by omega, Hdef.out⟩
      · have e1 := HDw.out D hD
        have e3 := Hx1s.out
        exact ⟨(Hds.out D hD).1, by rw [Hbx.out.block D (by omega), HX1.out.block D e1, (Hds.out D hD).2]⟩
    · intro l hl
      rw [allL] at hl
      rcases List.mem_append.1 hl with hl | hl
      · exact Hno.out l hl
      · rw [← HS.out] at hl
        obtain ⟨y, hy, rfl⟩ := List.mem_map.1 hl
        exact Hno2.out y hy
  · rintro c pre X ⟨m, hm, hlen, hsp⟩ ⟨rfl, pre0, ⟨xl, xv⟩, rfl, h0, h1, h2, h3, ⟨A0, kk, cc, h4, h5, h6, h7⟩, h8⟩ hdef
    simp only at h4
    subst h4
    have Hsp := Lib.hid hsp
    have H0 := Lib.hid h0
    have H1 := Lib.hid h1
    have H2 := Lib.hid h2
    have H6 := Lib.hid h6
    have H7 := Lib.hid h7
    have H8 := Lib.hid h8
    have Hdef := Lib.hid hdef
    clear hsp h0 h1 h2 h6 h7 h8 hdef
    gi_wp2
    go_wp2
    refine noGoto_ret (bodyPostM_marks (X1.heap.size :: Ds) rfl (List.nodup_cons.2 ⟨fun hm => by have := HDw.out _ hm; have := Hx1s.out; omega, hnd⟩) ?_ fun Y hY => ⟨_, results_tmp2 rfl _ _ _, A0, kk, cc, by rw [HE.out]; rfl, h5, ?_, ?_⟩)
    · intro D hD
      rcases List.mem_cons.1 hD with rfl | hD
      · exact Hdef.out
      · exact H8.out D hD
    · rw [HLk.out, lookL_some hlt hm Hno.out Hsp.out H0.out H1.out]
      refine H6.out.off (Nat.le_of_eq hY.size.symm) fun p hp _ => hY.block _ fun hD => ?_
      have e1 := H7.out p hp
      rcases List.mem_cons.1 hD with hD | hD
      · omega
      · have := HDw.out _ hD; have := Hx1s.out; omega
    · refine hY.below (up HBw.out H2.out) fun D hD => ?_
      have e5 := HBw.out.size
      have e6 := HU.out.size
      rcases List.mem_cons.1 hD with hD | hD
      · omega
      · have := (Hds.out D hD).1; omega
end Go.Proofs.YtfhcofljlkihoaaGreatDoor

namespace Go.Proofs.YtfhcofljlkihoaaGreatDoor
open Go Go.RowKit
set_option maxHeartbeats 400000
set_option maxRecDepth 100000

def bookG : List Giv := [⟨1, 0, 0, 0, 0, 0, 0⟩, ⟨2, 2, 0, 0, 0, 0, 0⟩, ⟨3, 3, 0, 0, 0, 0, 2⟩]
theorem f1 : brE 1 3 4 24 24 0 bookG ⟨31, 1, 1, 1, 1, 31⟩ = 0 := by kernel_rfl
theorem f2 : own (brG 1 3 4 24 24 0 bookG ⟨31, 1, 1, 1, 1, 31⟩) = [1, 2, 3] := by kernel_rfl
theorem f3 : lookR 1 3 4 24 24 0 bookG ⟨31, 1, 1, 1, 1, 31⟩ = [0] := by kernel_rfl
theorem f4 : lookE 1 3 4 24 24 0 bookG ⟨31, 1, 1, 1, 1, 31⟩ ⟨16, 1, 1, 1, 1, 1⟩ [0] = 0 := by kernel_rfl
theorem f5 : own (lookG 1 3 4 24 24 0 bookG ⟨31, 1, 1, 1, 1, 31⟩ ⟨16, 1, 1, 1, 1, 1⟩ [0]) = [3] := by kernel_rfl
theorem f6 : nextR 1 3 4 24 24 0 bookG = (⟨0, 0, 0, 0, 0, 2⟩, 0) := by
  unfold nextR
  rw [if_pos (by kernel_rfl), if_neg (by decide), find_hit (k := 2) (pre := [markNo 0, markNo 1]) (m := ⟨0, 0, 0, 0, 0, 2⟩) (by omega) (by kernel_rfl) (by intro x hx; simp at hx; rcases hx with rfl | rfl <;> kernel_rfl) (by kernel_rfl)]
theorem f7 : wornE 1 3 4 24 24 3 1 0 0 0 0 = 0 := by kernel_rfl
theorem g2 : (brG 1 3 4 24 24 0 bookG ⟨31, 1, 1, 1, 1, 31⟩).length = 3 := by kernel_rfl
theorem g5' : (lookG 1 3 4 24 24 0 bookG ⟨31, 1, 1, 1, 1, 31⟩ ⟨16, 1, 1, 1, 1, 1⟩ [0]).length = 1 := by kernel_rfl
theorem d1 : distV 1 3 4 24 24 2 1 0 0 0 0 3 2 0 0 0 0 = 2 := by kernel_rfl
theorem d2 : distE 1 3 4 24 24 2 1 0 0 0 0 3 2 0 0 0 0 = 0 := by kernel_rfl
theorem n0 : wornV 1 3 4 24 24 3 1 0 0 0 0 [1, 0] 0 = 16 := by kernel_rfl
theorem n1 : wornV 1 3 4 24 24 3 1 0 0 0 0 [1, 0] 1 = 1 := by kernel_rfl
theorem n2 : wornV 1 3 4 24 24 3 1 0 0 0 0 [1, 0] 2 = 1 := by kernel_rfl
theorem n3 : wornV 1 3 4 24 24 3 1 0 0 0 0 [1, 0] 3 = 1 := by kernel_rfl
theorem n4 : wornV 1 3 4 24 24 3 1 0 0 0 0 [1, 0] 4 = 1 := by kernel_rfl
theorem n5 : wornV 1 3 4 24 24 3 1 0 0 0 0 [1, 0] 5 = 1 := by kernel_rfl

theorem book_any (w : World) : Calls Tryz.prog 19 #[] w fun e w' => ∃ A, e = .returned (.agg #[.int .i64 1, .int .i64 3, .int .i64 4, .int .i64 24, .int .i64 24, .int .i64 0, .slice A 3 3]) ∧ Gs w' A 3 bookG ∧ Below w.heap.size w w' := by
  go_enter Tryz.func19, Tryz.ntmps19
  go_wp2
  refine bodyPost_ret (v := .agg #[.int .i64 1, .int .i64 3, .int .i64 4, .int .i64 24, .int .i64 24, .int .i64 0, .slice (some ⟨w.heap.size + 1, 0, none⟩) 3 3]) (by simp [results, Tryz.results19, go_sem]) rfl ⟨_, rfl, ⟨rfl, by decide, fun k hk => ?_⟩, by go_grown⟩
  refine ⟨w.heap.size + 1, 0, rfl, by simp, ?_⟩
  rcases (by simp [bookG] at hk; omega : k = 0 ∨ k = 1 ∨ k = 2) with rfl | rfl | rfl <;> (constructor <;> simp [go_sem, bookG])

theorem is1 (w : World) (a : Int) (t : TypeId) (B : Nat) (hB : B = w.heap.size) : Is (w.alloc (.cells #[.int .i64 a] t)) (some ⟨B, 0, none⟩) 1 [a] := by
  subst hB
  exact ⟨rfl, by decide, fun k hk => ⟨w.heap.size, 0, rfl, by simp, by
    obtain rfl : k = 0 := by simp at hk; omega
    simp [go_sem]⟩⟩
end Go.Proofs.YtfhcofljlkihoaaGreatDoor

namespace Go.Proofs.YtfhcofljlkihoaaGreatDoor
open Go Go.RowKit
set_option maxHeartbeats 400000
set_option maxRecDepth 100000

set_option maxHeartbeats 2000000 in
theorem sane_any (w : World) : Calls Tryz.prog 9 #[] w fun e w' => e = .returned (.bool true) ∧ Below w.heap.size w w' := by
  go_enter Tryz.func9, Tryz.ntmps9
  go_wp2_with (go_at_call 19; refine (book_any _).mono ?_; rintro e x1 ⟨A, rfl, hG, hb1⟩; have HG1 := Lib.hid hG; have HB1 := Lib.hid hb1; clear hG hb1)
  generalize hW : (World.alloc _ _) = W
  have HW : Hid (Below w.heap.size w W) := Lib.hid (by subst hW; exact up HB1.out (up (up_alloc _ _) (up_alloc _ _)))
  have HGW : Hid (Gs W A 3 bookG) := Lib.hid (HG1.out.keep (by subst hW; exact up (up_alloc _ _) (up_alloc _ _)))
  have t0_W : x1.heap.size < W.heap.size := by subst hW; simp; omega
  have t1_W : x1.heap.size + 1 < W.heap.size := by subst hW; simp
  have cmW : ∀ j, W.cell? ⟨x1.heap.size, j, none⟩ = [Value.int .i64 1, .int .i64 3, .int .i64 4, .int .i64 24, .int .i64 24, .int .i64 0, .slice A 3 3][j]? := by subst hW; intro j; simp [go_sem]
  have crW : ∀ j, W.cell? ⟨x1.heap.size + 1, j, none⟩ = [Value.int .i64 31, .int .i64 1, .int .i64 1, .int .i64 1, .int .i64 1, .int .i64 31][j]? := by subst hW; intro j; simp [go_sem]
  clear hW
  go_wp2_with (first
    | (go_at_call 20; refine (owners_any 1 3 4 24 24 0 A 3 3 bookG ⟨31, 1, 1, 1, 1, 31⟩ W HGW.out (Nat.le_refl _)).mono ?_; rintro e x2 ⟨v2, rfl, ho2, hb2⟩; rw [f1]; rw [g2, f2] at ho2; obtain ⟨A2, c2, rfl, hc2, hi2⟩ := Is.of_own ho2; have HI2 := Lib.hid hi2; have HBx2 := Lib.hid hb2; clear ho2 hi2 hb2; have t0_x2 : x1.heap.size < x2.heap.size := (by have := HBx2.out.size; omega); have t1_x2 : x1.heap.size + 1 < x2.heap.size := (by have := HBx2.out.size; omega); have cmx2 : ∀ j, x2.cell? ⟨x1.heap.size, j, none⟩ = [Value.int .i64 1, .int .i64 3, .int .i64 4, .int .i64 24, .int .i64 24, .int .i64 0, .slice A 3 3][j]? := fun j => (HBx2.out.cell (p := ⟨x1.heap.size, j, none⟩) t0_W).trans (cmW j); have crx2 : ∀ j, x2.cell? ⟨x1.heap.size + 1, j, none⟩ = [Value.int .i64 31, .int .i64 1, .int .i64 1, .int .i64 1, .int .i64 1, .int .i64 31][j]? := fun j => (HBx2.out.cell (p := ⟨x1.heap.size + 1, j, none⟩) t1_W).trans (crW j); have HGx2 := Lib.hid (HGW.out.keep (HBx2.out)))
    | (go_at_call 21; refine (look_any 1 3 4 24 24 0 A 3 3 bookG ⟨31, 1, 1, 1, 1, 31⟩ _ HGx2.out (Nat.le_refl _)).mono ?_; rintro e x3 ⟨A3, k3, c3, rfl, hc3, hi3, hb3⟩; rw [f1]; rw [f3] at hi3; obtain rfl : k3 = 1 := hi3.len; have HI3 := Lib.hid hi3; have HBx3 := Lib.hid hb3; clear hi3 hb3; have t0_x3 : x1.heap.size < x3.heap.size := (by have := HBx3.out.size; omega); have t1_x3 : x1.heap.size + 1 < x3.heap.size := (by have := HBx3.out.size; omega); have cmx3 : ∀ j, x3.cell? ⟨x1.heap.size, j, none⟩ = [Value.int .i64 1, .int .i64 3, .int .i64 4, .int .i64 24, .int .i64 24, .int .i64 0, .slice A 3 3][j]? := fun j => (HBx3.out.cell (p := ⟨x1.heap.size, j, none⟩) t0_x2).trans (cmx2 j); have crx3 : ∀ j, x3.cell? ⟨x1.heap.size + 1, j, none⟩ = [Value.int .i64 31, .int .i64 1, .int .i64 1, .int .i64 1, .int .i64 1, .int .i64 31][j]? := fun j => (HBx3.out.cell (p := ⟨x1.heap.size + 1, j, none⟩) t1_x2).trans (crx2 j); have HGx3 := Lib.hid (HGx2.out.keep (HBx3.out)))
    | (go_at_call 22; refine (looked_any 1 3 4 24 24 0 A 3 3 bookG ⟨31, 1, 1, 1, 1, 31⟩ ⟨16, 1, 1, 1, 1, 1⟩ (some ⟨x3.heap.size, 0, none⟩) 1 1 [0] _ (HGx3.out.keep (up_alloc _ _)) (Nat.le_refl _) (is1 _ _ _ _ rfl)).mono ?_; rintro e x4 ⟨v4, rfl, ho4, hb4⟩; rw [f4]; rw [g5', f5] at ho4; obtain ⟨A4, c4, rfl, hc4, hi4⟩ := Is.of_own ho4; have HI4 := Lib.hid hi4; have HBx4 := Lib.hid (up (up_alloc _ _) hb4); clear ho4 hi4 hb4; have t0_x4 : x1.heap.size < x4.heap.size := (by have := HBx4.out.size; omega); have t1_x4 : x1.heap.size + 1 < x4.heap.size := (by have := HBx4.out.size; omega); have cmx4 : ∀ j, x4.cell? ⟨x1.heap.size, j, none⟩ = [Value.int .i64 1, .int .i64 3, .int .i64 4, .int .i64 24, .int .i64 24, .int .i64 0, .slice A 3 3][j]? := fun j => (HBx4.out.cell (p := ⟨x1.heap.size, j, none⟩) t0_x3).trans (cmx3 j); have crx4 : ∀ j, x4.cell? ⟨x1.heap.size + 1, j, none⟩ = [Value.int .i64 31, .int .i64 1, .int .i64 1, .int .i64 1, .int .i64 1, .int .i64 31][j]? := fun j => (HBx4.out.cell (p := ⟨x1.heap.size + 1, j, none⟩) t1_x3).trans (crx3 j); have HGx4 := Lib.hid (HGx3.out.keep (HBx4.out)))
    | (go_at_call 23; refine (next_any 1 3 4 24 24 0 A 3 3 bookG _ HGx4.out (Nat.le_refl _)).mono ?_; rintro e x5 ⟨rfl, hb5⟩; rw [f6]; dsimp only [encR]; have HBx5 := Lib.hid hb5; clear hb5; have t0_x5 : x1.heap.size < x5.heap.size := (by have := HBx5.out.size; omega); have t1_x5 : x1.heap.size + 1 < x5.heap.size := (by have := HBx5.out.size; omega); have cmx5 : ∀ j, x5.cell? ⟨x1.heap.size, j, none⟩ = [Value.int .i64 1, .int .i64 3, .int .i64 4, .int .i64 24, .int .i64 24, .int .i64 0, .slice A 3 3][j]? := fun j => (HBx5.out.cell (p := ⟨x1.heap.size, j, none⟩) t0_x4).trans (cmx4 j); have crx5 : ∀ j, x5.cell? ⟨x1.heap.size + 1, j, none⟩ = [Value.int .i64 31, .int .i64 1, .int .i64 1, .int .i64 1, .int .i64 1, .int .i64 31][j]? := fun j => (HBx5.out.cell (p := ⟨x1.heap.size + 1, j, none⟩) t1_x4).trans (crx4 j); have HGx5 := Lib.hid (HGx4.out.keep (HBx5.out))))
  clear cmW crW cmx2 crx2 cmx3 crx3 cmx4 crx4 crx5
  go_wp2_with (go_at_call 24; refine (distance_any 1 3 4 24 24 2 1 0 0 0 0 3 2 0 0 0 0 _).mono ?_; rintro e x6 ⟨rfl, hb6⟩; rw [d1, d2]; have HBx6 := Lib.hid (up (up_alloc _ _) hb6); have t0_x6 : x1.heap.size < x6.heap.size := (by have := HBx6.out.size; omega); have cmx6 : ∀ j, x6.cell? ⟨x1.heap.size, j, none⟩ = [Value.int .i64 1, .int .i64 3, .int .i64 4, .int .i64 24, .int .i64 24, .int .i64 0, .slice A 3 3][j]? := fun j => (HBx6.out.cell (p := ⟨x1.heap.size, j, none⟩) t0_x5).trans (cmx5 j); have m_x6 : x5.heap.size < x6.heap.size := (by have := hb6.size; simp only [World.size_alloc] at this; omega); have mmx6 : ∀ j, x6.cell? ⟨x5.heap.size, j, none⟩ = [Value.int .i64 0, .int .i64 0, .int .i64 0, .int .i64 0, .int .i64 0, .int .i64 2][j]? := (fun j => (hb6.cell (p := ⟨x5.heap.size, j, none⟩) (by simp)).trans (by simp [go_sem])); clear hb6)
  go_wp2_with (go_at_call 25; refine (worn_any 1 3 4 24 24 3 1 0 0 0 0 (some ⟨x6.heap.size, 0, none⟩) 2 2 [1, 0] _ (is2 _ _ _ _ _ rfl)).mono ?_; rintro e x7 ⟨rfl, hb7⟩; rw [n0, n1, n2, n3, n4, n5, f7]; have HBx7 := Lib.hid (up (up_alloc _ _) hb7); clear hb7; have m_x7 : x5.heap.size < x7.heap.size := (by have := HBx7.out.size; omega); have mmx7 : ∀ j, x7.cell? ⟨x5.heap.size, j, none⟩ = [Value.int .i64 0, .int .i64 0, .int .i64 0, .int .i64 0, .int .i64 0, .int .i64 2][j]? := fun j => (HBx7.out.cell (p := ⟨x5.heap.size, j, none⟩) m_x6).trans (mmx6 j))
  clear cmx5 cmx6
  go_wp2_with fail
  refine (same_yes A2 (some ⟨x7.heap.size + 1, 0, none⟩) 3 c2 3 [1, 2, 3] _ (HI2.out.keep (up HBx3.out (up HBx4.out (up HBx5.out (up HBx6.out (up HBx7.out (up (up_alloc _ _) (up_alloc _ _)))))))) (is3 _ _ _ _ _ (x7.heap.size + 1) (by simp))).mono ?_
  rintro e x8 ⟨rfl, hb8⟩
  have HBx8 := Lib.hid (up (up_alloc _ _) (up (up_alloc _ _) hb8))
  have m_x8 : x5.heap.size < x8.heap.size := (by have := HBx8.out.size; omega)
  have mmx8 : ∀ j, x8.cell? ⟨x5.heap.size, j, none⟩ = [Value.int .i64 0, .int .i64 0, .int .i64 0, .int .i64 0, .int .i64 0, .int .i64 2][j]? := fun j => (HBx8.out.cell (p := ⟨x5.heap.size, j, none⟩) m_x7).trans (mmx7 j)
  have r_x8 : x7.heap.size < x8.heap.size := (by have := hb8.size; simp only [World.size_alloc] at this; omega)
  have rrx8 : ∀ j, x8.cell? ⟨x7.heap.size, j, none⟩ = [Value.int .i64 16, .int .i64 1, .int .i64 1, .int .i64 1, .int .i64 1, .int .i64 1][j]? := (fun j => (hb8.cell (p := ⟨x7.heap.size, j, none⟩) (show x7.heap.size < _ by simp only [World.size_alloc]; omega)).trans ((Below.cell (up_alloc (x7.alloc _) _) (p := ⟨x7.heap.size, j, none⟩) (show x7.heap.size < _ by simp)).trans (by simp [go_sem])))
  clear hb8
  go_wp2_with fail
  refine (same_yes A3 (some ⟨x8.heap.size, 0, none⟩) 1 c3 1 [0] _ (HI3.out.keep (up HBx4.out (up HBx5.out (up HBx6.out (up HBx7.out (up HBx8.out (up_alloc _ _))))))) (is1 _ _ _ _ rfl)).mono ?_
  rintro e x9 ⟨rfl, hb9⟩
  have HBx9 := Lib.hid (up (up_alloc _ _) hb9)
  clear hb9
  have m_x9 : x5.heap.size < x9.heap.size := (by have := HBx9.out.size; omega)
  have mmx9 : ∀ j, x9.cell? ⟨x5.heap.size, j, none⟩ = [Value.int .i64 0, .int .i64 0, .int .i64 0, .int .i64 0, .int .i64 0, .int .i64 2][j]? := fun j => (HBx9.out.cell (p := ⟨x5.heap.size, j, none⟩) m_x8).trans (mmx8 j)
  have r_x9 : x7.heap.size < x9.heap.size := (by have := HBx9.out.size; omega)
  have rrx9 : ∀ j, x9.cell? ⟨x7.heap.size, j, none⟩ = [Value.int .i64 16, .int .i64 1, .int .i64 1, .int .i64 1, .int .i64 1, .int .i64 1][j]? := fun j => (HBx9.out.cell (p := ⟨x7.heap.size, j, none⟩) r_x8).trans (rrx8 j)
  go_wp2_with fail
  refine (same_yes A4 (some ⟨x9.heap.size, 0, none⟩) 1 c4 1 [3] _ (HI4.out.keep (up HBx5.out (up HBx6.out (up HBx7.out (up HBx8.out (up HBx9.out (up_alloc _ _))))))) (is1 _ _ _ _ rfl)).mono ?_
  rintro e x10 ⟨rfl, hb10⟩
  have HBx10 := Lib.hid (up (up_alloc _ _) hb10)
  clear hb10
  have m_x10 : x5.heap.size < x10.heap.size := (by have := HBx10.out.size; omega)
  have mmx10 : ∀ j, x10.cell? ⟨x5.heap.size, j, none⟩ = [Value.int .i64 0, .int .i64 0, .int .i64 0, .int .i64 0, .int .i64 0, .int .i64 2][j]? := fun j => (HBx10.out.cell (p := ⟨x5.heap.size, j, none⟩) m_x9).trans (mmx9 j)
  have r_x10 : x7.heap.size < x10.heap.size := (by have := HBx10.out.size; omega)
  have rrx10 : ∀ j, x10.cell? ⟨x7.heap.size, j, none⟩ = [Value.int .i64 16, .int .i64 1, .int .i64 1, .int .i64 1, .int .i64 1, .int .i64 1][j]? := fun j => (HBx10.out.cell (p := ⟨x7.heap.size, j, none⟩) r_x9).trans (rrx9 j)
  go_wp2_with fail
  go_ret
  exact ⟨rfl, up HW.out (up HBx2.out (up HBx3.out (up HBx4.out (up HBx5.out (up HBx6.out (up HBx7.out (up HBx8.out (up HBx9.out HBx10.out))))))))⟩
end Go.Proofs.YtfhcofljlkihoaaGreatDoor

namespace Go.Proofs.YtfhcofljlkihoaaGreatDoor
open Go.RowKit
set_option maxHeartbeats 400000
set_option maxRecDepth 100000

/-- The error of a cost, and the cost where there is none. -/
def costE (w0 w1 w2 w3 w4 a0 a1 a2 a3 a4 a5 r0 r1 r2 r3 r4 r5 : Int) : Int := firstE [err (okW w0 w1 w2 w3 w4) 11, err (okM a0 a1 a2 a3 a4 a5) 10, err (okR r0 r1 r2 r3 r4 r5) 12]
def costV (w0 w1 w2 w3 w4 a0 a1 a2 a3 a4 a5 r0 r1 r2 r3 r4 r5 : Int) : Int := if costE w0 w1 w2 w3 w4 a0 a1 a2 a3 a4 a5 r0 r1 r2 r3 r4 r5 = 0 then wcost w0 w1 w2 w3 w4 a0 a1 a2 a3 a4 a5 r0 r1 r2 r3 r4 r5 else 0

theorem firstE3_1 {a b c : Bool} {x y z : Int} (h : a = false) (hx : x ≠ 0) : firstE [err a x, err b y, err c z] = x := by
  rw [firstE_cons, err_f (b := a) x (by simp [h]), if_neg hx]
theorem firstE3_2 {a b c : Bool} {x y z : Int} (h : a = true) (h2 : b = false) (hy : y ≠ 0) : firstE [err a x, err b y, err c z] = y := by
  rw [firstE_cons, err_t (b := a) x h, if_pos rfl, firstE_cons, err_f (b := b) y (by simp [h2]), if_neg hy]
theorem firstE3_3 {a b c : Bool} {x y z : Int} (h : a = true) (h2 : b = true) (h3 : c = false) (hz : z ≠ 0) : firstE [err a x, err b y, err c z] = z := by
  rw [firstE_cons, err_t (b := a) x h, if_pos rfl, firstE_cons, err_t (b := b) y h2, if_pos rfl, firstE_cons, err_f (b := c) z (by simp [h3]), if_neg hz]
theorem firstE3_4 {a b c : Bool} {x y z : Int} (h : a = true) (h2 : b = true) (h3 : c = true) : firstE [err a x, err b y, err c z] = 0 := by
  rw [err_t (b := a) x h, err_t (b := b) y h2, err_t (b := c) z h3]; rfl

end Go.Proofs.YtfhcofljlkihoaaGreatDoor

namespace Go.Proofs.YtfhcofljlkihoaaGreatDoor
open Go Go.RowKit
set_option maxHeartbeats 400000
set_option maxRecDepth 100000


theorem eql_self5 (t : TypeId) (h : Tryz.prog.underlying t = some (.array 5 3)) (a0 a1 a2 a3 a4 : Int) (w : World) : (Op.equalIn 10000 t (.agg #[.int .i64 a0, .int .i64 a1, .int .i64 a2, .int .i64 a3, .int .i64 a4]) (.agg #[.int .i64 a0, .int .i64 a1, .int .i64 a2, .int .i64 a3, .int .i64 a4])).run Tryz.prog w = .ok true w := by
  have hs : ∀ w, (sizeOf 3).run Tryz.prog w = .ok 1 w := fun w => by kernel_rfl
  have e : ∀ x y, (Op.equalIn 9999 3 (.int .i64 x) (.int .i64 y)).run Tryz.prog w = .ok (x == y) w := fun x y => eql_int3 9998 x y w
  rw [show (10000 : Nat) = 9999 + 1 from rfl]
  unfold Op.equalIn
  simp only [Sem.run_bind, run_underlying h, Result.andThen_ok, hs]
  simp [Std.Legacy.Range.forIn_eq_forIn_range', Std.Legacy.Range.size, List.range'_succ, part3, e]
@[go_sem] theorem eql23 (a0 a1 a2 a3 a4 : Int) (w : World) : (Op.equalIn 10000 23 (.agg #[.int .i64 a0, .int .i64 a1, .int .i64 a2, .int .i64 a3, .int .i64 a4]) (.agg #[.int .i64 a0, .int .i64 a1, .int .i64 a2, .int .i64 a3, .int .i64 a4])).run Tryz.prog w = .ok true w := eql_self5 23 (by kernel_rfl) _ _ _ _ _ w
theorem eql_self6 (d : Nat) (t : TypeId) (h : Tryz.prog.underlying t = some (.array 6 3)) (a0 a1 a2 a3 a4 a5 : Int) (w : World) : (Op.equalIn (d + 2) t (.agg #[.int .i64 a0, .int .i64 a1, .int .i64 a2, .int .i64 a3, .int .i64 a4, .int .i64 a5]) (.agg #[.int .i64 a0, .int .i64 a1, .int .i64 a2, .int .i64 a3, .int .i64 a4, .int .i64 a5])).run Tryz.prog w = .ok true w := by
  have hs : ∀ w, (sizeOf 3).run Tryz.prog w = .ok 1 w := fun w => by kernel_rfl
  have e : ∀ x y, (Op.equalIn (d + 1) 3 (.int .i64 x) (.int .i64 y)).run Tryz.prog w = .ok (x == y) w := fun x y => eql_int3 d x y w
  unfold Op.equalIn
  simp only [Sem.run_bind, run_underlying h, Result.andThen_ok, hs]
  simp [Std.Legacy.Range.forIn_eq_forIn_range', Std.Legacy.Range.size, List.range'_succ, part3, e]
@[go_sem] theorem eql28in (a0 a1 a2 a3 a4 a5 : Int) (w : World) : (Op.equalIn 9999 39 (.agg #[.int .i64 a0, .int .i64 a1, .int .i64 a2, .int .i64 a3, .int .i64 a4, .int .i64 a5]) (.agg #[.int .i64 a0, .int .i64 a1, .int .i64 a2, .int .i64 a3, .int .i64 a4, .int .i64 a5])).run Tryz.prog w = .ok true w := eql_self6 9997 39 (by kernel_rfl) _ _ _ _ _ _ w
@[go_sem] theorem eql30 (o a0 a1 a2 a3 a4 a5 : Int) (w : World) : (Op.equalIn 10000 41 (.agg #[.int .i64 o, .int .i64 a0, .int .i64 a1, .int .i64 a2, .int .i64 a3, .int .i64 a4, .int .i64 a5]) (.agg #[.int .i64 o, .int .i64 a0, .int .i64 a1, .int .i64 a2, .int .i64 a3, .int .i64 a4, .int .i64 a5])).run Tryz.prog w = .ok true w := by
  have e : (Op.equalIn 9999 3 (.int .i64 o) (.int .i64 o)).run Tryz.prog w = .ok (o == o) w := eql_int3 9998 o o w
  have e6 := eql_self6 9997 39 (by kernel_rfl) a0 a1 a2 a3 a4 a5 w
  rw [show (10000 : Nat) = 9999 + 1 from rfl]
  unfold Op.equalIn
  simp only [Sem.run_bind, run_underlying Tryz.underlying41, Result.andThen_ok]
  simp [go_sem, part3, e, e6]

theorem sameMarks_yes (w0 w1 w2 w3 w4 F : Int) (A B : Option Addr) (n c c' : Nat) (gs : List Giv) (w : World) (hg : Gs w A n gs) (hg' : Gs w B n gs) :
    Calls Tryz.prog 8 #[.agg #[.int .i64 w0, .int .i64 w1, .int .i64 w2, .int .i64 w3, .int .i64 w4, .int .i64 F, .slice A n c], .agg #[.int .i64 w0, .int .i64 w1, .int .i64 w2, .int .i64 w3, .int .i64 w4, .int .i64 F, .slice B n c']] w fun e w' => e = .returned (.bool true) ∧ Below w.heap.size w w' := by
  have hn := hg.small
  have Hl : Hid (n = gs.length) := Lib.hid hg.len
  go_enter Tryz.func8, Tryz.ntmps8
  go_wp2_with fail
  generalize hW : (World.alloc _ _) = W
  have HW : Hid (Below w.heap.size w W) := Lib.hid (by subst hW; go_grown)
  have KM : Bk W w.heap.size [.int .i64 w0, .int .i64 w1, .int .i64 w2, .int .i64 w3, .int .i64 w4, .int .i64 F, .slice A n c] := ⟨by subst hW; simp only [World.size_alloc]; omega, by subst hW; intro j; simp [go_sem]⟩
  have KS : Bk W (w.heap.size + 1) [.int .i64 w0, .int .i64 w1, .int .i64 w2, .int .i64 w3, .int .i64 w4, .int .i64 F, .slice B n c'] := ⟨by subst hW; simp only [World.size_alloc]; omega, by subst hW; intro j; simp [go_sem]⟩
  clear hW
  have HG := Lib.hid (hg.keep HW.out)
  have HG' := Lib.hid (hg'.keep HW.out)
  clear hg hg'
  have KMl := KM.lt; have KMc := KM.get; have KSl := KS.lt; have KSc := KS.get
  go_wp2
  clear KMl KMc KSl KSc
  go_loopw [5] (fun i wr => ∃ (k : Nat) (z : Gr), k ≤ n ∧ i = .int .i64 k ∧ wr = grow W z) (fun i _ => n - (intOf i).toNat)
  case atStart => exact ⟨0, ⟨#[], W.drawn⟩, by omega, rfl, by simp [grow]⟩
  case round =>
    obtain ⟨k, z, hk, rfl, rfl⟩ := hrel
    have HbY := Lib.hid (grow_below W z)
    have KM1 := KM.keep HbY.out
    have KS1 := KS.keep HbY.out
    have KM1l := KM1.lt; have KM1c := KM1.get; have KS1l := KS1.lt; have KS1c := KS1.get
    by_cases hlt : k < n
    rotate_left
    · obtain rfl : k = n := by omega
      go_wp2
      go_ret
      exact ⟨rfl, up HW.out HbY.out⟩
    have hlt' : k < gs.length := by rw [← Hl.out]; exact hlt
    obtain ⟨bg, og, rfl, hbg, hga⟩ := HG.out.get k hlt'
    obtain ⟨bh, oh, rfl, hbh, hgh⟩ := HG'.out.get k hlt'
    generalize gs[k] = g at *
    obtain ⟨a0', a1', a2', a3', a4', a5', a6'⟩ := hga
    obtain ⟨b0', b1', b2', b3', b4', b5', b6'⟩ := hgh
    have e0 := KM.lt
    have e0' := KS.lt
    have e1 : w.heap.size < W.heap.size + z.blocks.size := by omega
    have e2 : w.heap.size + 1 < W.heap.size + z.blocks.size := by omega
    have e5 : bg < W.heap.size + z.blocks.size := by omega
    have e6 : bh < W.heap.size + z.blocks.size := by omega
    go_wp2
    clear KM1l KM1c KS1l KS1c
    have KMc := KM.get
    have KSc := KS.get
    refine wp_region_grow (by kernel_rfl) (by kernel_rfl) ?_
    repeat (go_big_quiet_step ((fail)))
    refine wpQuiet_nil ?_
    intro z1
    obtain ⟨y1, hy1⟩ := grow_grow W z z1
    rw [hy1]
    clear hy1
    go_wp2
    exact ⟨⟨k + 1, y1, by omega, by go_num, rfl⟩, by simp [intOf]; omega⟩
end Go.Proofs.YtfhcofljlkihoaaGreatDoor

namespace Go.Proofs.YtfhcofljlkihoaaGreatDoor
open Go Go.RowKit
set_option maxHeartbeats 400000
set_option maxRecDepth 100000

theorem refParse_any (s : ByteArray) (w : World) (hs : s.size ≤ 140737488355328) : Calls Tryz.prog 7 #[.string s] w (ParseR w s.data.toList) := by
  by_cases h : s.size ≤ 4000
  · exact refParse_short s w h
  · exact refParse_long s w (by omega) hs

set_option maxHeartbeats 8000000 in
theorem markTexts_any (w0 w1 w2 w3 w4 F : Int) (A : Option Addr) (n c : Nat) (gs : List Giv) (s : ByteArray) (w : World) (hg : Gs w A n gs) (hnc : n ≤ c) (hs : s.size ≤ 140737488355328) (hV : Vok w) :
    Calls Tryz.prog 3 #[.agg #[.int .i64 w0, .int .i64 w1, .int .i64 w2, .int .i64 w3, .int .i64 w4, .int .i64 F, .slice A n c], .string s] w fun e w' => e = .returned (.bool true) ∧ Below w.heap.size w w' := by
  cases hok : okB w0 w1 w2 w3 w4 F gs
  · have HOK := Lib.hid hok
    clear hok
    go_enter Tryz.func3, Tryz.ntmps3
    go_wp2_with fail
    generalize hW : (World.alloc _ _) = W
    have HW : Hid (Below w.heap.size w W) := Lib.hid (by subst hW; go_grown)
    have KM : Bk W w.heap.size [.int .i64 w0, .int .i64 w1, .int .i64 w2, .int .i64 w3, .int .i64 w4, .int .i64 F, .slice A n c] := ⟨by subst hW; simp only [World.size_alloc]; omega, by subst hW; intro j; simp [go_sem]⟩
    clear hW
    have HG := Lib.hid (hg.keep HW.out)
    have HV := Lib.hid (hV.keep HW.out)
    clear hg hV
    refine (print_no w0 w1 w2 w3 w4 F A n c gs W HG.out hnc HOK.out).mono ?_
    rintro e x0 ⟨rfl, hb⟩
    have HX0 := Lib.hid hb
    replace KM := KM.keep hb
    replace HG := Lib.hid (HG.out.keep hb)
    replace HV := Lib.hid (HV.out.keep hb)
    clear hb
    have KMl := KM.lt; have KMc := KM.get
    go_wp2_with fail
    clear KMl KMc
    refine (refPrint_no w0 w1 w2 w3 w4 F A n c gs x0 HG.out HOK.out).mono ?_
    rintro e x1 ⟨rfl, hb⟩
    have HX1 := Lib.hid hb
    replace KM := KM.keep hb
    replace HG := Lib.hid (HG.out.keep hb)
    replace HV := Lib.hid (HV.out.keep hb)
    clear hb
    have KMl := KM.lt; have KMc := KM.get
    go_wp2_with fail
    clear KMl KMc
    refine (parse_any s x1 hs HV.out).mono ?_
    rintro e x2 ⟨B2, q2, c2, rfl, hg2, hc2, hb⟩
    have HX2 := Lib.hid hb
    have HI2 := Lib.hid hg2
    clear hg2 hc2
    replace KM := KM.keep hb
    replace HG := Lib.hid (HG.out.keep hb)
    replace HV := Lib.hid (HV.out.keep hb)
    clear hb
    have KMl := KM.lt; have KMc := KM.get
    go_upto_region 4 with (fail)
    clear KMl KMc
    generalize hV : World.alloc x2 _ = V2
    have hb : Below x2.heap.size x2 V2 := by subst hV; exact up_alloc _ _
    have KB2 : Bk V2 x2.heap.size [.int .i64 (bookT s.data.toList).w0, .int .i64 (bookT s.data.toList).w1, .int .i64 (bookT s.data.toList).w2, .int .i64 (bookT s.data.toList).w3, .int .i64 (bookT s.data.toList).w4, .int .i64 (bookT s.data.toList).F, .slice B2 q2 c2] := ⟨by subst hV; simp, by subst hV; intro j; simp [go_sem]⟩
    clear hV
    have HV2 := Lib.hid hb
    replace KM := KM.keep hb
    replace HG := Lib.hid (HG.out.keep hb)
    replace HV := Lib.hid (HV.out.keep hb)
    replace HI2 := Lib.hid (HI2.out.keep hb)
    clear hb
    have KMl := KM.lt; have KMc := KM.get; have KB2l := KB2.lt; have KB2c := KB2.get
    go_wp2_with fail
    clear KMl KMc KB2l KB2c
    refine (refParse_any s V2 hs).mono ?_
    rintro e x3 ⟨B3, q3, c3, rfl, hg3, hc3, hb⟩
    have HX3 := Lib.hid hb
    have HI3 := Lib.hid hg3
    clear hg3 hc3
    replace KM := KM.keep hb
    replace KB2 := KB2.keep hb
    replace HG := Lib.hid (HG.out.keep hb)
    replace HV := Lib.hid (HV.out.keep hb)
    replace HI2 := Lib.hid (HI2.out.keep hb)
    clear hb
    have KMl := KM.lt; have KMc := KM.get; have KB2l := KB2.lt; have KB2c := KB2.get
    go_upto_region 5 with (fail)
    clear KMl KMc KB2l KB2c
    generalize hV : World.alloc x3 _ = V3
    have hb : Below x3.heap.size x3 V3 := by subst hV; exact up_alloc _ _
    have KB3 : Bk V3 x3.heap.size [.int .i64 (bookT s.data.toList).w0, .int .i64 (bookT s.data.toList).w1, .int .i64 (bookT s.data.toList).w2, .int .i64 (bookT s.data.toList).w3, .int .i64 (bookT s.data.toList).w4, .int .i64 (bookT s.data.toList).F, .slice B3 q3 c3] := ⟨by subst hV; simp, by subst hV; intro j; simp [go_sem]⟩
    clear hV
    have HV3 := Lib.hid hb
    replace KM := KM.keep hb
    replace KB2 := KB2.keep hb
    replace HG := Lib.hid (HG.out.keep hb)
    replace HV := Lib.hid (HV.out.keep hb)
    replace HI2 := Lib.hid (HI2.out.keep hb)
    replace HI3 := Lib.hid (HI3.out.keep hb)
    clear hb
    have hq : q2 = q3 := HI2.out.len.trans HI3.out.len.symm
    subst hq
    generalize bookT s.data.toList = X at *
    generalize textN s.data.toList = N1 at *
    generalize textE s.data.toList = E1 at *
    have KMl := KM.lt; have KMc := KM.get; have KB2l := KB2.lt; have KB2c := KB2.get; have KB3l := KB3.lt; have KB3c := KB3.get
    go_wp2_with fail
    clear KMl KMc KB2l KB2c KB3l KB3c
    refine (sameMarks_yes X.w0 X.w1 X.w2 X.w3 X.w4 X.F B2 B3 q2 c2 c3 X.gs _ HI2.out HI3.out).mono ?_
    rintro e y2 ⟨rfl, hb⟩
    have HY2 := Lib.hid hb
    replace KM := KM.keep hb
    replace KB2 := KB2.keep hb
    replace KB3 := KB3.keep hb
    replace HG := Lib.hid (HG.out.keep hb)
    replace HV := Lib.hid (HV.out.keep hb)
    clear hb
    have KMl := KM.lt; have KMc := KM.get; have KB2l := KB2.lt; have KB2c := KB2.get; have KB3l := KB3.lt; have KB3c := KB3.get
    go_wp2_with fail
    clear KMl KMc KB2l KB2c KB3l KB3c
    refine (sane_any _).mono ?_
    rintro e y8 ⟨rfl, hb⟩
    have HY8 := Lib.hid hb; clear hb
    go_wp2
    go_ret
    exact ⟨rfl, up HW.out (up HX0.out (up HX1.out (up HX2.out (up HV2.out (up HX3.out (up HV3.out (up HY2.out HY8.out)))))))⟩
  · have HT := Lib.hid (text_back w0 w1 w2 w3 w4 F gs hok)
    have HTL := Lib.hid (text_len w0 w1 w2 w3 w4 F gs hok)
    have HOK := Lib.hid hok
    clear hok
    go_enter Tryz.func3, Tryz.ntmps3
    go_wp2_with fail
    generalize hW : (World.alloc _ _) = W
    have HW : Hid (Below w.heap.size w W) := Lib.hid (by subst hW; go_grown)
    have KM : Bk W w.heap.size [.int .i64 w0, .int .i64 w1, .int .i64 w2, .int .i64 w3, .int .i64 w4, .int .i64 F, .slice A n c] := ⟨by subst hW; simp only [World.size_alloc]; omega, by subst hW; intro j; simp [go_sem]⟩
    clear hW
    have HG := Lib.hid (hg.keep HW.out)
    have HV := Lib.hid (hV.keep HW.out)
    clear hg hV
    refine (print_yes w0 w1 w2 w3 w4 F A n c gs W HG.out hnc HOK.out).mono ?_
    rintro e x0 ⟨rfl, hb⟩
    have HX0 := Lib.hid hb
    replace KM := KM.keep hb
    replace HG := Lib.hid (HG.out.keep hb)
    replace HV := Lib.hid (HV.out.keep hb)
    clear hb
    have KMl := KM.lt; have KMc := KM.get
    go_wp2_with fail
    clear KMl KMc
    refine (refPrint_yes w0 w1 w2 w3 w4 F A n c gs x0 HG.out HOK.out).mono ?_
    rintro e x1 ⟨rfl, hb⟩
    have HX1 := Lib.hid hb
    replace KM := KM.keep hb
    replace HG := Lib.hid (HG.out.keep hb)
    replace HV := Lib.hid (HV.out.keep hb)
    clear hb
    have KMl := KM.lt; have KMc := KM.get
    go_wp2_with fail
    clear KMl KMc
    generalize hS : textB w0 w1 w2 w3 w4 F gs = S at *
    have HS := Lib.hid hS
    clear hS
    refine (parse_any s x1 hs HV.out).mono ?_
    rintro e x2 ⟨B2, q2, c2, rfl, hg2, hc2, hb⟩
    have HX2 := Lib.hid hb
    have HI2 := Lib.hid hg2
    clear hg2 hc2
    replace KM := KM.keep hb
    replace HG := Lib.hid (HG.out.keep hb)
    replace HV := Lib.hid (HV.out.keep hb)
    clear hb
    have KMl := KM.lt; have KMc := KM.get
    go_upto_region 4 with (fail)
    clear KMl KMc
    generalize hV : World.alloc x2 _ = V2
    have hb : Below x2.heap.size x2 V2 := by subst hV; exact up_alloc _ _
    have KB2 : Bk V2 x2.heap.size [.int .i64 (bookT s.data.toList).w0, .int .i64 (bookT s.data.toList).w1, .int .i64 (bookT s.data.toList).w2, .int .i64 (bookT s.data.toList).w3, .int .i64 (bookT s.data.toList).w4, .int .i64 (bookT s.data.toList).F, .slice B2 q2 c2] := ⟨by subst hV; simp, by subst hV; intro j; simp [go_sem]⟩
    clear hV
    have HV2 := Lib.hid hb
    replace KM := KM.keep hb
    replace HG := Lib.hid (HG.out.keep hb)
    replace HV := Lib.hid (HV.out.keep hb)
    replace HI2 := Lib.hid (HI2.out.keep hb)
    clear hb
    have KMl := KM.lt; have KMc := KM.get; have KB2l := KB2.lt; have KB2c := KB2.get
    go_wp2_with fail
    clear KMl KMc KB2l KB2c
    refine (refParse_any s V2 hs).mono ?_
    rintro e x3 ⟨B3, q3, c3, rfl, hg3, hc3, hb⟩
    have HX3 := Lib.hid hb
    have HI3 := Lib.hid hg3
    clear hg3 hc3
    replace KM := KM.keep hb
    replace KB2 := KB2.keep hb
    replace HG := Lib.hid (HG.out.keep hb)
    replace HV := Lib.hid (HV.out.keep hb)
    replace HI2 := Lib.hid (HI2.out.keep hb)
    clear hb
    have KMl := KM.lt; have KMc := KM.get; have KB2l := KB2.lt; have KB2c := KB2.get
    go_upto_region 5 with (fail)
    clear KMl KMc KB2l KB2c
    generalize hV : World.alloc x3 _ = V3
    have hb : Below x3.heap.size x3 V3 := by subst hV; exact up_alloc _ _
    have KB3 : Bk V3 x3.heap.size [.int .i64 (bookT s.data.toList).w0, .int .i64 (bookT s.data.toList).w1, .int .i64 (bookT s.data.toList).w2, .int .i64 (bookT s.data.toList).w3, .int .i64 (bookT s.data.toList).w4, .int .i64 (bookT s.data.toList).F, .slice B3 q3 c3] := ⟨by subst hV; simp, by subst hV; intro j; simp [go_sem]⟩
    clear hV
    have HV3 := Lib.hid hb
    replace KM := KM.keep hb
    replace KB2 := KB2.keep hb
    replace HG := Lib.hid (HG.out.keep hb)
    replace HV := Lib.hid (HV.out.keep hb)
    replace HI2 := Lib.hid (HI2.out.keep hb)
    replace HI3 := Lib.hid (HI3.out.keep hb)
    clear hb
    have hq : q2 = q3 := HI2.out.len.trans HI3.out.len.symm
    subst hq
    generalize bookT s.data.toList = X at *
    generalize textN s.data.toList = N1 at *
    generalize textE s.data.toList = E1 at *
    have KMl := KM.lt; have KMc := KM.get; have KB2l := KB2.lt; have KB2c := KB2.get; have KB3l := KB3.lt; have KB3c := KB3.get
    go_wp2_with fail
    clear KMl KMc KB2l KB2c KB3l KB3c
    refine (sameMarks_yes X.w0 X.w1 X.w2 X.w3 X.w4 X.F B2 B3 q2 c2 c3 X.gs _ HI2.out HI3.out).mono ?_
    rintro e y2 ⟨rfl, hb⟩
    have HY2 := Lib.hid hb
    replace KM := KM.keep hb
    replace KB2 := KB2.keep hb
    replace KB3 := KB3.keep hb
    replace HG := Lib.hid (HG.out.keep hb)
    replace HV := Lib.hid (HV.out.keep hb)
    clear hb
    have KMl := KM.lt; have KMc := KM.get; have KB2l := KB2.lt; have KB2c := KB2.get; have KB3l := KB3.lt; have KB3c := KB3.get
    go_wp2_with fail
    clear KMl KMc KB2l KB2c KB3l KB3c
    refine (parse_any S y2 (by have := HTL.out; omega) HV.out).mono ?_
    rintro e x4 ⟨B4, q4, c4, rfl, hg4, hc4, hb⟩
    have hT := HT.out
    
    obtain ⟨e1, e2, e3⟩ := hT
    rw [e1, e2, e3]
    rw [e3] at hg4
    clear e1 e2 e3
    dsimp only at hg4 ⊢
    have HX4 := Lib.hid hb
    have HI4 := Lib.hid hg4
    clear hg4 hc4
    replace KM := KM.keep hb
    replace HG := Lib.hid (HG.out.keep hb)
    clear hb
    clear KB2 KB3 HI2 HI3
    have hq4 : q4 = n := HI4.out.len.trans HG.out.len.symm
    subst hq4
    have KMl := KM.lt; have KMc := KM.get
    go_upto_region 10 with (fail)
    clear KMl KMc
    generalize hV : World.alloc x4 _ = V4
    have hb : Below x4.heap.size x4 V4 := by subst hV; exact up_alloc _ _
    have KB4 : Bk V4 x4.heap.size [.int .i64 w0, .int .i64 w1, .int .i64 w2, .int .i64 w3, .int .i64 w4, .int .i64 F, .slice B4 q4 c4] := ⟨by subst hV; simp, by subst hV; intro j; simp [go_sem]⟩
    clear hV
    have HV4 := Lib.hid hb
    replace KM := KM.keep hb
    replace HG := Lib.hid (HG.out.keep hb)
    replace HI4 := Lib.hid (HI4.out.keep hb)
    clear hb
    have KMl := KM.lt; have KMc := KM.get; have KB4l := KB4.lt; have KB4c := KB4.get
    go_wp2_with fail
    clear KMl KMc KB4l KB4c
    refine (sameMarks_yes w0 w1 w2 w3 w4 F B4 A q4 c4 c gs _ HI4.out HG.out).mono ?_
    rintro e y5 ⟨rfl, hb⟩
    have HY5 := Lib.hid hb
    clear hb
    go_wp2_with fail
    refine (sane_any _).mono ?_
    rintro e y8 ⟨rfl, hb⟩
    have HY8 := Lib.hid hb; clear hb
    go_wp2
    go_ret
    exact ⟨rfl, up HW.out (up HX0.out (up HX1.out (up HX2.out (up HV2.out (up HX3.out (up HV3.out (up HY2.out (up HX4.out (up HV4.out (up HY5.out HY8.out))))))))))⟩

end Go.Proofs.YtfhcofljlkihoaaGreatDoor

