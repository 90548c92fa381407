/- The next mark that can be given. Own text. -/
import Derived.Test.YtpahbpgkmebieaaR2
import Derived.Test.YtpahbpgkmebieaaW21
import Derived.Scope
namespace Go.Proofs.Ytpahbpgkmebieaa
open Go Go.RowKit Go.Shelf
attribute [local go_sem] Oper.semAt_some
set_option maxHeartbeats 400000
set_option maxRecDepth 100000

/-- Is a mark apart from all that were given? -/
def apAll (w0 w1 w2 w3 w4 F : Int) (gs : List Giv) (m : Rd) : Bool := gs.all fun g => apartB w0 w1 w2 w3 w4 F g.m0 g.m1 g.m2 g.m3 g.m4 g.m5 m.r0 m.r1 m.r2 m.r3 m.r4 m.r5
def zeroR : Rd := ⟨0, 0, 0, 0, 0, 0⟩
def nextR (w0 w1 w2 w3 w4 F : Int) (gs : List Giv) : Rd × Int :=
  if okB w0 w1 w2 w3 w4 F gs = true then (if gs.length = 40 then (zeroR, 16) else match (upto 15625).find? (apAll w0 w1 w2 w3 w4 F gs) with | some m => (m, 0) | none => (zeroR, 16)) else (zeroR, 13)
def encR (r : Rd) : Value := .agg #[.int .i64 r.r0, .int .i64 r.r1, .int .i64 r.r2, .int .i64 r.r3, .int .i64 r.r4, .int .i64 r.r5]

theorem put6_heap (w : World) (b k : Nat) (h : k ≠ b) (v0 v1 v2 v3 v4 v5 : Value) :
    ((((((w.setCell ⟨b, 0, none⟩ v0).setCell ⟨b, 1, none⟩ v1).setCell ⟨b, 2, none⟩ v2).setCell ⟨b, 3, none⟩ v3).setCell ⟨b, 4, none⟩ v4).setCell ⟨b, 5, none⟩ v5).heap[k]? = w.heap[k]? := by
  rw [Below.heap_setCell _ _ _ _ h, Below.heap_setCell _ _ _ _ h, Below.heap_setCell _ _ _ _ h, Below.heap_setCell _ _ _ _ h, Below.heap_setCell _ _ _ _ h, Below.heap_setCell _ _ _ _ h]
theorem cell_putObj (w : World) (b j l : Nat) (o : Obj) (h : b ≠ l) : (w.putObj l o).cell? ⟨b, j, none⟩ = w.cell? ⟨b, j, none⟩ :=
  World.cell?_of_block (a := ⟨b, j, none⟩) (World.putObj_heap_other h)
theorem wpIn_scope_wide {n : Nat} {P : Program} {Q : Exit → Act → World → Prop} {a : Act} {w : World} {c : Code} (h : c.wpIn Fence.wide n P (Exit.noGoto Q) a w) : (Code.scope c).wpIn Fence.wide n P Q a w :=
  wpIn_wide.2 (wp_scope_straight (wpIn_wide.1 h))
theorem noGoto_ret {Q : Exit → Act → World → Prop} {a : Act} {w : World} (h : Q .ret a w) : Exit.noGoto Q .ret a w := h
theorem find_hit {p : Rd → Bool} {pre : List Rd} {m : Rd} {k N : Nat} (hk : k < N) (he : upto (k + 1) = pre ++ [m]) (h0 : ∀ x ∈ pre, p x = false) (h1 : p m = true) : (upto N).find? p = some m := by
  have hsub : upto N = upto (k + 1) ++ ((List.range N).drop (k + 1)).map markNo := by
    unfold upto
    rw [← List.map_append]
    have : List.range (k + 1) = (List.range N).take (k + 1) := by rw [List.take_range, Nat.min_eq_left (by omega)]
    rw [this, List.take_append_drop]
  rw [hsub, he, List.append_assoc, List.find?_append]
  have : pre.find? p = none := by rw [List.find?_eq_none]; intro x hx; rw [h0 x hx]; simp
  rw [this]; simp [h1]
theorem find_no {p : Rd → Bool} {N : Nat} (h0 : ∀ x ∈ upto N, p x = false) : (upto N).find? p = none := by
  rw [List.find?_eq_none]; intro x hx; rw [h0 x hx]; simp

theorem bodyPostM_ret0 {F : Fence} {n : Nat} {P : Program} {fn : Func} {R : Ending → World → Prop} {a : Act} {w : World} {v : Value}
    (hr : (results fn a.tmps).run P w = .ok v w) (hd : a.defers = []) (hR : R (.returned v) w) : bodyPostM F n P fn R .ret a w := by
  show LeavesInM F n P fn a.tmps R a.defers .returning w; rw [hd]; exact ⟨v, hr, hR⟩
theorem bodyPostM_ret1 {F : Fence} {n D : Nat} {P : Program} {fn : Func} {R : Ending → World → Prop} {a : Act} {w : World} {v : Value}
    (hd : a.defers = [{ target := .collected D, args := #[] }]) (hk : w.heap[D]? = some (.deferred (some [])))
    (hr : (results fn a.tmps).run P (w.putObj D (.deferred none)) = .ok v (w.putObj D (.deferred none))) (hR : R (.returned v) (w.putObj D (.deferred none))) : bodyPostM F n P fn R .ret a w := by
  show LeavesInM F n P fn a.tmps R a.defers .returning w; rw [hd]; exact ⟨by simp, .inl ⟨_, _, rfl, run_takeDeferred hk, v, hr, hR⟩⟩

theorem next_any (w0 w1 w2 w3 w4 F : Int) (A : Option Addr) (n c : Nat) (gs : List Giv) (w : World) (hg : Gs w A n gs) (hnc : n ≤ c) :
    Calls Try.prog 39 #[.agg #[.int .i64 w0, .int .i64 w1, .int .i64 w2, .int .i64 w3, .int .i64 w4, .int .i64 F, .slice A n c]] w fun e w' =>
      e = .returned (.tuple #[encR (nextR w0 w1 w2 w3 w4 F gs).1, .int .i64 (nextR w0 w1 w2 w3 w4 F gs).2]) ∧ Below w.heap.size w w' := by
  have Hl : Hid (n = gs.length) := Lib.hid hg.len
  refine (callsIn_wide (n := 9)).1 (callsIn_of_wp_marks Try.func39 rfl trivial ?_ rfl)
  simp only [Try.ntmps39, List.size_toArray, List.length_cons, List.length_nil, Nat.reduceAdd, Nat.reduceSub, Array.replicate_succ, Array.replicate_zero, List.push_toArray, List.append_toArray, List.nil_append, List.cons_append]
  gi_wp2_with fail
  generalize hW : (World.alloc _ _) = W
  have HW : Hid (Below w.heap.size w W) := Lib.hid (by subst hW; go_grown)
  have hs : w.heap.size + 1 < W.heap.size := by subst hW; simp
  have cm : ∀ j, W.cell? ⟨w.heap.size, j, none⟩ = [Value.int .i64 w0, .int .i64 w1, .int .i64 w2, .int .i64 w3, .int .i64 w4, .int .i64 F, .slice A n c][j]? := by subst hW; intro j; simp [go_sem]
  have cr : ∀ j, W.cell? ⟨w.heap.size + 1, j, none⟩ = [Value.int .i64 0, .int .i64 0, .int .i64 0, .int .i64 0, .int .i64 0, .int .i64 0][j]? := by subst hW; intro j; simp [go_sem]
  have fr : ∀ j, W.frozen? ⟨w.heap.size + 1, j, none⟩ = false := by subst hW; intro j; simp [go_sem]
  clear hW
  refine wpIn_scope_wide ?_
  have hs0 : w.heap.size < W.heap.size := by omega
  have Hg1 := Lib.hid (hg.keep HW.out)
  have Ex : ∀ z, Hid (∀ j, j < 6 → ((grow W z).cell? ⟨w.heap.size + 1, j, none⟩).isSome = true) := fun z => Lib.hid (by
    intro j hj
    rw [grow_cell_lt _ _ _ _ hs, cr j]
    rcases (by omega : j = 0 ∨ j = 1 ∨ j = 2 ∨ j = 3 ∨ j = 4 ∨ j = 5) with rfl | rfl | rfl | rfl | rfl | rfl <;> rfl)
  cases hb : okB w0 w1 w2 w3 w4 F gs
  · have Hb := Lib.hid hb
    clear hb
    gi_wp2_with (refine ⟨trivial, (callsIn_wide.2 (check_no _ _ _ _ _ _ _ _ _ _ _ Hg1.out hnc Hb.out)).mono ?_⟩; rintro e x1 ⟨rfl, hb1⟩; obtain ⟨z, rfl⟩ := below_grow hb1; clear hb1)
    have P := put6 (grow W z) (w.heap.size + 1) (.int .i64 0) (.int .i64 0) (.int .i64 0) (.int .i64 0) (.int .i64 0) (.int .i64 0) (Ex z).out
    have B := put6_below (up HW.out (grow_below W z)) (by omega : w.heap.size ≤ w.heap.size + 1) (.int .i64 0) (.int .i64 0) (.int .i64 0) (.int .i64 0) (.int .i64 0) (.int .i64 0)
    generalize World.setCell _ ⟨w.heap.size + 1, 5, none⟩ _ = V at P B ⊢
    have p0 := P 0 (by omega); have p1 := P 1 (by omega); have p2 := P 2 (by omega); have p3 := P 3 (by omega); have p4 := P 4 (by omega); have p5 := P 5 (by omega)
    clear P
    simp at p0 p1 p2 p3 p4 p5
    refine noGoto_ret (bodyPostM_ret0 (v := .tuple #[.agg #[.int .i64 0, .int .i64 0, .int .i64 0, .int .i64 0, .int .i64 0, .int .i64 0], .int .i64 13]) (by simp [results, Try.results39, go_sem, p0, p1, p2, p3, p4, p5]) rfl ⟨?_, B⟩)
    unfold nextR; rw [Hb.out]; rfl
  have Hb := Lib.hid hb
  clear hb
  by_cases h40 : n = 40
  · have H40 := Lib.hid h40
    subst h40
    gi_wp2_with (refine ⟨trivial, (callsIn_wide.2 (check_yes _ _ _ _ _ _ _ _ _ _ _ Hg1.out hnc Hb.out)).mono ?_⟩; rintro e x1 ⟨rfl, hb1⟩; obtain ⟨z, rfl⟩ := below_grow hb1; clear hb1)
    have P := put6 (grow W z) (w.heap.size + 1) (.int .i64 0) (.int .i64 0) (.int .i64 0) (.int .i64 0) (.int .i64 0) (.int .i64 0) (Ex z).out
    have B := put6_below (up HW.out (grow_below W z)) (by omega : w.heap.size ≤ w.heap.size + 1) (.int .i64 0) (.int .i64 0) (.int .i64 0) (.int .i64 0) (.int .i64 0) (.int .i64 0)
    generalize World.setCell _ ⟨w.heap.size + 1, 5, none⟩ _ = V at P B ⊢
    have p0 := P 0 (by omega); have p1 := P 1 (by omega); have p2 := P 2 (by omega); have p3 := P 3 (by omega); have p4 := P 4 (by omega); have p5 := P 5 (by omega)
    clear P
    simp at p0 p1 p2 p3 p4 p5
    refine noGoto_ret (bodyPostM_ret0 (v := .tuple #[.agg #[.int .i64 0, .int .i64 0, .int .i64 0, .int .i64 0, .int .i64 0, .int .i64 0], .int .i64 16]) (by simp [results, Try.results39, go_sem, p0, p1, p2, p3, p4, p5]) rfl ⟨?_, B⟩)
    unfold nextR; rw [Hb.out, if_pos rfl, if_pos Hl.out.symm]; rfl
  have H40 := Lib.hid h40
  have h40b : ((n : Int) == 40) = false := by simp; omega
  gi_wp2_with (refine ⟨trivial, (callsIn_wide.2 (check_yes _ _ _ _ _ _ _ _ _ _ _ Hg1.out hnc Hb.out)).mono ?_⟩; rintro e x1 ⟨rfl, hb1⟩; obtain ⟨z, rfl⟩ := below_grow hb1; clear hb1)
  refine wpIn_label ?_
  gi_wp2
  have hz0 : w.heap.size < W.heap.size + z.blocks.size := by omega
  have hz1 : w.heap.size + 1 < W.heap.size + z.blocks.size := by omega
  generalize hU : World.alloc _ (.cells #[.int .i64 16] 32) = U
  have HU : Hid (Below W.heap.size W U) := Lib.hid (by subst hU; exact up (grow_below W z) (up (up_alloc _ _) (up_alloc _ _)))
  have hUs : U.heap.size = W.heap.size + z.blocks.size + 1 + 1 := by subst hU; simp
  have F5 : ∀ j, U.cell? ⟨W.heap.size + z.blocks.size, j, none⟩ = [Value.int .i64 0, .int .i64 0, .int .i64 0, .int .i64 0, .int .i64 0, .int .i64 0][j]? := by subst hU; intro j; simp [go_sem]
  have F6 : U.cell? ⟨W.heap.size + z.blocks.size + 1, 0, none⟩ = some (.int .i64 16) := by subst hU; simp [go_sem]
  have Z5 : ∀ j, U.frozen? ⟨W.heap.size + z.blocks.size, j, none⟩ = false := by subst hU; intro j; simp [go_sem]
  have Z6 : U.frozen? ⟨W.heap.size + z.blocks.size + 1, 0, none⟩ = false := by subst hU; simp [go_sem]
  clear hU
  have u5 : W.heap.size + z.blocks.size < U.heap.size := by omega
  have u6 : W.heap.size + z.blocks.size + 1 < U.heap.size := by omega
  have Hd := Lib.hid (okB_ok Hb.out)
  have H16 : Hid (0 ≤ F ∧ F ≤ 2) := Lib.hid (by have := Hb.out; simp only [okB, Bool.and_eq_true, decide_eq_true_eq] at this; exact this.1.1.2)
  refine rangeFunc_law (by omega) (gf := 87) (lb := #[]) rfl (enters_of Try.func87 (by kernel_rfl) rfl) (every_iter w) (up HW.out HU.out) (fun _ => rfl)
    (fun pre X => Below U.heap.size U X ∧ ∀ x ∈ pre, apAll w0 w1 w2 w3 w4 F gs x = false)
    (fun c pre X => c = .exit 0 ∧ ∃ pre0 m, pre = pre0 ++ [m] ∧ (∀ x ∈ pre0, apAll w0 w1 w2 w3 w4 F gs x = false) ∧ apAll w0 w1 w2 w3 w4 F gs m = true ∧ Below W.heap.size W X ∧ MBox X (W.heap.size + z.blocks.size) m ∧ X.cell? ⟨W.heap.size + z.blocks.size + 1, 0, none⟩ = some (.int .i64 0))
    (fun _ _ _ => trivial) ?_ ?_ ⟨Below.refl _ _, by simp⟩ ?_ ?_ ?_
  · rintro s X Y ⟨h1, h2⟩ hb
    exact ⟨h1.trans hb, h2⟩
  · rintro c s X o ⟨rfl, pre0, m, rfl, h0, h1, h2, h3, h4⟩
    have hb : Below U.heap.size X (X.putObj (U.heap.size + 1) o) := below_putObj X (by omega) o
    generalize X.putObj (U.heap.size + 1) o = Y at hb ⊢
    refine ⟨rfl, pre0, m, rfl, h0, h1, h2.trans (hb.mono (by have := HU.out.size; omega)), ?_, (hb.cell (p := ⟨W.heap.size + z.blocks.size + 1, 0, none⟩) u6).trans h4⟩
    obtain ⟨b0, b1, b2, b3, b4, b5, b6, b7⟩ := h3
    have k : ∀ j, Y.cell? ⟨W.heap.size + z.blocks.size, j, none⟩ = X.cell? ⟨W.heap.size + z.blocks.size, j, none⟩ := fun j => hb.cell (p := ⟨W.heap.size + z.blocks.size, j, none⟩) u5
    exact ⟨by have := hb.size; omega, (k 0).trans b1, (k 1).trans b2, (k 2).trans b3, (k 3).trans b4, (k 4).trans b5, (k 5).trans b6, fun j => (hb.frozen (p := ⟨W.heap.size + z.blocks.size, j, none⟩) u5).trans (b7 j)⟩
  · rintro l pre x X ⟨k, hk, hsp⟩ _ ⟨hbx, hno⟩ hsz
    obtain ⟨rfl, rfl⟩ : upto k = pre ∧ markNo k = x := by
      rw [upto_succ] at hsp
      exact ⟨(List.append_inj_left' hsp rfl).symm, by simpa using (List.append_inj_right' hsp rfl).symm⟩
    have hdg := markNo_dig k
    have Hsp := Lib.hid hsp
    have Hno := Lib.hid hno
    have Hbx := Lib.hid hbx
    clear hsp hno hbx
    have xs0 : U.heap.size ≤ X.heap.size := by omega
    have xs1 : w.heap.size < X.heap.size := by omega
    have xs2 : W.heap.size + z.blocks.size < X.heap.size := by omega
    have xs3 : W.heap.size + z.blocks.size + 1 < X.heap.size := by omega
    generalize upto k = pre at *
    generalize markNo k = x at *
    simp only [encM]
    gi_wp2
    refine ⟨Above.of_below (up_alloc _ _), ?_⟩
    intro V hV1 hV2
    have HXV : Hid (Below U.heap.size X V) := Lib.hid (((up_alloc _ _).mono xs0).trans hV1)
    have HUV : Hid (Below U.heap.size U V) := Lib.hid (Hbx.out.trans HXV.out)
    have HWV : Hid (Below W.heap.size W V) := Lib.hid (HU.out.trans (HUV.out.mono (by omega)))
    have vN : X.heap.size < V.heap.size := by have := hV2.size; simp at this; omega
    have hN : ∀ j, V.cell? ⟨X.heap.size, j, none⟩ = [Value.int .i64 x.r0, .int .i64 x.r1, .int .i64 x.r2, .int .i64 x.r3, .int .i64 x.r4, .int .i64 x.r5][j]? := by
      intro j
      rw [World.cell?_of_block (a := ⟨X.heap.size, j, none⟩) (hV2.block X.heap.size hsz (by simp))]
      simp [go_sem]
    have HN : Hid (MBox V X.heap.size x) := Lib.hid (by
      refine ⟨vN, hN 0, hN 1, hN 2, hN 3, hN 4, hN 5, fun j => ?_⟩
      rw [World.frozen?_of_block (a := ⟨X.heap.size, j, none⟩) (hV2.block X.heap.size hsz (by simp))]
      simp [go_sem])
    have H5 : Hid (MBox V (W.heap.size + z.blocks.size) zeroR) := Lib.hid (MBox.keep (w := U) ⟨u5, F5 0, F5 1, F5 2, F5 3, F5 4, F5 5, Z5⟩ HUV.out u5)
    clear hV1 hV2 hN
    have v0 : w.heap.size < V.heap.size := by omega
    have v5 : W.heap.size + z.blocks.size < V.heap.size := by omega
    have v6 : W.heap.size + z.blocks.size + 1 < V.heap.size := by omega
    have cmV : ∀ j, V.cell? ⟨w.heap.size, j, none⟩ = [Value.int .i64 w0, .int .i64 w1, .int .i64 w2, .int .i64 w3, .int .i64 w4, .int .i64 F, .slice A n c][j]? := fun j => (HWV.out.cell (p := ⟨w.heap.size, j, none⟩) hs0).trans (cm j)
    have c6V : V.cell? ⟨W.heap.size + z.blocks.size + 1, 0, none⟩ = some (.int .i64 16) := (HUV.out.cell (p := ⟨_, 0, none⟩) u6).trans F6
    have z6V : V.frozen? ⟨W.heap.size + z.blocks.size + 1, 0, none⟩ = false := (HUV.out.frozen (p := ⟨_, 0, none⟩) u6).trans Z6
    have HgV := Lib.hid (hg.keep (up HW.out HWV.out))
    have hn40 : n ≤ 40 := by have := okB_40 Hb.out; have := Hl.out; omega
    clear cm cr fr F5 F6 Z5 Z6
    obtain ⟨_, x0, x1, x2, x3, x4, x5, _⟩ := HN.out
    obtain ⟨_, y0, y1, y2, y3, y4, y5, yf⟩ := H5.out
    obtain ⟨⟨a0, b0⟩, ⟨a1, b1⟩, ⟨a2, b2⟩, ⟨a3, b3⟩, ⟨a4, b4⟩, ⟨a5, b5⟩⟩ := hdg
    gi_wp2
    gi_loopw [25] (fun i wr => ∃ (k : Nat) (y : Gr), k ≤ n ∧ i = .int .i64 k ∧ wr = grow V y ∧ apAll w0 w1 w2 w3 w4 F (gs.take k) x = true) (fun i _ => n - (intOf i).toNat)
    case atStart => exact ⟨0, ⟨#[], V.drawn⟩, by omega, rfl, by simp [grow], rfl⟩
    case round =>
      obtain ⟨k, y, hk, rfl, rfl, hall⟩ := hrel
      have Hall := Lib.hid hall
      clear hall
      by_cases hlt : k < n
      rotate_left
      · obtain rfl : k = n := by omega
        have Hf : Hid (apAll w0 w1 w2 w3 w4 F gs x = true) := Lib.hid (by have := Hall.out; rwa [List.take_of_length_le (by rw [← Hl.out]; exact Nat.le_refl _)] at this)
        gi_wp2
        have M := ((((((H5.out.keep (grow_below V y) v5).set0 x.r0).set1 x.r1).set2 x.r2).set3 x.r3).set4 x.r4).set5 x.r5
        have c6 : (grow V y).cell? ⟨W.heap.size + z.blocks.size + 1, 0, none⟩ = some (.int .i64 16) := ((grow_below V y).cell (p := ⟨W.heap.size + z.blocks.size + 1, 0, none⟩) v6).trans c6V
        have wz : W.heap.size ≤ W.heap.size + z.blocks.size := by omega
        have wz1 : W.heap.size ≤ W.heap.size + z.blocks.size + 1 := by omega
        refine ⟨?_, rfl, pre, x, rfl, Hno.out, Hf.out, ?_, M.other (by simp) _, World.cell?_setCell_same' _ _ _ ?_⟩
        · exact (((((((Above.of_below (grow_below V y)).trans (Above.setCell _ u5 _)).trans (Above.setCell _ u5 _)).trans (Above.setCell _ u5 _)).trans (Above.setCell _ u5 _)).trans (Above.setCell _ u5 _)).trans (Above.setCell _ u5 _)).trans (Above.setCell _ u6 _)
        · exact (((((((HWV.out.trans ((grow_below V y).mono (by omega))).setCell wz _).setCell wz _).setCell wz _).setCell wz _).setCell wz _).setCell wz _).setCell wz1 _
        · rw [World.cell?_setCell_other _ _ _ _ (by simp), World.cell?_setCell_other _ _ _ _ (by simp), World.cell?_setCell_other _ _ _ _ (by simp), World.cell?_setCell_other _ _ _ _ (by simp), World.cell?_setCell_other _ _ _ _ (by simp), World.cell?_setCell_other _ _ _ _ (by simp), c6]; rfl
      have hkl : k < gs.length := by rw [← Hl.out]; exact hlt
      have Htk : Hid (gs.take (k + 1) = gs.take k ++ [gs[k]]) := Lib.hid (List.take_succ_eq_append_getElem hkl)
      have Hmem : Hid (gs[k] ∈ gs) := Lib.hid (List.getElem_mem hkl)
      obtain ⟨b, o, rfl, hb, hc⟩ := HgV.out.get k hkl
      obtain ⟨c0, c1, c2, c3, c4, c5, c6⟩ := hc
      obtain ⟨⟨p0, q0⟩, ⟨p1, q1⟩, ⟨p2, q2⟩, ⟨p3, q3⟩, ⟨p4, q4⟩, ⟨p5, q5⟩⟩ := Hd.out _ (List.getElem_mem hkl)
      generalize gs[k] = g at *
      have w0' : w.heap.size < V.heap.size + y.blocks.size + 1 := by omega
      have e0' : w.heap.size < V.heap.size + y.blocks.size := by omega
      have e1' : X.heap.size < V.heap.size + y.blocks.size := by omega
      have w1' : X.heap.size < V.heap.size + y.blocks.size + 1 := by omega
      cases hap : apartB w0 w1 w2 w3 w4 F g.m0 g.m1 g.m2 g.m3 g.m4 g.m5 x.r0 x.r1 x.r2 x.r3 x.r4 x.r5
      · have Hap := Lib.hid hap
        clear hap
        gi_wp2_with (refine ⟨trivial, (CallsIn.inRound l (callsIn_wide.2 (apart_any _ _ _ _ _ _ _ _ _ _ _ _ _ _ _ _ _ _ _ p0 q0 p1 q1 p2 q2 p3 q3 p4 q4 p5 q5 a0 b0 a1 b1 a2 b2 a3 b3 a4 b4 a5 b5 H16.out.1 H16.out.2))).mono ?_⟩; rintro e x1 ⟨rfl, hb1⟩; obtain ⟨y2, rfl⟩ := below_grow hb1; clear hb1; rw [Hap.out])
        have hbel : Below V.heap.size V _ := up (grow_below V y) (up (up_alloc (grow V y) (.cells #[.int .i64 g.o, .int .i64 g.m0, .int .i64 g.m1, .int .i64 g.m2, .int .i64 g.m3, .int .i64 g.m4, .int .i64 g.m5] 30)) (grow_below _ y2))
        refine ⟨Above.of_below hbel, HUV.out.trans (hbel.mono (by have := HUV.out.size; omega)), fun m hm => ?_⟩
        rcases List.mem_append.1 hm with hm | hm
        · exact Hno.out m hm
        · simp at hm; subst hm
          unfold apAll; rw [List.all_eq_false]; exact ⟨g, Hmem.out, by rw [Hap.out]; simp⟩
      · have Hap := Lib.hid hap
        clear hap
        gi_wp2_with (refine ⟨trivial, (CallsIn.inRound l (callsIn_wide.2 (apart_any _ _ _ _ _ _ _ _ _ _ _ _ _ _ _ _ _ _ _ p0 q0 p1 q1 p2 q2 p3 q3 p4 q4 p5 q5 a0 b0 a1 b1 a2 b2 a3 b3 a4 b4 a5 b5 H16.out.1 H16.out.2))).mono ?_⟩; rintro e x1 ⟨rfl, hb1⟩; obtain ⟨y2, rfl⟩ := below_grow hb1; clear hb1; rw [Hap.out])
        have hbel : Below V.heap.size V _ := up (grow_below V y) (up (up_alloc (grow V y) (.cells #[.int .i64 g.o, .int .i64 g.m0, .int .i64 g.m1, .int .i64 g.m2, .int .i64 g.m3, .int .i64 g.m4, .int .i64 g.m5] 30)) (grow_below _ y2))
        obtain ⟨y3, hy3⟩ := below_grow hbel
        refine ⟨⟨k + 1, y3, by omega, by go_num, hy3, ?_⟩, by simp [intOf]; omega⟩
        rw [Htk.out]
        have := Hall.out
        unfold apAll at this ⊢
        rw [List.all_append, this]; simp [Hap.out]
  · rintro xs X rfl ⟨hbx, hno⟩ hdef
    have Hnone : Hid ((upto 15625).find? (apAll w0 w1 w2 w3 w4 F gs) = none) := Lib.hid (find_no hno)
    have Hdef := Lib.hid hdef
    have HWX : Hid (Below W.heap.size W X) := Lib.hid (HU.out.trans (hbx.mono (by omega)))
    have d5 : ∀ j, X.cell? ⟨W.heap.size + z.blocks.size, j, none⟩ = [Value.int .i64 0, .int .i64 0, .int .i64 0, .int .i64 0, .int .i64 0, .int .i64 0][j]? := fun j => (hbx.cell (p := ⟨W.heap.size + z.blocks.size, j, none⟩) u5).trans (F5 j)
    have d6 : X.cell? ⟨W.heap.size + z.blocks.size + 1, 0, none⟩ = some (.int .i64 16) := (hbx.cell (p := ⟨W.heap.size + z.blocks.size + 1, 0, none⟩) u6).trans F6
    clear hno hdef hbx
    have xU : U.heap.size < X.heap.size := (Array.getElem?_eq_some_iff.1 Hdef.out).1
    have x0 : w.heap.size + 1 < X.heap.size := by omega
    have x5 : W.heap.size + z.blocks.size < X.heap.size := by omega
    have x6 : W.heap.size + z.blocks.size + 1 < X.heap.size := by omega
    have crX : ∀ j, X.cell? ⟨w.heap.size + 1, j, none⟩ = [Value.int .i64 0, .int .i64 0, .int .i64 0, .int .i64 0, .int .i64 0, .int .i64 0][j]? := fun j => (HWX.out.cell (p := ⟨w.heap.size + 1, j, none⟩) hs).trans (cr j)
    have frX : ∀ j, X.frozen? ⟨w.heap.size + 1, j, none⟩ = false := fun j => (HWX.out.frozen (p := ⟨w.heap.size + 1, j, none⟩) hs).trans (fr j)
    clear cm cr fr F5 F6 Z5 Z6
    have Ex2 : Hid (∀ j, j < 6 → (X.cell? ⟨w.heap.size + 1, j, none⟩).isSome = true) := Lib.hid (by
      intro j hj
      rw [crX j]
      rcases (by omega : j = 0 ∨ j = 1 ∨ j = 2 ∨ j = 3 ∨ j = 4 ∨ j = 5) with rfl | rfl | rfl | rfl | rfl | rfl <;> rfl)
    gi_wp2
    refine wpIn_wide.2 ?_
    go_region
    gi_wp2
    have P := put6 X (w.heap.size + 1) (.int .i64 0) (.int .i64 0) (.int .i64 0) (.int .i64 0) (.int .i64 0) (.int .i64 0) Ex2.out
    have B := (put6_below (up HW.out HWX.out) (by omega : w.heap.size ≤ w.heap.size + 1) (.int .i64 0) (.int .i64 0) (.int .i64 0) (.int .i64 0) (.int .i64 0) (.int .i64 0)).drew
    have D := put6_heap X (w.heap.size + 1) U.heap.size (by omega) (.int .i64 0) (.int .i64 0) (.int .i64 0) (.int .i64 0) (.int .i64 0) (.int .i64 0)
    rw [Hdef.out] at D
    generalize hV : World.setCell _ ⟨w.heap.size + 1, 5, none⟩ _ = V0 at P B D ⊢
    clear hV
    change ∀ j, j < 6 → V0.drew.cell? _ = _ at P
    change V0.drew.heap[U.heap.size]? = _ at D
    generalize V0.drew = V at P B D ⊢
    have P' : ∀ j, j < 6 → (V.putObj U.heap.size (.deferred none)).cell? ⟨w.heap.size + 1, j, none⟩ = _ := fun j hj => (cell_putObj V (w.heap.size + 1) j U.heap.size (.deferred none) (by omega)).trans (P j hj)
    have B' := B.trans (below_putObj (B := w.heap.size) V (l := U.heap.size) (by omega) (.deferred none))
    have p0 := P' 0 (by omega); have p1 := P' 1 (by omega); have p2 := P' 2 (by omega); have p3 := P' 3 (by omega); have p4 := P' 4 (by omega); have p5 := P' 5 (by omega)
    clear P P'
    simp at p0 p1 p2 p3 p4 p5
    refine noGoto_ret (bodyPostM_ret1 (D := U.heap.size) (v := .tuple #[.agg #[.int .i64 0, .int .i64 0, .int .i64 0, .int .i64 0, .int .i64 0, .int .i64 0], .int .i64 16]) rfl D ?_ ⟨?_, B'⟩)
    · generalize V.putObj U.heap.size (.deferred none) = V' at *
      simp [results, Try.results39, go_sem, p0, p1, p2, p3, p4, p5]
    · unfold nextR; rw [if_pos Hb.out, if_neg (by rw [← Hl.out]; exact H40.out), Hnone.out]; rfl
  · rintro c pre X ⟨k, hk, rfl⟩ ⟨rfl, pre0, m, hpre, h0, h1, h2, h3, h4⟩ hdef
    have Hhit : Hid ((upto 15625).find? (apAll w0 w1 w2 w3 w4 F gs) = some m) := Lib.hid (find_hit hk hpre h0 h1)
    have Hdef := Lib.hid hdef
    have HWX := Lib.hid h2
    obtain ⟨_, y0, y1, y2, y3, y4, y5, _⟩ := h3
    clear hdef hpre h0 h1 h2
    have xU : U.heap.size < X.heap.size := (Array.getElem?_eq_some_iff.1 Hdef.out).1
    have x0 : w.heap.size + 1 < X.heap.size := by omega
    have x5 : W.heap.size + z.blocks.size < X.heap.size := by omega
    have x6 : W.heap.size + z.blocks.size + 1 < X.heap.size := by omega
    have crX : ∀ j, X.cell? ⟨w.heap.size + 1, j, none⟩ = [Value.int .i64 0, .int .i64 0, .int .i64 0, .int .i64 0, .int .i64 0, .int .i64 0][j]? := fun j => (HWX.out.cell (p := ⟨w.heap.size + 1, j, none⟩) hs).trans (cr j)
    have frX : ∀ j, X.frozen? ⟨w.heap.size + 1, j, none⟩ = false := fun j => (HWX.out.frozen (p := ⟨w.heap.size + 1, j, none⟩) hs).trans (fr j)
    clear cm cr fr F5 F6 Z5 Z6
    have Ex2 : Hid (∀ j, j < 6 → (X.cell? ⟨w.heap.size + 1, j, none⟩).isSome = true) := Lib.hid (by
      intro j hj
      rw [crX j]
      rcases (by omega : j = 0 ∨ j = 1 ∨ j = 2 ∨ j = 3 ∨ j = 4 ∨ j = 5) with rfl | rfl | rfl | rfl | rfl | rfl <;> rfl)
    gi_wp2
    refine wpIn_wide.2 ?_
    go_region
    gi_wp2
    have P := put6 X (w.heap.size + 1) (.int .i64 m.r0) (.int .i64 m.r1) (.int .i64 m.r2) (.int .i64 m.r3) (.int .i64 m.r4) (.int .i64 m.r5) Ex2.out
    have B := (put6_below (up HW.out HWX.out) (by omega : w.heap.size ≤ w.heap.size + 1) (.int .i64 m.r0) (.int .i64 m.r1) (.int .i64 m.r2) (.int .i64 m.r3) (.int .i64 m.r4) (.int .i64 m.r5)).drew
    have D := put6_heap X (w.heap.size + 1) U.heap.size (by omega) (.int .i64 m.r0) (.int .i64 m.r1) (.int .i64 m.r2) (.int .i64 m.r3) (.int .i64 m.r4) (.int .i64 m.r5)
    rw [Hdef.out] at D
    generalize hV : World.setCell _ ⟨w.heap.size + 1, 5, none⟩ _ = V0 at P B D ⊢
    clear hV
    change ∀ j, j < 6 → V0.drew.cell? _ = _ at P
    change V0.drew.heap[U.heap.size]? = _ at D
    generalize V0.drew = V at P B D ⊢
    have P' : ∀ j, j < 6 → (V.putObj U.heap.size (.deferred none)).cell? ⟨w.heap.size + 1, j, none⟩ = _ := fun j hj => (cell_putObj V (w.heap.size + 1) j U.heap.size (.deferred none) (by omega)).trans (P j hj)
    have B' := B.trans (below_putObj (B := w.heap.size) V (l := U.heap.size) (by omega) (.deferred none))
    have p0 := P' 0 (by omega); have p1 := P' 1 (by omega); have p2 := P' 2 (by omega); have p3 := P' 3 (by omega); have p4 := P' 4 (by omega); have p5 := P' 5 (by omega)
    clear P P'
    simp at p0 p1 p2 p3 p4 p5
    refine noGoto_ret (bodyPostM_ret1 (D := U.heap.size) (v := .tuple #[.agg #[.int .i64 m.r0, .int .i64 m.r1, .int .i64 m.r2, .int .i64 m.r3, .int .i64 m.r4, .int .i64 m.r5], .int .i64 0]) rfl D ?_ ⟨?_, B'⟩)
    · generalize V.putObj U.heap.size (.deferred none) = V' at *
      simp [results, Try.results39, go_sem, p0, p1, p2, p3, p4, p5]
    · unfold nextR; rw [if_pos Hb.out, if_neg (by rw [← Hl.out]; exact H40.out), Hhit.out]; rfl
end Go.Proofs.Ytpahbpgkmebieaa
