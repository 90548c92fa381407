/- The fewest places to look at again. Own text. -/
import Derived.Test.YtpahbpgkmebieaaR5
namespace Go.Proofs.Ytpahbpgkmebieaa
open Go Go.RowKit Go.Shelf
attribute [local go_sem] Oper.semAt_some
set_option maxHeartbeats 400000
set_option maxRecDepth 100000

theorem listsOf_any (n : Nat) (w : World) :
    Calls Try.prog 94 #[.int .i64 n] w fun e w' => e = .returned (.func (.func 110) #[] #[.pointer (some ⟨w.heap.size, 0, none⟩)]) ∧ w' = w.alloc (.cells #[.int .i64 n] 3) := by
  go_enter Try.func94, Try.ntmps94
  go_wp2
  go_ret
  exact ⟨rfl, rfl⟩

/-- Another world but at some blocks. -/
structure OffD (Ds : List Nat) (X Y : World) : Prop where
  os : Y.os = X.os
  tape : Y.tape = X.tape
  output : Y.output = X.output
  size : Y.heap.size = X.heap.size
  block : ∀ b, b ∉ Ds → Y.heap[b]? = X.heap[b]?
theorem OffD.below {Ds : List Nat} {X Y Z : World} {B : Nat} (h : OffD Ds X Y) (hb : Below B Z X) (hD : ∀ D ∈ Ds, B ≤ D) : Below B Z Y :=
  hb.trans ⟨h.os, h.tape, h.output, Nat.le_of_eq h.size.symm, fun k hk => h.block k (fun hm => by have := hD k hm; omega)⟩
def mkD (D : Nat) : Deferred := { target := .collected D, args := #[] }
theorem leaves_marks {F : Fence} {n : Nat} {P : Program} {fn : Func} {tmps : Array Value} {R : Ending → World → Prop} : ∀ (Ds : List Nat) (X : World), Ds.Nodup →
    (∀ D ∈ Ds, X.heap[D]? = some (.deferred (some []))) → (∀ Y, OffD Ds X Y → ∃ v, (results fn tmps).run P Y = .ok v Y ∧ R (.returned v) Y) →
    LeavesInM F n P fn tmps R (Ds.map mkD) .returning X
  | [], X, _, _, h => by
    obtain ⟨v, h1, h2⟩ := h X ⟨rfl, rfl, rfl, rfl, fun _ _ => rfl⟩
    exact ⟨v, h1, h2⟩
  | D :: Ds, X, hn, hD, h => by
    refine ⟨by simp, .inl ⟨D, _, rfl, run_takeDeferred (hD D (List.mem_cons_self ..)), ?_⟩⟩
    obtain ⟨hn1, hn2⟩ := List.nodup_cons.1 hn
    refine leaves_marks Ds _ hn2 (fun E hE => (World.putObj_heap_other (by rintro rfl; exact hn1 hE)).trans (hD E (List.mem_cons_of_mem _ hE))) fun Y hY => h Y ⟨hY.os, hY.tape, hY.output, by rw [hY.size]; simp [World.putObj], fun b hb => ?_⟩
    rw [hY.block b (fun hm => hb (List.mem_cons_of_mem _ hm))]
    exact World.putObj_heap_other (by rintro rfl; exact hb (List.mem_cons_self ..))
theorem bodyPostM_marks {F : Fence} {n : Nat} {P : Program} {fn : Func} {R : Ending → World → Prop} {a : Act} {w : World} (Ds : List Nat) (hd : a.defers = Ds.map mkD) (hn : Ds.Nodup)
    (hk : ∀ D ∈ Ds, w.heap[D]? = some (.deferred (some []))) (h : ∀ Y, OffD Ds w Y → ∃ v, (results fn a.tmps).run P Y = .ok v Y ∧ R (.returned v) Y) : bodyPostM F n P fn R .ret a w := by
  show LeavesInM F n P fn a.tmps R a.defers .returning w; rw [hd]; exact leaves_marks Ds w hn hk h

/-- The lists of places, in their order; the first one that settles rows. -/
def allL : Nat → List (List Int)
  | 0 => []
  | n + 1 => allL n ++ procL n 64
def lookL (rs : List Rd) : List Int := ((allL 7).find? (settleB rs)).getD []
def lookR (w0 w1 w2 w3 w4 F : Int) (gs : List Giv) (r : Rd) : List Int := if brE w0 w1 w2 w3 w4 F gs r = 0 then lookL (rowsOf w0 w1 w2 w3 w4 (possG w0 w1 w2 w3 w4 F [r] gs)) else []

theorem procL_pre (n : Nat) : ∀ (m j : Nat), ∃ t, procL n (m + j) = procL n m ++ t
  | m, 0 => ⟨[], by simp⟩
  | m, j + 1 => by
    obtain ⟨t, ht⟩ := procL_pre n m j
    rw [← Nat.add_assoc, procL]
    split
    · exact ⟨t ++ [plK (63 - (m + j)) 6], by rw [ht, List.append_assoc]⟩
    · exact ⟨t, ht⟩
theorem allL_pre : ∀ (m j : Nat), ∃ t, allL (m + j) = allL m ++ t
  | m, 0 => ⟨[], by simp⟩
  | m, j + 1 => by
    obtain ⟨t, ht⟩ := allL_pre m j
    exact ⟨t ++ procL (m + j) 64, by rw [← Nat.add_assoc, allL, ht, List.append_assoc]⟩
theorem procL_in (n m : Nat) : ∀ l ∈ procL n m, ∀ i ∈ l, 0 ≤ i ∧ i < 6 := by
  induction m with
  | zero => intro l hl; simp [procL] at hl
  | succ m ih =>
    intro l hl
    rw [procL] at hl
    split at hl
    · rcases List.mem_append.1 hl with h | h
      · exact ih l h
      · simp at h; subst h; exact plK_in _ 6
    · exact ih l hl
theorem find_none_of {p : List Int → Bool} {l : List (List Int)} (h : ∀ x ∈ l, p x = false) : l.find? p = none := by
  rw [List.find?_eq_none]; intro x hx; rw [h x hx]; simp
theorem lookL_none {rs : List Rd} (h : ∀ l ∈ allL 7, settleB rs l = false) : lookL rs = [] := by
  unfold lookL; rw [find_none_of h]; rfl
theorem lookL_some {rs : List Rd} {k m : Nat} {pre : List (List Int × Value)} {x : List Int × Value} (hk : k < 7) (hm : m < 64) (h0 : ∀ l ∈ allL k, settleB rs l = false)
    (hp : (pre ++ [x]).map Prod.fst = procL k (m + 1)) (h1 : ∀ y ∈ pre, settleB rs y.1 = false) (h2 : settleB rs x.1 = true) : lookL rs = x.1 := by
  obtain ⟨t, ht⟩ := allL_pre (k + 1) (6 - k)
  obtain ⟨t', ht'⟩ := procL_pre k (m + 1) (63 - m)
  rw [show k + 1 + (6 - k) = 7 by omega] at ht
  rw [show m + 1 + (63 - m) = 64 by omega] at ht'
  unfold lookL
  rw [ht, allL, ht', ← hp, List.map_append, List.append_assoc, List.append_assoc, List.append_assoc, List.find?_append, find_none_of h0, List.find?_append,
    find_none_of (l := pre.map Prod.fst) (by intro l hl; obtain ⟨y, hy, rfl⟩ := List.mem_map.1 hl; exact h1 y hy)]
  simp [h2]
theorem Is.off {w w' : World} {A : Option Addr} {n : Nat} {l : List Int} (h : Is w A n l) (hs : w.heap.size ≤ w'.heap.size) (hA : ∀ p, A = some p → p.block < w.heap.size → w'.heap[p.block]? = w.heap[p.block]?) : Is w' A n l :=
  ⟨h.len, h.small, fun k hk => by
    obtain ⟨b, o, e, hb, hc⟩ := h.get k hk
    exact ⟨b, o, e, by omega, (World.cell?_of_block (a := ⟨b, o + k, none⟩) (hA ⟨b, o, none⟩ e hb)).trans hc⟩⟩

theorem look_any (w0 w1 w2 w3 w4 F : Int) (A : Option Addr) (n c : Nat) (gs : List Giv) (r : Rd) (w : World) (hg : Gs w A n gs) (hnc : n ≤ c) :
    Calls Try.prog 48 #[.agg #[.int .i64 w0, .int .i64 w1, .int .i64 w2, .int .i64 w3, .int .i64 w4, .int .i64 F, .slice A n c], .agg #[.int .i64 r.r0, .int .i64 r.r1, .int .i64 r.r2, .int .i64 r.r3, .int .i64 r.r4, .int .i64 r.r5]] w fun e w' =>
      ∃ B k c', e = .returned (.tuple #[.slice B k c', .int .i64 (brE w0 w1 w2 w3 w4 F gs r)]) ∧ k ≤ c' ∧ Is w' B k (lookR w0 w1 w2 w3 w4 F gs r) ∧ Below w.heap.size w w' := by
  have Hl : Hid (n = gs.length) := Lib.hid hg.len
  refine (callsIn_wide (n := 9)).1 (callsIn_of_wp_marks Try.func48 rfl trivial ?_ rfl)
  simp only [Try.ntmps48, List.size_toArray, List.length_cons, List.length_nil, Nat.reduceAdd, Nat.reduceSub, Array.replicate_succ, Array.replicate_zero, List.push_toArray, List.append_toArray, List.nil_append, List.cons_append]
  refine wpIn_wide.2 ?_
  go_wp2_with fail
  generalize hW : (World.alloc _ _) = W
  have HW : Hid (Below w.heap.size w W) := Lib.hid (by subst hW; go_grown)
  have hs : w.heap.size + 1 < W.heap.size := by subst hW; simp
  have hs0 : w.heap.size < W.heap.size := by omega
  have cm : ∀ j, W.cell? ⟨w.heap.size, j, none⟩ = [Value.int .i64 w0, .int .i64 w1, .int .i64 w2, .int .i64 w3, .int .i64 w4, .int .i64 F, .slice A n c][j]? := by subst hW; intro j; simp [go_sem]
  have cr : ∀ j, W.cell? ⟨w.heap.size + 1, j, none⟩ = [Value.int .i64 r.r0, .int .i64 r.r1, .int .i64 r.r2, .int .i64 r.r3, .int .i64 r.r4, .int .i64 r.r5][j]? := by subst hW; intro j; simp [go_sem]
  clear hW
  refine wp_scope_straight ?_
  have Hg1 := Lib.hid (hg.keep HW.out)
  go_wp2_with fail
  refine wp_region_grow_tail 4 (by kernel_rfl) (by kernel_rfl) ?_
  simp only [List.take_succ_cons, List.take_zero, List.drop_succ_cons, List.drop_zero]
  repeat (go_big_quiet_step ((first | (go_at_call 20; exact quiet_grow rfl (check_any _ _ _ _ _ _ _ _ _ gs _ (Hg1.out.keep (grow_below _ _)) hnc)) | (go_at_call 18; exact quiet_grow rfl (checkReading_any _ _ _ _ _ _ _)))))
  refine wpQuiet_nil ?_
  intro z
  go_wp2_with fail
  refine Calls.mono (first_any _ _ _ _ _ (is2 _ _ _ _ _ (by simp))) ?_
  rintro e x1 ⟨rfl, rfl⟩
  rw [show firstE [err (okB w0 w1 w2 w3 w4 F gs) 13, err (okR r.r0 r.r1 r.r2 r.r3 r.r4 r.r5) 12] = brE w0 w1 w2 w3 w4 F gs r from rfl]
  generalize hV : World.alloc (grow W z) _ = V
  have HV : Hid (Below W.heap.size W V) := Lib.hid (by subst hV; exact up (grow_below W z) (up_alloc _ _))
  clear hV
  have v1 : w.heap.size + 1 < V.heap.size := by have := HV.out.size; omega
  have v0 : w.heap.size < V.heap.size := by omega
  have cm2 : ∀ j, V.cell? ⟨w.heap.size, j, none⟩ = [Value.int .i64 w0, .int .i64 w1, .int .i64 w2, .int .i64 w3, .int .i64 w4, .int .i64 F, .slice A n c][j]? := fun j => (HV.out.cell (p := ⟨w.heap.size, j, none⟩) hs0).trans (cm j)
  have cr2 : ∀ j, V.cell? ⟨w.heap.size + 1, j, none⟩ = [Value.int .i64 r.r0, .int .i64 r.r1, .int .i64 r.r2, .int .i64 r.r3, .int .i64 r.r4, .int .i64 r.r5][j]? := fun j => (HV.out.cell (p := ⟨w.heap.size + 1, j, none⟩) hs).trans (cr j)
  clear cm cr
  have HgV := Lib.hid (hg.keep (up HW.out HV.out))
  by_cases hE : brE w0 w1 w2 w3 w4 F gs r = 0
  rotate_left
  · have HE := Lib.hid hE
    have hb : (brE w0 w1 w2 w3 w4 F gs r != 0) = true := by simpa using hE
    clear hE
    go_wp2
    refine noGoto_ret (bodyPostM_ret0 (results_tmp2 rfl _ _ _) rfl ⟨none, 0, 0, rfl, Nat.le_refl _, ?_, up HW.out HV.out⟩)
    unfold lookR; rw [if_neg HE.out]; exact ⟨rfl, by omega, fun k hk => by simp at hk⟩
  have HE := Lib.hid hE
  rw [hE]
  have hE1 := hE
  unfold brE at hE1
  have Ob : Hid (okB w0 w1 w2 w3 w4 F gs = true) := Lib.hid (by
    cases h : okB w0 w1 w2 w3 w4 F gs
    · rw [h] at hE1; simp [err, firstE] at hE1
    · rfl)
  clear hE hE1
  have h40 : n ≤ 40 := by have := Hl.out; have := okB_40 Ob.out; omega
  go_wp2_with (go_at_call 93; refine (possibleRows_any _ _ _ _ _ _ _ _ _ gs r _ HgV.out (okB_ok Ob.out) h40).mono ?_; rintro e U0 ⟨v, rfl, hown, hb1⟩; have HU0 := Lib.hid hb1; clear hb1; obtain ⟨B1, c1, rfl, hcp, hrs⟩ := Rs.of_own hown; have HR0 := Lib.hid hrs; clear hrs hown)
  refine wp_label ?_
  go_wp2
  have hNp : (rowsOf w0 w1 w2 w3 w4 (possG w0 w1 w2 w3 w4 F [r] gs)).length = (possG w0 w1 w2 w3 w4 F [r] gs).length := rowsOf_len _ _ _ _ _ _
  generalize hU : World.alloc _ (.cells #[.slice none 0 0] 54) = U
  have HU : Hid (Below V.heap.size V U) := Lib.hid (by subst hU; exact up HU0.out (up (up_alloc _ _) (up_alloc _ _)))
  have HR : Hid (Rs U B1 (possG w0 w1 w2 w3 w4 F [r] gs).length (rowsOf w0 w1 w2 w3 w4 (possG w0 w1 w2 w3 w4 F [r] gs))) := Lib.hid (HR0.out.keep (by subst hU; exact up (up_alloc _ _) (up_alloc _ _)))
  have hUs : U.heap.size = U0.heap.size + 1 + 1 := by subst hU; simp
  have F7 : U.cell? ⟨U0.heap.size, 0, none⟩ = some (.slice B1 (possG w0 w1 w2 w3 w4 F [r] gs).length c1) := by subst hU; simp [go_sem]
  have F8 : U.cell? ⟨U0.heap.size + 1, 0, none⟩ = some (.slice none 0 0) := by subst hU; simp [go_sem]
  have Z8 : U.frozen? ⟨U0.heap.size + 1, 0, none⟩ = false := by subst hU; simp [go_sem]
  have hVU0 : V.heap.size ≤ U0.heap.size := HU0.out.size
  clear hU cm2 cr2 HU0 HR0
  have HLk : Hid (lookR w0 w1 w2 w3 w4 F gs r = lookL (rowsOf w0 w1 w2 w3 w4 (possG w0 w1 w2 w3 w4 F [r] gs))) := Lib.hid (by unfold lookR; rw [if_pos HE.out])
  generalize rowsOf w0 w1 w2 w3 w4 (possG w0 w1 w2 w3 w4 F [r] gs) = rs at *
  generalize (possG w0 w1 w2 w3 w4 F [r] gs).length = pn at *
  have HBw : Hid (Below w.heap.size w V) := Lib.hid (up HW.out HV.out)
  generalize Value.agg #[.int .i64 w0, .int .i64 w1, .int .i64 w2, .int .i64 w3, .int .i64 w4, .int .i64 F, .slice A n c] = BK
  generalize Value.agg #[.int .i64 r.r0, .int .i64 r.r1, .int .i64 r.r2, .int .i64 r.r3, .int .i64 r.r4, .int .i64 r.r5] = RD
  generalize Value.int .i64 (err (okB w0 w1 w2 w3 w4 F gs) 13) = E1
  generalize Value.int .i64 (err (okR r.r0 r.r1 r.r2 r.r3 r.r4 r.r5) 12) = E2
  generalize Value.slice (some ⟨W.heap.size + z.blocks.size, 0, none⟩) 2 2 = S15
  refine (wpIn_wide (n := 9)).1 ?_
  refine wpIn_loop (fun a wr => ∃ (k : Nat) (Ds : List Nat) (t9 t24 t25 t26 t27 t33 : Value), a = { tmps := #[BK, RD, .pointer (some ⟨w.heap.size, 0, none⟩), .pointer (some ⟨w.heap.size + 1, 0, none⟩), .slice none 0 0, .int .i64 0, .int .i64 0, .pointer (some ⟨U0.heap.size, 0, none⟩), .pointer (some ⟨U0.heap.size + 1, 0, none⟩), t9, undef, BK, E1, RD, E2, S15, .int .i64 0, .int .i64 0, .bool false, undef, BK, RD, .slice B1 pn c1, .int .i64 k, t24, t25, t26, t27, undef, undef, undef, undef, undef, t33, undef], defers := Ds.map mkD } ∧ k ≤ 7 ∧ Below U.heap.size U wr ∧ Ds.Nodup ∧ (∀ D ∈ Ds, U.heap.size ≤ D ∧ wr.heap[D]? = some (.deferred (some []))) ∧ (∀ l ∈ allL k, settleB rs l = false)) (fun a _ => (7 - intOf (a.tmps.getD 23 undef)).toNat) ⟨0, [], _, _, _, _, _, _, rfl, by omega, Below.refl _ _, List.nodup_nil, by simp, by simp [allL]⟩ ?_
  rintro a wr ⟨k, Ds, t9, t24, t25, t26, t27, t33, rfl, hk, hbw, hnd, hds, hno⟩
  have Hbw := Lib.hid hbw
  have Hds := Lib.hid hds
  have Hno := Lib.hid hno
  have u7 : U0.heap.size < U.heap.size := by omega
  have u8 : U0.heap.size + 1 < U.heap.size := by omega
  have f8 : wr.cell? ⟨U0.heap.size + 1, 0, none⟩ = some (.slice none 0 0) := (hbw.cell (p := ⟨U0.heap.size + 1, 0, none⟩) u8).trans F8
  have HDw : Hid (∀ D ∈ Ds, D < wr.heap.size) := Lib.hid (fun D hD => (Array.getElem?_eq_some_iff.1 (hds D hD).2).1)
  clear hbw hds hno
  by_cases hlt : k < 7
  rotate_left
  · obtain rfl : k = 7 := by omega
    gi_wp2
    go_wp2
    refine noGoto_ret (bodyPostM_marks Ds rfl hnd (fun D h => (Hds.out D h).2) fun Y hY => ⟨_, results_tmp2 rfl _ _ _, none, 0, 0, by rw [HE.out]; rfl, Nat.le_refl _, ?_, ?_⟩)
    · rw [HLk.out, lookL_none Hno.out]; exact ⟨rfl, by omega, fun k hk => by simp at hk⟩
    · exact hY.below (up HBw.out (up HU.out Hbw.out)) (fun D h => by have := (Hds.out D h).1; omega)
  gi_wp2_with (refine ⟨trivial, (callsIn_wide.2 (listsOf_any k wr)).mono ?_⟩; rintro e x1 ⟨rfl, rfl⟩)
  generalize hX1 : wr.alloc _ = X1
  have x1s : X1.heap.size = wr.heap.size + 1 := by subst hX1; simp
  have HX1 : Hid (Below wr.heap.size wr X1) := Lib.hid (by subst hX1; exact up_alloc _ _)
  have hc1 : X1.cell? ⟨wr.heap.size, 0, none⟩ = some (.int .i64 k) := by subst hX1; simp [go_sem]
  clear hX1
  have Hx1s := Lib.hid x1s
  have hUw : U.heap.size ≤ wr.heap.size := Hbw.out.size
  have HUX : Hid (Below U.heap.size U X1) := Lib.hid (Hbw.out.trans (HX1.out.mono hUw))
  have n1 : wr.heap.size < X1.heap.size := by omega
  have n8 : U0.heap.size + 1 < X1.heap.size := by omega
  have n9 : U.heap.size < X1.heap.size := by omega
  have HUs := Lib.hid hUs
  clear x1s hUs
  refine rangeFunc_law (by omega) (gf := 110) (lb := #[.pointer (some ⟨wr.heap.size, 0, none⟩)]) rfl (enters_of Try.func110 (by kernel_rfl) rfl) (lists_iter k wr.heap.size X1 n1) (Below.refl _ _) (fun _ => rfl)
    (fun pre X => Below X1.heap.size X1 X ∧ ∀ x ∈ pre, settleB rs x.1 = false)
    (fun c pre X => c = .exit 0 ∧ ∃ pre0 x, pre = pre0 ++ [x] ∧ (∀ y ∈ pre0, settleB rs y.1 = false) ∧ settleB rs x.1 = true ∧ Below V.heap.size V X ∧ X.cell? ⟨U0.heap.size + 1, 0, none⟩ = some x.2 ∧ LiesL (X1.heap.size + 2) x X ∧ ∀ D ∈ Ds, X.heap[D]? = some (.deferred (some [])))
    ?_ ?_ ?_ ⟨Below.refl _ _, by simp⟩ ?_ ?_ ?_
  · rintro pre X ⟨h, _⟩
    exact (h.cell (p := ⟨wr.heap.size, 0, none⟩) n1).trans hc1
  · rintro s X Y ⟨h1, h2⟩ hb
    exact ⟨h1.trans hb, h2⟩
  · rintro c s X o ⟨rfl, pre0, x, rfl, h0, h1, h2, h3, ⟨A0, kk, cc, h4, h5, h6, h7⟩, h8⟩
    refine ⟨rfl, pre0, x, rfl, h0, h1, h2.trans (below_putObj X (by have := HU.out.size; omega) o), (cell_putObj X (U0.heap.size + 1) 0 (X1.heap.size + 1) o (by omega)).trans h3, ⟨A0, kk, cc, h4, h5, ?_, h7⟩, fun D hD => ?_⟩
    · refine h6.off (by simp [World.putObj]) fun p hp _ => World.putObj_heap_other ?_
      have := h7 p hp; omega
    · refine (World.putObj_heap_other ?_).trans (h8 D hD)
      have := HDw.out D hD; have := Hx1s.out; omega
  · rintro l pre ⟨xl, xv⟩ X ⟨m, hm, hlen, hsp⟩ ⟨A0, kk, cc, hx2, hkc, his, hfar⟩ ⟨hbx, hno2⟩ hsz
    simp only at hx2
    subst hx2
    have Hin : Hid (∀ i ∈ xl, 0 ≤ i ∧ i < 6) := Lib.hid (procL_in k (m + 1) xl (by rw [← hsp]; simp))
    have Hsp := Lib.hid hsp
    have Hno2 := Lib.hid hno2
    have Hbx := Lib.hid hbx
    have His := Lib.hid his
    have Hfar := Lib.hid hfar
    clear hsp hno2 hbx his hfar
    simp only [encL]
    gi_wp2
    refine ⟨Above.refl _ _, ?_⟩
    intro Y hY1 hY2
    have HXY : Hid (Below X1.heap.size X1 Y) := Lib.hid (Hbx.out.trans hY1)
    have HUY : Hid (Below U.heap.size U Y) := Lib.hid (HUX.out.trans (HXY.out.mono (by omega)))
    have HisY : Hid (Is Y A0 kk xl) := Lib.hid (His.out.off hY2.size fun p hp hlt => hY2.block _ (Hfar.out p hp) hlt)
    have HRY := Lib.hid (HR.out.keep HUY.out)
    have y8 : U0.heap.size + 1 < Y.heap.size := by have := HXY.out.size; omega
    have y7 : U0.heap.size < Y.heap.size := by omega
    have f7 : Y.cell? ⟨U0.heap.size, 0, none⟩ = some (.slice B1 pn c1) := (HUY.out.cell (p := ⟨U0.heap.size, 0, none⟩) u7).trans F7
    have f8' : Y.cell? ⟨U0.heap.size + 1, 0, none⟩ = some (.slice none 0 0) := (HUY.out.cell (p := ⟨U0.heap.size + 1, 0, none⟩) u8).trans F8
    have z8 : Y.frozen? ⟨U0.heap.size + 1, 0, none⟩ = false := (HUY.out.frozen (p := ⟨U0.heap.size + 1, 0, none⟩) u8).trans Z8
    clear hY1 hY2
    cases hst : settleB rs xl
    · have Hst := Lib.hid hst
      clear hst
      gi_wp2_with (refine ⟨trivial, (CallsIn.inRound l (callsIn_wide.2 (settle_any _ _ _ rs _ _ _ xl _ HRY.out hcp HisY.out Hin.out))).mono ?_⟩; rintro e x1 ⟨rfl, hb1⟩; obtain ⟨y, rfl⟩ := below_grow hb1; clear hb1; rw [Hst.out])
      refine ⟨Above.of_below (grow_below Y y), HXY.out.trans ((grow_below Y y).mono (by have := HXY.out.size; omega)), ?_⟩
      rintro a b hm
      rcases List.mem_append.1 hm with hm | hm
      · exact Hno2.out (a, b) hm
      · simp at hm
        obtain ⟨rfl, rfl⟩ := hm
        exact Hst.out
    · have Hst := Lib.hid hst
      clear hst
      gi_wp2_with (refine ⟨trivial, (CallsIn.inRound l (callsIn_wide.2 (settle_any _ _ _ rs _ _ _ xl _ HRY.out hcp HisY.out Hin.out))).mono ?_⟩; rintro e x1 ⟨rfl, hb1⟩; obtain ⟨y, rfl⟩ := below_grow hb1; clear hb1; rw [Hst.out])
      refine ⟨(Above.of_below (grow_below Y y)).trans (Above.setCell _ n8 _), rfl, pre, xl, _, rfl, fun a b hm => Hno2.out (a, b) hm, Hst.out, ?_, World.cell?_setCell_same' _ _ _ ?_, ⟨A0, kk, cc, rfl, hkc, ?_, Hfar.out⟩, fun D hD => ?_⟩
      · exact ((HU.out.trans (HUY.out.mono HU.out.size)).trans ((grow_below Y y).mono (by have := HUY.out.size; have := HU.out.size; omega))).setCell (p := ⟨U0.heap.size + 1, 0, none⟩) (Nat.le_succ_of_le hVU0) _
      · rw [(grow_below Y y).cell (p := ⟨U0.heap.size + 1, 0, none⟩) y8, f8']; rfl
      · exact (HisY.out.keep (grow_below Y y)).off (by simp [World.setCell]) fun p hp _ => Below.heap_setCell _ _ _ _ (by have := Hfar.out p hp; show p.block ≠ U0.heap.size + 1; omega)
      · have e1 := HDw.out D hD
        have e2 := (Hds.out D hD)
        have e3 := Hx1s.out
        have e4 := HXY.out.size
        rw [Below.heap_setCell _ _ _ _ (by show D ≠ U0.heap.size + 1; omega), (grow_below Y y).block D (by omega), HXY.out.block D (by omega), HX1.out.block D e1, e2.2]
  · rintro xs X hS ⟨hbx, hno2⟩ hdef
    have HS := Lib.hid hS
    have Hbx := Lib.hid hbx
    have Hno2 := Lib.hid hno2
    have Hdef := Lib.hid hdef
    clear hS hbx hno2 hdef
    gi_wp2
    refine ⟨⟨k + 1, X1.heap.size :: Ds, _, _, _, _, _, _, rfl, by omega, HUX.out.trans (Hbx.out.mono (by omega)), List.nodup_cons.2 ⟨fun hm => by have := HDw.out _ hm; have := Hx1s.out; omega, hnd⟩, ?_, ?_⟩, by simp [intOf]; omega⟩
    · intro D hD
      rcases List.mem_cons.1 hD with rfl | hD
      · exact ⟨by omega, Hdef.out⟩
      · have e1 := HDw.out D hD
        have e3 := Hx1s.out
        exact ⟨(Hds.out D hD).1, by rw [Hbx.out.block D (by omega), HX1.out.block D e1, (Hds.out D hD).2]⟩
    · intro l hl
      rw [allL] at hl
      rcases List.mem_append.1 hl with hl | hl
      · exact Hno.out l hl
      · rw [← HS.out] at hl
        obtain ⟨y, hy, rfl⟩ := List.mem_map.1 hl
        exact Hno2.out y hy
  · rintro c pre X ⟨m, hm, hlen, hsp⟩ ⟨rfl, pre0, ⟨xl, xv⟩, rfl, h0, h1, h2, h3, ⟨A0, kk, cc, h4, h5, h6, h7⟩, h8⟩ hdef
    simp only at h4
    subst h4
    have Hsp := Lib.hid hsp
    have H0 := Lib.hid h0
    have H1 := Lib.hid h1
    have H2 := Lib.hid h2
    have H6 := Lib.hid h6
    have H7 := Lib.hid h7
    have H8 := Lib.hid h8
    have Hdef := Lib.hid hdef
    clear hsp h0 h1 h2 h6 h7 h8 hdef
    gi_wp2
    go_wp2
    refine noGoto_ret (bodyPostM_marks (X1.heap.size :: Ds) rfl (List.nodup_cons.2 ⟨fun hm => by have := HDw.out _ hm; have := Hx1s.out; omega, hnd⟩) ?_ fun Y hY => ⟨_, results_tmp2 rfl _ _ _, A0, kk, cc, by rw [HE.out]; rfl, h5, ?_, ?_⟩)
    · intro D hD
      rcases List.mem_cons.1 hD with rfl | hD
      · exact Hdef.out
      · exact H8.out D hD
    · rw [HLk.out, lookL_some hlt hm Hno.out Hsp.out H0.out H1.out]
      refine H6.out.off (Nat.le_of_eq hY.size.symm) fun p hp _ => hY.block _ fun hD => ?_
      have e1 := H7.out p hp
      rcases List.mem_cons.1 hD with hD | hD
      · omega
      · have := HDw.out _ hD; have := Hx1s.out; omega
    · refine hY.below (up HBw.out H2.out) fun D hD => ?_
      have e5 := HBw.out.size
      have e6 := HU.out.size
      rcases List.mem_cons.1 hD with hD | hD
      · omega
      · have := (Hds.out D hD).1; omega
end Go.Proofs.Ytpahbpgkmebieaa
