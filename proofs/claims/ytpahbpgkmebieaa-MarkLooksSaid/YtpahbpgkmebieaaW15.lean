/- Whether a mark is possible; the marks that are possible for readings. Own text. -/
import Derived.Test.YtpahbpgkmebieaaW14
namespace Go.Proofs.Ytpahbpgkmebieaa
open Go.RowKit
set_option maxHeartbeats 400000
set_option maxRecDepth 100000

theorem possible_any (w0 w1 w2 w3 w4 F m0 m1 m2 m3 m4 m5 r0 r1 r2 r3 r4 r5 : Int) (S : Value) (w : World) (hm0 : 0 ≤ m0) (km0 : m0 < 5) (hm1 : 0 ≤ m1) (km1 : m1 < 5) (hm2 : 0 ≤ m2) (km2 : m2 < 5) (hm3 : 0 ≤ m3) (km3 : m3 < 5) (hm4 : 0 ≤ m4) (km4 : m4 < 5) (hm5 : 0 ≤ m5) (km5 : m5 < 5) :
    Calls Try.prog 80 #[.agg #[.int .i64 w0, .int .i64 w1, .int .i64 w2, .int .i64 w3, .int .i64 w4, .int .i64 F, S], .agg #[.int .i64 m0, .int .i64 m1, .int .i64 m2, .int .i64 m3, .int .i64 m4, .int .i64 m5], .agg #[.int .i64 r0, .int .i64 r1, .int .i64 r2, .int .i64 r3, .int .i64 r4, .int .i64 r5]] w fun e w' => e = .returned (.bool (decide (wcost w0 w1 w2 w3 w4 m0 m1 m2 m3 m4 m5 r0 r1 r2 r3 r4 r5 ≤ F))) ∧ Below w.heap.size w w' := by
  go_enter Try.func80, Try.ntmps80
  go_wp2
  refine wp_region_grow (by kernel_rfl) (by kernel_rfl) ?_
  repeat (go_big_quiet_step ((first | (go_at_call 77; exact quiet_grow rfl (wornRow_any _ _ _ _ _ _ _ _ _ _ _ _ (by assumption) (by assumption) (by assumption) (by assumption) (by assumption) (by assumption) (by assumption) (by assumption) (by assumption) (by assumption) (by assumption) (by assumption))) | (go_at_call 78; exact quiet_grow rfl (seenRow_any _ _ _ _ _ _ _)) | (go_at_call 76; exact quiet_grow rfl (false_any _ _ _ _ _ _ _ _ _ _ _ _ _)))))
  refine wpQuiet_nil ?_
  intro z
  go_wp2
  go_ret
  exact ⟨rfl, (show Below w.heap.size w _ by go_grown).trans ((grow_below _ z).mono (by simp; omega))⟩

/-- A reading. -/
structure Rd where
  r0 : Int
  r1 : Int
  r2 : Int
  r3 : Int
  r4 : Int
  r5 : Int
structure RdAt (w : World) (b o : Nat) (g : Rd) : Prop where
  c0 : w.cell? ⟨b, o, none⟩ = some (.int .i64 g.r0)
  c1 : w.cell? ⟨b, o + 1, none⟩ = some (.int .i64 g.r1)
  c2 : w.cell? ⟨b, o + 2, none⟩ = some (.int .i64 g.r2)
  c3 : w.cell? ⟨b, o + 3, none⟩ = some (.int .i64 g.r3)
  c4 : w.cell? ⟨b, o + 4, none⟩ = some (.int .i64 g.r4)
  c5 : w.cell? ⟨b, o + 5, none⟩ = some (.int .i64 g.r5)
/-- A slice holds these rows of six. -/
structure Rs (w : World) (A : Option Addr) (n : Nat) (rs : List Rd) : Prop where
  len : n = rs.length
  small : n ≤ 9223372036854775807
  get : ∀ k (h : k < rs.length), ∃ b o, A = some ⟨b, o, none⟩ ∧ b < w.heap.size ∧ RdAt w b (o + k * 6) rs[k]
theorem RdAt.keep {w w' : World} {b o : Nat} {g : Rd} (h : RdAt w b o g) (hb : ∀ j, w'.cell? ⟨b, j, none⟩ = w.cell? ⟨b, j, none⟩) : RdAt w' b o g :=
  ⟨(hb _).trans h.c0, (hb _).trans h.c1, (hb _).trans h.c2, (hb _).trans h.c3, (hb _).trans h.c4, (hb _).trans h.c5⟩
theorem Rs.keep {w w' : World} {A : Option Addr} {n : Nat} {gs : List Rd} (h : Rs w A n gs) (hb : Below w.heap.size w w') : Rs w' A n gs :=
  ⟨h.len, h.small, fun k hk => by
    obtain ⟨b, o, e, hlt, hg⟩ := h.get k hk
    exact ⟨b, o, e, by have := hb.size; omega, hg.keep fun j => hb.cell (p := ⟨b, j, none⟩) hlt⟩⟩

/-- Cells of given marks in a row. -/
def gcells : List Giv → List Value
  | [] => []
  | g :: r => [.int .i64 g.o, .int .i64 g.m0, .int .i64 g.m1, .int .i64 g.m2, .int .i64 g.m3, .int .i64 g.m4, .int .i64 g.m5] ++ gcells r
theorem gcells_snoc (l : List Giv) (g : Giv) : gcells (l ++ [g]) = gcells l ++ [.int .i64 g.o, .int .i64 g.m0, .int .i64 g.m1, .int .i64 g.m2, .int .i64 g.m3, .int .i64 g.m4, .int .i64 g.m5] := by
  induction l with
  | nil => rfl
  | cons x r ih => simp [gcells, ih]
theorem gcells_len (l : List Giv) : (gcells l).length = l.length * 7 := by
  induction l with
  | nil => rfl
  | cons x r ih => simp [gcells, ih]; omega
theorem gcells_at : ∀ (l : List Giv) (k : Nat) (h : k < l.length), (gcells l)[k * 7]? = some (.int .i64 l[k].o) ∧ (gcells l)[k * 7 + 1]? = some (.int .i64 l[k].m0) ∧ (gcells l)[k * 7 + 2]? = some (.int .i64 l[k].m1) ∧ (gcells l)[k * 7 + 3]? = some (.int .i64 l[k].m2) ∧ (gcells l)[k * 7 + 4]? = some (.int .i64 l[k].m3) ∧ (gcells l)[k * 7 + 5]? = some (.int .i64 l[k].m4) ∧ (gcells l)[k * 7 + 6]? = some (.int .i64 l[k].m5)
  | [], k, h => by simp at h
  | g :: r, 0, h => by simp [gcells]
  | g :: r, k + 1, h => by
    have := gcells_at r k (by simpa using h)
    have e : ∀ j, (gcells (g :: r))[(k + 1) * 7 + j]? = (gcells r)[k * 7 + j]? := fun j => by
      simp only [gcells]
      rw [List.getElem?_append_right (by simp; omega)]
      congr 1; simp; omega
    have e0 := e 0
    simp only [Nat.add_zero] at e0
    rw [e0, e, e, e, e, e, e]; simpa using this
theorem Gs.of_own {w : World} {base n : Nat} {v : Value} {l : List Giv} (h : w.ownsRow base 30 7 v n (gcells l)) : ∃ A c, v = .slice A n c ∧ n ≤ c ∧ n = l.length ∧ (n < 9223372036854775807 → Gs w A n l) := by
  have hl : n = l.length := by have := h.1; rw [gcells_len] at this; omega
  rcases h.2 with ⟨rfl, rfl⟩ | ⟨g, cap, cur, rfl, _, hg, hnc, hcm, hcs, htk⟩
  · exact ⟨none, 0, rfl, Nat.le_refl _, hl, fun _ => ⟨hl, by omega, fun k hk => by omega⟩⟩
  · refine ⟨some ⟨g, 0, none⟩, cap, rfl, hnc, hl, fun hsm => ⟨hl, hsm, fun k hk => ⟨g, 0, rfl, (Array.getElem?_eq_some_iff.1 hg).1, ?_⟩⟩⟩
    have ha := gcells_at l k hk
    have key : ∀ j u, (gcells l)[j]? = some u → w.cell? ⟨g, j, none⟩ = some u := fun j u hu => by
      have := h.cells (g := g) rfl j u hu
      rw [Addr.add_lit] at this; simpa using this
    rw [Nat.zero_add]
    exact ⟨key _ _ ha.1, key _ _ ha.2.1, key _ _ ha.2.2.1, key _ _ ha.2.2.2.1, key _ _ ha.2.2.2.2.1, key _ _ ha.2.2.2.2.2.1, key _ _ ha.2.2.2.2.2.2⟩

theorem info30 : (Try.prog.info? 30).map (fun i => (i.zero, i.size, i.bytes)) = some (some (.agg #[.int .i64 0, .int .i64 0, .int .i64 0, .int .i64 0, .int .i64 0, .int .i64 0, .int .i64 0]), 7, 56) := by kernel_rfl

/-- Is a given mark possible for all readings? -/
def possR (w0 w1 w2 w3 w4 F : Int) (g : Giv) (r : Rd) : Bool := decide (wcost w0 w1 w2 w3 w4 g.m0 g.m1 g.m2 g.m3 g.m4 g.m5 r.r0 r.r1 r.r2 r.r3 r.r4 r.r5 ≤ F)
def possAll (w0 w1 w2 w3 w4 F : Int) (rs : List Rd) (g : Giv) : Bool := rs.all (possR w0 w1 w2 w3 w4 F g)
/-- The marks that are possible for all. -/
def possG (w0 w1 w2 w3 w4 F : Int) (rs : List Rd) : List Giv → List Giv
  | [] => []
  | g :: r => if possAll w0 w1 w2 w3 w4 F rs g = true then g :: possG w0 w1 w2 w3 w4 F rs r else possG w0 w1 w2 w3 w4 F rs r
theorem possG_yes {w0 w1 w2 w3 w4 F : Int} {rs : List Rd} {l : List Giv} {g : Giv} (h : possAll w0 w1 w2 w3 w4 F rs g = true) : possG w0 w1 w2 w3 w4 F rs (l ++ [g]) = possG w0 w1 w2 w3 w4 F rs l ++ [g] := by
  induction l with
  | nil => simp [possG, h]
  | cons x r ih => simp only [List.cons_append, possG, ih]; split <;> rfl
theorem possG_no {w0 w1 w2 w3 w4 F : Int} {rs : List Rd} {l : List Giv} {g : Giv} (h : possAll w0 w1 w2 w3 w4 F rs g = false) : possG w0 w1 w2 w3 w4 F rs (l ++ [g]) = possG w0 w1 w2 w3 w4 F rs l := by
  induction l with
  | nil => simp [possG, h]
  | cons x r ih => simp only [List.cons_append, possG, ih]
theorem possG_len (w0 w1 w2 w3 w4 F : Int) (rs : List Rd) (l : List Giv) : (possG w0 w1 w2 w3 w4 F rs l).length ≤ l.length := by
  induction l with
  | nil => exact Nat.le_refl _
  | cons x r ih => simp only [possG]; split <;> simp <;> omega

theorem own_below {w w' : World} {base : Nat} {e : TypeId} {size n : Nat} {v : Value} {xs : List Value} (h : w.ownsRow base e size v n xs) (hb : Below w.heap.size w w') : w'.ownsRow base e size v n xs :=
  h.kept (row := none) ⟨hb.os, hb.tape, hb.output, hb.size, fun k hk _ => hb.block k hk⟩ (by cases hv : v.ownBlock <;> simp)
theorem own_mono {w : World} {base base' : Nat} {e : TypeId} {size n : Nat} {v : Value} {xs : List Value} (h : w.ownsRow base e size v n xs) (hb : base' ≤ base) : w.ownsRow base' e size v n xs := by
  refine ⟨h.1, ?_⟩
  rcases h.2 with h2 | ⟨g, cap, cur, hv, hg, r⟩
  · exact .inl h2
  · exact .inr ⟨g, cap, cur, hv, Nat.le_trans hb hg, r⟩

theorem possibleMarks_any (w0 w1 w2 w3 w4 F : Int) (A : Option Addr) (n c : Nat) (gs : List Giv) (B : Option Addr) (n' c' : Nat) (rs : List Rd) (w : World) (hg : Gs w A n gs) (hr : Rs w B n' rs) (hok : ∀ g ∈ gs, g.ok) (h40 : n ≤ 40) :
    Calls Try.prog 85 #[.agg #[.int .i64 w0, .int .i64 w1, .int .i64 w2, .int .i64 w3, .int .i64 w4, .int .i64 F, .slice A n c], .slice B n' c'] w fun e w' => ∃ v, e = .returned v ∧ w'.ownsRow w.heap.size 30 7 v (possG w0 w1 w2 w3 w4 F rs gs).length (gcells (possG w0 w1 w2 w3 w4 F rs gs)) ∧ Below w.heap.size w w' := by
  have hn' := hr.small
  have Hl : Hid (n = gs.length) := Lib.hid hg.len
  have Hl' : Hid (n' = rs.length) := Lib.hid hr.len
  have Hok := Lib.hid hok
  clear hok
  obtain ⟨i0, hi, hz0, hz1, hz2⟩ := info_parts info30
  have HI := Lib.hid hi
  have HZ0 := Lib.hid hz0
  have HZ1 := Lib.hid hz1
  have HZ2 := Lib.hid hz2
  clear hi hz0 hz1 hz2
  go_enter Try.func85, Try.ntmps85
  go_wp2
  generalize hW : (World.alloc _ _) = W
  have HW : Hid (Below w.heap.size w W) := Lib.hid (by subst hW; go_grown)
  have hs : w.heap.size < W.heap.size := by subst hW; simp
  have cm : ∀ j, W.cell? ⟨w.heap.size, j, none⟩ = [Value.int .i64 w0, .int .i64 w1, .int .i64 w2, .int .i64 w3, .int .i64 w4, .int .i64 F, .slice A n c][j]? := by subst hW; intro j; simp [go_sem]
  clear hW
  go_step3
  go_wp2
  go_step3
  go_wp2
  have Hg1 := Lib.hid (hg.keep HW.out)
  have Hr1 := Lib.hid (hr.keep HW.out)
  go_loopw [5, 13] (fun v i wr => ∃ (k : Nat) (z : Gr), k ≤ n ∧ i = .int .i64 k ∧ wr = grow W z ∧ (grow W z).ownsRow W.heap.size 30 7 v (possG w0 w1 w2 w3 w4 F rs (gs.take k)).length (gcells (possG w0 w1 w2 w3 w4 F rs (gs.take k)))) (fun _ i _ => n - (intOf i).toNat)
  case atStart => exact ⟨0, ⟨#[], W.drawn⟩, by omega, rfl, by simp [grow], World.ownsRow_nil _ _ _ _⟩
  case round =>
    obtain ⟨k, z, hk, rfl, rfl, hown⟩ := hrel
    have Hown := Lib.hid hown; clear hown
    have e1 : w.heap.size < W.heap.size + z.blocks.size := by omega
    have e3 : w.heap.size < W.heap.size + z.blocks.size + 1 := by omega
    by_cases hlt : k < n
    rotate_left
    · obtain rfl : k = n := by omega
      go_wp2
      try rw [Exit.noGoto_ret]
      go_ret
      refine ⟨_, rfl, ?_, up HW.out (grow_below W z)⟩
      have := Hown.out
      rw [List.take_of_length_le (by rw [← Hl.out]; exact Nat.le_refl _)] at this
      exact own_mono this (by omega)
    have hkl : k < gs.length := by rw [← Hl.out]; exact hlt
    have Htk : Hid (gs.take (k + 1) = gs.take k ++ [gs[k]]) := Lib.hid (List.take_succ_eq_append_getElem hkl)
    have hlen := possG_len w0 w1 w2 w3 w4 F rs (gs.take k)
    have hlen2 : (gs.take k).length ≤ k := by simp; omega
    obtain ⟨b, o, rfl, hb, hc⟩ := Hg1.out.get k hkl
    obtain ⟨c0, c1, c2, c3, c4, c5, c6⟩ := hc
    obtain ⟨⟨p0, q0⟩, ⟨p1, q1⟩, ⟨p2, q2⟩, ⟨p3, q3⟩, ⟨p4, q4⟩, ⟨p5, q5⟩⟩ := Hok.out _ (List.getElem_mem hkl)
    generalize gs[k] = g at *
    generalize hX : possG w0 w1 w2 w3 w4 F rs (gs.take k) = X at *
    generalize hnX : X.length = nX at *
    have HX := Lib.hid hX
    have HnX := Lib.hid hnX
    clear hX hnX
    have e5 : b < W.heap.size + z.blocks.size := by omega
    go_wp2
    generalize hV : World.alloc (grow W z) _ = V
    have HV : Hid (Below W.heap.size W V) := Lib.hid (by subst hV; exact up (grow_below W z) (up_alloc _ _))
    have HVz : Hid (Below (grow W z).heap.size (grow W z) V) := Lib.hid (by subst hV; exact up_alloc _ _)
    have v1 : w.heap.size < V.heap.size := by subst hV; simp; omega
    have v2 : W.heap.size + z.blocks.size < V.heap.size := by subst hV; simp
    have cv : ∀ j, V.cell? ⟨w.heap.size, j, none⟩ = [Value.int .i64 w0, .int .i64 w1, .int .i64 w2, .int .i64 w3, .int .i64 w4, .int .i64 F, .slice (some ⟨b, o, none⟩) n c][j]? := by
      intro j; rw [← cm j]; exact HV.out.cell (p := ⟨w.heap.size, j, none⟩) hs
    have cg : ∀ j, V.cell? ⟨W.heap.size + z.blocks.size, j, none⟩ = [Value.int .i64 g.o, .int .i64 g.m0, .int .i64 g.m1, .int .i64 g.m2, .int .i64 g.m3, .int .i64 g.m4, .int .i64 g.m5][j]? := by
      subst hV; intro j
      rw [World.cell?_alloc_at _ _ _ _ (by simp)]; simp
    have HR := Lib.hid (Hr1.out.keep HV.out)
    clear hV c0 c1 c2 c3 c4 c5 c6
    go_loopw [19] (fun j wr => ∃ (q : Nat) (y : Gr), q ≤ n' ∧ j = .int .i64 q ∧ wr = grow V y ∧ possAll w0 w1 w2 w3 w4 F (rs.take q) g = true) (fun j _ => n' - (intOf j).toNat)
    case atStart => exact ⟨0, ⟨#[], V.drawn⟩, by omega, rfl, by simp [grow], rfl⟩
    case round =>
      obtain ⟨q, y, hq, rfl, rfl, hpa⟩ := hrel
      have Hpa := Lib.hid hpa; clear hpa
      have f1 : w.heap.size < V.heap.size + y.blocks.size := by omega
      have f2 : w.heap.size < V.heap.size + y.blocks.size + 1 := by omega
      have f3 : W.heap.size + z.blocks.size < V.heap.size + y.blocks.size := by omega
      have f4 : W.heap.size + z.blocks.size < V.heap.size + y.blocks.size + 1 := by omega
      by_cases hqn : q < n'
      · have hql : q < rs.length := by rw [← Hl'.out]; exact hqn
        have Hsn : Hid (rs.take (q + 1) = rs.take q ++ [rs[q]]) := Lib.hid (List.take_succ_eq_append_getElem hql)
        have Hall : Hid (possR w0 w1 w2 w3 w4 F g rs[q] = false → possAll w0 w1 w2 w3 w4 F rs g = false) := Lib.hid (fun h => by
          unfold possAll; rw [List.all_eq_false]; exact ⟨rs[q], List.getElem_mem hql, by rw [h]; simp⟩)
        obtain ⟨b', o', rfl, hb', hc'⟩ := HR.out.get q hql
        obtain ⟨d0, d1, d2, d3, d4, d5⟩ := hc'
        generalize rs[q] = r at *
        have f5 : b' < V.heap.size + y.blocks.size := by omega
        cases hp : possR w0 w1 w2 w3 w4 F g r
        · have Hd : Hid (decide (wcost w0 w1 w2 w3 w4 g.m0 g.m1 g.m2 g.m3 g.m4 g.m5 r.r0 r.r1 r.r2 r.r3 r.r4 r.r5 ≤ F) = false) := Lib.hid hp
          have Hp := Lib.hid hp
          clear hp
          go_wp2_with (go_at_call 80; refine (possible_any _ _ _ _ _ _ _ _ _ _ _ _ _ _ _ _ _ _ _ _ (by assumption) (by assumption) (by assumption) (by assumption) (by assumption) (by assumption) (by assumption) (by assumption) (by assumption) (by assumption) (by assumption) (by assumption) ).mono ?_; rintro e x1 ⟨rfl, hb1⟩; rw [Hd.out])
          obtain ⟨y2, hy2⟩ := below_grow (up HV.out (up (grow_below V y) (up (up_alloc _ _) hb1)))
          have Hy2 := Lib.hid hy2
          refine ⟨⟨k + 1, y2, by omega, by go_num, hy2, ?_⟩, by simp [intOf]; omega⟩
          rw [← hy2]
          have ho := own_below (own_below Hown.out HVz.out) (up (grow_below V y) (up (up_alloc _ _) hb1))
          rw [Htk.out, possG_no (Hall.out Hp.out)]
          rw [HX.out, HnX.out]
          exact ho
        · have Hd : Hid (decide (wcost w0 w1 w2 w3 w4 g.m0 g.m1 g.m2 g.m3 g.m4 g.m5 r.r0 r.r1 r.r2 r.r3 r.r4 r.r5 ≤ F) = true) := Lib.hid hp
          have Hp := Lib.hid hp
          clear hp
          go_wp2_with (go_at_call 80; refine (possible_any _ _ _ _ _ _ _ _ _ _ _ _ _ _ _ _ _ _ _ _ (by assumption) (by assumption) (by assumption) (by assumption) (by assumption) (by assumption) (by assumption) (by assumption) (by assumption) (by assumption) (by assumption) (by assumption) ).mono ?_; rintro e x1 ⟨rfl, hb1⟩; rw [Hd.out])
          obtain ⟨y2, hy2⟩ := below_grow (up (grow_below V y) (up (up_alloc _ _) hb1))
          refine ⟨⟨q + 1, y2, by omega, by go_num, hy2, ?_⟩, by simp [intOf]; omega⟩
          rw [Hsn.out]; unfold possAll; rw [List.all_append, show (rs.take q).all (possR w0 w1 w2 w3 w4 F g) = true from Hpa.out]; simp [Hp.out]
      · obtain rfl : q = n' := by omega
        have Hpy : Hid (possAll w0 w1 w2 w3 w4 F rs g = true) := Lib.hid (by have := Hpa.out; rw [List.take_of_length_le (by rw [← Hl'.out]; exact Nat.le_refl _)] at this; exact this)
        have ho := own_below (own_below Hown.out HVz.out) (grow_below V y)
        have Ho := Lib.hid ho
        clear ho
        go_wp2_with (at_builtin; refine wpList_append_own _ rfl _ _ 24 rfl W.heap.size 30 i0 (.agg #[.int .i64 0, .int .i64 0, .int .i64 0, .int .i64 0, .int .i64 0, .int .i64 0, .int .i64 0]) 7 56 Try.underlying24 HI.out HZ0.out HZ1.out HZ2.out rfl (by decide) _ _ _ rfl (Ho.out.alloc _) ⟨V.heap.size + y.blocks.size, 0, none⟩ 1 1 [.int .i64 g.o, .int .i64 g.m0, .int .i64 g.m1, .int .i64 g.m2, .int .i64 g.m3, .int .i64 g.m4, .int .i64 g.m5] rfl rfl ?c1 ?c2 ?c3 ?c4 ?c5 ?_)
        case c1 =>
          intro j u hu
          rw [Addr.add_lit, World.cell?_alloc_at _ _ _ _ (by simp), Nat.zero_add]
          simpa using hu
        case c2 => intro u hu; simp at hu; rcases hu with rfl | rfl | rfl | rfl | rfl | rfl | rfl <;> rfl
        case c3 => unfold maxLen; omega
        case c4 => omega
        case c5 => simp; omega
        intro v' w' hown' hgr _
        have hbel : Below W.heap.size W w' := (up HV.out (up (grow_below V y) (up_alloc _ _))).grown hgr (by have := HV.out.size; simp; omega) (fun q hq => (Ho.out.lt q hq).1)
        have Hown' := Lib.hid hown'
        clear hown' hgr
        obtain ⟨y3, rfl⟩ := below_grow hbel
        go_wp2
        refine ⟨⟨k + 1, y3, by omega, by go_num, rfl, ?_⟩, by simp [intOf]; omega⟩
        rw [Htk.out, possG_yes Hpy.out, HX.out, gcells_snoc, List.length_append, HnX.out]
        exact Hown'.out
end Go.Proofs.Ytpahbpgkmebieaa
