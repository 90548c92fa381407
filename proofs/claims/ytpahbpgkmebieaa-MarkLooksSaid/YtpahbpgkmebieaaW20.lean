/- The rows of the marks that are possible. Own text. -/
import Derived.Test.YtpahbpgkmebieaaW18
namespace Go.Proofs.Ytpahbpgkmebieaa
open Go.RowKit
set_option maxHeartbeats 400000
set_option maxRecDepth 100000

/-- Cells of rows. -/
def rcells : List Rd → List Value
  | [] => []
  | g :: r => [.int .i64 g.r0, .int .i64 g.r1, .int .i64 g.r2, .int .i64 g.r3, .int .i64 g.r4, .int .i64 g.r5] ++ rcells r
theorem rcells_snoc (l : List Rd) (g : Rd) : rcells (l ++ [g]) = rcells l ++ [.int .i64 g.r0, .int .i64 g.r1, .int .i64 g.r2, .int .i64 g.r3, .int .i64 g.r4, .int .i64 g.r5] := by
  induction l with
  | nil => rfl
  | cons x r ih => simp [rcells, ih]
theorem rcells_len (l : List Rd) : (rcells l).length = l.length * 6 := by
  induction l with
  | nil => rfl
  | cons x r ih => simp [rcells, ih]; omega
theorem rcells_at : ∀ (l : List Rd) (k : Nat) (h : k < l.length), (rcells l)[k * 6]? = some (.int .i64 l[k].r0) ∧ (rcells l)[k * 6 + 1]? = some (.int .i64 l[k].r1) ∧ (rcells l)[k * 6 + 2]? = some (.int .i64 l[k].r2) ∧ (rcells l)[k * 6 + 3]? = some (.int .i64 l[k].r3) ∧ (rcells l)[k * 6 + 4]? = some (.int .i64 l[k].r4) ∧ (rcells l)[k * 6 + 5]? = some (.int .i64 l[k].r5)
  | [], k, h => by simp at h
  | g :: r, 0, h => by simp [rcells]
  | g :: r, k + 1, h => by
    have := rcells_at r k (by simpa using h)
    have e : ∀ j, (rcells (g :: r))[(k + 1) * 6 + j]? = (rcells r)[k * 6 + j]? := fun j => by
      simp only [rcells]
      rw [List.getElem?_append_right (by simp; omega)]
      congr 1; simp; omega
    have e0 := e 0
    simp only [Nat.add_zero] at e0
    rw [e0, e, e, e, e, e]; simpa using this
theorem Rs.of_own {w : World} {base n : Nat} {v : Value} {t : TypeId} {l : List Rd} (h : w.ownsRow base t 6 v n (rcells l)) : ∃ A c, v = .slice A n c ∧ n ≤ c ∧ Rs w A n l := by
  have hl : n = l.length := by have := h.1; rw [rcells_len] at this; omega
  rcases h.2 with ⟨rfl, rfl⟩ | ⟨g, cap, cur, rfl, _, hg, hnc, hcm, hcs, htk⟩
  · exact ⟨none, 0, rfl, Nat.le_refl _, hl, by omega, fun k hk => by omega⟩
  · refine ⟨some ⟨g, 0, none⟩, cap, rfl, hnc, hl, by unfold maxLen at hcm; omega, fun k hk => ⟨g, 0, rfl, (Array.getElem?_eq_some_iff.1 hg).1, ?_⟩⟩
    have ha := rcells_at l k hk
    have key : ∀ j u, (rcells l)[j]? = some u → w.cell? ⟨g, j, none⟩ = some u := fun j u hu => by
      have := h.cells (g := g) rfl j u hu
      rw [Addr.add_lit] at this; simpa using this
    rw [Nat.zero_add]
    exact ⟨key _ _ ha.1, key _ _ ha.2.1, key _ _ ha.2.2.1, key _ _ ha.2.2.2.1, key _ _ ha.2.2.2.2.1, key _ _ ha.2.2.2.2.2⟩

theorem info98 : (Try.prog.info? 98).map (fun i => (i.zero, i.size, i.bytes)) = some (some (.agg #[.int .i64 0, .int .i64 0, .int .i64 0, .int .i64 0, .int .i64 0, .int .i64 0]), 6, 48) := by kernel_rfl

/-- The worn signs of a given mark. -/
def rowOf (w0 w1 w2 w3 w4 : Int) (g : Giv) : Rd := ⟨g5 w0 w1 w2 w3 w4 g.m0, g5 w0 w1 w2 w3 w4 g.m1, g5 w0 w1 w2 w3 w4 g.m2, g5 w0 w1 w2 w3 w4 g.m3, g5 w0 w1 w2 w3 w4 g.m4, g5 w0 w1 w2 w3 w4 g.m5⟩
theorem possG_sub {w0 w1 w2 w3 w4 F : Int} {rs : List Rd} {l : List Giv} : ∀ g ∈ possG w0 w1 w2 w3 w4 F rs l, g ∈ l := by
  induction l with
  | nil => intro g h; simp [possG] at h
  | cons x r ih =>
    intro g h
    simp only [possG] at h
    split at h
    · rcases List.mem_cons.1 h with rfl | h
      · exact List.mem_cons_self ..
      · exact List.mem_cons_of_mem _ (ih g h)
    · exact List.mem_cons_of_mem _ (ih g h)
def rowsOf (w0 w1 w2 w3 w4 : Int) (l : List Giv) : List Rd := l.map (rowOf w0 w1 w2 w3 w4)
theorem rowsOf_snoc (w0 w1 w2 w3 w4 : Int) (l : List Giv) (g : Giv) : rowsOf w0 w1 w2 w3 w4 (l ++ [g]) = rowsOf w0 w1 w2 w3 w4 l ++ [rowOf w0 w1 w2 w3 w4 g] := by simp [rowsOf]
theorem rowsOf_len (w0 w1 w2 w3 w4 : Int) (l : List Giv) : (rowsOf w0 w1 w2 w3 w4 l).length = l.length := by simp [rowsOf]

theorem possibleRows_any (w0 w1 w2 w3 w4 F : Int) (A : Option Addr) (n c : Nat) (gs : List Giv) (r : Rd) (w : World) (hg : Gs w A n gs) (hok : ∀ g ∈ gs, g.ok) (h40 : n ≤ 40) :
    Calls Try.prog 93 #[.agg #[.int .i64 w0, .int .i64 w1, .int .i64 w2, .int .i64 w3, .int .i64 w4, .int .i64 F, .slice A n c], .agg #[.int .i64 r.r0, .int .i64 r.r1, .int .i64 r.r2, .int .i64 r.r3, .int .i64 r.r4, .int .i64 r.r5]] w fun e w' =>
      ∃ v, e = .returned v ∧ w'.ownsRow w.heap.size 98 6 v (possG w0 w1 w2 w3 w4 F [r] gs).length (rcells (rowsOf w0 w1 w2 w3 w4 (possG w0 w1 w2 w3 w4 F [r] gs))) ∧ Below w.heap.size w w' := by
  have Hl : Hid (n = gs.length) := Lib.hid hg.len
  have hpl : (possG w0 w1 w2 w3 w4 F [r] gs).length ≤ 40 := Nat.le_trans (possG_len w0 w1 w2 w3 w4 F [r] gs) (by have := Hl.out; omega)
  have HK : Hid (∀ g ∈ possG w0 w1 w2 w3 w4 F [r] gs, g.ok) := Lib.hid (fun g h => hok g (possG_sub g h))
  have Hok := Lib.hid hok
  clear hok
  obtain ⟨i0, hi, hz0, hz1, hz2⟩ := info_parts info98
  have HI := Lib.hid hi
  have HZ0 := Lib.hid hz0
  have HZ1 := Lib.hid hz1
  have HZ2 := Lib.hid hz2
  clear hi hz0 hz1 hz2
  go_enter Try.func93, Try.ntmps93
  go_wp2_with fail
  refine Calls.mono (possibleMarks_any _ _ _ _ _ _ _ _ _ gs _ _ _ [r] _ (hg.keep (up (up_alloc _ _) (up (up_alloc _ _) (up_alloc _ _)))) (rs1 _ r _ _ (by simp)) Hok.out h40) ?_
  rintro e W ⟨v, rfl, hown, hb1⟩
  have HW : Hid (Below w.heap.size w W) := Lib.hid (up (up_alloc _ _) (up (up_alloc _ _) (up (up_alloc _ _) hb1)))
  have hs : w.heap.size + 2 < W.heap.size := by have := hb1.size; simp at this; omega
  have hs0 : w.heap.size < W.heap.size := by omega
  have cm : ∀ j, W.cell? ⟨w.heap.size, j, none⟩ = [Value.int .i64 w0, .int .i64 w1, .int .i64 w2, .int .i64 w3, .int .i64 w4, .int .i64 F, .slice A n c][j]? := fun j =>
    (hb1.cell (p := ⟨w.heap.size, j, none⟩) (by simp; omega)).trans (by simp [go_sem])
  clear hb1
  obtain ⟨A', c', rfl, _, _, hgs⟩ := Gs.of_own hown
  have HG := Lib.hid (hgs (by omega))
  clear hgs hown
  generalize hP : possG w0 w1 w2 w3 w4 F [r] gs = P at *
  have HP := Lib.hid hP
  clear hP
  generalize hnP : P.length = nP at *
  have HnP := Lib.hid hnP
  clear hnP
  go_wp2
  go_loopw [5, 13] (fun v i wr => ∃ (k : Nat) (z : Gr), k ≤ nP ∧ i = .int .i64 k ∧ wr = grow W z ∧ (grow W z).ownsRow W.heap.size 98 6 v k (rcells (rowsOf w0 w1 w2 w3 w4 (P.take k)))) (fun _ i _ => nP - (intOf i).toNat)
  case atStart => exact ⟨0, ⟨#[], W.drawn⟩, by omega, rfl, by simp [grow], World.ownsRow_nil _ _ _ _⟩
  case round =>
    obtain ⟨k, z, hk, rfl, rfl, hown⟩ := hrel
    have Hown := Lib.hid hown; clear hown
    have e1 : w.heap.size < W.heap.size + z.blocks.size := by omega
    have e3 : w.heap.size < W.heap.size + z.blocks.size + 1 := by omega
    by_cases hlt : k < nP
    rotate_left
    · obtain rfl : k = nP := by omega
      go_wp2
      go_ret
      refine ⟨_, rfl, ?_, up HW.out (grow_below W z)⟩
      have := Hown.out
      rw [List.take_of_length_le (by rw [HnP.out]; exact Nat.le_refl _)] at this
      rw [HP.out, HnP.out]
      exact own_mono this (by omega)
    have hkl : k < P.length := by rw [HnP.out]; exact hlt
    have Htk : Hid (rcells (rowsOf w0 w1 w2 w3 w4 (P.take (k + 1))) = rcells (rowsOf w0 w1 w2 w3 w4 (P.take k)) ++ [.int .i64 (g5 w0 w1 w2 w3 w4 P[k].m0), .int .i64 (g5 w0 w1 w2 w3 w4 P[k].m1), .int .i64 (g5 w0 w1 w2 w3 w4 P[k].m2), .int .i64 (g5 w0 w1 w2 w3 w4 P[k].m3), .int .i64 (g5 w0 w1 w2 w3 w4 P[k].m4), .int .i64 (g5 w0 w1 w2 w3 w4 P[k].m5)]) := Lib.hid (by
      rw [List.take_succ_eq_append_getElem hkl, rowsOf_snoc, rcells_snoc]; rfl)
    obtain ⟨b, o, rfl, hb, hc⟩ := HG.out.get k hkl
    obtain ⟨c0, c1, c2, c3, c4, c5, c6⟩ := hc
    obtain ⟨⟨p0, q0⟩, ⟨p1, q1⟩, ⟨p2, q2⟩, ⟨p3, q3⟩, ⟨p4, q4⟩, ⟨p5, q5⟩⟩ := HK.out _ (List.getElem_mem hkl)
    generalize P[k] = g at *
    generalize rcells (rowsOf w0 w1 w2 w3 w4 (P.take k)) = X at *
    have e5 : b < W.heap.size + z.blocks.size := by omega
    go_wp2_with (first
      | (go_at_call 77; refine (wornRow_any _ _ _ _ _ _ _ _ _ _ _ _ (by assumption) (by assumption) (by assumption) (by assumption) (by assumption) (by assumption) (by assumption) (by assumption) (by assumption) (by assumption) (by assumption) (by assumption)).mono ?_; rintro e x1 ⟨rfl, hb1⟩; have HV := Lib.hid (up (grow_below W z) (up (up_alloc _ _) hb1)); have Ho := Lib.hid (own_below Hown.out (up (up_alloc _ _) hb1)); clear hb1)
      | (at_builtin; refine wpList_append_own _ rfl _ _ 113 rfl W.heap.size 98 i0 (.agg #[.int .i64 0, .int .i64 0, .int .i64 0, .int .i64 0, .int .i64 0, .int .i64 0]) 6 48 Try.underlying113 HI.out HZ0.out HZ1.out HZ2.out rfl (by decide) _ _ _ rfl (Ho.out.alloc _) ⟨x1.heap.size, 0, none⟩ 1 1 [.int .i64 (g5 w0 w1 w2 w3 w4 g.m0), .int .i64 (g5 w0 w1 w2 w3 w4 g.m1), .int .i64 (g5 w0 w1 w2 w3 w4 g.m2), .int .i64 (g5 w0 w1 w2 w3 w4 g.m3), .int .i64 (g5 w0 w1 w2 w3 w4 g.m4), .int .i64 (g5 w0 w1 w2 w3 w4 g.m5)] rfl rfl ?c1 ?c2 ?c3 ?c4 ?c5 ?_))
    case c1 =>
      intro j u hu
      rw [Addr.add_lit, World.cell?_alloc_at _ _ _ _ (by simp), Nat.zero_add]
      simpa using hu
    case c2 => intro u hu; simp at hu; rcases hu with rfl | rfl | rfl | rfl | rfl | rfl <;> rfl
    case c3 => unfold maxLen; omega
    case c4 => omega
    case c5 => have := HV.out.size; simp; omega
    intro v' w' hown' hgr _
    have hbel : Below W.heap.size W w' := (up HV.out (up_alloc _ _)).grown hgr (by have := HV.out.size; simp; omega) (fun q hq => (Ho.out.lt q hq).1)
    have Hown' := Lib.hid hown'
    clear hown' hgr
    obtain ⟨y3, rfl⟩ := below_grow hbel
    go_wp2
    refine ⟨⟨k + 1, y3, by omega, by go_num, rfl, ?_⟩, by simp [intOf]; omega⟩
    rw [Htk.out]
    exact Hown'.out
end Go.Proofs.Ytpahbpgkmebieaa
