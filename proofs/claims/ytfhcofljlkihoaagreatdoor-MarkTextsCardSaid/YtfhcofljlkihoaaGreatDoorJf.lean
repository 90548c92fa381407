/- Contracts of functions of the program and of the reference, and plain facts: a part of a proof. Own text. -/
import Derived.Test.YtfhcofljlkihoaaGreatDoorJe
import Derived.Recover
import Derived.Defers
set_option linter.unusedVariables false
set_option linter.unusedSimpArgs false
set_option linter.unusedSectionVars false
namespace Go.Proofs.YtfhcofljlkihoaaGreatDoor
open Go Go.RowKit
set_option maxHeartbeats 400000
set_option maxRecDepth 100000

theorem ta_nil (w : World) : (Instr.typeAssert .nilIface 20 43 true).run Tryz.prog w = .ok (.tuple #[.int .i64 0, .bool false]) w := by kernel_rfl
theorem ta_bad (i : Int) (w : World) : (Instr.typeAssert (.iface 43 (.int .i64 i)) 20 43 true).run Tryz.prog w = .ok (.tuple #[.int .i64 i, .bool true]) w := by kernel_rfl
theorem rep10 : Array.replicate 10 undef = #[undef, undef, undef, undef, undef, undef, undef, undef, undef, undef] := rfl
theorem catch_idle (p2 p3 p4 : Value) (w : World) :
    CallsD Tryz.prog 14 #[p2, p3, p4] .returning w fun e u' w' => e = .returned (.tuple #[]) ∧ u' = .returning ∧ w' = w := by
  refine callsD_of_wpS Tryz.func14 rfl fun c₀ cs hu => ?_
  apply wpS_seq
  apply wpS_region
  simp [wpOpsS, go_sem, recoverD, hu, Tryz.ntmps14, Exit.thenS, ta_nil, ta_bad, rep10]
  apply wpS_seq
  apply wpS_region
  simp [wpOpsS, go_sem, Exit.thenS]
  refine wpS_cond (t := false) (by simp [Act.eval]) ?_
  simp only [Bool.false_eq_true, if_false]
  refine wpS_of_wp (wp_skip ?_)
  cases c₀
  simp_all [bodyPostS, results, Tryz.results14]
theorem catch_bad (b2 b3 b4 : Nat) (i : Int) (w : World) (h2 : ∀ j, j < 7 → (w.cell? ⟨b2, j, none⟩).isSome = true) (f2 : ∀ j, w.frozen? ⟨b2, j, none⟩ = false) (x3 : Value) (h3 : w.cell? ⟨b3, 0, none⟩ = some x3) (f3 : w.frozen? ⟨b3, 0, none⟩ = false)
    (x4 : Value) (h4 : w.cell? ⟨b4, 0, none⟩ = some x4) (f4 : w.frozen? ⟨b4, 0, none⟩ = false) (h23 : b2 ≠ b3) (h24 : b2 ≠ b4) (h34 : b3 ≠ b4) :
    CallsD Tryz.prog 14 #[.pointer (some ⟨b2, 0, none⟩), .pointer (some ⟨b3, 0, none⟩), .pointer (some ⟨b4, 0, none⟩)] (.panicking ({ v := .iface 43 (.int .i64 i), recovered := false } :: [])) w fun e u' w' =>
      e = .returned (.tuple #[]) ∧ u' = .panicking ({ v := .iface 43 (.int .i64 i), recovered := true } :: []) ∧
      w' = ((((((((w.setCell ⟨b2, 0, none⟩ (.int .i64 0)).setCell ⟨b2, 1, none⟩ (.int .i64 0)).setCell ⟨b2, 2, none⟩ (.int .i64 0)).setCell ⟨b2, 3, none⟩ (.int .i64 0)).setCell ⟨b2, 4, none⟩ (.int .i64 0)).setCell ⟨b2, 5, none⟩ (.int .i64 0)).setCell ⟨b2, 6, none⟩ (.slice none 0 0)).setCell ⟨b3, 0, none⟩ (.int .i64 i)).setCell ⟨b4, 0, none⟩ (.int .i64 5) := by
  obtain ⟨v0, k0⟩ := Option.isSome_iff_exists.1 (h2 0 (by omega))
  obtain ⟨v1, k1⟩ := Option.isSome_iff_exists.1 (h2 1 (by omega))
  obtain ⟨v2, k2⟩ := Option.isSome_iff_exists.1 (h2 2 (by omega))
  obtain ⟨v3, k3⟩ := Option.isSome_iff_exists.1 (h2 3 (by omega))
  obtain ⟨v4, k4⟩ := Option.isSome_iff_exists.1 (h2 4 (by omega))
  obtain ⟨v5, k5⟩ := Option.isSome_iff_exists.1 (h2 5 (by omega))
  obtain ⟨v6, k6⟩ := Option.isSome_iff_exists.1 (h2 6 (by omega))
  refine callsD_of_wpS Tryz.func14 rfl fun c₀ cs hu => ?_
  apply wpS_seq
  apply wpS_region
  simp [wpOpsS, go_sem, recoverD, hu, Tryz.ntmps14, Exit.thenS, ta_nil, ta_bad, rep10]
  apply wpS_seq
  apply wpS_region
  simp [wpOpsS, go_sem, Exit.thenS]
  refine wpS_cond (t := true) (by simp [Act.eval]) ?_
  simp only [if_true]
  apply wpS_region
  have g0 := f2 0; have g1 := f2 1; have g2 := f2 2; have g3 := f2 3; have g4 := f2 4; have g5 := f2 5; have g6 := f2 6
  have e1 := Ne.symm h23; have e2 := Ne.symm h24; have e3 := Ne.symm h34
  simp [wpOpsS, go_sem, k0, k1, k2, k3, k4, k5, k6, g0, g1, g2, g3, g4, g5, g6, h3, f3, h4, f4, h23, h24, h34, e1, e2, e3, bodyPostS, results, Tryz.results14]

def ParseR (w : World) (t : Bs) (e : Ending) (w' : World) : Prop :=
  ∃ B q c, e = .returned (.tuple #[.agg #[.int .i64 (bookT t).w0, .int .i64 (bookT t).w1, .int .i64 (bookT t).w2, .int .i64 (bookT t).w3, .int .i64 (bookT t).w4, .int .i64 (bookT t).F, .slice B q c], .int .i64 (textN t), .int .i64 (textE t)]) ∧
    Gs w' B q (bookT t).gs ∧ q ≤ c ∧ Below w.heap.size w w'
theorem gs_none (w : World) : Gs w none 0 [] := ⟨rfl, by omega, fun k hk => by simp at hk⟩

theorem text_bad {t : Bs} {i : Nat} (hl : t.length ≤ 4000) (h : readG t = .bad i) : textE t = 5 ∧ textN t = i ∧ bookT t = Bo.zero := by
  unfold textE textN bookT
  rw [if_neg (by omega), if_neg (by omega), if_neg (by omega), h]
  exact ⟨rfl, rfl, rfl⟩
theorem text_ok {t : Bs} {k : Nat} {b : Bo} (hl : t.length ≤ 4000) (h : readG t = .done k b) (ho : okB b.w0 b.w1 b.w2 b.w3 b.w4 b.F b.gs = true) : textE t = 0 ∧ textN t = 0 ∧ bookT t = b := by
  unfold textE textN bookT
  rw [if_neg (by omega), if_neg (by omega), if_neg (by omega), h]
  simp [ho]
theorem text_no {t : Bs} {k : Nat} {b : Bo} (hl : t.length ≤ 4000) (h : readG t = .done k b) (ho : okB b.w0 b.w1 b.w2 b.w3 b.w4 b.F b.gs = false) : textE t = 13 ∧ textN t = 0 ∧ bookT t = Bo.zero := by
  unfold textE textN bookT
  rw [if_neg (by omega), if_neg (by omega), if_neg (by omega), h]
  simp [ho]
theorem text_long {t : Bs} (hl : 4000 < t.length) : textE t = 2 ∧ textN t = 0 ∧ bookT t = Bo.zero := by
  unfold textE textN bookT
  rw [if_pos hl, if_pos hl, if_pos hl]
  exact ⟨rfl, rfl, rfl⟩

theorem parse_long (s : ByteArray) (w : World) (hs : 4000 < s.size) (hs2 : s.size ≤ 140737488355328) : Calls Tryz.prog 6 #[.string s] w (ParseR w s.data.toList) := by
  have HE := Lib.hid (text_long (show 4000 < s.data.toList.length by rw [← Lib.size_eq]; exact hs))
  have hc : decide ((4000 : Int) < (s.size : Int)) = true := by rw [decide_eq_true_eq]; omega
  clear hs
  go_enter_defers Tryz.func6, Tryz.ntmps6
  go_wp2
  obtain ⟨e1, e2, e3⟩ := HE.out
  refine ⟨.tuple #[.agg #[.int .i64 0, .int .i64 0, .int .i64 0, .int .i64 0, .int .i64 0, .int .i64 0, .slice none 0 0], .int .i64 0, .int .i64 2], by simp [results, Tryz.results6, go_sem], none, 0, 0, ?_, ?_, Nat.le_refl _, by go_grown⟩
  · rw [e1, e2, e3]; rfl
  · rw [e3]; exact gs_none _
theorem sc_blk {w : World} {g : Nat} {cur : Array Value} {t : TypeId} (h : w.heap[g]? = some (.cells cur t (0, 0))) (i : Nat) (v : Value) : (w.setCell ⟨g, i, none⟩ v).heap[g]? = some (.cells (cur.setIfInBounds i v) t (0, 0)) := by
  rw [setCell_eq_setRow w g i cur t (0, 0) v h]; exact setRow_heap w g _ _ _ _ h
theorem sc_other {w : World} {g k : Nat} {cur : Array Value} {t : TypeId} (h : w.heap[g]? = some (.cells cur t (0, 0))) (i : Nat) (v : Value) (hk : k ≠ g) : (w.setCell ⟨g, i, none⟩ v).heap[k]? = w.heap[k]? := by
  rw [setCell_eq_setRow w g i cur t (0, 0) v h]; exact setRow_other w g k _ hk
theorem blk_cell {w : World} {g : Nat} {l : List Value} {t : TypeId} (h : w.heap[g]? = some (.cells l.toArray t (0, 0))) (j : Nat) : w.cell? ⟨g, j, none⟩ = l[j]? := by
  rw [World.cell?]; simp only [h]; simp
theorem blk_fr {w : World} {g : Nat} {c : Array Value} {t : TypeId} (h : w.heap[g]? = some (.cells c t (0, 0))) (j : Nat) : w.frozen? ⟨g, j, none⟩ = false := by simp [World.frozen?, h]
/-- The three results are written. -/
def nine (w : World) (b : Nat) (v0 v1 v2 v3 v4 v5 v6 v7 v8 : Value) : World :=
  ((((((((w.setCell ⟨b, 0, none⟩ v0).setCell ⟨b, 1, none⟩ v1).setCell ⟨b, 2, none⟩ v2).setCell ⟨b, 3, none⟩ v3).setCell ⟨b, 4, none⟩ v4).setCell ⟨b, 5, none⟩ v5).setCell ⟨b, 6, none⟩ v6).setCell ⟨b + 1, 0, none⟩ v7).setCell ⟨b + 1 + 1, 0, none⟩ v8
theorem nine_blk {w : World} {b : Nat} (v0 v1 v2 v3 v4 v5 v6 v7 v8 : Value) {c0 c1 c2 c3 c4 c5 c6 x7 x8 : Value} {t0 t1 t2 : TypeId} (h0 : w.heap[b]? = some (.cells #[c0, c1, c2, c3, c4, c5, c6] t0 (0, 0))) (h1 : w.heap[b + 1]? = some (.cells #[x7] t1 (0, 0))) (h2 : w.heap[b + 1 + 1]? = some (.cells #[x8] t2 (0, 0))) :
    (nine w b v0 v1 v2 v3 v4 v5 v6 v7 v8).heap[b]? = some (.cells #[v0, v1, v2, v3, v4, v5, v6] t0 (0, 0)) ∧ (nine w b v0 v1 v2 v3 v4 v5 v6 v7 v8).heap[b + 1]? = some (.cells #[v7] t1 (0, 0)) ∧
    (nine w b v0 v1 v2 v3 v4 v5 v6 v7 v8).heap[b + 1 + 1]? = some (.cells #[v8] t2 (0, 0)) ∧ (∀ k, k ≠ b → k ≠ b + 1 → k ≠ b + 1 + 1 → (nine w b v0 v1 v2 v3 v4 v5 v6 v7 v8).heap[k]? = w.heap[k]?) := by
  have a0 := sc_blk h0 0 v0
  have a1 := sc_blk a0 1 v1
  have a2 := sc_blk a1 2 v2
  have a3 := sc_blk a2 3 v3
  have a4 := sc_blk a3 4 v4
  have a5 := sc_blk a4 5 v5
  have a6 := sc_blk a5 6 v6
  have o : ∀ k, k ≠ b → ((((((((w.setCell ⟨b, 0, none⟩ v0).setCell ⟨b, 1, none⟩ v1).setCell ⟨b, 2, none⟩ v2).setCell ⟨b, 3, none⟩ v3).setCell ⟨b, 4, none⟩ v4).setCell ⟨b, 5, none⟩ v5).setCell ⟨b, 6, none⟩ v6).heap[k]? = w.heap[k]?) := fun k hk =>
    (sc_other a5 6 v6 hk).trans ((sc_other a4 5 v5 hk).trans ((sc_other a3 4 v4 hk).trans ((sc_other a2 3 v3 hk).trans ((sc_other a1 2 v2 hk).trans ((sc_other a0 1 v1 hk).trans (sc_other h0 0 v0 hk))))))
  have b1 := (o (b + 1) (by omega)).trans h1
  have a7 := sc_blk b1 0 v7
  have o7 := fun k hk => sc_other b1 0 v7 (k := k) hk
  have b2 := (o7 (b + 1 + 1) (by omega)).trans ((o (b + 1 + 1) (by omega)).trans h2)
  have a8 := sc_blk b2 0 v8
  have o8 := fun k hk => sc_other b2 0 v8 (k := k) hk
  unfold nine
  refine ⟨?_, ?_, ?_, fun k k0 k1 k2 => (o8 k k2).trans ((o7 k k1).trans (o k k0))⟩
  · rw [o8 b (by omega), o7 b (by omega), a6]; rfl
  · rw [o8 (b + 1) (by omega), a7]; rfl
  · rw [a8]; rfl
theorem nine_below {a w : World} {B b : Nat} (h : Below B a w) (hb : B ≤ b) (v0 v1 v2 v3 v4 v5 v6 v7 v8 : Value) : Below B a (nine w b v0 v1 v2 v3 v4 v5 v6 v7 v8) :=
  (((((((((h.setCell (by exact hb) _).setCell (by exact hb) _).setCell (by exact hb) _).setCell (by exact hb) _).setCell (by exact hb) _).setCell (by exact hb) _).setCell (by exact hb) _).setCell (show B ≤ b + 1 by omega) _).setCell (show B ≤ b + 1 + 1 by omega) _)
theorem Gs.keepB {w w' : World} {A : Option Addr} {n : Nat} {gs : List Giv} (h : Gs w A n gs) (hs : w.heap.size ≤ w'.heap.size) (hA : ∀ p, A = some p → w'.heap[p.block]? = w.heap[p.block]?) : Gs w' A n gs :=
  ⟨h.len, h.small, fun k hk => by
    obtain ⟨b, o, e, hlt, hg⟩ := h.get k hk
    exact ⟨b, o, e, by omega, hg.keep fun j => World.cell?_of_block (w := w) (w' := w') (a := ⟨b, j, none⟩) (show w'.heap[b]? = w.heap[b]? from hA _ e)⟩⟩
theorem nine_size (w : World) (b : Nat) (v0 v1 v2 v3 v4 v5 v6 v7 v8 : Value) : (nine w b v0 v1 v2 v3 v4 v5 v6 v7 v8).heap.size = w.heap.size := by simp [nine]

theorem parse_short (s : ByteArray) (w : World) (hs : s.size ≤ 4000) (hV : Vok w) : Calls Tryz.prog 6 #[.string s] w (ParseR w s.data.toList) := by
  have HL := Lib.hid (show s.data.toList.length ≤ 4000 by rw [← Lib.size_eq]; exact hs)
  have hc : decide ((4000 : Int) < (s.size : Int)) = false := by rw [decide_eq_false_iff_not]; omega
  have HV := Lib.hid hV
  clear hV
  have hmf : ∀ (fn : Fn) (first cap : Array Value) (w : World), (Instr.makeFunc fn first cap).run Tryz.prog w = .ok (.func fn first cap) w := fun _ _ _ _ => rfl
  go_enter_defers Tryz.func6, Tryz.ntmps6
  go_wp2_with fail
  generalize hW0 : (World.alloc _ _) = W0
  have hb0 : Below w.heap.size w W0 := by subst hW0; go_grown
  have hz : W0.heap.size = w.heap.size + 3 := by subst hW0; simp
  have r0 : W0.heap[w.heap.size]? = some (.cells #[.int .i64 0, .int .i64 0, .int .i64 0, .int .i64 0, .int .i64 0, .int .i64 0, .slice none 0 0] 26 (0, 0)) := by
    subst hW0
    exact (World.grownBy_alloc _ _ none).block _ (by simp; omega) (by simp) |>.trans ((World.grownBy_alloc _ _ none).block _ (by simp) (by simp) |>.trans (heap_alloc_new _ _))
  have r1 : W0.heap[w.heap.size + 1]? = some (.cells #[.int .i64 0] 3 (0, 0)) := by
    subst hW0
    refine (World.grownBy_alloc _ _ none).block _ (by simp) (by simp) |>.trans ?_
    have e : ∀ o, (w.alloc o).heap.size = w.heap.size + 1 := fun o => by simp
    rw [← e]; exact heap_alloc_new _ _
  have r2 : W0.heap[w.heap.size + 1 + 1]? = some (.cells #[.int .i64 0] 27 (0, 0)) := by
    subst hW0
    have e : ∀ o p, ((w.alloc o).alloc p).heap.size = w.heap.size + 1 + 1 := fun o p => by simp
    rw [← e]; exact heap_alloc_new _ _
  clear hW0
  refine (readBook_any s W0 hs (HV.out.keep hb0)).mono ?_
  rintro e w1 (⟨i, hr, rfl, hb⟩ | ⟨k, x, B, q, c, hr, rfl, hg, hqc, hBf, hb⟩)
  · obtain ⟨e1, e2, e3⟩ := text_bad HL.out hr
    have q0 := (hb.block w.heap.size (by omega)).trans r0
    have q1 := (hb.block (w.heap.size + 1) (by omega)).trans r1
    have q2 := (hb.block (w.heap.size + 1 + 1) (by omega)).trans r2
    refine leaves_cons (f := 14) (args := #[.pointer (some ⟨w.heap.size, 0, none⟩), .pointer (some ⟨w.heap.size + 1, 0, none⟩), .pointer (some ⟨w.heap.size + 1 + 1, 0, none⟩)]) (by simp) (by simp [go_sem]) ?_
    refine (catch_bad w.heap.size (w.heap.size + 1) (w.heap.size + 1 + 1) i w1 (fun j hj => by rw [blk_cell q0 j, List.getElem?_eq_getElem (by simpa using hj)]; rfl) (blk_fr q0) _ (blk_cell q1 0) (blk_fr q1 0) _ (blk_cell q2 0) (blk_fr q2 0) (by omega) (by omega) (by omega)).mono ?_
    rintro e u' w'' ⟨rfl, rfl, rfl⟩
    obtain ⟨n0, n1, n2, _⟩ := nine_blk (.int .i64 0) (.int .i64 0) (.int .i64 0) (.int .i64 0) (.int .i64 0) (.int .i64 0) (.slice none 0 0) (.int .i64 i) (.int .i64 5) q0 q1 q2
    have nb := nine_below (up hb0 hb) (Nat.le_refl w.heap.size) (.int .i64 0) (.int .i64 0) (.int .i64 0) (.int .i64 0) (.int .i64 0) (.int .i64 0) (.slice none 0 0) (.int .i64 i) (.int .i64 5)
    have m0 := blk_cell n0; have m1 := blk_cell n1 0; have m2 := blk_cell n2 0
    change Leaves _ _ _ _ _ _ (nine w1 w.heap.size (.int .i64 0) (.int .i64 0) (.int .i64 0) (.int .i64 0) (.int .i64 0) (.int .i64 0) (.slice none 0 0) (.int .i64 i) (.int .i64 5))
    generalize nine w1 w.heap.size _ _ _ _ _ _ _ _ _ = U at *
    refine ⟨.tuple #[.agg #[.int .i64 0, .int .i64 0, .int .i64 0, .int .i64 0, .int .i64 0, .int .i64 0, .slice none 0 0], .int .i64 i, .int .i64 5], by simp [results, Tryz.results6, go_sem, m0, m1, m2], none, 0, 0, ?_, ?_, Nat.le_refl _, nb⟩
    · rw [e1, e2, e3]; rfl
    · rw [e3]; exact gs_none _
  · have hfin : ∀ (a0 a1 a2 a3 a4 a5 : Int) (sl : Value) (n E : Int) (W : World), Below W0.heap.size W0 W →
        ∃ U, nine W w.heap.size (.int .i64 a0) (.int .i64 a1) (.int .i64 a2) (.int .i64 a3) (.int .i64 a4) (.int .i64 a5) sl (.int .i64 n) (.int .i64 E) = U ∧ Below w.heap.size w U ∧ (∀ j, U.cell? ⟨w.heap.size, j, none⟩ = [Value.int .i64 a0, .int .i64 a1, .int .i64 a2, .int .i64 a3, .int .i64 a4, .int .i64 a5, sl][j]?) ∧
          U.cell? ⟨w.heap.size + 1, 0, none⟩ = some (.int .i64 n) ∧ U.cell? ⟨w.heap.size + 1 + 1, 0, none⟩ = some (.int .i64 E) ∧ W.heap.size ≤ U.heap.size ∧ ∀ k, W0.heap.size ≤ k → U.heap[k]? = W.heap[k]? := by
      intro a0 a1 a2 a3 a4 a5 sl n E W hbW
      have q0 := (hbW.block w.heap.size (by omega)).trans r0
      have q1 := (hbW.block (w.heap.size + 1) (by omega)).trans r1
      have q2 := (hbW.block (w.heap.size + 1 + 1) (by omega)).trans r2
      obtain ⟨n0, n1, n2, n3⟩ := nine_blk (.int .i64 a0) (.int .i64 a1) (.int .i64 a2) (.int .i64 a3) (.int .i64 a4) (.int .i64 a5) sl (.int .i64 n) (.int .i64 E) q0 q1 q2
      exact ⟨_, rfl, nine_below (up hb0 hbW) (Nat.le_refl w.heap.size) _ _ _ _ _ _ _ _ _, blk_cell n0, blk_cell n1 0, blk_cell n2 0, by rw [nine_size]; exact Nat.le_refl _, fun k hk => n3 k (by omega) (by omega) (by omega)⟩
    have HF := Lib.hid hfin
    have hfro : ∀ W, Below W0.heap.size W0 W → (∀ j, W.frozen? ⟨w.heap.size, j, none⟩ = false) ∧ W.frozen? ⟨w.heap.size + 1, 0, none⟩ = false ∧ W.frozen? ⟨w.heap.size + 1 + 1, 0, none⟩ = false ∧
        (∀ j, W.cell? ⟨w.heap.size, j, none⟩ = [Value.int .i64 0, .int .i64 0, .int .i64 0, .int .i64 0, .int .i64 0, .int .i64 0, .slice none 0 0][j]?) ∧ W.cell? ⟨w.heap.size + 1, 0, none⟩ = some (.int .i64 0) ∧ W.cell? ⟨w.heap.size + 1 + 1, 0, none⟩ = some (.int .i64 0) := by
      intro W hbW
      have q0 := (hbW.block w.heap.size (by omega)).trans r0
      have q1 := (hbW.block (w.heap.size + 1) (by omega)).trans r1
      have q2 := (hbW.block (w.heap.size + 1 + 1) (by omega)).trans r2
      exact ⟨blk_fr q0, blk_fr q1 0, blk_fr q2 0, blk_cell q0, blk_cell q1 0, blk_cell q2 0⟩
    have HR := Lib.hid hfro
    have HB1 := Lib.hid hb
    have HG := Lib.hid hg
    have HBF := Lib.hid hBf
    have hw1 : w.heap.size + 3 ≤ w1.heap.size := by have := hb.size; omega
    clear r0 r1 r2 hfin hfro hb hg hBf hb0
    cases hok : okB x.w0 x.w1 x.w2 x.w3 x.w4 x.F x.gs
    · have HT := Lib.hid (text_no HL.out hr hok)
      have HOK := Lib.hid hok
      clear hok hr
      go_wp2_with (go_at_call 10; refine (check_no x.w0 x.w1 x.w2 x.w3 x.w4 x.F B q c x.gs _ (HG.out.keep (up_alloc _ _)) hqc HOK.out).mono ?_; rintro e w2 ⟨rfl, hb2⟩; have HB2 := Lib.hid (up HB1.out (up (up_alloc _ _) hb2)); have hsz2 : w1.heap.size < w2.heap.size := (by have := hb2.size; simp at this; omega); clear hb2; obtain ⟨g0, g1, g2, g3, g4, g5⟩ := HR.out w2 HB2.out)
      obtain ⟨e1, e2, e3⟩ := HT.out
      obtain ⟨U, hU, nb, m0, m1, m2, hszU, hblk⟩ := HF.out 0 0 0 0 0 0 (.slice none 0 0) 0 13 w2 HB2.out
      have hU2 := hU
      unfold nine at hU2
      rw [hU2]
      refine leaves_cons (f := 14) (args := #[.pointer (some ⟨w.heap.size, 0, none⟩), .pointer (some ⟨w.heap.size + 1, 0, none⟩), .pointer (some ⟨w.heap.size + 1 + 1, 0, none⟩)]) (by simp) (by simp [go_sem]) ?_
      refine (catch_idle _ _ _ _).mono ?_
      rintro e u' w'' ⟨rfl, rfl, rfl⟩
      refine ⟨.tuple #[.agg #[.int .i64 0, .int .i64 0, .int .i64 0, .int .i64 0, .int .i64 0, .int .i64 0, .slice none 0 0], .int .i64 0, .int .i64 13], by simp [results, Tryz.results6, go_sem, m0, m1, m2], none, 0, 0, ?_, ?_, Nat.le_refl _, nb⟩
      · rw [e1, e2, e3]; rfl
      · rw [e3]; exact gs_none _
    · have HT := Lib.hid (text_ok HL.out hr hok)
      have HOK := Lib.hid hok
      clear hok hr
      go_wp2_with (go_at_call 10; refine (check_yes x.w0 x.w1 x.w2 x.w3 x.w4 x.F B q c x.gs _ (HG.out.keep (up_alloc _ _)) hqc HOK.out).mono ?_; rintro e w2 ⟨rfl, hb2⟩; have HB2 := Lib.hid (up HB1.out (up (up_alloc _ _) hb2)); have hsz2 : w1.heap.size < w2.heap.size := (by have := hb2.size; simp at this; omega); have HGW := Lib.hid (HG.out.keep (up (up_alloc _ _) hb2)); have cx : ∀ j, w2.cell? ⟨w1.heap.size, j, none⟩ = [Value.int .i64 x.w0, .int .i64 x.w1, .int .i64 x.w2, .int .i64 x.w3, .int .i64 x.w4, .int .i64 x.F, .slice B q c][j]? := (fun j => (hb2.cell (p := ⟨w1.heap.size, j, none⟩) (by simp)).trans (by simp [go_sem])); clear hb2; obtain ⟨g0, g1, g2, g3, g4, g5⟩ := HR.out w2 HB2.out)
      obtain ⟨e1, e2, e3⟩ := HT.out
      obtain ⟨U, hU, nb, m0, m1, m2, hszU, hblk⟩ := HF.out x.w0 x.w1 x.w2 x.w3 x.w4 x.F (.slice B q c) 0 0 w2 HB2.out
      have hU2 := hU
      unfold nine at hU2
      rw [hU2]
      refine leaves_cons (f := 14) (args := #[.pointer (some ⟨w.heap.size, 0, none⟩), .pointer (some ⟨w.heap.size + 1, 0, none⟩), .pointer (some ⟨w.heap.size + 1 + 1, 0, none⟩)]) (by simp) (by simp [go_sem]) ?_
      refine (catch_idle _ _ _ _).mono ?_
      rintro e u' w'' ⟨rfl, rfl, rfl⟩
      refine ⟨.tuple #[.agg #[.int .i64 x.w0, .int .i64 x.w1, .int .i64 x.w2, .int .i64 x.w3, .int .i64 x.w4, .int .i64 x.F, .slice B q c], .int .i64 0, .int .i64 0], by simp [results, Tryz.results6, go_sem, m0, m1, m2], B, q, c, ?_, ?_, hqc, nb⟩
      · rw [e1, e2, e3]
      · rw [e3]; exact HGW.out.keepB hszU (fun p hp => hblk _ (HBF.out p hp))

theorem parse_any (s : ByteArray) (w : World) (hs : s.size ≤ 140737488355328) (hV : Vok w) : Calls Tryz.prog 6 #[.string s] w (ParseR w s.data.toList) := by
  by_cases h : s.size ≤ 4000
  · exact parse_short s w h hV
  · exact parse_long s w (by omega) hs
end Go.Proofs.YtfhcofljlkihoaaGreatDoor

