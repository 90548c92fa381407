/- All marks in their order, as the program yields them. Own text. -/
import Derived.Test.YtpahbpgkmebieaaR1
import Derived.Test.YtpahbpgkmebieaaW21
namespace Go.Proofs.Ytpahbpgkmebieaa
open Go Go.RowKit Go.Shelf
attribute [local go_sem] Oper.semAt_some
set_option maxHeartbeats 400000
set_option maxRecDepth 100000

/-- The mark with a number; the first k marks. -/
def markNo (k : Nat) : Rd := ⟨((k / 3125 % 5 : Nat) : Int), ((k / 625 % 5 : Nat) : Int), ((k / 125 % 5 : Nat) : Int), ((k / 25 % 5 : Nat) : Int), ((k / 5 % 5 : Nat) : Int), ((k % 5 : Nat) : Int)⟩
def upto (k : Nat) : List Rd := (List.range k).map markNo
theorem upto_succ (k : Nat) : upto (k + 1) = upto k ++ [markNo k] := by simp [upto, List.range_succ]
def valR (r : Rd) : Int := ((((r.r0 * 5 + r.r1) * 5 + r.r2) * 5 + r.r3) * 5 + r.r4) * 5 + r.r5
def Rd.dig (r : Rd) : Prop := (0 ≤ r.r0 ∧ r.r0 < 5) ∧ (0 ≤ r.r1 ∧ r.r1 < 5) ∧ (0 ≤ r.r2 ∧ r.r2 < 5) ∧ (0 ≤ r.r3 ∧ r.r3 < 5) ∧ (0 ≤ r.r4 ∧ r.r4 < 5) ∧ (0 ≤ r.r5 ∧ r.r5 < 5)
theorem markNo_dig (k : Nat) : (markNo k).dig := by simp only [markNo, Rd.dig]; omega
theorem markNo_val (k : Nat) (h : k < 15625) : valR (markNo k) = k := by simp only [markNo, valR]; omega
theorem markNo_of (r : Rd) (k : Nat) (h : r.dig) (hv : valR r = k) : r = markNo k := by
  obtain ⟨a, b, c, d, e, f⟩ := r
  simp only [Rd.dig, valR] at h hv
  simp only [markNo, Rd.mk.injEq]
  omega

/-- The variable's six cells. -/
structure MBox (w : World) (N : Nat) (r : Rd) : Prop where
  lt : N < w.heap.size
  c0 : w.cell? ⟨N, 0, none⟩ = some (.int .i64 r.r0)
  c1 : w.cell? ⟨N, 1, none⟩ = some (.int .i64 r.r1)
  c2 : w.cell? ⟨N, 2, none⟩ = some (.int .i64 r.r2)
  c3 : w.cell? ⟨N, 3, none⟩ = some (.int .i64 r.r3)
  c4 : w.cell? ⟨N, 4, none⟩ = some (.int .i64 r.r4)
  c5 : w.cell? ⟨N, 5, none⟩ = some (.int .i64 r.r5)
  fro : ∀ j, w.frozen? ⟨N, j, none⟩ = false
theorem MBox.above {w w' : World} {N B : Nat} {r : Rd} (h : MBox w N r) (ha : Above B w w') (hN : B ≤ N) : MBox w' N r := by
  have e := ha.block N hN h.lt
  have k : ∀ j, w'.cell? ⟨N, j, none⟩ = w.cell? ⟨N, j, none⟩ := fun j => World.cell?_of_block (a := ⟨N, j, none⟩) e
  exact ⟨by have := ha.size; have := h.lt; omega, (k 0).trans h.c0, (k 1).trans h.c1, (k 2).trans h.c2, (k 3).trans h.c3, (k 4).trans h.c4, (k 5).trans h.c5, fun j => (World.frozen?_of_block (a := ⟨N, j, none⟩) e).trans (h.fro j)⟩
theorem MBox.set0 {w : World} {N : Nat} {r : Rd} (h : MBox w N r) (v : Int) : MBox (w.setCell ⟨N, 0, none⟩ (.int .i64 v)) N { r with r0 := v } :=
  ⟨by simpa [World.setCell] using h.lt, World.cell?_setCell_same' _ _ _ (by rw [h.c0]; rfl), by rw [World.cell?_setCell_other _ _ _ _ (by simp)]; exact h.c1, by rw [World.cell?_setCell_other _ _ _ _ (by simp)]; exact h.c2, by rw [World.cell?_setCell_other _ _ _ _ (by simp)]; exact h.c3, by rw [World.cell?_setCell_other _ _ _ _ (by simp)]; exact h.c4, by rw [World.cell?_setCell_other _ _ _ _ (by simp)]; exact h.c5, fun i => by rw [World.frozen?_setCell]; exact h.fro i⟩
theorem MBox.set1 {w : World} {N : Nat} {r : Rd} (h : MBox w N r) (v : Int) : MBox (w.setCell ⟨N, 1, none⟩ (.int .i64 v)) N { r with r1 := v } :=
  ⟨by simpa [World.setCell] using h.lt, by rw [World.cell?_setCell_other _ _ _ _ (by simp)]; exact h.c0, World.cell?_setCell_same' _ _ _ (by rw [h.c1]; rfl), by rw [World.cell?_setCell_other _ _ _ _ (by simp)]; exact h.c2, by rw [World.cell?_setCell_other _ _ _ _ (by simp)]; exact h.c3, by rw [World.cell?_setCell_other _ _ _ _ (by simp)]; exact h.c4, by rw [World.cell?_setCell_other _ _ _ _ (by simp)]; exact h.c5, fun i => by rw [World.frozen?_setCell]; exact h.fro i⟩
theorem MBox.set2 {w : World} {N : Nat} {r : Rd} (h : MBox w N r) (v : Int) : MBox (w.setCell ⟨N, 2, none⟩ (.int .i64 v)) N { r with r2 := v } :=
  ⟨by simpa [World.setCell] using h.lt, by rw [World.cell?_setCell_other _ _ _ _ (by simp)]; exact h.c0, by rw [World.cell?_setCell_other _ _ _ _ (by simp)]; exact h.c1, World.cell?_setCell_same' _ _ _ (by rw [h.c2]; rfl), by rw [World.cell?_setCell_other _ _ _ _ (by simp)]; exact h.c3, by rw [World.cell?_setCell_other _ _ _ _ (by simp)]; exact h.c4, by rw [World.cell?_setCell_other _ _ _ _ (by simp)]; exact h.c5, fun i => by rw [World.frozen?_setCell]; exact h.fro i⟩
theorem MBox.set3 {w : World} {N : Nat} {r : Rd} (h : MBox w N r) (v : Int) : MBox (w.setCell ⟨N, 3, none⟩ (.int .i64 v)) N { r with r3 := v } :=
  ⟨by simpa [World.setCell] using h.lt, by rw [World.cell?_setCell_other _ _ _ _ (by simp)]; exact h.c0, by rw [World.cell?_setCell_other _ _ _ _ (by simp)]; exact h.c1, by rw [World.cell?_setCell_other _ _ _ _ (by simp)]; exact h.c2, World.cell?_setCell_same' _ _ _ (by rw [h.c3]; rfl), by rw [World.cell?_setCell_other _ _ _ _ (by simp)]; exact h.c4, by rw [World.cell?_setCell_other _ _ _ _ (by simp)]; exact h.c5, fun i => by rw [World.frozen?_setCell]; exact h.fro i⟩
theorem MBox.set4 {w : World} {N : Nat} {r : Rd} (h : MBox w N r) (v : Int) : MBox (w.setCell ⟨N, 4, none⟩ (.int .i64 v)) N { r with r4 := v } :=
  ⟨by simpa [World.setCell] using h.lt, by rw [World.cell?_setCell_other _ _ _ _ (by simp)]; exact h.c0, by rw [World.cell?_setCell_other _ _ _ _ (by simp)]; exact h.c1, by rw [World.cell?_setCell_other _ _ _ _ (by simp)]; exact h.c2, by rw [World.cell?_setCell_other _ _ _ _ (by simp)]; exact h.c3, World.cell?_setCell_same' _ _ _ (by rw [h.c4]; rfl), by rw [World.cell?_setCell_other _ _ _ _ (by simp)]; exact h.c5, fun i => by rw [World.frozen?_setCell]; exact h.fro i⟩
theorem MBox.set5 {w : World} {N : Nat} {r : Rd} (h : MBox w N r) (v : Int) : MBox (w.setCell ⟨N, 5, none⟩ (.int .i64 v)) N { r with r5 := v } :=
  ⟨by simpa [World.setCell] using h.lt, by rw [World.cell?_setCell_other _ _ _ _ (by simp)]; exact h.c0, by rw [World.cell?_setCell_other _ _ _ _ (by simp)]; exact h.c1, by rw [World.cell?_setCell_other _ _ _ _ (by simp)]; exact h.c2, by rw [World.cell?_setCell_other _ _ _ _ (by simp)]; exact h.c3, by rw [World.cell?_setCell_other _ _ _ _ (by simp)]; exact h.c4, World.cell?_setCell_same' _ _ _ (by rw [h.c5]; rfl), fun i => by rw [World.frozen?_setCell]; exact h.fro i⟩
theorem MBox.other {w : World} {N : Nat} {r : Rd} (h : MBox w N r) {p : Addr} (hp : p.block ≠ N) (v : Value) : MBox (w.setCell p v) N r := by
  have k : ∀ j, (w.setCell p v).cell? ⟨N, j, none⟩ = w.cell? ⟨N, j, none⟩ := fun j => World.cell?_setCell_other _ _ _ _ (by intro e; exact hp (by rw [e]))
  exact ⟨by simpa [World.setCell] using h.lt, (k 0).trans h.c0, (k 1).trans h.c1, (k 2).trans h.c2, (k 3).trans h.c3, (k 4).trans h.c4, (k 5).trans h.c5, fun i => by rw [World.frozen?_setCell]; exact h.fro i⟩
theorem MBox.keep {w w' : World} {N B : Nat} {r : Rd} (h : MBox w N r) (hb : Below B w w') (hN : N < B) : MBox w' N r := by
  have k : ∀ j, w'.cell? ⟨N, j, none⟩ = w.cell? ⟨N, j, none⟩ := fun j => hb.cell (p := ⟨N, j, none⟩) hN
  exact ⟨by have := hb.size; have := h.lt; omega, (k 0).trans h.c0, (k 1).trans h.c1, (k 2).trans h.c2, (k 3).trans h.c3, (k 4).trans h.c4, (k 5).trans h.c5, fun i => (hb.frozen (p := ⟨N, i, none⟩) hN).trans (h.fro i)⟩
def ci (w : World) (N j : Nat) : Int := match w.cell? ⟨N, j, none⟩ with | some (.int _ q) => q | _ => 0
def valW (w : World) (N : Nat) : Int := valR ⟨ci w N 0, ci w N 1, ci w N 2, ci w N 3, ci w N 4, ci w N 5⟩
theorem MBox.val {w : World} {N : Nat} {r : Rd} (h : MBox w N r) : valW w N = valR r := by
  unfold valW ci; rw [h.c0, h.c1, h.c2, h.c3, h.c4, h.c5]

def encM (r : Rd) : Array Value := #[.agg #[.int .i64 r.r0, .int .i64 r.r1, .int .i64 r.r2, .int .i64 r.r3, .int .i64 r.r4, .int .i64 r.r5]]

theorem every_iter (w : World) : Iter Try.prog 87 #[] encM (fun _ _ _ => True) (fun _ => True) (fun xs => xs = upto 15625) (fun pre => ∃ k, k < 15625 ∧ pre = upto (k + 1)) w := by
  intro n l J Jx W hn hW hJ _ hY h0
  refine callsIn_of_wp Try.func87 rfl trivial ?_ rfl
  simp only [Try.ntmps87, List.size_toArray, List.length_cons, List.length_nil, Nat.reduceAdd, Nat.reduceSub, Array.replicate_succ, Array.replicate_zero, List.push_toArray, List.append_toArray, List.nil_append, List.cons_append]
  gi_wp2
  have hJ0 : J [] (W.alloc (.cells #[.int .i64 0, .int .i64 0, .int .i64 0, .int .i64 0, .int .i64 0, .int .i64 0] 28)) := hJ _ _ _ h0 (up_alloc _ _)
  have HJ := Lib.hid hJ
  have HY := Lib.hid hY
  have hB0 : MBox (W.alloc (.cells #[.int .i64 0, .int .i64 0, .int .i64 0, .int .i64 0, .int .i64 0, .int .i64 0] 28)) W.heap.size (markNo 0) := by
    constructor <;> simp [go_sem, markNo]
  have hS0 : Below W.heap.size W (W.alloc (.cells #[.int .i64 0, .int .i64 0, .int .i64 0, .int .i64 0, .int .i64 0, .int .i64 0] 28)) := up_alloc _ _
  generalize World.alloc W _ = W1 at *
  clear hJ hY
  gi_loopw [3] (fun _ wr => ∃ (k : Nat), k < 15625 ∧ MBox wr W.heap.size (markNo k) ∧ J (upto k) wr) (fun _ wr => (15625 - valW wr W.heap.size).toNat)
  case atStart => exact ⟨0, by omega, hB0, hJ0⟩
  case round =>
    obtain ⟨k, hk, hbx, hjk⟩ := hrel
    have Hbx := Lib.hid hbx
    have hdg := markNo_dig k
    have hvl := markNo_val k hk
    have Hvw := Lib.hid (hbx.val)
    obtain ⟨fn, tmps, assign, body, hy, hR⟩ := HY.out (upto k) (markNo k) wr ⟨k, hk, (upto_succ k).symm⟩ trivial hjk (by have := hbx.lt; omega)
    have Hup := Lib.hid (upto_succ k)
    have Hnx : Hid (∀ r : Rd, r.dig → valR r = k + 1 → r = markNo (k + 1)) := Lib.hid (fun r h1 h2 => markNo_of r (k + 1) h1 (by rw [h2]; rfl))
    generalize markNo k = r at *
    dsimp only [encM] at hy
    have Hlt := Lib.hid hbx.lt
    obtain ⟨_, d0, d1, d2, d3, d4, d5, _⟩ := hbx
    gi_wp2
    refine ⟨fun h => (by cases h), hR.mono ?_⟩
    rintro e W' (⟨rfl, hJ', hAb⟩ | ⟨rfl, hJx'⟩)
    rotate_left
    · gi_wp2
      exact ⟨rfl, _, results_none rfl _ _ _, ⟨⟨_, rfl⟩, .inr ⟨upto k ++ [r], ⟨k, by omega, Hup.out.symm⟩, hJx'⟩⟩⟩
    have HJ' := Lib.hid hJ'
    have Hb' := Lib.hid (Hbx.out.above hAb (Nat.le_refl _))
    clear hJ' hAb hR hy d0 d1 d2 d3 d4 d5
    obtain ⟨l', d0, d1, d2, d3, d4, d5, fro⟩ := Hb'.out
    obtain ⟨⟨a0, b0⟩, ⟨a1, b1⟩, ⟨a2, b2⟩, ⟨a3, b3⟩, ⟨a4, b4⟩, ⟨a5, b5⟩⟩ := hdg
    gi_wp2
    have hjk' := HJ'.out
    have fin : ∀ (V : World) (s : Rd), MBox V W.heap.size s → s.dig → valR s = k + 1 → Below W.heap.size W' V →
        (∃ k, k < 15625 ∧ MBox V W.heap.size (markNo k) ∧ J (upto k) V) ∧ (15625 - valW V W.heap.size).toNat < (15625 - valW wr W.heap.size).toNat := by
      intro V s hs hd hv hb
      have hk1 : k + 1 < 15625 := by simp only [Rd.dig, valR] at hd hv; omega
      have he := Hnx.out s hd hv
      refine ⟨⟨k + 1, hk1, he ▸ hs, ?_⟩, ?_⟩
      · rw [Hup.out]; exact HJ.out _ _ _ hjk' hb
      · rw [hs.val, Hvw.out, hv, hvl]; omega
    have Hfin := Lib.hid fin
    have Hvl := Lib.hid hvl
    clear fin hvl hjk'
    refine wpIn_loop_rounds 7 ?_
    rw [roundsIn_succ]
    by_cases e5 : r.r5 = 4
    rotate_left
    · gi_wp2
      exact Hfin.out _ _ (Hb'.out.set5 _) (by simp only [Rd.dig]; omega) (by have := Hvl.out; simp only [valR] at this ⊢; omega) ((Below.refl _ _).setCell (by simp) _)
    gi_wp2
    rw [roundsIn_succ]
    by_cases e4 : r.r4 = 4
    rotate_left
    · gi_wp2
      exact Hfin.out _ _ ((Hb'.out.set5 _).set4 _) (by simp only [Rd.dig]; omega) (by have := Hvl.out; simp only [valR] at this ⊢; omega) (((Below.refl _ _).setCell (by simp) _).setCell (by simp) _)
    gi_wp2
    rw [roundsIn_succ]
    by_cases e3 : r.r3 = 4
    rotate_left
    · gi_wp2
      exact Hfin.out _ _ (((Hb'.out.set5 _).set4 _).set3 _) (by simp only [Rd.dig]; omega) (by have := Hvl.out; simp only [valR] at this ⊢; omega) ((((Below.refl _ _).setCell (by simp) _).setCell (by simp) _).setCell (by simp) _)
    gi_wp2
    rw [roundsIn_succ]
    by_cases e2 : r.r2 = 4
    rotate_left
    · gi_wp2
      exact Hfin.out _ _ ((((Hb'.out.set5 _).set4 _).set3 _).set2 _) (by simp only [Rd.dig]; omega) (by have := Hvl.out; simp only [valR] at this ⊢; omega) (((((Below.refl _ _).setCell (by simp) _).setCell (by simp) _).setCell (by simp) _).setCell (by simp) _)
    gi_wp2
    rw [roundsIn_succ]
    by_cases e1 : r.r1 = 4
    rotate_left
    · gi_wp2
      exact Hfin.out _ _ (((((Hb'.out.set5 _).set4 _).set3 _).set2 _).set1 _) (by simp only [Rd.dig]; omega) (by have := Hvl.out; simp only [valR] at this ⊢; omega) ((((((Below.refl _ _).setCell (by simp) _).setCell (by simp) _).setCell (by simp) _).setCell (by simp) _).setCell (by simp) _)
    gi_wp2
    rw [roundsIn_succ]
    by_cases e0 : r.r0 = 4
    rotate_left
    · gi_wp2
      exact Hfin.out _ _ ((((((Hb'.out.set5 _).set4 _).set3 _).set2 _).set1 _).set0 _) (by simp only [Rd.dig]; omega) (by have := Hvl.out; simp only [valR] at this ⊢; omega) (((((((Below.refl _ _).setCell (by simp) _).setCell (by simp) _).setCell (by simp) _).setCell (by simp) _).setCell (by simp) _).setCell (by simp) _)
    gi_wp2
    rw [roundsIn_succ]
    gi_wp2
    refine bodyPost_ret (results_none rfl _ _ _) rfl ?_
    refine ⟨⟨_, rfl⟩, .inl ⟨_, rfl, ?_⟩⟩
    have hk' : k + 1 = 15625 := by have := Hvl.out; simp only [valR] at this; omega
    rw [← hk', Hup.out]
    exact HJ.out _ _ _ HJ'.out (((((((Below.refl _ _).setCell (by simp) _).setCell (by simp) _).setCell (by simp) _).setCell (by simp) _).setCell (by simp) _).setCell (by simp) _)
end Go.Proofs.Ytpahbpgkmebieaa
