/- Slices of given marks; whether a mark is near one of them. Own text. -/
import Derived.Test.YtpahbpgkmebieaaW3
namespace Go.Proofs.Ytpahbpgkmebieaa
open Go.RowKit
set_option maxHeartbeats 400000
set_option maxRecDepth 100000

/-- A given mark: its owner, its signs. -/
structure Giv where
  o : Int
  m0 : Int
  m1 : Int
  m2 : Int
  m3 : Int
  m4 : Int
  m5 : Int
instance : Inhabited Giv := ⟨⟨0, 0, 0, 0, 0, 0, 0⟩⟩
/-- The signs are signs. -/
def Giv.ok (g : Giv) : Prop := (0 ≤ g.m0 ∧ g.m0 < 5) ∧ (0 ≤ g.m1 ∧ g.m1 < 5) ∧ (0 ≤ g.m2 ∧ g.m2 < 5) ∧ (0 ≤ g.m3 ∧ g.m3 < 5) ∧ (0 ≤ g.m4 ∧ g.m4 < 5) ∧ (0 ≤ g.m5 ∧ g.m5 < 5)
/-- It lies there. -/
structure GivAt (w : World) (b o : Nat) (g : Giv) : Prop where
  c0 : w.cell? ⟨b, o, none⟩ = some (.int .i64 g.o)
  c1 : w.cell? ⟨b, o + 1, none⟩ = some (.int .i64 g.m0)
  c2 : w.cell? ⟨b, o + 2, none⟩ = some (.int .i64 g.m1)
  c3 : w.cell? ⟨b, o + 3, none⟩ = some (.int .i64 g.m2)
  c4 : w.cell? ⟨b, o + 4, none⟩ = some (.int .i64 g.m3)
  c5 : w.cell? ⟨b, o + 5, none⟩ = some (.int .i64 g.m4)
  c6 : w.cell? ⟨b, o + 6, none⟩ = some (.int .i64 g.m5)
/-- A slice holds these. -/
structure Gs (w : World) (A : Option Addr) (n : Nat) (gs : List Giv) : Prop where
  len : n = gs.length
  small : n < 9223372036854775807
  get : ∀ k (h : k < gs.length), ∃ b o, A = some ⟨b, o, none⟩ ∧ b < w.heap.size ∧ GivAt w b (o + k * 7) gs[k]

theorem GivAt.keep {w w' : World} {b o : Nat} {g : Giv} (h : GivAt w b o g) (hb : ∀ j, w'.cell? ⟨b, j, none⟩ = w.cell? ⟨b, j, none⟩) : GivAt w' b o g :=
  ⟨(hb _).trans h.c0, (hb _).trans h.c1, (hb _).trans h.c2, (hb _).trans h.c3, (hb _).trans h.c4, (hb _).trans h.c5, (hb _).trans h.c6⟩
theorem Gs.keep {w w' : World} {A : Option Addr} {n : Nat} {gs : List Giv} (h : Gs w A n gs) (hb : Below w.heap.size w w') : Gs w' A n gs :=
  ⟨h.len, h.small, fun k hk => by
    obtain ⟨b, o, e, hlt, hg⟩ := h.get k hk
    exact ⟨b, o, e, by have := hb.size; omega, hg.keep fun j => hb.cell (p := ⟨b, j, none⟩) hlt⟩⟩
theorem Gs.take {w : World} {A : Option Addr} {n : Nat} {gs : List Giv} (h : Gs w A n gs) (i : Nat) (hi : i ≤ n) : Gs w A i (gs.take i) := by
  have hl := h.len
  have hs := h.small
  refine ⟨by simp; omega, by omega, fun k hk => ?_⟩
  have hk' : k < gs.length := by simp at hk; omega
  obtain ⟨b, o, e, hlt, hg⟩ := h.get k hk'
  exact ⟨b, o, e, hlt, by rw [List.getElem_take]; exact hg⟩

/-- Are two marks apart? -/
def apartB (w0 w1 w2 w3 w4 p a0 a1 a2 a3 a4 a5 b0 b1 b2 b3 b4 b5 : Int) : Bool := !same6 a0 a1 a2 a3 a4 a5 b0 b1 b2 b3 b4 b5 && decide (2 * p < wdist w0 w1 w2 w3 w4 a0 a1 a2 a3 a4 a5 b0 b1 b2 b3 b4 b5)

theorem apart_any (w0 w1 w2 w3 w4 p a0 a1 a2 a3 a4 a5 b0 b1 b2 b3 b4 b5 : Int) (w : World) (ha0 : 0 ≤ a0) (ka0 : a0 < 5) (ha1 : 0 ≤ a1) (ka1 : a1 < 5) (ha2 : 0 ≤ a2) (ka2 : a2 < 5) (ha3 : 0 ≤ a3) (ka3 : a3 < 5) (ha4 : 0 ≤ a4) (ka4 : a4 < 5) (ha5 : 0 ≤ a5) (ka5 : a5 < 5) (hb0 : 0 ≤ b0) (kb0 : b0 < 5) (hb1 : 0 ≤ b1) (kb1 : b1 < 5) (hb2 : 0 ≤ b2) (kb2 : b2 < 5) (hb3 : 0 ≤ b3) (kb3 : b3 < 5) (hb4 : 0 ≤ b4) (kb4 : b4 < 5) (hb5 : 0 ≤ b5) (kb5 : b5 < 5) (hp : 0 ≤ p) (hp2 : p ≤ 2) :
    Calls Try.prog 81 #[.agg #[.int .i64 w0, .int .i64 w1, .int .i64 w2, .int .i64 w3, .int .i64 w4], .int .i64 p, .agg #[.int .i64 a0, .int .i64 a1, .int .i64 a2, .int .i64 a3, .int .i64 a4, .int .i64 a5], .agg #[.int .i64 b0, .int .i64 b1, .int .i64 b2, .int .i64 b3, .int .i64 b4, .int .i64 b5]] w fun e w' => e = .returned (.bool (apartB w0 w1 w2 w3 w4 p a0 a1 a2 a3 a4 a5 b0 b1 b2 b3 b4 b5)) ∧ Below w.heap.size w w' := by
  cases hs : same6 a0 a1 a2 a3 a4 a5 b0 b1 b2 b3 b4 b5
  · refine (apart_yes w0 w1 w2 w3 w4 p a0 a1 a2 a3 a4 a5 b0 b1 b2 b3 b4 b5 w ha0 ka0 ha1 ka1 ha2 ka2 ha3 ka3 ha4 ka4 ha5 ka5 hb0 kb0 hb1 kb1 hb2 kb2 hb3 kb3 hb4 kb4 hb5 kb5 hp hp2 hs).mono fun e w' h => ⟨?_, h.2⟩
    rw [h.1]; unfold apartB; rw [hs]; rfl
  · refine (apart_no w0 w1 w2 w3 w4 p a0 a1 a2 a3 a4 a5 b0 b1 b2 b3 b4 b5 w hs).mono fun e w' h => ⟨?_, h.2⟩
    rw [h.1]; unfold apartB; rw [hs]; rfl

def nearB (w0 w1 w2 w3 w4 p m0 m1 m2 m3 m4 m5 : Int) (gs : List Giv) : Bool := gs.any fun g => !apartB w0 w1 w2 w3 w4 p g.m0 g.m1 g.m2 g.m3 g.m4 g.m5 m0 m1 m2 m3 m4 m5

theorem near_any (w0 w1 w2 w3 w4 p m0 m1 m2 m3 m4 m5 : Int) (A : Option Addr) (n c : Nat) (gs : List Giv) (w : World) (hm0 : 0 ≤ m0) (km0 : m0 < 5) (hm1 : 0 ≤ m1) (km1 : m1 < 5) (hm2 : 0 ≤ m2) (km2 : m2 < 5) (hm3 : 0 ≤ m3) (km3 : m3 < 5) (hm4 : 0 ≤ m4) (km4 : m4 < 5) (hm5 : 0 ≤ m5) (km5 : m5 < 5) (hp : 0 ≤ p) (hp2 : p ≤ 2) (hg : Gs w A n gs) (hok : ∀ g ∈ gs, g.ok) :
    Calls Try.prog 72 #[.agg #[.int .i64 w0, .int .i64 w1, .int .i64 w2, .int .i64 w3, .int .i64 w4], .int .i64 p, .slice A n c, .agg #[.int .i64 m0, .int .i64 m1, .int .i64 m2, .int .i64 m3, .int .i64 m4, .int .i64 m5]] w fun e w' => e = .returned (.bool (nearB w0 w1 w2 w3 w4 p m0 m1 m2 m3 m4 m5 gs)) ∧ Below w.heap.size w w' := by
  have hn := hg.small
  have Hl : Hid (n = gs.length) := hg.len
  go_enter Try.func72, Try.ntmps72
  go_wp2
  generalize hW : (World.alloc _ _) = W
  have HW : Hid (Below w.heap.size w W) := Lib.hid (by subst hW; go_grown)
  have hs : w.heap.size + 1 < W.heap.size := by subst hW; simp
  have ca : ∀ j, W.cell? ⟨w.heap.size, j, none⟩ = [Value.int .i64 w0, Value.int .i64 w1, Value.int .i64 w2, Value.int .i64 w3, Value.int .i64 w4][j]? := by subst hW; intro j; simp [go_sem]
  have cb : ∀ j, W.cell? ⟨w.heap.size + 1, j, none⟩ = [Value.int .i64 m0, Value.int .i64 m1, Value.int .i64 m2, Value.int .i64 m3, Value.int .i64 m4, Value.int .i64 m5][j]? := by subst hW; intro j; simp [go_sem]
  clear hW
  have hg1 := hg.keep HW.out
  go_loopw [13] (fun i wr => ∃ (k : Nat) (z : Gr), k ≤ n ∧ i = .int .i64 k ∧ wr = grow W z ∧ (gs.take k).any (fun g => !apartB w0 w1 w2 w3 w4 p g.m0 g.m1 g.m2 g.m3 g.m4 g.m5 m0 m1 m2 m3 m4 m5) = false) (fun i _ => n - (intOf i).toNat)
  case atStart => exact ⟨0, ⟨#[], W.drawn⟩, by omega, rfl, by simp [grow], by simp⟩
  case round =>
    obtain ⟨k, z, hk, rfl, rfl, hany⟩ := hrel
    have Hany := Lib.hid hany; clear hany
    have hsz : w.heap.size + 1 < (grow W z).heap.size := by simp; omega
    by_cases hlt : k < n
    · obtain ⟨b, o, rfl, hb, hc⟩ := hg1.get k (by rw [← Hl.out]; exact hlt)
      obtain ⟨c0, c1, c2, c3, c4, c5, c6⟩ := hc
      obtain ⟨⟨p0, q0⟩, ⟨p1, q1⟩, ⟨p2, q2⟩, ⟨p3, q3⟩, ⟨p4, q4⟩, ⟨p5, q5⟩⟩ := hok _ (List.getElem_mem (l := gs) (by rw [← Hl.out]; exact hlt : k < gs.length))
      generalize hgk : gs[k]'(by rw [← Hl.out]; exact hlt) = g at *
      have Hgk := Lib.hid hgk; clear hgk
      have e1 : w.heap.size < W.heap.size + z.blocks.size := by omega
      have e2 : w.heap.size + 1 < W.heap.size + z.blocks.size := by omega
      have e3 : w.heap.size < W.heap.size + z.blocks.size + 1 := by omega
      have e4 : w.heap.size + 1 < W.heap.size + z.blocks.size + 1 := by omega
      have Hnx : Hid ((gs.take (k + 1)).any (fun g => !apartB w0 w1 w2 w3 w4 p g.m0 g.m1 g.m2 g.m3 g.m4 g.m5 m0 m1 m2 m3 m4 m5) = !apartB w0 w1 w2 w3 w4 p g.m0 g.m1 g.m2 g.m3 g.m4 g.m5 m0 m1 m2 m3 m4 m5) := by
        show _ = _
        rw [List.take_succ_eq_append_getElem (by rw [← Hl.out]; exact hlt), List.any_append, Hany.out, Hgk.out]; simp
      cases hap : apartB w0 w1 w2 w3 w4 p g.m0 g.m1 g.m2 g.m3 g.m4 g.m5 m0 m1 m2 m3 m4 m5
      all_goals
        have Hap := Lib.hid hap
        clear hap
        go_wp2_with (go_at_call 81; refine (apart_any _ _ _ _ _ _ _ _ _ _ _ _ _ _ _ _ _ _ _ (by assumption) (by assumption) (by assumption) (by assumption) (by assumption) (by assumption) (by assumption) (by assumption) (by assumption) (by assumption) (by assumption) (by assumption) hm0 km0 hm1 km1 hm2 km2 hm3 km3 hm4 km4 hm5 km5 hp hp2).mono ?_; rintro e x1 ⟨rfl, hb1⟩; rw [Hap.out])
      · go_ret
        refine ⟨?_, up HW.out (up (grow_below W z) (up (up_alloc _ _) hb1))⟩
        refine congrArg (fun b => Ending.returned (Value.bool b)) ?_
        have hm := List.getElem_mem (l := gs) (by rw [← Hl.out]; exact hlt : k < gs.length)
        rw [Hgk.out] at hm
        exact (List.any_eq_true.2 ⟨g, hm, by rw [Hap.out]; rfl⟩).symm
      · obtain ⟨y, rfl⟩ := below_grow (up (grow_below W z) (up (up_alloc _ _) hb1))
        refine ⟨⟨k + 1, y, by omega, by go_num, rfl, ?_⟩, by simp [intOf]; omega⟩
        rw [Hnx.out, Hap.out]; rfl
    · go_wp2
      go_ret
      refine ⟨?_, up HW.out (grow_below W z)⟩
      refine congrArg (fun b => Ending.returned (Value.bool b)) ?_
      obtain rfl : k = n := by omega
      have := Hany.out
      rw [Hl.out, List.take_length] at this
      exact this.symm
end Go.Proofs.Ytpahbpgkmebieaa
