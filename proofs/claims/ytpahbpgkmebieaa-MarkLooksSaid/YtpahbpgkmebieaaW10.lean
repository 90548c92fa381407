/- Lists of numbers: owners of marks, the first error, where a number is. Own text. -/
import Derived.Test.YtpahbpgkmebieaaW9
import Derived.OwnWalk
namespace Go.Proofs.Ytpahbpgkmebieaa
open Go.RowKit
set_option maxHeartbeats 400000
set_option maxRecDepth 100000

/-- Numbers as values; the owners of marks. -/
def ints (l : List Int) : List Value := l.map (Value.int .i64)
def own (gs : List Giv) : List Int := gs.map Giv.o
theorem ints_snoc (l : List Int) (x : Int) : ints (l ++ [x]) = ints l ++ [.int .i64 x] := by simp [ints]
theorem own_snoc (l : List Giv) (x : Giv) : own (l ++ [x]) = own l ++ [x.o] := by simp [own]
/-- A slice holds these numbers. -/
structure Is (w : World) (A : Option Addr) (n : Nat) (l : List Int) : Prop where
  len : n = l.length
  small : n ≤ 9223372036854775807
  get : ∀ k (h : k < l.length), ∃ b o, A = some ⟨b, o, none⟩ ∧ b < w.heap.size ∧ w.cell? ⟨b, o + k, none⟩ = some (.int .i64 l[k])
theorem Is.keep {w w' : World} {A : Option Addr} {n : Nat} {l : List Int} (h : Is w A n l) (hb : Below w.heap.size w w') : Is w' A n l :=
  ⟨h.len, h.small, fun k hk => by
    obtain ⟨b, o, e, hlt, hg⟩ := h.get k hk
    exact ⟨b, o, e, by have := hb.size; omega, (hb.cell (p := ⟨b, o + k, none⟩) hlt).trans hg⟩⟩
/-- A function hands back a slice of its own with these numbers. -/
theorem Is.of_own {w : World} {base n : Nat} {v : Value} {l : List Int} (h : w.ownsRow base 3 1 v n (ints l)) : ∃ A c, v = .slice A n c ∧ n ≤ c ∧ Is w A n l := by
  have hl : n = l.length := by have := h.1; simp [ints] at this; omega
  rcases h.2 with ⟨rfl, rfl⟩ | ⟨g, cap, cur, rfl, _, hg, hnc, hcm, hcs, htk⟩
  · exact ⟨none, 0, rfl, Nat.le_refl _, hl, by omega, fun k hk => by omega⟩
  · refine ⟨some ⟨g, 0, none⟩, cap, rfl, hnc, hl, by unfold maxLen at hcm; omega, fun k hk => ⟨g, 0, rfl, (Array.getElem?_eq_some_iff.1 hg).1, ?_⟩⟩
    have := h.cells (g := g) rfl k (.int .i64 l[k]) (by simp [ints, hk])
    rw [Nat.zero_add]; rw [Addr.add_lit] at this; simpa using this

theorem info3 : (Try.prog.info? 3).map (fun i => (i.zero, i.size, i.bytes)) = some (some (.int .i64 0), 1, 8) := by kernel_rfl

theorem ownersOf_any (A : Option Addr) (n c : Nat) (gs : List Giv) (w : World) (hg : Gs w A n gs) (hr : n ≤ 17592186044416) :
    Calls Try.prog 84 #[.slice A n c] w fun e w' => ∃ v, e = .returned v ∧ w'.ownsRow w.heap.size 3 1 v n (ints (own gs)) ∧ Below w.heap.size w w' := by
  have hn := hg.small
  have Hl : Hid (n = gs.length) := Lib.hid hg.len
  obtain ⟨i0, hi, hz0, hz1, hz2⟩ := info_parts info3
  have HI := Lib.hid hi
  have HZ0 := Lib.hid hz0
  have HZ1 := Lib.hid hz1
  have HZ2 := Lib.hid hz2
  clear hi hz0 hz1 hz2
  go_enter Try.func84, Try.ntmps84
  go_wp2
  go_loopw [3, 8] (fun v i wr => ∃ (k : Nat) (z : Gr), k ≤ n ∧ i = .int .i64 k ∧ wr = grow w z ∧ (grow w z).ownsRow w.heap.size 3 1 v k (ints (own (gs.take k)))) (fun _ i _ => n - (intOf i).toNat)
  case atStart => exact ⟨0, ⟨#[], w.drawn⟩, by omega, rfl, by simp [grow], World.ownsRow_nil _ _ _ _⟩
  case round =>
    obtain ⟨k, z, hk, rfl, rfl, hown⟩ := hrel
    have Hown := Lib.hid hown; clear hown
    by_cases hlt : k < n
    · have hkl : k < gs.length := by rw [← Hl.out]; exact hlt
      have Htk : Hid (ints (own (gs.take (k + 1))) = ints (own (gs.take k)) ++ [.int .i64 gs[k].o]) := Lib.hid (by rw [List.take_succ_eq_append_getElem hkl, own_snoc, ints_snoc])
      generalize hX : ints (own (gs.take k)) = X at *
      have HX := Lib.hid hX; clear hX
      obtain ⟨b, o, rfl, hb, hc⟩ := hg.get k hkl
      obtain ⟨c0, c1, c2, c3, c4, c5, c6⟩ := hc
      generalize gs[k] = g at *
      have e5 : b < w.heap.size + z.blocks.size := by omega
      go_wp2_with (at_builtin; refine wpList_append_own _ rfl _ _ 54 rfl w.heap.size 3 i0 (.int .i64 0) 1 8 Try.underlying54 HI.out HZ0.out HZ1.out HZ2.out rfl (by decide) _ _ _ rfl ((Hown.out.alloc _).alloc _) ⟨w.heap.size + z.blocks.size + 1, 0, none⟩ 1 1 [.int .i64 g.o] rfl rfl ?c1 ?c2 ?c3 ?c4 ?c5 ?_)
      case c1 =>
        intro j u hu
        cases j with
        | zero => simp at hu; subst hu; simp [Addr.add_lit, go_sem]
        | succ j => simp at hu
      case c2 => intro u hu; simp at hu; subst hu; rfl
      case c3 => unfold maxLen; omega
      case c4 => omega
      case c5 => simp; omega
      intro v' w' hown' hgr _
      have hbel : Below w.heap.size w w' := (up (grow_below w z) (up (up_alloc _ _) (up_alloc _ _))).grown hgr (by simp; omega) (fun q hq => (Hown.out.lt q hq).1)
      have Hown' := Lib.hid hown'
      clear hown' hgr
      obtain ⟨y, rfl⟩ := below_grow hbel
      go_wp2
      refine ⟨⟨k + 1, y, by omega, by go_num, rfl, ?_⟩, by simp [intOf]; omega⟩
      rw [Htk.out]; exact Hown'.out
    · obtain rfl : k = n := by omega
      go_wp2
      go_ret
      refine ⟨_, rfl, ?_, grow_below w z⟩
      have := Hown.out
      rw [List.take_of_length_le (by rw [← Hl.out]; exact Nat.le_refl _)] at this
      exact this
end Go.Proofs.Ytpahbpgkmebieaa
