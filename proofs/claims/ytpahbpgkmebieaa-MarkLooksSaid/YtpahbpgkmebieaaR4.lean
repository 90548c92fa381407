/- The places of a set. Own text. -/
import Derived.Test.YtpahbpgkmebieaaW21
namespace Go.Proofs.Ytpahbpgkmebieaa
open Go Go.RowKit
set_option maxHeartbeats 400000
set_option maxRecDepth 100000

/-- Does a set have a place? -/
def bitB (s k : Nat) : Bool := bits BinOp.and IntKind.i64 ((s : Int) / 2 ^ (5 - k)) 1 == 1
/-- The places of a set below k, rising. -/
def plK (s : Nat) : Nat → List Int
  | 0 => []
  | k + 1 => if bitB s k = true then plK s k ++ [(k : Int)] else plK s k
theorem plK_len (s k : Nat) : (plK s k).length ≤ k := by
  induction k with
  | zero => exact Nat.le_refl _
  | succ k ih =>
    unfold plK
    split
    · simp; omega
    · omega
theorem plK_in (s k : Nat) : ∀ x ∈ plK s k, 0 ≤ x ∧ x < k := by
  induction k with
  | zero => intro x hx; simp [plK] at hx
  | succ k ih =>
    intro x hx
    unfold plK at hx
    split at hx
    · rcases List.mem_append.1 hx with h | h
      · have := ih x h; omega
      · simp at h; omega
    · have := ih x hx; omega

theorem placesOf_any (s : Nat) (hs : s < 64) (w : World) :
    Calls Try.prog 111 #[.int .i64 s] w fun e w' => ∃ v, e = .returned v ∧ w'.ownsRow w.heap.size 3 1 v (plK s 6).length (ints (plK s 6)) ∧ Below w.heap.size w w' := by
  obtain ⟨i0, hi, hz0, hz1, hz2⟩ := info_parts info3
  have HI := Lib.hid hi
  have HZ0 := Lib.hid hz0
  have HZ1 := Lib.hid hz1
  have HZ2 := Lib.hid hz2
  clear hi hz0 hz1 hz2
  go_enter Try.func111, Try.ntmps111
  go_wp2
  go_loopw [3, 5] (fun v i wr => ∃ (k : Nat) (z : Gr), k ≤ 6 ∧ i = .int .i64 k ∧ wr = grow w z ∧ (grow w z).ownsRow w.heap.size 3 1 v (plK s k).length (ints (plK s k))) (fun _ i _ => 6 - (intOf i).toNat)
  case atStart => exact ⟨0, ⟨#[], w.drawn⟩, by omega, rfl, by simp [grow], World.ownsRow_nil _ _ _ _⟩
  case round =>
    obtain ⟨k, z, hk, rfl, rfl, hown⟩ := hrel
    have Hown := Lib.hid hown; clear hown
    by_cases hlt : k < 6
    · have hln := plK_len s k
      have Hy : Hid (bitB s k = true → plK s (k + 1) = plK s k ++ [(k : Int)]) := Lib.hid (fun h => by rw [plK, if_pos h])
      have Hn : Hid (bitB s k = false → plK s (k + 1) = plK s k) := Lib.hid (fun h => by rw [plK, if_neg (by rw [h]; simp)])
      generalize hX : plK s k = X at *
      have HX := Lib.hid hX
      clear hX
      generalize hnX : X.length = nX at *
      have HnX := Lib.hid hnX
      clear hnX
      cases hh : bitB s k
      · have Hh := Lib.hid hh
        have hb : (bits BinOp.and IntKind.i64 ((s : Int) / 2 ^ (5 - k)) 1 == 1) = false := hh
        clear hh
        go_wp2
        refine ⟨⟨k + 1, z, by omega, by go_num, rfl, ?_⟩, by simp [intOf]; omega⟩
        rw [Hn.out Hh.out, HnX.out]; exact Hown.out
      · have Hh := Lib.hid hh
        have hb : (bits BinOp.and IntKind.i64 ((s : Int) / 2 ^ (5 - k)) 1 == 1) = true := hh
        clear hh
        go_wp2_with (at_builtin; refine wpList_append_own _ rfl _ _ 54 rfl w.heap.size 3 i0 (.int .i64 0) 1 8 Try.underlying54 HI.out HZ0.out HZ1.out HZ2.out rfl (by decide) _ _ _ rfl (Hown.out.alloc _) ⟨w.heap.size + z.blocks.size, 0, none⟩ 1 1 [.int .i64 k] rfl rfl ?c1 ?c2 ?c3 ?c4 ?c5 ?_)
        case c1 =>
          intro j u hu
          rw [Addr.add_lit, World.cell?_alloc_at _ _ _ _ (by simp), Nat.zero_add]
          simpa using hu
        case c2 => intro u hu; simp at hu; subst hu; rfl
        case c3 => unfold maxLen; omega
        case c4 => omega
        case c5 => simp; omega
        intro v' w' hown' hgr _
        have hbel : Below w.heap.size w w' := (up (grow_below w z) (up_alloc _ _)).grown hgr (by simp; omega) (fun q hq => (Hown.out.lt q hq).1)
        have Hown' := Lib.hid hown'
        clear hown' hgr
        obtain ⟨y3, rfl⟩ := below_grow hbel
        go_wp2
        refine ⟨⟨k + 1, y3, by omega, by go_num, rfl, ?_⟩, by simp [intOf]; omega⟩
        rw [Hy.out Hh.out, ints_snoc, List.length_append, HnX.out]
        exact Hown'.out
    · obtain rfl : k = 6 := by omega
      go_wp2
      go_ret
      exact ⟨_, rfl, Hown.out, grow_below w z⟩
end Go.Proofs.Ytpahbpgkmebieaa
