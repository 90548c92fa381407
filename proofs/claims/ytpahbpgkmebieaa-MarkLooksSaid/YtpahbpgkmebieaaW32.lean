/- Places of the reference: whether a list is one, which a number chooses, which list is ahead. Own text. -/
import Derived.Test.YtpahbpgkmebieaaW31
namespace Go.Proofs.Ytpahbpgkmebieaa
open Go Go.RowKit
set_option maxHeartbeats 400000
set_option maxRecDepth 100000

theorem p2n6 (k : Nat) (h : k < 6) : wrap64 ((2 : Int) ^ k) = 2 ^ k := by
  rcases (by omega : k = 0 ∨ k = 1 ∨ k = 2 ∨ k = 3 ∨ k = 4 ∨ k = 5) with rfl | rfl | rfl | rfl | rfl | rfl <;> simp [wrap64]
/-- The places that the bits of a number choose. -/
def chK (a : Int) : Nat → List Int
  | 0 => []
  | k + 1 => if hasB a k = true then chK a k ++ [(k : Int)] else chK a k
theorem chK_len (a : Int) (k : Nat) : (chK a k).length ≤ k := by
  induction k with
  | zero => exact Nat.le_refl _
  | succ k ih =>
    unfold chK
    split
    · simp; omega
    · omega

theorem chosen_any (a : Int) (w : World) :
    Calls Try.prog 96 #[.int .i64 a] w fun e w' => ∃ v, e = .returned v ∧ w'.ownsRow w.heap.size 3 1 v (chK a 6).length (ints (chK a 6)) ∧ Below w.heap.size w w' := by
  obtain ⟨i0, hi, hz0, hz1, hz2⟩ := info_parts info3
  have HI := Lib.hid hi
  have HZ0 := Lib.hid hz0
  have HZ1 := Lib.hid hz1
  have HZ2 := Lib.hid hz2
  clear hi hz0 hz1 hz2
  go_enter Try.func96, Try.ntmps96
  go_wp2
  go_loopw [3, 4] (fun v i wr => ∃ (k : Nat) (z : Gr), k ≤ 6 ∧ i = .int .i64 k ∧ wr = grow w z ∧ (grow w z).ownsRow w.heap.size 3 1 v (chK a k).length (ints (chK a k))) (fun _ i _ => 6 - (intOf i).toNat)
  case atStart => exact ⟨0, ⟨#[], w.drawn⟩, by omega, rfl, by simp [grow], World.ownsRow_nil _ _ _ _⟩
  case round =>
    obtain ⟨k, z, hk, rfl, rfl, hown⟩ := hrel
    have Hown := Lib.hid hown; clear hown
    by_cases hlt : k < 6
    · have hln := chK_len a k
      have hp := p2n6 k hlt
      have Hy : Hid (hasB a k = true → chK a (k + 1) = chK a k ++ [(k : Int)]) := Lib.hid (fun h => by rw [chK, if_pos h])
      have Hn : Hid (hasB a k = false → chK a (k + 1) = chK a k) := Lib.hid (fun h => by rw [chK, if_neg (by rw [h]; simp)])
      generalize hX : chK a k = X at *
      have HX := Lib.hid hX
      clear hX
      generalize hnX : X.length = nX at *
      have HnX := Lib.hid hnX
      clear hnX
      cases hh : hasB a k
      · have hb1 : (bits BinOp.and IntKind.i64 a (2 ^ k) != 0) = false := hh
        have hb2 : (bits BinOp.and IntKind.i64 a (2 ^ k) == 0) = true := by simpa [bne] using hb1
        have Hh := Lib.hid hh
        clear hh
        go_wp2
        refine ⟨⟨k + 1, z, by omega, by go_num, rfl, ?_⟩, by simp [intOf]; omega⟩
        rw [Hn.out Hh.out, HnX.out]; exact Hown.out
      · have hb1 : (bits BinOp.and IntKind.i64 a (2 ^ k) != 0) = true := hh
        have hb2 : (bits BinOp.and IntKind.i64 a (2 ^ k) == 0) = false := by simpa [bne] using hb1
        have Hh := Lib.hid hh
        clear hh
        go_wp2_with (at_builtin; refine wpList_append_own _ rfl _ _ 54 rfl w.heap.size 3 i0 (.int .i64 0) 1 8 Try.underlying54 HI.out HZ0.out HZ1.out HZ2.out rfl (by decide) _ _ _ rfl (Hown.out.alloc _) ⟨w.heap.size + z.blocks.size, 0, none⟩ 1 1 [.int .i64 k] rfl rfl ?c1 ?c2 ?c3 ?c4 ?c5 ?_)
        case c1 =>
          intro j u hu
          rw [Addr.add_lit, World.cell?_alloc_at _ _ _ _ (by simp), Nat.zero_add]
          simpa using hu
        case c2 => intro u hu; simp at hu; subst hu; rfl
        case c3 => unfold maxLen; omega
        case c4 => omega
        case c5 => simp; omega
        intro v' w' hown' hgr _
        have hbel : Below w.heap.size w w' := (up (grow_below w z) (up_alloc _ _)).grown hgr (by simp; omega) (fun q hq => (Hown.out.lt q hq).1)
        have Hown' := Lib.hid hown'
        clear hown' hgr
        obtain ⟨y3, rfl⟩ := below_grow hbel
        go_wp2
        refine ⟨⟨k + 1, y3, by omega, by go_num, rfl, ?_⟩, by simp [intOf]; omega⟩
        rw [Hy.out Hh.out, ints_snoc, List.length_append, HnX.out]
        exact Hown'.out
    · obtain rfl : k = 6 := by omega
      go_wp2
      go_ret
      exact ⟨_, rfl, Hown.out, grow_below w z⟩

/-- Strictly rising places, by index. -/
def plAt (l : List Int) (k : Nat) : Bool := decide (0 ≤ l.getD k 0) && decide (l.getD k 0 ≤ 5) && (k == 0 || decide (l.getD (k - 1) 0 < l.getD k 0))
theorem riseB_snoc : ∀ (l : List Int) (p x : Int), riseB (l ++ [x]) p = (riseB l p && (decide ((p :: l).getLastD 0 < x) && decide (x < 6)))
  | [], p, x => by simp [riseB]
  | y :: r, p, x => by
    simp only [List.cons_append, riseB]
    rw [riseB_snoc r y x]
    simp only [List.getLastD_cons, Bool.and_assoc]
theorem rise_all (l : List Int) : ∀ k, k ≤ l.length → allK (plAt l) k = riseB (l.take k) (-1)
  | 0, _ => by simp [allK, riseB]
  | k + 1, hk => by
    have ih := rise_all l k (by omega)
    rw [allK, ih, List.take_succ_eq_append_getElem (by omega), riseB_snoc]
    cases hr : riseB (l.take k) (-1)
    · rfl
    · simp only [Bool.true_and]
      have hlast : ((-1 : Int) :: l.take k).getLastD 0 = if k = 0 then -1 else l.getD (k - 1) 0 := by
        by_cases h0 : k = 0
        · subst h0; simp
        · rw [if_neg h0, List.getLastD_eq_getLast?, List.getLast?_cons]
          rw [List.getLast?_take]
          simp [h0, List.getD]
          have : k - 1 < l.length := by omega
          simp [List.getElem?_eq_getElem this]
      rw [hlast]
      have hk' : k < l.length := by omega
      have e1 : l.getD k 0 = l[k] := by simp [List.getD, List.getElem?_eq_getElem hk']
      unfold plAt
      rw [e1]
      by_cases h0 : k = 0
      · subst h0
        simp
        rw [Bool.eq_iff_iff]; simp; omega
      · rw [if_neg h0]
        have h1 : k - 1 < l.length := by omega
        have hin : -1 ≤ (-1 : Int) := by omega
        have hm := riseB_in (l.take k) (-1) hin hr (l[k - 1]) (by
          rw [List.mem_take_iff_getElem]
          exact ⟨k - 1, by omega, rfl⟩)
        have e2 : l.getD (k - 1) 0 = l[k - 1] := by simp [List.getD, List.getElem?_eq_getElem h1]
        rw [e2]
        have hk0 : (k == 0) = false := by simp [h0]
        rw [hk0, Bool.false_or, Bool.eq_iff_iff]; simp; omega
end Go.Proofs.Ytpahbpgkmebieaa
