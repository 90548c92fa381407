/- The lists of so many places, as the program yields them. Own text. -/
import Derived.Test.YtpahbpgkmebieaaR3
import Derived.Test.YtpahbpgkmebieaaR4
namespace Go.Proofs.Ytpahbpgkmebieaa
open Go Go.RowKit Go.Shelf
attribute [local go_sem] Oper.semAt_some
set_option maxHeartbeats 400000
set_option maxRecDepth 100000

/-- The lists of n places of the first m sets, from the greatest set down. -/
def procL (n : Nat) : Nat → List (List Int)
  | 0 => []
  | m + 1 => if (plK (63 - m) 6).length = n then procL n m ++ [plK (63 - m) 6] else procL n m
def encL (x : List Int × Value) : Array Value := #[x.2]
/-- A list that is yielded lies there. -/
def LiesL (B : Nat) (x : List Int × Value) (X : World) : Prop := ∃ A k c, x.2 = .slice A k c ∧ k ≤ c ∧ Is X A k x.1 ∧ ∀ p, A = some p → B ≤ p.block
theorem Is.of_own2 {w : World} {base n : Nat} {v : Value} {l : List Int} (h : w.ownsRow base 3 1 v n (ints l)) : ∃ A c, v = .slice A n c ∧ n ≤ c ∧ Is w A n l ∧ ∀ p, A = some p → base ≤ p.block := by
  obtain ⟨A, c, rfl, hnc, his⟩ := Is.of_own h
  refine ⟨A, c, rfl, hnc, his, ?_⟩
  rintro p rfl
  rcases h.2 with ⟨h1, h2⟩ | ⟨g, cap, cur, h1, h2, _⟩
  · cases h1
  · cases h1; exact h2

theorem lists_iter (n nb : Nat) (w : World) (hnb : nb < w.heap.size) :
    Iter Try.prog 110 #[.pointer (some ⟨nb, 0, none⟩)] encL LiesL (fun X => X.cell? ⟨nb, 0, none⟩ = some (.int .i64 n))
      (fun xs => xs.map Prod.fst = procL n 64) (fun pre => ∃ m, m < 64 ∧ (plK (63 - m) 6).length = n ∧ pre.map Prod.fst = procL n (m + 1)) w := by
  intro N l J Jx W hn hW hJ hKx hY h0
  refine callsIn_of_wp Try.func110 rfl trivial ?_ rfl
  simp only [Try.ntmps110, List.size_toArray, List.length_cons, List.length_nil, Nat.reduceAdd, Nat.reduceSub, Array.replicate_succ, Array.replicate_zero, List.push_toArray, List.append_toArray, List.nil_append, List.cons_append]
  have HJ := Lib.hid hJ
  have HY := Lib.hid hY
  have HKx := Lib.hid hKx
  clear hJ hY hKx
  gi_wp2
  gi_loopw [3] (fun s wr => ∃ (t : Nat) (pre : List (List Int × Value)), t ≤ 64 ∧ s = .int .i64 ((t : Int) - 1) ∧ pre.map Prod.fst = procL n (64 - t) ∧ J pre wr ∧ W.heap.size ≤ wr.heap.size) (fun s _ => (intOf s + 1).toNat)
  case atStart => exact ⟨64, [], by omega, rfl, rfl, h0, by omega⟩
  case round =>
    obtain ⟨t, pre, ht, rfl, hpre, hjp, hsz⟩ := hrel
    have Hpre := Lib.hid hpre
    clear hpre
    cases t with
    | zero =>
      gi_wp2
      exact bodyPost_end (results_none rfl _ _ _) rfl ⟨⟨_, rfl⟩, .inl ⟨pre, Hpre.out, hjp⟩⟩
    | succ t =>
      have Hp : Hid ((plK t 6).length = n → procL n (64 - t) = procL n (64 - (t + 1)) ++ [plK t 6]) := Lib.hid (fun h => by
        obtain ⟨m, hm⟩ : ∃ m, 64 - t = m + 1 := ⟨63 - t, by omega⟩
        rw [hm, show 64 - (t + 1) = m by omega, procL, show 63 - m = t by omega, if_pos h])
      have Hq : Hid ((plK t 6).length ≠ n → procL n (64 - t) = procL n (64 - (t + 1))) := Lib.hid (fun h => by
        obtain ⟨m, hm⟩ : ∃ m, 64 - t = m + 1 := ⟨63 - t, by omega⟩
        rw [hm, show 64 - (t + 1) = m by omega, procL, show 63 - m = t by omega, if_neg h])
      have e1 : ((t + 1 : Nat) : Int) - 1 = (t : Int) := by omega
      rw [e1]
      have cn : wr.cell? ⟨nb, 0, none⟩ = some (.int .i64 n) := HKx.out _ _ hjp
      have hnw : nb < wr.heap.size := by have := hW.size; omega
      by_cases hlen : (plK t 6).length = n
      · have Hlen := Lib.hid hlen
        gi_wp2_with (refine ⟨trivial, fun h => (by cases h), (callsIn_wide.2 (placesOf_any t (by omega) wr)).mono ?_⟩; rintro e x1 ⟨v, rfl, hown, hb1⟩; obtain ⟨A0, c0, rfl, hkc, his, hfar⟩ := Is.of_own2 hown; clear hown; have cn1 : x1.cell? ⟨nb, 0, none⟩ = some (.int .i64 n) := (hb1.cell (p := ⟨nb, 0, none⟩) hnw).trans cn; have HJ1 := Lib.hid (HJ.out _ _ _ hjp (hb1.mono hsz)); obtain ⟨fn, tmps, assign, body, hy, hR⟩ := HY.out pre (plK t 6, .slice A0 (plK t 6).length c0) x1 ⟨63 - t, by omega, by rw [show 63 - (63 - t) = t by omega]; exact hlen, by rw [List.map_append, Hpre.out, show 63 - t + 1 = 64 - t by omega, Hp.out hlen]; rfl⟩ ⟨_, _, _, rfl, hkc, his, fun p hp => Nat.le_trans hsz (hfar p hp)⟩ HJ1.out (by have := hb1.size; omega); dsimp only [encL] at hy; rw [hlen] at hy ⊢)
        refine ⟨fun h => (by cases h), hR.mono ?_⟩
        rintro e W' (⟨rfl, hJ', hAb⟩ | ⟨rfl, hJx'⟩)
        · have hs2 : W.heap.size ≤ W'.heap.size := by have := hb1.size; have := hAb.size; omega
          have HJ' := Lib.hid hJ'
          clear hJ' hR hy
          gi_wp2
          refine ⟨⟨t, _, by omega, by go_num, ?_, HJ'.out, hs2⟩, by simp [intOf]⟩
          rw [List.map_append, Hpre.out, Hp.out Hlen.out]; rfl
        · have HJx := Lib.hid hJx'
          clear hJx' hR hy
          gi_wp2
          refine bodyPost_ret (results_none rfl _ _ _) rfl ⟨⟨_, rfl⟩, .inr ⟨_, ⟨63 - t, by omega, by rw [show 63 - (63 - t) = t by omega]; exact Hlen.out, ?_⟩, HJx.out⟩⟩
          rw [List.map_append, Hpre.out, show 63 - t + 1 = 64 - t by omega, Hp.out Hlen.out]; rfl
      · have Hlen := Lib.hid hlen
        have hlb : (((plK t 6).length : Int) == (n : Int)) = false := by simp; omega
        gi_wp2_with (refine ⟨trivial, fun h => (by cases h), (callsIn_wide.2 (placesOf_any t (by omega) wr)).mono ?_⟩; rintro e x1 ⟨v, rfl, hown, hb1⟩; obtain ⟨A0, c0, rfl, hkc, his⟩ := Is.of_own hown; clear hown; have cn1 : x1.cell? ⟨nb, 0, none⟩ = some (.int .i64 n) := (hb1.cell (p := ⟨nb, 0, none⟩) hnw).trans cn)
        refine ⟨fun f h => (by cases h), ?_⟩
        have hs2 : W.heap.size ≤ x1.heap.size := by have := hb1.size; omega
        have HJ1 := Lib.hid (HJ.out _ _ _ hjp (hb1.mono hsz))
        gi_wp2
        refine ⟨⟨t, pre, by omega, by go_num, ?_, HJ1.out, hs2⟩, by simp [intOf]⟩
        rw [Hpre.out, Hq.out Hlen.out]
end Go.Proofs.Ytpahbpgkmebieaa
