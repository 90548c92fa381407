/- Contracts of functions of the program and of the reference, a calculus of states, and plain facts: a part of a proof. Own text. -/
import Derived.Test.YtjimjdhdnkhfnaaGreatJal
import Derived.Test.YtjimjdhdnkhfnaaGreatJam
set_option linter.unusedVariables false
set_option linter.unusedSimpArgs false
set_option linter.unusedSectionVars false
namespace Go.Proofs.YtjimjdhdnkhfnaaGreat
open Go Go.RowKit
set_option maxHeartbeats 4000000
set_option maxRecDepth 100000
def zero7 : List Int := [0, 0, 0, 0, 0, 0, 0]
def ownS (jc : List Int × List Int) (n : List Int) : List Int × List Int :=
  if (n.getD 2 0 == 3 && decide (n.getD 5 0 ≥ jc.1.getD 5 0)) = true then (n, jc.2)
  else if (n.getD 2 0 == 1 && (jc.2.getD 3 0 == 0 || decide (n.getD 4 0 < jc.2.getD 4 0))) = true then (jc.1, n) else jc
def ownK (N : List (List Int)) (k : Nat) : List Int × List Int := (N.take k).foldl ownS (zero7, zero7)
def ownN (N : List (List Int)) : Int := orE [(N.foldl ownS (zero7, zero7)).1.getD 3 0, (N.foldl ownS (zero7, zero7)).2.getD 3 0]
theorem ownK_succ {N : List (List Int)} {k : Nat} (h : k < N.length) : ownK N (k + 1) = ownS (ownK N k) N[k] := by
  unfold ownK; rw [List.take_succ_eq_append_getElem h, List.foldl_append]; rfl
theorem ownK_len {N : List (List Int)} (hN : ∀ x ∈ N, x.length = 7) : ∀ k, k ≤ N.length → (ownK N k).1.length = 7 ∧ (ownK N k).2.length = 7
  | 0, _ => ⟨rfl, rfl⟩
  | k + 1, h => by
    rw [ownK_succ (by omega)]
    have ih := ownK_len hN k (by omega)
    have hk := hN N[k] (List.getElem_mem _)
    unfold ownS
    split
    · exact ⟨hk, ih.2⟩
    · split
      · exact ⟨ih.1, hk⟩
      · exact ih
theorem owner_any (h : List Int) (A : Option Addr) (n c : Nat) (B : Option Addr) (m d : Nat) (N : List (List Int)) (kn : Int) (lt : List Int) (w : World)
    (hh : h.length = 9) (hN : Rw w B m 7 N) :
    Calls Tryz.prog 148 #[.agg ⟨tld h A n c B m d kn lt⟩] w fun e w' => e = .returned (.int .i64 (ownN N)) ∧ Below w.heap.size w w' := by
  have hm := hN.small
  have Hm : Hid (m = N.length) := Lib.hid hN.len
  have HL := Lib.hid (ownK_len hN.wid)
  have HN := Lib.hid hN
  clear hN
  go_enter Tryz.func148, Tryz.ntmps148
  go_upto_region 2 with fail
  generalize hW : (World.alloc _ _) = W
  have HB : Hid (Below w.heap.size w W) := Lib.hid (by subst hW; go_grown)
  have KD : Bx W (w.heap.size) 123 (tld h A n c B m d kn lt) := by subst hW; repeat (first | (refine Bx.newAt _ _ _ ?_; first | rfl | (simp only [World.size_alloc]; done) | (simp only [World.size_alloc]; omega)) | refine Bx.old ?_ _)
  have KJ : Bx W (w.heap.size + 1) 34 (ints zero7) := by subst hW; repeat (first | (refine Bx.newAt _ _ _ ?_; first | rfl | (simp only [World.size_alloc]; done) | (simp only [World.size_alloc]; omega)) | refine Bx.old ?_ _)
  have KC : Bx W (w.heap.size + 1 + 1) 34 (ints zero7) := by subst hW; repeat (first | (refine Bx.newAt _ _ _ ?_; first | rfl | (simp only [World.size_alloc]; done) | (simp only [World.size_alloc]; omega)) | refine Bx.old ?_ _)
  have hWs : Hid (W.heap.size = w.heap.size + 1 + 1 + 1) := Lib.hid (by subst hW; simp)
  clear hW
  have KDl := KD.lt; have KDc := KD.get; have KDf := KD.fr; have KJl := KJ.lt; have KJc := KJ.get; have KJf := KJ.fr; have KCl := KC.lt; have KCc := KC.get; have KCf := KC.fr
  have c10 : W.cell? ⟨w.heap.size, 10, none⟩ = some (.slice B m d) := by rw [KD.get]; exact tld_10 hh
  clear KDc
  go_upto_region 3 with fail
  go_wp2_with fail
  have hWz := hWs.out
  clear KJl KJc KJf KCl KCc KCf
  go_loopw [10] (fun i wr => ∃ (k : Nat), k ≤ m ∧ i = .int .i64 k ∧ Bx wr (w.heap.size + 1) 34 (ints (ownK N k).1) ∧ Bx wr (w.heap.size + 1 + 1) 34 (ints (ownK N k).2) ∧ Below w.heap.size w wr) (fun i _ => m - (intOf i).toNat)
  case atStart => exact ⟨0, by omega, rfl, KJ, KC, HB.out⟩
  case round =>
    clear c10 KDl KDf KD HB KJ KC hWz
    obtain ⟨k, hk, rfl, KJ, KC, hb⟩ := hrel
    have HB := Lib.hid hb
    clear hb
    obtain ⟨l1, l2⟩ := HL.out k (by rw [← Hm.out]; exact hk)
    by_cases hkm : k < m
    · have hkl : k < N.length := by rw [← Hm.out]; exact hkm
      obtain ⟨b, o, rfl, hbl, hc⟩ := (HN.out.keep HB.out).get k hkl
      have h7 : (N[k]).length = 7 := HN.out.at hkl
      have Hs := Lib.hid (ownK_succ hkl)
      generalize ownK N k = jc at *
      generalize N[k] = q at *
      obtain ⟨j, c⟩ := jc
      obtain ⟨q0, q1, q2, q3, q4, q5, q6, rfl⟩ := list7 h7
      obtain ⟨j0, j1, j2, j3, j4, j5, j6, rfl⟩ := list7 l1
      obtain ⟨c0, c1, c2, c3, c4, c5, c6, rfl⟩ := list7 l2
      replace Hs : Hid (ownK N (k + 1) = if (q2 == 3 && decide (q5 ≥ j5)) = true then ([q0, q1, q2, q3, q4, q5, q6], [c0, c1, c2, c3, c4, c5, c6]) else if (q2 == 1 && (c3 == 0 || decide (q4 < c4))) = true then ([j0, j1, j2, j3, j4, j5, j6], [q0, q1, q2, q3, q4, q5, q6]) else ([j0, j1, j2, j3, j4, j5, j6], [c0, c1, c2, c3, c4, c5, c6])) := Hs
      replace KJ : Bx wr (w.heap.size + 1) 34 [.int .i64 j0, .int .i64 j1, .int .i64 j2, .int .i64 j3, .int .i64 j4, .int .i64 j5, .int .i64 j6] := KJ
      replace KC : Bx wr (w.heap.size + 1 + 1) 34 [.int .i64 c0, .int .i64 c1, .int .i64 c2, .int .i64 c3, .int .i64 c4, .int .i64 c5, .int .i64 c6] := KC
      have Hc := Lib.hid hc
      clear hc l1 l2
      have KJl := KJ.lt; have KJc := KJ.get; have KJf := KJ.fr; have KCl := KC.lt; have KCc := KC.get; have KCf := KC.fr
      rcases Bool.eq_false_or_eq_true (q2 == 3) with h3b | h3b
      · by_cases h5 : q5 ≥ j5
        · skip
          have Hs' : Hid (ownK N (k + 1) = ([q0, q1, q2, q3, q4, q5, q6], [c0, c1, c2, c3, c4, c5, c6])) := Lib.hid (by rw [Hs.out]; simp only [h3b, Bool.true_and, Bool.false_and]; simp [*])
          clear Hs
          go_upto_region 5 with (first
            | (refine wpList_getAt 34 12 rfl rfl Hc.out rfl Tryz.underlying34 rfl (sz_n h7) ?_)
            | (refine wpList_putNew 34 6 13 rfl rfl rfl rfl (sa_n h7) rfl (ints_one _) ?_; intro U KU hbu hsu; replace KU : Bx U wr.heap.size 34 [.int .i64 q0, .int .i64 q1, .int .i64 q2, .int .i64 q3, .int .i64 q4, .int .i64 q5, .int .i64 q6] := KU; have KUl := KU.lt; have KUc := KU.get; have hJU : w.heap.size + 1 + 1 < wr.heap.size := KCl; clear KJl KJc KJf; replace KJ := KJ.keep hbu; have KJl := KJ.lt; have KJc := KJ.get; have KJf := KJ.fr; clear KCl KCc KCf; replace KC := KC.keep hbu; have KCl := KC.lt; have KCc := KC.get; have KCf := KC.fr; replace HB := Lib.hid (up HB.out hbu); clear hbu))
          clear KJf KCf
          go_wp2_with (refine wpList_put 34 3 25 rfl rfl KJ rfl rfl (by kernel_rfl) rfl (by simp [Value.oneCell']) ?_; intro V KV hp)
          exact ⟨⟨k + 1, by omega, by go_num, by rw [Hs'.out]; exact KV, by rw [Hs'.out]; exact KC.put hp (by omega), upP HB.out hp (by omega)⟩, by simp [intOf]; omega⟩
        · have h1b : (q2 == 1) = false := by rw [eq_of_beq h3b]; rfl
          have Hs' : Hid (ownK N (k + 1) = ([j0, j1, j2, j3, j4, j5, j6], [c0, c1, c2, c3, c4, c5, c6])) := Lib.hid (by rw [Hs.out]; simp only [h3b, Bool.true_and, Bool.false_and]; simp [*])
          clear Hs
          go_upto_region 5 with (first
            | (refine wpList_getAt 34 12 rfl rfl Hc.out rfl Tryz.underlying34 rfl (sz_n h7) ?_)
            | (refine wpList_putNew 34 6 13 rfl rfl rfl rfl (sa_n h7) rfl (ints_one _) ?_; intro U KU hbu hsu; replace KU : Bx U wr.heap.size 34 [.int .i64 q0, .int .i64 q1, .int .i64 q2, .int .i64 q3, .int .i64 q4, .int .i64 q5, .int .i64 q6] := KU; have KUl := KU.lt; have KUc := KU.get; have hJU : w.heap.size + 1 + 1 < wr.heap.size := KCl; clear KJl KJc KJf; replace KJ := KJ.keep hbu; have KJl := KJ.lt; have KJc := KJ.get; have KJf := KJ.fr; clear KCl KCc KCf; replace KC := KC.keep hbu; have KCl := KC.lt; have KCc := KC.get; have KCf := KC.fr; replace HB := Lib.hid (up HB.out hbu); clear hbu))
          clear KJf KCf
          go_wp2
          exact ⟨⟨k + 1, by omega, by go_num, by rw [Hs'.out]; exact KJ, by rw [Hs'.out]; exact KC, HB.out⟩, by simp [intOf]; omega⟩
      · rcases Bool.eq_false_or_eq_true (q2 == 1) with h1b | h1b
        · rcases Bool.eq_false_or_eq_true (c3 == 0) with h0b | h0b
          · skip
            have Hs' : Hid (ownK N (k + 1) = ([j0, j1, j2, j3, j4, j5, j6], [q0, q1, q2, q3, q4, q5, q6])) := Lib.hid (by rw [Hs.out]; simp only [h3b, Bool.true_and, Bool.false_and]; simp [*])
            clear Hs
            go_upto_region 5 with (first
              | (refine wpList_getAt 34 12 rfl rfl Hc.out rfl Tryz.underlying34 rfl (sz_n h7) ?_)
              | (refine wpList_putNew 34 6 13 rfl rfl rfl rfl (sa_n h7) rfl (ints_one _) ?_; intro U KU hbu hsu; replace KU : Bx U wr.heap.size 34 [.int .i64 q0, .int .i64 q1, .int .i64 q2, .int .i64 q3, .int .i64 q4, .int .i64 q5, .int .i64 q6] := KU; have KUl := KU.lt; have KUc := KU.get; have hJU : w.heap.size + 1 + 1 < wr.heap.size := KCl; clear KJl KJc KJf; replace KJ := KJ.keep hbu; have KJl := KJ.lt; have KJc := KJ.get; have KJf := KJ.fr; clear KCl KCc KCf; replace KC := KC.keep hbu; have KCl := KC.lt; have KCc := KC.get; have KCf := KC.fr; replace HB := Lib.hid (up HB.out hbu); clear hbu))
            clear KJf KCf
            go_wp2_with (refine wpList_put 34 4 42 rfl rfl KC rfl rfl (by kernel_rfl) rfl (by simp [Value.oneCell']) ?_; intro V KV hp)
            exact ⟨⟨k + 1, by omega, by go_num, by rw [Hs'.out]; exact KJ.put hp (by omega), by rw [Hs'.out]; exact KV, upP HB.out hp (by omega)⟩, by simp [intOf]; omega⟩
          · by_cases h4 : q4 < c4
            · skip
              have Hs' : Hid (ownK N (k + 1) = ([j0, j1, j2, j3, j4, j5, j6], [q0, q1, q2, q3, q4, q5, q6])) := Lib.hid (by rw [Hs.out]; simp only [h3b, Bool.true_and, Bool.false_and]; simp [*])
              clear Hs
              go_upto_region 5 with (first
                | (refine wpList_getAt 34 12 rfl rfl Hc.out rfl Tryz.underlying34 rfl (sz_n h7) ?_)
                | (refine wpList_putNew 34 6 13 rfl rfl rfl rfl (sa_n h7) rfl (ints_one _) ?_; intro U KU hbu hsu; replace KU : Bx U wr.heap.size 34 [.int .i64 q0, .int .i64 q1, .int .i64 q2, .int .i64 q3, .int .i64 q4, .int .i64 q5, .int .i64 q6] := KU; have KUl := KU.lt; have KUc := KU.get; have hJU : w.heap.size + 1 + 1 < wr.heap.size := KCl; clear KJl KJc KJf; replace KJ := KJ.keep hbu; have KJl := KJ.lt; have KJc := KJ.get; have KJf := KJ.fr; clear KCl KCc KCf; replace KC := KC.keep hbu; have KCl := KC.lt; have KCc := KC.get; have KCf := KC.fr; replace HB := Lib.hid (up HB.out hbu); clear hbu))
              clear KJf KCf
              go_wp2_with (refine wpList_put 34 4 42 rfl rfl KC rfl rfl (by kernel_rfl) rfl (by simp [Value.oneCell']) ?_; intro V KV hp)
              exact ⟨⟨k + 1, by omega, by go_num, by rw [Hs'.out]; exact KJ.put hp (by omega), by rw [Hs'.out]; exact KV, upP HB.out hp (by omega)⟩, by simp [intOf]; omega⟩
            · skip
              have Hs' : Hid (ownK N (k + 1) = ([j0, j1, j2, j3, j4, j5, j6], [c0, c1, c2, c3, c4, c5, c6])) := Lib.hid (by rw [Hs.out]; simp only [h3b, Bool.true_and, Bool.false_and]; simp [*])
              clear Hs
              go_upto_region 5 with (first
                | (refine wpList_getAt 34 12 rfl rfl Hc.out rfl Tryz.underlying34 rfl (sz_n h7) ?_)
                | (refine wpList_putNew 34 6 13 rfl rfl rfl rfl (sa_n h7) rfl (ints_one _) ?_; intro U KU hbu hsu; replace KU : Bx U wr.heap.size 34 [.int .i64 q0, .int .i64 q1, .int .i64 q2, .int .i64 q3, .int .i64 q4, .int .i64 q5, .int .i64 q6] := KU; have KUl := KU.lt; have KUc := KU.get; have hJU : w.heap.size + 1 + 1 < wr.heap.size := KCl; clear KJl KJc KJf; replace KJ := KJ.keep hbu; have KJl := KJ.lt; have KJc := KJ.get; have KJf := KJ.fr; clear KCl KCc KCf; replace KC := KC.keep hbu; have KCl := KC.lt; have KCc := KC.get; have KCf := KC.fr; replace HB := Lib.hid (up HB.out hbu); clear hbu))
              clear KJf KCf
              go_wp2
              exact ⟨⟨k + 1, by omega, by go_num, by rw [Hs'.out]; exact KJ, by rw [Hs'.out]; exact KC, HB.out⟩, by simp [intOf]; omega⟩
        · skip
          have Hs' : Hid (ownK N (k + 1) = ([j0, j1, j2, j3, j4, j5, j6], [c0, c1, c2, c3, c4, c5, c6])) := Lib.hid (by rw [Hs.out]; simp only [h3b, Bool.true_and, Bool.false_and]; simp [*])
          clear Hs
          go_upto_region 5 with (first
            | (refine wpList_getAt 34 12 rfl rfl Hc.out rfl Tryz.underlying34 rfl (sz_n h7) ?_)
            | (refine wpList_putNew 34 6 13 rfl rfl rfl rfl (sa_n h7) rfl (ints_one _) ?_; intro U KU hbu hsu; replace KU : Bx U wr.heap.size 34 [.int .i64 q0, .int .i64 q1, .int .i64 q2, .int .i64 q3, .int .i64 q4, .int .i64 q5, .int .i64 q6] := KU; have KUl := KU.lt; have KUc := KU.get; have hJU : w.heap.size + 1 + 1 < wr.heap.size := KCl; clear KJl KJc KJf; replace KJ := KJ.keep hbu; have KJl := KJ.lt; have KJc := KJ.get; have KJf := KJ.fr; clear KCl KCc KCf; replace KC := KC.keep hbu; have KCl := KC.lt; have KCc := KC.get; have KCf := KC.fr; replace HB := Lib.hid (up HB.out hbu); clear hbu))
          clear KJf KCf
          go_wp2
          exact ⟨⟨k + 1, by omega, by go_num, by rw [Hs'.out]; exact KJ, by rw [Hs'.out]; exact KC, HB.out⟩, by simp [intOf]; omega⟩
    · obtain rfl : k = m := by omega
      have Hf : Hid (ownN N = orE [(ownK N k).1.getD 3 0, (ownK N k).2.getD 3 0]) := Lib.hid (by unfold ownN ownK; rw [Hm.out, List.take_length])
      generalize ownK N k = jc at *
      obtain ⟨j, c⟩ := jc
      obtain ⟨j0, j1, j2, j3, j4, j5, j6, rfl⟩ := list7 l1
      obtain ⟨c0, c1, c2, c3, c4, c5, c6, rfl⟩ := list7 l2
      replace Hf : Hid (ownN N = orE [j3, c3]) := Hf
      replace KJ : Bx wr (w.heap.size + 1) 34 [.int .i64 j0, .int .i64 j1, .int .i64 j2, .int .i64 j3, .int .i64 j4, .int .i64 j5, .int .i64 j6] := KJ
      replace KC : Bx wr (w.heap.size + 1 + 1) 34 [.int .i64 c0, .int .i64 c1, .int .i64 c2, .int .i64 c3, .int .i64 c4, .int .i64 c5, .int .i64 c6] := KC
      have KJl := KJ.lt; have KJc := KJ.get; have KJf := KJ.fr; have KCl := KC.lt; have KCc := KC.get; have KCf := KC.fr
      go_wp2_with (go_at_call 158; refine (OrI_any _ _ _ [j3, c3] _ (isC wr 3 [j3, c3] (by simp))).mono ?_; rintro e V ⟨rfl, rfl⟩)
      go_ret
      exact ⟨ret_int Hf.out.symm, up HB.out (up_alloc _ _)⟩
end Go.Proofs.YtjimjdhdnkhfnaaGreat
