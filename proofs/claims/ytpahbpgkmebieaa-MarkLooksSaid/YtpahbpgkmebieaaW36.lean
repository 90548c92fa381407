/- The reference's search for the fewest places. Own text. -/
import Derived.Test.YtpahbpgkmebieaaW35
import Derived.Test.YtpahbpgkmebieaaP3
namespace Go.Proofs.Ytpahbpgkmebieaa
open Go Go.RowKit
set_option maxHeartbeats 400000
set_option maxRecDepth 100000

theorem ahead_any (A B : Option Addr) (n c n' c' : Nat) (l l' : List Int) (w : World) (hg : Is w A n l) (hg' : Is w B n' l') :
    Calls Try.prog 98 #[.slice A n c, .slice B n' c'] w fun e w' => e = .returned (.bool (aheadL l l')) ∧ Below w.heap.size w w' := by
  have hn := hg.small
  have hn' := hg'.small
  have Hl : Hid (n = l.length) := Lib.hid hg.len
  have Hl' : Hid (n' = l'.length) := Lib.hid hg'.len
  go_enter Try.func98, Try.ntmps98
  go_wp2
  go_loopw [5] (fun i wr => ∃ (k : Nat) (z : Gr), k ≤ n ∧ k ≤ n' ∧ i = .int .i64 k ∧ wr = grow w z ∧ aheadL (l.drop k) (l'.drop k) = aheadL l l') (fun i _ => n - (intOf i).toNat)
  case atStart => exact ⟨0, ⟨#[], w.drawn⟩, by omega, by omega, rfl, by simp [grow], rfl⟩
  case round =>
    obtain ⟨k, z, hk, hk', rfl, rfl, hp⟩ := hrel
    have Hp := Lib.hid hp
    clear hp
    by_cases h1 : k < n
    rotate_left
    · obtain rfl : k = n := by omega
      have Hres : Hid (aheadL l l' = decide (k < n')) := Lib.hid (by
        rw [← Hp.out, List.drop_of_length_le (by rw [← Hl.out]; exact Nat.le_refl _)]
        by_cases h2 : k < n'
        · rw [List.drop_eq_getElem_cons (by rw [← Hl'.out]; exact h2)]
          simp [aheadL, h2]
        · rw [List.drop_of_length_le (by rw [← Hl'.out]; omega)]
          simp [aheadL, h2])
      go_wp2
      go_ret
      refine ⟨congrArg (fun v => Ending.returned (Value.bool v)) ?_, grow_below w z⟩
      rw [Hres.out]
      all_goals first | rfl | (rw [Bool.eq_iff_iff]; simp)
    by_cases h2 : k < n'
    rotate_left
    · obtain rfl : k = n' := by omega
      have Hres : Hid (aheadL l l' = false) := Lib.hid (by
        rw [← Hp.out, show l'.drop k = [] from List.drop_of_length_le (by rw [← Hl'.out]; exact Nat.le_refl _), List.drop_eq_getElem_cons (by rw [← Hl.out]; exact h1)]
        rfl)
      have hnk : ¬ n < k := by omega
      go_wp2
      go_ret
      refine ⟨congrArg (fun v => Ending.returned (Value.bool v)) ?_, grow_below w z⟩
      rw [Hres.out]
      all_goals first | rfl | (simp; omega)
    have hkl : k < l.length := by rw [← Hl.out]; exact h1
    have hkl' : k < l'.length := by rw [← Hl'.out]; exact h2
    have Hstep : Hid (aheadL (l.drop k) (l'.drop k) = if l[k] = l'[k] then aheadL (l.drop (k + 1)) (l'.drop (k + 1)) else decide (l[k] < l'[k])) := Lib.hid (by
      rw [List.drop_eq_getElem_cons hkl, List.drop_eq_getElem_cons hkl']; rfl)
    obtain ⟨b, o, rfl, hb, hc⟩ := hg.get k hkl
    obtain ⟨b', o', rfl, hb', hc'⟩ := hg'.get k hkl'
    generalize l[k] = x at *
    generalize l'[k] = y at *
    have e1 : b < w.heap.size + z.blocks.size := by omega
    have e2 : b' < w.heap.size + z.blocks.size := by omega
    by_cases hxy : x = y
    · have hbb : (x == y) = true := by simpa using hxy
      have hbn : (x != y) = false := by simpa using hxy
      have Hxy := Lib.hid hxy
      clear hxy
      go_wp2
      refine wp_region_grow (by kernel_rfl) (by kernel_rfl) ?_
      repeat (go_big_quiet_step ((fail)))
      refine wpQuiet_nil ?_
      intro z1
      obtain ⟨y1, hy1⟩ := grow_grow w z z1
      rw [hy1]
      clear hy1
      go_wp2
      refine ⟨⟨k + 1, y1, by omega, by omega, by go_num, rfl, ?_⟩, by simp [intOf]; omega⟩
      rw [← Hp.out, Hstep.out, if_pos Hxy.out]
    · have hbb : (x == y) = false := by simpa using hxy
      have hbn : (x != y) = true := by simpa using hxy
      have Hxy := Lib.hid hxy
      clear hxy
      go_wp2
      refine wp_region_grow (by kernel_rfl) (by kernel_rfl) ?_
      repeat (go_big_quiet_step ((fail)))
      refine wpQuiet_nil ?_
      intro z1
      obtain ⟨y1, hy1⟩ := grow_grow w z z1
      rw [hy1]
      clear hy1
      have f1 : b < w.heap.size + y1.blocks.size := by omega
      have f2 : b' < w.heap.size + y1.blocks.size := by omega
      go_wp2
      refine wp_region_grow (by kernel_rfl) (by kernel_rfl) ?_
      repeat (go_big_quiet_step ((fail)))
      refine wpQuiet_nil ?_
      intro z2
      obtain ⟨y2, hy2⟩ := grow_grow w y1 z2
      rw [hy2]
      clear hy2
      go_wp2
      go_ret
      refine ⟨congrArg (fun v => Ending.returned (Value.bool v)) ?_, grow_below w y2⟩
      rw [← Hp.out, Hstep.out, if_neg Hxy.out]

theorem chK_in (a : Int) (k : Nat) : ∀ x ∈ chK a k, 0 ≤ x ∧ x < k := by
  induction k with
  | zero => intro x hx; simp [chK] at hx
  | succ k ih =>
    intro x hx
    unfold chK at hx
    split at hx
    · rcases List.mem_append.1 hx with h | h
      · have := ih x h; omega
      · simp at h; omega
    · have := ih x hx; omega

/-- What the best so far looks like in memory. -/
def BestAt (w : World) (v : Value) (f : Bool) : Option (List Int) → Prop
  | none => v = .slice none 0 0 ∧ f = false
  | some b => f = true ∧ ∃ A n c, v = .slice A n c ∧ n ≤ c ∧ Is w A n b
theorem BestAt.keep {w w' : World} {v : Value} {f : Bool} {o : Option (List Int)} (h : BestAt w v f o) (hb : Below w.heap.size w w') : BestAt w' v f o := by
  cases o with
  | none => exact h
  | some b =>
    obtain ⟨h1, A, n, c, h2, h3, h4⟩ := h
    exact ⟨h1, A, n, c, h2, h3, h4.keep hb⟩
theorem is_nil (w : World) : Is w none 0 [] := ⟨rfl, by omega, fun k hk => by simp at hk⟩
theorem lkK_step (P : List Int → Bool) (k : Nat) : lkK P (k + 1) = if P (chK k 6) = true then (match lkK P k with | none => some (chK k 6) | some b => if betL (chK k 6) b = true then some (chK k 6) else some b) else lkK P k := rfl

set_option maxHeartbeats 1600000 in
theorem refLook_any (w0 w1 w2 w3 w4 F : Int) (A : Option Addr) (n c : Nat) (gs : List Giv) (r : Rd) (w : World) (hg : Gs w A n gs) :
    Calls Try.prog 49 #[.agg #[.int .i64 w0, .int .i64 w1, .int .i64 w2, .int .i64 w3, .int .i64 w4, .int .i64 F, .slice A n c], .agg #[.int .i64 r.r0, .int .i64 r.r1, .int .i64 r.r2, .int .i64 r.r3, .int .i64 r.r4, .int .i64 r.r5]] w fun e w' =>
      ∃ B k c', e = .returned (.tuple #[.slice B k c', .int .i64 (brE w0 w1 w2 w3 w4 F gs r)]) ∧ Is w' B k (lookR w0 w1 w2 w3 w4 F gs r) ∧ Below w.heap.size w w' := by
  go_enter Try.func49, Try.ntmps49
  go_wp2_with fail
  generalize hW : (World.alloc _ _) = W
  have HW : Hid (Below w.heap.size w W) := Lib.hid (by subst hW; go_grown)
  have KM : Bk W w.heap.size [.int .i64 w0, .int .i64 w1, .int .i64 w2, .int .i64 w3, .int .i64 w4, .int .i64 F, .slice A n c] := ⟨by subst hW; simp only [World.size_alloc]; omega, by subst hW; intro j; simp [go_sem]⟩
  have KR : Bk W (w.heap.size + 1) [.int .i64 r.r0, .int .i64 r.r1, .int .i64 r.r2, .int .i64 r.r3, .int .i64 r.r4, .int .i64 r.r5] := ⟨by subst hW; simp only [World.size_alloc]; omega, by subst hW; intro j; simp [go_sem]⟩
  clear hW
  have HG := Lib.hid (hg.keep HW.out)
  clear hg
  refine (refOwners_any w0 w1 w2 w3 w4 F A n c gs r W HG.out).mono ?_
  rintro e V ⟨v, rfl, hown, hb⟩
  obtain ⟨A2, c2, rfl, _, _⟩ := Is.of_own hown
  clear hown
  replace HG := Lib.hid (HG.out.keep hb)
  replace KM := KM.keep hb; replace KR := KR.keep hb
  have HV := Lib.hid hb
  clear hb
  by_cases hE : brE w0 w1 w2 w3 w4 F gs r = 0
  rotate_left
  · have HE := Lib.hid hE
    have hb : (brE w0 w1 w2 w3 w4 F gs r != 0) = true := by simpa using hE
    clear hE
    go_wp2
    go_ret2
    refine ⟨none, 0, 0, rfl, ?_, up HW.out HV.out⟩
    unfold lookR; rw [if_neg HE.out]; exact is_nil V
  have HE := Lib.hid hE
  have Ob := Lib.hid (brE_ok hE).1
  obtain ⟨P, hP⟩ : ∃ P, settleB (rowsOf w0 w1 w2 w3 w4 (possG w0 w1 w2 w3 w4 F [r] gs)) = P := ⟨_, rfl⟩
  have HLR : Hid (lookR w0 w1 w2 w3 w4 F gs r = (lkK P 64).getD []) := Lib.hid (by unfold lookR lookL; rw [if_pos hE, hP, look_same])
  have HP := Lib.hid hP
  clear hP
  rw [hE]
  clear hE
  go_wp2
  go_loopw [8, 9, 10] (fun v f i wr => ∃ (k : Nat) (z : Gr) (g : Bool), k ≤ 64 ∧ i = .int .i64 k ∧ f = .bool g ∧ wr = grow V z ∧ BestAt (grow V z) v g (lkK P k)) (fun _ _ i _ => 64 - (intOf i).toNat)
  case atStart => exact ⟨0, ⟨#[], V.drawn⟩, false, by omega, rfl, rfl, by simp [grow], rfl, rfl⟩
  case round =>
    obtain ⟨k, z, g, hk, rfl, rfl, rfl, hbest⟩ := hrel
    have Hbest := Lib.hid hbest
    clear hbest
    have HGy := Lib.hid (HG.out.keep (grow_below V z))
    have Hlk := Lib.hid (lkK_step P k)
    generalize hO : lkK P k = O at *
    have HO := Lib.hid hO
    clear hO
    by_cases hlt : k < 64
    rotate_left
    · obtain rfl : k = 64 := by omega
      cases O with
      | none =>
        obtain ⟨rfl, rfl⟩ := Hbest.out
        go_wp2
        go_ret2
        refine ⟨none, 0, ⟨0, by rw [HE.out]; rfl⟩, ?_, up HW.out (up HV.out (grow_below V z))⟩
        rw [HLR.out, HO.out]; exact is_nil _
      | some b =>
        obtain ⟨rfl, A3, n3, c3, rfl, hnc3, hb3⟩ := Hbest.out
        have Hb3 := Lib.hid hb3
        clear hb3
        go_wp2
        go_ret2
        refine ⟨A3, n3, ⟨c3, by rw [HE.out]; rfl⟩, ?_, up HW.out (up HV.out (grow_below V z))⟩
        rw [HLR.out, HO.out]; exact Hb3.out
    have Hin := Lib.hid (chK_in (k : Int) 6)
    cases O with
    | none =>
      obtain ⟨rfl, rfl⟩ := Hbest.out
      clear Hbest
      go_wp2_with fail
      refine (chosen_any (k : Int) (grow V z)).mono ?_
      rintro e V1 ⟨v, rfl, hown, hb⟩
      obtain ⟨A4, c4, rfl, hn4, hi4⟩ := Is.of_own hown
      clear hown
      have hb1 := up (grow_below V z) hb
      clear hb
      obtain ⟨y, rfl⟩ := below_grow hb1
      have KM1 := KM.keep hb1
      have KR1 := KR.keep hb1
      have HG1 := Lib.hid (HG.out.keep hb1)
      have Hi4 := Lib.hid hi4
      have Hln : Hid ((chK (k : Int) 6).length = (chK (k : Int) 6).length) := Lib.hid rfl
      clear hi4 hb1
      generalize hX : chK (k : Int) 6 = X at *
      have HX := Lib.hid hX
      clear hX
      generalize hnX : X.length = nX at *
      have HnX := Lib.hid hnX
      clear hnX
      have KM1l := KM1.lt; have KM1c := KM1.get; have KR1l := KR1.lt; have KR1c := KR1.get
      go_wp2_with fail
      refine (settles_any w0 w1 w2 w3 w4 F A n c gs r A4 _ c4 X (grow V y) HG1.out Ob.out Hi4.out Hin.out).mono ?_
      rintro e V2 ⟨he, hb2⟩
      rw [HP.out] at he
      subst he
      clear KM1l KM1c KR1l KR1c
      replace Hi4 := Lib.hid (Hi4.out.keep hb2)
      replace hb2 := up (grow_below V y) hb2
      obtain ⟨y2, rfl⟩ := below_grow hb2
      clear hb2 KM1 KR1 HG1
      cases hp : P X
      · have Hst : Hid (lkK P (k + 1) = none) := Lib.hid (by rw [Hlk.out, hp]; simp)
        clear hp
        go_wp2_with fail
        refine ⟨⟨k + 1, y2, _, by omega, by go_num, rfl, rfl, ?_⟩, by simp [intOf]; omega⟩
        rw [Hst.out]
        exact ⟨rfl, rfl⟩
      have Hst : Hid (lkK P (k + 1) = some X) := Lib.hid (by rw [Hlk.out, hp]; simp)
      clear hp
      go_wp2_with fail
      refine ⟨⟨k + 1, y2, _, by omega, by go_num, rfl, rfl, ?_⟩, by simp [intOf]; omega⟩
      rw [Hst.out]
      exact ⟨rfl, A4, nX, c4, rfl, hn4, Hi4.out⟩
    | some b =>
      obtain ⟨rfl, A3, n3, c3, rfl, hnc3, hb3⟩ := Hbest.out
      have Hb3 := Lib.hid hb3
      have Hb3n : Hid (n3 = b.length) := Lib.hid hb3.len
      clear hb3
      clear Hbest
      go_wp2_with fail
      refine (chosen_any (k : Int) (grow V z)).mono ?_
      rintro e V1 ⟨v, rfl, hown, hb⟩
      obtain ⟨A4, c4, rfl, hn4, hi4⟩ := Is.of_own hown
      clear hown
      replace Hb3 := Lib.hid (Hb3.out.keep hb)
      have hb1 := up (grow_below V z) hb
      clear hb
      obtain ⟨y, rfl⟩ := below_grow hb1
      have KM1 := KM.keep hb1
      have KR1 := KR.keep hb1
      have HG1 := Lib.hid (HG.out.keep hb1)
      have Hi4 := Lib.hid hi4
      have Hln : Hid ((chK (k : Int) 6).length = (chK (k : Int) 6).length) := Lib.hid rfl
      clear hi4 hb1
      generalize hX : chK (k : Int) 6 = X at *
      have HX := Lib.hid hX
      clear hX
      generalize hnX : X.length = nX at *
      have HnX := Lib.hid hnX
      clear hnX
      have KM1l := KM1.lt; have KM1c := KM1.get; have KR1l := KR1.lt; have KR1c := KR1.get
      go_wp2_with fail
      refine (settles_any w0 w1 w2 w3 w4 F A n c gs r A4 _ c4 X (grow V y) HG1.out Ob.out Hi4.out Hin.out).mono ?_
      rintro e V2 ⟨he, hb2⟩
      rw [HP.out] at he
      subst he
      clear KM1l KM1c KR1l KR1c
      replace Hi4 := Lib.hid (Hi4.out.keep hb2)
      replace Hb3 := Lib.hid (Hb3.out.keep hb2)
      replace hb2 := up (grow_below V y) hb2
      obtain ⟨y2, rfl⟩ := below_grow hb2
      clear hb2 KM1 KR1 HG1
      cases hp : P X
      · have Hst : Hid (lkK P (k + 1) = some b) := Lib.hid (by rw [Hlk.out, hp]; simp)
        clear hp
        go_wp2_with fail
        refine ⟨⟨k + 1, y2, _, by omega, by go_num, rfl, rfl, ?_⟩, by simp [intOf]; omega⟩
        rw [Hst.out]
        exact ⟨rfl, A3, n3, c3, rfl, hnc3, Hb3.out⟩
      have Hst : Hid (lkK P (k + 1) = if betL X b = true then some X else some b) := Lib.hid (by rw [Hlk.out, hp, if_pos rfl])
      clear hp
      by_cases hlen : nX < n3
      · have Hlen := Lib.hid hlen
        go_wp2_with fail
        refine ⟨⟨k + 1, y2, _, by omega, by go_num, rfl, rfl, ?_⟩, by simp [intOf]; omega⟩
        rw [Hst.out, if_pos (by unfold betL; rw [HnX.out, ← Hb3n.out]; simp [Hlen.out])]
        exact ⟨rfl, A4, nX, c4, rfl, hn4, Hi4.out⟩
      by_cases heq : nX = n3
      rotate_left
      · have hbe : ((nX : Int) == (n3 : Int)) = false := by rw [beq_eq_false_iff_ne]; omega
        have Hlen := Lib.hid hlen
        have Heq := Lib.hid heq
        clear heq
        go_wp2_with fail
        refine ⟨⟨k + 1, y2, _, by omega, by go_num, rfl, rfl, ?_⟩, by simp [intOf]; omega⟩
        rw [Hst.out, if_neg (by unfold betL; rw [HnX.out, ← Hb3n.out]; simp [Hlen.out, Heq.out])]
        exact ⟨rfl, A3, n3, c3, rfl, hnc3, Hb3.out⟩
      subst heq
      have hbe : ((nX : Int) == (nX : Int)) = true := by simp
      have Hbet : Hid (betL X b = aheadL X b) := Lib.hid (by unfold betL; rw [HnX.out, ← Hb3n.out]; simp)
      go_wp2_with fail
      refine (ahead_any A4 A3 nX c4 nX c3 X b (grow V y2) Hi4.out Hb3.out).mono ?_
      rintro e V3 ⟨rfl, hb3⟩
      replace Hi4 := Lib.hid (Hi4.out.keep hb3)
      replace Hb3 := Lib.hid (Hb3.out.keep hb3)
      replace hb3 := up (grow_below V y2) hb3
      obtain ⟨y3, rfl⟩ := below_grow hb3
      clear hb3
      cases ha : aheadL X b
      · have Hst2 : Hid (lkK P (k + 1) = some b) := Lib.hid (by rw [Hst.out, Hbet.out, ha]; simp)
        clear ha
        go_wp2_with fail
        refine ⟨⟨k + 1, y3, _, by omega, by go_num, rfl, rfl, ?_⟩, by simp [intOf]; omega⟩
        rw [Hst2.out]
        exact ⟨rfl, A3, nX, c3, rfl, hnc3, Hb3.out⟩
      · have Hst2 : Hid (lkK P (k + 1) = some X) := Lib.hid (by rw [Hst.out, Hbet.out, ha]; simp)
        clear ha
        go_wp2_with fail
        refine ⟨⟨k + 1, y3, _, by omega, by go_num, rfl, rfl, ?_⟩, by simp [intOf]; omega⟩
        rw [Hst2.out]
        exact ⟨rfl, A4, nX, c4, rfl, hn4, Hi4.out⟩
end Go.Proofs.Ytpahbpgkmebieaa
