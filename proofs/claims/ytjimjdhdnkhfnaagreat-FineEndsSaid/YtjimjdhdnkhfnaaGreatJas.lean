/- Contracts of functions of the program and of the reference, a calculus of states, and plain facts: a part of a proof. Own text. -/
import Derived.Test.YtjimjdhdnkhfnaaGreatJae
import Derived.Test.YtjimjdhdnkhfnaaGreatJan
import Derived.Test.YtjimjdhdnkhfnaaGreatJao
import Derived.Test.YtjimjdhdnkhfnaaGreatJap
import Derived.Test.YtjimjdhdnkhfnaaGreatJar
import Derived.Lib.AppendZeros
set_option linter.unusedVariables false
set_option linter.unusedSimpArgs false
set_option linter.unusedSectionVars false
set_option linter.unnecessarySimpa false
namespace Go.Proofs.YtjimjdhdnkhfnaaGreat
open Go Go.RowKit
set_option maxRecDepth 100000
set_option maxHeartbeats 4000000
theorem findIdx_at {p : List Int → Bool} : ∀ (L : List (List Int)) (k : Nat) (hk : k < L.length), (L.take k).any p = false → p L[k] = true → L.findIdx p = k
  | [], k, hk, _, _ => by simp at hk
  | x :: L, 0, _, _, h => by simp [List.findIdx_cons, show p x = true from h]
  | x :: L, k + 1, hk, h1, h2 => by
    simp only [List.take_succ_cons, List.any_cons, Bool.or_eq_false_iff] at h1
    rw [List.findIdx_cons, h1.1, findIdx_at L k (by simpa using hk) h1.2 h2]
    rfl
def fstI (p : List Int → Bool) (L : List (List Int)) : Int := if L.any p = true then (L.findIdx p : Int) else -1
theorem less_set {s : Int} {L M : List (List Int)} {i j : Nat} (hj : j < L.length) (hl : M.length = L.length) (ht : M.take i = lessL s (L.take j)) (hi : i ≤ j) (hd : M.drop j = L.drop j) (hn : isS s L[j] = false) :
    (M.set i L[j]).take (i + 1) = lessL s (L.take (j + 1)) ∧ (M.set i L[j]).drop (j + 1) = L.drop (j + 1) := by
  have hil : i < M.length := by omega
  refine ⟨?_, ?_⟩
  · rw [lessL_take hj, hn, ← ht]
    rw [List.take_succ_eq_append_getElem (by simpa using hil), List.take_set_of_le (Nat.le_refl _), List.getElem_set_self]
    rfl
  · rw [List.drop_set_of_lt (by omega)]
    have := congrArg (List.drop 1) hd
    simpa [List.drop_drop] using this
theorem without1_does {x : List Int} (hx : x.length = 9) (s : Int) : Does Tryz.prog 142 [.agg (rowP x), .ptr [.int .i64 s]] (.bool (isS s x)) := by
  obtain ⟨x0, x1, x2, x3, x4, x5, x6, x7, x8, rfl⟩ := list9 hx
  simp only [isS, List.getD_cons_zero]
  obtain ⟨V, hV⟩ : ∃ V, (x0 == s) = V := ⟨_, rfl⟩
  rw [hV]
  refine does_of (own := inPl) Tryz.func142 rfl Tryz.ntmps142 (congrArg Array.toList Tryz.results142) (fun us w => Tryz.call142 us w) hTT mixed (Nat.le_of_ble_eq_true rfl) ?_
  intro w0 im0 D0 S Cl hS hC ar har
  have har' := har
  obtain ⟨ai, ab, nz, inr, fi, pk, ix, ln, sb, eqi, sl, fits, mn, mx, nt, be, up, fu, mg, mh, ms⟩ := ar
  have F := facts_of har
  clear har
  have he : ab .eql x0 s = V := by rw [F.eql]; exact hV
  cbv
  rw [he]
  exact PLe.refl _
theorem index9_does {H : List (List Int)} (h : ∀ x ∈ H, x.length = 9) (hl : H.length ≤ 100000) (s : Int) : Does Tryz.prog 155 [.list 9 (H.map rowP), .fn (.func 142) [] [.ptr [.int .i64 s]]] (.int .i64 (fstI (isS s) H)) := by
  have hw := fun k (hk : k < H.length) => without1_does (h _ (List.getElem_mem hk)) s
  obtain ⟨p, hp⟩ : ∃ p, isS s = p := ⟨_, rfl⟩
  rw [hp] at hw ⊢
  clear hp
  have hhit : ∀ k (hk : k < H.length) (z : Int), z = (k : Int) → (H.take k).any p = false → p H[k] = true → fstI p H = z := fun k hk z hz h1 h2 => by
    unfold fstI
    rw [if_pos (List.any_eq_true.2 ⟨_, List.getElem_mem hk, h2⟩), findIdx_at H k hk h1 h2, hz]
  have hno : H.any p = false → fstI p H = -1 := fun h1 => by
    unfold fstI
    rw [if_neg (by rw [h1]; simp)]
  obtain ⟨V, hV⟩ : ∃ V, fstI p H = V := ⟨_, rfl⟩
  rw [hV] at hhit hno ⊢
  clear hV
  refine does_of (own := inPl) Tryz.func155 rfl Tryz.ntmps155 (congrArg Array.toList Tryz.results155) (fun us w => Tryz.call155 us w) hTT mixed (Nat.le_of_ble_eq_true rfl) ?_
  intro w0 im0 D0 S Cl hS hC ar har
  have har' := har
  obtain ⟨ai, ab, nz, inr, fi, pk, ix, ln, sb, eqi, sl, fits, mn, mx, nt, be, up, fu, mg, mh, ms⟩ := ar
  have F := facts_of har
  clear har
  obtain ⟨eH, hH⟩ : ∃ es, H.map rowP = es := ⟨_, rfl⟩
  have lH : ln eH = H.length := by rw [F.ln, ← hH]; simp
  rw [hH]
  cbv
  refine hS _ _ _ (sem_loop (fun x : Nat × Int => [sL 0 9 eH, sV 1 (.fn (.func 142) [] [.ptr [.int .i64 s]]), sI 7 (ln eH), sI 8 x.2]) (fun x => x.1 ≤ H.length ∧ x.2 = (x.1 : Int) ∧ (H.take x.1).any p = false) (fun x => H.length - x.1) (fun t => t) (0, 0) (fun t => t) ⟨by rfl, by cbv; try (repeat (first | exact rfl | exact trivial | refine ⟨?_, ?_⟩))⟩ ?_ ?_)
  · exact ⟨by simp, rfl, rfl⟩
  rintro ⟨k, i⟩ ⟨hk, hi, hany⟩
  dsimp only at hk hi hany
  have hi : i = (k : Int) := hi
  have hadd : ai .add i 1 = ((k + 1 : Nat) : Int) := by rw [F.add i 1 (by omega) (by omega), hi]; simp
  by_cases hlt : k < H.length
  · have hb : ab .lss i (ln eH) = true := by rw [lH, F.lss, hi]; simpa using hlt
    have hg : ix eH i = some (rowP H[k]) := by rw [F.ix _ i k hi, ← hH]; exact get_rows hlt
    have hc := hw k hlt
    have hyes := hhit k hlt i hi hany
    have hnx : p H[k] = false → (H.take (k + 1)).any p = false := fun h1 => by rw [take_last hlt, List.any_append, hany]; simp [h1]
    obtain ⟨x0, x1, x2, x3, x4, x5, x6, x7, x8, hx⟩ := list9 (h _ (List.getElem_mem hlt))
    rw [hx] at hg hc
    obtain ⟨cb, hcb⟩ : ∃ cb, p H[k] = cb := ⟨_, rfl⟩
    rw [hcb] at hyes hnx
    rw [hx] at hcb
    rw [hcb] at hc
    have hc : Does Tryz.prog 142 [.agg [.int .i64 x0, .int .i64 x1, .int .i64 x2, .int .i64 x3, .int .i64 x4, .int .i64 x5, .int .i64 x6, .int .i64 x7, .int .i64 x8], .ptr [.int .i64 s]] (.bool cb) := hc
    refine sem_of (X := ⟨_, TT, ⟨0, 19, inPl⟩⟩) har' hTT mixed ?_
    intro S1 Cl1 hS1 hC1
    cbv
    rw [hb]; cbv
    repeat (rw [hg]; cbv)
    refine ⟨_, hC1 _ _ _ hc, ?_⟩; cbv
    cases cb
    · have hnx := hnx rfl
      cbv
      exact ⟨(k + 1, ai .add i 1), ⟨hlt, hadd, hnx⟩, by dsimp only; omega, ⟨by rfl, by cbv; try (repeat (first | exact rfl | exact trivial | refine ⟨?_, ?_⟩))⟩⟩
    · have hyes := hyes rfl
      cbv
      rw [hyes]; exact PLe.refl _
  · have hb : ab .lss i (ln eH) = false := by rw [lH, F.lss, hi]; simpa using hlt
    have hkE : k = H.length := by omega
    rw [hkE, List.take_length] at hany
    have hno := hno hany
    refine sem_of (X := ⟨_, TT, ⟨0, 19, inPl⟩⟩) har' hTT mixed ?_
    intro S1 Cl1 hS1 hC1
    cbv
    rw [hb]; cbv
    rw [hno]; exact PLe.refl _
theorem delete9_does {H : List (List Int)} (h : ∀ x ∈ H, x.length = 9) (hl : H.length ≤ 100000) (s : Int) : DoesC Tryz.prog 141 32 9 (H.map rowP) [.fn (.func 142) [] [.ptr [.int .i64 s]]] (.list 9 ((lessL s H).map rowP)) := by
  have hidx := index9_does h hl s
  have hw := fun k (hk : k < H.length) => without1_does (h _ (List.getElem_mem hk)) s
  have hfirst : ∀ q : Int, fstI (isS s) H = q → (q = -1 ∧ lessL s H = H) ∨ ∃ k, k < H.length ∧ q = (k : Int) ∧ (q ≠ -1 ∧ -100000 ≤ q + 1 ∧ q + 1 ≤ 100001 ∧ q + 1 = ((k + 1 : Nat) : Int)) ∧ H.take k = lessL s (H.take k) ∧ lessL s (H.take (k + 1)) = H.take k := fun q hq => by
    unfold fstI at hq
    split at hq
    · rename_i hany
      have hlt := List.findIdx_lt_length_of_exists (List.any_eq_true.1 hany)
      refine .inr ⟨H.findIdx (isS s), hlt, hq.symm, ⟨by omega, by omega, by omega, by rw [← hq]; simp⟩, ?_, ?_⟩
      · unfold lessL
        refine (List.filter_eq_self.2 fun x hx => ?_).symm
        obtain ⟨j, hj, rfl⟩ := List.mem_take_iff_getElem.1 hx
        have := List.not_of_lt_findIdx (p := isS s) (xs := H) (i := j) (by omega)
        simpa using this
      · rw [lessL_take hlt, List.findIdx_getElem (w := hlt), if_pos rfl]
        unfold lessL
        refine List.filter_eq_self.2 fun x hx => ?_
        obtain ⟨j, hj, rfl⟩ := List.mem_take_iff_getElem.1 hx
        have := List.not_of_lt_findIdx (p := isS s) (xs := H) (i := j) (by omega)
        simpa using this
    · rename_i hany
      refine .inl ⟨hq.symm, ?_⟩
      unfold lessL
      refine List.filter_eq_self.2 fun x hx => ?_
      simp only [Bool.not_eq_true, List.any_eq_false] at hany
      simpa using hany x hx
  obtain ⟨q, hq⟩ : ∃ q, fstI (isS s) H = q := ⟨_, rfl⟩
  have hfirst := hfirst q hq
  rw [hq] at hidx
  clear hq
  obtain ⟨V, hV⟩ : ∃ V, PV.list 9 ((lessL s H).map rowP) = V := ⟨_, rfl⟩
  rw [hV]
  refine doesC_of (own := inPl) Tryz.func141 rfl Tryz.ntmps141 (congrArg Array.toList Tryz.results141) (fun us w => Tryz.call141 us w) hTT mixed (Nat.le_of_ble_eq_true rfl) ?_
  intro w0 im0 D0 S Cl hS hC ar har
  have har' := har
  obtain ⟨ai, ab, nz, inr, fi, pk, ix, ln, sb, eqi, sl, fits, mn, mx, nt, be, up, fu, mg, mh, ms⟩ := ar
  have F := facts_of har
  clear har
  obtain ⟨eH, hH⟩ : ∃ es, H.map rowP = es := ⟨_, rfl⟩
  have lH : ln eH = H.length := by rw [F.ln, ← hH]; simp
  have fH : FlatL eH := by rw [← hH]; exact flat_rows H
  rw [hH] at hidx ⊢
  cbv
  refine ⟨_, hC _ _ _ hidx, ?_⟩; cbv
  rcases hfirst with ⟨hq1, hself⟩ | ⟨k0, hk0, hq0, ⟨hq1, hq2, hq3, hq4⟩, ht0, ht1⟩
  · have e1 : ab .eql q (-1) = true := by rw [F.eql, hq1]; rfl
    rw [e1]; cbv
    refine ⟨?_, fH⟩
    rw [← hV, hself, hH]
    exact PLe.refl _
  have e1 : ab .eql q (-1) = false := by rw [F.eql]; exact beq_eq_false_iff_ne.2 hq1
  have a1 : ai .add q 1 = ((k0 + 1 : Nat) : Int) := by rw [F.add q 1 (Int.le_trans (by decide) hq2) (Int.le_trans hq3 (by decide))]; exact hq4
  rw [e1]; cbv
  refine hS _ _ _ (sem_loop (fun x : Nat × Nat × Int × Int × List (List Int) × List (List PV) => [sR 0 0, sV 1 (.fn (.func 142) [] [.ptr [.int .i64 s]]), sI 5 x.2.2.1, sI 6 x.2.2.2.1, rW 0 32 9 x.2.2.2.2.2]) (fun x => x.2.1 ≤ H.length ∧ x.1 < x.2.1 ∧ x.2.2.1 = (x.1 : Int) ∧ x.2.2.2.1 = (x.2.1 : Int) ∧ x.2.2.2.2.2 = x.2.2.2.2.1.map rowP ∧ x.2.2.2.2.1.length = H.length ∧ (∀ y ∈ x.2.2.2.2.1, y.length = 9) ∧ x.2.2.2.2.1.take x.1 = lessL s (H.take x.2.1) ∧ x.2.2.2.2.1.drop x.2.1 = H.drop x.2.1) (fun x => H.length - x.2.1) (fun t => t) (k0, k0 + 1, q, ai .add q 1, H, eH) (fun t => t) ⟨by rfl, by cbv; try (repeat (first | exact rfl | exact trivial | refine ⟨?_, ?_⟩))⟩ ?_ ?_)
  · exact ⟨hk0, Nat.lt_succ_self _, hq0, a1, hH.symm, rfl, h, ht1.symm, rfl⟩
  rintro ⟨ki, kj, i, j, M, eM⟩ ⟨hj, hij, hi, hjj, hM, hMl, hMw, hMt, hMd⟩
  dsimp only at hj hij hi hjj hM hMl hMw hMt hMd
  have hi : i = (ki : Int) := hi
  have hjj : j = (kj : Int) := hjj
  have lM : ln eM = H.length := by rw [F.ln, hM]; simp [hMl]
  have hadd : ai .add j 1 = ((kj + 1 : Nat) : Int) := by rw [F.add j 1 (by omega) (by omega), hjj]; simp
  have haddi : ai .add i 1 = ((ki + 1 : Nat) : Int) := by rw [F.add i 1 (by omega) (by omega), hi]; simp
  by_cases hlt : kj < H.length
  · have hb : ab .lss j (ln eM) = true := by rw [lM, F.lss, hjj]; simpa using hlt
    have hkiM : ki < M.length := by omega
    have hkjM : kj < M.length := by omega
    have hMj : M[kj]'hkjM = H[kj] := by
      have e1 : (M.drop kj)[0]? = (H.drop kj)[0]? := by rw [hMd]
      rw [List.getElem?_drop, List.getElem?_drop, Nat.add_zero, List.getElem?_eq_getElem hkjM, List.getElem?_eq_getElem hlt] at e1
      exact Option.some.inj e1
    have hg : ix eM j = some (rowP H[kj]) := by rw [F.ix _ j kj hjj, hM, ← hMj]; exact get_rows hkjM
    have hgi : ix eM i = some (rowP (M[ki]'hkiM)) := by rw [F.ix _ i ki hi, hM]; exact get_rows hkiM
    have hc := hw kj hlt
    have hset : isS s H[kj] = false → (M.set ki H[kj]).take (ki + 1) = lessL s (H.take (kj + 1)) ∧ (M.set ki H[kj]).drop (kj + 1) = H.drop (kj + 1) := fun hn => less_set hlt hMl hMt (by omega) hMd hn
    have hskip : isS s H[kj] = true → M.take ki = lessL s (H.take (kj + 1)) ∧ M.drop (kj + 1) = H.drop (kj + 1) := fun hn => by
      refine ⟨by rw [lessL_take hlt, if_pos hn]; exact hMt, ?_⟩
      have := congrArg (List.drop 1) hMd
      simpa [List.drop_drop] using this
    have hup : up eM i (rowP H[kj]) = (M.set ki H[kj]).map rowP := by
      rw [F.up eM i ki _ hi, hM, List.map_set]
    have hMw' : ∀ y ∈ M.set ki H[kj], y.length = 9 := fun y hy => by
      rcases List.mem_or_eq_of_mem_set hy with hy | hy
      · exact hMw y hy
      · rw [hy]; exact h _ (List.getElem_mem hlt)
    have hMl' : (M.set ki H[kj]).length = H.length := by simp [hMl]
    obtain ⟨y0, y1, y2, y3, y4, y5, y6, y7, y8, hy⟩ := list9 (hMw _ (List.getElem_mem hkiM))
    rw [hy] at hgi
    obtain ⟨M', hM'⟩ : ∃ M', M.set ki H[kj] = M' := ⟨_, rfl⟩
    rw [hM'] at hset hup hMw' hMl'
    obtain ⟨cb, hcb⟩ : ∃ cb, isS s H[kj] = cb := ⟨_, rfl⟩
    rw [hcb] at hc hset hskip
    obtain ⟨x0, x1, x2, x3, x4, x5, x6, x7, x8, hx⟩ := list9 (h _ (List.getElem_mem hlt))
    rw [hx] at hg hc hup
    have hc : Does Tryz.prog 142 [.agg [.int .i64 x0, .int .i64 x1, .int .i64 x2, .int .i64 x3, .int .i64 x4, .int .i64 x5, .int .i64 x6, .int .i64 x7, .int .i64 x8], .ptr [.int .i64 s]] (.bool cb) := hc
    have hup : up eM i [.int .i64 x0, .int .i64 x1, .int .i64 x2, .int .i64 x3, .int .i64 x4, .int .i64 x5, .int .i64 x6, .int .i64 x7, .int .i64 x8] = M'.map rowP := hup
    refine sem_of (X := ⟨_, TT, ⟨0, 42, inPl⟩⟩) har' hTT mixed ?_
    intro S1 Cl1 hS1 hC1
    cbv
    rw [hb]; cbv
    repeat (rw [hg]; cbv)
    refine ⟨_, hC1 _ _ _ hc, ?_⟩; cbv
    rw [F.nt]
    cases cb
    · obtain ⟨k1, k2⟩ := hset rfl
      simp only [Bool.not_false]
      cbv
      repeat (rw [hgi]; cbv)
      exact ⟨(ki + 1, kj + 1, ai .add i 1, ai .add j 1, M', up eM i [.int .i64 x0, .int .i64 x1, .int .i64 x2, .int .i64 x3, .int .i64 x4, .int .i64 x5, .int .i64 x6, .int .i64 x7, .int .i64 x8]), ⟨hlt, Nat.succ_lt_succ hij, haddi, hadd, hup, hMl', hMw', k1, k2⟩, by dsimp only; omega, ⟨by rfl, by cbv; try (repeat (first | exact rfl | exact trivial | refine ⟨?_, ?_⟩))⟩⟩
    · obtain ⟨k1, k2⟩ := hskip rfl
      simp only [Bool.not_true]
      cbv
      exact ⟨(ki, kj + 1, i, ai .add j 1, M, eM), ⟨hlt, Nat.lt_succ_of_lt hij, hi, hadd, hM, hMl, hMw, k1, k2⟩, by dsimp only; omega, ⟨by rfl, by cbv; try (repeat (first | exact rfl | exact trivial | refine ⟨?_, ?_⟩))⟩⟩
  · have hb : ab .lss j (ln eM) = false := by rw [lM, F.lss, hjj]; simpa using hlt
    have hkE : kj = H.length := by omega
    rw [hkE, List.take_length] at hMt
    have hel : eM.length = H.length := by rw [hM]; simp [hMl]
    have hme : ki ≤ eM.length := by omega
    obtain ⟨E2, hE2⟩ : ∃ E2, eM.take ki ++ List.replicate (eM.length - ki) [.int .i64 0, .int .i64 0, .int .i64 0, .int .i64 0, .int .i64 0, .int .i64 0, .int .i64 0, .int .i64 0, .int .i64 0] = E2 := ⟨_, rfl⟩
    have htk : (eM.take ki).length = ki := by rw [List.length_take]; omega
    have hsl : sl E2 0 i = some ((lessL s H).map rowP) := by
      have hE2l : ki ≤ E2.length := by rw [← hE2, List.length_append, htk]; omega
      rw [F.sl E2 0 i 0 ki rfl hi (Nat.zero_le _) hE2l]
      simp only [List.drop_zero, Nat.sub_zero]
      rw [← hE2, List.take_left' htk, hM, ← List.map_take, hMt]
    obtain ⟨eR, hR⟩ : ∃ es, (lessL s H).map rowP = es := ⟨_, rfl⟩
    have fR : FlatL eR := by rw [← hR]; exact flat_rows _
    rw [hR] at hsl hV
    refine sem_of (X := ⟨_, TT, ⟨0, 42, inPl⟩⟩) har' hTT mixed ?_
    intro S1 Cl1 hS1 hC1
    cbv
    rw [hb]; cbv
    refine hS _ _ _ (sem_clear (T := TT) (r := 0) (m := ki) rfl rfl rfl rfl rfl rfl rfl rfl rfl rfl rfl rfl rfl rfl rfl rfl (by decide) (by decide) (hTT 23) rfl rfl rfl rfl hi hme ?_)
    rw [hE2]
    cbv
    rw [hsl]; cbv
    refine ⟨?_, fR⟩
    rw [← hV]
    exact PLe.refl _
theorem without2_does {x : List Int} (hx : x.length = 7) (s : Int) : Does Tryz.prog 144 [.agg (rowP x), .ptr [.int .i64 s]] (.bool (isS s x)) := by
  obtain ⟨x0, x1, x2, x3, x4, x5, x6, rfl⟩ := list7P hx
  simp only [isS, List.getD_cons_zero]
  obtain ⟨V, hV⟩ : ∃ V, (x0 == s) = V := ⟨_, rfl⟩
  rw [hV]
  refine does_of (own := inPl) Tryz.func144 rfl Tryz.ntmps144 (congrArg Array.toList Tryz.results144) (fun us w => Tryz.call144 us w) hTT mixed (Nat.le_of_ble_eq_true rfl) ?_
  intro w0 im0 D0 S Cl hS hC ar har
  have har' := har
  obtain ⟨ai, ab, nz, inr, fi, pk, ix, ln, sb, eqi, sl, fits, mn, mx, nt, be, up, fu, mg, mh, ms⟩ := ar
  have F := facts_of har
  clear har
  have he : ab .eql x0 s = V := by rw [F.eql]; exact hV
  cbv
  rw [he]
  exact PLe.refl _
theorem index7_does {H : List (List Int)} (h : ∀ x ∈ H, x.length = 7) (hl : H.length ≤ 100000) (s : Int) : Does Tryz.prog 156 [.list 7 (H.map rowP), .fn (.func 144) [] [.ptr [.int .i64 s]]] (.int .i64 (fstI (isS s) H)) := by
  have hw := fun k (hk : k < H.length) => without2_does (h _ (List.getElem_mem hk)) s
  obtain ⟨p, hp⟩ : ∃ p, isS s = p := ⟨_, rfl⟩
  rw [hp] at hw ⊢
  clear hp
  have hhit : ∀ k (hk : k < H.length) (z : Int), z = (k : Int) → (H.take k).any p = false → p H[k] = true → fstI p H = z := fun k hk z hz h1 h2 => by
    unfold fstI
    rw [if_pos (List.any_eq_true.2 ⟨_, List.getElem_mem hk, h2⟩), findIdx_at H k hk h1 h2, hz]
  have hno : H.any p = false → fstI p H = -1 := fun h1 => by
    unfold fstI
    rw [if_neg (by rw [h1]; simp)]
  obtain ⟨V, hV⟩ : ∃ V, fstI p H = V := ⟨_, rfl⟩
  rw [hV] at hhit hno ⊢
  clear hV
  refine does_of (own := inPl) Tryz.func156 rfl Tryz.ntmps156 (congrArg Array.toList Tryz.results156) (fun us w => Tryz.call156 us w) hTT mixed (Nat.le_of_ble_eq_true rfl) ?_
  intro w0 im0 D0 S Cl hS hC ar har
  have har' := har
  obtain ⟨ai, ab, nz, inr, fi, pk, ix, ln, sb, eqi, sl, fits, mn, mx, nt, be, up, fu, mg, mh, ms⟩ := ar
  have F := facts_of har
  clear har
  obtain ⟨eH, hH⟩ : ∃ es, H.map rowP = es := ⟨_, rfl⟩
  have lH : ln eH = H.length := by rw [F.ln, ← hH]; simp
  rw [hH]
  cbv
  refine hS _ _ _ (sem_loop (fun x : Nat × Int => [sL 0 7 eH, sV 1 (.fn (.func 144) [] [.ptr [.int .i64 s]]), sI 7 (ln eH), sI 8 x.2]) (fun x => x.1 ≤ H.length ∧ x.2 = (x.1 : Int) ∧ (H.take x.1).any p = false) (fun x => H.length - x.1) (fun t => t) (0, 0) (fun t => t) ⟨by rfl, by cbv; try (repeat (first | exact rfl | exact trivial | refine ⟨?_, ?_⟩))⟩ ?_ ?_)
  · exact ⟨by simp, rfl, rfl⟩
  rintro ⟨k, i⟩ ⟨hk, hi, hany⟩
  dsimp only at hk hi hany
  have hi : i = (k : Int) := hi
  have hadd : ai .add i 1 = ((k + 1 : Nat) : Int) := by rw [F.add i 1 (by omega) (by omega), hi]; simp
  by_cases hlt : k < H.length
  · have hb : ab .lss i (ln eH) = true := by rw [lH, F.lss, hi]; simpa using hlt
    have hg : ix eH i = some (rowP H[k]) := by rw [F.ix _ i k hi, ← hH]; exact get_rows hlt
    have hc := hw k hlt
    have hyes := hhit k hlt i hi hany
    have hnx : p H[k] = false → (H.take (k + 1)).any p = false := fun h1 => by rw [take_last hlt, List.any_append, hany]; simp [h1]
    obtain ⟨x0, x1, x2, x3, x4, x5, x6, hx⟩ := list7P (h _ (List.getElem_mem hlt))
    rw [hx] at hg hc
    obtain ⟨cb, hcb⟩ : ∃ cb, p H[k] = cb := ⟨_, rfl⟩
    rw [hcb] at hyes hnx
    rw [hx] at hcb
    rw [hcb] at hc
    have hc : Does Tryz.prog 144 [.agg [.int .i64 x0, .int .i64 x1, .int .i64 x2, .int .i64 x3, .int .i64 x4, .int .i64 x5, .int .i64 x6], .ptr [.int .i64 s]] (.bool cb) := hc
    refine sem_of (X := ⟨_, TT, ⟨0, 19, inPl⟩⟩) har' hTT mixed ?_
    intro S1 Cl1 hS1 hC1
    cbv
    rw [hb]; cbv
    repeat (rw [hg]; cbv)
    refine ⟨_, hC1 _ _ _ hc, ?_⟩; cbv
    cases cb
    · have hnx := hnx rfl
      cbv
      exact ⟨(k + 1, ai .add i 1), ⟨hlt, hadd, hnx⟩, by dsimp only; omega, ⟨by rfl, by cbv; try (repeat (first | exact rfl | exact trivial | refine ⟨?_, ?_⟩))⟩⟩
    · have hyes := hyes rfl
      cbv
      rw [hyes]; exact PLe.refl _
  · have hb : ab .lss i (ln eH) = false := by rw [lH, F.lss, hi]; simpa using hlt
    have hkE : k = H.length := by omega
    rw [hkE, List.take_length] at hany
    have hno := hno hany
    refine sem_of (X := ⟨_, TT, ⟨0, 19, inPl⟩⟩) har' hTT mixed ?_
    intro S1 Cl1 hS1 hC1
    cbv
    rw [hb]; cbv
    rw [hno]; exact PLe.refl _
theorem delete7_does {H : List (List Int)} (h : ∀ x ∈ H, x.length = 7) (hl : H.length ≤ 100000) (s : Int) : DoesC Tryz.prog 143 34 7 (H.map rowP) [.fn (.func 144) [] [.ptr [.int .i64 s]]] (.list 7 ((lessL s H).map rowP)) := by
  have hidx := index7_does h hl s
  have hw := fun k (hk : k < H.length) => without2_does (h _ (List.getElem_mem hk)) s
  have hfirst : ∀ q : Int, fstI (isS s) H = q → (q = -1 ∧ lessL s H = H) ∨ ∃ k, k < H.length ∧ q = (k : Int) ∧ (q ≠ -1 ∧ -100000 ≤ q + 1 ∧ q + 1 ≤ 100001 ∧ q + 1 = ((k + 1 : Nat) : Int)) ∧ H.take k = lessL s (H.take k) ∧ lessL s (H.take (k + 1)) = H.take k := fun q hq => by
    unfold fstI at hq
    split at hq
    · rename_i hany
      have hlt := List.findIdx_lt_length_of_exists (List.any_eq_true.1 hany)
      refine .inr ⟨H.findIdx (isS s), hlt, hq.symm, ⟨by omega, by omega, by omega, by rw [← hq]; simp⟩, ?_, ?_⟩
      · unfold lessL
        refine (List.filter_eq_self.2 fun x hx => ?_).symm
        obtain ⟨j, hj, rfl⟩ := List.mem_take_iff_getElem.1 hx
        have := List.not_of_lt_findIdx (p := isS s) (xs := H) (i := j) (by omega)
        simpa using this
      · rw [lessL_take hlt, List.findIdx_getElem (w := hlt), if_pos rfl]
        unfold lessL
        refine List.filter_eq_self.2 fun x hx => ?_
        obtain ⟨j, hj, rfl⟩ := List.mem_take_iff_getElem.1 hx
        have := List.not_of_lt_findIdx (p := isS s) (xs := H) (i := j) (by omega)
        simpa using this
    · rename_i hany
      refine .inl ⟨hq.symm, ?_⟩
      unfold lessL
      refine List.filter_eq_self.2 fun x hx => ?_
      simp only [Bool.not_eq_true, List.any_eq_false] at hany
      simpa using hany x hx
  obtain ⟨q, hq⟩ : ∃ q, fstI (isS s) H = q := ⟨_, rfl⟩
  have hfirst := hfirst q hq
  rw [hq] at hidx
  clear hq
  obtain ⟨V, hV⟩ : ∃ V, PV.list 7 ((lessL s H).map rowP) = V := ⟨_, rfl⟩
  rw [hV]
  refine doesC_of (own := inPl) Tryz.func143 rfl Tryz.ntmps143 (congrArg Array.toList Tryz.results143) (fun us w => Tryz.call143 us w) hTT mixed (Nat.le_of_ble_eq_true rfl) ?_
  intro w0 im0 D0 S Cl hS hC ar har
  have har' := har
  obtain ⟨ai, ab, nz, inr, fi, pk, ix, ln, sb, eqi, sl, fits, mn, mx, nt, be, up, fu, mg, mh, ms⟩ := ar
  have F := facts_of har
  clear har
  obtain ⟨eH, hH⟩ : ∃ es, H.map rowP = es := ⟨_, rfl⟩
  have lH : ln eH = H.length := by rw [F.ln, ← hH]; simp
  have fH : FlatL eH := by rw [← hH]; exact flat_rows H
  rw [hH] at hidx ⊢
  cbv
  refine ⟨_, hC _ _ _ hidx, ?_⟩; cbv
  rcases hfirst with ⟨hq1, hself⟩ | ⟨k0, hk0, hq0, ⟨hq1, hq2, hq3, hq4⟩, ht0, ht1⟩
  · have e1 : ab .eql q (-1) = true := by rw [F.eql, hq1]; rfl
    rw [e1]; cbv
    refine ⟨?_, fH⟩
    rw [← hV, hself, hH]
    exact PLe.refl _
  have e1 : ab .eql q (-1) = false := by rw [F.eql]; exact beq_eq_false_iff_ne.2 hq1
  have a1 : ai .add q 1 = ((k0 + 1 : Nat) : Int) := by rw [F.add q 1 (Int.le_trans (by decide) hq2) (Int.le_trans hq3 (by decide))]; exact hq4
  rw [e1]; cbv
  refine hS _ _ _ (sem_loop (fun x : Nat × Nat × Int × Int × List (List Int) × List (List PV) => [sR 0 0, sV 1 (.fn (.func 144) [] [.ptr [.int .i64 s]]), sI 5 x.2.2.1, sI 6 x.2.2.2.1, rW 0 34 7 x.2.2.2.2.2]) (fun x => x.2.1 ≤ H.length ∧ x.1 < x.2.1 ∧ x.2.2.1 = (x.1 : Int) ∧ x.2.2.2.1 = (x.2.1 : Int) ∧ x.2.2.2.2.2 = x.2.2.2.2.1.map rowP ∧ x.2.2.2.2.1.length = H.length ∧ (∀ y ∈ x.2.2.2.2.1, y.length = 7) ∧ x.2.2.2.2.1.take x.1 = lessL s (H.take x.2.1) ∧ x.2.2.2.2.1.drop x.2.1 = H.drop x.2.1) (fun x => H.length - x.2.1) (fun t => t) (k0, k0 + 1, q, ai .add q 1, H, eH) (fun t => t) ⟨by rfl, by cbv; try (repeat (first | exact rfl | exact trivial | refine ⟨?_, ?_⟩))⟩ ?_ ?_)
  · exact ⟨hk0, Nat.lt_succ_self _, hq0, a1, hH.symm, rfl, h, ht1.symm, rfl⟩
  rintro ⟨ki, kj, i, j, M, eM⟩ ⟨hj, hij, hi, hjj, hM, hMl, hMw, hMt, hMd⟩
  dsimp only at hj hij hi hjj hM hMl hMw hMt hMd
  have hi : i = (ki : Int) := hi
  have hjj : j = (kj : Int) := hjj
  have lM : ln eM = H.length := by rw [F.ln, hM]; simp [hMl]
  have hadd : ai .add j 1 = ((kj + 1 : Nat) : Int) := by rw [F.add j 1 (by omega) (by omega), hjj]; simp
  have haddi : ai .add i 1 = ((ki + 1 : Nat) : Int) := by rw [F.add i 1 (by omega) (by omega), hi]; simp
  by_cases hlt : kj < H.length
  · have hb : ab .lss j (ln eM) = true := by rw [lM, F.lss, hjj]; simpa using hlt
    have hkiM : ki < M.length := by omega
    have hkjM : kj < M.length := by omega
    have hMj : M[kj]'hkjM = H[kj] := by
      have e1 : (M.drop kj)[0]? = (H.drop kj)[0]? := by rw [hMd]
      rw [List.getElem?_drop, List.getElem?_drop, Nat.add_zero, List.getElem?_eq_getElem hkjM, List.getElem?_eq_getElem hlt] at e1
      exact Option.some.inj e1
    have hg : ix eM j = some (rowP H[kj]) := by rw [F.ix _ j kj hjj, hM, ← hMj]; exact get_rows hkjM
    have hgi : ix eM i = some (rowP (M[ki]'hkiM)) := by rw [F.ix _ i ki hi, hM]; exact get_rows hkiM
    have hc := hw kj hlt
    have hset : isS s H[kj] = false → (M.set ki H[kj]).take (ki + 1) = lessL s (H.take (kj + 1)) ∧ (M.set ki H[kj]).drop (kj + 1) = H.drop (kj + 1) := fun hn => less_set hlt hMl hMt (by omega) hMd hn
    have hskip : isS s H[kj] = true → M.take ki = lessL s (H.take (kj + 1)) ∧ M.drop (kj + 1) = H.drop (kj + 1) := fun hn => by
      refine ⟨by rw [lessL_take hlt, if_pos hn]; exact hMt, ?_⟩
      have := congrArg (List.drop 1) hMd
      simpa [List.drop_drop] using this
    have hup : up eM i (rowP H[kj]) = (M.set ki H[kj]).map rowP := by
      rw [F.up eM i ki _ hi, hM, List.map_set]
    have hMw' : ∀ y ∈ M.set ki H[kj], y.length = 7 := fun y hy => by
      rcases List.mem_or_eq_of_mem_set hy with hy | hy
      · exact hMw y hy
      · rw [hy]; exact h _ (List.getElem_mem hlt)
    have hMl' : (M.set ki H[kj]).length = H.length := by simp [hMl]
    obtain ⟨y0, y1, y2, y3, y4, y5, y6, hy⟩ := list7P (hMw _ (List.getElem_mem hkiM))
    rw [hy] at hgi
    obtain ⟨M', hM'⟩ : ∃ M', M.set ki H[kj] = M' := ⟨_, rfl⟩
    rw [hM'] at hset hup hMw' hMl'
    obtain ⟨cb, hcb⟩ : ∃ cb, isS s H[kj] = cb := ⟨_, rfl⟩
    rw [hcb] at hc hset hskip
    obtain ⟨x0, x1, x2, x3, x4, x5, x6, hx⟩ := list7P (h _ (List.getElem_mem hlt))
    rw [hx] at hg hc hup
    have hc : Does Tryz.prog 144 [.agg [.int .i64 x0, .int .i64 x1, .int .i64 x2, .int .i64 x3, .int .i64 x4, .int .i64 x5, .int .i64 x6], .ptr [.int .i64 s]] (.bool cb) := hc
    have hup : up eM i [.int .i64 x0, .int .i64 x1, .int .i64 x2, .int .i64 x3, .int .i64 x4, .int .i64 x5, .int .i64 x6] = M'.map rowP := hup
    refine sem_of (X := ⟨_, TT, ⟨0, 42, inPl⟩⟩) har' hTT mixed ?_
    intro S1 Cl1 hS1 hC1
    cbv
    rw [hb]; cbv
    repeat (rw [hg]; cbv)
    refine ⟨_, hC1 _ _ _ hc, ?_⟩; cbv
    rw [F.nt]
    cases cb
    · obtain ⟨k1, k2⟩ := hset rfl
      simp only [Bool.not_false]
      cbv
      repeat (rw [hgi]; cbv)
      exact ⟨(ki + 1, kj + 1, ai .add i 1, ai .add j 1, M', up eM i [.int .i64 x0, .int .i64 x1, .int .i64 x2, .int .i64 x3, .int .i64 x4, .int .i64 x5, .int .i64 x6]), ⟨hlt, Nat.succ_lt_succ hij, haddi, hadd, hup, hMl', hMw', k1, k2⟩, by dsimp only; omega, ⟨by rfl, by cbv; try (repeat (first | exact rfl | exact trivial | refine ⟨?_, ?_⟩))⟩⟩
    · obtain ⟨k1, k2⟩ := hskip rfl
      simp only [Bool.not_true]
      cbv
      exact ⟨(ki, kj + 1, i, ai .add j 1, M, eM), ⟨hlt, Nat.lt_succ_of_lt hij, hi, hadd, hM, hMl, hMw, k1, k2⟩, by dsimp only; omega, ⟨by rfl, by cbv; try (repeat (first | exact rfl | exact trivial | refine ⟨?_, ?_⟩))⟩⟩
  · have hb : ab .lss j (ln eM) = false := by rw [lM, F.lss, hjj]; simpa using hlt
    have hkE : kj = H.length := by omega
    rw [hkE, List.take_length] at hMt
    have hel : eM.length = H.length := by rw [hM]; simp [hMl]
    have hme : ki ≤ eM.length := by omega
    obtain ⟨E2, hE2⟩ : ∃ E2, eM.take ki ++ List.replicate (eM.length - ki) [.int .i64 0, .int .i64 0, .int .i64 0, .int .i64 0, .int .i64 0, .int .i64 0, .int .i64 0] = E2 := ⟨_, rfl⟩
    have htk : (eM.take ki).length = ki := by rw [List.length_take]; omega
    have hsl : sl E2 0 i = some ((lessL s H).map rowP) := by
      have hE2l : ki ≤ E2.length := by rw [← hE2, List.length_append, htk]; omega
      rw [F.sl E2 0 i 0 ki rfl hi (Nat.zero_le _) hE2l]
      simp only [List.drop_zero, Nat.sub_zero]
      rw [← hE2, List.take_left' htk, hM, ← List.map_take, hMt]
    obtain ⟨eR, hR⟩ : ∃ es, (lessL s H).map rowP = es := ⟨_, rfl⟩
    have fR : FlatL eR := by rw [← hR]; exact flat_rows _
    rw [hR] at hsl hV
    refine sem_of (X := ⟨_, TT, ⟨0, 42, inPl⟩⟩) har' hTT mixed ?_
    intro S1 Cl1 hS1 hC1
    cbv
    rw [hb]; cbv
    refine hS _ _ _ (sem_clear (T := TT) (r := 0) (m := ki) rfl rfl rfl rfl rfl rfl rfl rfl rfl rfl rfl rfl rfl rfl rfl rfl (by decide) (by decide) (hTT 24) rfl rfl rfl rfl hi hme ?_)
    rw [hE2]
    cbv
    rw [hsl]; cbv
    refine ⟨?_, fR⟩
    rw [← hV]
    exact PLe.refl _
theorem clone_does {T H N : List (List Int)} (h1 : ∀ x ∈ T, x.length = 24) (h2 : ∀ x ∈ H, x.length = 9) (h3 : ∀ x ∈ N, x.length = 7) (hT : T.length ≤ 100000) (hH : H.length ≤ 100000) (hN : N.length ≤ 100000) :
    DoesO Tryz.prog 64 [accP T H N] true [(30, 24, T.map rowP), (32, 9, H.map rowP), (34, 7, N.map rowP)] := by
  have hc1 := clone24_does h1 hT
  have hc2 := clone9_does h2 hH
  have hc3 := clone7_does h3 hN
  have f1 := flat_rows T
  have f2 := flat_rows H
  have f3 := flat_rows N
  simp only [accP]
  obtain ⟨eT, hT'⟩ : ∃ es, T.map rowP = es := ⟨_, rfl⟩
  obtain ⟨eH, hH'⟩ : ∃ es, H.map rowP = es := ⟨_, rfl⟩
  obtain ⟨eN, hN'⟩ : ∃ es, N.map rowP = es := ⟨_, rfl⟩
  rw [hT'] at hc1 f1 ⊢
  rw [hH'] at hc2 f2 ⊢
  rw [hN'] at hc3 f3 ⊢
  refine doesO_of (own := inPl) Tryz.func64 rfl Tryz.ntmps64 (congrArg Array.toList Tryz.results64) (fun us w => Tryz.call64 us w) hTT mixed (Nat.le_of_ble_eq_true rfl) ?_
  intro w0 im0 D0 S Cl hS hC ar har
  have har' := har
  obtain ⟨ai, ab, nz, inr, fi, pk, ix, ln, sb, eqi, sl, fits, mn, mx, nt, be, up, fu, mg, mh, ms⟩ := ar
  have F := facts_of har
  clear har
  cbv
  refine ⟨.own 30 24 eT, hC _ (.mark :: _) (.own 30 24 eT) (show Can Tryz.prog _ (.mark :: _) (.own 30 24 eT) from hc1), ?_⟩; cbv
  refine ⟨.own 32 9 eH, hC _ (.mark :: _) (.own 32 9 eH) (show Can Tryz.prog _ (.mark :: _) (.own 32 9 eH) from hc2), ?_⟩; cbv
  refine ⟨.own 34 7 eN, hC _ (.mark :: _) (.own 34 7 eN) (show Can Tryz.prog _ (.mark :: _) (.own 34 7 eN) from hc3), ?_⟩; cbv
  first | exact ⟨f1, f2, f3⟩ | exact ⟨f1, f2, f3, trivial⟩
def Ris (N : List (List Int)) : Prop := ∀ i j (hi : i < N.length) (hj : j < N.length), i < j → N[i].getD 0 0 < N[j].getD 0 0
theorem ris_ok {ok : List Int → Bool} {most : Nat} {N : List (List Int)} (h : lsOk ok most N = true) : Ris N := by
  unfold lsOk at h
  simp only [Bool.and_eq_true] at h
  have one : ∀ j (hj : j + 1 < N.length), N[j].getD 0 0 < N[j + 1].getD 0 0 := fun j hj => by
    have h2 := h.2
    unfold lsK at h2
    have := List.all_eq_true.1 h2 (j + 1) (List.mem_range.2 hj)
    rw [lsAt_eq hj] at this
    simp only [Bool.and_eq_true, Bool.or_eq_true, beq_iff_eq, decide_eq_true_eq] at this
    have h3 := this.2.resolve_left (by omega)
    have hd : N.getD (j + 1 - 1) [] = N[j] := by rw [List.getD_eq_getElem?_getD]; simp [show j < N.length by omega]
    rw [hd] at h3
    exact h3
  intro i j hi hj hij
  induction j with
  | zero => omega
  | succ j ih =>
    have h1 := one j hj
    rcases Nat.lt_or_ge i j with hlt | hge
    · have := ih (by omega) hlt
      omega
    · have : i = j := by omega
      subst this
      exact h1
theorem atK_at {s : Int} {N : List (List Int)} {a : Nat} (ha : a ≤ N.length) (h1 : ∀ k (hk : k < N.length), k < a → N[k].getD 0 0 < s) (h2 : ∀ k (hk : k < N.length), a ≤ k → ¬ N[k].getD 0 0 < s) : (atK s N).2 = a := by
  have key : ∀ k, k ≤ N.length → (atK s (N.take k)).2 = if k ≤ a then (k : Int) else a := fun k => by
    induction k with
    | zero => intro _; simp [atK]
    | succ k ih =>
      intro hk
      have ih := ih (by omega)
      have hone := atK_one s N k (by omega)
      rw [atK_take (by omega)]
      unfold atF
      dsimp only
      rw [hone, ih]
      by_cases hka : k < a
      · have := h1 k (by omega) hka
        rw [if_pos (decide_eq_true this), if_pos (by omega)]
        omega
      · have := h2 k (by omega) (by omega)
        rw [if_neg (by rw [decide_eq_true_eq]; exact this), if_neg (show ¬ k + 1 ≤ a by omega)]
        split <;> omega
  have := key N.length (Nat.le_refl _)
  rw [List.take_length] at this
  rw [this]
  split <;> omega
theorem any_at {s : Int} {N : List (List Int)} {a : Nat} (hr : Ris N) (ha : a < N.length) (h1 : ∀ k (hk : k < N.length), k < a → N[k].getD 0 0 < s) (h2 : ∀ k (hk : k < N.length), a ≤ k → ¬ N[k].getD 0 0 < s) : N.any (isS s) = (N[a].getD 0 0 == s) := by
  cases hb : N[a].getD 0 0 == s with
  | true => exact List.any_eq_true.2 ⟨_, List.getElem_mem ha, hb⟩
  | false =>
    rw [List.any_eq_false]
    intro x hx
    obtain ⟨k, hk, rfl⟩ := List.mem_iff_getElem.1 hx
    unfold isS
    intro he
    have he := eq_of_beq he
    rcases Nat.lt_trichotomy k a with h | h | h
    · have := h1 k hk h; omega
    · subst h; rw [he] at hb; simp at hb
    · have := hr a k ha hk h
      have := h2 a ha (Nat.le_refl _)
      omega
theorem any_none {s : Int} {N : List (List Int)} (h1 : ∀ k (hk : k < N.length), N[k].getD 0 0 < s) : N.any (isS s) = false := by
  rw [List.any_eq_false]
  intro x hx
  obtain ⟨k, hk, rfl⟩ := List.mem_iff_getElem.1 hx
  unfold isS
  intro he
  have he := eq_of_beq he
  have := h1 k hk
  omega
theorem search_does {N : List (List Int)} (h3 : ∀ x ∈ N, x.length = 7) (hr : Ris N) (hN : N.length ≤ 100000) {n : List Int} (hn7 : n.length = 7) :
    Does Tryz.prog 61 [.list 7 (N.map rowP), .agg (rowP n), .fn (.func 62) [] []] (.tup [.int .i64 (atK (n.getD 0 0) N).2, .bool (N.any (isS (n.getD 0 0)))]) := by
  have hcmp : ∀ k (hk : k < N.length), Does Tryz.prog 62 [.agg (rowP N[k]), .agg (rowP n)] (.int .i64 (cmpI (N[k].getD 0 0) (n.getD 0 0))) := fun k hk => noted1_does (h3 _ (List.getElem_mem hk)) hn7
  obtain ⟨n0, n1, n2, n3, n4, n5, n6, rfl⟩ := list7 hn7
  simp only [List.getD_cons_zero] at hcmp ⊢
  obtain ⟨V, hV⟩ : ∃ V, PV.tup [.int .i64 (atK n0 N).2, .bool (N.any (isS n0))] = V := ⟨_, rfl⟩
  rw [hV]
  have hlt0 : ∀ x y : Int, decide (cmpI x y < 0) = decide (x < y) := fun x y => by
    unfold cmpI
    by_cases h : x < y
    · rw [if_pos h, decide_eq_true h]; rfl
    · rw [if_neg h, decide_eq_false h]; split <;> rfl
  have heq0 : ∀ x y : Int, (cmpI x y == 0) = (x == y) := fun x y => by
    unfold cmpI
    by_cases h : x < y
    · rw [if_pos h, beq_eq_false_iff_ne.2 (show x ≠ y by omega)]; rfl
    · rw [if_neg h]
      by_cases h' : x > y
      · rw [if_pos h', beq_eq_false_iff_ne.2 (show x ≠ y by omega)]; rfl
      · rw [if_neg h', beq_iff_eq.2 (show x = y by omega)]; rfl
  have hend0 : ∀ (a : Nat) (z : Int), z = (a : Int) → a = N.length → (∀ k (hk : k < N.length), k < a → N[k].getD 0 0 < n0) → PV.tup [.int .i64 z, .bool false] = V := fun a z hz ha h1 => by
    rw [hz, ← hV, atK_at (a := a) (by omega) h1 (fun k hk h => by omega), any_none (fun k hk => h1 k hk (by omega))]
  have hend1 : ∀ (a : Nat) (z : Int), z = (a : Int) → ∀ (ha : a < N.length), (∀ k (hk : k < N.length), k < a → N[k].getD 0 0 < n0) → (∀ k (hk : k < N.length), a ≤ k → ¬ N[k].getD 0 0 < n0) → PV.tup [.int .i64 z, .bool (N[a].getD 0 0 == n0)] = V := fun a z hz ha h1 h2 => by
    rw [hz, ← hV, atK_at (a := a) (by omega) h1 h2, any_at hr ha h1 h2]
  have hup : ∀ m (hm : m < N.length), N[m].getD 0 0 < n0 → ∀ k (hk : k < N.length), k < m + 1 → N[k].getD 0 0 < n0 := fun m hm h k hk hkm => by
    rcases Nat.lt_or_ge k m with h' | h'
    · have := hr k m hk hm h'; omega
    · have : k = m := by omega
      subst this; exact h
  have hdn : ∀ m (hm : m < N.length), ¬ N[m].getD 0 0 < n0 → ∀ k (hk : k < N.length), m ≤ k → ¬ N[k].getD 0 0 < n0 := fun m hm h k hk hkm => by
    rcases Nat.lt_or_ge m k with h' | h'
    · have := hr m k hm hk h'; omega
    · have : m = k := by omega
      subst this; exact h
  clear hV hr
  refine does_of (own := inPl) Tryz.func61 rfl Tryz.ntmps61 (congrArg Array.toList Tryz.results61) (fun us w => Tryz.call61 us w) hTT mixed (Nat.le_of_ble_eq_true rfl) ?_
  intro w0 im0 D0 S Cl hS hC ar har
  have har' := har
  obtain ⟨ai, ab, nz, inr, fi, pk, ix, ln, sb, eqi, sl, fits, mn, mx, nt, be, up, fu, mg, mh, ms⟩ := ar
  have F := facts_of har
  clear har
  obtain ⟨eN, hNe⟩ : ∃ es, N.map rowP = es := ⟨_, rfl⟩
  rw [hNe]
  have lN : ln eN = N.length := by rw [F.ln, ← hNe]; simp
  cbv
  refine hS _ _ _ (sem_loop (fun x : Nat × Nat × Int × Int => [sL 0 7 eN, sV 2 (.fn (.func 62) [] []), sP 4 4, sI 8 (ln eN), sI 9 x.2.2.1, sI 10 x.2.2.2, bX 4 34 [cI n0, cI n1, cI n2, cI n3, cI n4, cI n5, cI n6]]) (fun x => x.1 ≤ x.2.1 ∧ x.2.1 ≤ N.length ∧ x.2.2.1 = (x.1 : Int) ∧ x.2.2.2 = (x.2.1 : Int) ∧ (∀ k (hk : k < N.length), k < x.1 → N[k].getD 0 0 < n0) ∧ (∀ k (hk : k < N.length), x.2.1 ≤ k → ¬ N[k].getD 0 0 < n0)) (fun x => x.2.1 - x.1) (fun t => t) (0, N.length, 0, ln eN) (fun t => t) ⟨by rfl, by cbv; try (repeat (first | exact rfl | exact trivial | refine ⟨?_, ?_⟩))⟩ ?_ ?_)
  · exact ⟨by simp, by simp, rfl, lN, fun k _ h => absurd h (Nat.not_lt_zero k), fun k hk h => by dsimp only at h; omega⟩
  rintro ⟨ka, kb, i, j⟩ ⟨hab, hbN, hi, hj, hlo, hhi⟩
  dsimp only at hab hbN hi hj hlo hhi
  have hi : i = (ka : Int) := hi
  have hj : j = (kb : Int) := hj
  by_cases hlt : ka < kb
  · have hb : ab .lss i j = true := by rw [F.lss, hi, hj]; simpa using hlt
    obtain ⟨m, hm⟩ : ∃ m : Nat, (ka + kb) / 2 = m := ⟨_, rfl⟩
    have hmk : ka ≤ m ∧ m < kb := by omega
    have hmN : m < N.length := by omega
    have hw : ai .xor (ai .shr (ai .andNot (ai .add i j) 0) 1) 0 = (m : Int) := by
      rw [F.add i j (by omega) (by omega), F.uw _ (by omega) (by omega), F.shr1 _ (by omega), F.iw _ (by omega) (by omega)]
      omega
    have hadd : ai .add (m : Int) 1 = ((m + 1 : Nat) : Int) := by rw [F.add _ 1 (by omega) (by omega)]; simp
    obtain ⟨t, ht⟩ : ∃ t : Int, (m : Int) = t := ⟨_, rfl⟩
    rw [ht] at hw hadd
    have hg : ix eN t = some (rowP N[m]) := by rw [F.ix _ t m ht.symm, ← hNe]; exact get_rows hmN
    have hc := hcmp m hmN
    have hq := hlt0 (N[m].getD 0 0) n0
    have hu := hup m hmN
    have hd := hdn m hmN
    obtain ⟨y0, y1, y2, y3, y4, y5, y6, hx⟩ := list7P (h3 _ (List.getElem_mem hmN))
    rw [hx] at hg hc hq hu hd
    simp only [List.getD_cons_zero] at hc hq hu hd
    obtain ⟨c, hcc⟩ : ∃ c, cmpI y0 n0 = c := ⟨_, rfl⟩
    rw [hcc] at hc hq
    rw [← F.lss c 0] at hq
    have hc : Does Tryz.prog 62 [.agg [.int .i64 y0, .int .i64 y1, .int .i64 y2, .int .i64 y3, .int .i64 y4, .int .i64 y5, .int .i64 y6], .agg [.int .i64 n0, .int .i64 n1, .int .i64 n2, .int .i64 n3, .int .i64 n4, .int .i64 n5, .int .i64 n6]] (.int .i64 c) := hc
    have hyes : ab .lss c 0 = true → (∀ k (hk : k < N.length), k < m + 1 → N[k].getD 0 0 < n0) := fun h => hu (of_decide_eq_true (hq.symm.trans h))
    have hno : ab .lss c 0 = false → (∀ k (hk : k < N.length), m ≤ k → ¬ N[k].getD 0 0 < n0) := fun h => hd (of_decide_eq_false (hq.symm.trans h))
    refine sem_of (X := ⟨_, TT, ⟨0, 49, inPl⟩⟩) har' hTT mixed ?_
    intro S1 Cl1 hS1 hC1
    cbv
    rw [hb]; cbv
    rw [hw]; cbv
    repeat (rw [hg]; cbv)
    refine ⟨_, hC1 _ _ _ hc, ?_⟩; cbv
    cases c1 : ab .lss c 0
    · have hno := hno c1
      cbv
      exact ⟨(ka, m, i, t), ⟨hmk.1, Nat.le_of_lt hmN, hi, ht.symm, hlo, hno⟩, by dsimp only; omega, ⟨by rfl, by cbv; try (repeat (first | exact rfl | exact trivial | refine ⟨?_, ?_⟩))⟩⟩
    · have hyes := hyes c1
      cbv
      exact ⟨(m + 1, kb, ai .add t 1, j), ⟨hmk.2, hbN, hadd, hj, hyes, hhi⟩, by dsimp only; omega, ⟨by rfl, by cbv; try (repeat (first | exact rfl | exact trivial | refine ⟨?_, ?_⟩))⟩⟩
  · have hb : ab .lss i j = false := by rw [F.lss, hi, hj]; simpa using hlt
    have hkk : ka = kb := by omega
    subst hkk
    by_cases hka : ka < N.length
    · have hb2 : ab .lss i (ln eN) = true := by rw [lN, F.lss, hi]; simpa using hka
      have hg : ix eN i = some (rowP N[ka]) := by rw [F.ix _ i ka hi, ← hNe]; exact get_rows hka
      have hc := hcmp ka hka
      have hq := heq0 (N[ka].getD 0 0) n0
      have he := hend1 ka i hi hka hlo hhi
      obtain ⟨y0, y1, y2, y3, y4, y5, y6, hx⟩ := list7P (h3 _ (List.getElem_mem hka))
      rw [hx] at hg hc hq he
      simp only [List.getD_cons_zero] at hc hq he
      obtain ⟨c, hcc⟩ : ∃ c, cmpI y0 n0 = c := ⟨_, rfl⟩
      rw [hcc] at hc hq
      rw [← hq, ← F.eql c 0] at he
      have hc : Does Tryz.prog 62 [.agg [.int .i64 y0, .int .i64 y1, .int .i64 y2, .int .i64 y3, .int .i64 y4, .int .i64 y5, .int .i64 y6], .agg [.int .i64 n0, .int .i64 n1, .int .i64 n2, .int .i64 n3, .int .i64 n4, .int .i64 n5, .int .i64 n6]] (.int .i64 c) := hc
      refine sem_of (X := ⟨_, TT, ⟨0, 49, inPl⟩⟩) har' hTT mixed ?_
      intro S1 Cl1 hS1 hC1
      cbv
      rw [hb]; cbv
      rw [hb2]; cbv
      repeat (rw [hg]; cbv)
      refine ⟨_, hC _ _ _ hc, ?_⟩; cbv
      rw [← he]
      exact PLe.refl _
    · have hb2 : ab .lss i (ln eN) = false := by rw [lN, F.lss, hi]; simpa using hka
      have he := hend0 ka i hi (by omega) hlo
      refine sem_of (X := ⟨_, TT, ⟨0, 49, inPl⟩⟩) har' hTT mixed ?_
      intro S1 Cl1 hS1 hC1
      cbv
      rw [hb]; cbv
      rw [hb2]; cbv
      rw [← he]
      exact PLe.refl _
theorem without_does {T H N : List (List Int)} (h1 : ∀ x ∈ T, x.length = 24) (h2 : ∀ x ∈ H, x.length = 9) (h3 : ∀ x ∈ N, x.length = 7) (hT : T.length ≤ 100000) (hH : H.length ≤ 100000) (hN : N.length ≤ 100000) (s : Int) :
    Does Tryz.prog 115 [accP T H N, .int .i64 s] (accP T (lessL s H) (lessL s N)) := by
  have hcl := clone_does h1 h2 h3 hT hH hN
  have hd1 := delete9_does h2 hH s
  have hd2 := delete7_does h3 hN s
  obtain ⟨V, hV⟩ : ∃ V, accP T (lessL s H) (lessL s N) = V := ⟨_, rfl⟩
  rw [hV]
  obtain ⟨eT, hT'⟩ : ∃ es, T.map rowP = es := ⟨_, rfl⟩
  obtain ⟨eH, hH'⟩ : ∃ es, H.map rowP = es := ⟨_, rfl⟩
  obtain ⟨eN, hN'⟩ : ∃ es, N.map rowP = es := ⟨_, rfl⟩
  obtain ⟨lH, hlH⟩ : ∃ es, (lessL s H).map rowP = es := ⟨_, rfl⟩
  obtain ⟨lN, hlN⟩ : ∃ es, (lessL s N).map rowP = es := ⟨_, rfl⟩
  simp only [accP, hT', hH', hN', hlH, hlN] at hcl hd1 hd2 hV ⊢
  refine does_of (own := inPl) Tryz.func115 rfl Tryz.ntmps115 (congrArg Array.toList Tryz.results115) (fun us w => Tryz.call115 us w) hTT mixed (Nat.le_of_ble_eq_true rfl) ?_
  intro w0 im0 D0 S Cl hS hC ar har
  have har' := har
  obtain ⟨ai, ab, nz, inr, fi, pk, ix, ln, sb, eqi, sl, fits, mn, mx, nt, be, up, fu, mg, mh, ms⟩ := ar
  have F := facts_of har
  clear har
  cbv
  refine ⟨.agg [.own 30 24 eT, .own 32 9 eH, .own 34 7 eN], hC _ (.mark :: _) (.agg [.own 30 24 eT, .own 32 9 eH, .own 34 7 eN]) (show Can Tryz.prog _ (.mark :: _) (.agg [.own 30 24 eT, .own 32 9 eH, .own 34 7 eN]) from hcl), ?_⟩; cbv
  refine ⟨.list 9 lH, hC _ (.own 32 9 eH :: _) (.list 9 lH) (show Can Tryz.prog _ (.own 32 9 eH :: _) (.list 9 lH) from hd1), ?_⟩; cbv
  refine ⟨.list 7 lN, hC _ (.own 34 7 eN :: _) (.list 7 lN) (show Can Tryz.prog _ (.own 34 7 eN :: _) (.list 7 lN) from hd2), ?_⟩; cbv
  rw [← hV]
  exact PLe.refl _
theorem pMoved_does {T H N : List (List Int)} (h1 : ∀ x ∈ T, x.length = 24) (h2 : ∀ x ∈ H, x.length = 9) (h3 : ∀ x ∈ N, x.length = 7) (s d : Int) :
    Does Tryz.prog 51 [accP T H N, .int .i64 s, .int .i64 d] (.tup [.list 1 (numP (movN T H N s d)), .int .i64 (movE T H N s d)]) := by
  have hCk := pcheck_does h1 h2 h3
  have hDy := checkDay_does d
  have hOr := orE_does [err (accOk T H N) 63, err (inB d 0 100000) 6]
  rw [askE_or] at hOr
  have hW : askE T H N d = 0 → Does Tryz.prog 115 [accP T H N, .int .i64 s] (accP T (lessL s H) (lessL s N)) := fun h => by
    have := accOk_len (askE_ok h).1
    exact without_does h1 h2 h3 (by omega) (by omega) (by omega) s
  have hd1 := fun (h : askE T H N d = 0) => dues_does h1 h2 h3 h
  have hd2 := fun (h : askE T H N d = 0) => dues_does (H := lessL s H) (N := lessL s N) h1 (fun x hx => h2 x (List.mem_filter.1 hx).1) (fun x hx => h3 x (List.mem_filter.1 hx).1) (ask_less h s)
  have hm1 : askE T H N d = 0 → ∀ q : Int, mGet 1 (((H.filter (cntH d)).map (dueE T N d)).map rowP) [.int .i64 q] [.int .i64 0, .int .i64 0, .int .i64 0, .int .i64 0] = rowP (dueR T H N q d).1 := fun h q => by
    rw [mGet_dues (dueE_five T N d _) q, gDue_eq h q]
  have hm2 : askE T H N d = 0 → ∀ q : Int, mGet 1 ((((lessL s H).filter (cntH d)).map (dueE T (lessL s N) d)).map rowP) [.int .i64 q] [.int .i64 0, .int .i64 0, .int .i64 0, .int .i64 0] = rowP (dueR T (lessL s H) (lessL s N) q d).1 := fun h q => by
    rw [mGet_dues (dueE_five T _ d _) q, gDue_eq (ask_less h s) q]
  have hmv : askE T H N d = 0 → ∀ h, mvB T H N s d h = !((dueR T H N (h.getD 0 0) d).1 == (dueR T (lessL s H) (lessL s N) (h.getD 0 0) d).1) := fun h x => mvB_eq h x
  have hfn := fnd_len H N s
  have hlenH : askE T H N d = 0 → H.length ≤ 60 := fun h => (accOk_len (askE_ok h).1).2.1
  have f1 := fun q => dueR_four T H N q d
  have f2 := fun q => dueR_four T (lessL s H) (lessL s N) q d
  obtain ⟨V, hV⟩ : ∃ V, PV.tup [.list 1 (numP (movN T H N s d)), .int .i64 (movE T H N s d)] = V := ⟨_, rfl⟩
  rw [hV]
  unfold movN movE at hV
  obtain ⟨e, he⟩ : ∃ e, askE T H N d = e := ⟨_, rfl⟩
  obtain ⟨fb, hfb⟩ : ∃ e, fndB H N s = e := ⟨_, rfl⟩
  obtain ⟨mv, hmvE⟩ : ∃ e, mvB T H N s d = e := ⟨_, rfl⟩
  obtain ⟨D1, hD1⟩ : ∃ f : Int → List Int, (fun q => (dueR T H N q d).1) = f := ⟨_, rfl⟩
  obtain ⟨D2, hD2⟩ : ∃ f : Int → List Int, (fun q => (dueR T (lessL s H) (lessL s N) q d).1) = f := ⟨_, rfl⟩
  have g1 : ∀ q, (dueR T H N q d).1 = D1 q := fun q => by rw [← hD1]
  have g2 : ∀ q, (dueR T (lessL s H) (lessL s N) q d).1 = D2 q := fun q => by rw [← hD2]
  simp only [g1, g2] at hm1 hm2 hmv f1 f2
  rw [he, hfb, hmvE] at hV
  rw [hmvE] at hmv
  rw [hfb] at hfn
  rw [he] at hOr hW hd1 hd2 hm1 hm2 hmv hlenH
  generalize err (accOk T H N) 63 = e1 at *
  generalize err (inB d 0 100000) 6 = e2 at *
  clear he hfb hmvE hD1 hD2 g1 g2
  obtain ⟨E1, hE1⟩ : ∃ es, ((H.filter (cntH d)).map (dueE T N d)).map rowP = es := ⟨_, rfl⟩
  obtain ⟨E2, hE2⟩ : ∃ es, (((lessL s H).filter (cntH d)).map (dueE T (lessL s N) d)).map rowP = es := ⟨_, rfl⟩
  rw [hE1] at hd1 hm1
  rw [hE2] at hd2 hm2
  obtain ⟨eT, hT⟩ : ∃ es, T.map rowP = es := ⟨_, rfl⟩
  obtain ⟨eH, hH⟩ : ∃ es, H.map rowP = es := ⟨_, rfl⟩
  obtain ⟨eN, hN⟩ : ∃ es, N.map rowP = es := ⟨_, rfl⟩
  obtain ⟨lH, hlH⟩ : ∃ es, (lessL s H).map rowP = es := ⟨_, rfl⟩
  obtain ⟨lN, hlN⟩ : ∃ es, (lessL s N).map rowP = es := ⟨_, rfl⟩
  simp only [accP, hT, hH, hN, hlH, hlN] at hCk hW hd1 hd2 ⊢
  refine does_of (own := inPl) Tryz.func51 rfl Tryz.ntmps51 (congrArg Array.toList Tryz.results51) (fun us w => Tryz.call51 us w) hTT mixed (Nat.le_of_ble_eq_true rfl) ?_
  intro w0 im0 D0 S Cl hS hC ar har
  have har' := har
  obtain ⟨ai, ab, nz, inr, fi, pk, ix, ln, sb, eqi, sl, fits, mn, mx, nt, be, up, fu, mg, mh, ms⟩ := ar
  have F := facts_of har
  clear har
  have hlnH : ln eH = H.length := by rw [F.ln, ← hH]; simp
  have hlnN : ln eN = N.length := by rw [F.ln, ← hN]; simp
  have hllH : ln lH = (lessL s H).length := by rw [F.ln, ← hlH]; simp
  have hllN : ln lN = (lessL s N).length := by rw [F.ln, ← hlN]; simp
  have hq1 : ab .eql (ln lH) (ln eH) = decide ((lessL s H).length = H.length) := by
    rw [F.eql, hllH, hlnH]
    by_cases hh : (lessL s H).length = H.length
    · rw [hh]; simp
    · rw [decide_eq_false hh]; rw [beq_eq_false_iff_ne]; omega
  have hq2 : ab .eql (ln lN) (ln eN) = decide ((lessL s N).length = N.length) := by
    rw [F.eql, hllN, hlnN]
    by_cases hh : (lessL s N).length = N.length
    · rw [hh]; simp
    · rw [decide_eq_false hh]; rw [beq_eq_false_iff_ne]; omega
  rw [← hq1, ← hq2] at hfn
  clear hllH hllN hq1 hq2
  cbv
  refine ⟨_, hC _ _ _ hCk, ?_⟩; cbv
  refine ⟨_, hC _ _ _ hDy, ?_⟩; cbv
  refine ⟨_, hC _ _ _ hOr, ?_⟩; cbv
  cases c0 : ab .neq e 0
  rotate_left
  · have h0 : ¬ e = 0 := by rw [F.neq] at c0; simpa using c0
    rw [if_neg h0, if_neg h0] at hV
    cbv
    subst hV
    exact PLe.tup2 (PLe.nil 1) (PLe.refl _)
  have h0 : e = 0 := by rw [F.neq] at c0; simpa using c0
  rw [if_pos h0] at hV
  have hW := hW h0
  have hd1 := hd1 h0
  have hd2 := hd2 h0
  have hm1 := hm1 h0
  have hm2 := hm2 h0
  have hmv := hmv h0
  have hH60 := hlenH h0
  cbv
  refine ⟨_, hC _ _ _ hW, ?_⟩; cbv
  have hnone : fb = false → PLe (.tup [.nil, .int .i64 3]) V := fun h => by
    rw [h] at hV; subst hV; exact PLe.tup2 (PLe.nil 1) (PLe.refl _)
  have hgo : fb = true → PV.tup [.list 1 (numP (srcsN mv H)), .int .i64 0] = V := fun h => by rw [h] at hV; exact hV
  clear hV
  have hfb : (ab .eql (ln lH) (ln eH) = true ∧ ab .eql (ln lN) (ln eN) = true ∧ fb = false) ∨ ((ab .eql (ln lH) (ln eH) = false ∨ (ab .eql (ln lH) (ln eH) = true ∧ ab .eql (ln lN) (ln eN) = false)) ∧ fb = true) := by
    rw [hfn]
    cases ab .eql (ln lH) (ln eH) <;> cases ab .eql (ln lN) (ln eN) <;> simp
  rcases hfb with ⟨c1, c2, rfl⟩ | ⟨hor, rfl⟩
  · rw [c1]; cbv
    rw [c2]; cbv
    exact hnone rfl
  have hgo := hgo rfl
  clear hfn hnone
  rcases hor with c1 | ⟨c1, c2⟩
  all_goals (rw [c1]; cbv)
  rotate_left
  rw [c2]; cbv
  all_goals
    refine ⟨_, hC _ _ _ hd1, ?_⟩; cbv
    refine ⟨_, hC _ _ _ hd2, ?_⟩; cbv
    refine hS _ _ _ (sem_mkRow 12 1000 3 1 (by rfl) (by rfl) (sem_loopR (fun x : Nat × Int × List (List PV) => [(kT 10, .t (.c (.p (.map false true [.int .i64 0] E1)))), (kT 11, .t (.c (.p (.map false true [.int .i64 0] E2)))), sR 12 1000, sL 50 9 eH, sI 51 (ln eH), sI 52 x.2.1, rW 1000 3 1 x.2.2]) (fun x => x.1 ≤ H.length ∧ x.2.1 = (x.1 : Int) ∧ x.2.2 = numP (srcsN mv (H.take x.1))) (fun x => H.length - x.1) (0, 0, []) (fun t => t) ⟨by rfl, by cbv; try (repeat (first | exact rfl | exact trivial | refine ⟨?_, ?_⟩))⟩ ?_ ?_))
    · exact ⟨by simp, rfl, rfl⟩
    rintro ⟨k, i, es⟩ ⟨hk, hi, hes⟩
    dsimp only at hk hi hes
    have hadd : ai .add i 1 = ((k + 1 : Nat) : Int) := by rw [F.add i 1 (by omega) (by omega), hi]; simp
    have hfit : ∀ x, fits 8 es [x] = true := fun x => F.fits _ _ _ (by
      have := srcs_len mv (H.take k)
      rw [hes, numP_len]; simp only [List.length_take, List.length_singleton] at this ⊢; omega)
    by_cases hlt : k < H.length
    · have hb : ab .lss i (ln eH) = true := by rw [hlnH, F.lss, hi]; simpa using hlt
      have hg : ix eH i = some (rowP H[k]) := by rw [F.ix _ i k hi, ← hH]; exact get_rows hlt
      have hnext := srcs_take (p := mv) hlt
      obtain ⟨x0, x1, x2, x3, x4, x5, x6, x7, x8, hx⟩ := list9 (h2 _ (List.getElem_mem hlt))
      rw [hx] at hg hnext
      rw [hmv] at hnext
      simp only [List.getD_cons_zero] at hnext
      obtain ⟨a0, a1, a2, a3, ha⟩ := f1 x0
      obtain ⟨b0, b1, b2, b3, hb4⟩ := f2 x0
      have p1 : mg 1 E1 [.int .i64 x0] [.int .i64 0, .int .i64 0, .int .i64 0, .int .i64 0] = [.int .i64 a0, .int .i64 a1, .int .i64 a2, .int .i64 a3] := by rw [F.mg]; exact (hm1 x0).trans (congrArg rowP ha)
      have p2 : mg 1 E2 [.int .i64 x0] [.int .i64 0, .int .i64 0, .int .i64 0, .int .i64 0] = [.int .i64 b0, .int .i64 b1, .int .i64 b2, .int .i64 b3] := by rw [F.mg]; exact (hm2 x0).trans (congrArg rowP hb4)
      obtain ⟨q, hq⟩ : ∃ q, eqi [.int .i64 a0, .int .i64 a1, .int .i64 a2, .int .i64 a3] [.int .i64 b0, .int .i64 b1, .int .i64 b2, .int .i64 b3] = q := ⟨_, rfl⟩
      have hq2 : ([a0, a1, a2, a3] == [b0, b1, b2, b3]) = q := by rw [← hq, F.eqi]; exact (eqPs_rowP (x := [a0, a1, a2, a3]) (y := [b0, b1, b2, b3]) rfl).symm
      rw [ha, hb4, hq2] at hnext
      have hno : q = true → es = numP (srcsN mv (H.take (k + 1))) := fun h => by rw [hnext, h, hes]; rfl
      have hy1 : q = false → es ++ [[PV.int .i64 x0]] = numP (srcsN mv (H.take (k + 1))) := fun h => by rw [hnext, h, hes, ← numP_snoc]; rfl
      refine sem_of (X := ⟨_, TT, ⟨0, 72, inPl⟩⟩) har' hTT mixed ?_
      intro S1 Cl1 hS1 hC1
      cbv
      rw [hb]; cbv
      repeat (rw [hg]; cbv)
      repeat (rw [p1]; cbv)
      repeat (rw [p2]; cbv)
      rw [hq, F.nt]
      cases q
      · have hy1 := hy1 rfl
        cbv
        repeat (rw [hg]; cbv)
        rw [hfit]; cbv
        exact ⟨(k + 1, ai .add i 1, es ++ [[PV.int .i64 x0]]), (fun t => bif Nat.beq t 1000 then 69 else t), ⟨hlt, hadd, hy1⟩, by dsimp only; omega, ⟨by rfl, by cbv; try (repeat (first | exact rfl | exact trivial | refine ⟨?_, ?_⟩))⟩⟩
      · have hno := hno rfl
        cbv
        exact ⟨(k + 1, ai .add i 1, es), (fun t => t), ⟨hlt, hadd, hno⟩, by dsimp only; omega, ⟨by rfl, by cbv; try (repeat (first | exact rfl | exact trivial | refine ⟨?_, ?_⟩))⟩⟩
    · have hb : ab .lss i (ln eH) = false := by rw [hlnH, F.lss, hi]; simpa using hlt
      refine sem_of (X := ⟨_, TT, ⟨0, 72, inPl⟩⟩) har' hTT mixed ?_
      intro S1 Cl1 hS1 hC1
      cbv
      rw [hb]; cbv
      subst hgo
      refine PLe.of_eq ?_
      rw [hes, List.take_of_length_le (by omega)]
theorem nowHs_take {d : Int} {L : List (List Int)} {k : Nat} (hk : k < L.length) : nowHs d (L.take (k + 1)) = if L[k].getD 7 0 ≤ d then nowHs d (L.take k) ++ [nowS d L[k]] else nowHs d (L.take k) := by
  unfold nowHs
  rw [take_last hk, List.filter_append, List.map_append]
  by_cases h : L[k].getD 7 0 ≤ d
  · rw [if_pos h, List.filter_cons, if_pos (decide_eq_true h)]; rfl
  · rw [if_neg h, List.filter_cons, if_neg (by rw [decide_eq_true_eq]; exact h), List.filter_nil, List.map_nil, List.append_nil]
theorem nowNs_take {d : Int} {L : List (List Int)} {k : Nat} (hk : k < L.length) : nowNs d (L.take (k + 1)) = if L[k].getD 5 0 ≤ d then nowNs d (L.take k) ++ [nowN d L[k]] else nowNs d (L.take k) := by
  unfold nowNs
  rw [take_last hk, List.filter_append, List.map_append]
  by_cases h : L[k].getD 5 0 ≤ d
  · rw [if_pos h, List.filter_cons, if_pos (decide_eq_true h)]; rfl
  · rw [if_neg h, List.filter_cons, if_neg (by rw [decide_eq_true_eq]; exact h), List.filter_nil, List.map_nil, List.append_nil]
theorem nowHs_len (d : Int) (L : List (List Int)) : (nowHs d L).length ≤ L.length := by unfold nowHs; rw [List.length_map]; exact List.length_filter_le ..
theorem nowNs_len (d : Int) (L : List (List Int)) : (nowNs d L).length ≤ L.length := by unfold nowNs; rw [List.length_map]; exact List.length_filter_le ..
theorem fineKnown_does (hs : Does Tryz.prog 11 [] (.bool true)) {eA eB eC : List (List PV)} {T H N : List (List Int)} (m : MadeOk T H N)
    (hMd : Does Tryz.prog 53 [.agg [.list 6 eA, .list 7 eB, .list 6 eC]] (accP T H N)) (kn n : Int) :
    Does Tryz.prog 9 [.agg [.list 6 eA, .list 7 eB, .list 6 eC], .int .i64 kn, .int .i64 n] (.bool true) := by
  obtain ⟨d, hd⟩ : ∃ d, kn % 700 = d := ⟨_, rfl⟩
  obtain ⟨v, hv⟩ : ∃ d, n % 18 = d := ⟨_, rfl⟩
  have d1 := rMod_does kn (m := 700) (by decide) (by decide)
  have d2 := rMod_does n (m := 18) (by decide) (by decide)
  rw [hd] at d1
  rw [hv] at d2
  have hdb : 0 ≤ d ∧ d < 700 := by omega
  have hvb : 0 ≤ v ∧ v < 18 := by omega
  clear hd hv
  have ha : askE T H N d = 0 := made_ask m.ok hdb.1 (by omega)
  obtain ⟨s, hsv⟩ : ∃ s, 10 + v = s := ⟨_, rfl⟩
  obtain ⟨q1, q2, q3⟩ := accOk_len m.ok
  have hW : Does Tryz.prog 58 [accP T H N, .int .i64 s] (.tup [accP T (lessL s H) (lessL s N), .bool (fndB H N s)]) := rWithout_does m.h m.n (by omega) (by omega) (by omega) s
  have hMv := pMoved_does m.t m.h m.n s d
  have hD := fun q => pDues_does m.t m.h m.n q d
  change ∀ q, Does Tryz.prog 36 _ (.tup [.agg (rowP (dueR T H N q d).1), .int .i64 (dueR T H N q d).2]) at hD
  have hDn := fun q => pDues_does (H := nowHs d H) (N := nowNs d N) m.t (fun x hx => by obtain ⟨y, _, rfl⟩ := List.mem_map.1 hx; rfl) (fun x hx => by obtain ⟨y, _, rfl⟩ := List.mem_map.1 hx; rfl) q d
  change ∀ q, Does Tryz.prog 36 _ (.tup [.agg (rowP (dueR T (nowHs d H) (nowNs d N) q d).1), .int .i64 (dueR T (nowHs d H) (nowNs d N) q d).2]) at hDn
  simp only [dueR_now ha] at hDn
  have hDl := fun q => pDues_does (H := lessL s H) (N := lessL s N) m.t (fun x hx => m.h x (List.mem_filter.1 hx).1) (fun x hx => m.n x (List.mem_filter.1 hx).1) q d
  change ∀ q, Does Tryz.prog 36 _ (.tup [.agg (rowP (dueR T (lessL s H) (lessL s N) q d).1), .int .i64 (dueR T (lessL s H) (lessL s N) q d).2]) at hDl
  have hmv : fndB H N s = true → ∀ h ∈ H, (movN T H N s d).contains (h.getD 0 0) = !(dueR T H N (h.getD 0 0) d == dueR T (lessL s H) (lessL s N) (h.getD 0 0) d) := fun hf h hh => mov_has ha hf hh
  have f1 := fun q => dueR_four T H N q d
  have f2 := fun q => dueR_four T (lessL s H) (lessL s N) q d
  have hme : movE T H N s d = if fndB H N s = true then 0 else 3 := by unfold movE; rw [if_pos ha]
  have hHas := fun q => rHas_does (movN T H N s d) q
  obtain ⟨fb, hfb⟩ : ∃ e, fndB H N s = e := ⟨_, rfl⟩
  obtain ⟨D1, hD1⟩ : ∃ f : Int → List Int × Int, (fun q => dueR T H N q d) = f := ⟨_, rfl⟩
  obtain ⟨D2, hD2⟩ : ∃ f : Int → List Int × Int, (fun q => dueR T (lessL s H) (lessL s N) q d) = f := ⟨_, rfl⟩
  have g1 : ∀ q, dueR T H N q d = D1 q := fun q => by rw [← hD1]
  have g2 : ∀ q, dueR T (lessL s H) (lessL s N) q d = D2 q := fun q => by rw [← hD2]
  simp only [g1, g2] at hD hDn hDl hmv f1 f2
  rw [hfb] at hW hmv hme
  generalize movE T H N s d = me at *
  generalize movN T H N s d = mv at *
  clear hD1 hD2 g1 g2 hfb ha
  obtain ⟨eT, hT⟩ : ∃ es, T.map rowP = es := ⟨_, rfl⟩
  obtain ⟨eH, hH⟩ : ∃ es, H.map rowP = es := ⟨_, rfl⟩
  obtain ⟨eN, hN⟩ : ∃ es, N.map rowP = es := ⟨_, rfl⟩
  obtain ⟨wH, hwH⟩ : ∃ es, (nowHs d H).map rowP = es := ⟨_, rfl⟩
  obtain ⟨wN, hwN⟩ : ∃ es, (nowNs d N).map rowP = es := ⟨_, rfl⟩
  obtain ⟨lH, hlH⟩ : ∃ es, (lessL s H).map rowP = es := ⟨_, rfl⟩
  obtain ⟨lN, hlN⟩ : ∃ es, (lessL s N).map rowP = es := ⟨_, rfl⟩
  obtain ⟨eM, hM⟩ : ∃ es, numP mv = es := ⟨_, rfl⟩
  simp only [accP, hT, hH, hN, hwH, hwN, hlH, hlN, hM] at hMd hW hMv hD hDn hDl hHas
  refine does_of (own := inPl) Tryz.func9 rfl Tryz.ntmps9 (congrArg Array.toList Tryz.results9) (fun us w => Tryz.call9 us w) hTT mixed (Nat.le_of_ble_eq_true rfl) ?_
  intro w0 im0 D0 S Cl hS hC ar har
  have har' := har
  obtain ⟨ai, ab, nz, inr, fi, pk, ix, ln, sb, eqi, sl, fits, mn, mx, nt, be, up, fu, mg, mh, ms⟩ := ar
  have F := facts_of har
  clear har
  have hlnH : ln eH = H.length := by rw [F.ln, ← hH]; simp
  have hlnN : ln eN = N.length := by rw [F.ln, ← hN]; simp
  have f0 : fits 192 [] eT = true := F.fits _ _ _ (by rw [← hT]; simp; omega)
  have hsa : ai .add 10 v = s := by rw [← hsv]; exact F.add _ _ (by omega) (by omega)
  cbv
  refine ⟨_, hC _ _ _ hs, ?_⟩; cbv
  refine ⟨_, hC _ _ _ hMd, ?_⟩; cbv
  refine ⟨_, hC _ _ _ d1, ?_⟩; cbv
  rw [f0]; cbv
  refine hS _ _ _ (sem_mkRowB 10 1000 32 9 1 26 [CV.row 35, CV.p .nil, CV.p .nil] (by rfl) rfl (by rfl) ?_)
  refine (sem_loopR (fun x : Nat × Int × List (List PV) => [sI 2 n, sB 7 true, sP 8 8, sI 9 d, sP 10 10, sI 11 x.2.1, bX 8 26 [cL 24 eT, cL 9 eH, cL 7 eN], bX 10 26 [CV.row 35, CV.row 1000, CV.p .nil], rW 35 30 24 eT, rW 1000 32 9 x.2.2]) (fun x => x.1 ≤ H.length ∧ x.2.1 = (x.1 : Int) ∧ x.2.2 = (nowHs d (H.take x.1)).map rowP) (fun x => H.length - x.1) (0, 0, []) (fun t => t) ⟨by cbv, by cbv; try (repeat (first | exact rfl | exact trivial | refine ⟨?_, ?_⟩))⟩ ?_ ?_)
  · exact ⟨by simp, rfl, rfl⟩
  rintro ⟨k, i, es⟩ ⟨hk, hi, hes⟩
  dsimp only at hk hi hes
  have hadd : ai .add i 1 = ((k + 1 : Nat) : Int) := by rw [F.add i 1 (by omega) (by omega), hi]; simp
  by_cases hlt : k < H.length
  · have hb : ab .lss i (ln eH) = true := by rw [hlnH, F.lss, hi]; simpa using hlt
    have hg : ix eH i = some (rowP H[k]) := by rw [F.ix _ i k hi, ← hH]; exact get_rows hlt
    have hfit : ∀ x, fits 72 es [x] = true := fun x => F.fits _ _ _ (by
      have := nowHs_len d (H.take k)
      rw [hes, List.length_map]; simp only [List.length_take, List.length_singleton] at this ⊢; omega)
    have hnext := nowHs_take (d := d) hlt
    obtain ⟨x0, x1, x2, x3, x4, x5, x6, x7, x8, hx⟩ := list9 (m.h _ (List.getElem_mem hlt))
    rw [hx] at hg hnext
    simp only [nowS, List.getD_cons_zero, List.getD_cons_succ] at hnext
    have e1 : ab .gtr x8 d = decide (d < x8) := F.gtr _ _
    have e2 : ab .leq x7 d = decide (x7 ≤ d) := F.leq _ _
    have y1 : ab .gtr x8 d = true → ab .leq x7 d = true → es ++ [[PV.int .i64 x0, .int .i64 x1, .int .i64 x2, .int .i64 x3, .int .i64 x4, .int .i64 x5, .int .i64 x6, .int .i64 x7, .int .i64 0]] = (nowHs d (H.take (k + 1))).map rowP := fun a b => by
      rw [hnext, if_pos (of_decide_eq_true (e2.symm.trans b)), if_pos (of_decide_eq_true (e1.symm.trans a)), hes]; simp [rowP]
    have y2 : ab .gtr x8 d = false → ab .leq x7 d = true → es ++ [[PV.int .i64 x0, .int .i64 x1, .int .i64 x2, .int .i64 x3, .int .i64 x4, .int .i64 x5, .int .i64 x6, .int .i64 x7, .int .i64 x8]] = (nowHs d (H.take (k + 1))).map rowP := fun a b => by
      rw [hnext, if_pos (of_decide_eq_true (e2.symm.trans b)), if_neg (of_decide_eq_false (e1.symm.trans a)), hes]; simp [rowP]
    have y3 : ab .leq x7 d = false → es = (nowHs d (H.take (k + 1))).map rowP := fun b => by
      rw [hnext, if_neg (of_decide_eq_false (e2.symm.trans b)), hes]
    clear e1 e2 hnext
    refine sem_of (X := ⟨_, TT, ⟨0, 196, inPl⟩⟩) har' hTT mixed ?_
    intro S1 Cl1 hS1 hC1
    cbv
    rw [hb]; cbv
    repeat (rw [hg]; cbv)
    cases c1 : ab .gtr x8 d
    all_goals cbv
    all_goals cases c2 : ab .leq x7 d
    all_goals cbv
    · skip
      exact ⟨(k + 1, ai .add i 1, es), (fun t => t), ⟨hlt, hadd, y3 c2⟩, by dsimp only; omega, ⟨by cbv, by cbv; try (repeat (first | exact rfl | exact trivial | refine ⟨?_, ?_⟩))⟩⟩
    · rw [hfit]; cbv
      exact ⟨(k + 1, ai .add i 1, es ++ [[PV.int .i64 x0, .int .i64 x1, .int .i64 x2, .int .i64 x3, .int .i64 x4, .int .i64 x5, .int .i64 x6, .int .i64 x7, .int .i64 x8]]), (fun t => bif Nat.beq t 1000 then 62 else t), ⟨hlt, hadd, y2 c1 c2⟩, by dsimp only; omega, ⟨by cbv, by cbv; try (repeat (first | exact rfl | exact trivial | refine ⟨?_, ?_⟩))⟩⟩
    · skip
      exact ⟨(k + 1, ai .add i 1, es), (fun t => t), ⟨hlt, hadd, y3 c2⟩, by dsimp only; omega, ⟨by cbv, by cbv; try (repeat (first | exact rfl | exact trivial | refine ⟨?_, ?_⟩))⟩⟩
    · rw [hfit]; cbv
      exact ⟨(k + 1, ai .add i 1, es ++ [[PV.int .i64 x0, .int .i64 x1, .int .i64 x2, .int .i64 x3, .int .i64 x4, .int .i64 x5, .int .i64 x6, .int .i64 x7, .int .i64 0]]), (fun t => bif Nat.beq t 1000 then 62 else t), ⟨hlt, hadd, y1 c1 c2⟩, by dsimp only; omega, ⟨by cbv, by cbv; try (repeat (first | exact rfl | exact trivial | refine ⟨?_, ?_⟩))⟩⟩
  have hb : ab .lss i (ln eH) = false := by rw [hlnH, F.lss, hi]; simpa using hlt
  have hesE : es = wH := by rw [hes, List.take_of_length_le (by omega), hwH]
  clear hes hadd hwH
  subst hesE
  refine sem_of (X := ⟨_, TT, ⟨0, 196, inPl⟩⟩) har' hTT mixed ?_
  intro S1 Cl1 hS1 hC1
  cbv
  rw [hb]; cbv
  refine hS _ _ _ (sem_mkRowB 10 1001 34 7 2 26 [CV.row 35, CV.row 1000, CV.p .nil] (by rfl) rfl (by rfl) ?_)
  refine (sem_loopR (fun x : Nat × Int × List (List PV) => [sI 2 n, sB 7 true, sP 8 8, sI 9 d, sP 10 10, sI 13 x.2.1, bX 8 26 [cL 24 eT, cL 9 eH, cL 7 eN], bX 10 26 [CV.row 35, CV.row 1000, CV.row 1001], rW 35 30 24 eT, rW 1000 32 9 es, rW 1001 34 7 x.2.2]) (fun x => x.1 ≤ N.length ∧ x.2.1 = (x.1 : Int) ∧ x.2.2 = (nowNs d (N.take x.1)).map rowP) (fun x => N.length - x.1) (0, 0, []) (fun t => t) ⟨by cbv, by cbv; try (repeat (first | exact rfl | exact trivial | refine ⟨?_, ?_⟩))⟩ ?_ ?_)
  · exact ⟨by simp, rfl, rfl⟩
  rintro ⟨k2, i2, es2⟩ ⟨hk2, hi2, hes2⟩
  dsimp only at hk2 hi2 hes2
  have hadd : ai .add i2 1 = ((k2 + 1 : Nat) : Int) := by rw [F.add i2 1 (by omega) (by omega), hi2]; simp
  by_cases hlt2 : k2 < N.length
  · have hb2 : ab .lss i2 (ln eN) = true := by rw [hlnN, F.lss, hi2]; simpa using hlt2
    have hg : ix eN i2 = some (rowP N[k2]) := by rw [F.ix _ i2 k2 hi2, ← hN]; exact get_rows hlt2
    have hfit : ∀ x, fits 56 es2 [x] = true := fun x => F.fits _ _ _ (by
      have := nowNs_len d (N.take k2)
      rw [hes2, List.length_map]; simp only [List.length_take, List.length_singleton] at this ⊢; omega)
    have hnext := nowNs_take (d := d) hlt2
    obtain ⟨x0, x1, x2, x3, x4, x5, x6, hx⟩ := list7P (m.n _ (List.getElem_mem hlt2))
    rw [hx] at hg hnext
    simp only [nowN, List.getD_cons_zero, List.getD_cons_succ] at hnext
    have e1 : ab .gtr x6 d = decide (d < x6) := F.gtr _ _
    have e2 : ab .leq x5 d = decide (x5 ≤ d) := F.leq _ _
    have y1 : ab .gtr x6 d = true → ab .leq x5 d = true → es2 ++ [[PV.int .i64 x0, .int .i64 x1, .int .i64 x2, .int .i64 x3, .int .i64 x4, .int .i64 x5, .int .i64 0]] = (nowNs d (N.take (k2 + 1))).map rowP := fun a b => by
      rw [hnext, if_pos (of_decide_eq_true (e2.symm.trans b)), if_pos (of_decide_eq_true (e1.symm.trans a)), hes2]; simp [rowP]
    have y2 : ab .gtr x6 d = false → ab .leq x5 d = true → es2 ++ [[PV.int .i64 x0, .int .i64 x1, .int .i64 x2, .int .i64 x3, .int .i64 x4, .int .i64 x5, .int .i64 x6]] = (nowNs d (N.take (k2 + 1))).map rowP := fun a b => by
      rw [hnext, if_pos (of_decide_eq_true (e2.symm.trans b)), if_neg (of_decide_eq_false (e1.symm.trans a)), hes2]; simp [rowP]
    have y3 : ab .leq x5 d = false → es2 = (nowNs d (N.take (k2 + 1))).map rowP := fun b => by
      rw [hnext, if_neg (of_decide_eq_false (e2.symm.trans b)), hes2]
    clear e1 e2 hnext
    refine sem_of (X := ⟨_, TT, ⟨0, 196, inPl⟩⟩) har' hTT mixed ?_
    intro S2 Cl2 hS2 hC2
    cbv
    rw [hb2]; cbv
    repeat (rw [hg]; cbv)
    cases c1 : ab .gtr x6 d
    all_goals cbv
    all_goals cases c2 : ab .leq x5 d
    all_goals cbv
    · skip
      exact ⟨(k2 + 1, ai .add i2 1, es2), (fun t => t), ⟨hlt2, hadd, y3 c2⟩, by dsimp only; omega, ⟨by cbv, by cbv; try (repeat (first | exact rfl | exact trivial | refine ⟨?_, ?_⟩))⟩⟩
    · rw [hfit]; cbv
      exact ⟨(k2 + 1, ai .add i2 1, es2 ++ [[PV.int .i64 x0, .int .i64 x1, .int .i64 x2, .int .i64 x3, .int .i64 x4, .int .i64 x5, .int .i64 x6]]), (fun t => bif Nat.beq t 1001 then 89 else t), ⟨hlt2, hadd, y2 c1 c2⟩, by dsimp only; omega, ⟨by cbv, by cbv; try (repeat (first | exact rfl | exact trivial | refine ⟨?_, ?_⟩))⟩⟩
    · skip
      exact ⟨(k2 + 1, ai .add i2 1, es2), (fun t => t), ⟨hlt2, hadd, y3 c2⟩, by dsimp only; omega, ⟨by cbv, by cbv; try (repeat (first | exact rfl | exact trivial | refine ⟨?_, ?_⟩))⟩⟩
    · rw [hfit]; cbv
      exact ⟨(k2 + 1, ai .add i2 1, es2 ++ [[PV.int .i64 x0, .int .i64 x1, .int .i64 x2, .int .i64 x3, .int .i64 x4, .int .i64 x5, .int .i64 0]]), (fun t => bif Nat.beq t 1001 then 89 else t), ⟨hlt2, hadd, y1 c1 c2⟩, by dsimp only; omega, ⟨by cbv, by cbv; try (repeat (first | exact rfl | exact trivial | refine ⟨?_, ?_⟩))⟩⟩
  have hb2 : ab .lss i2 (ln eN) = false := by rw [hlnN, F.lss, hi2]; simpa using hlt2
  have hesE : es2 = wN := by rw [hes2, List.take_of_length_le (by omega), hwN]
  clear hes2 hadd hwN
  subst hesE
  have t2 : nt true = false := F.nt _
  have hnx : be .neq fb (ab .eql me 0) = false := by rw [(F.be _ _).2, F.eql, hme]; cases fb <;> rfl
  have hno : (nt fb = true ∧ ab .neq me 3 = false) ∨ nt fb = false := by rw [F.nt, F.neq, hme]; cases fb <;> simp
  refine sem_of (X := ⟨_, TT, ⟨0, 196, inPl⟩⟩) har' hTT mixed ?_
  intro S2 Cl2 hS2 hC2
  cbv
  rw [hb2]; cbv
  refine ⟨_, hC _ _ _ d2, ?_⟩; cbv
  rw [hsa]; cbv
  refine ⟨_, hC _ _ _ hW, ?_⟩; cbv
  refine ⟨_, hC _ _ _ hMv, ?_⟩; cbv
  rw [t2]; cbv
  rw [hnx]; cbv
  apply share
  case h =>
    intro key
    rcases hno with ⟨c1, c2⟩ | c1
    all_goals (rw [c1]; cbv)
    rw [c2]; cbv
    all_goals
      refine hS _ _ _ (sem_freezeB 10 35 0 26 [CV.row 35, CV.row 1000, CV.row 1001] 30 24 eT (by rfl) rfl (by rfl) ?_)
      refine sem_freezeB 10 1000 1 26 [cL 24 eT, CV.row 1000, CV.row 1001] 32 9 es (by rfl) rfl (by rfl) ?_
      refine sem_freezeB 10 1001 2 26 [cL 24 eT, cL 9 es, CV.row 1001] 34 7 es2 (by rfl) rfl (by rfl) ?_
      refine (sem_loopR (fun x : Nat × Int => [sP 8 8, sI 9 d, sP 10 10, sP 16 16, sB 17 fb, sL 18 1 eM, sI 20 x.2, bX 8 26 [cL 24 eT, cL 9 eH, cL 7 eN], bX 10 26 [cL 24 eT, cL 9 es, cL 7 es2], bX 16 26 [cL 24 eT, cL 9 lH, cL 7 lN]]) (fun x => x.1 ≤ H.length ∧ x.2 = (x.1 : Int)) (fun x => H.length - x.1) (0, 0) (fun t => t) ⟨by cbv, by cbv; try (repeat (first | exact rfl | exact trivial | refine ⟨?_, ?_⟩))⟩ ?_ ?_)
      · exact ⟨by simp, rfl⟩
      exact key
  rintro ⟨k3, i3⟩ ⟨hk3, hi3⟩
  dsimp only at hk3 hi3
  have hadd : ai .add i3 1 = ((k3 + 1 : Nat) : Int) := by rw [F.add i3 1 (by omega) (by omega), hi3]; simp
  by_cases hlt3 : k3 < H.length
  · have hb3 : ab .lss i3 (ln eH) = true := by rw [hlnH, F.lss, hi3]; simpa using hlt3
    have hg : ix eH i3 = some (rowP H[k3]) := by rw [F.ix _ i3 k3 hi3, ← hH]; exact get_rows hlt3
    have hmv3 := fun hf => hmv hf _ (List.getElem_mem hlt3)
    obtain ⟨x0, x1, x2, x3, x4, x5, x6, x7, x8, hx⟩ := list9 (m.h _ (List.getElem_mem hlt3))
    rw [hx] at hg hmv3
    simp only [List.getD_cons_zero] at hmv3
    have D1x := hD x0
    have Dnx := hDn x0
    have D2x := hDl x0
    obtain ⟨a0, a1, a2, a3, ha⟩ := f1 x0
    obtain ⟨b0, b1, b2, b3, hb4⟩ := f2 x0
    obtain ⟨p, hp⟩ : ∃ p, D1 x0 = p := ⟨_, rfl⟩
    obtain ⟨r, hr⟩ : ∃ p, D2 x0 = p := ⟨_, rfl⟩
    obtain ⟨p1, pe⟩ := p
    obtain ⟨r1, re⟩ := r
    rw [hp] at D1x Dnx ha hmv3
    rw [hr] at D2x hb4 hmv3
    obtain rfl : p1 = [a0, a1, a2, a3] := ha
    obtain rfl : r1 = [b0, b1, b2, b3] := hb4
    obtain ⟨hc, hhc⟩ : ∃ b, mv.contains x0 = b := ⟨_, rfl⟩
    have Hx : Does Tryz.prog 55 [.list 1 eM, .int .i64 x0] (.bool hc) := by rw [← hhc]; exact hHas x0
    have hmv3 := fun h => hhc.symm.trans (hmv3 h)
    clear hhc
    have z1 : eqi [.int .i64 a0, .int .i64 a1, .int .i64 a2, .int .i64 a3] [.int .i64 a0, .int .i64 a1, .int .i64 a2, .int .i64 a3] = true := by rw [F.eqi]; exact (eqPs_rowP (x := [a0, a1, a2, a3]) (y := [a0, a1, a2, a3]) rfl).trans (by simp)
    have z2 : ab .neq pe pe = false := by rw [F.neq]; simp
    obtain ⟨q, hq⟩ : ∃ q, eqi [.int .i64 a0, .int .i64 a1, .int .i64 a2, .int .i64 a3] [.int .i64 b0, .int .i64 b1, .int .i64 b2, .int .i64 b3] = q := ⟨_, rfl⟩
    have hq2 : ([a0, a1, a2, a3] == [b0, b1, b2, b3]) = q := by rw [← hq, F.eqi]; exact (eqPs_rowP (x := [a0, a1, a2, a3]) (y := [b0, b1, b2, b3]) rfl).symm
    obtain ⟨e, he⟩ : ∃ e, ab .eql pe re = e := ⟨_, rfl⟩
    have he2 : (pe == re) = e := by rw [← he, F.eql]
    have hx1 : fb = true → be .eql hc (q && e) = false := fun h => by
      rw [(F.be _ _).1, hmv3 h]
      show ((!([a0, a1, a2, a3] == [b0, b1, b2, b3] && pe == re)) == (q && e)) = false
      rw [hq2, he2]; cases (q && e) <;> rfl
    clear hmv3 hq2 he2
    refine sem_of (X := ⟨_, TT, ⟨0, 196, inPl⟩⟩) har' hTT mixed ?_
    intro S3 Cl3 hS3 hC3
    cbv
    rw [hb3]; cbv
    repeat (rw [hg]; cbv)
    refine ⟨_, hC3 _ _ _ D1x, ?_⟩; cbv
    repeat (rw [hg]; cbv)
    refine ⟨_, hC3 _ _ _ Dnx, ?_⟩; cbv
    repeat (rw [hg]; cbv)
    refine ⟨_, hC3 _ _ _ D2x, ?_⟩; cbv
    rw [z1, t2]; cbv
    rw [z2]; cbv
    cases fb
    · cbv
      exact ⟨(k3 + 1, ai .add i3 1), (fun t => t), ⟨hlt3, hadd⟩, by dsimp only; omega, ⟨by rfl, by cbv; try (repeat (first | exact rfl | exact trivial | refine ⟨?_, ?_⟩))⟩⟩
    · have hx1 := hx1 rfl
      cbv
      repeat (rw [hg]; cbv)
      refine ⟨_, hC3 _ _ _ Hx, ?_⟩; cbv
      rw [hq]; cbv
      cases q
      · cbv
        rw [show be .eql hc false = false from hx1]; cbv
        exact ⟨(k3 + 1, ai .add i3 1), (fun t => t), ⟨hlt3, hadd⟩, by dsimp only; omega, ⟨by rfl, by cbv; try (repeat (first | exact rfl | exact trivial | refine ⟨?_, ?_⟩))⟩⟩
      · cbv
        rw [he]; cbv
        rw [show be .eql hc e = false from hx1]; cbv
        exact ⟨(k3 + 1, ai .add i3 1), (fun t => t), ⟨hlt3, hadd⟩, by dsimp only; omega, ⟨by rfl, by cbv; try (repeat (first | exact rfl | exact trivial | refine ⟨?_, ?_⟩))⟩⟩
  · have hb3 : ab .lss i3 (ln eH) = false := by rw [hlnH, F.lss, hi3]; simpa using hlt3
    refine sem_of (X := ⟨_, TT, ⟨0, 196, inPl⟩⟩) har' hTT mixed ?_
    intro S3 Cl3 hS3 hC3
    cbv
    rw [hb3]; cbv
    exact PLe.refl _
theorem rep_own {im : Nat → Prop} {w : World} {n0 : Nat} {e k : Nat} {v : Value} {N : List (List Int)} {xs : List Value} (hx : xs = (N.map ints).flatten) (h : w.ownsRow n0 e k v N.length xs) (hw : ∀ x ∈ N, x.length = k) (him : ∀ g, v.ownBlock = some g → im g) : RepP im w (.list k (N.map rowP)) v := by
  subst hx
  simp only [RepP]
  rcases h.2 with ⟨hv, h0⟩ | ⟨g, cap, cur, hv, hbg, hgg, hcap, hm, _, _⟩
  · exact ⟨none, 0, 0, hv, by simpa using h0.symm, by simp, by simp, .inl (by rw [List.eq_nil_of_length_eq_zero h0]; rfl)⟩
  · refine ⟨_, _, cap, hv, by simp, hcap, hm, .inr ⟨g, 0, rfl, him g (by rw [hv]; rfl), ?_⟩⟩
    refine RepE.of_flat' (us := (N.map ints).flatten) ⟨fun y hy => by obtain ⟨x, hx, rfl⟩ := List.mem_map.1 hy; unfold rowP; rw [List.length_map]; exact hw x hx, ints_flat_one N⟩ (fun j u hu => ?_) (rep_flat N)
    have := h.cells (g := g) (by rw [hv]; rfl) j u hu
    rwa [Addr.add_mid] at this
theorem insertEnd_does {N : List (List Int)} (h3 : ∀ x ∈ N, x.length = 7) (hN : N.length ≤ 100000) {n : List Int} (hn7 : n.length = 7) :
    DoesC Tryz.prog 65 34 7 (N.map rowP) [.int .i64 N.length, .list 7 [rowP n]] (.list 7 ((N ++ [n]).map rowP)) := ⟨fun us w => Tryz.call65 us w, fun w im imA base x xs us him himA hb hown hl hk hno hr => by
  obtain ⟨x1, us1, rfl, hx1, hr⟩ : ∃ x1 us1, us = x1 :: us1 ∧ RepP imA w (.int .i64 N.length) x1 ∧ RepL imA w [.list 7 [rowP n]] us1 := by simpa only [RepL] using hr
  obtain ⟨x2, rfl, hx2⟩ := L1 hr
  simp only [RepP] at hx1
  subst hx1
  have h1 : ∀ z ∈ [n], z.length = 7 := fun z hz => by simp at hz; rw [hz]; exact hn7
  obtain ⟨A, c, rfl, hR⟩ := rep_rows (T := [n]) himA hx2 h1
  have hcells := rows_cells hR (by decide)
  obtain ⟨b, rfl, hc⟩ : ∃ b, A = some b ∧ ∀ (j : Nat) u, ([n].map ints).flatten[j]? = some u → w.cell? (b.add j) = some u := hcells.resolve_left (by simp)
  rw [rows_flat] at hl
  have hxs : xs = (N.map ints).flatten := by rw [ints_flat]; exact rep_ints.1 hl
  rw [List.length_map] at hown
  obtain ⟨i0, hi, hz0, hz1, hz2⟩ := info_parts (show (Tryz.prog.info? 34).map (fun i => (i.zero, i.size, i.bytes)) = some (some (.agg (Array.replicate 7 (.int .i64 0))), 7, 56) by kernel_rfl)
  obtain ⟨v', w', hrun, hown', hg, hfr⟩ := append_fresh (P := Tryz.prog) (w := w) base 24 24 34 i0 _ 7 56 Tryz.underlying24 hi hz0 hz1 hz2 rfl (by decide) x N.length xs hown (some b) 1 c ([n].map ints).flatten (by simp [ints_len, hn7]) (.inr ⟨b, rfl, hc⟩) (ints_flat_one [n]) (by simp only [maxLen]; omega) (by omega) hb
  have hfin : RepP (fun b => im b ∨ ((x.ownBlock = some b ∨ w.heap.size ≤ b) ∧ Plain w' b)) w' (.list 7 ((N ++ [n]).map rowP)) v' := by
    refine rep_own (n0 := base) (e := 34) (xs := xs ++ ([n].map ints).flatten) (by rw [hxs]; simp) (by simpa using hown') (fun z hz => (List.mem_append.1 hz).elim (h3 z) (h1 z)) (fun g hgb => .inr ⟨(hfr g hgb), ?_⟩)
    exact ⟨(hown'.lt g hgb).2, owns_not_mach hown' hgb⟩
  obtain ⟨m, hm⟩ : ∃ m, N.length = m := ⟨_, rfl⟩
  obtain ⟨Q, hQ⟩ : ∃ Q : Ending → World → Prop, Q = fun e' w' => ∃ u, e' = .returned u ∧ RepP (fun b => im b ∨ ((x.ownBlock = some b ∨ w.heap.size ≤ b) ∧ Plain w' b)) w' (.list 7 ((N ++ [n]).map rowP)) u ∧ w.grownBy w' x.ownBlock := ⟨_, rfl⟩
  have hq : Q (.returned v') w' := by rw [hQ]; exact ⟨v', rfl, hfin, hg⟩
  rw [← hQ]
  rw [hm] at hown ⊢
  have hm5 : m ≤ 100000 := by omega
  have hz : ¬ ((1 : Int) = 0) := by omega
  clear hfin hfr hown' hg hQ hxs hl hcells hR hx2 hr
  rcases hown.2 with ⟨rfl, rfl⟩ | ⟨g, cap, cur, rfl, _, _, hcap, hmx, _, _⟩
  · go_enter Tryz.func65, Tryz.ntmps65
    go_wp2_with (at_builtin; refine Lib.wpList_append_run _ rfl _ _ _ _ rfl _ _ rfl rfl _ _ hrun ?_)
    all_goals first | exact hq | (go_ret; exact hq)
  · simp only [maxLen] at hmx
    go_enter Tryz.func65, Tryz.ntmps65
    go_wp2_with (at_builtin; refine Lib.wpList_append_run _ rfl _ _ _ _ rfl _ _ rfl rfl _ _ hrun ?_)
    all_goals first | exact hq | (go_ret; exact hq)⟩
theorem noted_does {T H N : List (List Int)} (h1 : ∀ x ∈ T, x.length = 24) (h2 : ∀ x ∈ H, x.length = 9) (h3 : ∀ x ∈ N, x.length = 7) {n : List Int} (hn7 : n.length = 7)
    (hins : ntdE T H N n = 0 → DoesC Tryz.prog 65 34 7 (N.map rowP) [.int .i64 (atK (n.getD 0 0) N).2, .list 7 [rowP n]] (.list 7 ((insN N n).map rowP))) :
    Does Tryz.prog 12 [accP T H N, .agg (rowP n)] (.tup [if ntdE T H N n = 0 then accP T H (insN N n) else acc0, .int .i64 (ntdE T H N n)]) := by
  have hCk := pcheck_does h1 h2 h3
  have hCn := checkNote_does n hn7
  have hOr := orE_does [err (accOk T H N) 63, err (noteOk n) 62]
  have hsrch : accOk T H N = true → Does Tryz.prog 61 [.list 7 (N.map rowP), .agg (rowP n), .fn (.func 62) [] []] (.tup [.int .i64 (atK (n.getD 0 0) N).2, .bool (N.any (isS (n.getD 0 0)))]) := fun ha => by
    have hl := accOk_len ha
    have hr : Ris N := by
      unfold accOk at ha
      simp only [Bool.and_eq_true] at ha
      exact ris_ok ha.2.2
    exact search_does h3 hr (by omega) hn7
  have hcl : accOk T H N = true → DoesO Tryz.prog 64 [accP T H N] true [(30, 24, T.map rowP), (32, 9, H.map rowP), (34, 7, N.map rowP)] := fun ha => by
    have hl := accOk_len ha
    exact clone_does h1 h2 h3 (by omega) (by omega) (by omega)
  have hN60 : accOk T H N = true → N.length ≤ 60 := fun ha => (accOk_len ha).2.2
  obtain ⟨V, hV⟩ : ∃ V, PV.tup [if ntdE T H N n = 0 then accP T H (insN N n) else acc0, .int .i64 (ntdE T H N n)] = V := ⟨_, rfl⟩
  rw [hV]
  unfold ntdE at hV hins
  obtain ⟨ok, hok⟩ : ∃ e, accOk T H N = e := ⟨_, rfl⟩
  obtain ⟨nk, hnk⟩ : ∃ e, noteOk n = e := ⟨_, rfl⟩
  rw [hok, hnk] at hV hins hOr
  rw [hok] at hCk hsrch hcl hN60
  rw [hnk] at hCn
  clear hok hnk
  obtain ⟨n0, n1, n2, n3, n4, n5, n6, rfl⟩ := list7 hn7
  simp only [List.getD_cons_zero] at hV hins hsrch
  obtain ⟨q, hq⟩ : ∃ q, (atK n0 N).2 = q := ⟨_, rfl⟩
  obtain ⟨an, han⟩ : ∃ an, N.any (isS n0) = an := ⟨_, rfl⟩
  obtain ⟨M, hM⟩ : ∃ M, insN N [n0, n1, n2, n3, n4, n5, n6] = M := ⟨_, rfl⟩
  rw [hq] at hins hsrch
  rw [han] at hV hins hsrch
  rw [hM] at hV hins
  obtain ⟨e1, he1⟩ : ∃ e, err ok 63 = e := ⟨_, rfl⟩
  obtain ⟨e2, he2⟩ : ∃ e, err nk 62 = e := ⟨_, rfl⟩
  rw [he1] at hCk hOr
  rw [he2] at hCn hOr
  obtain ⟨e3, he3⟩ : ∃ e, orE [e1, e2] = e := ⟨_, rfl⟩
  rw [he3] at hOr
  have k0 : ok = false → e3 = 63 := fun h => by subst h; rw [← he3, ← he1, ← he2]; cases nk <;> rfl
  have k1 : ok = true → nk = false → e3 = 62 := fun h h' => by subst h; subst h'; rw [← he3, ← he1, ← he2]; rfl
  have k2 : ok = true → nk = true → e3 = 0 := fun h h' => by subst h; subst h'; rw [← he3, ← he1, ← he2]; rfl
  clear he1 he2 he3 hq han hM
  refine does_of (own := inPl) Tryz.func12 rfl Tryz.ntmps12 (congrArg Array.toList Tryz.results12) (fun us w => Tryz.call12 us w) hTT mixed (Nat.le_of_ble_eq_true rfl) ?_
  intro w0 im0 D0 S Cl hS hC ar har
  have har' := har
  obtain ⟨ai, ab, nz, inr, fi, pk, ix, ln, sb, eqi, sl, fits, mn, mx, nt, be, up, fu, mg, mh, ms⟩ := ar
  have F := facts_of har
  clear har
  obtain ⟨eT, hT⟩ : ∃ es, T.map rowP = es := ⟨_, rfl⟩
  obtain ⟨eH, hH⟩ : ∃ es, H.map rowP = es := ⟨_, rfl⟩
  obtain ⟨eN, hN⟩ : ∃ es, N.map rowP = es := ⟨_, rfl⟩
  obtain ⟨eM, hMe⟩ : ∃ es, M.map rowP = es := ⟨_, rfl⟩
  simp only [accP, hT, hH, hN, hMe] at hCk hsrch hcl hins hV ⊢
  have lN : ln eN = N.length := by rw [F.ln, ← hN]; simp
  have c60 : ab .eql (ln eN) 60 = decide (N.length = 60) := by
    rw [F.eql, lN]
    by_cases h : N.length = 60
    · rw [h]; rfl
    · rw [decide_eq_false h, beq_eq_false_iff_ne]; intro h'; exact h (by exact_mod_cast h')
  have c63 : ab .neq 63 0 = true := by rw [F.neq]; rfl
  have c62 : ab .neq 62 0 = true := by rw [F.neq]; rfl
  have c00 : ab .neq 0 0 = false := by rw [F.neq]; rfl
  cbv
  refine ⟨_, hC _ _ _ hCk, ?_⟩; cbv
  refine ⟨_, hC _ _ _ hCn, ?_⟩; cbv
  refine ⟨_, hC _ _ _ hOr, ?_⟩; cbv
  cases ok
  · rw [k0 rfl, c63]; cbv
    subst hV
    exact PLe.of_eq rfl
  cases nk
  · rw [k1 rfl rfl, c62]; cbv
    subst hV
    exact PLe.of_eq rfl
  rw [k2 rfl rfl, c00]; cbv
  have hsrch := hsrch rfl
  have hcl := hcl rfl
  simp only [if_true] at hV hins
  refine ⟨_, hC _ _ _ hsrch, ?_⟩; cbv
  cases an
  rotate_left
  · cbv
    subst hV
    exact PLe.of_eq rfl
  simp only [Bool.false_eq_true, if_false] at hV hins
  cbv
  cases c2 : ab .eql (ln eN) 60
  rotate_left
  · rw [c60] at c2
    have h60 : N.length = 60 := by simpa using c2
    rw [if_pos h60] at hV
    cbv
    subst hV
    exact PLe.of_eq rfl
  rw [c60] at c2
  have h60 : ¬ N.length = 60 := by simpa using c2
  rw [if_neg h60] at hV hins
  simp only [if_true] at hV hins
  have hins : DoesC Tryz.prog 65 34 7 eN [.int .i64 q, .list 7 [[.int .i64 n0, .int .i64 n1, .int .i64 n2, .int .i64 n3, .int .i64 n4, .int .i64 n5, .int .i64 n6]]] (.list 7 eM) := hins trivial
  cbv
  refine ⟨.agg [.own 30 24 eT, .own 32 9 eH, .own 34 7 eN], hC _ (.mark :: _) (.agg [.own 30 24 eT, .own 32 9 eH, .own 34 7 eN]) (show Can Tryz.prog _ (.mark :: _) (.agg [.own 30 24 eT, .own 32 9 eH, .own 34 7 eN]) from hcl), ?_⟩; cbv
  refine ⟨.list 7 eM, hC _ (.own 34 7 eN :: _) (.list 7 eM) (show Can Tryz.prog _ (.own 34 7 eN :: _) (.list 7 eM) from hins), ?_⟩; cbv
  subst hV
  exact PLe.of_eq rfl
theorem Does.args {P : Program} {f : FuncId} {xs bs : List PV} {v : PV} (h : Does P f xs v) (hle : ∀ (im : Nat → Prop) (w : World) (us : List Value), RepL im w bs us → RepL im w xs us) : Does P f bs v := ⟨h.1, fun w im us him hr => h.2 w im us him (hle _ _ _ hr)⟩
def exM : List (List Int) := [[2, 1, 1, 3, 13, 14, 0], [3, 1, 2, 0, 15, 15, 0], [4, 1, 3, 6, 18, 18, 0]]
theorem ex_T : ∀ x ∈ exT, x.length = 24 := by decide
theorem ex_H : ∀ x ∈ exH, x.length = 9 := by decide
theorem ex_N : ∀ x ∈ exN, x.length = 7 := by decide
theorem ex_M : ∀ x ∈ exM, x.length = 7 := by decide
theorem sane1 : lotR exT exH exN 1 14 = ([3, 13, 0, -1], 0) := by kernel_rfl
theorem sane2 : stR [0, 0, 0] (fun h => chgN exT exN h 13) (staN exT exH exN 1 13) = ([12, 40, 16], 0) := by kernel_rfl
theorem sane3 : lotR exT exH exN 1 20 = ([3, 13, 1, 15], 0) := by kernel_rfl
theorem sane4 : stR [0, 0, 0, 0] (fun h => dueN exT exN h 20) (staN exT exH exN 1 20) = ([5, 24, 12, 38], 0) := by kernel_rfl
theorem sane5 : pstQ exT exH exN [13, 14, 20] = [[14, 1, 5, 0, 38], [14, 1, 5, 1, 24], [14, 1, 5, 11, 12]] := by cbv
theorem sane5e : pstE exT exH exN [13, 14, 20] = 0 := by kernel_rfl
theorem sane6 : ntdE exT exH exN [4, 1, 3, 6, 18, 18, 0] = 0 := by kernel_rfl
theorem sane6a : (atK 4 exN).2 = 2 := by kernel_rfl
theorem sane6b : insN exN [4, 1, 3, 6, 18, 18, 0] = exM := by kernel_rfl
theorem sane7e : pstE exT exH exM [15, 18] = 0 := by kernel_rfl
theorem sane7v : pstQ exT exH exM [15, 18] = [[15, 1, 5, 0, 38], [15, 1, 5, 1, 24], [15, 1, 5, 11, 12], [18, 1, 5, 0, -38], [18, 1, 8, 0, 38], [18, 1, 5, 1, -24], [18, 1, 8, 1, 24], [18, 1, 5, 11, -12], [18, 1, 8, 11, 12]] := by cbv
theorem sane7 : (pstQ exT exH exM [15, 18]).length = 9 ∧ (pstQ exT exH exM [15, 18])[3]? = some [18, 1, 5, 0, -38] := by rw [sane7v]; exact ⟨rfl, rfl⟩
theorem sane8 : oweN exT exH exN 3 20 = 74 := by kernel_rfl
theorem sane8e : thrE exT exH exN (inB 3 1 99) 20 = 0 := by kernel_rfl
theorem sane9 : lotR exT exH [] 1 100 = ([0, -1, 2, 59], 0) := by kernel_rfl
theorem sane_does : Does Tryz.prog 11 [] (.bool true) := by
  have c0 := example_does
  have c1 := pLot_does ex_T ex_H ex_N 1 14
  have c2 := pCharged_does ex_T ex_H ex_N 1 13
  have c3 := pLot_does ex_T ex_H ex_N 1 20
  have c4 := pDues_does ex_T ex_H ex_N 1 20
  have c5 := pPosts_does ex_T ex_H ex_N [13, 14, 20]
  have c6 := noted_does ex_T ex_H ex_N (n := [4, 1, 3, 6, 18, 18, 0]) rfl (fun _ => by
    have := insertEnd_does ex_N (by decide) (n := [4, 1, 3, 6, 18, 18, 0]) rfl
    rw [show ([4, 1, 3, 6, 18, 18, 0] : List Int).getD 0 0 = 4 from rfl, sane6a, sane6b]
    exact this)
  have c7 := pPosts_does ex_T ex_H ex_M [15, 18]
  have c8 := pOwed_does ex_T ex_H ex_N 3 20
  have c9 := pLot_does ex_T ex_H (N := []) (by simp) 1 100
  have cS := rSame_does [[14, 1, 5, 0, 38], [14, 1, 5, 1, 24], [14, 1, 5, 11, 12]] [[14, 1, 5, 0, 38], [14, 1, 5, 1, 24], [14, 1, 5, 11, 12]] (by decide) (by decide) (by decide)
  rw [sane1] at c1
  rw [sane2] at c2
  rw [sane3] at c3
  rw [sane4] at c4
  rw [sane5, sane5e] at c5
  rw [sane6, if_pos rfl, sane6b] at c6
  rw [sane7e] at c7
  rw [sane8, sane8e] at c8
  rw [sane9] at c9
  obtain ⟨m1, m2⟩ := sane7
  generalize pstQ exT exH exM [15, 18] = M at *
  refine does_of (own := inPl) Tryz.func11 rfl Tryz.ntmps11 (congrArg Array.toList Tryz.results11) (fun us w => Tryz.call11 us w) hTT mixed (Nat.le_of_ble_eq_true rfl) ?_
  intro w0 im0 D0 S Cl hS hC ar har
  have har' := har
  obtain ⟨ai, ab, nz, inr, fi, pk, ix, ln, sb, eqi, sl, fits, mn, mx, nt, be, up, fu, mg, mh, ms⟩ := ar
  have F := facts_of har
  clear har
  obtain ⟨eM, hM⟩ : ∃ es, M.map rowP = es := ⟨_, rfl⟩
  have hln : ab .eql (ln eM) 9 = true := by rw [F.ln, F.eql, ← hM, List.length_map, m1]; rfl
  have hg : ix eM 3 = some [.int .i64 18, .int .i64 1, .int .i64 5, .int .i64 0, .int .i64 (-38)] := by
    rw [F.ix eM 3 3 rfl, ← hM, List.getElem?_map, m2]; rfl
  rw [hM] at c7
  have e00 : ab .eql 0 0 = true := by rw [F.eql]; rfl
  have e74 : ab .eql 74 74 = true := by rw [F.eql]; rfl
  have q1 : eqi [.int .i64 3, .int .i64 13, .int .i64 0, .int .i64 (-1)] [.int .i64 3, .int .i64 13, .int .i64 0, .int .i64 (-1)] = true := by rw [F.eqi]; rfl
  have q2 : eqi [.int .i64 3, .int .i64 13, .int .i64 1, .int .i64 15] [.int .i64 3, .int .i64 13, .int .i64 1, .int .i64 15] = true := by rw [F.eqi]; rfl
  have q3 : eqi [.int .i64 0, .int .i64 (-1), .int .i64 2, .int .i64 59] [.int .i64 0, .int .i64 (-1), .int .i64 2, .int .i64 59] = true := by rw [F.eqi]; rfl
  have q4 : eqi [.int .i64 12, .int .i64 40, .int .i64 16] [.int .i64 12, .int .i64 40, .int .i64 16] = true := by rw [F.eqi]; rfl
  have q5 : eqi [.int .i64 5, .int .i64 24, .int .i64 12, .int .i64 38] [.int .i64 5, .int .i64 24, .int .i64 12, .int .i64 38] = true := by rw [F.eqi]; rfl
  have q6 : eqi [.int .i64 18, .int .i64 1, .int .i64 5, .int .i64 0, .int .i64 (-38)] [.int .i64 18, .int .i64 1, .int .i64 5, .int .i64 0, .int .i64 (-38)] = true := by rw [F.eqi]; rfl
  obtain ⟨eT, hT⟩ : ∃ es, exT.map rowP = es := ⟨_, rfl⟩
  obtain ⟨eH, hH⟩ : ∃ es, exH.map rowP = es := ⟨_, rfl⟩
  obtain ⟨eN, hN⟩ : ∃ es, exN.map rowP = es := ⟨_, rfl⟩
  obtain ⟨eX, hX⟩ : ∃ es, exM.map rowP = es := ⟨_, rfl⟩
  simp only [accP, hT, hH, hN, hX, List.map_nil] at c0 c1 c2 c3 c4 c5 c6 c7 c8 c9
  have c9 : Does Tryz.prog 30 [.agg [.list 24 eT, .list 9 eH, .nil], .int .i64 1, .int .i64 100] (.tup [.agg (rowP [0, -1, 2, 59]), .int .i64 0]) := c9.args fun im w us h => by
    simp only [RepL] at h ⊢
    obtain ⟨x, xs, rfl, h1, h2⟩ := h
    refine ⟨x, xs, rfl, (PLe.agg (RepL.leC (PLe.refl _) (RepL.leC (PLe.refl _) (RepL.leC (PLe.nil 7) (fun _ _ _ h => h))))).h _ _ _ h1, h2⟩
  cbv
  refine ⟨_, hC _ _ _ c0, ?_⟩; cbv
  refine ⟨_, hC _ _ _ c1, ?_⟩; cbv
  refine ⟨_, hC _ _ _ c2, ?_⟩; cbv
  refine ⟨_, hC _ _ _ c3, ?_⟩; cbv
  refine ⟨_, hC _ _ _ c4, ?_⟩; cbv
  refine ⟨_, hC _ _ _ c5, ?_⟩; cbv
  refine ⟨_, hC _ _ _ c6, ?_⟩; cbv
  refine ⟨_, hC _ _ _ c7, ?_⟩; cbv
  refine ⟨_, hC _ _ _ c8, ?_⟩; cbv
  refine ⟨_, hC _ _ _ c9, ?_⟩; cbv
  repeat ((first | rw [e00] | rw [q1] | rw [q2] | rw [q3] | rw [q4] | rw [q5] | rw [e74]); cbv)
  refine ⟨_, hC _ _ _ cS, ?_⟩; cbv
  repeat ((first | rw [hln] | rw [hg] | rw [q6]); cbv)
  exact PLe.refl _
theorem lotK_spec (E : List Int) (d : Int) : ∀ k : Nat, (lotK E d k = (0, -1) ∧ ∀ i, i < k → ¬ (0 ≤ E.getD (i + 1) 0 ∧ E.getD (i + 1) 0 ≤ d)) ∨
    ∃ w, w < k ∧ lotK E d k = ((w : Int) + 1, E.getD (w + 1) 0) ∧ 0 ≤ E.getD (w + 1) 0 ∧ E.getD (w + 1) 0 ≤ d ∧ ∀ i, i < k → 0 ≤ E.getD (i + 1) 0 → E.getD (i + 1) 0 ≤ d → E.getD (w + 1) 0 ≤ E.getD (i + 1) 0
  | 0 => .inl ⟨rfl, fun i hi => by omega⟩
  | k + 1 => by
    rw [lotK_succ]
    unfold lotS
    rcases lotK_spec E d k with ⟨h1, h2⟩ | ⟨w, hw, h1, h2, h3, h4⟩
    · rw [h1]
      by_cases hc : 0 ≤ E.getD (k + 1) 0 ∧ E.getD (k + 1) 0 ≤ d
      · rw [if_pos ⟨hc.1, hc.2, .inl (by decide)⟩]
        refine .inr ⟨k, by omega, rfl, hc.1, hc.2, fun i hi a b => ?_⟩
        by_cases hik : i = k
        · subst hik; exact Int.le_refl _
        · exact absurd ⟨a, b⟩ (h2 i (by omega))
      · rw [if_neg (fun h => hc ⟨h.1, h.2.1⟩)]
        refine .inl ⟨rfl, fun i hi => ?_⟩
        by_cases hik : i = k
        · subst hik; exact hc
        · exact h2 i (by omega)
    · rw [h1]
      dsimp only
      by_cases hc : E.getD (k + 1) 0 ≥ 0 ∧ E.getD (k + 1) 0 ≤ d ∧ (E.getD (w + 1) 0 < 0 ∨ E.getD (k + 1) 0 < E.getD (w + 1) 0)
      · rw [if_pos hc]
        refine .inr ⟨k, by omega, rfl, hc.1, hc.2.1, fun i hi a b => ?_⟩
        by_cases hik : i = k
        · subst hik; exact Int.le_refl _
        · have := h4 i (by omega) a b; omega
      · rw [if_neg hc]
        refine .inr ⟨w, by omega, rfl, h2, h3, fun i hi a b => ?_⟩
        by_cases hik : i = k
        · subst hik; omega
        · exact h4 i (by omega) a b
structure EndOk (T N : List (List Int)) (h : List Int) (d : Int) (en dy : Int) : Prop where
  way : 0 ≤ en ∧ en ≤ 4
  dayL : en ≠ 0 → 0 ≤ dy ∧ dy ≤ d ∧ dy ≤ h.getD 6 0 + 720
  none : en = 0 → dy = -1 ∧ d < h.getD 6 0 + 720
  left : en = 4 → dy = h.getD 6 0 + 720
  forf : en = 3 → (stoN (sayL N h d) < 0 ∨ stoN (sayL N h d) > h.getD 6 0 + 360) ∧ dy = h.getD 6 0 + 361
  mark : en = 2 → dy = marN T h d
  free : en = 1 → dy = leaN 2 (sayL N h d)
theorem end_ok (T N : List (List Int)) {h : List Int} (h6 : 0 ≤ h.getD 6 0) (d : Int) : EndOk T N h d (lotK (lotE T N h d) d 4).1 (lotK (lotE T N h d) d 4).2 := by
  have hE1 : (lotE T N h d).getD 1 0 = leaN 2 (sayL N h d) := rfl
  have hE2 : (lotE T N h d).getD 2 0 = marN T h d := rfl
  have hE3 : (lotE T N h d).getD 3 0 = if stoN (sayL N h d) < 0 ∨ stoN (sayL N h d) > h.getD 6 0 + 360 then h.getD 6 0 + 361 else -1 := rfl
  have hE4 : (lotE T N h d).getD 4 0 = h.getD 6 0 + 720 := rfl
  rcases lotK_spec (lotE T N h d) d 4 with ⟨h1, h2⟩ | ⟨w, hw, h1, h2, h3, h4⟩
  · rw [h1]
    have := h2 3 (by decide)
    rw [hE4] at this
    exact ⟨by decide, fun h => absurd rfl h, fun _ => ⟨rfl, by omega⟩, fun h => absurd h (by decide), fun h => absurd h (by decide), fun h => absurd h (by decide), fun h => absurd h (by decide)⟩
  · rw [h1]
    have h5 := h4 3 (by decide)
    rw [hE4] at h5
    dsimp only
    refine ⟨by omega, fun _ => ⟨h2, h3, by omega⟩, fun q => by omega, fun q => ?_, fun q => ?_, fun q => ?_, fun q => ?_⟩
    · obtain rfl : w = 3 := by omega
      exact hE4
    · obtain rfl : w = 2 := by omega
      rw [hE3] at h2 ⊢
      by_cases hc : stoN (sayL N h d) < 0 ∨ stoN (sayL N h d) > h.getD 6 0 + 360
      · rw [if_pos hc]; exact ⟨hc, rfl⟩
      · rw [if_neg hc] at h2; omega
    · obtain rfl : w = 1 := by omega
      exact hE2
    · obtain rfl : w = 0 := by omega
      exact hE1
theorem mar_ok {T : List (List Int)} {h : List Int} {d : Int} (h6 : 0 ≤ h.getD 6 0) (hm : 0 ≤ marN T h d) : ∃ k : Nat, marN T h d = h.getD 6 0 + (k : Int) ∧ marN T h d ≤ d ∧ h.getD 4 0 ≤ sumK (feedD T (h.getD 3 0)) (h.getD 6 0) (k + 1) := by
  have hs := marG_spec (feedD T (h.getD 3 0)) (h.getD 4 0) d (h.getD 6 0 + 720) (h.getD 6 0) 722 0
  have hm2 : marN T h d = marG (feedD T (h.getD 3 0)) (h.getD 4 0) d (h.getD 6 0 + 720) 722 (h.getD 6 0 + ((0 : Nat) : Int)) (sumK (feedD T (h.getD 3 0)) (h.getD 6 0) 0) := by
    have hs0 : sumK (feedD T (h.getD 3 0)) (h.getD 6 0) 0 = 0 := rfl
    rw [hs0]; simp only [Int.natCast_zero, Int.add_zero]; rfl
  rw [← hm2] at hs
  rcases hs with ⟨h1, _⟩ | ⟨k, _, g3, g4, g5, g6, g7, g8, _⟩
  · omega
  · exact ⟨k, g8, by omega, g7⟩
theorem held_eq {T H N : List (List Int)} (hok : accOk T H N = true) {a b : List Int} (ha : a ∈ H) (hb : b ∈ H) (he : a.getD 0 0 = b.getD 0 0) : a = b := by
  unfold accOk at hok
  simp only [Bool.and_eq_true] at hok
  have hp := lsOk_pair hok.2.1
  rw [List.pairwise_iff_getElem] at hp
  obtain ⟨i, hi, rfl⟩ := List.getElem_of_mem ha
  obtain ⟨j, hj, rfl⟩ := List.getElem_of_mem hb
  by_cases hij : i = j
  · subst hij; rfl
  · by_cases hlt : i < j
    · have := hp i j hi hj hlt; omega
    · have := hp j i hj hi (by omega); omega
theorem sta_find {T H N : List (List Int)} (hok : accOk T H N = true) {d : Int} {h : List Int} (hh : h ∈ H) (hc : cntH d h = true) : H.find? (staP (h.getD 0 0) d) = some h := by
  have hp : staP (h.getD 0 0) d h = true := by
    unfold staP
    rw [Bool.and_eq_true]
    exact ⟨beq_self_eq_true _, hc⟩
  cases hf : H.find? (staP (h.getD 0 0) d) with
  | none => exact absurd hp (List.find?_eq_none.1 hf h hh)
  | some x =>
    have hx := List.find?_some hf
    have hm := List.mem_of_find?_eq_some hf
    unfold staP at hx
    simp only [Bool.and_eq_true, beq_iff_eq] at hx
    rw [held_eq hok hm hh hx.1]
theorem sta_is {T H N : List (List Int)} {d : Int} (ha : askE T H N d = 0) {h : List Int} (hh : h ∈ H) (hc : cntH d h = true) : staN T H N (h.getD 0 0) d = (h, 0) := by
  unfold staN
  rw [if_pos ha, sta_find (askE_ok ha).1 hh hc]
theorem sts_has {T H N : List (List Int)} {d : Int} (ha : askE T H N d = 0) {h : List Int} (hh : h ∈ H) : (stsN T H N d).contains (h.getD 0 0) = cntH d h := by
  unfold stsN
  rw [if_pos ha]
  exact srcs_has (fun a ha' b hb e => by rw [held_eq (askE_ok ha).1 ha' hb e]) hh
theorem ins_has {T H N : List (List Int)} {d : Int} (ha : askE T H N d = 0) {h : List Int} (hh : h ∈ H) : (if askE T H N d = 0 then srcsN (insH T N d) H else []).contains (h.getD 0 0) = (cntH d h && (decide (h.getD 6 0 ≤ d) && (lotN T N h d).getD 2 0 == 0)) := by
  rw [if_pos ha]
  exact srcs_has (mv := insH T N d) (fun a ha' b hb e => by rw [held_eq (askE_ok ha).1 ha' hb e]) hh
theorem end_has {T H N : List (List Int)} {d way : Int} (ha : askE T H N d = 0) (hw : 0 ≤ way ∧ way ≤ 4) {h : List Int} (hh : h ∈ H) (hc : cntH d h = true) : (endN T H N way d).contains (h.getD 0 0) = ((lotN T N h d).getD 2 0 == way) := by
  have ht : thrE T H N (inB way 0 4) d = 0 := by
    unfold thrE
    rw [if_pos (askE_ok ha).1, if_pos (inB_iff.2 hw)]; exact ha
  have hl : (lotR T H N (h.getD 0 0) d).1 = lotN T N h d := by
    unfold lotR
    rw [sta_is ha hh hc]; rfl
  have hs := sts_has ha hh
  rw [hc] at hs
  unfold endN endF
  rw [if_pos ht]
  cases hq : ((lotN T N h d).getD 2 0 == way) with
  | true =>
    rw [List.contains_iff_mem]
    exact List.mem_filter.2 ⟨List.contains_iff_mem.1 hs, by rw [hl]; exact hq⟩
  | false =>
    rw [← Bool.not_eq_true, List.contains_iff_mem]
    intro hm
    have := (List.mem_filter.1 hm).2
    rw [hl, hq] at this
    cases this
theorem ends_law {T N : List (List Int)} {h : List Int} (h6 : 0 ≤ h.getD 6 0) {d ow st en dy : Int} (hl : lotN T N h d = [ow, st, en, dy]) :
    (0 ≤ en ∧ en ≤ 4) ∧ max (lasN [ow, st, en, dy] d - h.getD 6 0 + 1) 0 ≤ 721 ∧ (en = 3 → st < 0 ∨ st > h.getD 6 0 + 360) ∧ (en = 2 → h.getD 4 0 ≤ (chgN T N h d).getD 1 0) ∧ (en = 0 → d < h.getD 6 0 + 720) := by
  have hk := end_ok T N h6 d
  have hl2 := hl
  unfold lotN at hl
  simp only [List.cons.injEq, and_true] at hl
  obtain ⟨e1, e2, e3, e4⟩ := hl
  rw [e3, e4] at hk
  refine ⟨hk.way, ?_, fun h => by rw [← e2]; exact (hk.forf h).1, fun h2 => ?_, fun h => (hk.none h).2⟩
  · show max ((if en = 0 then d else if en = 2 then dy else dy - 1) - h.getD 6 0 + 1) 0 ≤ 721
    have a := hk.none
    have b := hk.dayL
    split
    · rename_i h0; have := a h0; omega
    · rename_i h0; have := b h0; split <;> omega
  · have hm := hk.mark h2
    have hd := hk.dayL (by omega)
    obtain ⟨k, k1, k2, k3⟩ := mar_ok (T := T) (h := h) (d := d) h6 (by omega)
    unfold chgN
    rw [if_neg (by omega), hl2]
    show h.getD 4 0 ≤ sumL (feedD T (h.getD 3 0)) (dayL (h.getD 6 0) (if en = 0 then d else if en = 2 then dy else dy - 1))
    rw [if_neg (by omega), if_pos h2]
    unfold dayL
    rw [show (dy - h.getD 6 0 + 1).toNat = k + 1 by omega]
    exact k3
end Go.Proofs.YtjimjdhdnkhfnaaGreat
