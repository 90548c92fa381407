/- Contracts of functions of the program and of the reference, a calculus of states, and plain facts: a part of a proof. Own text. -/
import Derived.Test.YtjimjdhdnkhfnaaJae
import Derived.Test.YtjimjdhdnkhfnaaJan
import Derived.Test.YtjimjdhdnkhfnaaJao
import Derived.Test.YtjimjdhdnkhfnaaJap
import Derived.Test.YtjimjdhdnkhfnaaJaq
import Derived.Sort.OwnSortedInts
set_option linter.unusedVariables false
set_option linter.unusedSimpArgs false
set_option linter.unusedSectionVars false
set_option linter.unnecessarySimpa false
namespace Go.Proofs.Ytjimjdhdnkhfnaa
open Go Go.RowKit Go.Sort
set_option maxRecDepth 100000
theorem numP_flat (l : List Int) : (numP l).flatten = rowP l := by
  unfold numP rowP
  induction l with
  | nil => rfl
  | cons a l ih => simp only [List.map_cons, List.flatten_cons, ih]; rfl
theorem ints_cell (l : List Int) : ∀ u ∈ ints l, u.oneCell' = true := fun u hu => by
  obtain ⟨n, _, rfl⟩ := List.mem_map.1 hu
  rfl
theorem nums_one (l : List Int) : ∀ y ∈ numP l, y.length = 1 := fun y hy => by
  obtain ⟨n, _, rfl⟩ := List.mem_map.1 hy
  rfl
theorem compact_le (zs : List Int) : (Lib.compact zs).length ≤ zs.length := by
  unfold Lib.compact Lib.compactUpTo
  rw [List.length_map]
  exact Nat.le_trans (List.length_filter_le _ _) (by simp)
def srtL (zs : List Int) : List Int := zs.mergeSort fun x y => decide (x ≤ y)
theorem sort_does (zs : List Int) (hz : zs.length < 4611686018427387904) : DoesW Try.prog 74 3 1 (numP zs) (numP (srtL zs)) [] := ⟨fun us w => Try.call74 us w, fun w im imA base x xs us him himA hb hown hl hk hno hr => by
  obtain rfl : us = [] := hr
  rw [numP_flat] at hl
  obtain rfl : xs = ints zs := rep_ints.1 hl
  have hn : (numP zs).length = zs.length := by simp [numP]
  rw [hn] at hown
  have hlen : (srtL zs).length = zs.length := List.length_mergeSort ..
  rcases hown.2 with ⟨hv, h0⟩ | ⟨g, cap, cur, hv, hbg, hgg, hcap, hm, hsz, hcur⟩
  · obtain rfl : zs = [] := List.eq_nil_of_length_eq_zero h0
    subst hv
    refine (Try.slices_Sort_int_none none 0 w).mono ?_
    rintro e w' ⟨rfl, rfl⟩
    refine ⟨_, [], rfl, ⟨by simp [numP, srtL], .inl ⟨rfl, by simp [numP, srtL]⟩⟩, by simp [numP, srtL, RepL], ⟨by simp [numP, srtL], by simp⟩, ?_⟩
    exact ⟨rfl, rfl, rfl, Nat.le_refl _, fun _ _ _ => rfl⟩
  · subst hv
    rw [Nat.mul_one] at hcur
    have hHo := holds_of_blockI hgg hcur
    refine (Try.slices_Sort_int g 0 cap zs w hHo (Array.getElem?_eq_some_iff.1 hgg).1 hz).mono ?_
    rintro e w' ⟨rfl, n, os, rfl⟩
    refine ⟨_, ints (srtL zs), rfl, ?_, ?_, ⟨nums_one _, ints_cell _⟩, grownBy_sortedI _⟩
    · rw [show (numP (srtL zs)).length = zs.length by simp [numP, hlen]]
      exact ownsRow_sortedI hlen hbg hgg hcap hm hsz
    · rw [numP_flat]; exact rep_ints.2 rfl⟩
theorem compact_does (zs : List Int) (hz : zs.length ≤ 9223372036854775807) : DoesC Try.prog 75 3 1 (numP zs) [] (.list 1 (numP (Lib.compact zs))) := ⟨fun us w => Try.call75 us w, fun w im imA base x xs us him himA hb hown hl hk hno hr => by
  obtain rfl : us = [] := hr
  rw [numP_flat] at hl
  obtain rfl : xs = ints zs := rep_ints.1 hl
  have hn : (numP zs).length = zs.length := by simp [numP]
  rw [hn] at hown
  rcases hown.2 with ⟨hv, h0⟩ | ⟨g, cap, cur, hv, hbg, hgg, hcap, hm, hsz, hcur⟩
  · obtain rfl : zs = [] := List.eq_nil_of_length_eq_zero h0
    subst hv
    refine (Try.slices_Compact_int_empty none 0 w).mono ?_
    rintro e w' ⟨rfl, rfl⟩
    refine ⟨_, rfl, ?_, ⟨rfl, rfl, rfl, Nat.le_refl _, fun _ _ _ => rfl⟩⟩
    simp only [RepP]
    exact ⟨none, 0, 0, rfl, rfl, by simp, by simp, .inl rfl⟩
  · subst hv
    rw [Nat.mul_one] at hcur
    have hHo := holds_of_blockI hgg hcur
    have hcl := compact_le zs
    refine (Try.slices_Compact_int g 0 cap zs w hHo hz hcap).mono ?_
    rintro e w' ⟨rfl, q, rfl⟩
    have hgr := grownBy_sortedI (w := w) (g := g) (n := q) (os := #[]) (Lib.compact zs ++ List.replicate (zs.length - (Lib.compact zs).length) 0).toArray
    have hbl := heap_sortedI (w := w) (n := q) (os := #[]) (Lib.compact zs ++ List.replicate (zs.length - (Lib.compact zs).length) 0).toArray hgg
    rw [grow_empty] at hgr hbl
    refine ⟨_, rfl, ?_, hgr⟩
    have htk := take_putCellsI cur (Lib.compact zs ++ List.replicate (zs.length - (Lib.compact zs).length) 0) (by simp; omega)
    generalize putRow (Value.int .i64) (Sort.ahead w q) g 0 (Lib.compact zs ++ List.replicate (zs.length - (Lib.compact zs).length) 0).toArray = W at *
    generalize putCells (Value.int .i64) 0 (Lib.compact zs ++ List.replicate (zs.length - (Lib.compact zs).length) 0).toArray cur = cur2 at *
    simp only [RepP]
    refine ⟨_, _, cap, rfl, by simp [numP], by omega, hm, .inr ⟨g, 0, rfl, .inr ⟨.inl rfl, plain_of hbl rfl⟩, ?_⟩⟩
    refine RepE.of_flat' (us := ints (Lib.compact zs)) ⟨nums_one _, ints_cell _⟩ (fun j v hv => ?_) (by rw [numP_flat]; exact rep_ints.2 rfl)
    have hj : j < (Lib.compact zs).length := by
      have := (List.getElem?_eq_some_iff.1 hv).1
      simpa [ints] using this
    have h2 : (cur2.toList.take (Lib.compact zs ++ List.replicate (zs.length - (Lib.compact zs).length) 0).length)[j]? = some v := by
      rw [htk, List.map_append, List.getElem?_append_left (by simpa using hj)]
      exact hv
    rw [List.getElem?_take_of_lt (by simp; omega), Array.getElem?_toList] at h2
    simp only [Addr.add, Nat.zero_mul, Nat.zero_add] at *
    simp [World.cell?, hbl, h2]⟩
end Go.Proofs.Ytjimjdhdnkhfnaa
namespace Go.Proofs.Ytjimjdhdnkhfnaa
open Go Go.RowKit
set_option maxRecDepth 100000
set_option maxHeartbeats 4000000
theorem erase_perm {α : Type} : ∀ (E : List α) (j : Nat) (h : j < E.length), (E[j] :: E.eraseIdx j).Perm E
  | _ :: _, 0, _ => List.Perm.refl _
  | a :: E, j + 1, h => (List.Perm.swap a _ _).trans ((erase_perm E j (by simpa using h)).cons a)
theorem eraseIdx_rows : ∀ (E : List (List Int)) (j : Nat), (E.map rowP).eraseIdx j = (E.eraseIdx j).map rowP
  | [], _ => rfl
  | _ :: _, 0 => rfl
  | a :: E, j + 1 => by simp only [List.map_cons, List.eraseIdx_cons_succ, eraseIdx_rows E j]
theorem srt_perm {P Q : List Int} (h : P.Perm Q) : srtL P = srtL Q := by
  have hs : ∀ L : List Int, (srtL L).Pairwise (fun a b => a ≤ b) := fun L => by
    have := List.pairwise_mergeSort (le := fun x y : Int => decide (x ≤ y)) (fun a b c h1 h2 => by simp at *; omega) (fun a b => by simp; omega) L
    simpa [srtL] using this
  refine List.Perm.eq_of_pairwise (le := fun a b => a ≤ b) (fun a b _ _ h1 h2 => by omega) (hs P) (hs Q) ?_
  exact ((List.mergeSort_perm ..).trans h).trans (List.mergeSort_perm ..).symm
def froL (E : List (List Int)) : List Int := E.map fun e => e.getD 1 0
def frK (E1 E2 : List (List Int)) (k : Nat) : List Int := if k = 0 then [] else if k = 1 then froL E1 else froL E1 ++ froL E2
theorem frK0 (E1 E2 : List (List Int)) : frK E1 E2 0 = [] := rfl
theorem frK1 (E1 E2 : List (List Int)) : frK E1 E2 1 = froL E1 := rfl
theorem froL_len (E : List (List Int)) : (froL E).length = E.length := by simp [froL]
def payL (P : List Int) : List Int := Lib.compact (srtL P)
def mapV (E : List (List Int)) : PV := .map true false [.int .i64 0, .int .i64 0, .int .i64 0] (E.map rowP)
theorem payers0_does {E2 : List (List Int)} (h2 : ∀ e ∈ E2, e.length = 4) (hsz : (([] : List (List Int))).length + E2.length ≤ 100000) :
    Does Try.prog 63 [.list 1 [[.nilm], [mapV E2]]] (.list 1 (numP (payL (froL (([] : List (List Int))) ++ froL E2)))) := by
  obtain ⟨V, hV⟩ : ∃ V, PV.list 1 (numP (payL (froL (([] : List (List Int))) ++ froL E2))) = V := ⟨_, rfl⟩
  rw [hV]
  obtain ⟨eM, hM⟩ : ∃ es : List (List PV), [[.nilm], [mapV E2]] = es := ⟨_, rfl⟩
  rw [hM]
  refine does_of (own := inPl) Try.func63 rfl Try.ntmps63 (congrArg Array.toList Try.results63) (fun us w => Try.call63 us w) hTT mixed (Nat.le_of_ble_eq_true rfl) ?_
  intro w0 im0 D0 S Cl hS hC ar har
  have har' := har
  obtain ⟨ai, ab, nz, inr, fi, pk, ix, ln, sb, eqi, sl, fits, mn, mx, nt, be, up, fu, mg, mh, ms⟩ := ar
  have F := facts_of har
  clear har
  cbv
  refine hS _ _ _ (sem_mkRow 3 1000 3 1 (by rfl) (by rfl) (sem_loopR (fun x : Nat × Int × List (List PV) => [sR 3 1000, sL 7 1 eM, sI 8 (ln eM), sI 9 x.2.1, rW 1000 3 1 x.2.2]) (fun x => x.1 ≤ 2 ∧ x.2.1 = (x.1 : Int) ∧ ∃ P : List Int, x.2.2 = numP P ∧ P.Perm (frK (([] : List (List Int))) E2 x.1)) (fun x => 2 - x.1) (0, 0, []) (fun t => t) ⟨by rfl, by cbv; try (repeat (first | exact rfl | exact trivial | refine ⟨?_, ?_⟩))⟩ ?_ ?_))
  · exact ⟨by simp, rfl, [], rfl, List.Perm.refl _⟩
  rintro ⟨k, i, es⟩ ⟨hk, hi, P, hes, hP⟩
  dsimp only at hk hi hes hP
  have hadd : ai .add i 1 = ((k + 1 : Nat) : Int) := by rw [F.add i 1 (by omega) (by omega), hi]; simp
  have hlen : ln eM = 2 := by rw [F.ln, ← hM]; rfl
  refine sem_of (X := ⟨_, TT, ⟨0, 29, inPl⟩⟩) har' hTT mixed ?_
  intro S1 Cl1 hS1 hC1
  cbv
  by_cases hlt : k < 2
  · have hb : ab .lss i (ln eM) = true := by have h9 : (k : Int) < 2 := by omega
                                             rw [hlen, F.lss, hi]; exact decide_eq_true h9
    have walk : ∀ (E : List (List Int)) (left0 : List (List PV)), left0 = E.map rowP → (∀ e ∈ E, e.length = 4) → E.length ≤ 100000 → P.length ≤ 100000 → True := fun _ _ _ _ _ _ => trivial
    clear walk
    obtain rfl | rfl : k = 0 ∨ k = 1 := by omega
    · have hg : ix eM i = some [.nilm] := by rw [F.ix _ i 0 hi, ← hM]; rfl
      have hE4 : ∀ e ∈ (([] : List (List Int))), e.length = 4 := by simp
      have hPl : P.length + (([] : List (List Int))).length ≤ 100000 := by have := hP.length_eq; rw [frK0, List.length_nil] at this; omega
      have hnx : ∀ Q : List Int, Q.Perm (P ++ froL (([] : List (List Int)))) → Q.Perm (froL (([] : List (List Int)))) := fun Q h => h.trans (by have e := List.Perm.eq_nil hP; rw [e]; exact List.Perm.refl _)
      clear hP
      rw [hb]; cbv
      repeat (rw [hg]; cbv)
      refine hS1 _ _ _ (sem_loopR (fun y : List (List PV) × List (List PV) × List (List PV) => [sR 3 1000, sL 7 1 eM, sI 8 (ln eM), sI 9 i, (kT 14, .t (.c (.ptr 14 0))), (kB 14, .obj (.iter true false [.int .i64 0, .int .i64 0, .int .i64 0] y.1 y.2.1)), rW 1000 3 1 y.2.2]) (fun y => ∃ (E : List (List Int)) (Q : List Int), y.1 = E.map rowP ∧ y.2.2 = numP Q ∧ (∀ e ∈ E, e.length = 4) ∧ (Q ++ froL E).Perm (P ++ froL (([] : List (List Int))))) (fun y => y.1.length) ([], [], es) (fun t => t) ⟨by cbv, by cbv; try (repeat (first | exact rfl | exact trivial | refine ⟨?_, ?_⟩))⟩ ?_ ?_)
      · exact ⟨(([] : List (List Int))), P, rfl, hes, hE4, List.Perm.refl _⟩
      rintro ⟨left, cur, es'⟩ ⟨E, Q, hleft, hes', hE, hQ⟩
      dsimp only at hleft hes'
      have hQl : Q.length ≤ 100000 := by have := hQ.length_eq; rw [List.length_append, List.length_append, froL_len, froL_len] at this; omega
      have hfit : ∀ x, fits 8 es' [x] = true := fun x => F.fits _ _ _ (by rw [hes', numP_len]; simp only [List.length_singleton]; omega)
      refine sem_of (X := ⟨_, TT, ⟨0, 29, inPl⟩⟩) har' hTT mixed ?_
      intro S2 Cl2 hS2 hC2
      cbv
      refine hS2 _ _ _ (sem_next 14 rfl rfl rfl rfl rfl rfl (by rfl) (by rfl) (by rfl) (by rfl) ?_ ?_)
      · intro hl
        have hE0 : E = [] := by rw [hl] at hleft; exact List.map_eq_nil_iff.1 hleft.symm
        subst hE0
        have hfin := hnx Q (by rw [show froL [] = [] from rfl, List.append_nil] at hQ; exact hQ)
        cbv
        exact ⟨(0 + 1, ai .add i 1, es'), (fun t => t), ⟨by omega, hadd, Q, hes', hfin⟩, by dsimp only; omega, ⟨by cbv, by cbv; try (repeat (first | exact rfl | exact trivial | refine ⟨?_, ?_⟩))⟩⟩
      · intro j e he
        obtain ⟨hj, hej⟩ : ∃ h : j < E.length, rowP E[j] = e := by
          rw [hleft, List.getElem?_map] at he
          obtain ⟨a, ha, rfl⟩ := Option.map_eq_some_iff.1 he
          obtain ⟨h, rfl⟩ := List.getElem?_eq_some_iff.1 ha
          exact ⟨h, rfl⟩
        have hl1 : (left.eraseIdx j).length < left.length := by
          rw [List.length_eraseIdx, hleft, List.length_map, if_pos hj]; omega
        have hl2 : left.eraseIdx j = (E.eraseIdx j).map rowP := by rw [hleft]; exact eraseIdx_rows E j
        have hE' : ∀ x ∈ E.eraseIdx j, x.length = 4 := fun x hx => hE x (List.mem_of_mem_eraseIdx hx)
        obtain ⟨a0, a1, a2, a3, ha⟩ := list4 (hE _ (List.getElem_mem hj))
        have hQ' : (Q ++ [a1] ++ froL (E.eraseIdx j)).Perm (P ++ froL (([] : List (List Int)))) := by
          refine List.Perm.trans ?_ hQ
          rw [List.append_assoc]
          refine List.Perm.append_left _ ?_
          have := (erase_perm E j hj).map (fun e => e.getD 1 0)
          rw [ha] at this
          exact this
        rw [ha] at hej
        subst hej
        have hyes : es' ++ [[PV.int .i64 a1]] = numP (Q ++ [a1]) := by rw [hes']; exact (numP_snoc _ _).symm
        generalize left.eraseIdx j = left' at *
        cbv
        rw [hfit]; cbv
        exact ⟨(left', [[.int .i64 a0, .int .i64 a1, .int .i64 a2, .int .i64 a3]], es' ++ [[PV.int .i64 a1]]), (fun t => bif Nat.beq t 1000 then 23 else t), ⟨E.eraseIdx j, Q ++ [a1], hl2, hyes, hE', hQ'⟩, by dsimp only; omega, ⟨by cbv, by cbv; try (repeat (first | exact rfl | exact trivial | refine ⟨?_, ?_⟩))⟩⟩
    · have hg : ix eM i = some [mapV E2] := by rw [F.ix _ i 1 hi, ← hM]; rfl
      have hE4 : ∀ e ∈ E2, e.length = 4 := h2
      have hPl : P.length + E2.length ≤ 100000 := by have := hP.length_eq; rw [frK1, froL_len] at this; omega
      have hnx : ∀ Q : List Int, Q.Perm (P ++ froL E2) → Q.Perm (froL (([] : List (List Int))) ++ froL E2) := fun Q h => h.trans (by rw [frK1] at hP; exact hP.append_right _)
      clear hP
      rw [hb]; cbv
      repeat (rw [hg]; cbv)
      refine hS1 _ _ _ (sem_loopR (fun y : List (List PV) × List (List PV) × List (List PV) => [sR 3 1000, sL 7 1 eM, sI 8 (ln eM), sI 9 i, (kT 14, .t (.c (.ptr 14 0))), (kB 14, .obj (.iter true false [.int .i64 0, .int .i64 0, .int .i64 0] y.1 y.2.1)), rW 1000 3 1 y.2.2]) (fun y => ∃ (E : List (List Int)) (Q : List Int), y.1 = E.map rowP ∧ y.2.2 = numP Q ∧ (∀ e ∈ E, e.length = 4) ∧ (Q ++ froL E).Perm (P ++ froL E2)) (fun y => y.1.length) ((E2.map rowP), [], es) (fun t => t) ⟨by cbv, by cbv; try (repeat (first | exact rfl | exact trivial | refine ⟨?_, ?_⟩))⟩ ?_ ?_)
      · exact ⟨E2, P, rfl, hes, hE4, List.Perm.refl _⟩
      rintro ⟨left, cur, es'⟩ ⟨E, Q, hleft, hes', hE, hQ⟩
      dsimp only at hleft hes'
      have hQl : Q.length ≤ 100000 := by have := hQ.length_eq; rw [List.length_append, List.length_append, froL_len, froL_len] at this; omega
      have hfit : ∀ x, fits 8 es' [x] = true := fun x => F.fits _ _ _ (by rw [hes', numP_len]; simp only [List.length_singleton]; omega)
      refine sem_of (X := ⟨_, TT, ⟨0, 29, inPl⟩⟩) har' hTT mixed ?_
      intro S2 Cl2 hS2 hC2
      cbv
      refine hS2 _ _ _ (sem_next 14 rfl rfl rfl rfl rfl rfl (by rfl) (by rfl) (by rfl) (by rfl) ?_ ?_)
      · intro hl
        have hE0 : E = [] := by rw [hl] at hleft; exact List.map_eq_nil_iff.1 hleft.symm
        subst hE0
        have hfin := hnx Q (by rw [show froL [] = [] from rfl, List.append_nil] at hQ; exact hQ)
        cbv
        exact ⟨(1 + 1, ai .add i 1, es'), (fun t => t), ⟨by omega, hadd, Q, hes', hfin⟩, by dsimp only; omega, ⟨by cbv, by cbv; try (repeat (first | exact rfl | exact trivial | refine ⟨?_, ?_⟩))⟩⟩
      · intro j e he
        obtain ⟨hj, hej⟩ : ∃ h : j < E.length, rowP E[j] = e := by
          rw [hleft, List.getElem?_map] at he
          obtain ⟨a, ha, rfl⟩ := Option.map_eq_some_iff.1 he
          obtain ⟨h, rfl⟩ := List.getElem?_eq_some_iff.1 ha
          exact ⟨h, rfl⟩
        have hl1 : (left.eraseIdx j).length < left.length := by
          rw [List.length_eraseIdx, hleft, List.length_map, if_pos hj]; omega
        have hl2 : left.eraseIdx j = (E.eraseIdx j).map rowP := by rw [hleft]; exact eraseIdx_rows E j
        have hE' : ∀ x ∈ E.eraseIdx j, x.length = 4 := fun x hx => hE x (List.mem_of_mem_eraseIdx hx)
        obtain ⟨a0, a1, a2, a3, ha⟩ := list4 (hE _ (List.getElem_mem hj))
        have hQ' : (Q ++ [a1] ++ froL (E.eraseIdx j)).Perm (P ++ froL E2) := by
          refine List.Perm.trans ?_ hQ
          rw [List.append_assoc]
          refine List.Perm.append_left _ ?_
          have := (erase_perm E j hj).map (fun e => e.getD 1 0)
          rw [ha] at this
          exact this
        rw [ha] at hej
        subst hej
        have hyes : es' ++ [[PV.int .i64 a1]] = numP (Q ++ [a1]) := by rw [hes']; exact (numP_snoc _ _).symm
        generalize left.eraseIdx j = left' at *
        cbv
        rw [hfit]; cbv
        exact ⟨(left', [[.int .i64 a0, .int .i64 a1, .int .i64 a2, .int .i64 a3]], es' ++ [[PV.int .i64 a1]]), (fun t => bif Nat.beq t 1000 then 23 else t), ⟨E.eraseIdx j, Q ++ [a1], hl2, hyes, hE', hQ'⟩, by dsimp only; omega, ⟨by cbv, by cbv; try (repeat (first | exact rfl | exact trivial | refine ⟨?_, ?_⟩))⟩⟩
  · have hb : ab .lss i (ln eM) = false := by have h9 : ¬ (k : Int) < 2 := by omega
                                              rw [hlen, F.lss, hi]; exact decide_eq_false h9
    obtain rfl : k = 2 := by omega
    have hP2 : P.Perm (froL (([] : List (List Int))) ++ froL E2) := hP
    have hPl : P.length ≤ 100000 := by have := hP2.length_eq; rw [List.length_append, froL_len, froL_len] at this; omega
    have hVe : V = .list 1 (numP (Lib.compact (srtL P))) := by rw [← hV, srt_perm hP2]; rfl
    have hsl : (srtL P).length = P.length := List.length_mergeSort ..
    have hsrt := sort_does P (by omega)
    have hcmp := compact_does (srtL P) (by omega)
    subst hes
    generalize numP P = eP at *
    generalize srtL P = Z at *
    obtain ⟨eZ, hZ⟩ : ∃ es, numP Z = es := ⟨_, rfl⟩
    obtain ⟨eC, heC⟩ : ∃ es, numP (Lib.compact Z) = es := ⟨_, rfl⟩
    rw [hZ] at hsrt hcmp
    rw [heC] at hcmp hVe
    rw [hb]; cbv
    refine ⟨.own 3 1 eZ, hC _ (.own 3 1 eP :: []) (.own 3 1 eZ) (show Can Try.prog 74 _ _ from ⟨rfl, rfl, hsrt⟩), ?_⟩; cbv
    refine ⟨.list 1 eC, hC _ (.own 3 1 eZ :: []) (.list 1 eC) (show Can Try.prog 75 _ _ from hcmp), ?_⟩; cbv
    rw [hVe]
    exact PLe.refl _
theorem payers_does {E2 : List (List Int)} {E1 : List (List Int)} (h1 : ∀ e ∈ E1, e.length = 4) (h2 : ∀ e ∈ E2, e.length = 4) (hsz : (E1).length + E2.length ≤ 100000) :
    Does Try.prog 63 [.list 1 [[mapV E1], [mapV E2]]] (.list 1 (numP (payL (froL (E1) ++ froL E2)))) := by
  obtain ⟨V, hV⟩ : ∃ V, PV.list 1 (numP (payL (froL (E1) ++ froL E2))) = V := ⟨_, rfl⟩
  rw [hV]
  obtain ⟨eM, hM⟩ : ∃ es : List (List PV), [[mapV E1], [mapV E2]] = es := ⟨_, rfl⟩
  rw [hM]
  refine does_of (own := inPl) Try.func63 rfl Try.ntmps63 (congrArg Array.toList Try.results63) (fun us w => Try.call63 us w) hTT mixed (Nat.le_of_ble_eq_true rfl) ?_
  intro w0 im0 D0 S Cl hS hC ar har
  have har' := har
  obtain ⟨ai, ab, nz, inr, fi, pk, ix, ln, sb, eqi, sl, fits, mn, mx, nt, be, up, fu, mg, mh, ms⟩ := ar
  have F := facts_of har
  clear har
  cbv
  refine hS _ _ _ (sem_mkRow 3 1000 3 1 (by rfl) (by rfl) (sem_loopR (fun x : Nat × Int × List (List PV) => [sR 3 1000, sL 7 1 eM, sI 8 (ln eM), sI 9 x.2.1, rW 1000 3 1 x.2.2]) (fun x => x.1 ≤ 2 ∧ x.2.1 = (x.1 : Int) ∧ ∃ P : List Int, x.2.2 = numP P ∧ P.Perm (frK (E1) E2 x.1)) (fun x => 2 - x.1) (0, 0, []) (fun t => t) ⟨by rfl, by cbv; try (repeat (first | exact rfl | exact trivial | refine ⟨?_, ?_⟩))⟩ ?_ ?_))
  · exact ⟨by simp, rfl, [], rfl, List.Perm.refl _⟩
  rintro ⟨k, i, es⟩ ⟨hk, hi, P, hes, hP⟩
  dsimp only at hk hi hes hP
  have hadd : ai .add i 1 = ((k + 1 : Nat) : Int) := by rw [F.add i 1 (by omega) (by omega), hi]; simp
  have hlen : ln eM = 2 := by rw [F.ln, ← hM]; rfl
  refine sem_of (X := ⟨_, TT, ⟨0, 29, inPl⟩⟩) har' hTT mixed ?_
  intro S1 Cl1 hS1 hC1
  cbv
  by_cases hlt : k < 2
  · have hb : ab .lss i (ln eM) = true := by have h9 : (k : Int) < 2 := by omega
                                             rw [hlen, F.lss, hi]; exact decide_eq_true h9
    have walk : ∀ (E : List (List Int)) (left0 : List (List PV)), left0 = E.map rowP → (∀ e ∈ E, e.length = 4) → E.length ≤ 100000 → P.length ≤ 100000 → True := fun _ _ _ _ _ _ => trivial
    clear walk
    obtain rfl | rfl : k = 0 ∨ k = 1 := by omega
    · have hg : ix eM i = some [mapV E1] := by rw [F.ix _ i 0 hi, ← hM]; rfl
      have hE4 : ∀ e ∈ (E1), e.length = 4 := h1
      have hPl : P.length + (E1).length ≤ 100000 := by have := hP.length_eq; rw [frK0, List.length_nil] at this; omega
      have hnx : ∀ Q : List Int, Q.Perm (P ++ froL (E1)) → Q.Perm (froL (E1)) := fun Q h => h.trans (by have e := List.Perm.eq_nil hP; rw [e]; exact List.Perm.refl _)
      clear hP
      rw [hb]; cbv
      repeat (rw [hg]; cbv)
      refine hS1 _ _ _ (sem_loopR (fun y : List (List PV) × List (List PV) × List (List PV) => [sR 3 1000, sL 7 1 eM, sI 8 (ln eM), sI 9 i, (kT 14, .t (.c (.ptr 14 0))), (kB 14, .obj (.iter true false [.int .i64 0, .int .i64 0, .int .i64 0] y.1 y.2.1)), rW 1000 3 1 y.2.2]) (fun y => ∃ (E : List (List Int)) (Q : List Int), y.1 = E.map rowP ∧ y.2.2 = numP Q ∧ (∀ e ∈ E, e.length = 4) ∧ (Q ++ froL E).Perm (P ++ froL (E1))) (fun y => y.1.length) (((E1).map rowP), [], es) (fun t => t) ⟨by cbv, by cbv; try (repeat (first | exact rfl | exact trivial | refine ⟨?_, ?_⟩))⟩ ?_ ?_)
      · exact ⟨(E1), P, rfl, hes, hE4, List.Perm.refl _⟩
      rintro ⟨left, cur, es'⟩ ⟨E, Q, hleft, hes', hE, hQ⟩
      dsimp only at hleft hes'
      have hQl : Q.length ≤ 100000 := by have := hQ.length_eq; rw [List.length_append, List.length_append, froL_len, froL_len] at this; omega
      have hfit : ∀ x, fits 8 es' [x] = true := fun x => F.fits _ _ _ (by rw [hes', numP_len]; simp only [List.length_singleton]; omega)
      refine sem_of (X := ⟨_, TT, ⟨0, 29, inPl⟩⟩) har' hTT mixed ?_
      intro S2 Cl2 hS2 hC2
      cbv
      refine hS2 _ _ _ (sem_next 14 rfl rfl rfl rfl rfl rfl (by rfl) (by rfl) (by rfl) (by rfl) ?_ ?_)
      · intro hl
        have hE0 : E = [] := by rw [hl] at hleft; exact List.map_eq_nil_iff.1 hleft.symm
        subst hE0
        have hfin := hnx Q (by rw [show froL [] = [] from rfl, List.append_nil] at hQ; exact hQ)
        cbv
        exact ⟨(0 + 1, ai .add i 1, es'), (fun t => t), ⟨by omega, hadd, Q, hes', hfin⟩, by dsimp only; omega, ⟨by cbv, by cbv; try (repeat (first | exact rfl | exact trivial | refine ⟨?_, ?_⟩))⟩⟩
      · intro j e he
        obtain ⟨hj, hej⟩ : ∃ h : j < E.length, rowP E[j] = e := by
          rw [hleft, List.getElem?_map] at he
          obtain ⟨a, ha, rfl⟩ := Option.map_eq_some_iff.1 he
          obtain ⟨h, rfl⟩ := List.getElem?_eq_some_iff.1 ha
          exact ⟨h, rfl⟩
        have hl1 : (left.eraseIdx j).length < left.length := by
          rw [List.length_eraseIdx, hleft, List.length_map, if_pos hj]; omega
        have hl2 : left.eraseIdx j = (E.eraseIdx j).map rowP := by rw [hleft]; exact eraseIdx_rows E j
        have hE' : ∀ x ∈ E.eraseIdx j, x.length = 4 := fun x hx => hE x (List.mem_of_mem_eraseIdx hx)
        obtain ⟨a0, a1, a2, a3, ha⟩ := list4 (hE _ (List.getElem_mem hj))
        have hQ' : (Q ++ [a1] ++ froL (E.eraseIdx j)).Perm (P ++ froL (E1)) := by
          refine List.Perm.trans ?_ hQ
          rw [List.append_assoc]
          refine List.Perm.append_left _ ?_
          have := (erase_perm E j hj).map (fun e => e.getD 1 0)
          rw [ha] at this
          exact this
        rw [ha] at hej
        subst hej
        have hyes : es' ++ [[PV.int .i64 a1]] = numP (Q ++ [a1]) := by rw [hes']; exact (numP_snoc _ _).symm
        generalize left.eraseIdx j = left' at *
        cbv
        rw [hfit]; cbv
        exact ⟨(left', [[.int .i64 a0, .int .i64 a1, .int .i64 a2, .int .i64 a3]], es' ++ [[PV.int .i64 a1]]), (fun t => bif Nat.beq t 1000 then 23 else t), ⟨E.eraseIdx j, Q ++ [a1], hl2, hyes, hE', hQ'⟩, by dsimp only; omega, ⟨by cbv, by cbv; try (repeat (first | exact rfl | exact trivial | refine ⟨?_, ?_⟩))⟩⟩
    · have hg : ix eM i = some [mapV E2] := by rw [F.ix _ i 1 hi, ← hM]; rfl
      have hE4 : ∀ e ∈ E2, e.length = 4 := h2
      have hPl : P.length + E2.length ≤ 100000 := by have := hP.length_eq; rw [frK1, froL_len] at this; omega
      have hnx : ∀ Q : List Int, Q.Perm (P ++ froL E2) → Q.Perm (froL (E1) ++ froL E2) := fun Q h => h.trans (by rw [frK1] at hP; exact hP.append_right _)
      clear hP
      rw [hb]; cbv
      repeat (rw [hg]; cbv)
      refine hS1 _ _ _ (sem_loopR (fun y : List (List PV) × List (List PV) × List (List PV) => [sR 3 1000, sL 7 1 eM, sI 8 (ln eM), sI 9 i, (kT 14, .t (.c (.ptr 14 0))), (kB 14, .obj (.iter true false [.int .i64 0, .int .i64 0, .int .i64 0] y.1 y.2.1)), rW 1000 3 1 y.2.2]) (fun y => ∃ (E : List (List Int)) (Q : List Int), y.1 = E.map rowP ∧ y.2.2 = numP Q ∧ (∀ e ∈ E, e.length = 4) ∧ (Q ++ froL E).Perm (P ++ froL E2)) (fun y => y.1.length) ((E2.map rowP), [], es) (fun t => t) ⟨by cbv, by cbv; try (repeat (first | exact rfl | exact trivial | refine ⟨?_, ?_⟩))⟩ ?_ ?_)
      · exact ⟨E2, P, rfl, hes, hE4, List.Perm.refl _⟩
      rintro ⟨left, cur, es'⟩ ⟨E, Q, hleft, hes', hE, hQ⟩
      dsimp only at hleft hes'
      have hQl : Q.length ≤ 100000 := by have := hQ.length_eq; rw [List.length_append, List.length_append, froL_len, froL_len] at this; omega
      have hfit : ∀ x, fits 8 es' [x] = true := fun x => F.fits _ _ _ (by rw [hes', numP_len]; simp only [List.length_singleton]; omega)
      refine sem_of (X := ⟨_, TT, ⟨0, 29, inPl⟩⟩) har' hTT mixed ?_
      intro S2 Cl2 hS2 hC2
      cbv
      refine hS2 _ _ _ (sem_next 14 rfl rfl rfl rfl rfl rfl (by rfl) (by rfl) (by rfl) (by rfl) ?_ ?_)
      · intro hl
        have hE0 : E = [] := by rw [hl] at hleft; exact List.map_eq_nil_iff.1 hleft.symm
        subst hE0
        have hfin := hnx Q (by rw [show froL [] = [] from rfl, List.append_nil] at hQ; exact hQ)
        cbv
        exact ⟨(1 + 1, ai .add i 1, es'), (fun t => t), ⟨by omega, hadd, Q, hes', hfin⟩, by dsimp only; omega, ⟨by cbv, by cbv; try (repeat (first | exact rfl | exact trivial | refine ⟨?_, ?_⟩))⟩⟩
      · intro j e he
        obtain ⟨hj, hej⟩ : ∃ h : j < E.length, rowP E[j] = e := by
          rw [hleft, List.getElem?_map] at he
          obtain ⟨a, ha, rfl⟩ := Option.map_eq_some_iff.1 he
          obtain ⟨h, rfl⟩ := List.getElem?_eq_some_iff.1 ha
          exact ⟨h, rfl⟩
        have hl1 : (left.eraseIdx j).length < left.length := by
          rw [List.length_eraseIdx, hleft, List.length_map, if_pos hj]; omega
        have hl2 : left.eraseIdx j = (E.eraseIdx j).map rowP := by rw [hleft]; exact eraseIdx_rows E j
        have hE' : ∀ x ∈ E.eraseIdx j, x.length = 4 := fun x hx => hE x (List.mem_of_mem_eraseIdx hx)
        obtain ⟨a0, a1, a2, a3, ha⟩ := list4 (hE _ (List.getElem_mem hj))
        have hQ' : (Q ++ [a1] ++ froL (E.eraseIdx j)).Perm (P ++ froL E2) := by
          refine List.Perm.trans ?_ hQ
          rw [List.append_assoc]
          refine List.Perm.append_left _ ?_
          have := (erase_perm E j hj).map (fun e => e.getD 1 0)
          rw [ha] at this
          exact this
        rw [ha] at hej
        subst hej
        have hyes : es' ++ [[PV.int .i64 a1]] = numP (Q ++ [a1]) := by rw [hes']; exact (numP_snoc _ _).symm
        generalize left.eraseIdx j = left' at *
        cbv
        rw [hfit]; cbv
        exact ⟨(left', [[.int .i64 a0, .int .i64 a1, .int .i64 a2, .int .i64 a3]], es' ++ [[PV.int .i64 a1]]), (fun t => bif Nat.beq t 1000 then 23 else t), ⟨E.eraseIdx j, Q ++ [a1], hl2, hyes, hE', hQ'⟩, by dsimp only; omega, ⟨by cbv, by cbv; try (repeat (first | exact rfl | exact trivial | refine ⟨?_, ?_⟩))⟩⟩
  · have hb : ab .lss i (ln eM) = false := by have h9 : ¬ (k : Int) < 2 := by omega
                                              rw [hlen, F.lss, hi]; exact decide_eq_false h9
    obtain rfl : k = 2 := by omega
    have hP2 : P.Perm (froL (E1) ++ froL E2) := hP
    have hPl : P.length ≤ 100000 := by have := hP2.length_eq; rw [List.length_append, froL_len, froL_len] at this; omega
    have hVe : V = .list 1 (numP (Lib.compact (srtL P))) := by rw [← hV, srt_perm hP2]; rfl
    have hsl : (srtL P).length = P.length := List.length_mergeSort ..
    have hsrt := sort_does P (by omega)
    have hcmp := compact_does (srtL P) (by omega)
    subst hes
    generalize numP P = eP at *
    generalize srtL P = Z at *
    obtain ⟨eZ, hZ⟩ : ∃ es, numP Z = es := ⟨_, rfl⟩
    obtain ⟨eC, heC⟩ : ∃ es, numP (Lib.compact Z) = es := ⟨_, rfl⟩
    rw [hZ] at hsrt hcmp
    rw [heC] at hcmp hVe
    rw [hb]; cbv
    refine ⟨.own 3 1 eZ, hC _ (.own 3 1 eP :: []) (.own 3 1 eZ) (show Can Try.prog 74 _ _ from ⟨rfl, rfl, hsrt⟩), ?_⟩; cbv
    refine ⟨.list 1 eC, hC _ (.own 3 1 eZ :: []) (.list 1 eC) (show Can Try.prog 75 _ _ from hcmp), ?_⟩; cbv
    rw [hVe]
    exact PLe.refl _
def inPay : List FuncId := 63 :: inPl
theorem doesC_of_does {P : Program} {f : FuncId} {e : TypeId} {k : Nat} {es : List (List PV)} {v : PV} (h : Does P f [.list k es] v) : DoesC P f e k es [] v := ⟨h.1, fun w im imA base x xs us him himA hb hown hl hk hno hr => by
  obtain rfl : us = [] := hr
  have hpl : ∀ b, (im b ∨ x.ownBlock = some b) → Plain w b := fun b hb => by
    rcases hb with hb | hb
    · exact him b hb
    · rcases hown.2 with ⟨hv, _⟩ | ⟨g, cap, cur, hv, hbg, hgg, _⟩
      · rw [hv] at hb; cases hb
      · rw [hv] at hb
        obtain rfl : g = b := by simpa [Value.ownBlock] using hb
        exact plain_of hgg rfl
  have hrep : RepP (fun b => im b ∨ x.ownBlock = some b) w (.list k es) x := by
    simp only [RepP]
    rcases hown.2 with ⟨hv, h0⟩ | ⟨g, cap, cur, hv, hbg, hgg, hcap, hm, _, _⟩
    · exact ⟨none, 0, 0, hv, h0.symm, by simp, by simp, .inl (List.eq_nil_of_length_eq_zero h0)⟩
    · refine ⟨_, _, cap, hv, rfl, hcap, hm, .inr ⟨g, 0, rfl, .inr (by rw [hv]; rfl), ?_⟩⟩
      refine RepE.of_flat' hk (fun j v hv' => ?_) (RepL.keep (fun b hb => ⟨.inl hb, rfl⟩) _ _ hl)
      have := hown.cells (g := g) (by rw [hv]; rfl) j v hv'
      rwa [Addr.add_mid] at this
  refine (h.2 w _ [x] hpl ⟨x, [], rfl, hrep, rfl⟩).mono ?_
  rintro e' w' ⟨u, rfl, hu, hbl⟩
  refine ⟨u, rfl, RepP.keep (fun b hb => ⟨?_, rfl⟩) v u hu, ⟨hbl.os, hbl.tape, hbl.output, hbl.size, fun b hb _ => hbl.block b hb⟩⟩
  rcases hb with (hb | hb) | ⟨hb, hp⟩
  · exact .inl hb
  · refine .inr ⟨.inl hb, ?_⟩
    exact (hpl b (.inr hb)).keep hbl.size (hbl.block b (hpl b (.inr hb)).1)
  · exact .inr ⟨.inr hb, hp⟩⟩
def getI (E : List (List Int)) (key : List Int) : Int := match E.find? (fun e => e.take 3 == key) with
  | some e => e.getD 3 0
  | none => 0
theorem mGet_rows : ∀ {E : List (List Int)} (_ : ∀ e ∈ E, e.length = 4) (key : List Int), mGet 3 (E.map rowP) (rowP key) [.int .i64 0] = [.int .i64 (getI E key)] := fun {E} h key => by
  have gen : ∀ (E : List (List Int)), (∀ e ∈ E, e.length = 4) → (mFind 3 (rowP key) (E.map rowP) = none ∧ E.find? (fun e => e.take 3 == key) = none) ∨ ∃ i e, mFind 3 (rowP key) (E.map rowP) = some i ∧ E[i]? = some e ∧ E.find? (fun e => e.take 3 == key) = some e := fun E => by
    induction E with
    | nil => intro _; exact .inl ⟨rfl, rfl⟩
    | cons a E ih =>
      intro h
      have hq : eqPs (rowP key) ((rowP a).take 3) = (a.take 3 == key) := by
        rw [show (rowP a).take 3 = rowP (a.take 3) by unfold rowP; rw [List.map_take], eqPs_rows]
        exact Bool.beq_comm
      cases hk : (a.take 3 == key) with
      | true => exact .inr ⟨0, a, by simp only [List.map_cons, mFind, hq, hk, if_true], rfl, by simp only [List.find?_cons, hk]⟩
      | false =>
        rcases ih (fun e he => h e (by simp [he])) with ⟨h1, h2⟩ | ⟨i, e, h1, h2, h3⟩
        · exact .inl ⟨by simp only [List.map_cons, mFind, hq, hk, h1, Bool.false_eq_true, if_false, Option.map_none], by simp only [List.find?_cons, hk]; exact h2⟩
        · exact .inr ⟨i + 1, e, by simp only [List.map_cons, mFind, hq, hk, h1, Bool.false_eq_true, if_false, Option.map_some], by simpa using h2, by simp only [List.find?_cons, hk]; exact h3⟩
  unfold mGet getI
  rcases gen E h with ⟨h1, h2⟩ | ⟨i, e, h1, h2, h3⟩
  · rw [h1, h2]
  · rw [h1, h3]
    have hi := List.getElem?_eq_some_iff.1 h2
    obtain ⟨hi, rfl⟩ := hi
    obtain ⟨a0, a1, a2, a3, ha⟩ := list4 (h _ (List.getElem_mem hi))
    have : (E.map rowP).getD i [] = rowP E[i] := by simp [List.getD, hi]
    show ((E.map rowP).getD i []).drop 3 = [.int .i64 (E[i].getD 3 0)]
    rw [this, ha]; rfl
theorem getI_in {E : List (List Int)} {b : Int} (hb : 0 ≤ b) (h : ∀ e ∈ E, -b ≤ e.getD 3 0 ∧ e.getD 3 0 ≤ b) (key : List Int) : -b ≤ getI E key ∧ getI E key ≤ b := by
  unfold getI
  split
  · rename_i e he; exact h e (List.mem_of_find?_eq_some he)
  · omega
theorem flat_takeG {α β : Type} {f : α → List β} {P : List α} {k : Nat} (hk : k < P.length) : (P.take (k + 1)).flatMap f = (P.take k).flatMap f ++ f P[k] := by rw [take_last hk, List.flatMap_append]; simp
theorem flat_le {α β : Type} {f : α → List β} {c : Nat} : ∀ {L : List α}, (∀ x ∈ L, (f x).length ≤ c) → (L.flatMap f).length ≤ L.length * c
  | [], _ => by simp
  | x :: L, h => by
    have h1 := h x (by simp)
    have h2 := flat_le (L := L) fun y hy => h y (by simp [hy])
    simp only [List.flatMap_cons, List.length_append, List.length_cons, Nat.succ_mul]
    omega
def chP (E1 E2 : List (List Int)) (day : Int) (h : List Int) (to q : Int) : List (List Int) :=
  if (getI E2 [h.getD 0 0, q, to] - getI E1 [h.getD 0 0, q, to] != 0 && q != to) = true then [[day, h.getD 0 0, q, to, getI E2 [h.getD 0 0, q, to] - getI E1 [h.getD 0 0, q, to]]] else []
def chR (E1 E2 : List (List Int)) (day : Int) (P : List Int) (h : List Int) (to : Int) : List (List Int) := P.flatMap (chP E1 E2 day h to)
def chH (E1 E2 : List (List Int)) (day : Int) (P : List Int) (h : List Int) : List (List Int) := (rcvL h).flatMap (chR E1 E2 day P h)
def chaL (H E1 E2 : List (List Int)) (day : Int) : List (List Int) := H.flatMap (chH E1 E2 day (payL (froL E1 ++ froL E2)))
theorem chP_le (E1 E2 : List (List Int)) (day : Int) (h : List Int) (to q : Int) : (chP E1 E2 day h to q).length ≤ 1 := by unfold chP; split <;> simp
theorem chR_le (E1 E2 : List (List Int)) (day : Int) (P : List Int) (h : List Int) (to : Int) : (chR E1 E2 day P h to).length ≤ P.length := by
  have := flat_le (L := P) fun x _ => chP_le E1 E2 day h to x
  unfold chR; omega
theorem rcv_len (h : List Int) : (rcvL h).length ≤ 3 := by unfold rcvL; split <;> simp
theorem chH_le (E1 E2 : List (List Int)) (day : Int) (P : List Int) (h : List Int) : (chH E1 E2 day P h).length ≤ 3 * P.length := by
  have h1 := flat_le (L := rcvL h) fun x _ => chR_le E1 E2 day P h x
  have h2 := Nat.mul_le_mul_right P.length (rcv_len h)
  unfold chH; omega
theorem payL_len (P : List Int) : (payL P).length ≤ P.length := by
  have := compact_le (srtL P)
  have h2 : (srtL P).length = P.length := List.length_mergeSort ..
  unfold payL; omega
theorem changes0_does {T H N : List (List Int)} (h2 : ∀ x ∈ H, x.length = 9) (hb5 : ∀ x ∈ H, 0 ≤ x.getD 5 0 ∧ x.getD 5 0 ≤ 99) (h60 : H.length ≤ 60) {E2 : List (List Int)} (h42 : ∀ e ∈ E2, e.length = 4)
    (hb2 : ∀ e ∈ E2, -1000000000000 ≤ e.getD 3 0 ∧ e.getD 3 0 ≤ 1000000000000) (hsz : (([] : List (List Int))).length + E2.length ≤ 1000) (day : Int) :
    Does Try.prog 29 [accP T H N, .int .i64 day, .nilm, mapV E2] (.list 5 ((chaL H (([] : List (List Int))) E2 day).map rowP)) := by
  have hpay := payers0_does h42 (by omega)
  have hPl : (payL (froL (([] : List (List Int))) ++ froL E2)).length ≤ 1000 := by
    have := payL_len (froL (([] : List (List Int))) ++ froL E2)
    rw [List.length_append, froL_len, froL_len] at this
    omega
  unfold chaL
  obtain ⟨P, hP⟩ : ∃ P, payL (froL (([] : List (List Int))) ++ froL E2) = P := ⟨_, rfl⟩
  rw [hP] at hpay hPl ⊢
  have hm1 : ∀ x q t : Int, mGet 3 [] [.int .i64 x, .int .i64 q, .int .i64 t] [.int .i64 0] = [.int .i64 (getI (([] : List (List Int))) [x, q, t])] := fun x q t => rfl
  have hm2 : ∀ x q t : Int, mGet 3 (E2.map rowP) [.int .i64 x, .int .i64 q, .int .i64 t] [.int .i64 0] = [.int .i64 (getI E2 [x, q, t])] := fun x q t => mGet_rows h42 [x, q, t]
  have hi1 : ∀ key, -1000000000000 ≤ getI (([] : List (List Int))) key ∧ getI (([] : List (List Int))) key ≤ 1000000000000 := fun key => getI_in (by omega) (by simp) key
  have hi2 : ∀ key, -1000000000000 ≤ getI E2 key ∧ getI E2 key ≤ 1000000000000 := fun key => getI_in (by omega) hb2 key
  obtain ⟨V, hV⟩ : ∃ V, PV.list 5 ((H.flatMap (chH (([] : List (List Int))) E2 day P)).map rowP) = V := ⟨_, rfl⟩
  rw [hV]
  have hHle : ∀ k, ((H.take k).flatMap (chH (([] : List (List Int))) E2 day P)).length ≤ 180000 := fun k => by
    have h1 := flat_le (L := H.take k) (c := 3000) fun x _ => show (chH (([] : List (List Int))) E2 day P x).length ≤ 3000 from by have := chH_le (([] : List (List Int))) E2 day P x; omega
    have h2 : (H.take k).length ≤ 60 := by rw [List.length_take]; omega
    have h3 := Nat.mul_le_mul_right 3000 h2
    omega
  have hrcv : ∀ x ∈ H, Does Try.prog 62 [.agg (rowP x)] (.list 1 (numP (rcvL x))) := fun x hx => receivers_does (h2 x hx) (hb5 x hx)
  obtain ⟨eT, hT1⟩ : ∃ es, T.map rowP = es := ⟨_, rfl⟩
  obtain ⟨eH, hH1⟩ : ∃ es, H.map rowP = es := ⟨_, rfl⟩
  obtain ⟨eN, hN1⟩ : ∃ es, N.map rowP = es := ⟨_, rfl⟩
  obtain ⟨e2, he2⟩ : ∃ es, E2.map rowP = es := ⟨_, rfl⟩
  obtain ⟨eP, heP⟩ : ∃ es, numP P = es := ⟨_, rfl⟩
  simp only [mapV, accP, hT1, hH1, hN1, he2, heP] at hpay hm1 hm2 ⊢
  refine does_of (own := inPay) Try.func29 rfl Try.ntmps29 (congrArg Array.toList Try.results29) (fun us w => Try.call29 us w) hTT mixed (Nat.le_of_ble_eq_true rfl) ?_
  intro w0 im0 D0 S Cl hS hC ar har
  have har' := har
  obtain ⟨ai, ab, nz, inr, fi, pk, ix, ln, sb, eqi, sl, fits, mn, mx, nt, be, up, fu, mg, mh, ms⟩ := ar
  have F := facts_of har
  clear har
  have hlH : ln eH = H.length := by rw [F.ln, ← hH1]; simp
  have hlP : ln eP = P.length := by rw [F.ln, ← heP]; simp [numP]
  cbv
  refine ⟨.list 1 eP, hC _ (.own 87 1 _ :: []) (.list 1 eP) (show Can Try.prog 63 (.own 87 1 _ :: []) (.list 1 eP) from doesC_of_does hpay), ?_⟩; cbv
  refine hS _ _ _ (sem_mkRow 9 1000 65 5 (by rfl) (by rfl) (sem_loopR (fun x : Nat × Int × List (List PV) => [sI 1 day, (kT 2, .t (.c (.p (.nilm)))), (kT 3, .t (.c (.p (.map true false [.int .i64 0, .int .i64 0, .int .i64 0] e2)))), sP 4 4, sR 9 1000, sL 10 1 eP, sL 24 9 eH, sI 25 (ln eH), sI 26 x.2.1, bX 4 32 [cL 24 eT, cL 9 eH, cL 7 eN], rW 1000 65 5 x.2.2]) (fun x => x.1 ≤ H.length ∧ x.2.1 = (x.1 : Int) ∧ x.2.2 = ((H.take x.1).flatMap (chH (([] : List (List Int))) E2 day P)).map rowP) (fun x => H.length - x.1) (0, 0, []) (fun t => t) ⟨by rfl, by cbv; try (repeat (first | exact rfl | exact trivial | refine ⟨?_, ?_⟩))⟩ ?_ ?_))
  · exact ⟨by simp, rfl, rfl⟩
  rintro ⟨k, i, es⟩ ⟨hk, hi, hes⟩
  dsimp only at hk hi hes
  have hadd : ai .add i 1 = ((k + 1 : Nat) : Int) := by rw [F.add i 1 (by omega) (by omega), hi]; simp
  refine sem_of (X := ⟨_, TT, ⟨0, 76, inPay⟩⟩) har' hTT mixed ?_
  intro S1 Cl1 hS1 hC1
  cbv
  by_cases hlt : k < H.length
  · have hb : ab .lss i (ln eH) = true := by rw [hlH, F.lss, hi]; simpa using hlt
    have hg : ix eH i = some (rowP H[k]) := by rw [F.ix _ i k hi, ← hH1]; exact get_rows hlt
    have hrc := hrcv _ (List.getElem_mem hlt)
    have hAl := hHle k
    have hnext : (H.take (k + 1)).flatMap (chH (([] : List (List Int))) E2 day P) = (H.take k).flatMap (chH (([] : List (List Int))) E2 day P) ++ chH (([] : List (List Int))) E2 day P H[k] := by rw [take_last hlt, List.flatMap_append]; simp
    generalize (H.take k).flatMap (chH (([] : List (List Int))) E2 day P) = A at *
    have hx9 := h2 _ (List.getElem_mem hlt)
    generalize H[k] = x at *
    have hRl := rcv_len x
    have hcH : chH (([] : List (List Int))) E2 day P x = (rcvL x).flatMap (chR (([] : List (List Int))) E2 day P x) := rfl
    rw [hcH] at hnext
    clear hcH
    generalize rcvL x = rc at *
    obtain ⟨x0, x1, x2, x3, x4, x5, x6, x7, x8, rfl⟩ := list9 hx9
    obtain ⟨eR, hER⟩ : ∃ es, numP rc = es := ⟨_, rfl⟩
    have hlR : ln eR = rc.length := by rw [F.ln, ← hER]; simp [numP]
    rw [hER] at hrc
    rw [hb]; cbv
    repeat (rw [hg]; cbv)
    refine ⟨_, hC1 _ _ _ hrc, ?_⟩; cbv
    refine hS1 _ _ _ (sem_loopR (fun y : Nat × Int × List (List PV) => [sI 1 day, (kT 2, .t (.c (.p (.nilm)))), (kT 3, .t (.c (.p (.map true false [.int .i64 0, .int .i64 0, .int .i64 0] e2)))), sP 4 4, sR 9 1000, sL 10 1 eP, sP 12 12, sL 24 9 eH, sI 25 (ln eH), sI 26 i, sL 31 1 eR, sI 32 (ln eR), sI 33 y.2.1, bX 4 32 [cL 24 eT, cL 9 eH, cL 7 eN], bX 12 35 [cI x0, cI x1, cI x2, cI x3, cI x4, cI x5, cI x6, cI x7, cI x8], rW 1000 65 5 y.2.2]) (fun y => y.1 ≤ rc.length ∧ y.2.1 = (y.1 : Int) ∧ y.2.2 = (A ++ (rc.take y.1).flatMap (chR (([] : List (List Int))) E2 day P [x0, x1, x2, x3, x4, x5, x6, x7, x8])).map rowP) (fun y => rc.length - y.1) (0, 0, es) (fun t => t) ⟨by cbv, by cbv; try (repeat (first | exact rfl | exact trivial | refine ⟨?_, ?_⟩))⟩ ?_ ?_)
    · exact ⟨by simp, rfl, by rw [hes]; simp⟩
    rintro ⟨m, r, es1⟩ ⟨hm, hr, hes1⟩
    dsimp only at hm hr hes1
    have hradd : ai .add r 1 = ((m + 1 : Nat) : Int) := by rw [F.add r 1 (by omega) (by omega), hr]; simp
    refine sem_of (X := ⟨_, TT, ⟨0, 76, inPay⟩⟩) har' hTT mixed ?_
    intro S2 Cl2 hS2 hC2
    cbv
    by_cases hlt1 : m < rc.length
    · have hb1 : ab .lss r (ln eR) = true := by rw [hlR, F.lss, hr]; simpa using hlt1
      have hg1 : ix eR r = some [.int .i64 rc[m]] := by rw [F.ix _ r m hr, ← hER]; exact get_nums hlt1
      have hnext1 : (rc.take (m + 1)).flatMap (chR (([] : List (List Int))) E2 day P [x0, x1, x2, x3, x4, x5, x6, x7, x8]) = (rc.take m).flatMap (chR (([] : List (List Int))) E2 day P [x0, x1, x2, x3, x4, x5, x6, x7, x8]) ++ chR (([] : List (List Int))) E2 day P [x0, x1, x2, x3, x4, x5, x6, x7, x8] rc[m] := flat_takeG hlt1
      have hBl : ((rc.take m).flatMap (chR (([] : List (List Int))) E2 day P [x0, x1, x2, x3, x4, x5, x6, x7, x8])).length ≤ 3000 := by
        have h1 := flat_le (L := rc.take m) (c := 1000) fun z _ => show (chR (([] : List (List Int))) E2 day P [x0, x1, x2, x3, x4, x5, x6, x7, x8] z).length ≤ 1000 from by have := chR_le (([] : List (List Int))) E2 day P [x0, x1, x2, x3, x4, x5, x6, x7, x8] z; omega
        have h3 := Nat.mul_le_mul_right 1000 (show (rc.take m).length ≤ 3 by rw [List.length_take]; omega)
        omega
      generalize (rc.take m).flatMap (chR (([] : List (List Int))) E2 day P [x0, x1, x2, x3, x4, x5, x6, x7, x8]) = B at *
      generalize rc[m] = to at *
      have hcR : chR (([] : List (List Int))) E2 day P [x0, x1, x2, x3, x4, x5, x6, x7, x8] to = P.flatMap (chP (([] : List (List Int))) E2 day [x0, x1, x2, x3, x4, x5, x6, x7, x8] to) := rfl
      rw [hcR] at hnext1
      clear hcR
      rw [hb1]; cbv
      repeat (rw [hg1]; cbv)
      refine hS2 _ _ _ (sem_loopR (fun z : Nat × Int × List (List PV) => [sI 1 day, (kT 2, .t (.c (.p (.nilm)))), (kT 3, .t (.c (.p (.map true false [.int .i64 0, .int .i64 0, .int .i64 0] e2)))), sP 4 4, sR 9 1000, sL 10 1 eP, sP 12 12, sI 14 to, sL 24 9 eH, sI 25 (ln eH), sI 26 i, sL 31 1 eR, sI 32 (ln eR), sI 33 r, sL 37 1 eP, sI 38 (ln eP), sI 39 z.2.1, bX 4 32 [cL 24 eT, cL 9 eH, cL 7 eN], bX 12 35 [cI x0, cI x1, cI x2, cI x3, cI x4, cI x5, cI x6, cI x7, cI x8], rW 1000 65 5 z.2.2]) (fun z => z.1 ≤ P.length ∧ z.2.1 = (z.1 : Int) ∧ z.2.2 = (A ++ B ++ (P.take z.1).flatMap (chP (([] : List (List Int))) E2 day [x0, x1, x2, x3, x4, x5, x6, x7, x8] to)).map rowP) (fun z => P.length - z.1) (0, 0, es1) (fun t => t) ⟨by cbv, by cbv; try (repeat (first | exact rfl | exact trivial | refine ⟨?_, ?_⟩))⟩ ?_ ?_)
      · exact ⟨by simp, rfl, by rw [hes1]; simp⟩
      rintro ⟨l, s, es3⟩ ⟨hl, hs, hes3⟩
      dsimp only at hl hs hes3
      have hsadd : ai .add s 1 = ((l + 1 : Nat) : Int) := by rw [F.add s 1 (by omega) (by omega), hs]; simp
      refine sem_of (X := ⟨_, TT, ⟨0, 76, inPay⟩⟩) har' hTT mixed ?_
      intro S3 Cl3 hS3 hC3
      cbv
      by_cases hlt2 : l < P.length
      · have hb2' : ab .lss s (ln eP) = true := by rw [hlP, F.lss, hs]; simpa using hlt2
        have hg2 : ix eP s = some [.int .i64 P[l]] := by rw [F.ix _ s l hs, ← heP]; exact get_nums hlt2
        have hnext2 : (P.take (l + 1)).flatMap (chP (([] : List (List Int))) E2 day [x0, x1, x2, x3, x4, x5, x6, x7, x8] to) = (P.take l).flatMap (chP (([] : List (List Int))) E2 day [x0, x1, x2, x3, x4, x5, x6, x7, x8] to) ++ chP (([] : List (List Int))) E2 day [x0, x1, x2, x3, x4, x5, x6, x7, x8] to P[l] := flat_takeG hlt2
        have hCl : ((P.take l).flatMap (chP (([] : List (List Int))) E2 day [x0, x1, x2, x3, x4, x5, x6, x7, x8] to)).length ≤ 1000 := by
          have h1 := flat_le (L := P.take l) (c := 1) fun z _ => chP_le (([] : List (List Int))) E2 day [x0, x1, x2, x3, x4, x5, x6, x7, x8] to z
          have h3 : (P.take l).length ≤ 1000 := by rw [List.length_take]; omega
          omega
        generalize (P.take l).flatMap (chP (([] : List (List Int))) E2 day [x0, x1, x2, x3, x4, x5, x6, x7, x8] to) = C at *
        generalize P[l] = q at *
        have hfit : ∀ y, fits 40 es3 [y] = true := fun y => F.fits _ _ _ (by
          rw [hes3, List.length_map, List.length_append, List.length_append]; simp only [List.length_singleton]; omega)
        have q1 : mg 3 [] [.int .i64 x0, .int .i64 q, .int .i64 to] [.int .i64 0] = [.int .i64 (getI (([] : List (List Int))) [x0, q, to])] := by rw [F.mg]; exact hm1 x0 q to
        have q2 : mg 3 e2 [.int .i64 x0, .int .i64 q, .int .i64 to] [.int .i64 0] = [.int .i64 (getI E2 [x0, q, to])] := by rw [F.mg]; exact hm2 x0 q to
        have hj1 := hi1 [x0, q, to]
        have hj2 := hi2 [x0, q, to]
        have hcP : chP (([] : List (List Int))) E2 day [x0, x1, x2, x3, x4, x5, x6, x7, x8] to q = if (getI E2 [x0, q, to] - getI (([] : List (List Int))) [x0, q, to] != 0 && q != to) = true then [[day, x0, q, to, getI E2 [x0, q, to] - getI (([] : List (List Int))) [x0, q, to]]] else [] := rfl
        rw [hcP] at hnext2
        clear hcP
        generalize getI (([] : List (List Int))) [x0, q, to] = a1 at *
        generalize getI E2 [x0, q, to] = a2 at *
        have hsub : ai .sub a2 a1 = a2 - a1 := F.sub a2 a1 (by omega) (by omega)
        have hno : (ab .neq (ai .sub a2 a1) 0 && ab .neq q to) = false → es3 = (A ++ B ++ (P.take (l + 1)).flatMap (chP (([] : List (List Int))) E2 day [x0, x1, x2, x3, x4, x5, x6, x7, x8] to)).map rowP := fun h => by
          rw [F.neq, F.neq, hsub] at h
          rw [hnext2, if_neg (by simpa using h), List.append_nil]; exact hes3
        have hyes : (ab .neq (ai .sub a2 a1) 0 && ab .neq q to) = true → es3 ++ [[PV.int .i64 day, .int .i64 x0, .int .i64 q, .int .i64 to, .int .i64 (ai .sub a2 a1)]] = (A ++ B ++ (P.take (l + 1)).flatMap (chP (([] : List (List Int))) E2 day [x0, x1, x2, x3, x4, x5, x6, x7, x8] to)).map rowP := fun h => by
          rw [F.neq, F.neq, hsub] at h
          rw [hnext2, if_pos (by simpa using h), hes3, hsub]; simp [rowP]
        obtain ⟨df, hdf⟩ : ∃ v, ai .sub a2 a1 = v := ⟨_, rfl⟩
        rw [hdf] at hno hyes
        rw [hb2']; cbv
        repeat (rw [hg2]; cbv)
        repeat (rw [q2]; cbv)
        repeat (rw [q1]; cbv)
        rw [hdf]; cbv
        cases c1 : ab .neq df 0
        · cbv
          exact ⟨(l + 1, ai .add s 1, es3), (fun t => t), ⟨hlt2, hsadd, hno (by rw [c1]; rfl)⟩, by dsimp only; omega, ⟨by cbv, by cbv; try (repeat (first | exact rfl | exact trivial | refine ⟨?_, ?_⟩))⟩⟩
        · cbv
          cases c2 : ab .neq q to
          · cbv
            exact ⟨(l + 1, ai .add s 1, es3), (fun t => t), ⟨hlt2, hsadd, hno (by rw [c1, c2]; rfl)⟩, by dsimp only; omega, ⟨by cbv, by cbv; try (repeat (first | exact rfl | exact trivial | refine ⟨?_, ?_⟩))⟩⟩
          · cbv
            rw [hfit]; cbv
            exact ⟨(l + 1, ai .add s 1, es3 ++ [[PV.int .i64 day, .int .i64 x0, .int .i64 q, .int .i64 to, .int .i64 df]]), (fun t => bif Nat.beq t 1000 then 71 else t), ⟨hlt2, hsadd, hyes (by rw [c1, c2]; rfl)⟩, by dsimp only; omega, ⟨by cbv, by cbv; try (repeat (first | exact rfl | exact trivial | refine ⟨?_, ?_⟩))⟩⟩
      · have hb2' : ab .lss s (ln eP) = false := by rw [hlP, F.lss, hs]; simpa using hlt2
        have hlE : l = P.length := by omega
        have he3 : es3 = (A ++ (rc.take (m + 1)).flatMap (chR (([] : List (List Int))) E2 day P [x0, x1, x2, x3, x4, x5, x6, x7, x8])).map rowP := by
          rw [hes3, hlE, List.take_length, List.append_assoc]; rw [← hnext1]
        rw [hb2']; cbv
        exact ⟨(m + 1, ai .add r 1, es3), (fun t => t), ⟨hlt1, hradd, he3⟩, by dsimp only; omega, ⟨by cbv, by cbv; try (repeat (first | exact rfl | exact trivial | refine ⟨?_, ?_⟩))⟩⟩
    · have hb1 : ab .lss r (ln eR) = false := by rw [hlR, F.lss, hr]; simpa using hlt1
      have hmE : m = rc.length := by omega
      rw [hb1]; cbv
      exact ⟨(k + 1, ai .add i 1, es1), (fun t => t), ⟨hlt, hadd, by rw [hes1, hmE, List.take_length, hnext]⟩, by dsimp only; omega, ⟨by cbv, by cbv; try (repeat (first | exact rfl | exact trivial | refine ⟨?_, ?_⟩))⟩⟩
  · have hb : ab .lss i (ln eH) = false := by rw [hlH, F.lss, hi]; simpa using hlt
    have hkE : k = H.length := by omega
    rw [hb]; cbv
    rw [← hV, hes, hkE, List.take_length]
    exact PLe.refl _
theorem changes_does {T H N : List (List Int)} (h2 : ∀ x ∈ H, x.length = 9) (hb5 : ∀ x ∈ H, 0 ≤ x.getD 5 0 ∧ x.getD 5 0 ≤ 99) (h60 : H.length ≤ 60) {E1 E2 : List (List Int)} (h41 : ∀ e ∈ E1, e.length = 4) (hb1 : ∀ e ∈ E1, -1000000000000 ≤ e.getD 3 0 ∧ e.getD 3 0 ≤ 1000000000000) (h42 : ∀ e ∈ E2, e.length = 4)
    (hb2 : ∀ e ∈ E2, -1000000000000 ≤ e.getD 3 0 ∧ e.getD 3 0 ≤ 1000000000000) (hsz : (E1).length + E2.length ≤ 1000) (day : Int) :
    Does Try.prog 29 [accP T H N, .int .i64 day, mapV E1, mapV E2] (.list 5 ((chaL H (E1) E2 day).map rowP)) := by
  have hpay := payers_does h41 h42 (by omega)
  have hPl : (payL (froL (E1) ++ froL E2)).length ≤ 1000 := by
    have := payL_len (froL (E1) ++ froL E2)
    rw [List.length_append, froL_len, froL_len] at this
    omega
  unfold chaL
  obtain ⟨P, hP⟩ : ∃ P, payL (froL (E1) ++ froL E2) = P := ⟨_, rfl⟩
  rw [hP] at hpay hPl ⊢
  have hm1 : ∀ x q t : Int, mGet 3 (E1.map rowP) [.int .i64 x, .int .i64 q, .int .i64 t] [.int .i64 0] = [.int .i64 (getI (E1) [x, q, t])] := fun x q t => mGet_rows h41 [x, q, t]
  have hm2 : ∀ x q t : Int, mGet 3 (E2.map rowP) [.int .i64 x, .int .i64 q, .int .i64 t] [.int .i64 0] = [.int .i64 (getI E2 [x, q, t])] := fun x q t => mGet_rows h42 [x, q, t]
  have hi1 : ∀ key, -1000000000000 ≤ getI (E1) key ∧ getI (E1) key ≤ 1000000000000 := fun key => getI_in (by omega) hb1 key
  have hi2 : ∀ key, -1000000000000 ≤ getI E2 key ∧ getI E2 key ≤ 1000000000000 := fun key => getI_in (by omega) hb2 key
  obtain ⟨V, hV⟩ : ∃ V, PV.list 5 ((H.flatMap (chH (E1) E2 day P)).map rowP) = V := ⟨_, rfl⟩
  rw [hV]
  have hHle : ∀ k, ((H.take k).flatMap (chH (E1) E2 day P)).length ≤ 180000 := fun k => by
    have h1 := flat_le (L := H.take k) (c := 3000) fun x _ => show (chH (E1) E2 day P x).length ≤ 3000 from by have := chH_le (E1) E2 day P x; omega
    have h2 : (H.take k).length ≤ 60 := by rw [List.length_take]; omega
    have h3 := Nat.mul_le_mul_right 3000 h2
    omega
  have hrcv : ∀ x ∈ H, Does Try.prog 62 [.agg (rowP x)] (.list 1 (numP (rcvL x))) := fun x hx => receivers_does (h2 x hx) (hb5 x hx)
  obtain ⟨eT, hT1⟩ : ∃ es, T.map rowP = es := ⟨_, rfl⟩
  obtain ⟨eH, hH1⟩ : ∃ es, H.map rowP = es := ⟨_, rfl⟩
  obtain ⟨eN, hN1⟩ : ∃ es, N.map rowP = es := ⟨_, rfl⟩
  obtain ⟨e1, he1⟩ : ∃ es, E1.map rowP = es := ⟨_, rfl⟩
  obtain ⟨e2, he2⟩ : ∃ es, E2.map rowP = es := ⟨_, rfl⟩
  obtain ⟨eP, heP⟩ : ∃ es, numP P = es := ⟨_, rfl⟩
  simp only [mapV, accP, hT1, hH1, hN1, he2, heP, he1] at hpay hm1 hm2 ⊢
  refine does_of (own := inPay) Try.func29 rfl Try.ntmps29 (congrArg Array.toList Try.results29) (fun us w => Try.call29 us w) hTT mixed (Nat.le_of_ble_eq_true rfl) ?_
  intro w0 im0 D0 S Cl hS hC ar har
  have har' := har
  obtain ⟨ai, ab, nz, inr, fi, pk, ix, ln, sb, eqi, sl, fits, mn, mx, nt, be, up, fu, mg, mh, ms⟩ := ar
  have F := facts_of har
  clear har
  have hlH : ln eH = H.length := by rw [F.ln, ← hH1]; simp
  have hlP : ln eP = P.length := by rw [F.ln, ← heP]; simp [numP]
  cbv
  refine ⟨.list 1 eP, hC _ (.own 87 1 _ :: []) (.list 1 eP) (show Can Try.prog 63 (.own 87 1 _ :: []) (.list 1 eP) from doesC_of_does hpay), ?_⟩; cbv
  refine hS _ _ _ (sem_mkRow 9 1000 65 5 (by rfl) (by rfl) (sem_loopR (fun x : Nat × Int × List (List PV) => [sI 1 day, (kT 2, .t (.c (.p (.map true false [.int .i64 0, .int .i64 0, .int .i64 0] e1)))), (kT 3, .t (.c (.p (.map true false [.int .i64 0, .int .i64 0, .int .i64 0] e2)))), sP 4 4, sR 9 1000, sL 10 1 eP, sL 24 9 eH, sI 25 (ln eH), sI 26 x.2.1, bX 4 32 [cL 24 eT, cL 9 eH, cL 7 eN], rW 1000 65 5 x.2.2]) (fun x => x.1 ≤ H.length ∧ x.2.1 = (x.1 : Int) ∧ x.2.2 = ((H.take x.1).flatMap (chH (E1) E2 day P)).map rowP) (fun x => H.length - x.1) (0, 0, []) (fun t => t) ⟨by rfl, by cbv; try (repeat (first | exact rfl | exact trivial | refine ⟨?_, ?_⟩))⟩ ?_ ?_))
  · exact ⟨by simp, rfl, rfl⟩
  rintro ⟨k, i, es⟩ ⟨hk, hi, hes⟩
  dsimp only at hk hi hes
  have hadd : ai .add i 1 = ((k + 1 : Nat) : Int) := by rw [F.add i 1 (by omega) (by omega), hi]; simp
  refine sem_of (X := ⟨_, TT, ⟨0, 76, inPay⟩⟩) har' hTT mixed ?_
  intro S1 Cl1 hS1 hC1
  cbv
  by_cases hlt : k < H.length
  · have hb : ab .lss i (ln eH) = true := by rw [hlH, F.lss, hi]; simpa using hlt
    have hg : ix eH i = some (rowP H[k]) := by rw [F.ix _ i k hi, ← hH1]; exact get_rows hlt
    have hrc := hrcv _ (List.getElem_mem hlt)
    have hAl := hHle k
    have hnext : (H.take (k + 1)).flatMap (chH (E1) E2 day P) = (H.take k).flatMap (chH (E1) E2 day P) ++ chH (E1) E2 day P H[k] := by rw [take_last hlt, List.flatMap_append]; simp
    generalize (H.take k).flatMap (chH (E1) E2 day P) = A at *
    have hx9 := h2 _ (List.getElem_mem hlt)
    generalize H[k] = x at *
    have hRl := rcv_len x
    have hcH : chH (E1) E2 day P x = (rcvL x).flatMap (chR (E1) E2 day P x) := rfl
    rw [hcH] at hnext
    clear hcH
    generalize rcvL x = rc at *
    obtain ⟨x0, x1, x2, x3, x4, x5, x6, x7, x8, rfl⟩ := list9 hx9
    obtain ⟨eR, hER⟩ : ∃ es, numP rc = es := ⟨_, rfl⟩
    have hlR : ln eR = rc.length := by rw [F.ln, ← hER]; simp [numP]
    rw [hER] at hrc
    rw [hb]; cbv
    repeat (rw [hg]; cbv)
    refine ⟨_, hC1 _ _ _ hrc, ?_⟩; cbv
    refine hS1 _ _ _ (sem_loopR (fun y : Nat × Int × List (List PV) => [sI 1 day, (kT 2, .t (.c (.p (.map true false [.int .i64 0, .int .i64 0, .int .i64 0] e1)))), (kT 3, .t (.c (.p (.map true false [.int .i64 0, .int .i64 0, .int .i64 0] e2)))), sP 4 4, sR 9 1000, sL 10 1 eP, sP 12 12, sL 24 9 eH, sI 25 (ln eH), sI 26 i, sL 31 1 eR, sI 32 (ln eR), sI 33 y.2.1, bX 4 32 [cL 24 eT, cL 9 eH, cL 7 eN], bX 12 35 [cI x0, cI x1, cI x2, cI x3, cI x4, cI x5, cI x6, cI x7, cI x8], rW 1000 65 5 y.2.2]) (fun y => y.1 ≤ rc.length ∧ y.2.1 = (y.1 : Int) ∧ y.2.2 = (A ++ (rc.take y.1).flatMap (chR (E1) E2 day P [x0, x1, x2, x3, x4, x5, x6, x7, x8])).map rowP) (fun y => rc.length - y.1) (0, 0, es) (fun t => t) ⟨by cbv, by cbv; try (repeat (first | exact rfl | exact trivial | refine ⟨?_, ?_⟩))⟩ ?_ ?_)
    · exact ⟨by simp, rfl, by rw [hes]; simp⟩
    rintro ⟨m, r, es1⟩ ⟨hm, hr, hes1⟩
    dsimp only at hm hr hes1
    have hradd : ai .add r 1 = ((m + 1 : Nat) : Int) := by rw [F.add r 1 (by omega) (by omega), hr]; simp
    refine sem_of (X := ⟨_, TT, ⟨0, 76, inPay⟩⟩) har' hTT mixed ?_
    intro S2 Cl2 hS2 hC2
    cbv
    by_cases hlt1 : m < rc.length
    · have hb1 : ab .lss r (ln eR) = true := by rw [hlR, F.lss, hr]; simpa using hlt1
      have hg1 : ix eR r = some [.int .i64 rc[m]] := by rw [F.ix _ r m hr, ← hER]; exact get_nums hlt1
      have hnext1 : (rc.take (m + 1)).flatMap (chR (E1) E2 day P [x0, x1, x2, x3, x4, x5, x6, x7, x8]) = (rc.take m).flatMap (chR (E1) E2 day P [x0, x1, x2, x3, x4, x5, x6, x7, x8]) ++ chR (E1) E2 day P [x0, x1, x2, x3, x4, x5, x6, x7, x8] rc[m] := flat_takeG hlt1
      have hBl : ((rc.take m).flatMap (chR (E1) E2 day P [x0, x1, x2, x3, x4, x5, x6, x7, x8])).length ≤ 3000 := by
        have h1 := flat_le (L := rc.take m) (c := 1000) fun z _ => show (chR (E1) E2 day P [x0, x1, x2, x3, x4, x5, x6, x7, x8] z).length ≤ 1000 from by have := chR_le (E1) E2 day P [x0, x1, x2, x3, x4, x5, x6, x7, x8] z; omega
        have h3 := Nat.mul_le_mul_right 1000 (show (rc.take m).length ≤ 3 by rw [List.length_take]; omega)
        omega
      generalize (rc.take m).flatMap (chR (E1) E2 day P [x0, x1, x2, x3, x4, x5, x6, x7, x8]) = B at *
      generalize rc[m] = to at *
      have hcR : chR (E1) E2 day P [x0, x1, x2, x3, x4, x5, x6, x7, x8] to = P.flatMap (chP (E1) E2 day [x0, x1, x2, x3, x4, x5, x6, x7, x8] to) := rfl
      rw [hcR] at hnext1
      clear hcR
      rw [hb1]; cbv
      repeat (rw [hg1]; cbv)
      refine hS2 _ _ _ (sem_loopR (fun z : Nat × Int × List (List PV) => [sI 1 day, (kT 2, .t (.c (.p (.map true false [.int .i64 0, .int .i64 0, .int .i64 0] e1)))), (kT 3, .t (.c (.p (.map true false [.int .i64 0, .int .i64 0, .int .i64 0] e2)))), sP 4 4, sR 9 1000, sL 10 1 eP, sP 12 12, sI 14 to, sL 24 9 eH, sI 25 (ln eH), sI 26 i, sL 31 1 eR, sI 32 (ln eR), sI 33 r, sL 37 1 eP, sI 38 (ln eP), sI 39 z.2.1, bX 4 32 [cL 24 eT, cL 9 eH, cL 7 eN], bX 12 35 [cI x0, cI x1, cI x2, cI x3, cI x4, cI x5, cI x6, cI x7, cI x8], rW 1000 65 5 z.2.2]) (fun z => z.1 ≤ P.length ∧ z.2.1 = (z.1 : Int) ∧ z.2.2 = (A ++ B ++ (P.take z.1).flatMap (chP (E1) E2 day [x0, x1, x2, x3, x4, x5, x6, x7, x8] to)).map rowP) (fun z => P.length - z.1) (0, 0, es1) (fun t => t) ⟨by cbv, by cbv; try (repeat (first | exact rfl | exact trivial | refine ⟨?_, ?_⟩))⟩ ?_ ?_)
      · exact ⟨by simp, rfl, by rw [hes1]; simp⟩
      rintro ⟨l, s, es3⟩ ⟨hl, hs, hes3⟩
      dsimp only at hl hs hes3
      have hsadd : ai .add s 1 = ((l + 1 : Nat) : Int) := by rw [F.add s 1 (by omega) (by omega), hs]; simp
      refine sem_of (X := ⟨_, TT, ⟨0, 76, inPay⟩⟩) har' hTT mixed ?_
      intro S3 Cl3 hS3 hC3
      cbv
      by_cases hlt2 : l < P.length
      · have hb2' : ab .lss s (ln eP) = true := by rw [hlP, F.lss, hs]; simpa using hlt2
        have hg2 : ix eP s = some [.int .i64 P[l]] := by rw [F.ix _ s l hs, ← heP]; exact get_nums hlt2
        have hnext2 : (P.take (l + 1)).flatMap (chP (E1) E2 day [x0, x1, x2, x3, x4, x5, x6, x7, x8] to) = (P.take l).flatMap (chP (E1) E2 day [x0, x1, x2, x3, x4, x5, x6, x7, x8] to) ++ chP (E1) E2 day [x0, x1, x2, x3, x4, x5, x6, x7, x8] to P[l] := flat_takeG hlt2
        have hCl : ((P.take l).flatMap (chP (E1) E2 day [x0, x1, x2, x3, x4, x5, x6, x7, x8] to)).length ≤ 1000 := by
          have h1 := flat_le (L := P.take l) (c := 1) fun z _ => chP_le (E1) E2 day [x0, x1, x2, x3, x4, x5, x6, x7, x8] to z
          have h3 : (P.take l).length ≤ 1000 := by rw [List.length_take]; omega
          omega
        generalize (P.take l).flatMap (chP (E1) E2 day [x0, x1, x2, x3, x4, x5, x6, x7, x8] to) = C at *
        generalize P[l] = q at *
        have hfit : ∀ y, fits 40 es3 [y] = true := fun y => F.fits _ _ _ (by
          rw [hes3, List.length_map, List.length_append, List.length_append]; simp only [List.length_singleton]; omega)
        have q1 : mg 3 e1 [.int .i64 x0, .int .i64 q, .int .i64 to] [.int .i64 0] = [.int .i64 (getI (E1) [x0, q, to])] := by rw [F.mg]; exact hm1 x0 q to
        have q2 : mg 3 e2 [.int .i64 x0, .int .i64 q, .int .i64 to] [.int .i64 0] = [.int .i64 (getI E2 [x0, q, to])] := by rw [F.mg]; exact hm2 x0 q to
        have hj1 := hi1 [x0, q, to]
        have hj2 := hi2 [x0, q, to]
        have hcP : chP (E1) E2 day [x0, x1, x2, x3, x4, x5, x6, x7, x8] to q = if (getI E2 [x0, q, to] - getI (E1) [x0, q, to] != 0 && q != to) = true then [[day, x0, q, to, getI E2 [x0, q, to] - getI (E1) [x0, q, to]]] else [] := rfl
        rw [hcP] at hnext2
        clear hcP
        generalize getI (E1) [x0, q, to] = a1 at *
        generalize getI E2 [x0, q, to] = a2 at *
        have hsub : ai .sub a2 a1 = a2 - a1 := F.sub a2 a1 (by omega) (by omega)
        have hno : (ab .neq (ai .sub a2 a1) 0 && ab .neq q to) = false → es3 = (A ++ B ++ (P.take (l + 1)).flatMap (chP (E1) E2 day [x0, x1, x2, x3, x4, x5, x6, x7, x8] to)).map rowP := fun h => by
          rw [F.neq, F.neq, hsub] at h
          rw [hnext2, if_neg (by simpa using h), List.append_nil]; exact hes3
        have hyes : (ab .neq (ai .sub a2 a1) 0 && ab .neq q to) = true → es3 ++ [[PV.int .i64 day, .int .i64 x0, .int .i64 q, .int .i64 to, .int .i64 (ai .sub a2 a1)]] = (A ++ B ++ (P.take (l + 1)).flatMap (chP (E1) E2 day [x0, x1, x2, x3, x4, x5, x6, x7, x8] to)).map rowP := fun h => by
          rw [F.neq, F.neq, hsub] at h
          rw [hnext2, if_pos (by simpa using h), hes3, hsub]; simp [rowP]
        obtain ⟨df, hdf⟩ : ∃ v, ai .sub a2 a1 = v := ⟨_, rfl⟩
        rw [hdf] at hno hyes
        rw [hb2']; cbv
        repeat (rw [hg2]; cbv)
        repeat (rw [q2]; cbv)
        repeat (rw [q1]; cbv)
        rw [hdf]; cbv
        cases c1 : ab .neq df 0
        · cbv
          exact ⟨(l + 1, ai .add s 1, es3), (fun t => t), ⟨hlt2, hsadd, hno (by rw [c1]; rfl)⟩, by dsimp only; omega, ⟨by cbv, by cbv; try (repeat (first | exact rfl | exact trivial | refine ⟨?_, ?_⟩))⟩⟩
        · cbv
          cases c2 : ab .neq q to
          · cbv
            exact ⟨(l + 1, ai .add s 1, es3), (fun t => t), ⟨hlt2, hsadd, hno (by rw [c1, c2]; rfl)⟩, by dsimp only; omega, ⟨by cbv, by cbv; try (repeat (first | exact rfl | exact trivial | refine ⟨?_, ?_⟩))⟩⟩
          · cbv
            rw [hfit]; cbv
            exact ⟨(l + 1, ai .add s 1, es3 ++ [[PV.int .i64 day, .int .i64 x0, .int .i64 q, .int .i64 to, .int .i64 df]]), (fun t => bif Nat.beq t 1000 then 71 else t), ⟨hlt2, hsadd, hyes (by rw [c1, c2]; rfl)⟩, by dsimp only; omega, ⟨by cbv, by cbv; try (repeat (first | exact rfl | exact trivial | refine ⟨?_, ?_⟩))⟩⟩
      · have hb2' : ab .lss s (ln eP) = false := by rw [hlP, F.lss, hs]; simpa using hlt2
        have hlE : l = P.length := by omega
        have he3 : es3 = (A ++ (rc.take (m + 1)).flatMap (chR (E1) E2 day P [x0, x1, x2, x3, x4, x5, x6, x7, x8])).map rowP := by
          rw [hes3, hlE, List.take_length, List.append_assoc]; rw [← hnext1]
        rw [hb2']; cbv
        exact ⟨(m + 1, ai .add r 1, es3), (fun t => t), ⟨hlt1, hradd, he3⟩, by dsimp only; omega, ⟨by cbv, by cbv; try (repeat (first | exact rfl | exact trivial | refine ⟨?_, ?_⟩))⟩⟩
    · have hb1 : ab .lss r (ln eR) = false := by rw [hlR, F.lss, hr]; simpa using hlt1
      have hmE : m = rc.length := by omega
      rw [hb1]; cbv
      exact ⟨(k + 1, ai .add i 1, es1), (fun t => t), ⟨hlt, hadd, by rw [hes1, hmE, List.take_length, hnext]⟩, by dsimp only; omega, ⟨by cbv, by cbv; try (repeat (first | exact rfl | exact trivial | refine ⟨?_, ?_⟩))⟩⟩
  · have hb : ab .lss i (ln eH) = false := by rw [hlH, F.lss, hi]; simpa using hlt
    have hkE : k = H.length := by omega
    rw [hb]; cbv
    rw [← hV, hes, hkE, List.take_length]
    exact PLe.refl _
theorem lsOk_pair {ok : List Int → Bool} {m : Nat} {L : List (List Int)} (h : lsOk ok m L = true) : L.Pairwise (fun a b => a.getD 0 0 < b.getD 0 0) := by
  rw [List.pairwise_iff_getElem]
  intro i j hi hj hij
  have := ls_srt h i j hij hj
  rwa [show L.getD i [] = L[i] by simp [List.getD, hi], show L.getD j [] = L[j] by simp [List.getD, hj]] at this
theorem lsOk_of {ok : List Int → Bool} {m : Nat} {L : List (List Int)} (h1 : L.length ≤ m) (h2 : ∀ x ∈ L, ok x = true) (h3 : L.Pairwise (fun a b => a.getD 0 0 < b.getD 0 0)) : lsOk ok m L = true := by
  unfold lsOk lsK
  rw [Bool.and_eq_true, decide_eq_true_eq, List.all_eq_true]
  refine ⟨h1, fun k hk => ?_⟩
  have hk := List.mem_range.1 hk
  rw [lsAt_eq hk, Bool.and_eq_true, Bool.or_eq_true]
  refine ⟨h2 _ (List.getElem_mem hk), ?_⟩
  cases k with
  | zero => exact .inl rfl
  | succ k =>
    refine .inr (decide_eq_true ?_)
    rw [List.pairwise_iff_getElem] at h3
    have := h3 k (k + 1) (by omega) hk (by omega)
    rwa [show L.getD (k + 1 - 1) [] = L[k]'(by omega) by simp [List.getD, show k < L.length by omega]]
theorem tarM_ok (n : List Int) {f : Int} (h0 : 0 ≤ f) (h1 : f ≤ 100000) : tarOk (tarM n f) = true := by
  have a1 : 0 ≤ wrp (n.getD 3 0 + 1) % 40 ∧ wrp (n.getD 3 0 + 1) % 40 < 40 := by omega
  have a2 : 0 ≤ wrp (n.getD 3 0 + 2) % 40 ∧ wrp (n.getD 3 0 + 2) % 40 < 40 := by omega
  have a3 : 0 ≤ wrp (n.getD 3 0 + 3) % 40 ∧ wrp (n.getD 3 0 + 3) % 40 < 40 := by omega
  have b1 : 0 ≤ wrp (n.getD 4 0 * 1) % 9 ∧ wrp (n.getD 4 0 * 1) % 9 < 9 := by omega
  have b2 : 0 ≤ wrp (n.getD 4 0 * 2) % 9 ∧ wrp (n.getD 4 0 * 2) % 9 < 9 := by omega
  have b3 : 0 ≤ wrp (n.getD 4 0 * 3) % 9 ∧ wrp (n.getD 4 0 * 3) % 9 < 9 := by omega
  have c0 : 0 ≤ n.getD 0 0 % 12 ∧ n.getD 0 0 % 12 < 12 := by omega
  have c1 : 0 ≤ n.getD 1 0 % 31 ∧ n.getD 1 0 % 31 < 31 := by omega
  have c2 : 0 ≤ n.getD 2 0 % 30 ∧ n.getD 2 0 % 30 < 30 := by omega
  unfold tarM
  generalize wrp (n.getD 3 0 + 1) % 40 = x1 at *
  generalize wrp (n.getD 3 0 + 2) % 40 = x2 at *
  generalize wrp (n.getD 3 0 + 3) % 40 = x3 at *
  generalize wrp (n.getD 4 0 * 1) % 9 = y1 at *
  generalize wrp (n.getD 4 0 * 2) % 9 = y2 at *
  generalize wrp (n.getD 4 0 * 3) % 9 = y3 at *
  generalize n.getD 0 0 % 12 = z0 at *
  generalize n.getD 1 0 % 31 = z1 at *
  generalize n.getD 2 0 % 30 = z2 at *
  unfold tarOk rateOk headT dailT
  simp only [List.drop_succ_cons, List.drop_zero, List.take_succ_cons, List.take_zero, List.all_cons, List.all_nil, List.getD_cons_zero, List.getD_cons_succ, Bool.and_eq_true, inB_iff, decide_eq_true_eq, beq_iff_eq, and_true]
  omega
theorem tarM_first (n : List Int) (f : Int) : (tarM n f).getD 0 0 = f := rfl
theorem tarsM_ok : ∀ (R : List (List Int)) (f : Int), 0 ≤ f → f + 100 * (R.length : Int) ≤ 100000 →
    (∀ x ∈ tarsM f R, tarOk x = true ∧ x.length = 24 ∧ f ≤ x.getD 0 0) ∧ (tarsM f R).Pairwise (fun a b => a.getD 0 0 < b.getD 0 0)
  | [], f, _, _ => ⟨fun x hx => absurd hx (by simp [tarsM]), by simp [tarsM]⟩
  | n :: R, f, h0, h1 => by
    rw [List.length_cons] at h1
    obtain ⟨i1, i2⟩ := tarsM_ok R (f + 1 + n.getD 5 0 % 60) (by omega) (by omega)
    unfold tarsM
    refine ⟨fun x hx => ?_, List.pairwise_cons.2 ⟨fun x hx => ?_, i2⟩⟩
    · rcases List.mem_cons.1 hx with rfl | hx
      · exact ⟨tarM_ok n h0 (by omega), rfl, Int.le_refl _⟩
      · obtain ⟨a, b, c⟩ := i1 x hx
        exact ⟨a, b, by omega⟩
    · obtain ⟨_, _, c⟩ := i1 x hx
      rw [tarM_first]; omega
theorem heldM_ok (n : List Int) {i : Int} (h0 : 0 ≤ i) (h1 : i ≤ 1000) : heldOk (heldM i n) = true := by
  have c0 : 0 ≤ n.getD 0 0 % 5 ∧ n.getD 0 0 % 5 < 5 := by omega
  have c1 : 0 ≤ n.getD 0 0 % 3 ∧ n.getD 0 0 % 3 < 3 := by omega
  have c2 : 0 ≤ n.getD 1 0 % 40 ∧ n.getD 1 0 % 40 < 40 := by omega
  have c3 : 0 ≤ n.getD 2 0 % 900 ∧ n.getD 2 0 % 900 < 900 := by omega
  have c4 : 0 ≤ n.getD 3 0 % 6 ∧ n.getD 3 0 % 6 < 6 := by omega
  have c5 : 0 ≤ n.getD 4 0 % 40 ∧ n.getD 4 0 % 40 < 40 := by omega
  have c6 : 0 ≤ n.getD 5 0 % 60 ∧ n.getD 5 0 % 60 < 60 := by omega
  have c7 : 0 ≤ n.getD 6 0 % 300 ∧ n.getD 6 0 % 300 < 300 := by omega
  unfold heldM
  generalize n.getD 0 0 % 5 = x1 at *
  generalize n.getD 0 0 % 3 = x2 at *
  generalize n.getD 1 0 % 40 = x3 at *
  generalize n.getD 2 0 % 900 = x4 at *
  generalize n.getD 3 0 % 6 = x5 at *
  generalize n.getD 4 0 % 40 = x6 at *
  generalize n.getD 5 0 % 60 = x7 at *
  generalize n.getD 6 0 % 300 = x8 at *
  unfold heldOk timB
  simp only [List.getD_cons_zero, List.getD_cons_succ, Bool.and_eq_true, Bool.or_eq_true, inB_iff, beq_iff_eq]
  split <;> omega
theorem noteM_ok (n : List Int) {i : Int} (h0 : 0 ≤ i) (h1 : i ≤ 1000) : noteOk (noteM i n) = true := by
  have c0 : 0 ≤ n.getD 0 0 % 4 ∧ n.getD 0 0 % 4 < 4 := by omega
  have c1 : 0 ≤ n.getD 1 0 % 3 ∧ n.getD 1 0 % 3 < 3 := by omega
  have c2 : 0 ≤ n.getD 4 0 % 5 ∧ n.getD 4 0 % 5 < 5 := by omega
  have c3 : 0 ≤ n.getD 2 0 % 450 ∧ n.getD 2 0 % 450 < 450 := by omega
  have c4 : 0 ≤ n.getD 3 0 % 500 ∧ n.getD 3 0 % 500 < 500 := by omega
  have c7 : 0 ≤ n.getD 5 0 % 200 ∧ n.getD 5 0 % 200 < 200 := by omega
  unfold noteM
  generalize n.getD 0 0 % 4 = x1 at *
  generalize n.getD 1 0 % 3 = x2 at *
  generalize n.getD 4 0 % 5 = x3 at *
  generalize n.getD 2 0 % 450 = x4 at *
  generalize n.getD 3 0 % 500 = x5 at *
  generalize n.getD 5 0 % 200 = x6 at *
  unfold noteOk timB sayB
  simp only [List.getD_cons_zero, List.getD_cons_succ, Bool.and_eq_true, Bool.or_eq_true, inB_iff, beq_iff_eq]
  refine ⟨by omega, by omega, ?_, by omega, by omega, ?_⟩
  · by_cases h2 : 1 + x2 = 2
    · rw [if_neg (by omega), if_pos h2]; simp [h2]
    · rw [if_pos (by omega), if_neg h2, inB_iff]; omega
  · split <;> omega
theorem numbM_ok (ok : List Int → Bool) (g : Int → List Int → List Int) (b : Int) (hok : ∀ i n, 0 ≤ i → i ≤ 1000 → ok (g i n) = true) (hb : ∀ i n, (g i n).getD 0 0 = b + i) : ∀ (R : List (List Int)) (i : Int), 0 ≤ i → i + (R.length : Int) ≤ 1000 →
    (∀ x ∈ numbM g i R, ok x = true ∧ b + i ≤ x.getD 0 0 ∧ x.getD 0 0 < b + i + R.length ∧ ∃ j n, x = g j n) ∧ (numbM g i R).Pairwise (fun a b => a.getD 0 0 < b.getD 0 0)
  | [], f, _, _ => ⟨fun x hx => absurd hx (by simp [numbM]), by simp [numbM]⟩
  | n :: R, i, h0, h1 => by
    rw [List.length_cons] at h1
    obtain ⟨i1, i2⟩ := numbM_ok ok g b hok hb R (i + 1) (by omega) (by omega)
    unfold numbM
    refine ⟨fun x hx => ?_, List.pairwise_cons.2 ⟨fun x hx => ?_, i2⟩⟩
    · rcases List.mem_cons.1 hx with rfl | hx
      · exact ⟨hok _ _ h0 (by omega), by rw [hb]; omega, by rw [hb, List.length_cons]; omega, _, _, rfl⟩
      · obtain ⟨a, c, d, e⟩ := i1 x hx
        exact ⟨a, by omega, by rw [List.length_cons]; omega, e⟩
    · obtain ⟨_, c, _⟩ := i1 x hx
      rw [hb]; omega
structure MadeOk (T H N : List (List Int)) : Prop where
  t : ∀ x ∈ T, x.length = 24
  h : ∀ x ∈ H, x.length = 9
  n : ∀ x ∈ N, x.length = 7
  ok : accOk T H N = true
  hl : H.length ≤ 4
  nl : N.length ≤ 8
  hm : ∀ x ∈ H, ∃ i n, 0 ≤ i ∧ i < 4 ∧ x = heldM i n
  nm : ∀ x ∈ N, ∃ i n, 0 ≤ i ∧ i < 8 ∧ x = noteM i n
theorem made_ok (A B C : List (List Int)) : MadeOk (tarsM 0 (A.take 3)) (numbM heldM 0 (B.take 4)) (numbM noteM 0 (C.take 8)) := by
  have lA : (A.take 3).length ≤ 3 := by rw [List.length_take]; omega
  have lB : (B.take 4).length ≤ 4 := by rw [List.length_take]; omega
  have lC : (C.take 8).length ≤ 8 := by rw [List.length_take]; omega
  obtain ⟨a1, a2⟩ := tarsM_ok (A.take 3) 0 (by decide) (by omega)
  obtain ⟨b1, b2⟩ := numbM_ok heldOk heldM 10 (fun i n => heldM_ok n) (fun i n => rfl) (B.take 4) 0 (by decide) (by omega)
  obtain ⟨c1, c2⟩ := numbM_ok noteOk noteM 20 (fun i n => noteM_ok n) (fun i n => rfl) (C.take 8) 0 (by decide) (by omega)
  refine ⟨fun x hx => (a1 x hx).2.1, fun x hx => ?_, fun x hx => ?_, ?_, by rw [numbM_len]; exact lB, by rw [numbM_len]; exact lC, fun x hx => ?_, fun x hx => ?_⟩
  · obtain ⟨_, _, _, j, n, rfl⟩ := b1 x hx; rfl
  · obtain ⟨_, _, _, j, n, rfl⟩ := c1 x hx; rfl
  · unfold accOk
    rw [lsOk_of (by rw [tarsM_len]; omega) (fun x hx => (a1 x hx).1) a2, lsOk_of (by rw [numbM_len]; omega) (fun x hx => (b1 x hx).1) b2, lsOk_of (by rw [numbM_len]; omega) (fun x hx => (c1 x hx).1) c2]
    rfl
  · obtain ⟨_, p, q, j, n, rfl⟩ := b1 x hx
    have : (heldM j n).getD 0 0 = 10 + j := rfl
    exact ⟨j, n, by omega, by omega, rfl⟩
  · obtain ⟨_, p, q, j, n, rfl⟩ := c1 x hx
    have : (noteM j n).getD 0 0 = 20 + j := rfl
    exact ⟨j, n, by omega, by omega, rfl⟩
theorem made_ask {T H N : List (List Int)} (h : accOk T H N = true) {d : Int} (h0 : 0 ≤ d) (h1 : d ≤ 100000) : askE T H N d = 0 := by
  unfold askE
  rw [if_pos h]
  unfold err
  rw [if_pos (inB_iff.2 ⟨h0, h1⟩)]
end Go.Proofs.Ytjimjdhdnkhfnaa

namespace Go.Proofs.Ytjimjdhdnkhfnaa
open Go Go.RowKit
set_option maxRecDepth 100000
set_option maxHeartbeats 4000000
theorem lotK_spec (E : List Int) (d : Int) : ∀ k : Nat, (lotK E d k = (0, -1) ∧ ∀ i, i < k → ¬ (0 ≤ E.getD (i + 1) 0 ∧ E.getD (i + 1) 0 ≤ d)) ∨
    ∃ w, w < k ∧ lotK E d k = ((w : Int) + 1, E.getD (w + 1) 0) ∧ 0 ≤ E.getD (w + 1) 0 ∧ E.getD (w + 1) 0 ≤ d ∧ ∀ i, i < k → 0 ≤ E.getD (i + 1) 0 → E.getD (i + 1) 0 ≤ d → E.getD (w + 1) 0 ≤ E.getD (i + 1) 0
  | 0 => .inl ⟨rfl, fun i hi => by omega⟩
  | k + 1 => by
    rw [lotK_succ]
    unfold lotS
    rcases lotK_spec E d k with ⟨h1, h2⟩ | ⟨w, hw, h1, h2, h3, h4⟩
    · rw [h1]
      by_cases hc : 0 ≤ E.getD (k + 1) 0 ∧ E.getD (k + 1) 0 ≤ d
      · rw [if_pos ⟨hc.1, hc.2, .inl (by decide)⟩]
        refine .inr ⟨k, by omega, rfl, hc.1, hc.2, fun i hi a b => ?_⟩
        by_cases hik : i = k
        · subst hik; exact Int.le_refl _
        · exact absurd ⟨a, b⟩ (h2 i (by omega))
      · rw [if_neg (fun h => hc ⟨h.1, h.2.1⟩)]
        refine .inl ⟨rfl, fun i hi => ?_⟩
        by_cases hik : i = k
        · subst hik; exact hc
        · exact h2 i (by omega)
    · rw [h1]
      dsimp only
      by_cases hc : E.getD (k + 1) 0 ≥ 0 ∧ E.getD (k + 1) 0 ≤ d ∧ (E.getD (w + 1) 0 < 0 ∨ E.getD (k + 1) 0 < E.getD (w + 1) 0)
      · rw [if_pos hc]
        refine .inr ⟨k, by omega, rfl, hc.1, hc.2.1, fun i hi a b => ?_⟩
        by_cases hik : i = k
        · subst hik; exact Int.le_refl _
        · have := h4 i (by omega) a b; omega
      · rw [if_neg hc]
        refine .inr ⟨w, by omega, rfl, h2, h3, fun i hi a b => ?_⟩
        by_cases hik : i = k
        · subst hik; omega
        · exact h4 i (by omega) a b
structure EndOk (T N : List (List Int)) (h : List Int) (d : Int) (en dy : Int) : Prop where
  way : 0 ≤ en ∧ en ≤ 4
  dayL : en ≠ 0 → 0 ≤ dy ∧ dy ≤ d ∧ dy ≤ h.getD 6 0 + 720
  none : en = 0 → dy = -1 ∧ d < h.getD 6 0 + 720
  left : en = 4 → dy = h.getD 6 0 + 720
  forf : en = 3 → (stoN (sayL N h d) < 0 ∨ stoN (sayL N h d) > h.getD 6 0 + 360) ∧ dy = h.getD 6 0 + 361
  mark : en = 2 → dy = marN T h d
  free : en = 1 → dy = leaN 2 (sayL N h d)
theorem end_ok (T N : List (List Int)) {h : List Int} (h6 : 0 ≤ h.getD 6 0) (d : Int) : EndOk T N h d (lotK (lotE T N h d) d 4).1 (lotK (lotE T N h d) d 4).2 := by
  have hE1 : (lotE T N h d).getD 1 0 = leaN 2 (sayL N h d) := rfl
  have hE2 : (lotE T N h d).getD 2 0 = marN T h d := rfl
  have hE3 : (lotE T N h d).getD 3 0 = if stoN (sayL N h d) < 0 ∨ stoN (sayL N h d) > h.getD 6 0 + 360 then h.getD 6 0 + 361 else -1 := rfl
  have hE4 : (lotE T N h d).getD 4 0 = h.getD 6 0 + 720 := rfl
  rcases lotK_spec (lotE T N h d) d 4 with ⟨h1, h2⟩ | ⟨w, hw, h1, h2, h3, h4⟩
  · rw [h1]
    have := h2 3 (by decide)
    rw [hE4] at this
    exact ⟨by decide, fun h => absurd rfl h, fun _ => ⟨rfl, by omega⟩, fun h => absurd h (by decide), fun h => absurd h (by decide), fun h => absurd h (by decide), fun h => absurd h (by decide)⟩
  · rw [h1]
    have h5 := h4 3 (by decide)
    rw [hE4] at h5
    dsimp only
    refine ⟨by omega, fun _ => ⟨h2, h3, by omega⟩, fun q => by omega, fun q => ?_, fun q => ?_, fun q => ?_, fun q => ?_⟩
    · obtain rfl : w = 3 := by omega
      exact hE4
    · obtain rfl : w = 2 := by omega
      rw [hE3] at h2 ⊢
      by_cases hc : stoN (sayL N h d) < 0 ∨ stoN (sayL N h d) > h.getD 6 0 + 360
      · rw [if_pos hc]; exact ⟨hc, rfl⟩
      · rw [if_neg hc] at h2; omega
    · obtain rfl : w = 1 := by omega
      exact hE2
    · obtain rfl : w = 0 := by omega
      exact hE1
theorem held_eq {T H N : List (List Int)} (hok : accOk T H N = true) {a b : List Int} (ha : a ∈ H) (hb : b ∈ H) (he : a.getD 0 0 = b.getD 0 0) : a = b := by
  unfold accOk at hok
  simp only [Bool.and_eq_true] at hok
  have hp := lsOk_pair hok.2.1
  rw [List.pairwise_iff_getElem] at hp
  obtain ⟨i, hi, rfl⟩ := List.getElem_of_mem ha
  obtain ⟨j, hj, rfl⟩ := List.getElem_of_mem hb
  by_cases hij : i = j
  · subst hij; rfl
  · by_cases hlt : i < j
    · have := hp i j hi hj hlt; omega
    · have := hp j i hj hi (by omega); omega
theorem sta_find {T H N : List (List Int)} (hok : accOk T H N = true) {d : Int} {h : List Int} (hh : h ∈ H) (hc : cntH d h = true) : H.find? (staP (h.getD 0 0) d) = some h := by
  have hp : staP (h.getD 0 0) d h = true := by
    unfold staP
    rw [Bool.and_eq_true]
    exact ⟨beq_self_eq_true _, hc⟩
  cases hf : H.find? (staP (h.getD 0 0) d) with
  | none => exact absurd hp (List.find?_eq_none.1 hf h hh)
  | some x =>
    have hx := List.find?_some hf
    have hm := List.mem_of_find?_eq_some hf
    unfold staP at hx
    simp only [Bool.and_eq_true, beq_iff_eq] at hx
    rw [held_eq hok hm hh hx.1]
theorem sta_none {T H N : List (List Int)} (hok : accOk T H N = true) {d : Int} {h : List Int} (hh : h ∈ H) (hc : cntH d h = false) : H.find? (staP (h.getD 0 0) d) = none := by
  rw [List.find?_eq_none]
  intro x hx hs
  unfold staP at hs
  simp only [Bool.and_eq_true, beq_iff_eq] at hs
  obtain rfl := held_eq hok hx hh hs.1
  exact absurd (hc.symm.trans hs.2) (by decide)
theorem sta_is {T H N : List (List Int)} {d : Int} (ha : askE T H N d = 0) {h : List Int} (hh : h ∈ H) (hc : cntH d h = true) : staN T H N (h.getD 0 0) d = (h, 0) := by
  unfold staN
  rw [if_pos ha, sta_find (askE_ok ha).1 hh hc]
theorem sta_not {T H N : List (List Int)} {d : Int} (ha : askE T H N d = 0) {h : List Int} (hh : h ∈ H) (hc : cntH d h = false) : staN T H N (h.getD 0 0) d = (zero9, 65) := by
  unfold staN
  rw [if_pos ha, sta_none (askE_ok ha).1 hh hc]
theorem say_app (N : List (List Int)) (n h : List Int) (d : Int) : sayL (N ++ [n]) h d = if sayN n h d = true then sayL N h d ++ [n] else sayL N h d := by
  unfold sayL
  rw [List.filter_append]
  cases hs : sayN n h d <;> simp [List.filter, hs]
theorem lea_app (k : Int) (L : List (List Int)) (n : List Int) : leaN k (L ++ [n]) = leaS k (leaN k L) n := by
  unfold leaN; rw [List.foldl_append]; rfl
theorem lea_in {k lo hi : Int} (h0 : 0 ≤ lo) : ∀ {L : List (List Int)}, (∀ n ∈ L, lo ≤ n.getD 4 0 ∧ n.getD 4 0 ≤ hi) → leaN k L = -1 ∨ (lo ≤ leaN k L ∧ leaN k L ≤ hi) := fun {L} hL => by
  have gen : ∀ (L : List (List Int)) (a : Int), (∀ n ∈ L, lo ≤ n.getD 4 0 ∧ n.getD 4 0 ≤ hi) → (a = -1 ∨ (lo ≤ a ∧ a ≤ hi)) → (L.foldl (leaS k) a = -1 ∨ (lo ≤ L.foldl (leaS k) a ∧ L.foldl (leaS k) a ≤ hi)) := by
    intro L
    induction L with
    | nil => intro a _ ha; exact ha
    | cons n L ih =>
      intro a hL ha
      refine ih _ (fun m hm => hL m (by simp [hm])) ?_
      unfold leaS
      split
      · exact .inr (hL n (by simp))
      · exact ha
  exact gen L (-1) hL (.inl rfl)
theorem say_in {N : List (List Int)} {h : List Int} {d : Int} : ∀ n ∈ sayL N h d, (h.getD 6 0 ≤ n.getD 4 0 ∧ n.getD 4 0 ≤ d) ∧ n.getD 5 0 ≤ d := fun n hn => by
  have := (List.mem_filter.1 hn).2
  unfold sayN cntB at this
  simp only [Bool.and_eq_true, inB_iff, decide_eq_true_eq] at this
  exact ⟨this.2.2, this.1.1⟩
theorem sto_app {L : List (List Int)} {n : List Int} {lo hi : Int} (h0 : 0 ≤ lo) (hL : ∀ n ∈ L, lo ≤ n.getD 4 0 ∧ n.getD 4 0 ≤ hi) (hk : n.getD 2 0 = 1 ∨ n.getD 2 0 = 3) (h4 : 0 ≤ n.getD 4 0) :
    (stoN L = -1 ∨ (lo ≤ stoN L ∧ stoN L ≤ hi)) ∧ stoN (L ++ [n]) = if stoN L < 0 ∨ n.getD 4 0 < stoN L then n.getD 4 0 else stoN L := by
  have a := lea_in (k := 1) h0 hL
  have b := lea_in (k := 3) h0 hL
  unfold stoN
  rw [lea_app, lea_app]
  unfold leaS
  simp only [Bool.or_eq_true, Bool.and_eq_true, decide_eq_true_eq, beq_iff_eq]
  generalize leaN 1 L = x at *
  generalize leaN 3 L = y at *
  generalize n.getD 4 0 = e at *
  rcases hk with hk | hk
  · rw [hk]
    refine ⟨by split <;> omega, ?_⟩
    (repeat' split) <;> omega
  · rw [hk]
    refine ⟨by split <;> omega, ?_⟩
    (repeat' split) <;> omega
theorem lea2_app {L : List (List Int)} {n : List Int} (hk : n.getD 2 0 = 1 ∨ n.getD 2 0 = 3) : leaN 2 (L ++ [n]) = leaN 2 L := by
  rw [lea_app]
  unfold leaS
  rw [if_neg]
  simp only [Bool.and_eq_true, beq_iff_eq]
  omega
theorem lotK_full (E : List Int) (d : Int) : ∀ k : Nat, (lotK E d k = (0, -1) ∧ ∀ i, i < k → ¬ (0 ≤ E.getD (i + 1) 0 ∧ E.getD (i + 1) 0 ≤ d)) ∨
    ∃ w, w < k ∧ lotK E d k = ((w : Int) + 1, E.getD (w + 1) 0) ∧ 0 ≤ E.getD (w + 1) 0 ∧ E.getD (w + 1) 0 ≤ d ∧ (∀ i, i < w → 0 ≤ E.getD (i + 1) 0 → E.getD (i + 1) 0 ≤ d → E.getD (w + 1) 0 < E.getD (i + 1) 0) ∧
      ∀ i, i < k → 0 ≤ E.getD (i + 1) 0 → E.getD (i + 1) 0 ≤ d → E.getD (w + 1) 0 ≤ E.getD (i + 1) 0
  | 0 => .inl ⟨rfl, fun i hi => by omega⟩
  | k + 1 => by
    rw [lotK_succ]
    unfold lotS
    rcases lotK_full E d k with ⟨h1, h2⟩ | ⟨w, hw, h1, h2, h3, h5, h4⟩
    · rw [h1]
      by_cases hc : 0 ≤ E.getD (k + 1) 0 ∧ E.getD (k + 1) 0 ≤ d
      · rw [if_pos ⟨hc.1, hc.2, .inl (by decide)⟩]
        refine .inr ⟨k, by omega, rfl, hc.1, hc.2, fun i hi a b => absurd ⟨a, b⟩ (h2 i hi), fun i hi a b => ?_⟩
        by_cases hik : i = k
        · subst hik; exact Int.le_refl _
        · exact absurd ⟨a, b⟩ (h2 i (by omega))
      · rw [if_neg (fun h => hc ⟨h.1, h.2.1⟩)]
        refine .inl ⟨rfl, fun i hi => ?_⟩
        by_cases hik : i = k
        · subst hik; exact hc
        · exact h2 i (by omega)
    · rw [h1]
      dsimp only
      by_cases hc : E.getD (k + 1) 0 ≥ 0 ∧ E.getD (k + 1) 0 ≤ d ∧ (E.getD (w + 1) 0 < 0 ∨ E.getD (k + 1) 0 < E.getD (w + 1) 0)
      · rw [if_pos hc]
        refine .inr ⟨k, by omega, rfl, hc.1, hc.2.1, fun i hi a b => ?_, fun i hi a b => ?_⟩
        · have := h4 i hi a b; omega
        · by_cases hik : i = k
          · subst hik; exact Int.le_refl _
          · have := h4 i (by omega) a b; omega
      · rw [if_neg hc]
        refine .inr ⟨w, by omega, rfl, h2, h3, h5, fun i hi a b => ?_⟩
        by_cases hik : i = k
        · subst hik; omega
        · exact h4 i (by omega) a b
theorem lotK_keep {E E' : List Int} {d d' : Int} (hd : d ≤ d') (h : ∀ i, i < 4 → 0 ≤ E'.getD (i + 1) 0 → E'.getD (i + 1) 0 ≤ d' → (E'.getD (i + 1) 0 = E.getD (i + 1) 0 ∧ E'.getD (i + 1) 0 ≤ d) ∨ d < E'.getD (i + 1) 0)
    {w : Nat} (hw : w < 4) (hne : (lotK E d 4).1 = (w : Int) + 1) (hs : E'.getD (w + 1) 0 = E.getD (w + 1) 0) : lotK E' d' 4 = lotK E d 4 := by
  rcases lotK_full E d 4 with ⟨h1, _⟩ | ⟨v, hv, h1, h2, h3, h5, h4⟩
  · rw [h1] at hne; dsimp only at hne; omega
  · rw [h1] at hne
    dsimp only at hne
    obtain rfl : v = w := by omega
    rw [h1]
    refine lotK_at hw h2 (by omega) hs (fun i hi a b => ?_) (fun i hi hi4 a b => ?_)
    · rcases h i (by omega) a b with ⟨e, q⟩ | q
      · rw [e] at a q ⊢; exact h5 i hi a q
      · omega
    · rcases h i hi4 a b with ⟨e, q⟩ | q
      · rw [e] at a q ⊢; exact h4 i hi4 a q
      · omega
theorem sumK_mono {g : Int → Int} (h : ∀ d, 0 ≤ g d) (f : Int) {j k : Nat} (hjk : j ≤ k) : sumK g f j ≤ sumK g f k := by
  induction k with
  | zero => obtain rfl : j = 0 := by omega
            exact Int.le_refl _
  | succ k ih =>
    by_cases hj : j = k + 1
    · subst hj; exact Int.le_refl _
    · rw [sumK_succ]
      have := ih (by omega); have := h (f + (k : Int)); omega
theorem sumK_less {g g' : Int → Int} (h : ∀ d, 0 ≤ g d) (f : Int) {k k' : Nat} (hle : ∀ i : Nat, i < k' → g' (f + (i : Int)) ≤ if i < k then g (f + (i : Int)) else 0) : sumK g' f k' ≤ sumK g f k := by
  have gen : ∀ j : Nat, j ≤ k' → sumK g' f j ≤ sumK g f (min j k) := fun j => by
    induction j with
    | zero => intro _; simp [sumK, dayK, sumL]
    | succ j ih =>
      intro hj
      have h1 := ih (by omega)
      have h2 := hle j (by omega)
      rw [sumK_succ]
      by_cases hjk : j < k
      · rw [if_pos hjk] at h2
        rw [show min (j + 1) k = j + 1 by omega, sumK_succ]
        rw [show min j k = j by omega] at h1
        omega
      · rw [if_neg hjk] at h2
        rw [show min (j + 1) k = min j k by omega]
        omega
  exact Int.le_trans (gen k' (Nat.le_refl _)) (sumK_mono h f (by omega))
theorem finD_in {T : List (List Int)} (h1 : ∀ x ∈ T, x.length = 24) (hok : ∀ x ∈ T, tarOk x = true) {s : Int} (hs : 1 ≤ s ∧ s ≤ 9) (st d : Int) : 0 ≤ finD T s st d := by
  have := (rates_in h1 hok d (j := s.toNat) (by omega)).2
  unfold finD; split <;> omega
theorem lot_claim {T N : List (List Int)} {h n : List Int} (h6 : 0 ≤ h.getD 6 0) {d : Int} (hk : n.getD 2 0 = 1 ∨ n.getD 2 0 = 3) (hs : sayN n h d = true) {st en dy : Int} (hst : stoN (sayL N h d) = st) (he : lotK (lotE T N h d) d 4 = (en, dy)) :
    ∃ st' en' dy', stoN (sayL (N ++ [n]) h d) = st' ∧ lotK (lotE T (N ++ [n]) h d) d 4 = (en', dy') ∧ st' = (if st < 0 ∨ n.getD 4 0 < st then n.getD 4 0 else st) ∧ (st = -1 ∨ (h.getD 6 0 ≤ st ∧ st ≤ d)) ∧ (h.getD 6 0 ≤ n.getD 4 0 ∧ n.getD 4 0 ≤ d) ∧
      ((en' = en ∧ dy' = dy) ∨ (en = 3 ∧ dy = h.getD 6 0 + 361 ∧ (st < 0 ∨ st > h.getD 6 0 + 360) ∧ st' ≤ h.getD 6 0 + 360)) := by
  have hsl : sayL (N ++ [n]) h d = sayL N h d ++ [n] := by rw [say_app, if_pos hs]
  have hn : h.getD 6 0 ≤ n.getD 4 0 ∧ n.getD 4 0 ≤ d := (say_in (N := [n]) (h := h) (d := d) n (List.mem_filter.2 ⟨by simp, hs⟩)).1
  obtain ⟨q1, q2⟩ := sto_app (L := sayL N h d) (n := n) (lo := h.getD 6 0) (hi := d) h6 (fun m hm => (say_in m hm).1) hk (by omega)
  rw [hst] at q1 q2
  refine ⟨_, (lotK (lotE T (N ++ [n]) h d) d 4).1, (lotK (lotE T (N ++ [n]) h d) d 4).2, by rw [hsl], rfl, q2, q1, hn, ?_⟩
  rw [q2]
  have e1 : (lotE T (N ++ [n]) h d).getD 1 0 = (lotE T N h d).getD 1 0 := by
    show leaN 2 (sayL (N ++ [n]) h d) = leaN 2 (sayL N h d)
    rw [hsl, lea2_app hk]
  have e2 : (lotE T (N ++ [n]) h d).getD 2 0 = (lotE T N h d).getD 2 0 := rfl
  have e4 : (lotE T (N ++ [n]) h d).getD 4 0 = (lotE T N h d).getD 4 0 := rfl
  have e3 : (lotE T N h d).getD 3 0 = if st < 0 ∨ st > h.getD 6 0 + 360 then h.getD 6 0 + 361 else -1 := by
    show (if stoN (sayL N h d) < 0 ∨ stoN (sayL N h d) > h.getD 6 0 + 360 then h.getD 6 0 + 361 else -1) = _
    rw [hst]
  have e3' : (lotE T (N ++ [n]) h d).getD 3 0 = if (if st < 0 ∨ n.getD 4 0 < st then n.getD 4 0 else st) < 0 ∨ (if st < 0 ∨ n.getD 4 0 < st then n.getD 4 0 else st) > h.getD 6 0 + 360 then h.getD 6 0 + 361 else -1 := by
    show (if stoN (sayL (N ++ [n]) h d) < 0 ∨ stoN (sayL (N ++ [n]) h d) > h.getD 6 0 + 360 then h.getD 6 0 + 361 else -1) = _
    rw [hsl, q2]
  obtain ⟨st', hst'⟩ : ∃ x, (if st < 0 ∨ n.getD 4 0 < st then n.getD 4 0 else st) = x := ⟨_, rfl⟩
  rw [hst'] at e3' ⊢
  have key : ∀ i, i < 4 → 0 ≤ (lotE T (N ++ [n]) h d).getD (i + 1) 0 → (lotE T (N ++ [n]) h d).getD (i + 1) 0 ≤ d → ((lotE T (N ++ [n]) h d).getD (i + 1) 0 = (lotE T N h d).getD (i + 1) 0 ∧ (lotE T (N ++ [n]) h d).getD (i + 1) 0 ≤ d) ∨ d < (lotE T (N ++ [n]) h d).getD (i + 1) 0 := fun i hi a b => by
    refine .inl ⟨?_, b⟩
    match i, hi with
    | 0, _ => exact e1
    | 1, _ => exact e2
    | 2, _ =>
      rw [e3'] at a ⊢
      rw [e3]
      have : st' ≤ st ∨ st < 0 := by rw [← hst']; split <;> omega
      by_cases c : st' < 0 ∨ st' > h.getD 6 0 + 360
      · rw [if_pos c, if_pos (by omega)]
      · rw [if_neg c] at a; omega
    | 3, _ => exact e4
  rcases lotK_full (lotE T N h d) d 4 with ⟨h1, h2⟩ | ⟨w, hw, h1, _⟩
  · refine .inl ?_
    rw [he] at h1
    have : lotK (lotE T (N ++ [n]) h d) d 4 = (0, -1) := lotK_none fun i hi hc => by
      rcases key i hi hc.1 hc.2 with ⟨a, b⟩ | a
      · exact h2 i hi ⟨by rw [← a]; exact hc.1, by rw [← a]; exact hc.2⟩
      · omega
    rw [this]
    have h1 := Prod.ext_iff.1 h1
    exact ⟨h1.1.symm, h1.2.symm⟩
  · have hne : (lotK (lotE T N h d) d 4).1 = (w : Int) + 1 := by rw [h1]
    have he1 := Prod.ext_iff.1 (he.symm.trans h1)
    dsimp only at he1
    by_cases h3 : w = 2 ∧ ¬ (st' < 0 ∨ st' > h.getD 6 0 + 360)
    · obtain ⟨rfl, h3⟩ := h3
      have hok := (end_ok T N h6 d).forf (by rw [hne]; rfl)
      rw [hst, he] at hok
      exact .inr ⟨by rw [he1.1]; rfl, hok.2, hok.1, by omega⟩
    · refine .inl ?_
      have hs' : (lotE T (N ++ [n]) h d).getD (w + 1) 0 = (lotE T N h d).getD (w + 1) 0 := by
        match w, hw with
        | 0, _ => exact e1
        | 1, _ => exact e2
        | 2, _ =>
          have hok := (end_ok T N h6 d).forf (by rw [hne]; rfl)
          rw [hst] at hok
          rw [e3, e3', if_pos hok.1, if_pos (by omega)]
        | 3, _ => exact e4
      have := lotK_keep (Int.le_refl d) key hw hne hs'
      rw [this, he]; exact ⟨rfl, rfl⟩
theorem lotN_is {T N : List (List Int)} {h : List Int} {d st en dy : Int} (hs : stoN (sayL N h d) = st) (he : lotK (lotE T N h d) d 4 = (en, dy)) : lotN T N h d = [owrN (sayL N h d), st, en, dy] := by
  unfold lotN; rw [hs, he]
theorem chgN_is {T N : List (List Int)} {h : List Int} {d ow st en dy : Int} (hd : ¬ d < h.getD 6 0) (hl : lotN T N h d = [ow, st, en, dy]) :
    chgN T N h d = [(tarAt T (h.getD 6 0)).getD (1 + (h.getD 2 0).toNat) 0, sumK (feedD T (h.getD 3 0)) (h.getD 6 0) (lasN [ow, st, en, dy] d - h.getD 6 0 + 1).toNat, sumK (finD T (h.getD 2 0) st) (h.getD 6 0) (lasN [ow, st, en, dy] d - h.getD 6 0 + 1).toNat] := by
  unfold chgN
  rw [if_neg hd, hl]; rfl
theorem chg_claim {T N : List (List Int)} (h1 : ∀ x ∈ T, x.length = 24) (hok : ∀ x ∈ T, tarOk x = true) {h n : List Int} (hhk : heldOk h = true) {d : Int} (hk : n.getD 2 0 = 1 ∨ n.getD 2 0 = 3) :
    (chgN T (N ++ [n]) h d).getD 0 0 = (chgN T N h d).getD 0 0 ∧ (chgN T (N ++ [n]) h d).getD 2 0 ≤ (chgN T N h d).getD 2 0 := by
  obtain ⟨b2, _, _, _, b6⟩ := heldOk_bounds hhk
  by_cases hd : d < h.getD 6 0
  · unfold chgN
    rw [if_pos hd, if_pos hd]; exact ⟨rfl, Int.le_refl _⟩
  cases hs : sayN n h d with
  | false =>
    have hsl : sayL (N ++ [n]) h d = sayL N h d := by rw [say_app, hs]; rfl
    have hl : lotN T (N ++ [n]) h d = lotN T N h d := by unfold lotN lotE; rw [hsl]
    unfold chgN
    rw [hl]; exact ⟨rfl, Int.le_refl _⟩
  | true =>
    obtain ⟨en, dy, he⟩ : ∃ a b, lotK (lotE T N h d) d 4 = (a, b) := ⟨_, _, rfl⟩
    obtain ⟨st, hst⟩ : ∃ a, stoN (sayL N h d) = a := ⟨_, rfl⟩
    obtain ⟨st', en', dy', p1, p2, p3, p4, p5, p6⟩ := lot_claim (T := T) b6.1 hk hs hst he
    have hl := lotN_is hst he
    have hl' := lotN_is p1 p2
    rw [chgN_is hd hl, chgN_is hd hl']
    refine ⟨rfl, ?_⟩
    show sumK (finD T (h.getD 2 0) st') (h.getD 6 0) _ ≤ sumK (finD T (h.getD 2 0) st) (h.getD 6 0) _
    have hst' : 0 ≤ st' ∧ (st < 0 ∨ st' ≤ st) := by rw [p3]; split <;> omega
    refine sumK_less (fun q => finD_in h1 hok b2 st q) _ (fun i hi => ?_)
    have hr := finD_in h1 hok b2 st (h.getD 6 0 + (i : Int))
    have hle : finD T (h.getD 2 0) st' (h.getD 6 0 + (i : Int)) ≤ finD T (h.getD 2 0) st (h.getD 6 0 + (i : Int)) := by
      have hr0 := (rates_in h1 hok (h.getD 6 0 + (i : Int)) (j := (h.getD 2 0).toNat) (by omega)).2
      unfold finD
      simp only [Bool.or_eq_true, decide_eq_true_eq]
      split <;> split <;> omega
    rcases p6 with ⟨rfl, rfl⟩ | ⟨rfl, rfl, p7, p8⟩
    · rw [if_pos (show i < (lasN [owrN (sayL N h d), st, en', dy'] d - h.getD 6 0 + 1).toNat from hi)]; exact hle
    · by_cases hlt : h.getD 6 0 + (i : Int) < st'
      · rw [if_pos (by
          show i < ((if (3 : Int) = 0 then d else if (3 : Int) = 2 then h.getD 6 0 + 361 else h.getD 6 0 + 361 - 1) - h.getD 6 0 + 1).toNat
          rw [if_neg (by decide), if_neg (by decide)]; omega)]
        exact hle
      · have : finD T (h.getD 2 0) st' (h.getD 6 0 + (i : Int)) = 0 := by
          unfold finD
          rw [if_neg]
          simp only [Bool.or_eq_true, decide_eq_true_eq]
          omega
        rw [this]
        split
        · exact hr
        · exact Int.le_refl _
def quietB (N : List (List Int)) (d : Int) : Bool := N.all fun y => decide (y.getD 5 0 ≠ d + 1) && (decide (y.getD 4 0 ≠ d + 1) && decide (y.getD 6 0 ≠ d + 1))
theorem say_quiet {N : List (List Int)} {d : Int} (hq : quietB N d = true) (h : List Int) : sayL N h (d + 1) = sayL N h d := by
  unfold sayL
  refine List.filter_congr fun y hy => ?_
  unfold quietB at hq
  have := List.all_eq_true.1 hq y hy
  simp only [Bool.and_eq_true, decide_eq_true_eq, ne_eq] at this
  obtain ⟨q1, q2, q3⟩ := this
  unfold sayN cntB
  rw [Bool.eq_iff_iff]
  simp only [Bool.and_eq_true, Bool.or_eq_true, decide_eq_true_eq, beq_iff_eq, inB_iff]
  omega
theorem mar_next (T : List (List Int)) {h : List Int} (h6 : 0 ≤ h.getD 6 0) (d : Int) : (0 ≤ marN T h d ∧ marN T h d ≤ d ∧ marN T h (d + 1) = marN T h d) ∨ (marN T h d = -1 ∧ (marN T h (d + 1) = -1 ∨ marN T h (d + 1) = d + 1)) := by
  have sp : ∀ d, (marN T h d = -1 ∧ ∀ k : Nat, k < 722 → h.getD 6 0 + (k : Int) ≤ d → h.getD 6 0 + (k : Int) ≤ h.getD 6 0 + 720 → 0 < h.getD 4 0 → ¬ h.getD 4 0 ≤ sumK (feedD T (h.getD 3 0)) (h.getD 6 0) (k + 1)) ∨
      ∃ k : Nat, k < 722 ∧ h.getD 6 0 + (k : Int) ≤ d ∧ h.getD 6 0 + (k : Int) ≤ h.getD 6 0 + 720 ∧ 0 < h.getD 4 0 ∧ h.getD 4 0 ≤ sumK (feedD T (h.getD 3 0)) (h.getD 6 0) (k + 1) ∧ marN T h d = h.getD 6 0 + (k : Int) ∧
        ∀ j, j < k → ¬ h.getD 4 0 ≤ sumK (feedD T (h.getD 3 0)) (h.getD 6 0) (j + 1) := fun d => by
    have hs := marG_spec (feedD T (h.getD 3 0)) (h.getD 4 0) d (h.getD 6 0 + 720) (h.getD 6 0) 722 0
    have hm2 : marN T h d = marG (feedD T (h.getD 3 0)) (h.getD 4 0) d (h.getD 6 0 + 720) 722 (h.getD 6 0 + ((0 : Nat) : Int)) (sumK (feedD T (h.getD 3 0)) (h.getD 6 0) 0) := by
      have hs0 : sumK (feedD T (h.getD 3 0)) (h.getD 6 0) 0 = 0 := rfl
      rw [hs0]; simp only [Int.natCast_zero, Int.add_zero]; rfl
    rw [← hm2] at hs
    rcases hs with ⟨h1, h2⟩ | ⟨k, g1, g2, g3, g4, g5, g6, g7, g8⟩
    · exact .inl ⟨h1, fun k hk => h2 k (by omega) (by omega)⟩
    · exact .inr ⟨k, by omega, g3, g4, g5, g6, g7, fun j hj => g8 j (by omega) hj⟩
  have s1 := sp d
  have s2 := sp (d + 1)
  rcases s1 with ⟨a1, a2⟩ | ⟨k, a1, a2, a3, a4, a5, a6, a7⟩
  · refine .inr ⟨a1, ?_⟩
    rcases s2 with ⟨c1, _⟩ | ⟨j, c1, c2, c3, c4, c5, c6, c7⟩
    · exact .inl c1
    · by_cases hj : h.getD 6 0 + (j : Int) ≤ d
      · exact absurd c5 (a2 j c1 hj c3 c4)
      · exact .inr (by omega)
  · refine .inl ⟨by omega, by omega, ?_⟩
    rcases s2 with ⟨c1, c2⟩ | ⟨j, c1, c2, c3, c4, c5, c6, c7⟩
    · exact absurd a5 (c2 k a1 (by omega) a3 a4)
    · have e1 : ¬ j < k := fun q => a7 j q c5
      have e2 : ¬ k < j := fun q => c7 k q a5
      omega
theorem lot_later {T N : List (List Int)} {h : List Int} (h6 : 0 ≤ h.getD 6 0) {d : Int} (hq : quietB N d = true) {st en dy : Int} (hst : stoN (sayL N h d) = st) (he : lotK (lotE T N h d) d 4 = (en, dy)) :
    ∃ en' dy', stoN (sayL N h (d + 1)) = st ∧ lotK (lotE T N h (d + 1)) (d + 1) 4 = (en', dy') ∧ ((en ≠ 0 ∧ en' = en ∧ dy' = dy) ∨ (en = 0 ∧ (en' = 0 ∨ (0 < en' ∧ d < dy')))) := by
  have hsl := say_quiet hq h
  refine ⟨(lotK (lotE T N h (d + 1)) (d + 1) 4).1, (lotK (lotE T N h (d + 1)) (d + 1) 4).2, by rw [hsl]; exact hst, rfl, ?_⟩
  have hm := mar_next T h6 d
  have e1 : (lotE T N h (d + 1)).getD 1 0 = (lotE T N h d).getD 1 0 := by
    show leaN 2 (sayL N h (d + 1)) = leaN 2 (sayL N h d)
    rw [hsl]
  have e2 : (lotE T N h d).getD 2 0 = marN T h d := rfl
  have e2' : (lotE T N h (d + 1)).getD 2 0 = marN T h (d + 1) := rfl
  have e3 : (lotE T N h (d + 1)).getD 3 0 = (lotE T N h d).getD 3 0 := by
    show (if stoN (sayL N h (d + 1)) < 0 ∨ stoN (sayL N h (d + 1)) > h.getD 6 0 + 360 then h.getD 6 0 + 361 else -1) = (if stoN (sayL N h d) < 0 ∨ stoN (sayL N h d) > h.getD 6 0 + 360 then h.getD 6 0 + 361 else -1)
    rw [hsl]
  have e4 : (lotE T N h (d + 1)).getD 4 0 = (lotE T N h d).getD 4 0 := rfl
  have key : ∀ i, i < 4 → 0 ≤ (lotE T N h (d + 1)).getD (i + 1) 0 → (lotE T N h (d + 1)).getD (i + 1) 0 ≤ d + 1 → ((lotE T N h (d + 1)).getD (i + 1) 0 = (lotE T N h d).getD (i + 1) 0 ∧ (lotE T N h (d + 1)).getD (i + 1) 0 ≤ d) ∨ d < (lotE T N h (d + 1)).getD (i + 1) 0 := fun i hi a b => by
    by_cases hle : (lotE T N h (d + 1)).getD (i + 1) 0 ≤ d
    · refine .inl ⟨?_, hle⟩
      match i, hi with
      | 0, _ => exact e1
      | 1, _ =>
        rw [e2'] at a hle ⊢
        rw [e2]
        rcases hm with m | m <;> omega
      | 2, _ => exact e3
      | 3, _ => exact e4
    · exact .inr (by omega)
  rcases lotK_full (lotE T N h d) d 4 with ⟨h1, h2⟩ | ⟨w, hw, h1, h3, h4, _, _⟩
  · have he1 := Prod.ext_iff.1 (he.symm.trans h1)
    dsimp only at he1
    refine .inr ⟨he1.1, ?_⟩
    rcases lotK_full (lotE T N h (d + 1)) (d + 1) 4 with ⟨g1, _⟩ | ⟨w, hw, g1, g2, g3, _, _⟩
    · exact .inl (by rw [g1])
    · refine .inr ?_
      rw [g1]
      dsimp only
      refine ⟨by omega, ?_⟩
      rcases key w hw g2 g3 with ⟨a, b⟩ | a
      · exact absurd ⟨by rw [← a]; exact g2, by rw [← a]; exact b⟩ (h2 w hw)
      · exact a
  · have he1 := Prod.ext_iff.1 (he.symm.trans h1)
    dsimp only at he1
    have hne : (lotK (lotE T N h d) d 4).1 = (w : Int) + 1 := by rw [h1]
    have hs' : (lotE T N h (d + 1)).getD (w + 1) 0 = (lotE T N h d).getD (w + 1) 0 := by
      match w, hw with
      | 0, _ => exact e1
      | 1, _ =>
        rw [e2] at h3 ⊢
        rw [e2']
        rcases hm with m | m <;> omega
      | 2, _ => exact e3
      | 3, _ => exact e4
    have := lotK_keep (show d ≤ d + 1 by omega) key hw hne hs'
    rw [this, he]
    exact .inl ⟨by omega, rfl, rfl⟩
theorem chg_later {T N : List (List Int)} (h1 : ∀ x ∈ T, x.length = 24) (hok : ∀ x ∈ T, tarOk x = true) {h : List Int} (hhk : heldOk h = true) {d : Int} (hd : h.getD 6 0 ≤ d) (hq : quietB N d = true) {en : Int} (hen : (lotN T N h d).getD 2 0 = en) :
    (en ≠ 0 → chgN T N h (d + 1) = chgN T N h d) ∧ (en = 0 → (chgN T N h (d + 1)).getD 0 0 = (chgN T N h d).getD 0 0 ∧ (chgN T N h d).getD 1 0 ≤ (chgN T N h (d + 1)).getD 1 0 ∧ (chgN T N h d).getD 2 0 ≤ (chgN T N h (d + 1)).getD 2 0) := by
  obtain ⟨b2, b3, _, _, b6⟩ := heldOk_bounds hhk
  obtain ⟨en0, dy, he⟩ : ∃ a b, lotK (lotE T N h d) d 4 = (a, b) := ⟨_, _, rfl⟩
  obtain ⟨st, hst⟩ : ∃ a, stoN (sayL N h d) = a := ⟨_, rfl⟩
  obtain ⟨en', dy', p1, p2, p3⟩ := lot_later (T := T) b6.1 hq hst he
  have hl := lotN_is hst he
  have hl' := lotN_is p1 p2
  rw [hl] at hen
  obtain rfl : en0 = en := hen
  rw [chgN_is (by omega) hl, chgN_is (by omega) hl']
  refine ⟨fun h0 => ?_, fun h0 => ?_⟩
  · rcases p3 with ⟨_, rfl, rfl⟩ | ⟨q, _⟩
    · have : ∀ o o' : Int, lasN [o, st, en', dy'] (d + 1) = lasN [o', st, en', dy'] d := fun o o' => by
        show (if en' = 0 then d + 1 else if en' = 2 then dy' else dy' - 1) = (if en' = 0 then d else if en' = 2 then dy' else dy' - 1)
        rw [if_neg h0, if_neg h0]
      rw [this]
    · exact absurd q h0
  · rcases p3 with ⟨q, _⟩ | ⟨_, q⟩
    · exact absurd h0 q
    · have hle : (lasN [owrN (sayL N h d), st, en0, dy] d - h.getD 6 0 + 1).toNat ≤ (lasN [owrN (sayL N h (d + 1)), st, en', dy'] (d + 1) - h.getD 6 0 + 1).toNat := by
        show ((if en0 = 0 then d else if en0 = 2 then dy else dy - 1) - h.getD 6 0 + 1).toNat ≤ ((if en' = 0 then d + 1 else if en' = 2 then dy' else dy' - 1) - h.getD 6 0 + 1).toNat
        rw [if_pos h0]
        (repeat' split) <;> omega
      exact ⟨rfl, sumK_mono (fun q => (feedD_in hok b3 q).1) _ hle, sumK_mono (fun q => finD_in h1 hok b2 st q) _ hle⟩
theorem owr_app {L : List (List Int)} {n : List Int} {k : Int} (hk0 : 0 ≤ k) (hL : ∀ m ∈ L, m.getD 5 0 ≤ k) (h2 : n.getD 2 0 = 3) (h5 : n.getD 5 0 = k) (h3 : 0 < n.getD 3 0) : owrN (L ++ [n]) = n.getD 3 0 := by
  have gen : ∀ (L : List (List Int)) (a : Int × Int), (∀ m ∈ L, m.getD 5 0 ≤ k) → a.1 ≤ k → (L.foldl owrS a).1 ≤ k := by
    intro L
    induction L with
    | nil => intro a _ ha; exact ha
    | cons m L ih =>
      intro a hL ha
      refine ih _ (fun y hy => hL y (by simp [hy])) ?_
      unfold owrS
      split
      · exact hL m (by simp)
      · exact ha
  have ha := gen L (-1, 0) hL (by dsimp only; omega)
  have ow1 : ∀ a : Int × Int, a.1 ≤ k → owrS a n = (n.getD 5 0, n.getD 3 0) := fun a ha => by
    unfold owrS
    rw [if_pos]
    rw [h2, h5, decide_eq_true (show k ≥ a.1 from ha)]; rfl
  have e : (L ++ [n]).foldl owrS (-1, 0) = (n.getD 5 0, n.getD 3 0) := by
    rw [List.foldl_append]
    exact ow1 _ ha
  unfold owrN
  rw [e, if_pos h3]
theorem lot_judged {T N : List (List Int)} {h n : List Int} (h6 : 0 ≤ h.getD 6 0) {d : Int} (hd : 0 ≤ d) (h2 : n.getD 2 0 = 3) (h5 : n.getD 5 0 = d) (h3 : 0 < n.getD 3 0) (hs : sayN n h d = true) {ow st en dy : Int} (hl : lotN T N h d = [ow, st, en, dy]) :
    ∃ st' en' dy', lotN T (N ++ [n]) h d = [n.getD 3 0, st', en', dy'] ∧ st' = (if st < 0 ∨ n.getD 4 0 < st then n.getD 4 0 else st) ∧ (h.getD 6 0 ≤ st' ∧ st' ≤ d) ∧ (st' = st → en' = en ∧ dy' = dy) := by
  have hl0 := hl
  unfold lotN at hl
  simp only [List.cons.injEq, and_true] at hl
  obtain ⟨_, q2, q3, q4⟩ := hl
  obtain ⟨st', en', dy', p1, p2, p3, p4, p5, p6⟩ := lot_claim (T := T) h6 (.inr h2) hs q2 (show lotK (lotE T N h d) d 4 = (en, dy) from Prod.ext q3 q4)
  refine ⟨st', en', dy', ?_, p3, by rw [p3]; split <;> omega, fun e => ?_⟩
  · rw [lotN_is p1 p2, show sayL (N ++ [n]) h d = sayL N h d ++ [n] by rw [say_app, if_pos hs], owr_app hd (fun m hm => (say_in m hm).2) h2 h5 h3]
  · rcases p6 with q | ⟨_, _, q, q'⟩
    · exact q
    · have : ¬ st' < 0 := by rw [p3]; split <;> omega
      omega
theorem due_lot {T N M : List (List Int)} {h : List Int} {d : Int} (hl : lotN T N h d = lotN T M h d) : dueN T N h d = dueN T M h d := by
  unfold dueN chgN
  rw [hl]
theorem atK_all {s : Int} : ∀ (N : List (List Int)) (a : Int), (∀ x ∈ N, x.getD 0 0 < s) → N.foldl (atF s) (a, a) = (a + N.length, a + N.length)
  | [], a, _ => by simp
  | x :: N, a, h => by
    rw [List.foldl_cons]
    have : atF s (a, a) x = (a + 1, a + 1) := by
      unfold atF
      rw [if_pos (decide_eq_true (h x (by simp)))]
    rw [this, atK_all N (a + 1) (fun y hy => h y (by simp [hy])), List.length_cons, Prod.mk.injEq]
    omega
theorem ins_end {N : List (List Int)} {n : List Int} (h : ∀ x ∈ N, x.getD 0 0 < n.getD 0 0) : (atK (n.getD 0 0) N).2 = N.length ∧ insN N n = N ++ [n] := by
  have e : (atK (n.getD 0 0) N).2 = N.length := by
    unfold atK
    rw [show ((0, 0) : Int × Int) = ((0 : Int), (0 : Int)) from rfl, atK_all N 0 h]; omega
  refine ⟨e, ?_⟩
  unfold insN
  rw [e]; simp
theorem acc_app {T H N : List (List Int)} {n : List Int} (ha : accOk T H N = true) (hn : noteOk n = true) (h : ∀ x ∈ N, x.getD 0 0 < n.getD 0 0) (hl : N.length < 60) : accOk T H (N ++ [n]) = true := by
  unfold accOk at ha ⊢
  simp only [Bool.and_eq_true] at ha ⊢
  refine ⟨ha.1, ha.2.1, lsOk_of (by simp; omega) (fun x hx => ?_) (List.pairwise_append.2 ⟨lsOk_pair ha.2.2, List.pairwise_singleton _ _, fun x hx y hy => ?_⟩)⟩
  · rcases List.mem_append.1 hx with q | q
    · exact lsOk_all ha.2.2 x q
    · rw [List.mem_singleton] at q; rw [q]; exact hn
  · rw [List.mem_singleton] at hy; rw [hy]; exact h x hx
theorem noted_end {T H N : List (List Int)} (h1 : ∀ x ∈ T, x.length = 24) (h2 : ∀ x ∈ H, x.length = 9) (h3 : ∀ x ∈ N, x.length = 7) {n : List Int} (hn7 : n.length = 7) (ha : accOk T H N = true) (hn : noteOk n = true) (h : ∀ x ∈ N, x.getD 0 0 < n.getD 0 0) (hl : N.length < 60) :
    Does Try.prog 10 [accP T H N, .agg (rowP n)] (.tup [accP T H (N ++ [n]), .int .i64 0]) := by
  obtain ⟨e1, e2⟩ := ins_end h
  have he : ntdE T H N n = 0 := by
    unfold ntdE
    rw [if_pos ha, if_pos hn, if_neg, if_neg (by omega)]
    rw [List.any_eq_true]
    rintro ⟨x, hx, q⟩
    have := h x hx
    unfold isS at q
    rw [beq_iff_eq] at q
    omega
  have := noted_does h1 h2 h3 hn7 (fun _ => by rw [e1, e2]; exact insertEnd_does h3 (by omega) hn7)
  rw [he, if_pos rfl, e2] at this
  exact this
theorem note_ok {s k o y u : Int} (hs : 1 ≤ s ∧ s ≤ 99999) (hk : k = 1 ∨ k = 3) (ho : 1 ≤ o ∧ o ≤ 99) (hy : 0 ≤ y ∧ y ≤ 100000) (hu : 0 ≤ u ∧ u ≤ 100000) {q : Int} (hq : 1 ≤ q ∧ q ≤ 99999) : noteOk [q, s, k, o, y, u, 0] = true := by
  unfold noteOk timB sayB
  simp only [List.getD_cons_zero, List.getD_cons_succ, Bool.and_eq_true, Bool.or_eq_true, inB_iff, beq_iff_eq]
  rw [if_pos (by simpa using hk), inB_iff]
  exact ⟨hq, hs, ho, hy, hu, by simp⟩
theorem held_made {T H N : List (List Int)} (m : MadeOk T H N) {h : List Int} (hh : h ∈ H) : (10 ≤ h.getD 0 0 ∧ h.getD 0 0 ≤ 13) ∧ (0 ≤ h.getD 6 0 ∧ h.getD 6 0 < 40) ∧ (0 ≤ h.getD 7 0 ∧ h.getD 7 0 < 60) ∧ 0 ≤ h.getD 8 0 ∧ h.getD 8 0 ≤ 1000 := by
  obtain ⟨j, n, a, b, rfl⟩ := m.hm h hh
  show (10 ≤ 10 + j ∧ 10 + j ≤ 13) ∧ (0 ≤ n.getD 4 0 % 40 ∧ n.getD 4 0 % 40 < 40) ∧ (0 ≤ n.getD 5 0 % 60 ∧ n.getD 5 0 % 60 < 60) ∧ 0 ≤ (if n.getD 6 0 % 6 = 0 then n.getD 5 0 % 60 + 1 + n.getD 6 0 % 300 else 0) ∧ (if n.getD 6 0 % 6 = 0 then n.getD 5 0 % 60 + 1 + n.getD 6 0 % 300 else 0) ≤ 1000
  split <;> omega
theorem note_src {T H N : List (List Int)} (m : MadeOk T H N) : ∀ x ∈ N, x.getD 0 0 < 28 := fun x hx => by
  obtain ⟨j, n, a, b, rfl⟩ := m.nm x hx
  show 20 + j < 28
  omega
end Go.Proofs.Ytjimjdhdnkhfnaa
