/- Contracts of functions of the program and of the reference, a calculus of states, and plain facts: a part of a proof. Own text. -/
import Derived.Test.YtjimjdhdnkhfnaaGreatKae
import Derived.Test.YtjimjdhdnkhfnaaGreatKan
import Derived.Test.YtjimjdhdnkhfnaaGreatKao
import Derived.Test.YtjimjdhdnkhfnaaGreatKap
import Derived.Test.YtjimjdhdnkhfnaaGreatKaq
import Derived.Sort.OwnSortedInts
set_option linter.unusedVariables false
set_option linter.unusedSimpArgs false
set_option linter.unusedSectionVars false
set_option linter.unnecessarySimpa false
namespace Go.Proofs.YtjimjdhdnkhfnaaGreat
open Go Go.RowKit Go.Sort
set_option maxRecDepth 100000
theorem numP_flat (l : List Int) : (numP l).flatten = rowP l := by
  unfold numP rowP
  induction l with
  | nil => rfl
  | cons a l ih => simp only [List.map_cons, List.flatten_cons, ih]; rfl
theorem ints_cell (l : List Int) : ∀ u ∈ ints l, u.oneCell' = true := fun u hu => by
  obtain ⟨n, _, rfl⟩ := List.mem_map.1 hu
  rfl
theorem nums_one (l : List Int) : ∀ y ∈ numP l, y.length = 1 := fun y hy => by
  obtain ⟨n, _, rfl⟩ := List.mem_map.1 hy
  rfl
theorem compact_le (zs : List Int) : (Lib.compact zs).length ≤ zs.length := by
  unfold Lib.compact Lib.compactUpTo
  rw [List.length_map]
  exact Nat.le_trans (List.length_filter_le _ _) (by simp)
def srtL (zs : List Int) : List Int := zs.mergeSort fun x y => decide (x ≤ y)
theorem sort_does (zs : List Int) (hz : zs.length < 4611686018427387904) : DoesW Tryz.prog 152 3 1 (numP zs) (numP (srtL zs)) [] := ⟨fun us w => Tryz.call152 us w, fun w im imA base x xs us him himA hb hown hl hk hno hr => by
  obtain rfl : us = [] := hr
  rw [numP_flat] at hl
  obtain rfl : xs = ints zs := rep_ints.1 hl
  have hn : (numP zs).length = zs.length := by simp [numP]
  rw [hn] at hown
  have hlen : (srtL zs).length = zs.length := List.length_mergeSort ..
  rcases hown.2 with ⟨hv, h0⟩ | ⟨g, cap, cur, hv, hbg, hgg, hcap, hm, hsz, hcur⟩
  · obtain rfl : zs = [] := List.eq_nil_of_length_eq_zero h0
    subst hv
    refine (Tryz.slices_Sort_int_none none 0 w).mono ?_
    rintro e w' ⟨rfl, rfl⟩
    refine ⟨_, [], rfl, ⟨by simp [numP, srtL], .inl ⟨rfl, by simp [numP, srtL]⟩⟩, by simp [numP, srtL, RepL], ⟨by simp [numP, srtL], by simp⟩, ?_⟩
    exact ⟨rfl, rfl, rfl, Nat.le_refl _, fun _ _ _ => rfl⟩
  · subst hv
    rw [Nat.mul_one] at hcur
    have hHo := holds_of_blockI hgg hcur
    refine (Tryz.slices_Sort_int g 0 cap zs w hHo (Array.getElem?_eq_some_iff.1 hgg).1 hz).mono ?_
    rintro e w' ⟨rfl, n, os, rfl⟩
    refine ⟨_, ints (srtL zs), rfl, ?_, ?_, ⟨nums_one _, ints_cell _⟩, grownBy_sortedI _⟩
    · rw [show (numP (srtL zs)).length = zs.length by simp [numP, hlen]]
      exact ownsRow_sortedI hlen hbg hgg hcap hm hsz
    · rw [numP_flat]; exact rep_ints.2 rfl⟩
theorem compact_does (zs : List Int) (hz : zs.length ≤ 9223372036854775807) : DoesC Tryz.prog 153 3 1 (numP zs) [] (.list 1 (numP (Lib.compact zs))) := ⟨fun us w => Tryz.call153 us w, fun w im imA base x xs us him himA hb hown hl hk hno hr => by
  obtain rfl : us = [] := hr
  rw [numP_flat] at hl
  obtain rfl : xs = ints zs := rep_ints.1 hl
  have hn : (numP zs).length = zs.length := by simp [numP]
  rw [hn] at hown
  rcases hown.2 with ⟨hv, h0⟩ | ⟨g, cap, cur, hv, hbg, hgg, hcap, hm, hsz, hcur⟩
  · obtain rfl : zs = [] := List.eq_nil_of_length_eq_zero h0
    subst hv
    refine (Tryz.slices_Compact_int_empty none 0 w).mono ?_
    rintro e w' ⟨rfl, rfl⟩
    refine ⟨_, rfl, ?_, ⟨rfl, rfl, rfl, Nat.le_refl _, fun _ _ _ => rfl⟩⟩
    simp only [RepP]
    exact ⟨none, 0, 0, rfl, rfl, by simp, by simp, .inl rfl⟩
  · subst hv
    rw [Nat.mul_one] at hcur
    have hHo := holds_of_blockI hgg hcur
    have hcl := compact_le zs
    refine (Tryz.slices_Compact_int g 0 cap zs w hHo hz hcap).mono ?_
    rintro e w' ⟨rfl, q, rfl⟩
    have hgr := grownBy_sortedI (w := w) (g := g) (n := q) (os := #[]) (Lib.compact zs ++ List.replicate (zs.length - (Lib.compact zs).length) 0).toArray
    have hbl := heap_sortedI (w := w) (n := q) (os := #[]) (Lib.compact zs ++ List.replicate (zs.length - (Lib.compact zs).length) 0).toArray hgg
    rw [grow_empty] at hgr hbl
    refine ⟨_, rfl, ?_, hgr⟩
    have htk := take_putCellsI cur (Lib.compact zs ++ List.replicate (zs.length - (Lib.compact zs).length) 0) (by simp; omega)
    generalize putRow (Value.int .i64) (Sort.ahead w q) g 0 (Lib.compact zs ++ List.replicate (zs.length - (Lib.compact zs).length) 0).toArray = W at *
    generalize putCells (Value.int .i64) 0 (Lib.compact zs ++ List.replicate (zs.length - (Lib.compact zs).length) 0).toArray cur = cur2 at *
    simp only [RepP]
    refine ⟨_, _, cap, rfl, by simp [numP], by omega, hm, .inr ⟨g, 0, rfl, .inr ⟨.inl rfl, plain_of hbl rfl⟩, ?_⟩⟩
    refine RepE.of_flat' (us := ints (Lib.compact zs)) ⟨nums_one _, ints_cell _⟩ (fun j v hv => ?_) (by rw [numP_flat]; exact rep_ints.2 rfl)
    have hj : j < (Lib.compact zs).length := by
      have := (List.getElem?_eq_some_iff.1 hv).1
      simpa [ints] using this
    have h2 : (cur2.toList.take (Lib.compact zs ++ List.replicate (zs.length - (Lib.compact zs).length) 0).length)[j]? = some v := by
      rw [htk, List.map_append, List.getElem?_append_left (by simpa using hj)]
      exact hv
    rw [List.getElem?_take_of_lt (by simp; omega), Array.getElem?_toList] at h2
    simp only [Addr.add, Nat.zero_mul, Nat.zero_add] at *
    simp [World.cell?, hbl, h2]⟩
end Go.Proofs.YtjimjdhdnkhfnaaGreat
namespace Go.Proofs.YtjimjdhdnkhfnaaGreat
open Go Go.RowKit
set_option maxRecDepth 100000
set_option maxHeartbeats 4000000
theorem erase_perm {α : Type} : ∀ (E : List α) (j : Nat) (h : j < E.length), (E[j] :: E.eraseIdx j).Perm E
  | _ :: _, 0, _ => List.Perm.refl _
  | a :: E, j + 1, h => (List.Perm.swap a _ _).trans ((erase_perm E j (by simpa using h)).cons a)
theorem eraseIdx_rows : ∀ (E : List (List Int)) (j : Nat), (E.map rowP).eraseIdx j = (E.eraseIdx j).map rowP
  | [], _ => rfl
  | _ :: _, 0 => rfl
  | a :: E, j + 1 => by simp only [List.map_cons, List.eraseIdx_cons_succ, eraseIdx_rows E j]
theorem srt_perm {P Q : List Int} (h : P.Perm Q) : srtL P = srtL Q := by
  have hs : ∀ L : List Int, (srtL L).Pairwise (fun a b => a ≤ b) := fun L => by
    have := List.pairwise_mergeSort (le := fun x y : Int => decide (x ≤ y)) (fun a b c h1 h2 => by simp at *; omega) (fun a b => by simp; omega) L
    simpa [srtL] using this
  refine List.Perm.eq_of_pairwise (le := fun a b => a ≤ b) (fun a b _ _ h1 h2 => by omega) (hs P) (hs Q) ?_
  exact ((List.mergeSort_perm ..).trans h).trans (List.mergeSort_perm ..).symm
def froL (E : List (List Int)) : List Int := E.map fun e => e.getD 1 0
def frK (E1 E2 : List (List Int)) (k : Nat) : List Int := if k = 0 then [] else if k = 1 then froL E1 else froL E1 ++ froL E2
theorem frK0 (E1 E2 : List (List Int)) : frK E1 E2 0 = [] := rfl
theorem frK1 (E1 E2 : List (List Int)) : frK E1 E2 1 = froL E1 := rfl
theorem froL_len (E : List (List Int)) : (froL E).length = E.length := by simp [froL]
def payL (P : List Int) : List Int := Lib.compact (srtL P)
def mapV (E : List (List Int)) : PV := .map true false [.int .i64 0, .int .i64 0, .int .i64 0] (E.map rowP)
theorem payers0_does {E2 : List (List Int)} (h2 : ∀ e ∈ E2, e.length = 4) (hsz : (([] : List (List Int))).length + E2.length ≤ 100000) :
    Does Tryz.prog 139 [.list 1 [[.nilm], [mapV E2]]] (.list 1 (numP (payL (froL (([] : List (List Int))) ++ froL E2)))) := by
  obtain ⟨V, hV⟩ : ∃ V, PV.list 1 (numP (payL (froL (([] : List (List Int))) ++ froL E2))) = V := ⟨_, rfl⟩
  rw [hV]
  obtain ⟨eM, hM⟩ : ∃ es : List (List PV), [[.nilm], [mapV E2]] = es := ⟨_, rfl⟩
  rw [hM]
  refine does_of (own := inPl) Tryz.func139 rfl Tryz.ntmps139 (congrArg Array.toList Tryz.results139) (fun us w => Tryz.call139 us w) hTT mixed (Nat.le_of_ble_eq_true rfl) ?_
  intro w0 im0 D0 S Cl hS hC ar har
  have har' := har
  obtain ⟨ai, ab, nz, inr, fi, pk, ix, ln, sb, eqi, sl, fits, mn, mx, nt, be, up, fu, mg, mh, ms⟩ := ar
  have F := facts_of har
  clear har
  cbv
  refine hS _ _ _ (sem_mkRow 3 1000 3 1 (by rfl) (by rfl) (sem_loopR (fun x : Nat × Int × List (List PV) => [sR 3 1000, sL 7 1 eM, sI 8 (ln eM), sI 9 x.2.1, rW 1000 3 1 x.2.2]) (fun x => x.1 ≤ 2 ∧ x.2.1 = (x.1 : Int) ∧ ∃ P : List Int, x.2.2 = numP P ∧ P.Perm (frK (([] : List (List Int))) E2 x.1)) (fun x => 2 - x.1) (0, 0, []) (fun t => t) ⟨by rfl, by cbv; try (repeat (first | exact rfl | exact trivial | refine ⟨?_, ?_⟩))⟩ ?_ ?_))
  · exact ⟨by simp, rfl, [], rfl, List.Perm.refl _⟩
  rintro ⟨k, i, es⟩ ⟨hk, hi, P, hes, hP⟩
  dsimp only at hk hi hes hP
  have hadd : ai .add i 1 = ((k + 1 : Nat) : Int) := by rw [F.add i 1 (by omega) (by omega), hi]; simp
  have hlen : ln eM = 2 := by rw [F.ln, ← hM]; rfl
  refine sem_of (X := ⟨_, TT, ⟨0, 29, inPl⟩⟩) har' hTT mixed ?_
  intro S1 Cl1 hS1 hC1
  cbv
  by_cases hlt : k < 2
  · have hb : ab .lss i (ln eM) = true := by have h9 : (k : Int) < 2 := by omega
                                             rw [hlen, F.lss, hi]; exact decide_eq_true h9
    have walk : ∀ (E : List (List Int)) (left0 : List (List PV)), left0 = E.map rowP → (∀ e ∈ E, e.length = 4) → E.length ≤ 100000 → P.length ≤ 100000 → True := fun _ _ _ _ _ _ => trivial
    clear walk
    obtain rfl | rfl : k = 0 ∨ k = 1 := by omega
    · have hg : ix eM i = some [.nilm] := by rw [F.ix _ i 0 hi, ← hM]; rfl
      have hE4 : ∀ e ∈ (([] : List (List Int))), e.length = 4 := by simp
      have hPl : P.length + (([] : List (List Int))).length ≤ 100000 := by have := hP.length_eq; rw [frK0, List.length_nil] at this; omega
      have hnx : ∀ Q : List Int, Q.Perm (P ++ froL (([] : List (List Int)))) → Q.Perm (froL (([] : List (List Int)))) := fun Q h => h.trans (by have e := List.Perm.eq_nil hP; rw [e]; exact List.Perm.refl _)
      clear hP
      rw [hb]; cbv
      repeat (rw [hg]; cbv)
      refine hS1 _ _ _ (sem_loopR (fun y : List (List PV) × List (List PV) × List (List PV) => [sR 3 1000, sL 7 1 eM, sI 8 (ln eM), sI 9 i, (kT 14, .t (.c (.ptr 14 0))), (kB 14, .obj (.iter true false [.int .i64 0, .int .i64 0, .int .i64 0] y.1 y.2.1)), rW 1000 3 1 y.2.2]) (fun y => ∃ (E : List (List Int)) (Q : List Int), y.1 = E.map rowP ∧ y.2.2 = numP Q ∧ (∀ e ∈ E, e.length = 4) ∧ (Q ++ froL E).Perm (P ++ froL (([] : List (List Int))))) (fun y => y.1.length) ([], [], es) (fun t => t) ⟨by cbv, by cbv; try (repeat (first | exact rfl | exact trivial | refine ⟨?_, ?_⟩))⟩ ?_ ?_)
      · exact ⟨(([] : List (List Int))), P, rfl, hes, hE4, List.Perm.refl _⟩
      rintro ⟨left, cur, es'⟩ ⟨E, Q, hleft, hes', hE, hQ⟩
      dsimp only at hleft hes'
      have hQl : Q.length ≤ 100000 := by have := hQ.length_eq; rw [List.length_append, List.length_append, froL_len, froL_len] at this; omega
      have hfit : ∀ x, fits 8 es' [x] = true := fun x => F.fits _ _ _ (by rw [hes', numP_len]; simp only [List.length_singleton]; omega)
      refine sem_of (X := ⟨_, TT, ⟨0, 29, inPl⟩⟩) har' hTT mixed ?_
      intro S2 Cl2 hS2 hC2
      cbv
      refine hS2 _ _ _ (sem_next 14 rfl rfl rfl rfl rfl rfl (by rfl) (by rfl) (by rfl) (by rfl) ?_ ?_)
      · intro hl
        have hE0 : E = [] := by rw [hl] at hleft; exact List.map_eq_nil_iff.1 hleft.symm
        subst hE0
        have hfin := hnx Q (by rw [show froL [] = [] from rfl, List.append_nil] at hQ; exact hQ)
        cbv
        exact ⟨(0 + 1, ai .add i 1, es'), (fun t => t), ⟨by omega, hadd, Q, hes', hfin⟩, by dsimp only; omega, ⟨by cbv, by cbv; try (repeat (first | exact rfl | exact trivial | refine ⟨?_, ?_⟩))⟩⟩
      · intro j e he
        obtain ⟨hj, hej⟩ : ∃ h : j < E.length, rowP E[j] = e := by
          rw [hleft, List.getElem?_map] at he
          obtain ⟨a, ha, rfl⟩ := Option.map_eq_some_iff.1 he
          obtain ⟨h, rfl⟩ := List.getElem?_eq_some_iff.1 ha
          exact ⟨h, rfl⟩
        have hl1 : (left.eraseIdx j).length < left.length := by
          rw [List.length_eraseIdx, hleft, List.length_map, if_pos hj]; omega
        have hl2 : left.eraseIdx j = (E.eraseIdx j).map rowP := by rw [hleft]; exact eraseIdx_rows E j
        have hE' : ∀ x ∈ E.eraseIdx j, x.length = 4 := fun x hx => hE x (List.mem_of_mem_eraseIdx hx)
        obtain ⟨a0, a1, a2, a3, ha⟩ := list4 (hE _ (List.getElem_mem hj))
        have hQ' : (Q ++ [a1] ++ froL (E.eraseIdx j)).Perm (P ++ froL (([] : List (List Int)))) := by
          refine List.Perm.trans ?_ hQ
          rw [List.append_assoc]
          refine List.Perm.append_left _ ?_
          have := (erase_perm E j hj).map (fun e => e.getD 1 0)
          rw [ha] at this
          exact this
        rw [ha] at hej
        subst hej
        have hyes : es' ++ [[PV.int .i64 a1]] = numP (Q ++ [a1]) := by rw [hes']; exact (numP_snoc _ _).symm
        generalize left.eraseIdx j = left' at *
        cbv
        rw [hfit]; cbv
        exact ⟨(left', [[.int .i64 a0, .int .i64 a1, .int .i64 a2, .int .i64 a3]], es' ++ [[PV.int .i64 a1]]), (fun t => bif Nat.beq t 1000 then 23 else t), ⟨E.eraseIdx j, Q ++ [a1], hl2, hyes, hE', hQ'⟩, by dsimp only; omega, ⟨by cbv, by cbv; try (repeat (first | exact rfl | exact trivial | refine ⟨?_, ?_⟩))⟩⟩
    · have hg : ix eM i = some [mapV E2] := by rw [F.ix _ i 1 hi, ← hM]; rfl
      have hE4 : ∀ e ∈ E2, e.length = 4 := h2
      have hPl : P.length + E2.length ≤ 100000 := by have := hP.length_eq; rw [frK1, froL_len] at this; omega
      have hnx : ∀ Q : List Int, Q.Perm (P ++ froL E2) → Q.Perm (froL (([] : List (List Int))) ++ froL E2) := fun Q h => h.trans (by rw [frK1] at hP; exact hP.append_right _)
      clear hP
      rw [hb]; cbv
      repeat (rw [hg]; cbv)
      refine hS1 _ _ _ (sem_loopR (fun y : List (List PV) × List (List PV) × List (List PV) => [sR 3 1000, sL 7 1 eM, sI 8 (ln eM), sI 9 i, (kT 14, .t (.c (.ptr 14 0))), (kB 14, .obj (.iter true false [.int .i64 0, .int .i64 0, .int .i64 0] y.1 y.2.1)), rW 1000 3 1 y.2.2]) (fun y => ∃ (E : List (List Int)) (Q : List Int), y.1 = E.map rowP ∧ y.2.2 = numP Q ∧ (∀ e ∈ E, e.length = 4) ∧ (Q ++ froL E).Perm (P ++ froL E2)) (fun y => y.1.length) ((E2.map rowP), [], es) (fun t => t) ⟨by cbv, by cbv; try (repeat (first | exact rfl | exact trivial | refine ⟨?_, ?_⟩))⟩ ?_ ?_)
      · exact ⟨E2, P, rfl, hes, hE4, List.Perm.refl _⟩
      rintro ⟨left, cur, es'⟩ ⟨E, Q, hleft, hes', hE, hQ⟩
      dsimp only at hleft hes'
      have hQl : Q.length ≤ 100000 := by have := hQ.length_eq; rw [List.length_append, List.length_append, froL_len, froL_len] at this; omega
      have hfit : ∀ x, fits 8 es' [x] = true := fun x => F.fits _ _ _ (by rw [hes', numP_len]; simp only [List.length_singleton]; omega)
      refine sem_of (X := ⟨_, TT, ⟨0, 29, inPl⟩⟩) har' hTT mixed ?_
      intro S2 Cl2 hS2 hC2
      cbv
      refine hS2 _ _ _ (sem_next 14 rfl rfl rfl rfl rfl rfl (by rfl) (by rfl) (by rfl) (by rfl) ?_ ?_)
      · intro hl
        have hE0 : E = [] := by rw [hl] at hleft; exact List.map_eq_nil_iff.1 hleft.symm
        subst hE0
        have hfin := hnx Q (by rw [show froL [] = [] from rfl, List.append_nil] at hQ; exact hQ)
        cbv
        exact ⟨(1 + 1, ai .add i 1, es'), (fun t => t), ⟨by omega, hadd, Q, hes', hfin⟩, by dsimp only; omega, ⟨by cbv, by cbv; try (repeat (first | exact rfl | exact trivial | refine ⟨?_, ?_⟩))⟩⟩
      · intro j e he
        obtain ⟨hj, hej⟩ : ∃ h : j < E.length, rowP E[j] = e := by
          rw [hleft, List.getElem?_map] at he
          obtain ⟨a, ha, rfl⟩ := Option.map_eq_some_iff.1 he
          obtain ⟨h, rfl⟩ := List.getElem?_eq_some_iff.1 ha
          exact ⟨h, rfl⟩
        have hl1 : (left.eraseIdx j).length < left.length := by
          rw [List.length_eraseIdx, hleft, List.length_map, if_pos hj]; omega
        have hl2 : left.eraseIdx j = (E.eraseIdx j).map rowP := by rw [hleft]; exact eraseIdx_rows E j
        have hE' : ∀ x ∈ E.eraseIdx j, x.length = 4 := fun x hx => hE x (List.mem_of_mem_eraseIdx hx)
        obtain ⟨a0, a1, a2, a3, ha⟩ := list4 (hE _ (List.getElem_mem hj))
        have hQ' : (Q ++ [a1] ++ froL (E.eraseIdx j)).Perm (P ++ froL E2) := by
          refine List.Perm.trans ?_ hQ
          rw [List.append_assoc]
          refine List.Perm.append_left _ ?_
          have := (erase_perm E j hj).map (fun e => e.getD 1 0)
          rw [ha] at this
          exact this
        rw [ha] at hej
        subst hej
        have hyes : es' ++ [[PV.int .i64 a1]] = numP (Q ++ [a1]) := by rw [hes']; exact (numP_snoc _ _).symm
        generalize left.eraseIdx j = left' at *
        cbv
        rw [hfit]; cbv
        exact ⟨(left', [[.int .i64 a0, .int .i64 a1, .int .i64 a2, .int .i64 a3]], es' ++ [[PV.int .i64 a1]]), (fun t => bif Nat.beq t 1000 then 23 else t), ⟨E.eraseIdx j, Q ++ [a1], hl2, hyes, hE', hQ'⟩, by dsimp only; omega, ⟨by cbv, by cbv; try (repeat (first | exact rfl | exact trivial | refine ⟨?_, ?_⟩))⟩⟩
  · have hb : ab .lss i (ln eM) = false := by have h9 : ¬ (k : Int) < 2 := by omega
                                              rw [hlen, F.lss, hi]; exact decide_eq_false h9
    obtain rfl : k = 2 := by omega
    have hP2 : P.Perm (froL (([] : List (List Int))) ++ froL E2) := hP
    have hPl : P.length ≤ 100000 := by have := hP2.length_eq; rw [List.length_append, froL_len, froL_len] at this; omega
    have hVe : V = .list 1 (numP (Lib.compact (srtL P))) := by rw [← hV, srt_perm hP2]; rfl
    have hsl : (srtL P).length = P.length := List.length_mergeSort ..
    have hsrt := sort_does P (by omega)
    have hcmp := compact_does (srtL P) (by omega)
    subst hes
    generalize numP P = eP at *
    generalize srtL P = Z at *
    obtain ⟨eZ, hZ⟩ : ∃ es, numP Z = es := ⟨_, rfl⟩
    obtain ⟨eC, heC⟩ : ∃ es, numP (Lib.compact Z) = es := ⟨_, rfl⟩
    rw [hZ] at hsrt hcmp
    rw [heC] at hcmp hVe
    rw [hb]; cbv
    refine ⟨.own 3 1 eZ, hC _ (.own 3 1 eP :: []) (.own 3 1 eZ) (show Can Tryz.prog 152 _ _ from ⟨rfl, rfl, hsrt⟩), ?_⟩; cbv
    refine ⟨.list 1 eC, hC _ (.own 3 1 eZ :: []) (.list 1 eC) (show Can Tryz.prog 153 _ _ from hcmp), ?_⟩; cbv
    rw [hVe]
    exact PLe.refl _
theorem payers_does {E2 : List (List Int)} {E1 : List (List Int)} (h1 : ∀ e ∈ E1, e.length = 4) (h2 : ∀ e ∈ E2, e.length = 4) (hsz : (E1).length + E2.length ≤ 100000) :
    Does Tryz.prog 139 [.list 1 [[mapV E1], [mapV E2]]] (.list 1 (numP (payL (froL (E1) ++ froL E2)))) := by
  obtain ⟨V, hV⟩ : ∃ V, PV.list 1 (numP (payL (froL (E1) ++ froL E2))) = V := ⟨_, rfl⟩
  rw [hV]
  obtain ⟨eM, hM⟩ : ∃ es : List (List PV), [[mapV E1], [mapV E2]] = es := ⟨_, rfl⟩
  rw [hM]
  refine does_of (own := inPl) Tryz.func139 rfl Tryz.ntmps139 (congrArg Array.toList Tryz.results139) (fun us w => Tryz.call139 us w) hTT mixed (Nat.le_of_ble_eq_true rfl) ?_
  intro w0 im0 D0 S Cl hS hC ar har
  have har' := har
  obtain ⟨ai, ab, nz, inr, fi, pk, ix, ln, sb, eqi, sl, fits, mn, mx, nt, be, up, fu, mg, mh, ms⟩ := ar
  have F := facts_of har
  clear har
  cbv
  refine hS _ _ _ (sem_mkRow 3 1000 3 1 (by rfl) (by rfl) (sem_loopR (fun x : Nat × Int × List (List PV) => [sR 3 1000, sL 7 1 eM, sI 8 (ln eM), sI 9 x.2.1, rW 1000 3 1 x.2.2]) (fun x => x.1 ≤ 2 ∧ x.2.1 = (x.1 : Int) ∧ ∃ P : List Int, x.2.2 = numP P ∧ P.Perm (frK (E1) E2 x.1)) (fun x => 2 - x.1) (0, 0, []) (fun t => t) ⟨by rfl, by cbv; try (repeat (first | exact rfl | exact trivial | refine ⟨?_, ?_⟩))⟩ ?_ ?_))
  · exact ⟨by simp, rfl, [], rfl, List.Perm.refl _⟩
  rintro ⟨k, i, es⟩ ⟨hk, hi, P, hes, hP⟩
  dsimp only at hk hi hes hP
  have hadd : ai .add i 1 = ((k + 1 : Nat) : Int) := by rw [F.add i 1 (by omega) (by omega), hi]; simp
  have hlen : ln eM = 2 := by rw [F.ln, ← hM]; rfl
  refine sem_of (X := ⟨_, TT, ⟨0, 29, inPl⟩⟩) har' hTT mixed ?_
  intro S1 Cl1 hS1 hC1
  cbv
  by_cases hlt : k < 2
  · have hb : ab .lss i (ln eM) = true := by have h9 : (k : Int) < 2 := by omega
                                             rw [hlen, F.lss, hi]; exact decide_eq_true h9
    have walk : ∀ (E : List (List Int)) (left0 : List (List PV)), left0 = E.map rowP → (∀ e ∈ E, e.length = 4) → E.length ≤ 100000 → P.length ≤ 100000 → True := fun _ _ _ _ _ _ => trivial
    clear walk
    obtain rfl | rfl : k = 0 ∨ k = 1 := by omega
    · have hg : ix eM i = some [mapV E1] := by rw [F.ix _ i 0 hi, ← hM]; rfl
      have hE4 : ∀ e ∈ (E1), e.length = 4 := h1
      have hPl : P.length + (E1).length ≤ 100000 := by have := hP.length_eq; rw [frK0, List.length_nil] at this; omega
      have hnx : ∀ Q : List Int, Q.Perm (P ++ froL (E1)) → Q.Perm (froL (E1)) := fun Q h => h.trans (by have e := List.Perm.eq_nil hP; rw [e]; exact List.Perm.refl _)
      clear hP
      rw [hb]; cbv
      repeat (rw [hg]; cbv)
      refine hS1 _ _ _ (sem_loopR (fun y : List (List PV) × List (List PV) × List (List PV) => [sR 3 1000, sL 7 1 eM, sI 8 (ln eM), sI 9 i, (kT 14, .t (.c (.ptr 14 0))), (kB 14, .obj (.iter true false [.int .i64 0, .int .i64 0, .int .i64 0] y.1 y.2.1)), rW 1000 3 1 y.2.2]) (fun y => ∃ (E : List (List Int)) (Q : List Int), y.1 = E.map rowP ∧ y.2.2 = numP Q ∧ (∀ e ∈ E, e.length = 4) ∧ (Q ++ froL E).Perm (P ++ froL (E1))) (fun y => y.1.length) (((E1).map rowP), [], es) (fun t => t) ⟨by cbv, by cbv; try (repeat (first | exact rfl | exact trivial | refine ⟨?_, ?_⟩))⟩ ?_ ?_)
      · exact ⟨(E1), P, rfl, hes, hE4, List.Perm.refl _⟩
      rintro ⟨left, cur, es'⟩ ⟨E, Q, hleft, hes', hE, hQ⟩
      dsimp only at hleft hes'
      have hQl : Q.length ≤ 100000 := by have := hQ.length_eq; rw [List.length_append, List.length_append, froL_len, froL_len] at this; omega
      have hfit : ∀ x, fits 8 es' [x] = true := fun x => F.fits _ _ _ (by rw [hes', numP_len]; simp only [List.length_singleton]; omega)
      refine sem_of (X := ⟨_, TT, ⟨0, 29, inPl⟩⟩) har' hTT mixed ?_
      intro S2 Cl2 hS2 hC2
      cbv
      refine hS2 _ _ _ (sem_next 14 rfl rfl rfl rfl rfl rfl (by rfl) (by rfl) (by rfl) (by rfl) ?_ ?_)
      · intro hl
        have hE0 : E = [] := by rw [hl] at hleft; exact List.map_eq_nil_iff.1 hleft.symm
        subst hE0
        have hfin := hnx Q (by rw [show froL [] = [] from rfl, List.append_nil] at hQ; exact hQ)
        cbv
        exact ⟨(0 + 1, ai .add i 1, es'), (fun t => t), ⟨by omega, hadd, Q, hes', hfin⟩, by dsimp only; omega, ⟨by cbv, by cbv; try (repeat (first | exact rfl | exact trivial | refine ⟨?_, ?_⟩))⟩⟩
      · intro j e he
        obtain ⟨hj, hej⟩ : ∃ h : j < E.length, rowP E[j] = e := by
          rw [hleft, List.getElem?_map] at he
          obtain ⟨a, ha, rfl⟩ := Option.map_eq_some_iff.1 he
          obtain ⟨h, rfl⟩ := List.getElem?_eq_some_iff.1 ha
          exact ⟨h, rfl⟩
        have hl1 : (left.eraseIdx j).length < left.length := by
          rw [List.length_eraseIdx, hleft, List.length_map, if_pos hj]; omega
        have hl2 : left.eraseIdx j = (E.eraseIdx j).map rowP := by rw [hleft]; exact eraseIdx_rows E j
        have hE' : ∀ x ∈ E.eraseIdx j, x.length = 4 := fun x hx => hE x (List.mem_of_mem_eraseIdx hx)
        obtain ⟨a0, a1, a2, a3, ha⟩ := list4 (hE _ (List.getElem_mem hj))
        have hQ' : (Q ++ [a1] ++ froL (E.eraseIdx j)).Perm (P ++ froL (E1)) := by
          refine List.Perm.trans ?_ hQ
          rw [List.append_assoc]
          refine List.Perm.append_left _ ?_
          have := (erase_perm E j hj).map (fun e => e.getD 1 0)
          rw [ha] at this
          exact this
        rw [ha] at hej
        subst hej
        have hyes : es' ++ [[PV.int .i64 a1]] = numP (Q ++ [a1]) := by rw [hes']; exact (numP_snoc _ _).symm
        generalize left.eraseIdx j = left' at *
        cbv
        rw [hfit]; cbv
        exact ⟨(left', [[.int .i64 a0, .int .i64 a1, .int .i64 a2, .int .i64 a3]], es' ++ [[PV.int .i64 a1]]), (fun t => bif Nat.beq t 1000 then 23 else t), ⟨E.eraseIdx j, Q ++ [a1], hl2, hyes, hE', hQ'⟩, by dsimp only; omega, ⟨by cbv, by cbv; try (repeat (first | exact rfl | exact trivial | refine ⟨?_, ?_⟩))⟩⟩
    · have hg : ix eM i = some [mapV E2] := by rw [F.ix _ i 1 hi, ← hM]; rfl
      have hE4 : ∀ e ∈ E2, e.length = 4 := h2
      have hPl : P.length + E2.length ≤ 100000 := by have := hP.length_eq; rw [frK1, froL_len] at this; omega
      have hnx : ∀ Q : List Int, Q.Perm (P ++ froL E2) → Q.Perm (froL (E1) ++ froL E2) := fun Q h => h.trans (by rw [frK1] at hP; exact hP.append_right _)
      clear hP
      rw [hb]; cbv
      repeat (rw [hg]; cbv)
      refine hS1 _ _ _ (sem_loopR (fun y : List (List PV) × List (List PV) × List (List PV) => [sR 3 1000, sL 7 1 eM, sI 8 (ln eM), sI 9 i, (kT 14, .t (.c (.ptr 14 0))), (kB 14, .obj (.iter true false [.int .i64 0, .int .i64 0, .int .i64 0] y.1 y.2.1)), rW 1000 3 1 y.2.2]) (fun y => ∃ (E : List (List Int)) (Q : List Int), y.1 = E.map rowP ∧ y.2.2 = numP Q ∧ (∀ e ∈ E, e.length = 4) ∧ (Q ++ froL E).Perm (P ++ froL E2)) (fun y => y.1.length) ((E2.map rowP), [], es) (fun t => t) ⟨by cbv, by cbv; try (repeat (first | exact rfl | exact trivial | refine ⟨?_, ?_⟩))⟩ ?_ ?_)
      · exact ⟨E2, P, rfl, hes, hE4, List.Perm.refl _⟩
      rintro ⟨left, cur, es'⟩ ⟨E, Q, hleft, hes', hE, hQ⟩
      dsimp only at hleft hes'
      have hQl : Q.length ≤ 100000 := by have := hQ.length_eq; rw [List.length_append, List.length_append, froL_len, froL_len] at this; omega
      have hfit : ∀ x, fits 8 es' [x] = true := fun x => F.fits _ _ _ (by rw [hes', numP_len]; simp only [List.length_singleton]; omega)
      refine sem_of (X := ⟨_, TT, ⟨0, 29, inPl⟩⟩) har' hTT mixed ?_
      intro S2 Cl2 hS2 hC2
      cbv
      refine hS2 _ _ _ (sem_next 14 rfl rfl rfl rfl rfl rfl (by rfl) (by rfl) (by rfl) (by rfl) ?_ ?_)
      · intro hl
        have hE0 : E = [] := by rw [hl] at hleft; exact List.map_eq_nil_iff.1 hleft.symm
        subst hE0
        have hfin := hnx Q (by rw [show froL [] = [] from rfl, List.append_nil] at hQ; exact hQ)
        cbv
        exact ⟨(1 + 1, ai .add i 1, es'), (fun t => t), ⟨by omega, hadd, Q, hes', hfin⟩, by dsimp only; omega, ⟨by cbv, by cbv; try (repeat (first | exact rfl | exact trivial | refine ⟨?_, ?_⟩))⟩⟩
      · intro j e he
        obtain ⟨hj, hej⟩ : ∃ h : j < E.length, rowP E[j] = e := by
          rw [hleft, List.getElem?_map] at he
          obtain ⟨a, ha, rfl⟩ := Option.map_eq_some_iff.1 he
          obtain ⟨h, rfl⟩ := List.getElem?_eq_some_iff.1 ha
          exact ⟨h, rfl⟩
        have hl1 : (left.eraseIdx j).length < left.length := by
          rw [List.length_eraseIdx, hleft, List.length_map, if_pos hj]; omega
        have hl2 : left.eraseIdx j = (E.eraseIdx j).map rowP := by rw [hleft]; exact eraseIdx_rows E j
        have hE' : ∀ x ∈ E.eraseIdx j, x.length = 4 := fun x hx => hE x (List.mem_of_mem_eraseIdx hx)
        obtain ⟨a0, a1, a2, a3, ha⟩ := list4 (hE _ (List.getElem_mem hj))
        have hQ' : (Q ++ [a1] ++ froL (E.eraseIdx j)).Perm (P ++ froL E2) := by
          refine List.Perm.trans ?_ hQ
          rw [List.append_assoc]
          refine List.Perm.append_left _ ?_
          have := (erase_perm E j hj).map (fun e => e.getD 1 0)
          rw [ha] at this
          exact this
        rw [ha] at hej
        subst hej
        have hyes : es' ++ [[PV.int .i64 a1]] = numP (Q ++ [a1]) := by rw [hes']; exact (numP_snoc _ _).symm
        generalize left.eraseIdx j = left' at *
        cbv
        rw [hfit]; cbv
        exact ⟨(left', [[.int .i64 a0, .int .i64 a1, .int .i64 a2, .int .i64 a3]], es' ++ [[PV.int .i64 a1]]), (fun t => bif Nat.beq t 1000 then 23 else t), ⟨E.eraseIdx j, Q ++ [a1], hl2, hyes, hE', hQ'⟩, by dsimp only; omega, ⟨by cbv, by cbv; try (repeat (first | exact rfl | exact trivial | refine ⟨?_, ?_⟩))⟩⟩
  · have hb : ab .lss i (ln eM) = false := by have h9 : ¬ (k : Int) < 2 := by omega
                                              rw [hlen, F.lss, hi]; exact decide_eq_false h9
    obtain rfl : k = 2 := by omega
    have hP2 : P.Perm (froL (E1) ++ froL E2) := hP
    have hPl : P.length ≤ 100000 := by have := hP2.length_eq; rw [List.length_append, froL_len, froL_len] at this; omega
    have hVe : V = .list 1 (numP (Lib.compact (srtL P))) := by rw [← hV, srt_perm hP2]; rfl
    have hsl : (srtL P).length = P.length := List.length_mergeSort ..
    have hsrt := sort_does P (by omega)
    have hcmp := compact_does (srtL P) (by omega)
    subst hes
    generalize numP P = eP at *
    generalize srtL P = Z at *
    obtain ⟨eZ, hZ⟩ : ∃ es, numP Z = es := ⟨_, rfl⟩
    obtain ⟨eC, heC⟩ : ∃ es, numP (Lib.compact Z) = es := ⟨_, rfl⟩
    rw [hZ] at hsrt hcmp
    rw [heC] at hcmp hVe
    rw [hb]; cbv
    refine ⟨.own 3 1 eZ, hC _ (.own 3 1 eP :: []) (.own 3 1 eZ) (show Can Tryz.prog 152 _ _ from ⟨rfl, rfl, hsrt⟩), ?_⟩; cbv
    refine ⟨.list 1 eC, hC _ (.own 3 1 eZ :: []) (.list 1 eC) (show Can Tryz.prog 153 _ _ from hcmp), ?_⟩; cbv
    rw [hVe]
    exact PLe.refl _
def inPay : List FuncId := 139 :: inPl
theorem doesC_of_does {P : Program} {f : FuncId} {e : TypeId} {k : Nat} {es : List (List PV)} {v : PV} (h : Does P f [.list k es] v) : DoesC P f e k es [] v := ⟨h.1, fun w im imA base x xs us him himA hb hown hl hk hno hr => by
  obtain rfl : us = [] := hr
  have hpl : ∀ b, (im b ∨ x.ownBlock = some b) → Plain w b := fun b hb => by
    rcases hb with hb | hb
    · exact him b hb
    · rcases hown.2 with ⟨hv, _⟩ | ⟨g, cap, cur, hv, hbg, hgg, _⟩
      · rw [hv] at hb; cases hb
      · rw [hv] at hb
        obtain rfl : g = b := by simpa [Value.ownBlock] using hb
        exact plain_of hgg rfl
  have hrep : RepP (fun b => im b ∨ x.ownBlock = some b) w (.list k es) x := by
    simp only [RepP]
    rcases hown.2 with ⟨hv, h0⟩ | ⟨g, cap, cur, hv, hbg, hgg, hcap, hm, _, _⟩
    · exact ⟨none, 0, 0, hv, h0.symm, by simp, by simp, .inl (List.eq_nil_of_length_eq_zero h0)⟩
    · refine ⟨_, _, cap, hv, rfl, hcap, hm, .inr ⟨g, 0, rfl, .inr (by rw [hv]; rfl), ?_⟩⟩
      refine RepE.of_flat' hk (fun j v hv' => ?_) (RepL.keep (fun b hb => ⟨.inl hb, rfl⟩) _ _ hl)
      have := hown.cells (g := g) (by rw [hv]; rfl) j v hv'
      rwa [Addr.add_mid] at this
  refine (h.2 w _ [x] hpl ⟨x, [], rfl, hrep, rfl⟩).mono ?_
  rintro e' w' ⟨u, rfl, hu, hbl⟩
  refine ⟨u, rfl, RepP.keep (fun b hb => ⟨?_, rfl⟩) v u hu, ⟨hbl.os, hbl.tape, hbl.output, hbl.size, fun b hb _ => hbl.block b hb⟩⟩
  rcases hb with (hb | hb) | ⟨hb, hp⟩
  · exact .inl hb
  · refine .inr ⟨.inl hb, ?_⟩
    exact (hpl b (.inr hb)).keep hbl.size (hbl.block b (hpl b (.inr hb)).1)
  · exact .inr ⟨.inr hb, hp⟩⟩
def getI (E : List (List Int)) (key : List Int) : Int := match E.find? (fun e => e.take 3 == key) with
  | some e => e.getD 3 0
  | none => 0
theorem mGet_rows : ∀ {E : List (List Int)} (_ : ∀ e ∈ E, e.length = 4) (key : List Int), mGet 3 (E.map rowP) (rowP key) [.int .i64 0] = [.int .i64 (getI E key)] := fun {E} h key => by
  have gen : ∀ (E : List (List Int)), (∀ e ∈ E, e.length = 4) → (mFind 3 (rowP key) (E.map rowP) = none ∧ E.find? (fun e => e.take 3 == key) = none) ∨ ∃ i e, mFind 3 (rowP key) (E.map rowP) = some i ∧ E[i]? = some e ∧ E.find? (fun e => e.take 3 == key) = some e := fun E => by
    induction E with
    | nil => intro _; exact .inl ⟨rfl, rfl⟩
    | cons a E ih =>
      intro h
      have hq : eqPs (rowP key) ((rowP a).take 3) = (a.take 3 == key) := by
        rw [show (rowP a).take 3 = rowP (a.take 3) by unfold rowP; rw [List.map_take], eqPs_rows]
        exact Bool.beq_comm
      cases hk : (a.take 3 == key) with
      | true => exact .inr ⟨0, a, by simp only [List.map_cons, mFind, hq, hk, if_true], rfl, by simp only [List.find?_cons, hk]⟩
      | false =>
        rcases ih (fun e he => h e (by simp [he])) with ⟨h1, h2⟩ | ⟨i, e, h1, h2, h3⟩
        · exact .inl ⟨by simp only [List.map_cons, mFind, hq, hk, h1, Bool.false_eq_true, if_false, Option.map_none], by simp only [List.find?_cons, hk]; exact h2⟩
        · exact .inr ⟨i + 1, e, by simp only [List.map_cons, mFind, hq, hk, h1, Bool.false_eq_true, if_false, Option.map_some], by simpa using h2, by simp only [List.find?_cons, hk]; exact h3⟩
  unfold mGet getI
  rcases gen E h with ⟨h1, h2⟩ | ⟨i, e, h1, h2, h3⟩
  · rw [h1, h2]
  · rw [h1, h3]
    have hi := List.getElem?_eq_some_iff.1 h2
    obtain ⟨hi, rfl⟩ := hi
    obtain ⟨a0, a1, a2, a3, ha⟩ := list4 (h _ (List.getElem_mem hi))
    have : (E.map rowP).getD i [] = rowP E[i] := by simp [List.getD, hi]
    show ((E.map rowP).getD i []).drop 3 = [.int .i64 (E[i].getD 3 0)]
    rw [this, ha]; rfl
theorem getI_in {E : List (List Int)} {b : Int} (hb : 0 ≤ b) (h : ∀ e ∈ E, -b ≤ e.getD 3 0 ∧ e.getD 3 0 ≤ b) (key : List Int) : -b ≤ getI E key ∧ getI E key ≤ b := by
  unfold getI
  split
  · rename_i e he; exact h e (List.mem_of_find?_eq_some he)
  · omega
theorem flat_takeG {α β : Type} {f : α → List β} {P : List α} {k : Nat} (hk : k < P.length) : (P.take (k + 1)).flatMap f = (P.take k).flatMap f ++ f P[k] := by rw [take_last hk, List.flatMap_append]; simp
theorem flat_le {α β : Type} {f : α → List β} {c : Nat} : ∀ {L : List α}, (∀ x ∈ L, (f x).length ≤ c) → (L.flatMap f).length ≤ L.length * c
  | [], _ => by simp
  | x :: L, h => by
    have h1 := h x (by simp)
    have h2 := flat_le (L := L) fun y hy => h y (by simp [hy])
    simp only [List.flatMap_cons, List.length_append, List.length_cons, Nat.succ_mul]
    omega
def chP (E1 E2 : List (List Int)) (day : Int) (h : List Int) (to q : Int) : List (List Int) :=
  if (getI E2 [h.getD 0 0, q, to] - getI E1 [h.getD 0 0, q, to] != 0 && q != to) = true then [[day, h.getD 0 0, q, to, getI E2 [h.getD 0 0, q, to] - getI E1 [h.getD 0 0, q, to]]] else []
def chR (E1 E2 : List (List Int)) (day : Int) (P : List Int) (h : List Int) (to : Int) : List (List Int) := P.flatMap (chP E1 E2 day h to)
def chH (E1 E2 : List (List Int)) (day : Int) (P : List Int) (h : List Int) : List (List Int) := (rcvL h).flatMap (chR E1 E2 day P h)
def chaL (H E1 E2 : List (List Int)) (day : Int) : List (List Int) := H.flatMap (chH E1 E2 day (payL (froL E1 ++ froL E2)))
theorem chP_le (E1 E2 : List (List Int)) (day : Int) (h : List Int) (to q : Int) : (chP E1 E2 day h to q).length ≤ 1 := by unfold chP; split <;> simp
theorem chR_le (E1 E2 : List (List Int)) (day : Int) (P : List Int) (h : List Int) (to : Int) : (chR E1 E2 day P h to).length ≤ P.length := by
  have := flat_le (L := P) fun x _ => chP_le E1 E2 day h to x
  unfold chR; omega
theorem rcv_len (h : List Int) : (rcvL h).length ≤ 3 := by unfold rcvL; split <;> simp
theorem chH_le (E1 E2 : List (List Int)) (day : Int) (P : List Int) (h : List Int) : (chH E1 E2 day P h).length ≤ 3 * P.length := by
  have h1 := flat_le (L := rcvL h) fun x _ => chR_le E1 E2 day P h x
  have h2 := Nat.mul_le_mul_right P.length (rcv_len h)
  unfold chH; omega
theorem payL_len (P : List Int) : (payL P).length ≤ P.length := by
  have := compact_le (srtL P)
  have h2 : (srtL P).length = P.length := List.length_mergeSort ..
  unfold payL; omega
theorem changes0_does {T H N : List (List Int)} (h2 : ∀ x ∈ H, x.length = 9) (hb5 : ∀ x ∈ H, 0 ≤ x.getD 5 0 ∧ x.getD 5 0 ≤ 99) (h60 : H.length ≤ 60) {E2 : List (List Int)} (h42 : ∀ e ∈ E2, e.length = 4)
    (hb2 : ∀ e ∈ E2, -1000000000000 ≤ e.getD 3 0 ∧ e.getD 3 0 ≤ 1000000000000) (hsz : (([] : List (List Int))).length + E2.length ≤ 1000) (day : Int) :
    Does Tryz.prog 104 [accP T H N, .int .i64 day, .nilm, mapV E2] (.list 5 ((chaL H (([] : List (List Int))) E2 day).map rowP)) := by
  have hpay := payers0_does h42 (by omega)
  have hPl : (payL (froL (([] : List (List Int))) ++ froL E2)).length ≤ 1000 := by
    have := payL_len (froL (([] : List (List Int))) ++ froL E2)
    rw [List.length_append, froL_len, froL_len] at this
    omega
  unfold chaL
  obtain ⟨P, hP⟩ : ∃ P, payL (froL (([] : List (List Int))) ++ froL E2) = P := ⟨_, rfl⟩
  rw [hP] at hpay hPl ⊢
  have hm1 : ∀ x q t : Int, mGet 3 [] [.int .i64 x, .int .i64 q, .int .i64 t] [.int .i64 0] = [.int .i64 (getI (([] : List (List Int))) [x, q, t])] := fun x q t => rfl
  have hm2 : ∀ x q t : Int, mGet 3 (E2.map rowP) [.int .i64 x, .int .i64 q, .int .i64 t] [.int .i64 0] = [.int .i64 (getI E2 [x, q, t])] := fun x q t => mGet_rows h42 [x, q, t]
  have hi1 : ∀ key, -1000000000000 ≤ getI (([] : List (List Int))) key ∧ getI (([] : List (List Int))) key ≤ 1000000000000 := fun key => getI_in (by omega) (by simp) key
  have hi2 : ∀ key, -1000000000000 ≤ getI E2 key ∧ getI E2 key ≤ 1000000000000 := fun key => getI_in (by omega) hb2 key
  obtain ⟨V, hV⟩ : ∃ V, PV.list 5 ((H.flatMap (chH (([] : List (List Int))) E2 day P)).map rowP) = V := ⟨_, rfl⟩
  rw [hV]
  have hHle : ∀ k, ((H.take k).flatMap (chH (([] : List (List Int))) E2 day P)).length ≤ 180000 := fun k => by
    have h1 := flat_le (L := H.take k) (c := 3000) fun x _ => show (chH (([] : List (List Int))) E2 day P x).length ≤ 3000 from by have := chH_le (([] : List (List Int))) E2 day P x; omega
    have h2 : (H.take k).length ≤ 60 := by rw [List.length_take]; omega
    have h3 := Nat.mul_le_mul_right 3000 h2
    omega
  have hrcv : ∀ x ∈ H, Does Tryz.prog 138 [.agg (rowP x)] (.list 1 (numP (rcvL x))) := fun x hx => receivers_does (h2 x hx) (hb5 x hx)
  obtain ⟨eT, hT1⟩ : ∃ es, T.map rowP = es := ⟨_, rfl⟩
  obtain ⟨eH, hH1⟩ : ∃ es, H.map rowP = es := ⟨_, rfl⟩
  obtain ⟨eN, hN1⟩ : ∃ es, N.map rowP = es := ⟨_, rfl⟩
  obtain ⟨e2, he2⟩ : ∃ es, E2.map rowP = es := ⟨_, rfl⟩
  obtain ⟨eP, heP⟩ : ∃ es, numP P = es := ⟨_, rfl⟩
  simp only [mapV, accP, hT1, hH1, hN1, he2, heP] at hpay hm1 hm2 ⊢
  refine does_of (own := inPay) Tryz.func104 rfl Tryz.ntmps104 (congrArg Array.toList Tryz.results104) (fun us w => Tryz.call104 us w) hTT mixed (Nat.le_of_ble_eq_true rfl) ?_
  intro w0 im0 D0 S Cl hS hC ar har
  have har' := har
  obtain ⟨ai, ab, nz, inr, fi, pk, ix, ln, sb, eqi, sl, fits, mn, mx, nt, be, up, fu, mg, mh, ms⟩ := ar
  have F := facts_of har
  clear har
  have hlH : ln eH = H.length := by rw [F.ln, ← hH1]; simp
  have hlP : ln eP = P.length := by rw [F.ln, ← heP]; simp [numP]
  cbv
  refine ⟨.list 1 eP, hC _ (.own 140 1 _ :: []) (.list 1 eP) (show Can Tryz.prog 139 (.own 140 1 _ :: []) (.list 1 eP) from doesC_of_does hpay), ?_⟩; cbv
  refine hS _ _ _ (sem_mkRow 9 1000 73 5 (by rfl) (by rfl) (sem_loopR (fun x : Nat × Int × List (List PV) => [sI 1 day, (kT 2, .t (.c (.p (.nilm)))), (kT 3, .t (.c (.p (.map true false [.int .i64 0, .int .i64 0, .int .i64 0] e2)))), sP 4 4, sR 9 1000, sL 10 1 eP, sL 24 9 eH, sI 25 (ln eH), sI 26 x.2.1, bX 4 26 [cL 24 eT, cL 9 eH, cL 7 eN], rW 1000 73 5 x.2.2]) (fun x => x.1 ≤ H.length ∧ x.2.1 = (x.1 : Int) ∧ x.2.2 = ((H.take x.1).flatMap (chH (([] : List (List Int))) E2 day P)).map rowP) (fun x => H.length - x.1) (0, 0, []) (fun t => t) ⟨by rfl, by cbv; try (repeat (first | exact rfl | exact trivial | refine ⟨?_, ?_⟩))⟩ ?_ ?_))
  · exact ⟨by simp, rfl, rfl⟩
  rintro ⟨k, i, es⟩ ⟨hk, hi, hes⟩
  dsimp only at hk hi hes
  have hadd : ai .add i 1 = ((k + 1 : Nat) : Int) := by rw [F.add i 1 (by omega) (by omega), hi]; simp
  refine sem_of (X := ⟨_, TT, ⟨0, 76, inPay⟩⟩) har' hTT mixed ?_
  intro S1 Cl1 hS1 hC1
  cbv
  by_cases hlt : k < H.length
  · have hb : ab .lss i (ln eH) = true := by rw [hlH, F.lss, hi]; simpa using hlt
    have hg : ix eH i = some (rowP H[k]) := by rw [F.ix _ i k hi, ← hH1]; exact get_rows hlt
    have hrc := hrcv _ (List.getElem_mem hlt)
    have hAl := hHle k
    have hnext : (H.take (k + 1)).flatMap (chH (([] : List (List Int))) E2 day P) = (H.take k).flatMap (chH (([] : List (List Int))) E2 day P) ++ chH (([] : List (List Int))) E2 day P H[k] := by rw [take_last hlt, List.flatMap_append]; simp
    generalize (H.take k).flatMap (chH (([] : List (List Int))) E2 day P) = A at *
    have hx9 := h2 _ (List.getElem_mem hlt)
    generalize H[k] = x at *
    have hRl := rcv_len x
    have hcH : chH (([] : List (List Int))) E2 day P x = (rcvL x).flatMap (chR (([] : List (List Int))) E2 day P x) := rfl
    rw [hcH] at hnext
    clear hcH
    generalize rcvL x = rc at *
    obtain ⟨x0, x1, x2, x3, x4, x5, x6, x7, x8, rfl⟩ := list9 hx9
    obtain ⟨eR, hER⟩ : ∃ es, numP rc = es := ⟨_, rfl⟩
    have hlR : ln eR = rc.length := by rw [F.ln, ← hER]; simp [numP]
    rw [hER] at hrc
    rw [hb]; cbv
    repeat (rw [hg]; cbv)
    refine ⟨_, hC1 _ _ _ hrc, ?_⟩; cbv
    refine hS1 _ _ _ (sem_loopR (fun y : Nat × Int × List (List PV) => [sI 1 day, (kT 2, .t (.c (.p (.nilm)))), (kT 3, .t (.c (.p (.map true false [.int .i64 0, .int .i64 0, .int .i64 0] e2)))), sP 4 4, sR 9 1000, sL 10 1 eP, sP 12 12, sL 24 9 eH, sI 25 (ln eH), sI 26 i, sL 31 1 eR, sI 32 (ln eR), sI 33 y.2.1, bX 4 26 [cL 24 eT, cL 9 eH, cL 7 eN], bX 12 32 [cI x0, cI x1, cI x2, cI x3, cI x4, cI x5, cI x6, cI x7, cI x8], rW 1000 73 5 y.2.2]) (fun y => y.1 ≤ rc.length ∧ y.2.1 = (y.1 : Int) ∧ y.2.2 = (A ++ (rc.take y.1).flatMap (chR (([] : List (List Int))) E2 day P [x0, x1, x2, x3, x4, x5, x6, x7, x8])).map rowP) (fun y => rc.length - y.1) (0, 0, es) (fun t => t) ⟨by cbv, by cbv; try (repeat (first | exact rfl | exact trivial | refine ⟨?_, ?_⟩))⟩ ?_ ?_)
    · exact ⟨by simp, rfl, by rw [hes]; simp⟩
    rintro ⟨m, r, es1⟩ ⟨hm, hr, hes1⟩
    dsimp only at hm hr hes1
    have hradd : ai .add r 1 = ((m + 1 : Nat) : Int) := by rw [F.add r 1 (by omega) (by omega), hr]; simp
    refine sem_of (X := ⟨_, TT, ⟨0, 76, inPay⟩⟩) har' hTT mixed ?_
    intro S2 Cl2 hS2 hC2
    cbv
    by_cases hlt1 : m < rc.length
    · have hb1 : ab .lss r (ln eR) = true := by rw [hlR, F.lss, hr]; simpa using hlt1
      have hg1 : ix eR r = some [.int .i64 rc[m]] := by rw [F.ix _ r m hr, ← hER]; exact get_nums hlt1
      have hnext1 : (rc.take (m + 1)).flatMap (chR (([] : List (List Int))) E2 day P [x0, x1, x2, x3, x4, x5, x6, x7, x8]) = (rc.take m).flatMap (chR (([] : List (List Int))) E2 day P [x0, x1, x2, x3, x4, x5, x6, x7, x8]) ++ chR (([] : List (List Int))) E2 day P [x0, x1, x2, x3, x4, x5, x6, x7, x8] rc[m] := flat_takeG hlt1
      have hBl : ((rc.take m).flatMap (chR (([] : List (List Int))) E2 day P [x0, x1, x2, x3, x4, x5, x6, x7, x8])).length ≤ 3000 := by
        have h1 := flat_le (L := rc.take m) (c := 1000) fun z _ => show (chR (([] : List (List Int))) E2 day P [x0, x1, x2, x3, x4, x5, x6, x7, x8] z).length ≤ 1000 from by have := chR_le (([] : List (List Int))) E2 day P [x0, x1, x2, x3, x4, x5, x6, x7, x8] z; omega
        have h3 := Nat.mul_le_mul_right 1000 (show (rc.take m).length ≤ 3 by rw [List.length_take]; omega)
        omega
      generalize (rc.take m).flatMap (chR (([] : List (List Int))) E2 day P [x0, x1, x2, x3, x4, x5, x6, x7, x8]) = B at *
      generalize rc[m] = to at *
      have hcR : chR (([] : List (List Int))) E2 day P [x0, x1, x2, x3, x4, x5, x6, x7, x8] to = P.flatMap (chP (([] : List (List Int))) E2 day [x0, x1, x2, x3, x4, x5, x6, x7, x8] to) := rfl
      rw [hcR] at hnext1
      clear hcR
      rw [hb1]; cbv
      repeat (rw [hg1]; cbv)
      refine hS2 _ _ _ (sem_loopR (fun z : Nat × Int × List (List PV) => [sI 1 day, (kT 2, .t (.c (.p (.nilm)))), (kT 3, .t (.c (.p (.map true false [.int .i64 0, .int .i64 0, .int .i64 0] e2)))), sP 4 4, sR 9 1000, sL 10 1 eP, sP 12 12, sI 14 to, sL 24 9 eH, sI 25 (ln eH), sI 26 i, sL 31 1 eR, sI 32 (ln eR), sI 33 r, sL 37 1 eP, sI 38 (ln eP), sI 39 z.2.1, bX 4 26 [cL 24 eT, cL 9 eH, cL 7 eN], bX 12 32 [cI x0, cI x1, cI x2, cI x3, cI x4, cI x5, cI x6, cI x7, cI x8], rW 1000 73 5 z.2.2]) (fun z => z.1 ≤ P.length ∧ z.2.1 = (z.1 : Int) ∧ z.2.2 = (A ++ B ++ (P.take z.1).flatMap (chP (([] : List (List Int))) E2 day [x0, x1, x2, x3, x4, x5, x6, x7, x8] to)).map rowP) (fun z => P.length - z.1) (0, 0, es1) (fun t => t) ⟨by cbv, by cbv; try (repeat (first | exact rfl | exact trivial | refine ⟨?_, ?_⟩))⟩ ?_ ?_)
      · exact ⟨by simp, rfl, by rw [hes1]; simp⟩
      rintro ⟨l, s, es3⟩ ⟨hl, hs, hes3⟩
      dsimp only at hl hs hes3
      have hsadd : ai .add s 1 = ((l + 1 : Nat) : Int) := by rw [F.add s 1 (by omega) (by omega), hs]; simp
      refine sem_of (X := ⟨_, TT, ⟨0, 76, inPay⟩⟩) har' hTT mixed ?_
      intro S3 Cl3 hS3 hC3
      cbv
      by_cases hlt2 : l < P.length
      · have hb2' : ab .lss s (ln eP) = true := by rw [hlP, F.lss, hs]; simpa using hlt2
        have hg2 : ix eP s = some [.int .i64 P[l]] := by rw [F.ix _ s l hs, ← heP]; exact get_nums hlt2
        have hnext2 : (P.take (l + 1)).flatMap (chP (([] : List (List Int))) E2 day [x0, x1, x2, x3, x4, x5, x6, x7, x8] to) = (P.take l).flatMap (chP (([] : List (List Int))) E2 day [x0, x1, x2, x3, x4, x5, x6, x7, x8] to) ++ chP (([] : List (List Int))) E2 day [x0, x1, x2, x3, x4, x5, x6, x7, x8] to P[l] := flat_takeG hlt2
        have hCl : ((P.take l).flatMap (chP (([] : List (List Int))) E2 day [x0, x1, x2, x3, x4, x5, x6, x7, x8] to)).length ≤ 1000 := by
          have h1 := flat_le (L := P.take l) (c := 1) fun z _ => chP_le (([] : List (List Int))) E2 day [x0, x1, x2, x3, x4, x5, x6, x7, x8] to z
          have h3 : (P.take l).length ≤ 1000 := by rw [List.length_take]; omega
          omega
        generalize (P.take l).flatMap (chP (([] : List (List Int))) E2 day [x0, x1, x2, x3, x4, x5, x6, x7, x8] to) = C at *
        generalize P[l] = q at *
        have hfit : ∀ y, fits 40 es3 [y] = true := fun y => F.fits _ _ _ (by
          rw [hes3, List.length_map, List.length_append, List.length_append]; simp only [List.length_singleton]; omega)
        have q1 : mg 3 [] [.int .i64 x0, .int .i64 q, .int .i64 to] [.int .i64 0] = [.int .i64 (getI (([] : List (List Int))) [x0, q, to])] := by rw [F.mg]; exact hm1 x0 q to
        have q2 : mg 3 e2 [.int .i64 x0, .int .i64 q, .int .i64 to] [.int .i64 0] = [.int .i64 (getI E2 [x0, q, to])] := by rw [F.mg]; exact hm2 x0 q to
        have hj1 := hi1 [x0, q, to]
        have hj2 := hi2 [x0, q, to]
        have hcP : chP (([] : List (List Int))) E2 day [x0, x1, x2, x3, x4, x5, x6, x7, x8] to q = if (getI E2 [x0, q, to] - getI (([] : List (List Int))) [x0, q, to] != 0 && q != to) = true then [[day, x0, q, to, getI E2 [x0, q, to] - getI (([] : List (List Int))) [x0, q, to]]] else [] := rfl
        rw [hcP] at hnext2
        clear hcP
        generalize getI (([] : List (List Int))) [x0, q, to] = a1 at *
        generalize getI E2 [x0, q, to] = a2 at *
        have hsub : ai .sub a2 a1 = a2 - a1 := F.sub a2 a1 (by omega) (by omega)
        have hno : (ab .neq (ai .sub a2 a1) 0 && ab .neq q to) = false → es3 = (A ++ B ++ (P.take (l + 1)).flatMap (chP (([] : List (List Int))) E2 day [x0, x1, x2, x3, x4, x5, x6, x7, x8] to)).map rowP := fun h => by
          rw [F.neq, F.neq, hsub] at h
          rw [hnext2, if_neg (by simpa using h), List.append_nil]; exact hes3
        have hyes : (ab .neq (ai .sub a2 a1) 0 && ab .neq q to) = true → es3 ++ [[PV.int .i64 day, .int .i64 x0, .int .i64 q, .int .i64 to, .int .i64 (ai .sub a2 a1)]] = (A ++ B ++ (P.take (l + 1)).flatMap (chP (([] : List (List Int))) E2 day [x0, x1, x2, x3, x4, x5, x6, x7, x8] to)).map rowP := fun h => by
          rw [F.neq, F.neq, hsub] at h
          rw [hnext2, if_pos (by simpa using h), hes3, hsub]; simp [rowP]
        obtain ⟨df, hdf⟩ : ∃ v, ai .sub a2 a1 = v := ⟨_, rfl⟩
        rw [hdf] at hno hyes
        rw [hb2']; cbv
        repeat (rw [hg2]; cbv)
        repeat (rw [q2]; cbv)
        repeat (rw [q1]; cbv)
        rw [hdf]; cbv
        cases c1 : ab .neq df 0
        · cbv
          exact ⟨(l + 1, ai .add s 1, es3), (fun t => t), ⟨hlt2, hsadd, hno (by rw [c1]; rfl)⟩, by dsimp only; omega, ⟨by cbv, by cbv; try (repeat (first | exact rfl | exact trivial | refine ⟨?_, ?_⟩))⟩⟩
        · cbv
          cases c2 : ab .neq q to
          · cbv
            exact ⟨(l + 1, ai .add s 1, es3), (fun t => t), ⟨hlt2, hsadd, hno (by rw [c1, c2]; rfl)⟩, by dsimp only; omega, ⟨by cbv, by cbv; try (repeat (first | exact rfl | exact trivial | refine ⟨?_, ?_⟩))⟩⟩
          · cbv
            rw [hfit]; cbv
            exact ⟨(l + 1, ai .add s 1, es3 ++ [[PV.int .i64 day, .int .i64 x0, .int .i64 q, .int .i64 to, .int .i64 df]]), (fun t => bif Nat.beq t 1000 then 71 else t), ⟨hlt2, hsadd, hyes (by rw [c1, c2]; rfl)⟩, by dsimp only; omega, ⟨by cbv, by cbv; try (repeat (first | exact rfl | exact trivial | refine ⟨?_, ?_⟩))⟩⟩
      · have hb2' : ab .lss s (ln eP) = false := by rw [hlP, F.lss, hs]; simpa using hlt2
        have hlE : l = P.length := by omega
        have he3 : es3 = (A ++ (rc.take (m + 1)).flatMap (chR (([] : List (List Int))) E2 day P [x0, x1, x2, x3, x4, x5, x6, x7, x8])).map rowP := by
          rw [hes3, hlE, List.take_length, List.append_assoc]; rw [← hnext1]
        rw [hb2']; cbv
        exact ⟨(m + 1, ai .add r 1, es3), (fun t => t), ⟨hlt1, hradd, he3⟩, by dsimp only; omega, ⟨by cbv, by cbv; try (repeat (first | exact rfl | exact trivial | refine ⟨?_, ?_⟩))⟩⟩
    · have hb1 : ab .lss r (ln eR) = false := by rw [hlR, F.lss, hr]; simpa using hlt1
      have hmE : m = rc.length := by omega
      rw [hb1]; cbv
      exact ⟨(k + 1, ai .add i 1, es1), (fun t => t), ⟨hlt, hadd, by rw [hes1, hmE, List.take_length, hnext]⟩, by dsimp only; omega, ⟨by cbv, by cbv; try (repeat (first | exact rfl | exact trivial | refine ⟨?_, ?_⟩))⟩⟩
  · have hb : ab .lss i (ln eH) = false := by rw [hlH, F.lss, hi]; simpa using hlt
    have hkE : k = H.length := by omega
    rw [hb]; cbv
    rw [← hV, hes, hkE, List.take_length]
    exact PLe.refl _
theorem changes_does {T H N : List (List Int)} (h2 : ∀ x ∈ H, x.length = 9) (hb5 : ∀ x ∈ H, 0 ≤ x.getD 5 0 ∧ x.getD 5 0 ≤ 99) (h60 : H.length ≤ 60) {E1 E2 : List (List Int)} (h41 : ∀ e ∈ E1, e.length = 4) (hb1 : ∀ e ∈ E1, -1000000000000 ≤ e.getD 3 0 ∧ e.getD 3 0 ≤ 1000000000000) (h42 : ∀ e ∈ E2, e.length = 4)
    (hb2 : ∀ e ∈ E2, -1000000000000 ≤ e.getD 3 0 ∧ e.getD 3 0 ≤ 1000000000000) (hsz : (E1).length + E2.length ≤ 1000) (day : Int) :
    Does Tryz.prog 104 [accP T H N, .int .i64 day, mapV E1, mapV E2] (.list 5 ((chaL H (E1) E2 day).map rowP)) := by
  have hpay := payers_does h41 h42 (by omega)
  have hPl : (payL (froL (E1) ++ froL E2)).length ≤ 1000 := by
    have := payL_len (froL (E1) ++ froL E2)
    rw [List.length_append, froL_len, froL_len] at this
    omega
  unfold chaL
  obtain ⟨P, hP⟩ : ∃ P, payL (froL (E1) ++ froL E2) = P := ⟨_, rfl⟩
  rw [hP] at hpay hPl ⊢
  have hm1 : ∀ x q t : Int, mGet 3 (E1.map rowP) [.int .i64 x, .int .i64 q, .int .i64 t] [.int .i64 0] = [.int .i64 (getI (E1) [x, q, t])] := fun x q t => mGet_rows h41 [x, q, t]
  have hm2 : ∀ x q t : Int, mGet 3 (E2.map rowP) [.int .i64 x, .int .i64 q, .int .i64 t] [.int .i64 0] = [.int .i64 (getI E2 [x, q, t])] := fun x q t => mGet_rows h42 [x, q, t]
  have hi1 : ∀ key, -1000000000000 ≤ getI (E1) key ∧ getI (E1) key ≤ 1000000000000 := fun key => getI_in (by omega) hb1 key
  have hi2 : ∀ key, -1000000000000 ≤ getI E2 key ∧ getI E2 key ≤ 1000000000000 := fun key => getI_in (by omega) hb2 key
  obtain ⟨V, hV⟩ : ∃ V, PV.list 5 ((H.flatMap (chH (E1) E2 day P)).map rowP) = V := ⟨_, rfl⟩
  rw [hV]
  have hHle : ∀ k, ((H.take k).flatMap (chH (E1) E2 day P)).length ≤ 180000 := fun k => by
    have h1 := flat_le (L := H.take k) (c := 3000) fun x _ => show (chH (E1) E2 day P x).length ≤ 3000 from by have := chH_le (E1) E2 day P x; omega
    have h2 : (H.take k).length ≤ 60 := by rw [List.length_take]; omega
    have h3 := Nat.mul_le_mul_right 3000 h2
    omega
  have hrcv : ∀ x ∈ H, Does Tryz.prog 138 [.agg (rowP x)] (.list 1 (numP (rcvL x))) := fun x hx => receivers_does (h2 x hx) (hb5 x hx)
  obtain ⟨eT, hT1⟩ : ∃ es, T.map rowP = es := ⟨_, rfl⟩
  obtain ⟨eH, hH1⟩ : ∃ es, H.map rowP = es := ⟨_, rfl⟩
  obtain ⟨eN, hN1⟩ : ∃ es, N.map rowP = es := ⟨_, rfl⟩
  obtain ⟨e1, he1⟩ : ∃ es, E1.map rowP = es := ⟨_, rfl⟩
  obtain ⟨e2, he2⟩ : ∃ es, E2.map rowP = es := ⟨_, rfl⟩
  obtain ⟨eP, heP⟩ : ∃ es, numP P = es := ⟨_, rfl⟩
  simp only [mapV, accP, hT1, hH1, hN1, he2, heP, he1] at hpay hm1 hm2 ⊢
  refine does_of (own := inPay) Tryz.func104 rfl Tryz.ntmps104 (congrArg Array.toList Tryz.results104) (fun us w => Tryz.call104 us w) hTT mixed (Nat.le_of_ble_eq_true rfl) ?_
  intro w0 im0 D0 S Cl hS hC ar har
  have har' := har
  obtain ⟨ai, ab, nz, inr, fi, pk, ix, ln, sb, eqi, sl, fits, mn, mx, nt, be, up, fu, mg, mh, ms⟩ := ar
  have F := facts_of har
  clear har
  have hlH : ln eH = H.length := by rw [F.ln, ← hH1]; simp
  have hlP : ln eP = P.length := by rw [F.ln, ← heP]; simp [numP]
  cbv
  refine ⟨.list 1 eP, hC _ (.own 140 1 _ :: []) (.list 1 eP) (show Can Tryz.prog 139 (.own 140 1 _ :: []) (.list 1 eP) from doesC_of_does hpay), ?_⟩; cbv
  refine hS _ _ _ (sem_mkRow 9 1000 73 5 (by rfl) (by rfl) (sem_loopR (fun x : Nat × Int × List (List PV) => [sI 1 day, (kT 2, .t (.c (.p (.map true false [.int .i64 0, .int .i64 0, .int .i64 0] e1)))), (kT 3, .t (.c (.p (.map true false [.int .i64 0, .int .i64 0, .int .i64 0] e2)))), sP 4 4, sR 9 1000, sL 10 1 eP, sL 24 9 eH, sI 25 (ln eH), sI 26 x.2.1, bX 4 26 [cL 24 eT, cL 9 eH, cL 7 eN], rW 1000 73 5 x.2.2]) (fun x => x.1 ≤ H.length ∧ x.2.1 = (x.1 : Int) ∧ x.2.2 = ((H.take x.1).flatMap (chH (E1) E2 day P)).map rowP) (fun x => H.length - x.1) (0, 0, []) (fun t => t) ⟨by rfl, by cbv; try (repeat (first | exact rfl | exact trivial | refine ⟨?_, ?_⟩))⟩ ?_ ?_))
  · exact ⟨by simp, rfl, rfl⟩
  rintro ⟨k, i, es⟩ ⟨hk, hi, hes⟩
  dsimp only at hk hi hes
  have hadd : ai .add i 1 = ((k + 1 : Nat) : Int) := by rw [F.add i 1 (by omega) (by omega), hi]; simp
  refine sem_of (X := ⟨_, TT, ⟨0, 76, inPay⟩⟩) har' hTT mixed ?_
  intro S1 Cl1 hS1 hC1
  cbv
  by_cases hlt : k < H.length
  · have hb : ab .lss i (ln eH) = true := by rw [hlH, F.lss, hi]; simpa using hlt
    have hg : ix eH i = some (rowP H[k]) := by rw [F.ix _ i k hi, ← hH1]; exact get_rows hlt
    have hrc := hrcv _ (List.getElem_mem hlt)
    have hAl := hHle k
    have hnext : (H.take (k + 1)).flatMap (chH (E1) E2 day P) = (H.take k).flatMap (chH (E1) E2 day P) ++ chH (E1) E2 day P H[k] := by rw [take_last hlt, List.flatMap_append]; simp
    generalize (H.take k).flatMap (chH (E1) E2 day P) = A at *
    have hx9 := h2 _ (List.getElem_mem hlt)
    generalize H[k] = x at *
    have hRl := rcv_len x
    have hcH : chH (E1) E2 day P x = (rcvL x).flatMap (chR (E1) E2 day P x) := rfl
    rw [hcH] at hnext
    clear hcH
    generalize rcvL x = rc at *
    obtain ⟨x0, x1, x2, x3, x4, x5, x6, x7, x8, rfl⟩ := list9 hx9
    obtain ⟨eR, hER⟩ : ∃ es, numP rc = es := ⟨_, rfl⟩
    have hlR : ln eR = rc.length := by rw [F.ln, ← hER]; simp [numP]
    rw [hER] at hrc
    rw [hb]; cbv
    repeat (rw [hg]; cbv)
    refine ⟨_, hC1 _ _ _ hrc, ?_⟩; cbv
    refine hS1 _ _ _ (sem_loopR (fun y : Nat × Int × List (List PV) => [sI 1 day, (kT 2, .t (.c (.p (.map true false [.int .i64 0, .int .i64 0, .int .i64 0] e1)))), (kT 3, .t (.c (.p (.map true false [.int .i64 0, .int .i64 0, .int .i64 0] e2)))), sP 4 4, sR 9 1000, sL 10 1 eP, sP 12 12, sL 24 9 eH, sI 25 (ln eH), sI 26 i, sL 31 1 eR, sI 32 (ln eR), sI 33 y.2.1, bX 4 26 [cL 24 eT, cL 9 eH, cL 7 eN], bX 12 32 [cI x0, cI x1, cI x2, cI x3, cI x4, cI x5, cI x6, cI x7, cI x8], rW 1000 73 5 y.2.2]) (fun y => y.1 ≤ rc.length ∧ y.2.1 = (y.1 : Int) ∧ y.2.2 = (A ++ (rc.take y.1).flatMap (chR (E1) E2 day P [x0, x1, x2, x3, x4, x5, x6, x7, x8])).map rowP) (fun y => rc.length - y.1) (0, 0, es) (fun t => t) ⟨by cbv, by cbv; try (repeat (first | exact rfl | exact trivial | refine ⟨?_, ?_⟩))⟩ ?_ ?_)
    · exact ⟨by simp, rfl, by rw [hes]; simp⟩
    rintro ⟨m, r, es1⟩ ⟨hm, hr, hes1⟩
    dsimp only at hm hr hes1
    have hradd : ai .add r 1 = ((m + 1 : Nat) : Int) := by rw [F.add r 1 (by omega) (by omega), hr]; simp
    refine sem_of (X := ⟨_, TT, ⟨0, 76, inPay⟩⟩) har' hTT mixed ?_
    intro S2 Cl2 hS2 hC2
    cbv
    by_cases hlt1 : m < rc.length
    · have hb1 : ab .lss r (ln eR) = true := by rw [hlR, F.lss, hr]; simpa using hlt1
      have hg1 : ix eR r = some [.int .i64 rc[m]] := by rw [F.ix _ r m hr, ← hER]; exact get_nums hlt1
      have hnext1 : (rc.take (m + 1)).flatMap (chR (E1) E2 day P [x0, x1, x2, x3, x4, x5, x6, x7, x8]) = (rc.take m).flatMap (chR (E1) E2 day P [x0, x1, x2, x3, x4, x5, x6, x7, x8]) ++ chR (E1) E2 day P [x0, x1, x2, x3, x4, x5, x6, x7, x8] rc[m] := flat_takeG hlt1
      have hBl : ((rc.take m).flatMap (chR (E1) E2 day P [x0, x1, x2, x3, x4, x5, x6, x7, x8])).length ≤ 3000 := by
        have h1 := flat_le (L := rc.take m) (c := 1000) fun z _ => show (chR (E1) E2 day P [x0, x1, x2, x3, x4, x5, x6, x7, x8] z).length ≤ 1000 from by have := chR_le (E1) E2 day P [x0, x1, x2, x3, x4, x5, x6, x7, x8] z; omega
        have h3 := Nat.mul_le_mul_right 1000 (show (rc.take m).length ≤ 3 by rw [List.length_take]; omega)
        omega
      generalize (rc.take m).flatMap (chR (E1) E2 day P [x0, x1, x2, x3, x4, x5, x6, x7, x8]) = B at *
      generalize rc[m] = to at *
      have hcR : chR (E1) E2 day P [x0, x1, x2, x3, x4, x5, x6, x7, x8] to = P.flatMap (chP (E1) E2 day [x0, x1, x2, x3, x4, x5, x6, x7, x8] to) := rfl
      rw [hcR] at hnext1
      clear hcR
      rw [hb1]; cbv
      repeat (rw [hg1]; cbv)
      refine hS2 _ _ _ (sem_loopR (fun z : Nat × Int × List (List PV) => [sI 1 day, (kT 2, .t (.c (.p (.map true false [.int .i64 0, .int .i64 0, .int .i64 0] e1)))), (kT 3, .t (.c (.p (.map true false [.int .i64 0, .int .i64 0, .int .i64 0] e2)))), sP 4 4, sR 9 1000, sL 10 1 eP, sP 12 12, sI 14 to, sL 24 9 eH, sI 25 (ln eH), sI 26 i, sL 31 1 eR, sI 32 (ln eR), sI 33 r, sL 37 1 eP, sI 38 (ln eP), sI 39 z.2.1, bX 4 26 [cL 24 eT, cL 9 eH, cL 7 eN], bX 12 32 [cI x0, cI x1, cI x2, cI x3, cI x4, cI x5, cI x6, cI x7, cI x8], rW 1000 73 5 z.2.2]) (fun z => z.1 ≤ P.length ∧ z.2.1 = (z.1 : Int) ∧ z.2.2 = (A ++ B ++ (P.take z.1).flatMap (chP (E1) E2 day [x0, x1, x2, x3, x4, x5, x6, x7, x8] to)).map rowP) (fun z => P.length - z.1) (0, 0, es1) (fun t => t) ⟨by cbv, by cbv; try (repeat (first | exact rfl | exact trivial | refine ⟨?_, ?_⟩))⟩ ?_ ?_)
      · exact ⟨by simp, rfl, by rw [hes1]; simp⟩
      rintro ⟨l, s, es3⟩ ⟨hl, hs, hes3⟩
      dsimp only at hl hs hes3
      have hsadd : ai .add s 1 = ((l + 1 : Nat) : Int) := by rw [F.add s 1 (by omega) (by omega), hs]; simp
      refine sem_of (X := ⟨_, TT, ⟨0, 76, inPay⟩⟩) har' hTT mixed ?_
      intro S3 Cl3 hS3 hC3
      cbv
      by_cases hlt2 : l < P.length
      · have hb2' : ab .lss s (ln eP) = true := by rw [hlP, F.lss, hs]; simpa using hlt2
        have hg2 : ix eP s = some [.int .i64 P[l]] := by rw [F.ix _ s l hs, ← heP]; exact get_nums hlt2
        have hnext2 : (P.take (l + 1)).flatMap (chP (E1) E2 day [x0, x1, x2, x3, x4, x5, x6, x7, x8] to) = (P.take l).flatMap (chP (E1) E2 day [x0, x1, x2, x3, x4, x5, x6, x7, x8] to) ++ chP (E1) E2 day [x0, x1, x2, x3, x4, x5, x6, x7, x8] to P[l] := flat_takeG hlt2
        have hCl : ((P.take l).flatMap (chP (E1) E2 day [x0, x1, x2, x3, x4, x5, x6, x7, x8] to)).length ≤ 1000 := by
          have h1 := flat_le (L := P.take l) (c := 1) fun z _ => chP_le (E1) E2 day [x0, x1, x2, x3, x4, x5, x6, x7, x8] to z
          have h3 : (P.take l).length ≤ 1000 := by rw [List.length_take]; omega
          omega
        generalize (P.take l).flatMap (chP (E1) E2 day [x0, x1, x2, x3, x4, x5, x6, x7, x8] to) = C at *
        generalize P[l] = q at *
        have hfit : ∀ y, fits 40 es3 [y] = true := fun y => F.fits _ _ _ (by
          rw [hes3, List.length_map, List.length_append, List.length_append]; simp only [List.length_singleton]; omega)
        have q1 : mg 3 e1 [.int .i64 x0, .int .i64 q, .int .i64 to] [.int .i64 0] = [.int .i64 (getI (E1) [x0, q, to])] := by rw [F.mg]; exact hm1 x0 q to
        have q2 : mg 3 e2 [.int .i64 x0, .int .i64 q, .int .i64 to] [.int .i64 0] = [.int .i64 (getI E2 [x0, q, to])] := by rw [F.mg]; exact hm2 x0 q to
        have hj1 := hi1 [x0, q, to]
        have hj2 := hi2 [x0, q, to]
        have hcP : chP (E1) E2 day [x0, x1, x2, x3, x4, x5, x6, x7, x8] to q = if (getI E2 [x0, q, to] - getI (E1) [x0, q, to] != 0 && q != to) = true then [[day, x0, q, to, getI E2 [x0, q, to] - getI (E1) [x0, q, to]]] else [] := rfl
        rw [hcP] at hnext2
        clear hcP
        generalize getI (E1) [x0, q, to] = a1 at *
        generalize getI E2 [x0, q, to] = a2 at *
        have hsub : ai .sub a2 a1 = a2 - a1 := F.sub a2 a1 (by omega) (by omega)
        have hno : (ab .neq (ai .sub a2 a1) 0 && ab .neq q to) = false → es3 = (A ++ B ++ (P.take (l + 1)).flatMap (chP (E1) E2 day [x0, x1, x2, x3, x4, x5, x6, x7, x8] to)).map rowP := fun h => by
          rw [F.neq, F.neq, hsub] at h
          rw [hnext2, if_neg (by simpa using h), List.append_nil]; exact hes3
        have hyes : (ab .neq (ai .sub a2 a1) 0 && ab .neq q to) = true → es3 ++ [[PV.int .i64 day, .int .i64 x0, .int .i64 q, .int .i64 to, .int .i64 (ai .sub a2 a1)]] = (A ++ B ++ (P.take (l + 1)).flatMap (chP (E1) E2 day [x0, x1, x2, x3, x4, x5, x6, x7, x8] to)).map rowP := fun h => by
          rw [F.neq, F.neq, hsub] at h
          rw [hnext2, if_pos (by simpa using h), hes3, hsub]; simp [rowP]
        obtain ⟨df, hdf⟩ : ∃ v, ai .sub a2 a1 = v := ⟨_, rfl⟩
        rw [hdf] at hno hyes
        rw [hb2']; cbv
        repeat (rw [hg2]; cbv)
        repeat (rw [q2]; cbv)
        repeat (rw [q1]; cbv)
        rw [hdf]; cbv
        cases c1 : ab .neq df 0
        · cbv
          exact ⟨(l + 1, ai .add s 1, es3), (fun t => t), ⟨hlt2, hsadd, hno (by rw [c1]; rfl)⟩, by dsimp only; omega, ⟨by cbv, by cbv; try (repeat (first | exact rfl | exact trivial | refine ⟨?_, ?_⟩))⟩⟩
        · cbv
          cases c2 : ab .neq q to
          · cbv
            exact ⟨(l + 1, ai .add s 1, es3), (fun t => t), ⟨hlt2, hsadd, hno (by rw [c1, c2]; rfl)⟩, by dsimp only; omega, ⟨by cbv, by cbv; try (repeat (first | exact rfl | exact trivial | refine ⟨?_, ?_⟩))⟩⟩
          · cbv
            rw [hfit]; cbv
            exact ⟨(l + 1, ai .add s 1, es3 ++ [[PV.int .i64 day, .int .i64 x0, .int .i64 q, .int .i64 to, .int .i64 df]]), (fun t => bif Nat.beq t 1000 then 71 else t), ⟨hlt2, hsadd, hyes (by rw [c1, c2]; rfl)⟩, by dsimp only; omega, ⟨by cbv, by cbv; try (repeat (first | exact rfl | exact trivial | refine ⟨?_, ?_⟩))⟩⟩
      · have hb2' : ab .lss s (ln eP) = false := by rw [hlP, F.lss, hs]; simpa using hlt2
        have hlE : l = P.length := by omega
        have he3 : es3 = (A ++ (rc.take (m + 1)).flatMap (chR (E1) E2 day P [x0, x1, x2, x3, x4, x5, x6, x7, x8])).map rowP := by
          rw [hes3, hlE, List.take_length, List.append_assoc]; rw [← hnext1]
        rw [hb2']; cbv
        exact ⟨(m + 1, ai .add r 1, es3), (fun t => t), ⟨hlt1, hradd, he3⟩, by dsimp only; omega, ⟨by cbv, by cbv; try (repeat (first | exact rfl | exact trivial | refine ⟨?_, ?_⟩))⟩⟩
    · have hb1 : ab .lss r (ln eR) = false := by rw [hlR, F.lss, hr]; simpa using hlt1
      have hmE : m = rc.length := by omega
      rw [hb1]; cbv
      exact ⟨(k + 1, ai .add i 1, es1), (fun t => t), ⟨hlt, hadd, by rw [hes1, hmE, List.take_length, hnext]⟩, by dsimp only; omega, ⟨by cbv, by cbv; try (repeat (first | exact rfl | exact trivial | refine ⟨?_, ?_⟩))⟩⟩
  · have hb : ab .lss i (ln eH) = false := by rw [hlH, F.lss, hi]; simpa using hlt
    have hkE : k = H.length := by omega
    rw [hb]; cbv
    rw [← hV, hes, hkE, List.take_length]
    exact PLe.refl _
theorem lsOk_pair {ok : List Int → Bool} {m : Nat} {L : List (List Int)} (h : lsOk ok m L = true) : L.Pairwise (fun a b => a.getD 0 0 < b.getD 0 0) := by
  rw [List.pairwise_iff_getElem]
  intro i j hi hj hij
  have := ls_srt h i j hij hj
  rwa [show L.getD i [] = L[i] by simp [List.getD, hi], show L.getD j [] = L[j] by simp [List.getD, hj]] at this
theorem lsOk_of {ok : List Int → Bool} {m : Nat} {L : List (List Int)} (h1 : L.length ≤ m) (h2 : ∀ x ∈ L, ok x = true) (h3 : L.Pairwise (fun a b => a.getD 0 0 < b.getD 0 0)) : lsOk ok m L = true := by
  unfold lsOk lsK
  rw [Bool.and_eq_true, decide_eq_true_eq, List.all_eq_true]
  refine ⟨h1, fun k hk => ?_⟩
  have hk := List.mem_range.1 hk
  rw [lsAt_eq hk, Bool.and_eq_true, Bool.or_eq_true]
  refine ⟨h2 _ (List.getElem_mem hk), ?_⟩
  cases k with
  | zero => exact .inl rfl
  | succ k =>
    refine .inr (decide_eq_true ?_)
    rw [List.pairwise_iff_getElem] at h3
    have := h3 k (k + 1) (by omega) hk (by omega)
    rwa [show L.getD (k + 1 - 1) [] = L[k]'(by omega) by simp [List.getD, show k < L.length by omega]]
theorem tarM_ok (n : List Int) {f : Int} (h0 : 0 ≤ f) (h1 : f ≤ 100000) : tarOk (tarM n f) = true := by
  have a1 : 0 ≤ wrp (n.getD 3 0 + 1) % 40 ∧ wrp (n.getD 3 0 + 1) % 40 < 40 := by omega
  have a2 : 0 ≤ wrp (n.getD 3 0 + 2) % 40 ∧ wrp (n.getD 3 0 + 2) % 40 < 40 := by omega
  have a3 : 0 ≤ wrp (n.getD 3 0 + 3) % 40 ∧ wrp (n.getD 3 0 + 3) % 40 < 40 := by omega
  have b1 : 0 ≤ wrp (n.getD 4 0 * 1) % 9 ∧ wrp (n.getD 4 0 * 1) % 9 < 9 := by omega
  have b2 : 0 ≤ wrp (n.getD 4 0 * 2) % 9 ∧ wrp (n.getD 4 0 * 2) % 9 < 9 := by omega
  have b3 : 0 ≤ wrp (n.getD 4 0 * 3) % 9 ∧ wrp (n.getD 4 0 * 3) % 9 < 9 := by omega
  have c0 : 0 ≤ n.getD 0 0 % 12 ∧ n.getD 0 0 % 12 < 12 := by omega
  have c1 : 0 ≤ n.getD 1 0 % 31 ∧ n.getD 1 0 % 31 < 31 := by omega
  have c2 : 0 ≤ n.getD 2 0 % 30 ∧ n.getD 2 0 % 30 < 30 := by omega
  unfold tarM
  generalize wrp (n.getD 3 0 + 1) % 40 = x1 at *
  generalize wrp (n.getD 3 0 + 2) % 40 = x2 at *
  generalize wrp (n.getD 3 0 + 3) % 40 = x3 at *
  generalize wrp (n.getD 4 0 * 1) % 9 = y1 at *
  generalize wrp (n.getD 4 0 * 2) % 9 = y2 at *
  generalize wrp (n.getD 4 0 * 3) % 9 = y3 at *
  generalize n.getD 0 0 % 12 = z0 at *
  generalize n.getD 1 0 % 31 = z1 at *
  generalize n.getD 2 0 % 30 = z2 at *
  unfold tarOk rateOk headT dailT
  simp only [List.drop_succ_cons, List.drop_zero, List.take_succ_cons, List.take_zero, List.all_cons, List.all_nil, List.getD_cons_zero, List.getD_cons_succ, Bool.and_eq_true, inB_iff, decide_eq_true_eq, beq_iff_eq, and_true]
  omega
theorem tarM_first (n : List Int) (f : Int) : (tarM n f).getD 0 0 = f := rfl
theorem tarsM_ok : ∀ (R : List (List Int)) (f : Int), 0 ≤ f → f + 100 * (R.length : Int) ≤ 100000 →
    (∀ x ∈ tarsM f R, tarOk x = true ∧ x.length = 24 ∧ f ≤ x.getD 0 0) ∧ (tarsM f R).Pairwise (fun a b => a.getD 0 0 < b.getD 0 0)
  | [], f, _, _ => ⟨fun x hx => absurd hx (by simp [tarsM]), by simp [tarsM]⟩
  | n :: R, f, h0, h1 => by
    rw [List.length_cons] at h1
    obtain ⟨i1, i2⟩ := tarsM_ok R (f + 1 + n.getD 5 0 % 60) (by omega) (by omega)
    unfold tarsM
    refine ⟨fun x hx => ?_, List.pairwise_cons.2 ⟨fun x hx => ?_, i2⟩⟩
    · rcases List.mem_cons.1 hx with rfl | hx
      · exact ⟨tarM_ok n h0 (by omega), rfl, Int.le_refl _⟩
      · obtain ⟨a, b, c⟩ := i1 x hx
        exact ⟨a, b, by omega⟩
    · obtain ⟨_, _, c⟩ := i1 x hx
      rw [tarM_first]; omega
theorem heldM_ok (n : List Int) {i : Int} (h0 : 0 ≤ i) (h1 : i ≤ 1000) : heldOk (heldM i n) = true := by
  have c0 : 0 ≤ n.getD 0 0 % 5 ∧ n.getD 0 0 % 5 < 5 := by omega
  have c1 : 0 ≤ n.getD 0 0 % 3 ∧ n.getD 0 0 % 3 < 3 := by omega
  have c2 : 0 ≤ n.getD 1 0 % 40 ∧ n.getD 1 0 % 40 < 40 := by omega
  have c3 : 0 ≤ n.getD 2 0 % 900 ∧ n.getD 2 0 % 900 < 900 := by omega
  have c4 : 0 ≤ n.getD 3 0 % 6 ∧ n.getD 3 0 % 6 < 6 := by omega
  have c5 : 0 ≤ n.getD 4 0 % 40 ∧ n.getD 4 0 % 40 < 40 := by omega
  have c6 : 0 ≤ n.getD 5 0 % 60 ∧ n.getD 5 0 % 60 < 60 := by omega
  have c7 : 0 ≤ n.getD 6 0 % 300 ∧ n.getD 6 0 % 300 < 300 := by omega
  unfold heldM
  generalize n.getD 0 0 % 5 = x1 at *
  generalize n.getD 0 0 % 3 = x2 at *
  generalize n.getD 1 0 % 40 = x3 at *
  generalize n.getD 2 0 % 900 = x4 at *
  generalize n.getD 3 0 % 6 = x5 at *
  generalize n.getD 4 0 % 40 = x6 at *
  generalize n.getD 5 0 % 60 = x7 at *
  generalize n.getD 6 0 % 300 = x8 at *
  unfold heldOk timB
  simp only [List.getD_cons_zero, List.getD_cons_succ, Bool.and_eq_true, Bool.or_eq_true, inB_iff, beq_iff_eq]
  split <;> omega
theorem noteM_ok (n : List Int) {i : Int} (h0 : 0 ≤ i) (h1 : i ≤ 1000) : noteOk (noteM i n) = true := by
  have c0 : 0 ≤ n.getD 0 0 % 4 ∧ n.getD 0 0 % 4 < 4 := by omega
  have c1 : 0 ≤ n.getD 1 0 % 3 ∧ n.getD 1 0 % 3 < 3 := by omega
  have c2 : 0 ≤ n.getD 4 0 % 5 ∧ n.getD 4 0 % 5 < 5 := by omega
  have c3 : 0 ≤ n.getD 2 0 % 450 ∧ n.getD 2 0 % 450 < 450 := by omega
  have c4 : 0 ≤ n.getD 3 0 % 500 ∧ n.getD 3 0 % 500 < 500 := by omega
  have c7 : 0 ≤ n.getD 5 0 % 200 ∧ n.getD 5 0 % 200 < 200 := by omega
  unfold noteM
  generalize n.getD 0 0 % 4 = x1 at *
  generalize n.getD 1 0 % 3 = x2 at *
  generalize n.getD 4 0 % 5 = x3 at *
  generalize n.getD 2 0 % 450 = x4 at *
  generalize n.getD 3 0 % 500 = x5 at *
  generalize n.getD 5 0 % 200 = x6 at *
  unfold noteOk timB sayB
  simp only [List.getD_cons_zero, List.getD_cons_succ, Bool.and_eq_true, Bool.or_eq_true, inB_iff, beq_iff_eq]
  refine ⟨by omega, by omega, ?_, by omega, by omega, ?_⟩
  · by_cases h2 : 1 + x2 = 2
    · rw [if_neg (by omega), if_pos h2]; simp [h2]
    · rw [if_pos (by omega), if_neg h2, inB_iff]; omega
  · split <;> omega
theorem numbM_ok (ok : List Int → Bool) (g : Int → List Int → List Int) (b : Int) (hok : ∀ i n, 0 ≤ i → i ≤ 1000 → ok (g i n) = true) (hb : ∀ i n, (g i n).getD 0 0 = b + i) : ∀ (R : List (List Int)) (i : Int), 0 ≤ i → i + (R.length : Int) ≤ 1000 →
    (∀ x ∈ numbM g i R, ok x = true ∧ b + i ≤ x.getD 0 0 ∧ x.getD 0 0 < b + i + R.length ∧ ∃ j n, x = g j n) ∧ (numbM g i R).Pairwise (fun a b => a.getD 0 0 < b.getD 0 0)
  | [], f, _, _ => ⟨fun x hx => absurd hx (by simp [numbM]), by simp [numbM]⟩
  | n :: R, i, h0, h1 => by
    rw [List.length_cons] at h1
    obtain ⟨i1, i2⟩ := numbM_ok ok g b hok hb R (i + 1) (by omega) (by omega)
    unfold numbM
    refine ⟨fun x hx => ?_, List.pairwise_cons.2 ⟨fun x hx => ?_, i2⟩⟩
    · rcases List.mem_cons.1 hx with rfl | hx
      · exact ⟨hok _ _ h0 (by omega), by rw [hb]; omega, by rw [hb, List.length_cons]; omega, _, _, rfl⟩
      · obtain ⟨a, c, d, e⟩ := i1 x hx
        exact ⟨a, by omega, by rw [List.length_cons]; omega, e⟩
    · obtain ⟨_, c, _⟩ := i1 x hx
      rw [hb]; omega
structure MadeOk (T H N : List (List Int)) : Prop where
  t : ∀ x ∈ T, x.length = 24
  h : ∀ x ∈ H, x.length = 9
  n : ∀ x ∈ N, x.length = 7
  ok : accOk T H N = true
  hl : H.length ≤ 4
  nl : N.length ≤ 8
  hm : ∀ x ∈ H, ∃ i n, 0 ≤ i ∧ i < 4 ∧ x = heldM i n
  nm : ∀ x ∈ N, ∃ i n, 0 ≤ i ∧ i < 8 ∧ x = noteM i n
theorem made_ok (A B C : List (List Int)) : MadeOk (tarsM 0 (A.take 3)) (numbM heldM 0 (B.take 4)) (numbM noteM 0 (C.take 8)) := by
  have lA : (A.take 3).length ≤ 3 := by rw [List.length_take]; omega
  have lB : (B.take 4).length ≤ 4 := by rw [List.length_take]; omega
  have lC : (C.take 8).length ≤ 8 := by rw [List.length_take]; omega
  obtain ⟨a1, a2⟩ := tarsM_ok (A.take 3) 0 (by decide) (by omega)
  obtain ⟨b1, b2⟩ := numbM_ok heldOk heldM 10 (fun i n => heldM_ok n) (fun i n => rfl) (B.take 4) 0 (by decide) (by omega)
  obtain ⟨c1, c2⟩ := numbM_ok noteOk noteM 20 (fun i n => noteM_ok n) (fun i n => rfl) (C.take 8) 0 (by decide) (by omega)
  refine ⟨fun x hx => (a1 x hx).2.1, fun x hx => ?_, fun x hx => ?_, ?_, by rw [numbM_len]; exact lB, by rw [numbM_len]; exact lC, fun x hx => ?_, fun x hx => ?_⟩
  · obtain ⟨_, _, _, j, n, rfl⟩ := b1 x hx; rfl
  · obtain ⟨_, _, _, j, n, rfl⟩ := c1 x hx; rfl
  · unfold accOk
    rw [lsOk_of (by rw [tarsM_len]; omega) (fun x hx => (a1 x hx).1) a2, lsOk_of (by rw [numbM_len]; omega) (fun x hx => (b1 x hx).1) b2, lsOk_of (by rw [numbM_len]; omega) (fun x hx => (c1 x hx).1) c2]
    rfl
  · obtain ⟨_, p, q, j, n, rfl⟩ := b1 x hx
    have : (heldM j n).getD 0 0 = 10 + j := rfl
    exact ⟨j, n, by omega, by omega, rfl⟩
  · obtain ⟨_, p, q, j, n, rfl⟩ := c1 x hx
    have : (noteM j n).getD 0 0 = 20 + j := rfl
    exact ⟨j, n, by omega, by omega, rfl⟩
theorem made_ask {T H N : List (List Int)} (h : accOk T H N = true) {d : Int} (h0 : 0 ≤ d) (h1 : d ≤ 100000) : askE T H N d = 0 := by
  unfold askE
  rw [if_pos h]
  unfold err
  rw [if_pos (inB_iff.2 ⟨h0, h1⟩)]
end Go.Proofs.YtjimjdhdnkhfnaaGreat

namespace Go.Proofs.YtjimjdhdnkhfnaaGreat
open Go Go.RowKit
set_option maxRecDepth 100000
set_option maxHeartbeats 4000000
theorem held_eq {T H N : List (List Int)} (hok : accOk T H N = true) {a b : List Int} (ha : a ∈ H) (hb : b ∈ H) (he : a.getD 0 0 = b.getD 0 0) : a = b := by
  unfold accOk at hok
  simp only [Bool.and_eq_true] at hok
  have hp := lsOk_pair hok.2.1
  rw [List.pairwise_iff_getElem] at hp
  obtain ⟨i, hi, rfl⟩ := List.getElem_of_mem ha
  obtain ⟨j, hj, rfl⟩ := List.getElem_of_mem hb
  by_cases hij : i = j
  · subst hij; rfl
  · by_cases hlt : i < j
    · have := hp i j hi hj hlt; omega
    · have := hp j i hj hi (by omega); omega
theorem sta_find {T H N : List (List Int)} (hok : accOk T H N = true) {d : Int} {h : List Int} (hh : h ∈ H) (hc : cntH d h = true) : H.find? (staP (h.getD 0 0) d) = some h := by
  have hp : staP (h.getD 0 0) d h = true := by
    unfold staP
    rw [Bool.and_eq_true]
    exact ⟨beq_self_eq_true _, hc⟩
  cases hf : H.find? (staP (h.getD 0 0) d) with
  | none => exact absurd hp (List.find?_eq_none.1 hf h hh)
  | some x =>
    have hx := List.find?_some hf
    have hm := List.mem_of_find?_eq_some hf
    unfold staP at hx
    simp only [Bool.and_eq_true, beq_iff_eq] at hx
    rw [held_eq hok hm hh hx.1]
theorem sta_none {T H N : List (List Int)} (hok : accOk T H N = true) {d : Int} {h : List Int} (hh : h ∈ H) (hc : cntH d h = false) : H.find? (staP (h.getD 0 0) d) = none := by
  rw [List.find?_eq_none]
  intro x hx hs
  unfold staP at hs
  simp only [Bool.and_eq_true, beq_iff_eq] at hs
  obtain rfl := held_eq hok hx hh hs.1
  exact absurd (hc.symm.trans hs.2) (by decide)
theorem sta_is {T H N : List (List Int)} {d : Int} (ha : askE T H N d = 0) {h : List Int} (hh : h ∈ H) (hc : cntH d h = true) : staN T H N (h.getD 0 0) d = (h, 0) := by
  unfold staN
  rw [if_pos ha, sta_find (askE_ok ha).1 hh hc]
theorem sta_not {T H N : List (List Int)} {d : Int} (ha : askE T H N d = 0) {h : List Int} (hh : h ∈ H) (hc : cntH d h = false) : staN T H N (h.getD 0 0) d = (zero9, 65) := by
  unfold staN
  rw [if_pos ha, sta_none (askE_ok ha).1 hh hc]
theorem amtL_four {T H N : List (List Int)} {d : Int} : ∀ e ∈ amtL T H N d, e.length = 4 := fun e he => by
  obtain ⟨x, _, he⟩ := List.mem_flatMap.1 he
  unfold amtE at he
  obtain ⟨y, _, rfl⟩ := List.mem_map.1 he
  rfl
theorem amtL_in {T H N : List (List Int)} (h1 : ∀ x ∈ T, x.length = 24) (h2 : ∀ x ∈ H, x.length = 9) {d : Int} (hq : askE T H N d = 0) : ∀ e ∈ amtL T H N d, -1000000000000 ≤ e.getD 3 0 ∧ e.getD 3 0 ≤ 1000000000000 := fun e he => by
  obtain ⟨x, hx, he⟩ := List.mem_flatMap.1 he
  have g := good_in (N := N) h2 hq (List.mem_filter.1 hx).1
  obtain ⟨a, b, c⟩ := dueN_in (N := N) h1 g.tar g.held g.day
  unfold amtE at he
  obtain ⟨y, hy, rfl⟩ := List.mem_map.1 he
  have hy2 := List.of_mem_zip (show (y.1, y.2) ∈ _ from hy)
  simp only [List.getD_cons_succ, List.getD_cons_zero]
  rcases List.mem_cons.1 hy2.2 with h | h
  · omega
  rcases List.mem_cons.1 h with h | h
  · omega
  rcases List.mem_cons.1 h with h | h
  · omega
  · exact absurd h (by simp)
theorem amtL_len {T H N : List (List Int)} {d : Int} (hH : H.length ≤ 60) : (amtL T H N d).length ≤ 180 := by
  have h1 := flat_le (L := H.filter (cntH d)) (f := amtE T N d) (c := 3) fun x _ => by rw [amtE_len]; exact rcv_len x
  have h2 := tolL_len T H N d
  unfold amtL; omega
def befE (T H N : List (List Int)) (D : List Int) (k : Nat) : List (List Int) := if k = 0 then [] else amtL T H N (D.getD (k - 1) 0)
def befV (T H N : List (List Int)) (D : List Int) (k : Nat) : PV := if k = 0 then .nilm else mapV (amtL T H N (D.getD (k - 1) 0))
def dayQ (T H N : List (List Int)) (D : List Int) (k : Nat) : List (List Int) := chaL H (befE T H N D k) (amtL T H N (D.getD k 0)) (D.getD k 0)
def posQ (T H N : List (List Int)) (D : List Int) (k : Nat) : List (List Int) := (List.range k).flatMap (dayQ T H N D)
def pstQ (T H N : List (List Int)) (D : List Int) : List (List Int) := if pstE T H N D = 0 then posQ T H N D D.length else []
theorem posQ_succ (T H N : List (List Int)) (D : List Int) (k : Nat) : posQ T H N D (k + 1) = posQ T H N D k ++ dayQ T H N D k := by unfold posQ; rw [List.range_succ, List.flatMap_append]; simp
theorem chaL_len {H E1 E2 : List (List Int)} {day : Int} (hH : H.length ≤ 60) (h1 : E1.length ≤ 180) (h2 : E2.length ≤ 180) : (chaL H E1 E2 day).length ≤ 64800 := by
  have hp : (payL (froL E1 ++ froL E2)).length ≤ 360 := by
    have := payL_len (froL E1 ++ froL E2)
    rw [List.length_append, froL_len, froL_len] at this
    omega
  have h1 := flat_le (L := H) (f := chH E1 E2 day (payL (froL E1 ++ froL E2))) (c := 1080) fun x _ => by have := chH_le E1 E2 day (payL (froL E1 ++ froL E2)) x; omega
  unfold chaL; omega
theorem pPosts_does {T H N : List (List Int)} (h1 : ∀ x ∈ T, x.length = 24) (h2 : ∀ x ∈ H, x.length = 9) (h3 : ∀ x ∈ N, x.length = 7) (D : List Int) :
    Does Tryz.prog 38 [accP T H N, .list 1 (numP D)] (.tup [.list 5 ((pstQ T H N D).map rowP), .int .i64 (pstE T H N D)]) := by
  have hCk := pcheck_does h1 h2 h3
  have hDs := checkDays_does D
  have hOr := orE_does [err (accOk T H N) 63, err (daysOk D) 66]
  rw [show orE [err (accOk T H N) 63, err (daysOk D) 66] = pstE T H N D by unfold pstE err; cases accOk T H N <;> cases daysOk D <;> rfl] at hOr
  have hall : pstE T H N D = 0 → H.length ≤ 60 ∧ D.length ≤ 12 ∧ (∀ x ∈ H, 0 ≤ x.getD 5 0 ∧ x.getD 5 0 ≤ 99) ∧ ∀ d ∈ D, askE T H N d = 0 := fun h => by
    obtain ⟨ha, hd⟩ := pstE_days h
    obtain ⟨h12, hin⟩ := daysOk_in hd
    refine ⟨(accOk_len ha).2.1, h12, fun x hx => (heldOk_bounds (accOk_H ha x hx)).2.2.2.1, fun d hdm => ?_⟩
    unfold askE err
    rw [if_pos ha, if_pos (inB_iff.2 (hin d hdm))]
  obtain ⟨V, hV⟩ : ∃ V, PV.tup [.list 5 ((pstQ T H N D).map rowP), .int .i64 (pstE T H N D)] = V := ⟨_, rfl⟩
  rw [hV]
  unfold pstQ at hV
  generalize err (accOk T H N) 63 = e1 at *
  generalize err (daysOk D) 66 = e2 at *
  generalize pstE T H N D = q at *
  have hround : q = 0 → ∀ k (hk : k < D.length), Does Tryz.prog 103 [accP T H N, .int .i64 D[k]] (mapV (amtL T H N D[k])) ∧
      Does Tryz.prog 104 [accP T H N, .int .i64 D[k], befV T H N D k, mapV (amtL T H N D[k])] (.list 5 ((dayQ T H N D k).map rowP)) ∧ (dayQ T H N D k).length ≤ 64800 ∧ befV T H N D (k + 1) = mapV (amtL T H N D[k]) := fun hq k hk => by
    obtain ⟨a, b, c, e⟩ := hall hq
    have hDk : D.getD k 0 = D[k] := by simp [List.getD, hk]
    have hak := e _ (List.getElem_mem hk)
    have hl2 := amtL_len (T := T) (N := N) (d := D[k]) a
    refine ⟨amounts_does h1 h2 h3 hak, ?_, ?_, by unfold befV; rw [if_neg (by omega), Nat.add_sub_cancel, hDk]⟩
    · unfold dayQ befE befV
      rw [hDk]
      by_cases h0 : k = 0
      · rw [if_pos h0, if_pos h0]
        exact changes0_does h2 c a amtL_four (amtL_in h1 h2 hak) (by simp; omega) _
      · rw [if_neg h0, if_neg h0]
        have hDp : D.getD (k - 1) 0 ∈ D := by rw [show D.getD (k - 1) 0 = D[k - 1] by simp [List.getD, show k - 1 < D.length by omega]]; exact List.getElem_mem _
        have hl1 := amtL_len (T := T) (N := N) (d := D.getD (k - 1) 0) a
        exact changes_does h2 c a amtL_four (amtL_in h1 h2 (e _ hDp)) amtL_four (amtL_in h1 h2 hak) (by omega) _
    · unfold dayQ
      rw [hDk]
      refine chaL_len a ?_ hl2
      unfold befE
      split
      · simp
      · exact amtL_len a
  have hlen12 := fun h => (hall h).2.1
  clear hall
  have hb0 : befV T H N D 0 = .nilm := rfl
  have hps := posQ_succ T H N D
  have hp0 : posQ T H N D 0 = [] := rfl
  generalize befV T H N D = bv at *
  generalize dayQ T H N D = dq at *
  generalize posQ T H N D = pq at *
  obtain ⟨eT, hT1⟩ : ∃ es, T.map rowP = es := ⟨_, rfl⟩
  obtain ⟨eH, hH1⟩ : ∃ es, H.map rowP = es := ⟨_, rfl⟩
  obtain ⟨eN, hN1⟩ : ∃ es, N.map rowP = es := ⟨_, rfl⟩
  obtain ⟨eD, hED⟩ : ∃ es, numP D = es := ⟨_, rfl⟩
  simp only [accP, hT1, hH1, hN1, hED] at hCk hDs hround ⊢
  refine does_of (own := inPl) Tryz.func38 rfl Tryz.ntmps38 (congrArg Array.toList Tryz.results38) (fun us w => Tryz.call38 us w) hTT mixed (Nat.le_of_ble_eq_true rfl) ?_
  intro w0 im0 D0 S Cl hS hC ar har
  have har' := har
  obtain ⟨ai, ab, nz, inr, fi, pk, ix, ln, sb, eqi, sl, fits, mn, mx, nt, be, up, fu, mg, mh, ms⟩ := ar
  have F := facts_of har
  clear har
  have hlD : ln eD = D.length := by rw [F.ln, ← hED]; simp [numP]
  cbv
  refine ⟨_, hC _ _ _ hCk, ?_⟩; cbv
  refine ⟨_, hC _ _ _ hDs, ?_⟩; cbv
  refine ⟨_, hC _ _ _ hOr, ?_⟩; cbv
  by_cases h0 : q = 0
  · have c0 : ab .neq q 0 = false := by rw [F.neq, h0]; rfl
    have hround := hround h0
    have h12 := hlen12 h0
    have hple : ∀ k, k ≤ D.length → (pq k).length ≤ k * 64800 := fun k => by
      induction k with
      | zero => intro _; rw [hp0]; simp
      | succ k ih =>
        intro hk
        have := ih (by omega)
        have := (hround k (by omega)).2.2.1
        rw [hps, List.length_append]; omega
    rw [if_pos h0] at hV
    rw [c0]; cbv
    refine hS _ _ _ (sem_mkRow 7 1000 73 5 (by rfl) (by rfl) (sem_loopR (fun x : Nat × Int × PV × List (List PV) => [sP 2 2, sR 7 1000, (kT 8, .t (.c (.p x.2.2.1))), sL 21 1 eD, sI 22 (ln eD), sI 23 x.2.1, bX 2 26 [cL 24 eT, cL 9 eH, cL 7 eN], rW 1000 73 5 x.2.2.2]) (fun x => x.1 ≤ D.length ∧ x.2.1 = (x.1 : Int) ∧ x.2.2.1 = bv x.1 ∧ x.2.2.2 = (pq x.1).map rowP) (fun x => D.length - x.1) (0, 0, .nilm, []) (fun t => t) ⟨by rfl, by cbv; try (repeat (first | exact rfl | exact trivial | refine ⟨?_, ?_⟩))⟩ ?_ ?_))
    · exact ⟨by simp, rfl, hb0.symm, by rw [hp0]; rfl⟩
    rintro ⟨k, i, v, es⟩ ⟨hk, hi, hv, hes⟩
    dsimp only at hk hi hv hes
    have hadd : ai .add i 1 = ((k + 1 : Nat) : Int) := by rw [F.add i 1 (by omega) (by omega), hi]; simp
    refine sem_of (X := ⟨_, TT, ⟨0, 40, inPl⟩⟩) har' hTT mixed ?_
    intro S1 Cl1 hS1 hC1
    cbv
    by_cases hlt : k < D.length
    · have hb : ab .lss i (ln eD) = true := by rw [hlD, F.lss, hi]; simpa using hlt
      have hg : ix eD i = some [.int .i64 D[k]] := by rw [F.ix _ i k hi, ← hED]; exact get_nums hlt
      obtain ⟨ham, hch, hle, hbv⟩ := hround k hlt
      have hpl := hple k hk
      have hp1 := hps k
      rw [← hv] at hch
      generalize D[k] = dy at *
      obtain ⟨mv, hmv⟩ : ∃ m, amtL T H N dy = m := ⟨_, rfl⟩
      rw [hmv] at ham hch hbv
      obtain ⟨em, hem⟩ : ∃ m, mv.map rowP = m := ⟨_, rfl⟩
      simp only [mapV, hem] at ham hch hbv
      obtain ⟨eC, heC⟩ : ∃ es, (dq k).map rowP = es := ⟨_, rfl⟩
      rw [heC] at hch
      have hfit : fits 40 es eC = true := F.fits _ _ _ (by
        rw [hes, ← heC, List.length_map, List.length_map]; omega)
      have hnew : es ++ eC = (pq (k + 1)).map rowP := by rw [hp1, List.map_append, hes, heC]
      rw [hb]; cbv
      repeat (rw [hg]; cbv)
      refine ⟨_, hC1 _ _ _ ham, ?_⟩; cbv
      refine ⟨_, hC1 _ _ _ hch, ?_⟩; cbv
      rw [hfit]; cbv
      exact ⟨(k + 1, ai .add i 1, .map true false [.int .i64 0, .int .i64 0, .int .i64 0] em, es ++ eC), (fun t => bif Nat.beq t 1000 then 36 else t), ⟨hlt, hadd, hbv.symm, hnew⟩, by dsimp only; omega, ⟨by rfl, by cbv; try (repeat (first | exact rfl | exact trivial | refine ⟨?_, ?_⟩))⟩⟩
    · have hb : ab .lss i (ln eD) = false := by rw [hlD, F.lss, hi]; simpa using hlt
      have hkE : k = D.length := by omega
      rw [hb]; cbv
      rw [← hV, hes, hkE, h0]
      exact PLe.refl _
  · have c0 : ab .neq q 0 = true := by rw [F.neq]; simpa using h0
    rw [c0]; cbv
    rw [← hV, if_neg h0]
    exact PLe.tup2 (PLe.nil 5) (PLe.refl _)
theorem comp_inv (d : Array Int) (hs : ∀ i j, i < j → j < d.size → d[i]! ≤ d[j]!) : ∀ m, m ≤ d.size → (Lib.compactUpTo d m).Pairwise (fun a b => a < b) ∧ ∀ x, x ∈ Lib.compactUpTo d m ↔ ∃ j, j < m ∧ d[j]! = x
  | 0, _ => ⟨List.Pairwise.nil, fun x => ⟨fun h => absurd h (by simp [Lib.compactUpTo]), fun ⟨j, h, _⟩ => by omega⟩⟩
  | m + 1, hm => by
    obtain ⟨h1, h2⟩ := comp_inv d hs m (by omega)
    rw [Lib.compactUpTo_succ]
    by_cases hk : Lib.keeps d m = true
    · rw [if_pos hk]
      unfold Lib.keeps at hk
      have hk := of_decide_eq_true hk
      refine ⟨List.pairwise_append.2 ⟨h1, List.pairwise_singleton _ _, fun a ha b hb => ?_⟩, fun x => ?_⟩
      · obtain rfl := List.mem_singleton.1 hb
        obtain ⟨j, hj, rfl⟩ := (h2 a).1 ha
        rcases hk with h0 | hne
        · omega
        · have ha1 := hs (m - 1) m (by omega) (by omega)
          by_cases hjm : j = m - 1
          · subst hjm; omega
          · have := hs j (m - 1) (by omega) (by omega); omega
      · rw [List.mem_append, List.mem_singleton, h2]
        constructor
        · rintro (⟨j, hj, e⟩ | rfl)
          · exact ⟨j, by omega, e⟩
          · exact ⟨m, by omega, rfl⟩
        · rintro ⟨j, hj, e⟩
          by_cases hjm : j = m
          · subst hjm; exact .inr e.symm
          · exact .inl ⟨j, by omega, e⟩
    · rw [if_neg hk, List.append_nil]
      have hk2 : ¬ (m = 0 ∨ d[m]! ≠ d[m - 1]!) := fun h => hk (by unfold Lib.keeps; exact decide_eq_true h)
      refine ⟨h1, fun x => ?_⟩
      rw [h2]
      constructor
      · rintro ⟨j, hj, e⟩; exact ⟨j, by omega, e⟩
      · rintro ⟨j, hj, e⟩
        by_cases hjm : j = m
        · subst hjm
          have h0 : j ≠ 0 := fun h => hk2 (.inl h)
          have he : d[j]! = d[j - 1]! := Classical.byContradiction fun h => hk2 (.inr h)
          exact ⟨j - 1, by omega, by rw [← he]; exact e⟩
        · exact ⟨j, by omega, e⟩
theorem payL_spec (Z : List Int) : (payL Z).Pairwise (fun a b => a < b) ∧ ∀ x, x ∈ payL Z ↔ x ∈ Z := by
  have hsrt : (srtL Z).Pairwise (fun a b => a ≤ b) := by
    have := List.pairwise_mergeSort (le := fun x y : Int => decide (x ≤ y)) (fun a b c h1 h2 => by simp at *; omega) (fun a b => by simp; omega) Z
    simpa [srtL] using this
  have hmem : ∀ x, x ∈ srtL Z ↔ x ∈ Z := fun x => (List.mergeSort_perm Z _).mem_iff
  unfold payL Lib.compact
  generalize srtL Z = S at *
  have hs : ∀ i j, i < j → j < S.toArray.size → S.toArray[i]! ≤ S.toArray[j]! := fun i j hij hj => by
    have hj' : j < S.length := by simpa using hj
    have := List.pairwise_iff_getElem.1 hsrt i j (by omega) hj' hij
    rw [getElem!_pos S.toArray i (by simp; omega), getElem!_pos S.toArray j hj]
    simpa using this
  obtain ⟨h1, h2⟩ := comp_inv S.toArray hs S.length (by simp)
  refine ⟨h1, fun x => ?_⟩
  rw [h2, ← hmem]
  constructor
  · rintro ⟨j, hj, rfl⟩
    rw [getElem!_pos S.toArray j (by simpa using hj)]
    simp
  · intro hx
    obtain ⟨j, hj, rfl⟩ := List.mem_iff_getElem.1 hx
    exact ⟨j, hj, by rw [getElem!_pos S.toArray j (by simpa using hj)]; simp⟩
theorem flat_rising {β : Type} {P S : List Int} {f : Int → List β} (hP : P.Pairwise (fun a b => a < b)) (hS : S.Pairwise (fun a b => a < b)) (h : ∀ q, f q ≠ [] → (q ∈ P ∧ q ∈ S)) : P.flatMap f = S.flatMap f := by
  have nz : ∀ L : List Int, L.flatMap f = (L.filter fun q => !(f q).isEmpty).flatMap f := fun L => by
    induction L with
    | nil => rfl
    | cons a L ih =>
      rw [List.flatMap_cons, ih]
      cases he : f a with
      | nil => simp [List.filter_cons, he]
      | cons b l => simp [List.filter_cons, he]
  have hlt : ∀ {L : List Int}, L.Pairwise (fun a b => a < b) → (L.filter fun q => !(f q).isEmpty).Pairwise (fun a b => a < b) := fun h => h.filter _
  have hnd : ∀ {L : List Int}, L.Pairwise (fun a b => a < b) → L.Nodup := fun h => h.imp fun h => by omega
  have e : (P.filter fun q => !(f q).isEmpty) = (S.filter fun q => !(f q).isEmpty) := by
    refine List.Perm.eq_of_pairwise (le := fun a b => a < b) (fun a b _ _ h1 h2 => by omega) (hlt hP) (hlt hS) ?_
    rw [List.perm_ext_iff_of_nodup (hnd (hlt hP)) (hnd (hlt hS))]
    intro a
    simp only [List.mem_filter]
    constructor
    · rintro ⟨_, h2⟩
      exact ⟨(h a (by intro he; simp [he] at h2)).2, h2⟩
    · rintro ⟨_, h2⟩
      exact ⟨(h a (by intro he; simp [he] at h2)).1, h2⟩
  rw [nz P, nz S, e]
theorem find_flat {α β : Type} {p : β → Bool} {f : α → List β} {x : α} : ∀ {L : List α}, x ∈ L → (∀ y ∈ L, y ≠ x → (f y).find? p = none) → (L.flatMap f).find? p = (f x).find? p
  | [], h, _ => absurd h (by simp)
  | a :: L, h, hn => by
    rw [List.flatMap_cons, List.find?_append]
    by_cases hx : x ∈ L
    · have ih := find_flat hx fun y hy => hn y (by simp [hy])
      rw [ih]
      by_cases ha : a = x
      · subst ha; cases (f a).find? p <;> rfl
      · rw [hn a (by simp) ha]; rfl
    · have hax : x = a := by
        rcases List.mem_cons.1 h with h | h
        · exact h
        · exact absurd h hx
      subst hax
      have : (L.flatMap f).find? p = none := by
        rw [List.find?_eq_none]
        intro e he
        obtain ⟨y, hy, hey⟩ := List.mem_flatMap.1 he
        have := hn y (by simp [hy]) (fun e => hx (e ▸ hy))
        rw [List.find?_eq_none] at this
        exact this e hey
      rw [this, Option.or_none]
theorem ids_inj {ok : List Int → Bool} {m : Nat} {H : List (List Int)} (h : lsOk ok m H = true) {x y : List Int} (hx : x ∈ H) (hy : y ∈ H) (he : x.getD 0 0 = y.getD 0 0) : x = y := by
  obtain ⟨i, hi, rfl⟩ := List.mem_iff_getElem.1 hx
  obtain ⟨j, hj, rfl⟩ := List.mem_iff_getElem.1 hy
  have hs := ls_srt h
  rcases Nat.lt_trichotomy i j with hij | hij | hij
  · have := hs i j hij hj
    rw [show H.getD i [] = H[i] by simp [List.getD, hi], show H.getD j [] = H[j] by simp [List.getD, hj]] at this
    omega
  · subst hij; rfl
  · have := hs j i hij hi
    rw [show H.getD i [] = H[i] by simp [List.getD, hi], show H.getD j [] = H[j] by simp [List.getD, hj]] at this
    omega
theorem take3_id {e : List Int} {a b c : Int} (h : (e.take 3 == [a, b, c]) = true) : e.getD 0 0 = a ∧ e.getD 1 0 = b := by
  have h := eq_of_beq h
  match e, h with
  | x :: y :: _, h =>
    simp only [List.take_succ_cons, List.cons.injEq] at h
    exact ⟨h.1, h.2.1⟩
theorem getI_mem {E : List (List Int)} {a q t : Int} (h : getI E [a, q, t] ≠ 0) : q ∈ froL E := by
  unfold getI at h
  split at h
  · rename_i e he
    have h1 := List.mem_of_find?_eq_some he
    have h2 := List.find?_some he
    exact List.mem_map.2 ⟨e, h1, (take3_id h2).2⟩
  · exact absurd rfl h
def okR (h : List Int) (r : Int) : Prop := r = 0 ∨ r = 1 ∨ (r = 2 ∧ h.getD 5 0 ≠ 0)
theorem getI_amt {T H N : List (List Int)} {d : Int} (hq : askE T H N d = 0) {h : List Int} (hm : h ∈ H) (hb : 0 ≤ h.getD 5 0) {r : Int} (hr : okR h r) (q : Int) :
    getI (amtL T H N d) [h.getD 0 0, q, rcv h r] = paiN T N h d q r := by
  obtain ⟨ha, hd⟩ := askE_ok hq
  have hls : lsOk heldOk 60 H = true := by unfold accOk at ha; simp only [Bool.and_eq_true] at ha; exact ha.2.1
  unfold paiN
  rw [if_neg (by omega)]
  by_cases hc : cntH d h = true
  · rw [if_neg (by simp [hc])]
    have hf : (amtL T H N d).find? (fun e => e.take 3 == [h.getD 0 0, q, rcv h r]) = (amtE T N d h).find? (fun e => e.take 3 == [h.getD 0 0, q, rcv h r]) := by
      refine find_flat (List.mem_filter.2 ⟨hm, hc⟩) fun y hy hne => ?_
      rw [List.find?_eq_none]
      intro e he hp
      have h1 := (take3_id hp).1
      rw [amtE_id he] at h1
      exact hne (ids_inj hls (List.mem_filter.1 hy).1 hm h1)
    unfold getI
    rw [hf]
    unfold amtE rcvL
    generalize (dueN T N h d).getD 0 0 = g0
    obtain ⟨g1, e1⟩ : ∃ g, (dueN T N h d).getD 1 0 = g := ⟨_, rfl⟩
    obtain ⟨g2, e2⟩ : ∃ g, (dueN T N h d).getD 2 0 = g := ⟨_, rfl⟩
    obtain ⟨g3, e3⟩ : ∃ g, (dueN T N h d).getD 3 0 = g := ⟨_, rfl⟩
    have hprt : prt (dueN T N h d) r = if r = 0 then g3 else if r = 1 then g1 else g2 := by unfold prt; rw [e1, e2, e3]
    rw [e1, e2, e3, hprt]
    unfold rcv okR at *
    generalize h.getD 0 0 = x0
    generalize h.getD 5 0 = x5 at *
    by_cases hx : x5 = 0
    · rw [if_pos hx]
      rcases hr with rfl | rfl | ⟨rfl, h5⟩
      · by_cases hg : g0 = q
        · subst hg; simp
        · simp [hg]
      · by_cases hg : g0 = q
        · subst hg; simp
        · simp [hg]
      · exact absurd hx h5
    · rw [if_neg hx]
      have n1 : ¬ (0 : Int) = 2 + x5 := by omega
      have n2 : ¬ (1 : Int) = 2 + x5 := by omega
      have n3 : ¬ (2 : Int) + x5 = 0 := by omega
      have n4 : ¬ (2 : Int) + x5 = 1 := by omega
      rcases hr with rfl | rfl | ⟨rfl, h5⟩
      · by_cases hg : g0 = q
        · subst hg; simp
        · simp [hg]
      · by_cases hg : g0 = q
        · subst hg; simp
        · simp [hg]
      · by_cases hg : g0 = q
        · subst hg; simp [n1, n2]
        · simp [hg]
  · have hc0 : cntH d h = false := by simpa using hc
    rw [if_pos hc0]
    unfold getI
    rw [show (amtL T H N d).find? (fun e => e.take 3 == [h.getD 0 0, q, rcv h r]) = none from ?_]
    rw [List.find?_eq_none]
    intro e he hp
    obtain ⟨y, hy, he⟩ := List.mem_flatMap.1 he
    have h1 := (take3_id hp).1
    rw [amtE_id he] at h1
    obtain ⟨hy1, hy2⟩ := List.mem_filter.1 hy
    have := ids_inj hls hy1 hm h1
    subst this
    exact hc hy2
theorem paiN_neg {T N : List (List Int)} (hN : ∀ x ∈ N, noteOk x = true) (h : List Int) (k : Int) {q : Int} (r : Int) (hq : q < 0) : paiN T N h k q r = 0 := by
  unfold paiN
  split
  · rfl
  split
  · rfl
  split
  · rename_i he
    have hown := lotN_own (T := T) hN h k
    unfold dueN at he ⊢
    split at he
    · unfold dueP at he; simp at he; omega
    · rename_i hne2
      rw [if_neg hne2]
      split at he
      · rename_i h3
        rw [if_pos h3]
        unfold prt
        split
        · rfl
        split <;> rfl
      · have he' : 2 + (lotN T N h k).getD 0 0 = q := he
        omega
  · rfl
theorem paiN_pay {T N : List (List Int)} {h : List Int} {k q r : Int} (hne : paiN T N h k q r ≠ 0) : q = payD T N h k := by
  unfold paiN at hne
  split at hne
  · exact absurd rfl hne
  split at hne
  · exact absurd rfl hne
  split at hne
  · rename_i h1 h2 h3
    unfold payD
    rw [if_pos (by simp at h2; simp [h2]; omega)]
    exact h3.symm
  · exact absurd rfl hne
theorem pyrs_mem (a b : Int) : a ∈ pyrs a b ∧ b ∈ pyrs a b := by
  unfold pyrs
  split
  · rename_i h
    have : a = b := by omega
    subst this; simp
  · rcases Int.le_total a b with h | h
    · rw [Int.min_eq_left h, Int.max_eq_right h]; simp
    · rw [Int.min_eq_right h, Int.max_eq_left h]; simp
theorem pyrs_srt (a b : Int) : (pyrs a b).Pairwise (fun a b => a < b) := by
  unfold pyrs
  split
  · exact List.pairwise_singleton _ _
  · simp; omega
theorem chR_eq {T N E1 E2 : List (List Int)} (hN : ∀ x ∈ N, noteOk x = true) {h : List Int} {was day r : Int} (hr : okR h r) {P : List Int} (hP : P = payL (froL E1 ++ froL E2))
    (h1 : ∀ q, getI E1 [h.getD 0 0, q, rcv h r] = paiN T N h was q r) (h2 : ∀ q, getI E2 [h.getD 0 0, q, rcv h r] = paiN T N h day q r) :
    chR E1 E2 day P h (rcv h r) = (pyrs (payD T N h was) (payD T N h day)).flatMap (pst1 T N h was day r) := by
  have hsk : (r == 2 && h.getD 5 0 == 0) = false := by
    rcases hr with rfl | rfl | ⟨rfl, h5⟩
    · rfl
    · rfl
    · simpa using h5
  have hf : chP E1 E2 day h (rcv h r) = pst1 T N h was day r := by
    funext q
    unfold chP pst1 skp
    rw [h1, h2, hsk, Bool.or_false]
    have n1 := paiN_neg (T := T) hN h was (q := q) r
    have n2 := paiN_neg (T := T) hN h day (q := q) r
    generalize paiN T N h was q r = a at *
    generalize paiN T N h day q r = b at *
    generalize rcv h r = t
    by_cases hz : b - a = 0
    · rw [if_neg (by simp [hz])]
      split
      · rfl
      · rfl
    · have hq0 : ¬ q < 0 := fun hq => hz (by rw [n1 hq, n2 hq]; rfl)
      by_cases ht : q = t
      · rw [if_neg (by simp [ht]), if_pos (by simp [ht])]
      · rw [if_pos (by simp [ht, hz]), if_neg (by simp [ht]; omega), if_neg hz]
  unfold chR
  rw [hf]
  have hp := payL_spec (froL E1 ++ froL E2)
  rw [← hP] at hp
  refine flat_rising hp.1 (pyrs_srt _ _) fun q hne => ?_
  have hd : paiN T N h day q r ≠ 0 ∨ paiN T N h was q r ≠ 0 := by
    refine Classical.byContradiction fun hn => hne ?_
    have a1 : paiN T N h day q r = 0 := Classical.byContradiction fun h => hn (.inl h)
    have a2 : paiN T N h was q r = 0 := Classical.byContradiction fun h => hn (.inr h)
    unfold pst1
    rw [a1, a2]
    split <;> rfl
  rw [hp.2, List.mem_append]
  rcases hd with hd | hd
  · refine ⟨.inr (getI_mem (by rw [h2]; exact hd)), ?_⟩
    rw [paiN_pay hd]; exact (pyrs_mem _ _).2
  · refine ⟨.inl (getI_mem (by rw [h1]; exact hd)), ?_⟩
    rw [paiN_pay hd]; exact (pyrs_mem _ _).1
theorem chH_eq {T N E1 E2 : List (List Int)} (hN : ∀ x ∈ N, noteOk x = true) {h : List Int} {was day : Int} {P : List Int} (hP : P = payL (froL E1 ++ froL E2))
    (h1 : ∀ r, okR h r → ∀ q, getI E1 [h.getD 0 0, q, rcv h r] = paiN T N h was q r) (h2 : ∀ r, okR h r → ∀ q, getI E2 [h.getD 0 0, q, rcv h r] = paiN T N h day q r) :
    chH E1 E2 day P h = pstN T N h was day := by
  have e := fun r (hr : okR h r) => chR_eq hN hr hP (h1 r hr) (h2 r hr)
  unfold chH pstN pstK
  rw [show List.range 3 = [0, 1, 2] from rfl]
  have e0 := e 0 (.inl rfl)
  have e1 := e 1 (.inr (.inl rfl))
  rw [show rcv h 0 = 0 from rfl] at e0
  rw [show rcv h 1 = 1 from rfl] at e1
  unfold rcvL
  by_cases h5 : h.getD 5 0 = 0
  · rw [if_pos h5]
    have hz : (pyrs (payD T N h was) (payD T N h day)).flatMap (pst1 T N h was day 2) = [] := by
      rw [List.flatMap_eq_nil_iff]
      intro q _
      unfold pst1
      rw [if_pos (by unfold skp; rw [h5]; simp)]
    simp only [List.flatMap_cons, List.flatMap_nil, List.append_nil]
    rw [e0, e1]
    show _ = _ ++ (_ ++ (pyrs (payD T N h was) (payD T N h day)).flatMap (pst1 T N h was day 2))
    rw [hz, List.append_nil]
    rfl
  · rw [if_neg h5]
    have e2 := e 2 (.inr (.inr ⟨rfl, h5⟩))
    rw [show rcv h 2 = 2 + h.getD 5 0 from rfl] at e2
    simp only [List.flatMap_cons, List.flatMap_nil, List.append_nil]
    rw [e0, e1, e2]
    rfl
theorem dayQ_eq {T H N : List (List Int)} (h5 : ∀ x ∈ H, 0 ≤ x.getD 5 0) (hN : ∀ x ∈ N, noteOk x = true) {D : List Int} (hD : ∀ d ∈ D, askE T H N d = 0) {k : Nat} (hk : k < D.length) :
    dayQ T H N D k = H.flatMap fun h => pstN T N h (wasN D k) (D.getD k 0) := by
  have hDk : D.getD k 0 ∈ D := by rw [show D.getD k 0 = D[k] by simp [List.getD, hk]]; exact List.getElem_mem _
  unfold dayQ chaL
  rw [List.flatMap_def, List.flatMap_def]
  congr 1
  refine List.map_congr_left fun h hh => chH_eq hN rfl (fun r hr q => ?_) (fun r hr q => getI_amt (hD _ hDk) hh (h5 h hh) hr q)
  unfold befE wasN
  by_cases h0 : k = 0
  · rw [if_pos h0, if_pos h0]; rfl
  · rw [if_neg h0, if_neg h0]
    have hDp : D.getD (k - 1) 0 ∈ D := by rw [show D.getD (k - 1) 0 = D[k - 1] by simp [List.getD, show k - 1 < D.length by omega]]; exact List.getElem_mem _
    exact getI_amt (hD _ hDp) hh (h5 h hh) hr q
theorem pstQ_eq (T H N : List (List Int)) (D : List Int) : pstQ T H N D = pstL T H N D := by
  unfold pstQ pstL
  split
  · rename_i h
    obtain ⟨ha, hd⟩ := pstE_days h
    obtain ⟨h12, hin⟩ := daysOk_in hd
    have hD : ∀ d ∈ D, askE T H N d = 0 := fun d hdm => by
      unfold askE err
      rw [if_pos ha, if_pos (inB_iff.2 (hin d hdm))]
    unfold posQ posN posK
    rw [List.flatMap_def, List.flatMap_def]
    congr 1
    refine List.map_congr_left fun k hk => ?_
    exact dayQ_eq (fun x hx => (heldOk_bounds (accOk_H ha x hx)).2.2.2.1.1) (accOk_N ha) hD (List.mem_range.1 hk)
  · rfl
set_option maxRecDepth 100000
set_option maxHeartbeats 4000000
theorem Does.args {P : Program} {f : FuncId} {xs bs : List PV} {v : PV} (h : Does P f xs v) (hle : ∀ (im : Nat → Prop) (w : World) (us : List Value), RepL im w bs us → RepL im w xs us) : Does P f bs v := ⟨h.1, fun w im us him hr => h.2 w im us him (hle _ _ _ hr)⟩
def exM : List (List Int) := [[2, 1, 1, 3, 13, 14, 0], [3, 1, 2, 0, 15, 15, 0], [4, 1, 3, 6, 18, 18, 0]]
theorem ex_T : ∀ x ∈ exT, x.length = 24 := by decide
theorem ex_H : ∀ x ∈ exH, x.length = 9 := by decide
theorem ex_N : ∀ x ∈ exN, x.length = 7 := by decide
theorem ex_M : ∀ x ∈ exM, x.length = 7 := by decide
theorem sane1 : lotR exT exH exN 1 14 = ([3, 13, 0, -1], 0) := by kernel_rfl
theorem sane2 : stR [0, 0, 0] (fun h => chgN exT exN h 13) (staN exT exH exN 1 13) = ([12, 40, 16], 0) := by kernel_rfl
theorem sane3 : lotR exT exH exN 1 20 = ([3, 13, 1, 15], 0) := by kernel_rfl
theorem sane4 : stR [0, 0, 0, 0] (fun h => dueN exT exN h 20) (staN exT exH exN 1 20) = ([5, 24, 12, 38], 0) := by kernel_rfl
theorem sane5 : pstQ exT exH exN [13, 14, 20] = [[14, 1, 5, 0, 38], [14, 1, 5, 1, 24], [14, 1, 5, 11, 12]] := by cbv
theorem sane5e : pstE exT exH exN [13, 14, 20] = 0 := by kernel_rfl
theorem sane6 : ntdE exT exH exN [4, 1, 3, 6, 18, 18, 0] = 0 := by kernel_rfl
theorem sane6a : (atK 4 exN).2 = 2 := by kernel_rfl
theorem sane6b : insN exN [4, 1, 3, 6, 18, 18, 0] = exM := by kernel_rfl
theorem sane7e : pstE exT exH exM [15, 18] = 0 := by kernel_rfl
theorem sane7v : pstQ exT exH exM [15, 18] = [[15, 1, 5, 0, 38], [15, 1, 5, 1, 24], [15, 1, 5, 11, 12], [18, 1, 5, 0, -38], [18, 1, 8, 0, 38], [18, 1, 5, 1, -24], [18, 1, 8, 1, 24], [18, 1, 5, 11, -12], [18, 1, 8, 11, 12]] := by cbv
theorem sane7 : (pstQ exT exH exM [15, 18]).length = 9 ∧ (pstQ exT exH exM [15, 18])[3]? = some [18, 1, 5, 0, -38] := by rw [sane7v]; exact ⟨rfl, rfl⟩
theorem sane8 : oweN exT exH exN 3 20 = 74 := by kernel_rfl
theorem sane8e : thrE exT exH exN (inB 3 1 99) 20 = 0 := by kernel_rfl
theorem sane9 : lotR exT exH [] 1 100 = ([0, -1, 2, 59], 0) := by kernel_rfl
theorem sane_does : Does Tryz.prog 11 [] (.bool true) := by
  have c0 := example_does
  have c1 := pLot_does ex_T ex_H ex_N 1 14
  have c2 := pCharged_does ex_T ex_H ex_N 1 13
  have c3 := pLot_does ex_T ex_H ex_N 1 20
  have c4 := pDues_does ex_T ex_H ex_N 1 20
  have c5 := pPosts_does ex_T ex_H ex_N [13, 14, 20]
  have c6 := noted_does ex_T ex_H ex_N (n := [4, 1, 3, 6, 18, 18, 0]) rfl (fun _ => by
    have := insertEnd_does ex_N (by decide) (n := [4, 1, 3, 6, 18, 18, 0]) rfl
    rw [show ([4, 1, 3, 6, 18, 18, 0] : List Int).getD 0 0 = 4 from rfl, sane6a, sane6b]
    exact this)
  have c7 := pPosts_does ex_T ex_H ex_M [15, 18]
  have c8 := pOwed_does ex_T ex_H ex_N 3 20
  have c9 := pLot_does ex_T ex_H (N := []) (by simp) 1 100
  have cS := rSame_does [[14, 1, 5, 0, 38], [14, 1, 5, 1, 24], [14, 1, 5, 11, 12]] [[14, 1, 5, 0, 38], [14, 1, 5, 1, 24], [14, 1, 5, 11, 12]] (by decide) (by decide) (by decide)
  rw [sane1] at c1
  rw [sane2] at c2
  rw [sane3] at c3
  rw [sane4] at c4
  rw [sane5, sane5e] at c5
  rw [sane6, if_pos rfl, sane6b] at c6
  rw [sane7e] at c7
  rw [sane8, sane8e] at c8
  rw [sane9] at c9
  obtain ⟨m1, m2⟩ := sane7
  generalize pstQ exT exH exM [15, 18] = M at *
  refine does_of (own := inPl) Tryz.func11 rfl Tryz.ntmps11 (congrArg Array.toList Tryz.results11) (fun us w => Tryz.call11 us w) hTT mixed (Nat.le_of_ble_eq_true rfl) ?_
  intro w0 im0 D0 S Cl hS hC ar har
  have har' := har
  obtain ⟨ai, ab, nz, inr, fi, pk, ix, ln, sb, eqi, sl, fits, mn, mx, nt, be, up, fu, mg, mh, ms⟩ := ar
  have F := facts_of har
  clear har
  obtain ⟨eM, hM⟩ : ∃ es, M.map rowP = es := ⟨_, rfl⟩
  have hln : ab .eql (ln eM) 9 = true := by rw [F.ln, F.eql, ← hM, List.length_map, m1]; rfl
  have hg : ix eM 3 = some [.int .i64 18, .int .i64 1, .int .i64 5, .int .i64 0, .int .i64 (-38)] := by
    rw [F.ix eM 3 3 rfl, ← hM, List.getElem?_map, m2]; rfl
  rw [hM] at c7
  have e00 : ab .eql 0 0 = true := by rw [F.eql]; rfl
  have e74 : ab .eql 74 74 = true := by rw [F.eql]; rfl
  have q1 : eqi [.int .i64 3, .int .i64 13, .int .i64 0, .int .i64 (-1)] [.int .i64 3, .int .i64 13, .int .i64 0, .int .i64 (-1)] = true := by rw [F.eqi]; rfl
  have q2 : eqi [.int .i64 3, .int .i64 13, .int .i64 1, .int .i64 15] [.int .i64 3, .int .i64 13, .int .i64 1, .int .i64 15] = true := by rw [F.eqi]; rfl
  have q3 : eqi [.int .i64 0, .int .i64 (-1), .int .i64 2, .int .i64 59] [.int .i64 0, .int .i64 (-1), .int .i64 2, .int .i64 59] = true := by rw [F.eqi]; rfl
  have q4 : eqi [.int .i64 12, .int .i64 40, .int .i64 16] [.int .i64 12, .int .i64 40, .int .i64 16] = true := by rw [F.eqi]; rfl
  have q5 : eqi [.int .i64 5, .int .i64 24, .int .i64 12, .int .i64 38] [.int .i64 5, .int .i64 24, .int .i64 12, .int .i64 38] = true := by rw [F.eqi]; rfl
  have q6 : eqi [.int .i64 18, .int .i64 1, .int .i64 5, .int .i64 0, .int .i64 (-38)] [.int .i64 18, .int .i64 1, .int .i64 5, .int .i64 0, .int .i64 (-38)] = true := by rw [F.eqi]; rfl
  obtain ⟨eT, hT⟩ : ∃ es, exT.map rowP = es := ⟨_, rfl⟩
  obtain ⟨eH, hH⟩ : ∃ es, exH.map rowP = es := ⟨_, rfl⟩
  obtain ⟨eN, hN⟩ : ∃ es, exN.map rowP = es := ⟨_, rfl⟩
  obtain ⟨eX, hX⟩ : ∃ es, exM.map rowP = es := ⟨_, rfl⟩
  simp only [accP, hT, hH, hN, hX, List.map_nil] at c0 c1 c2 c3 c4 c5 c6 c7 c8 c9
  have c9 : Does Tryz.prog 30 [.agg [.list 24 eT, .list 9 eH, .nil], .int .i64 1, .int .i64 100] (.tup [.agg (rowP [0, -1, 2, 59]), .int .i64 0]) := c9.args fun im w us h => by
    simp only [RepL] at h ⊢
    obtain ⟨x, xs, rfl, h1, h2⟩ := h
    refine ⟨x, xs, rfl, (PLe.agg (RepL.leC (PLe.refl _) (RepL.leC (PLe.refl _) (RepL.leC (PLe.nil 7) (fun _ _ _ h => h))))).h _ _ _ h1, h2⟩
  cbv
  refine ⟨_, hC _ _ _ c0, ?_⟩; cbv
  refine ⟨_, hC _ _ _ c1, ?_⟩; cbv
  refine ⟨_, hC _ _ _ c2, ?_⟩; cbv
  refine ⟨_, hC _ _ _ c3, ?_⟩; cbv
  refine ⟨_, hC _ _ _ c4, ?_⟩; cbv
  refine ⟨_, hC _ _ _ c5, ?_⟩; cbv
  refine ⟨_, hC _ _ _ c6, ?_⟩; cbv
  refine ⟨_, hC _ _ _ c7, ?_⟩; cbv
  refine ⟨_, hC _ _ _ c8, ?_⟩; cbv
  refine ⟨_, hC _ _ _ c9, ?_⟩; cbv
  repeat ((first | rw [e00] | rw [q1] | rw [q2] | rw [q3] | rw [q4] | rw [q5] | rw [e74]); cbv)
  refine ⟨_, hC _ _ _ cS, ?_⟩; cbv
  repeat ((first | rw [hln] | rw [hg] | rw [q6]); cbv)
  exact PLe.refl _
end Go.Proofs.YtjimjdhdnkhfnaaGreat
