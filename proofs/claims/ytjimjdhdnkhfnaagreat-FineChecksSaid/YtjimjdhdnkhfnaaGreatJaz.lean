/- Contracts of functions of the program and of the reference, a calculus of states, and plain facts: a part of a proof. Own text. -/
import Derived.Test.YtjimjdhdnkhfnaaGreatJae
import Derived.Test.YtjimjdhdnkhfnaaGreatJal
import Derived.Test.YtjimjdhdnkhfnaaGreatJao
import Derived.Test.YtjimjdhdnkhfnaaGreatJar
import Derived.Test.YtjimjdhdnkhfnaaGreatJau
import Derived.Test.YtjimjdhdnkhfnaaGreatJay
import Derived.Shelf.RegionOpenPlain
set_option linter.unusedVariables false
set_option linter.unusedSimpArgs false
set_option linter.unusedSectionVars false
namespace Go.Proofs.YtjimjdhdnkhfnaaGreat
open Go Go.RowKit
set_option maxRecDepth 100000
set_option maxHeartbeats 8000000
theorem noteSz : (Tryz.prog.info? 34).map (·.size) = some 7 := by kernel_rfl
theorem noteSizeOf (w : World) : (Go.sizeOf 34).run Tryz.prog w = .ok 7 w := by
  obtain ⟨i0, hi, hz0, hz1, hz2⟩ := info_parts (show (Tryz.prog.info? 34).map (fun i => (i.zero, i.size, i.bytes)) = some (some (.agg (Array.replicate 7 (.int .i64 0))), 7, 56) by kernel_rfl)
  simp [sizeOf, typeInfo, hi, hz1]
theorem shape_of {w : World} {g : Nat} {cur : Array Value} {t : TypeId} {fr : Nat × Nat} (h : w.heap[g]? = some (.cells cur t fr)) : w.shape? g = some (t, cur.size) := by
  unfold World.shape?; rw [h]
theorem insertIn {w : World} {g n cap i vb vo vc : Nat} {cur A1 A2 : Array Value} {xs vs : List Value} (hgg : w.heap[g]? = some (.cells cur 34 (0, 0))) (hcs : cur.size = cap * 7) (hxs : cur.toList.take (n * 7) = xs) (hi : i < n) (hroom : n + 1 ≤ cap) (hcap : cap ≤ maxLen)
    (hvl : vs.length = 7) (hvs : ∀ (j : Nat) u, vs[j]? = some u → w.cell? ⟨vb, vo + j, none⟩ = some u) (hne : vb ≠ g) (h1v : ∀ u ∈ vs, u.oneCell' = true) (h1x : ∀ u ∈ xs, u.oneCell' = true)
    (hA1 : A1 = (cur.toList.take ((i + 1) * 7) ++ xs.drop (i * 7) ++ cur.toList.drop ((i + 1) * 7 + (xs.drop (i * 7)).length)).toArray) (hA2 : A2 = (A1.toList.take (i * 7) ++ vs ++ A1.toList.drop (i * 7 + vs.length)).toArray) :
    Calls Tryz.prog 65 #[.slice (some ⟨g, 0, none⟩) n cap, .int .i64 i, .slice (some ⟨vb, vo, none⟩) 1 vc] w fun e w' => e = .returned (.slice (some ⟨g, 0, none⟩) (n + 1) cap) ∧ w' = (w.drew.setRow g A1).setRow g A2 := by
  have hcm : cap ≤ 9223372036854775807 := by simpa [maxLen] using hcap
  have hlx : xs.length = n * 7 := by rw [← hxs, List.length_take, Array.length_toList, hcs]; omega
  have hdl : (xs.drop (i * 7)).length = (n - i) * 7 := by rw [List.length_drop, hlx, Nat.sub_mul]
  have hvc : ∃ cv tv fv, w.heap[vb]? = some (.cells cv tv fv) ∧ cv.size ≠ 0 := by
    obtain ⟨u, hu⟩ : ∃ u, vs[0]? = some u := ⟨_, List.getElem?_eq_getElem (by omega)⟩
    have h0 := hvs 0 u hu
    unfold World.cell? at h0
    split at h0
    · rename_i cv tv fv hh
      refine ⟨cv, tv, fv, hh, fun e0 => ?_⟩
      simp only at h0
      have : cv = #[] := Array.eq_empty_of_size_eq_zero e0
      subst this
      simp at h0
    · cases h0
  obtain ⟨cv, tv, fv, hhv, hcv⟩ := hvc
  have hov : ∀ (W : World), W.heap[vb]? = w.heap[vb]? → W.heap[g]? = w.heap[g]? → ∀ o lb cb, (callFunc 121 #[.slice (some ⟨vb, vo, none⟩) 1 vc, .slice (some ⟨g, o, none⟩) lb cb]).run Tryz.prog W = .ok (.value (.bool false)) W := fun W e1 e2 o lb cb => by
    rw [run_callFunc_extern Tryz.func121 (by kernel_rfl) (by kernel_rfl) (by kernel_rfl) (e := Extern.SlicesOverlaps.overlaps #[24, 24] #[4]) (by kernel_rfl),
      run_overlapsK W 24 4 34 Tryz.underlying24 7 noteSizeOf ⟨vb, vo, none⟩ ⟨g, o, none⟩ 1 vc lb cb hne tv 34 cv.size cur.size (shape_of (e1.trans hhv)) (shape_of (e2.trans hgg)) hcv (frozen_of_row W g o _ _ (e2.trans hgg)) (frozen_of_row W g _ _ _ (e2.trans hgg))]
    rfl
  have hov0 := fun o lb cb => hov w rfl rfl o lb cb
  have hz1 : ¬ ((1 : Int) = 0) := by omega
  have hz2 : ¬ ((i : Int) = (n : Int)) := by omega
  have hw1 : IntKind.i64.wrap ((i : Int) + 1) = (i : Int) + 1 := by rw [IntKind.wrap_i64]; omega
  have hw2 : IntKind.i64.wrap ((n : Int) + 1) = (n : Int) + 1 := by rw [IntKind.wrap_i64]; omega
  have hb1 : (0 : Int) ≤ (i : Int) + 1 := by omega
  have hb4 : (0 : Int) ≤ (n : Int) + 1 := by omega
  have hin : i ≤ n := by omega
  have htn : ((i : Int) + 1).toNat = i + 1 := by omega
  have htn2 : ((n : Int) + 1).toNat = n + 1 := by omega
  have hb2 : ¬ (cap = i + 1) := by omega
  have hb3 : (i : Int) ≤ (n : Int) + 1 := by omega
  have hb5 : ¬ (cap = i) := by omega
  have hb6 : ¬ ((n : Int) + 1 > (cap : Int)) := by omega
  have hb7 : (n : Int) + 1 ≤ (cap : Int) := by omega
  have hb8 : (i : Int) + 1 ≤ (n : Int) + 1 := by omega
  have hgd : w.drew.heap[g]? = some (.cells cur 34 (0, 0)) := hgg
  have hm1 : Nat.min (n + 1 - i) (n - i) = n - i := by simp only [Nat.min_def]; split <;> omega
  have hm2 : Nat.min 1 (n + 1 - i) = 1 := by simp only [Nat.min_def]; split <;> omega
  have e17 : (i + 1) * 7 + (n - i) * 7 = (n + 1) * 7 := by rw [← Nat.add_mul]; congr 1; omega
  have hsz7 : (n + 1) * 7 ≤ cap * 7 := Nat.mul_le_mul_right _ hroom
  have hcp1 : ∀ ty dc sc, (Builtin.copy_ #[24, 24] ty #[.slice (some ⟨g, (i + 1) * 7, none⟩) (n - i) dc, .slice (some ⟨g, i * 7, none⟩) (n + 1 - i) sc]).run Tryz.prog w.drew = .ok (goInt ((n - i : Nat) : Int)) (w.drew.setRow g A1) := fun ty dc sc => by
    have := run_copyK (P := Tryz.prog) w.drew 24 24 ty 34 7 g ((i + 1) * 7) (n - i) dc ⟨g, i * 7, none⟩ (n + 1 - i) sc cur 34 (xs.drop (i * 7)) Tryz.underlying24 noteSz hgd (by rw [hdl, hm1])
      (fun j u hj => by
        rw [Addr.add_lit]
        rw [List.getElem?_drop] at hj
        show w.cell? _ = _
        rw [cell_of_row w g _ _ _ _ hgg, ← Array.getElem?_toList]
        rw [← hxs, List.getElem?_take] at hj
        split at hj
        · exact hj
        · cases hj)
      (by rw [hdl, hcs]; omega) (fun u hu => h1x u (List.mem_of_mem_drop hu))
    rw [hm1, ← hA1] at this
    exact this
  have hA1l : A1.size = cap * 7 := by
    rw [hA1]
    simp only [List.size_toArray, List.length_append, List.length_take, List.length_drop, Array.length_toList, hdl, hlx, hcs]
    omega
  have hg1 : (w.drew.setRow g A1).heap[g]? = some (.cells A1 34 (0, 0)) := setRow_heap w.drew g cur A1 _ _ hgd
  have hcp2 : ∀ ty dc, (Builtin.copy_ #[24, 24] ty #[.slice (some ⟨g, i * 7, none⟩) (n + 1 - i) dc, .slice (some ⟨vb, vo, none⟩) 1 vc]).run Tryz.prog (w.drew.setRow g A1) = .ok (goInt ((1 : Nat) : Int)) ((w.drew.setRow g A1).setRow g A2) := fun ty dc => by
    have := run_copyK (P := Tryz.prog) (w.drew.setRow g A1) 24 24 ty 34 7 g (i * 7) (n + 1 - i) dc ⟨vb, vo, none⟩ 1 vc A1 34 vs Tryz.underlying24 noteSz hg1 (by rw [hvl, hm2])
      (fun j u hj => by
        rw [Addr.add_lit]
        rw [World.cell?_of_block (w := w.drew) (setRow_other w.drew g vb A1 hne)]
        exact hvs j u hj)
      (by rw [hvl, hA1l]; omega) h1v
    rw [hm2, ← hA2] at this
    exact this
  clear hhv hA1 hA2 hgd hg1
  go_enter Tryz.func65, Tryz.ntmps65
  go_wp2_with (simp only [hov0])
  have mixed9 := mixed
  go_region_law_o (refine step_copyI rfl _ _ 24 24 rfl _ _ (by simp [Act.eval, Act.put]) (by simp [Act.eval, Act.put]) (hcp1 _ _ _) ?_)
  go_wp2_with (at_builtin; refine wpList_copyI _ rfl _ _ 24 24 rfl _ _ rfl rfl (hcp2 _ _) ?_)
  all_goals first | exact ⟨rfl, rfl⟩ | (go_ret; exact ⟨rfl, rfl⟩)
theorem insertGrow {w : World} {g n i vb vo vc : Nat} {cur ROW A1 A2 : Array Value} {xs vs : List Value} {G : Nat} (hgg : w.heap[g]? = some (.cells cur 34 (0, 0))) (hcs : cur.size = n * 7) (hxs : cur.toList.take (n * 7) = xs) (hi : i < n) (hcap : n ≤ 100000)
    (hvl : vs.length = 7) (hvs : ∀ (j : Nat) u, vs[j]? = some u → w.cell? ⟨vb, vo + j, none⟩ = some u) (hvb : vb < w.heap.size) (h1v : ∀ u ∈ vs, u.oneCell' = true) (h1x : ∀ u ∈ xs, u.oneCell' = true)
    (hG : G = grownCap w (n + 1) n 34) (hROW : ROW = (xs.take (i * 7)).toArray ++ Builtin.zeroCells (Value.agg (Array.replicate 7 (.int .i64 0))).cells (n + 1 - i) ++ Builtin.zeroCells (Value.agg (Array.replicate 7 (.int .i64 0))).cells (G - (n + 1)))
    (hA1 : A1 = (ROW.toList.take (i * 7) ++ vs ++ ROW.toList.drop (i * 7 + vs.length)).toArray) (hA2 : A2 = (A1.toList.take ((i + 1) * 7) ++ xs.drop (i * 7) ++ A1.toList.drop ((i + 1) * 7 + (xs.drop (i * 7)).length)).toArray) :
    ROW.size = G * 7 ∧ n + 1 ≤ G ∧ G ≤ maxLen ∧ Calls Tryz.prog 65 #[.slice (some ⟨g, 0, none⟩) n n, .int .i64 i, .slice (some ⟨vb, vo, none⟩) 1 vc] w fun e w' => e = .returned (.slice (some ⟨w.heap.size, 0, none⟩) (n + 1) G) ∧
      w' = (((w.drew.alloc (.cells ROW 34)).setRow w.heap.size A1).drew).setRow w.heap.size A2 := by
  have hgl : g < w.heap.size := (Array.getElem?_eq_some_iff.1 hgg).1
  have hlx : xs.length = n * 7 := by rw [← hxs, List.length_take, Array.length_toList, hcs]; omega
  have hdl : (xs.drop (i * 7)).length = (n - i) * 7 := by rw [List.length_drop, hlx, Nat.sub_mul]
  have hGn : n + 1 ≤ G := by rw [hG]; exact grownCap_ge w _ _ _
  have hG63 : G ≤ maxLen := by rw [hG]; exact grownCap_le_maxLen w (n + 1) n 34 (by unfold maxLen; omega)
  have hG63' : G ≤ 9223372036854775807 := by simpa [maxLen] using hG63
  obtain ⟨i0, hi0, hz0, hzs, hzb⟩ := info_parts (show (Tryz.prog.info? 34).map (fun i => (i.zero, i.size, i.bytes)) = some (some (.agg (Array.replicate 7 (.int .i64 0))), 7, 56) by kernel_rfl)
  have hxc : ∀ (j : Nat) u, xs[j]? = some u → w.cell? ⟨g, j, none⟩ = some u := fun j u hj => by
    rw [cell_of_row w g _ _ _ _ hgg, ← Array.getElem?_toList]
    rw [← hxs, List.getElem?_take] at hj
    split at hj
    · exact hj
    · cases hj
  have hold : (Builtin.firstCells i0.size i (.slice (some ⟨g, 0, none⟩) i n)).run Tryz.prog w.drew = .ok (xs.take (i * 7)).toArray w.drew := by
    rw [hzs]
    exact run_firstCells_some w.drew 7 i ⟨g, 0, none⟩ i n (xs.take (i * 7)) (by rw [List.length_take, hlx]; omega) (fun j v hj => by
      rw [Addr.add_lit, Nat.zero_add]
      rw [List.getElem?_take] at hj
      split at hj
      · exact hxc j v hj
      · cases hj)
  have hkk : (n : Int) + 1 - (i : Int) = ((n + 1 - i : Nat) : Int) := by omega
  have hik : i + (n + 1 - i) = n + 1 := by omega
  have hrz : ∀ ty, (Builtin.append_ #[24, 3] ty #[.slice (some ⟨g, 0, none⟩) i n, .int .i64 ((n : Int) + 1 - (i : Int))]).run Tryz.prog w = .ok (.slice (some ⟨w.heap.size, 0, none⟩) (n + 1) G) (w.drew.alloc (.cells ROW 34)) := fun ty => by
    have h := Lib.run_append_grow_zeros w 24 3 ty 34 i0 _ .i64 .i64 Tryz.underlying24 Tryz.underlying3 hi0 hz0 (some ⟨g, 0, none⟩) i n _ hold (n + 1 - i) (by omega) (by rw [hzs]; omega) (by omega) (by omega) (by rw [hzb]; omega) (by rw [hzb, hik]; exact growslice_fits (by omega) (by omega))
    rw [hik, ← hG, ← hROW] at h
    rw [hkk]
    exact h
  have hRl : ROW.size = G * 7 := by
    rw [hROW]
    have : (xs.take (i * 7)).length = i * 7 := by rw [List.length_take, hlx]; omega
    simp [Builtin.zeroCells, Value.cells, this]
    omega
  refine ⟨hRl, hGn, hG63, ?_⟩
  have hm1 : Nat.min 1 (n + 1 - i) = 1 := by simp only [Nat.min_def]; split <;> omega
  have hm2 : Nat.min (n - i) (n - i) = n - i := by simp only [Nat.min_def]; split <;> omega
  have h7 : (n + 1) * 7 ≤ G * 7 := Nat.mul_le_mul_right _ hGn
  have hcpA : ∀ (W : World), W.heap[w.heap.size]? = some (.cells ROW 34 (0, 0)) → W.heap[vb]? = w.heap[vb]? → ∀ ty dc, (Builtin.copy_ #[24, 24] ty #[.slice (some ⟨w.heap.size, i * 7, none⟩) (n + 1 - i) dc, .slice (some ⟨vb, vo, none⟩) 1 vc]).run Tryz.prog W = .ok (goInt ((1 : Nat) : Int)) (W.setRow w.heap.size A1) := fun W hW hWv ty dc => by
    have := run_copyK (P := Tryz.prog) W 24 24 ty 34 7 w.heap.size (i * 7) (n + 1 - i) dc ⟨vb, vo, none⟩ 1 vc ROW 34 vs Tryz.underlying24 noteSz hW (by rw [hvl, hm1])
      (fun j u hj => by
        rw [Addr.add_lit]
        rw [World.cell?_of_block (w := w) hWv]
        exact hvs j u hj)
      (by rw [hvl, hRl]; omega) h1v
    rw [hm1, ← hA1] at this
    exact this
  have hA1l : A1.size = G * 7 := by
    rw [hA1]
    simp only [List.size_toArray, List.length_append, List.length_take, List.length_drop, Array.length_toList, hvl, hRl]
    omega
  have e17 : (i + 1) * 7 + (n - i) * 7 = (n + 1) * 7 := by rw [← Nat.add_mul]; congr 1; omega
  have hcpB : ∀ (W : World), W.heap[w.heap.size]? = some (.cells A1 34 (0, 0)) → W.heap[g]? = w.heap[g]? → ∀ ty dc sc, (Builtin.copy_ #[24, 24] ty #[.slice (some ⟨w.heap.size, (i + 1) * 7, none⟩) (n - i) dc, .slice (some ⟨g, i * 7, none⟩) (n - i) sc]).run Tryz.prog W = .ok (goInt ((n - i : Nat) : Int)) (W.setRow w.heap.size A2) := fun W hW hWg ty dc sc => by
    have := run_copyK (P := Tryz.prog) W 24 24 ty 34 7 w.heap.size ((i + 1) * 7) (n - i) dc ⟨g, i * 7, none⟩ (n - i) sc A1 34 (xs.drop (i * 7)) Tryz.underlying24 noteSz hW (by rw [hdl, hm2])
      (fun j u hj => by
        rw [Addr.add_lit]
        rw [List.getElem?_drop] at hj
        rw [World.cell?_of_block (w := w) hWg]
        exact hxc _ u hj)
      (by rw [hdl, hA1l]; omega) (fun u hu => h1x u (List.mem_of_mem_drop hu))
    rw [hm2, ← hA2] at this
    exact this
  have hw0 : (w.drew.alloc (.cells ROW 34)).heap[w.heap.size]? = some (.cells ROW 34 (0, 0)) := heap_alloc_new w.drew _
  have hwb : ∀ b, b < w.heap.size → (w.drew.alloc (.cells ROW 34)).heap[b]? = w.heap[b]? := fun b hb => Below.heap_alloc w.drew _ b hb
  have hw1 : ((w.drew.alloc (.cells ROW 34)).setRow w.heap.size A1).heap[w.heap.size]? = some (.cells A1 34 (0, 0)) := setRow_heap _ _ ROW A1 _ _ hw0
  have hw2 : ((w.drew.alloc (.cells ROW 34)).setRow w.heap.size A1).heap[g]? = w.heap[g]? := (setRow_other _ _ g A1 (by omega)).trans (hwb g hgl)
  have hz1 : ¬ ((1 : Int) = 0) := by omega
  have hz2 : ¬ ((i : Int) = (n : Int)) := by omega
  have hwr1 : IntKind.i64.wrap ((i : Int) + 1) = (i : Int) + 1 := by rw [IntKind.wrap_i64]; omega
  have hwr2 : IntKind.i64.wrap ((n : Int) + 1) = (n : Int) + 1 := by rw [IntKind.wrap_i64]; omega
  have hwr3 : IntKind.i64.wrap ((n : Int) + 1 - (i : Int)) = (n : Int) + 1 - (i : Int) := by rw [IntKind.wrap_i64]; omega
  have hb1 : (0 : Int) ≤ (i : Int) + 1 := by omega
  have hin : i ≤ n := by omega
  have htn : ((i : Int) + 1).toNat = i + 1 := by omega
  have hb3 : (i : Int) ≤ (n : Int) := by omega
  have hb3' : (i : Int) ≤ (n : Int) + 1 := by omega
  have hb4 : ¬ (n = i) := by omega
  have hb5 : ¬ (G = i) := by omega
  have hb6 : ¬ (G = i + 1) := by omega
  have hb7 : (n : Int) < (n : Int) + 1 := by omega
  have hb8 : (i : Int) + 1 ≤ (n : Int) + 1 := by omega
  have hb9 : i ≤ G := by omega
  have mixed9 := mixed
  have hcA := fun ty dc => hcpA (w.alloc (.cells ROW 34)).drew hw0 (hwb vb hvb) ty dc
  have hcB := fun ty dc sc => hcpB ((w.alloc (.cells ROW 34)).drew.setRow w.heap.size A1).drew hw1 hw2 ty dc sc
  clear hkk hik hold hROW hG hA1 hA2 hcpA hcpB hw0 hw1 hw2 hwb hi0 hz0 hzs hzb hxc hxs hvs
  go_enter Tryz.func65, Tryz.ntmps65
  go_wp2_with (first
    | (at_builtin; refine Lib.wpList_append_run _ rfl _ _ _ _ rfl _ _ rfl rfl _ _ (hrz _) ?_)
    | (at_builtin; refine wpList_copyI _ rfl _ _ 24 24 rfl _ _ rfl rfl (hcA _ _) ?_))
  go_region_law_o (refine step_copyI rfl _ _ 24 24 rfl _ _ (by simp [Act.eval, Act.put]) (by simp [Act.eval, Act.put]) (hcB _ _ _) ?_)
  go_wp2
  all_goals first | exact ⟨rfl, rfl⟩ | (go_ret; exact ⟨rfl, rfl⟩)
set_option maxHeartbeats 4000000
theorem flat_takeK {k : Nat} : ∀ {L : List (List Value)} (i : Nat), (∀ x ∈ L, x.length = k) → L.flatten.take (i * k) = (L.take i).flatten
  | [], i, _ => by simp
  | x :: L, 0, _ => by simp
  | x :: L, i + 1, h => by
    have hx := h x (by simp)
    rw [List.flatten_cons, List.take_succ_cons, List.flatten_cons, ← flat_takeK i (fun y hy => h y (by simp [hy])), Nat.add_mul, Nat.one_mul, Nat.add_comm, ← hx, List.take_length_add_append]
theorem flat_dropK {k : Nat} : ∀ {L : List (List Value)} (i : Nat), (∀ x ∈ L, x.length = k) → L.flatten.drop (i * k) = (L.drop i).flatten
  | [], i, _ => by simp
  | x :: L, 0, _ => by simp
  | x :: L, i + 1, h => by
    have hx := h x (by simp)
    rw [List.flatten_cons, List.drop_succ_cons, ← flat_dropK i (fun y hy => h y (by simp [hy])), Nat.add_mul, Nat.one_mul, Nat.add_comm, ← hx, List.drop_length_add_append]
theorem put_mid {l v y z : List Value} {p q a : Nat} (hp : p ≤ a) (ha : a ≤ l.length) (hv : v.length = a - p) (hq : q = a + y.length) :
    (((l.take a ++ y ++ z).take p ++ v ++ (l.take a ++ y ++ z).drop (p + v.length))).take q = l.take p ++ v ++ y := by
  have e1 : (l.take a ++ y ++ z).take p = l.take p := by
    rw [List.append_assoc, List.take_append_of_le_length (by rw [List.length_take]; omega), List.take_take, Nat.min_eq_left hp]
  have e2 : (l.take a ++ y ++ z).drop (p + v.length) = y ++ z := by
    rw [List.append_assoc, hv, show p + (a - p) = (l.take a).length by rw [List.length_take]; omega, List.drop_left]
  rw [e1, e2, ← List.append_assoc]
  have : q = (l.take p ++ v ++ y).length := by
    rw [List.length_append, List.length_append, List.length_take, hv, hq]; omega
  rw [this, List.take_left]
theorem insert_does {N : List (List Int)} (h3 : ∀ x ∈ N, x.length = 7) (hN : N.length ≤ 100000) {n : List Int} (hn7 : n.length = 7) {i : Nat} (hi : i ≤ N.length) :
    DoesC Tryz.prog 65 34 7 (N.map rowP) [.int .i64 i, .list 7 [rowP n]] (.list 7 ((N.take i ++ [n] ++ N.drop i).map rowP)) := by
  rcases Nat.lt_or_ge i N.length with hlt | hge
  rotate_left
  · have : i = N.length := by omega
    subst this
    have := insertEnd_does h3 hN hn7
    rw [List.take_length, List.drop_length, List.append_nil]
    exact this
  refine ⟨fun us w => Tryz.call65 us w, fun w im imA base x xs us him himA hb hown hl hk hno hr => ?_⟩
  obtain ⟨x1, us1, rfl, hx1, hr⟩ : ∃ x1 us1, us = x1 :: us1 ∧ RepP imA w (.int .i64 i) x1 ∧ RepL imA w [.list 7 [rowP n]] us1 := by simpa only [RepL] using hr
  obtain ⟨x2, rfl, hx2⟩ := L1 hr
  simp only [RepP] at hx1
  subst hx1
  simp only [RepP] at hx2
  obtain ⟨A, m, c, rfl, hm1, hc, hm, h⟩ := hx2
  obtain rfl : m = 1 := by simpa using hm1
  rcases h with h | ⟨vb, vo, rfl, hvi, hE⟩
  · simp at h
  obtain ⟨vs, hvl, hone, hrg, hvr⟩ := hE.get (i := 0) (e := rowP n) rfl
  rw [rep_ints] at hvr
  subst hvr
  rw [Nat.zero_mul, Nat.add_zero] at hrg
  rw [ints_len, hn7] at hvl
  rw [rows_flat] at hl
  have hxs : xs = (N.map ints).flatten := by rw [ints_flat]; exact rep_ints.1 hl
  rw [List.length_map] at hown
  have hxone := hk.2
  rcases hown.2 with ⟨_, h0⟩ | ⟨g, cap, cur, rfl, hbg, hgg, hcap, hmx, hcs, hcur⟩
  · omega
  have hne : vb ≠ g := fun e => (hno g rfl).2 (e ▸ hvi)
  have hvb := (himA vb hvi).1
  have hgl : g < w.heap.size := (Array.getElem?_eq_some_iff.1 hgg).1
  have hlx : xs.length = N.length * 7 := by rw [hxs]; exact flat_size h3
  have hw : ∀ z ∈ N.map ints, z.length = 7 := fun z hz => by obtain ⟨y, hy, rfl⟩ := List.mem_map.1 hz; rw [ints_len]; exact h3 y hy
  have hwn : ∀ z ∈ N.take i ++ [n] ++ N.drop i, z.length = 7 := fun z hz => by
    simp only [List.mem_append, List.mem_singleton] at hz
    rcases hz with (hz | hz) | hz
    · exact h3 z (List.mem_of_mem_take hz)
    · rw [hz]; exact hn7
    · exact h3 z (List.mem_of_mem_drop hz)
  have hlen : (N.take i ++ [n] ++ N.drop i).length = N.length + 1 := by
    rw [List.length_append, List.length_append, List.length_take, List.length_drop, List.length_singleton]; omega
  have hflat : ((N.take i ++ [n] ++ N.drop i).map ints).flatten = xs.take (i * 7) ++ ints n ++ xs.drop (i * 7) := by
    rw [hxs, flat_takeK i hw, flat_dropK i hw]
    simp only [List.map_append, List.flatten_append, List.map_cons, List.map_nil, List.flatten_cons, List.flatten_nil, List.append_nil, List.map_take, List.map_drop]
  have hi7 : (i + 1) * 7 ≤ N.length * 7 := Nat.mul_le_mul_right _ hlt
  have hdl : (xs.drop (i * 7)).length = (N.length - i) * 7 := by rw [List.length_drop, hlx, Nat.sub_mul]
  have hc7 : N.length * 7 ≤ cap * 7 := Nat.mul_le_mul_right _ hcap
  have hxt : xs.take (i * 7) = cur.toList.take (i * 7) := by rw [← hcur, List.take_take, Nat.min_eq_left (by omega)]
  have e17 : (i + 1) * 7 + (N.length - i) * 7 = (N.length + 1) * 7 := by rw [← Nat.add_mul]; congr 1; omega
  rcases Nat.lt_or_ge N.length cap with hroom | hfull
  · obtain ⟨A1, hA1⟩ : ∃ A1 : Array Value, A1 = (cur.toList.take ((i + 1) * 7) ++ xs.drop (i * 7) ++ cur.toList.drop ((i + 1) * 7 + (xs.drop (i * 7)).length)).toArray := ⟨_, rfl⟩
    obtain ⟨A2, hA2⟩ : ∃ A2 : Array Value, A2 = (A1.toList.take (i * 7) ++ ints n ++ A1.toList.drop (i * 7 + (ints n).length)).toArray := ⟨_, rfl⟩
    refine (insertIn (w := w) (vc := c) hgg hcs hcur hlt hroom hmx (by rw [ints_len]; exact hn7) hrg hne (ints_one' n) hxone hA1 hA2).mono ?_
    rintro e w' ⟨rfl, rfl⟩
    have hr7 : (N.length + 1) * 7 ≤ cap * 7 := Nat.mul_le_mul_right _ hroom
    have hA1l : A1.size = cap * 7 := by
      rw [hA1]
      simp only [List.size_toArray, List.length_append, List.length_take, List.length_drop, Array.length_toList, hdl, hlx, hcs]
      omega
    have hA2l : A2.size = cap * 7 := by
      rw [hA2]
      simp only [List.size_toArray, List.length_append, List.length_take, List.length_drop, Array.length_toList, ints_len, hn7, hA1l]
      omega
    have hA2t : A2.toList.take ((N.length + 1) * 7) = xs.take (i * 7) ++ ints n ++ xs.drop (i * 7) := by
      rw [hA2, hA1, hxt]
      exact put_mid (by omega) (by rw [Array.length_toList, hcs]; omega) (by rw [ints_len, hn7]; omega) (by rw [hdl]; exact e17.symm)
    have hg1 : (w.drew.setRow g A1).heap[g]? = some (.cells A1 34 (0, 0)) := setRow_heap w.drew g cur A1 _ _ hgg
    have hg2 : ((w.drew.setRow g A1).setRow g A2).heap[g]? = some (.cells A2 34 (0, 0)) := setRow_heap _ g A1 A2 _ _ hg1
    refine ⟨_, rfl, rep_own (n0 := base) (e := 34) (xs := xs.take (i * 7) ++ ints n ++ xs.drop (i * 7)) hflat.symm ?_ hwn (fun g' hg' => ?_), ⟨rfl, rfl, rfl, Nat.le_of_eq ((Put.row w.drew g A1).trans (Put.row _ g A2)).size.symm, fun b hb hbn => ?_⟩⟩
    · rw [hlen]
      have hAl : A2.toList.length = cap * 7 := by rw [← hA2l]; exact Array.length_toList
      refine ⟨by rw [← hA2t, List.length_take, hAl]; omega, .inr ⟨g, cap, A2, rfl, hbg, hg2, hroom, hmx, hA2l, hA2t⟩⟩
    · have : g = g' := by simpa [Value.ownBlock] using hg'
      subst this
      exact .inr ⟨.inl rfl, plain_of hg2 rfl⟩
    · have hbg' : b ≠ g := fun e => hbn (by rw [e]; rfl)
      rw [setRow_other _ g b A2 hbg', setRow_other w.drew g b A1 hbg']
      rfl
  · have hcn : cap = N.length := by omega
    subst hcn
    obtain ⟨G, hG⟩ : ∃ G, G = grownCap w (N.length + 1) N.length 34 := ⟨_, rfl⟩
    obtain ⟨ROW, hROW⟩ : ∃ ROW : Array Value, ROW = (xs.take (i * 7)).toArray ++ Builtin.zeroCells (Value.agg (Array.replicate 7 (.int .i64 0))).cells (N.length + 1 - i) ++ Builtin.zeroCells (Value.agg (Array.replicate 7 (.int .i64 0))).cells (G - (N.length + 1)) := ⟨_, rfl⟩
    obtain ⟨A1, hA1⟩ : ∃ A1 : Array Value, A1 = (ROW.toList.take (i * 7) ++ ints n ++ ROW.toList.drop (i * 7 + (ints n).length)).toArray := ⟨_, rfl⟩
    obtain ⟨A2, hA2⟩ : ∃ A2 : Array Value, A2 = (A1.toList.take ((i + 1) * 7) ++ xs.drop (i * 7) ++ A1.toList.drop ((i + 1) * 7 + (xs.drop (i * 7)).length)).toArray := ⟨_, rfl⟩
    obtain ⟨hRl, hGn, hG63, hcall⟩ := insertGrow (w := w) (vc := c) hgg hcs hcur hlt hN (by rw [ints_len]; exact hn7) hrg hvb (ints_one' n) hxone hG hROW hA1 hA2
    refine hcall.mono ?_
    rintro e w' ⟨rfl, rfl⟩
    have hg7 : (N.length + 1) * 7 ≤ G * 7 := Nat.mul_le_mul_right _ hGn
    have hA1l : A1.size = G * 7 := by
      rw [hA1]
      simp only [List.size_toArray, List.length_append, List.length_take, List.length_drop, Array.length_toList, ints_len, hn7, hRl]
      omega
    have hA2l : A2.size = G * 7 := by
      rw [hA2]
      simp only [List.size_toArray, List.length_append, List.length_take, List.length_drop, Array.length_toList, hdl, hA1l]
      omega
    have hRt : ROW.toList.take (i * 7) = xs.take (i * 7) := by
      rw [hROW]
      have : (xs.take (i * 7)).length = i * 7 := by rw [List.length_take, hlx]; omega
      simp only [Array.toList_append, List.toList_toArray, List.append_assoc]
      exact List.take_left' this
    have hA2t : A2.toList.take ((N.length + 1) * 7) = xs.take (i * 7) ++ ints n ++ xs.drop (i * 7) := by
      have e1 : A1.toList.take ((i + 1) * 7) = xs.take (i * 7) ++ ints n := by
        rw [hA1, hRt]
        have : (xs.take (i * 7) ++ ints n).length = (i + 1) * 7 := by rw [List.length_append, List.length_take, hlx, ints_len, hn7]; omega
        exact List.take_left' this
      rw [hA2, e1]
      have : (xs.take (i * 7) ++ ints n ++ xs.drop (i * 7)).length = (N.length + 1) * 7 := by rw [List.length_append, List.length_append, List.length_take, hlx, ints_len, hn7, hdl]; omega
      exact List.take_left' this
    have hw0 : (w.drew.alloc (.cells ROW 34)).heap[w.heap.size]? = some (.cells ROW 34 (0, 0)) := heap_alloc_new w.drew _
    have hw1 : ((w.drew.alloc (.cells ROW 34)).setRow w.heap.size A1).drew.heap[w.heap.size]? = some (.cells A1 34 (0, 0)) := setRow_heap _ _ ROW A1 _ _ hw0
    have hsize : w.heap.size ≤ ((((w.drew.alloc (.cells ROW 34)).setRow w.heap.size A1).drew).setRow w.heap.size A2).heap.size := by
      have z1 := (Put.row (w.drew.alloc (.cells ROW 34)) w.heap.size A1).size
      have z2 := (Put.row ((w.drew.alloc (.cells ROW 34)).setRow w.heap.size A1).drew w.heap.size A2).size
      have z0 : (w.drew.alloc (.cells ROW 34)).heap.size = w.heap.size + 1 := by
        show (w.heap.push _).size = _
        rw [Array.size_push]
      have z3 : ((w.drew.alloc (.cells ROW 34)).setRow w.heap.size A1).drew.heap.size = ((w.drew.alloc (.cells ROW 34)).setRow w.heap.size A1).heap.size := rfl
      omega
    have hw2 : ((((w.drew.alloc (.cells ROW 34)).setRow w.heap.size A1).drew).setRow w.heap.size A2).heap[w.heap.size]? = some (.cells A2 34 (0, 0)) := setRow_heap _ _ A1 A2 _ _ hw1
    refine ⟨_, rfl, rep_own (n0 := base) (e := 34) (xs := xs.take (i * 7) ++ ints n ++ xs.drop (i * 7)) hflat.symm ?_ hwn (fun g' hg' => ?_), ⟨rfl, rfl, rfl, hsize, fun b hb hbn => ?_⟩⟩
    · rw [hlen]
      have hAl : A2.toList.length = G * 7 := by rw [← hA2l]; exact Array.length_toList
      refine ⟨by rw [← hA2t, List.length_take, hAl]; omega, .inr ⟨w.heap.size, G, A2, rfl, hb, hw2, hGn, hG63, hA2l, hA2t⟩⟩
    · have : w.heap.size = g' := by simpa [Value.ownBlock] using hg'
      subst this
      exact .inr ⟨.inr (Nat.le_refl _), plain_of hw2 rfl⟩
    · have hbs : b ≠ w.heap.size := by omega
      rw [setRow_other _ _ b A2 hbs]
      show ((w.drew.alloc (.cells ROW 34)).setRow w.heap.size A1).heap[b]? = _
      rw [setRow_other _ _ b A1 hbs]
      exact Below.heap_alloc w.drew _ b hb
theorem notedAll_does {T H N : List (List Int)} (h1 : ∀ x ∈ T, x.length = 24) (h2 : ∀ x ∈ H, x.length = 9) (h3 : ∀ x ∈ N, x.length = 7) {n : List Int} (hn7 : n.length = 7) :
    Does Tryz.prog 12 [accP T H N, .agg (rowP n)] (.tup [if ntdE T H N n = 0 then accP T H (insN N n) else acc0, .int .i64 (ntdE T H N n)]) := by
  refine noted_does h1 h2 h3 hn7 fun he => ?_
  have ha : accOk T H N = true := by
    unfold ntdE at he
    split at he
    · assumption
    · omega
  have hl := (accOk_len ha).2.2
  have hk := atK_in (n.getD 0 0) N N.length (Nat.le_refl _)
  rw [List.take_length] at hk
  have := insert_does h3 (by omega) hn7 (i := (atK (n.getD 0 0) N).2.toNat) (by omega)
  rw [Int.toNat_of_nonneg hk.1] at this
  exact this
set_option maxHeartbeats 8000000
theorem rSameAccount_same {T H N : List (List Int)} (h1 : ∀ x ∈ T, x.length = 24) (h2 : ∀ x ∈ H, x.length = 9) (h3 : ∀ x ∈ N, x.length = 7) (hT1 : T.length ≤ 1000000) (hH1 : H.length ≤ 1000000) (hN1 : N.length ≤ 1000000) :
    Does Tryz.prog 14 [accP T H N, accP T H N] (.bool true) := by
  unfold accP
  refine does_of (own := inPl) Tryz.func14 rfl Tryz.ntmps14 (congrArg Array.toList Tryz.results14) (fun us w => Tryz.call14 us w) hTT mixed (Nat.le_of_ble_eq_true rfl) ?_
  intro w0 im0 D0 S Cl hS hC ar har
  have har' := har
  obtain ⟨ai, ab, nz, inr, fi, pk, ix, ln, sb, eqi, sl, fits, mn, mx, nt, be, up, fu, mg, mh, ms⟩ := ar
  have F := facts_of har
  clear har
  obtain ⟨eT, hT⟩ : ∃ es, T.map rowP = es := ⟨_, rfl⟩
  obtain ⟨eH, hH⟩ : ∃ es, H.map rowP = es := ⟨_, rfl⟩
  obtain ⟨eN, hN⟩ : ∃ es, N.map rowP = es := ⟨_, rfl⟩
  have lT : ln eT = T.length := by rw [F.ln, ← hT]; simp
  have lH : ln eH = H.length := by rw [F.ln, ← hH]; simp
  have lN : ln eN = N.length := by rw [F.ln, ← hN]; simp
  rw [hT, hH, hN]
  have qq : ∀ x : Int, ab .eql x x = true := fun x => by rw [F.eql]; simp
  cbv
  repeat (rw [qq]; cbv)
  refine hS _ _ _ (sem_loop (fun x : Nat × Int => [sP 2 2, sP 3 3, sB 5 true, sI 6 x.2, bX 2 26 [cL 24 eT, cL 9 eH, cL 7 eN], bX 3 26 [cL 24 eT, cL 9 eH, cL 7 eN]]) (fun x => x.1 ≤ T.length ∧ x.2 = (x.1 : Int)) (fun x => T.length - x.1) (fun t => t) (0, 0) (fun t => t) ⟨by rfl, by cbv; try (repeat (first | exact rfl | exact trivial | refine ⟨?_, ?_⟩))⟩ ?_ ?_)
  · exact ⟨by simp, rfl⟩
  rintro ⟨k1, i1⟩ ⟨hk1, hi1⟩
  dsimp only at hk1 hi1
  have hadd1 : ai .add i1 1 = ((k1 + 1 : Nat) : Int) := by rw [F.add i1 1 (by omega) (by omega), hi1]; simp
  by_cases hlt1 : k1 < T.length
  · skip
    have hb1 : ab .lss i1 (ln eT) = true := by rw [lT, F.lss, hi1]; simpa using hlt1
    have hg : ix eT i1 = some (rowP T[k1]) := by rw [F.ix _ i1 k1 hi1, ← hT]; exact get_rows hlt1
    have hrow : eqi (rowP T[k1]) (rowP T[k1]) = true := by rw [F.eqi, eqPs_rowP rfl]; simp
    obtain ⟨x0, x1, x2, x3, x4, x5, x6, x7, x8, x9, x10, x11, x12, x13, x14, x15, x16, x17, x18, x19, x20, x21, x22, x23, hx⟩ := list24 (h1 _ (List.getElem_mem hlt1))
    rw [hx] at hg hrow
    have hrow : eqi [.int .i64 x0, .int .i64 x1, .int .i64 x2, .int .i64 x3, .int .i64 x4, .int .i64 x5, .int .i64 x6, .int .i64 x7, .int .i64 x8, .int .i64 x9, .int .i64 x10, .int .i64 x11, .int .i64 x12, .int .i64 x13, .int .i64 x14, .int .i64 x15, .int .i64 x16, .int .i64 x17, .int .i64 x18, .int .i64 x19, .int .i64 x20, .int .i64 x21, .int .i64 x22, .int .i64 x23] [.int .i64 x0, .int .i64 x1, .int .i64 x2, .int .i64 x3, .int .i64 x4, .int .i64 x5, .int .i64 x6, .int .i64 x7, .int .i64 x8, .int .i64 x9, .int .i64 x10, .int .i64 x11, .int .i64 x12, .int .i64 x13, .int .i64 x14, .int .i64 x15, .int .i64 x16, .int .i64 x17, .int .i64 x18, .int .i64 x19, .int .i64 x20, .int .i64 x21, .int .i64 x22, .int .i64 x23] = true := hrow
    refine sem_of (X := ⟨_, TT, ⟨0, 98, inPl⟩⟩) har' hTT mixed ?_
    intro S1 Cl1 hS1 hC1
    cbv
    rw [hb1]; cbv
    repeat (rw [hg]; cbv)
    rw [hrow]
    exact ⟨(k1 + 1, ai .add i1 1), ⟨hlt1, hadd1⟩, by dsimp only; omega, ⟨by rfl, by cbv; try (repeat (first | exact rfl | exact trivial | refine ⟨?_, ?_⟩))⟩⟩
  have hb1 : ab .lss i1 (ln eT) = false := by rw [lT, F.lss, hi1]; simpa using hlt1
  refine sem_of (X := ⟨_, TT, ⟨0, 98, inPl⟩⟩) har' hTT mixed ?_
  intro S1 Cl1 hS1 hC1
  cbv
  rw [hb1]; cbv
  refine hS _ _ _ (sem_loop (fun x : Nat × Int => [sP 2 2, sP 3 3, sB 5 true, sI 7 x.2, bX 2 26 [cL 24 eT, cL 9 eH, cL 7 eN], bX 3 26 [cL 24 eT, cL 9 eH, cL 7 eN]]) (fun x => x.1 ≤ H.length ∧ x.2 = (x.1 : Int)) (fun x => H.length - x.1) (fun t => t) (0, 0) (fun t => t) ⟨by rfl, by cbv; try (repeat (first | exact rfl | exact trivial | refine ⟨?_, ?_⟩))⟩ ?_ ?_)
  · exact ⟨by simp, rfl⟩
  rintro ⟨k2, i2⟩ ⟨hk2, hi2⟩
  dsimp only at hk2 hi2
  have hadd2 : ai .add i2 1 = ((k2 + 1 : Nat) : Int) := by rw [F.add i2 1 (by omega) (by omega), hi2]; simp
  by_cases hlt2 : k2 < H.length
  · skip
    have hb2 : ab .lss i2 (ln eH) = true := by rw [lH, F.lss, hi2]; simpa using hlt2
    have hg : ix eH i2 = some (rowP H[k2]) := by rw [F.ix _ i2 k2 hi2, ← hH]; exact get_rows hlt2
    have hrow : eqi (rowP H[k2]) (rowP H[k2]) = true := by rw [F.eqi, eqPs_rowP rfl]; simp
    obtain ⟨x0, x1, x2, x3, x4, x5, x6, x7, x8, hx⟩ := list9 (h2 _ (List.getElem_mem hlt2))
    rw [hx] at hg hrow
    have hrow : eqi [.int .i64 x0, .int .i64 x1, .int .i64 x2, .int .i64 x3, .int .i64 x4, .int .i64 x5, .int .i64 x6, .int .i64 x7, .int .i64 x8] [.int .i64 x0, .int .i64 x1, .int .i64 x2, .int .i64 x3, .int .i64 x4, .int .i64 x5, .int .i64 x6, .int .i64 x7, .int .i64 x8] = true := hrow
    refine sem_of (X := ⟨_, TT, ⟨0, 98, inPl⟩⟩) har' hTT mixed ?_
    intro S2 Cl2 hS2 hC2
    cbv
    rw [hb2]; cbv
    repeat (rw [hg]; cbv)
    rw [hrow]
    exact ⟨(k2 + 1, ai .add i2 1), ⟨hlt2, hadd2⟩, by dsimp only; omega, ⟨by rfl, by cbv; try (repeat (first | exact rfl | exact trivial | refine ⟨?_, ?_⟩))⟩⟩
  have hb2 : ab .lss i2 (ln eH) = false := by rw [lH, F.lss, hi2]; simpa using hlt2
  refine sem_of (X := ⟨_, TT, ⟨0, 98, inPl⟩⟩) har' hTT mixed ?_
  intro S2 Cl2 hS2 hC2
  cbv
  rw [hb2]; cbv
  refine hS _ _ _ (sem_loop (fun x : Nat × Int => [sP 2 2, sP 3 3, sB 5 true, sI 8 x.2, bX 2 26 [cL 24 eT, cL 9 eH, cL 7 eN], bX 3 26 [cL 24 eT, cL 9 eH, cL 7 eN]]) (fun x => x.1 ≤ N.length ∧ x.2 = (x.1 : Int)) (fun x => N.length - x.1) (fun t => t) (0, 0) (fun t => t) ⟨by rfl, by cbv; try (repeat (first | exact rfl | exact trivial | refine ⟨?_, ?_⟩))⟩ ?_ ?_)
  · exact ⟨by simp, rfl⟩
  rintro ⟨k3, i3⟩ ⟨hk3, hi3⟩
  dsimp only at hk3 hi3
  have hadd3 : ai .add i3 1 = ((k3 + 1 : Nat) : Int) := by rw [F.add i3 1 (by omega) (by omega), hi3]; simp
  by_cases hlt3 : k3 < N.length
  · skip
    have hb3 : ab .lss i3 (ln eN) = true := by rw [lN, F.lss, hi3]; simpa using hlt3
    have hg : ix eN i3 = some (rowP N[k3]) := by rw [F.ix _ i3 k3 hi3, ← hN]; exact get_rows hlt3
    have hrow : eqi (rowP N[k3]) (rowP N[k3]) = true := by rw [F.eqi, eqPs_rowP rfl]; simp
    obtain ⟨x0, x1, x2, x3, x4, x5, x6, hx⟩ := list7P (h3 _ (List.getElem_mem hlt3))
    rw [hx] at hg hrow
    have hrow : eqi [.int .i64 x0, .int .i64 x1, .int .i64 x2, .int .i64 x3, .int .i64 x4, .int .i64 x5, .int .i64 x6] [.int .i64 x0, .int .i64 x1, .int .i64 x2, .int .i64 x3, .int .i64 x4, .int .i64 x5, .int .i64 x6] = true := hrow
    refine sem_of (X := ⟨_, TT, ⟨0, 98, inPl⟩⟩) har' hTT mixed ?_
    intro S3 Cl3 hS3 hC3
    cbv
    rw [hb3]; cbv
    repeat (rw [hg]; cbv)
    rw [hrow]
    exact ⟨(k3 + 1, ai .add i3 1), ⟨hlt3, hadd3⟩, by dsimp only; omega, ⟨by rfl, by cbv; try (repeat (first | exact rfl | exact trivial | refine ⟨?_, ?_⟩))⟩⟩
  have hb3 : ab .lss i3 (ln eN) = false := by rw [lN, F.lss, hi3]; simpa using hlt3
  refine sem_of (X := ⟨_, TT, ⟨0, 98, inPl⟩⟩) har' hTT mixed ?_
  intro S3 Cl3 hS3 hC3
  cbv
  rw [hb3]; cbv
  exact PLe.refl _
set_option maxHeartbeats 4000000
theorem rCopy_does {T H N : List (List Int)} (hT1 : T.length ≤ 1000000) (hH1 : H.length ≤ 1000000) (hN1 : N.length ≤ 1000000) : Does Tryz.prog 66 [accP T H N] (accP T H N) := by
  obtain ⟨V, hV⟩ : ∃ V, accP T H N = V := ⟨_, rfl⟩
  have hV' := hV
  rw [hV]
  rw [← hV]
  obtain ⟨W, hW⟩ : ∃ W, accP T H N = W := ⟨_, rfl⟩
  rw [show Does Tryz.prog 66 [accP T H N] (accP T H N) = Does Tryz.prog 66 [accP T H N] W by rw [hW]]
  refine does_of (own := inPl) Tryz.func66 rfl Tryz.ntmps66 (congrArg Array.toList Tryz.results66) (fun us w => Tryz.call66 us w) hTT mixed (Nat.le_of_ble_eq_true rfl) ?_
  intro w0 im0 D0 S Cl hS hC ar har
  have har' := har
  obtain ⟨ai, ab, nz, inr, fi, pk, ix, ln, sb, eqi, sl, fits, mn, mx, nt, be, up, fu, mg, mh, ms⟩ := ar
  have F := facts_of har
  clear har
  unfold accP at hW ⊢
  obtain ⟨eT, hT⟩ : ∃ es, T.map rowP = es := ⟨_, rfl⟩
  obtain ⟨eH, hH⟩ : ∃ es, H.map rowP = es := ⟨_, rfl⟩
  obtain ⟨eN, hN⟩ : ∃ es, N.map rowP = es := ⟨_, rfl⟩
  have f1 : fits 192 [] eT = true := F.fits _ _ _ (by rw [← hT]; simp; omega)
  have f2 : fits 72 [] eH = true := F.fits _ _ _ (by rw [← hH]; simp; omega)
  have f3 : fits 56 [] eN = true := F.fits _ _ _ (by rw [← hN]; simp; omega)
  rw [hT, hH, hN] at hW ⊢
  cbv
  repeat ((first | rw [f1] | rw [f2] | rw [f3]); cbv)
  subst hW
  exact PLe.of_eq rfl
theorem rcheckNote_does {n : List Int} (hl : n.length = 7) : Does Tryz.prog 22 [.agg (rowP n)] (.int .i64 (err (noteOk n) 62)) := ⟨fun us w => Tryz.call22 us w, fun w im us him hr => by
  obtain ⟨x, rfl, hx⟩ := L1 hr
  rw [rep_agg hx]
  exact (rcheckNote_any n hl w).mono (by rintro e w' ⟨rfl, hb⟩; exact ⟨_, rfl, int_rep, hb⟩)⟩
theorem rNoted_does {T H N : List (List Int)} (h1 : ∀ x ∈ T, x.length = 24) (h2 : ∀ x ∈ H, x.length = 9) (h3 : ∀ x ∈ N, x.length = 7) {n : List Int} (hn7 : n.length = 7) :
    Does Tryz.prog 13 [accP T H N, .agg (rowP n)] (.tup [if ntdE T H N n = 0 then accP T H (insN N n) else acc0, .int .i64 (ntdE T H N n)]) := by
  have hck := check_does h1 h2 h3
  have hcn := rcheckNote_does hn7
  have hcp : accOk T H N = true → Does Tryz.prog 66 [accP T H N] (accP T H N) := fun ha => by
    have := accOk_len ha
    exact rCopy_does (by omega) (by omega) (by omega)
  have hN60 : accOk T H N = true → N.length ≤ 60 := fun ha => (accOk_len ha).2.2
  obtain ⟨V, hV⟩ : ∃ V, PV.tup [if ntdE T H N n = 0 then accP T H (insN N n) else acc0, .int .i64 (ntdE T H N n)] = V := ⟨_, rfl⟩
  rw [hV]
  unfold ntdE insN at hV
  obtain ⟨ok, hok⟩ : ∃ e, accOk T H N = e := ⟨_, rfl⟩
  obtain ⟨nk, hnk⟩ : ∃ e, noteOk n = e := ⟨_, rfl⟩
  rw [hok, hnk] at hV
  rw [hok] at hck hcp hN60
  rw [hnk] at hcn
  clear hok hnk
  obtain ⟨n0, n1, n2, n3, n4, n5, n6, rfl⟩ := list7 hn7
  simp only [List.getD_cons_zero] at hV
  have hk2 := atK_in n0 N N.length (by omega)
  rw [List.take_length] at hk2
  refine does_of (own := inPl) Tryz.func13 rfl Tryz.ntmps13 (congrArg Array.toList Tryz.results13) (fun us w => Tryz.call13 us w) hTT mixed (Nat.le_of_ble_eq_true rfl) ?_
  intro w0 im0 D0 S Cl hS hC ar har
  have har' := har
  obtain ⟨ai, ab, nz, inr, fi, pk, ix, ln, sb, eqi, sl, fits, mn, mx, nt, be, up, fu, mg, mh, ms⟩ := ar
  have F := facts_of har
  clear har
  obtain ⟨eT, hT⟩ : ∃ es, T.map rowP = es := ⟨_, rfl⟩
  obtain ⟨eH, hH⟩ : ∃ es, H.map rowP = es := ⟨_, rfl⟩
  obtain ⟨eN, hN⟩ : ∃ es, N.map rowP = es := ⟨_, rfl⟩
  simp only [accP, hT, hH, hN] at hck hcp ⊢
  have lN : ln eN = N.length := by rw [F.ln, ← hN]; simp
  have c63 : ab .neq 63 0 = true := by rw [F.neq]; rfl
  have c62 : ab .neq 62 0 = true := by rw [F.neq]; rfl
  have c00 : ab .neq 0 0 = false := by rw [F.neq]; rfl
  cases ok
  · cbv
    refine ⟨_, hC _ _ _ hck, ?_⟩; cbv
    rw [c63]; cbv
    subst hV
    exact PLe.of_eq rfl
  cases nk
  · cbv
    refine ⟨_, hC _ _ _ hck, ?_⟩; cbv
    rw [c00]; cbv
    refine ⟨_, hC _ _ _ hcn, ?_⟩; cbv
    rw [c62]; cbv
    subst hV
    exact PLe.of_eq rfl
  have hN60 := hN60 rfl
  have hcp := hcp rfl
  simp only [if_true] at hV
  cbv
  refine ⟨_, hC _ _ _ hck, ?_⟩; cbv
  rw [c00]; cbv
  refine ⟨_, hC _ _ _ hcn, ?_⟩; cbv
  rw [c00]; cbv
  refine hS _ _ _ (sem_loop (fun x : Nat × Int × Int => [sP 2 2, sP 3 3, sP 4 4, sI 6 x.2.2, sI 7 x.2.1, bX 2 26 [cL 24 eT, cL 9 eH, cL 7 eN], bX 3 34 [cI n0, cI n1, cI n2, cI n3, cI n4, cI n5, cI n6], bX 4 26 [CV.p .nil, CV.p .nil, CV.p .nil]]) (fun x => x.1 ≤ N.length ∧ x.2.1 = (x.1 : Int) ∧ x.2.2 = (atK n0 (N.take x.1)).2 ∧ (N.take x.1).any (isS n0) = false) (fun x => N.length - x.1) (fun t => t) (0, 0, 0) (fun t => t) ⟨by rfl, by cbv; try (repeat (first | exact rfl | exact trivial | refine ⟨?_, ?_⟩))⟩ ?_ ?_)
  · exact ⟨by simp, rfl, rfl, rfl⟩
  rintro ⟨k, i, at'⟩ ⟨hk, hi, hat, hany⟩
  dsimp only at hk hi hat hany
  have hadd : ai .add i 1 = ((k + 1 : Nat) : Int) := by rw [F.add i 1 (by omega) (by omega), hi]; simp
  by_cases hlt : k < N.length
  · have hb : ab .lss i (ln eN) = true := by rw [lN, F.lss, hi]; simpa using hlt
    have hg : ix eN i = some (rowP N[k]) := by rw [F.ix _ i k hi, ← hN]; exact get_rows hlt
    have hnext := atK_take (s := n0) hlt
    have hone := atK_one n0 N k hk
    have hany2 := any_take (s := n0) hlt
    have hin : isS n0 N[k] = true → N.any (isS n0) = true := fun h => List.any_eq_true.2 ⟨_, List.getElem_mem hlt, h⟩
    obtain ⟨y0, y1, y2, y3, y4, y5, y6, hx⟩ := list7P (h3 _ (List.getElem_mem hlt))
    rw [hx] at hg hnext hany2 hin
    unfold atF at hnext
    simp only [isS, List.getD_cons_zero] at hnext hany2 hin
    rw [← F.eql] at hany2 hin
    rw [← F.lss, hone, ← hat] at hnext
    have hfd : ab .eql y0 n0 = true → N.any (isS n0) = true := hin
    have hnf : ab .eql y0 n0 = false → (N.take (k + 1)).any (isS n0) = false := fun h => by
      have : (N.take (k + 1)).any (isS n0) = ((N.take k).any (isS n0) || ab .eql y0 n0) := hany2
      rw [this, hany, h]; rfl
    have ht1 : ab .lss y0 n0 = true → ai .add i 1 = (atK n0 (N.take (k + 1))).2 := fun h => by rw [hnext, h, hadd]; simp
    have ht0 : ab .lss y0 n0 = false → at' = (atK n0 (N.take (k + 1))).2 := fun h => by rw [hnext, h]; simp
    refine sem_of (X := ⟨_, TT, ⟨0, 68, inPl⟩⟩) har' hTT mixed ?_
    intro S1 Cl1 hS1 hC1
    cbv
    rw [hb]; cbv
    repeat (rw [hg]; cbv)
    cases c1 : ab .eql y0 n0
    · have hnf := hnf c1
      cbv
      repeat (rw [hg]; cbv)
      cases c2 : ab .lss y0 n0
      · have ht0 := ht0 c2
        cbv
        exact ⟨(k + 1, ai .add i 1, at'), ⟨hlt, hadd, ht0, hnf⟩, by dsimp only; omega, ⟨by rfl, by cbv; try (repeat (first | exact rfl | exact trivial | refine ⟨?_, ?_⟩))⟩⟩
      · have ht1 := ht1 c2
        cbv
        exact ⟨(k + 1, ai .add i 1, ai .add i 1), ⟨hlt, hadd, ht1, hnf⟩, by dsimp only; omega, ⟨by rfl, by cbv; try (repeat (first | exact rfl | exact trivial | refine ⟨?_, ?_⟩))⟩⟩
    · have hfd := hfd c1
      rw [if_pos hfd] at hV
      cbv
      subst hV
      exact PLe.of_eq rfl
  · have hb : ab .lss i (ln eN) = false := by rw [lN, F.lss, hi]; simpa using hlt
    have hkE : k = N.length := by omega
    rw [hkE, List.take_length] at hat hany
    have hany' : ¬ N.any (isS n0) = true := by rw [hany]; simp
    rw [if_neg hany'] at hV
    have c60 : ab .eql (ln eN) 60 = decide (N.length = 60) := by
      rw [F.eql, lN]
      by_cases h : N.length = 60
      · rw [h]; rfl
      · rw [decide_eq_false h, beq_eq_false_iff_ne]; intro h'; exact h (by exact_mod_cast h')
    have hA : ((at'.toNat : Nat) : Int) = at' := Int.toNat_of_nonneg (by rw [hat]; exact hk2.1)
    have hAN : at' ≤ (N.length : Int) := by rw [hat]; exact hk2.2
    obtain ⟨A, hAE⟩ : ∃ A, at'.toNat = A := ⟨_, rfl⟩
    rw [hAE] at hA
    have hAl : A ≤ N.length := by omega
    have hAt : (atK n0 N).2.toNat = A := by rw [← hat]; exact hAE
    have s1 : sl eN 0 at' = some (eN.take A) := by
      rw [F.sl eN 0 at' 0 A rfl hA.symm (by omega) (by rw [← hN]; simpa using hAl)]; simp
    have s2 : sl eN at' (ln eN) = some (eN.drop A) := by
      rw [F.sl eN at' (ln eN) A N.length hA.symm lN hAl (by rw [← hN]; simp)]
      congr 1
      rw [List.take_of_length_le]
      rw [← hN]; simp
    have hlE : eN.length = N.length := by rw [← hN]; simp
    obtain ⟨E1, hE1⟩ : ∃ e, eN.take A = e := ⟨_, rfl⟩
    obtain ⟨E2, hE2⟩ : ∃ e, eN.drop A = e := ⟨_, rfl⟩
    rw [hE1] at s1
    rw [hE2] at s2
    have hl1 : E1.length ≤ 60 := by rw [← hE1, List.length_take]; omega
    have hl2 : E2.length ≤ 60 := by rw [← hE2, List.length_drop]; omega
    have f1 : fits 56 [] E1 = true := F.fits _ _ _ (by simp only [List.length_nil]; omega)
    have f2 : ∀ x, fits 56 E1 [x] = true := fun x => F.fits _ _ _ (by simp only [List.length_singleton]; omega)
    have f3 : ∀ x, fits 56 (E1 ++ [x]) E2 = true := fun x => F.fits _ _ _ (by simp only [List.length_append, List.length_singleton]; omega)
    refine sem_of (X := ⟨_, TT, ⟨0, 68, inPl⟩⟩) har' hTT mixed ?_
    intro S1 Cl1 hS1 hC1
    cbv
    rw [hb]; cbv
    cases c2 : ab .eql (ln eN) 60
    rotate_left
    · rw [c60] at c2
      have h60 : N.length = 60 := by simpa using c2
      rw [if_pos h60] at hV
      cbv
      subst hV
      exact PLe.of_eq rfl
    rw [c60] at c2
    have h60 : ¬ N.length = 60 := by simpa using c2
    rw [if_neg h60] at hV
    simp only [if_true] at hV
    cbv
    refine ⟨_, hC _ _ _ hcp, ?_⟩; cbv
    repeat ((first | rw [s1] | rw [s2] | rw [f1] | rw [f2]); cbv)
    repeat rw [← List.append.eq_def]
    generalize hq : fits 56 _ E2 = q
    have hq' : q = true := hq.symm.trans (f3 _)
    rw [hq']; cbv
    repeat rw [← List.append.eq_def]
    subst hV
    refine PLe.of_eq ?_
    rw [hAt]
    simp only [accP, hT, hH, List.map_append, List.map_take, List.map_drop, hN, hE1, hE2, List.map_cons, List.map_nil]
    rfl
theorem checkTariff_does (h : List Int) (hl : h.length = 24) : Does Tryz.prog 17 [.agg (rowP h)] (.int .i64 (err (tarOk h) 60)) := ⟨fun us w => Tryz.call17 us w, fun w im us him hr => by
  obtain ⟨x, rfl, hx⟩ := L1 hr
  rw [rep_agg hx]
  exact (checkTariff_any h hl w).mono (by rintro e w' ⟨rfl, hb⟩; exact ⟨_, rfl, int_rep, hb⟩)⟩
theorem rcheckTariff_does (h : List Int) (hl : h.length = 24) : Does Tryz.prog 18 [.agg (rowP h)] (.int .i64 (err (tarOk h) 60)) := ⟨fun us w => Tryz.call18 us w, fun w im us him hr => by
  obtain ⟨x, rfl, hx⟩ := L1 hr
  rw [rep_agg hx]
  exact (rcheckTariff_any h hl w).mono (by rintro e w' ⟨rfl, hb⟩; exact ⟨_, rfl, int_rep, hb⟩)⟩
theorem checkHeld_does (h : List Int) (hl : h.length = 9) : Does Tryz.prog 19 [.agg (rowP h)] (.int .i64 (err (heldOk h) 61)) := ⟨fun us w => Tryz.call19 us w, fun w im us him hr => by
  obtain ⟨x, rfl, hx⟩ := L1 hr
  rw [rep_agg hx]
  exact (checkHeld_any h hl w).mono (by rintro e w' ⟨rfl, hb⟩; exact ⟨_, rfl, int_rep, hb⟩)⟩
theorem rcheckHeld_does (h : List Int) (hl : h.length = 9) : Does Tryz.prog 20 [.agg (rowP h)] (.int .i64 (err (heldOk h) 61)) := ⟨fun us w => Tryz.call20 us w, fun w im us him hr => by
  obtain ⟨x, rfl, hx⟩ := L1 hr
  rw [rep_agg hx]
  exact (rcheckHeld_any h hl w).mono (by rintro e w' ⟨rfl, hb⟩; exact ⟨_, rfl, int_rep, hb⟩)⟩
theorem insN_len {N : List (List Int)} (h3 : ∀ x ∈ N, x.length = 7) {n : List Int} (hn : n.length = 7) : (∀ x ∈ insN N n, x.length = 7) ∧ (insN N n).length ≤ N.length + 1 := by
  unfold insN
  refine ⟨fun x hx => ?_, ?_⟩
  · simp only [List.mem_append, List.mem_singleton] at hx
    rcases hx with (hx | hx) | hx
    · exact h3 x (List.mem_of_mem_take hx)
    · rw [hx]; exact hn
    · exact h3 x (List.mem_of_mem_drop hx)
  · simp only [List.length_append, List.length_take, List.length_drop, List.length_singleton]
    omega
theorem args_le {f : FuncId} {xs bs : List PV} {v : PV} (h : Does Tryz.prog f xs v) (hle : ∀ (im : Nat → Prop) (w : World) (us : List Value), RepL im w bs us → RepL im w xs us) : Does Tryz.prog f bs v := ⟨h.1, fun w im us him hr => h.2 w im us him (hle _ _ _ hr)⟩
theorem res_le {f : FuncId} {xs : List PV} {v v' : PV} (h : Does Tryz.prog f xs v) (hle : PLe v v') : Does Tryz.prog f xs v' := ⟨h.1, fun w im us him hr => (h.2 w im us him hr).mono (by rintro e w' ⟨u, rfl, hu, hb⟩; exact ⟨u, rfl, hle.h _ _ _ hu, hb⟩)⟩
theorem acc0_le : PLe acc0 (accP [] [] []) := by
  unfold acc0 accP
  exact PLe.agg (RepL.leC (PLe.nil 24) (RepL.leC (PLe.nil 9) (RepL.leC (PLe.nil 7) (fun _ _ _ h => h))))
theorem fineChecks_does (hs : Does Tryz.prog 11 [] (.bool true)) {T H N : List (List Int)} (h1 : ∀ x ∈ T, x.length = 24) (h2 : ∀ x ∈ H, x.length = 9) (h3 : ∀ x ∈ N, x.length = 7) {t h n : List Int} (ht : t.length = 24) (hh : h.length = 9) (hn : n.length = 7) :
    Does Tryz.prog 3 [accP T H N, .agg (rowP (t ++ h ++ n))] (.bool true) := by
  have key : ∃ T' H' N' : List (List Int), Does Tryz.prog 12 [accP T H N, .agg (rowP n)] (.tup [accP T' H' N', .int .i64 (ntdE T H N n)]) ∧ Does Tryz.prog 13 [accP T H N, .agg (rowP n)] (.tup [accP T' H' N', .int .i64 (ntdE T H N n)]) ∧
      Does Tryz.prog 14 [accP T' H' N', accP T' H' N'] (.bool true) := by
    have a1 := notedAll_does h1 h2 h3 hn
    have a2 := rNoted_does h1 h2 h3 hn
    by_cases he : ntdE T H N n = 0
    · rw [if_pos he] at a1 a2
      have ha : accOk T H N = true := by
        unfold ntdE at he
        split at he
        · assumption
        · omega
      have hl := accOk_len ha
      have hi := insN_len h3 hn
      refine ⟨_, _, _, a1, a2, ?_⟩
      exact rSameAccount_same h1 h2 hi.1 (by omega) (by omega) (by omega)
    · rw [if_neg he] at a1 a2
      refine ⟨[], [], [], res_le a1 (PLe.tup2 acc0_le (PLe.refl _)), res_le a2 (PLe.tup2 acc0_le (PLe.refl _)), ?_⟩
      exact rSameAccount_same (T := []) (H := []) (N := []) (by simp) (by simp) (by simp) (by simp) (by simp) (by simp)
  obtain ⟨T', H', N', a1, a2, s0⟩ := key
  have b1 := pcheck_does h1 h2 h3
  have b2 := check_does h1 h2 h3
  have c1 := checkTariff_does t ht
  have c2 := rcheckTariff_does t ht
  have d1 := checkHeld_does h hh
  have d2 := rcheckHeld_does h hh
  have e1 := checkNote_does n hn
  have e2 := rcheckNote_does hn
  obtain ⟨t0, t1, t2, t3, t4, t5, t6, t7, t8, t9, t10, t11, t12, t13, t14, t15, t16, t17, t18, t19, t20, t21, t22, t23, rfl⟩ := list24 ht
  obtain ⟨y0, y1, y2, y3, y4, y5, y6, y7, y8, rfl⟩ := list9 hh
  obtain ⟨n0, n1, n2, n3, n4, n5, n6, rfl⟩ := list7 hn
  obtain ⟨er, her⟩ : ∃ er, ntdE T H N [n0, n1, n2, n3, n4, n5, n6] = er := ⟨_, rfl⟩
  rw [her] at a1 a2
  generalize err (accOk T H N) 63 = ck at *
  generalize err (tarOk _) 60 = tk at *
  generalize err (heldOk _) 61 = hk at *
  generalize err (noteOk _) 62 = nk at *
  clear her
  refine does_of (own := inPl) Tryz.func3 rfl Tryz.ntmps3 (congrArg Array.toList Tryz.results3) (fun us w => Tryz.call3 us w) hTT mixed (Nat.le_of_ble_eq_true rfl) ?_
  intro w0 im0 D0 S Cl hS hC ar har
  have har' := har
  obtain ⟨ai, ab, nz, inr, fi, pk, ix, ln, sb, eqi, sl, fits, mn, mx, nt, be, up, fu, mg, mh, ms⟩ := ar
  have F := facts_of har
  clear har
  have qq : ∀ x : Int, ab .eql x x = true := fun x => by rw [F.eql]; simp
  obtain ⟨eT, hT⟩ : ∃ es, T.map rowP = es := ⟨_, rfl⟩
  obtain ⟨eH, hH⟩ : ∃ es, H.map rowP = es := ⟨_, rfl⟩
  obtain ⟨eN, hN⟩ : ∃ es, N.map rowP = es := ⟨_, rfl⟩
  obtain ⟨eT', hT'⟩ : ∃ es, T'.map rowP = es := ⟨_, rfl⟩
  obtain ⟨eH', hH'⟩ : ∃ es, H'.map rowP = es := ⟨_, rfl⟩
  obtain ⟨eN', hN'⟩ : ∃ es, N'.map rowP = es := ⟨_, rfl⟩
  simp only [accP, hT, hH, hN, hT', hH', hN'] at a1 a2 b1 b2 s0 ⊢
  cbv
  refine ⟨_, hC _ _ _ hs, ?_⟩; cbv
  refine ⟨_, hC _ _ _ a1, ?_⟩; cbv
  refine ⟨_, hC _ _ _ a2, ?_⟩; cbv
  refine ⟨_, hC _ _ _ s0, ?_⟩; cbv
  rw [qq]; cbv
  refine ⟨_, hC _ _ _ b1, ?_⟩; cbv
  refine ⟨_, hC _ _ _ b2, ?_⟩; cbv
  rw [qq]; cbv
  refine ⟨_, hC _ _ _ c1, ?_⟩; cbv
  refine ⟨_, hC _ _ _ c2, ?_⟩; cbv
  rw [qq]; cbv
  refine ⟨_, hC _ _ _ d1, ?_⟩; cbv
  refine ⟨_, hC _ _ _ d2, ?_⟩; cbv
  rw [qq]; cbv
  refine ⟨_, hC _ _ _ e1, ?_⟩; cbv
  refine ⟨_, hC _ _ _ e2, ?_⟩; cbv
  rw [qq]; cbv
  exact PLe.refl _
end Go.Proofs.YtjimjdhdnkhfnaaGreat
