/- Whether a list is one of places, and whether places settle a reading: the reference. Own text. -/
import Derived.Test.YtpahbpgkmebieaaW32
import Derived.Test.YtpahbpgkmebieaaW24
import Derived.Test.YtpahbpgkmebieaaW18
import Derived.Test.YtpahbpgkmebieaaAL
namespace Go.Proofs.Ytpahbpgkmebieaa
open Go Go.RowKit
set_option maxHeartbeats 400000
set_option maxRecDepth 100000

theorem arePlaces_any (A : Option Addr) (n c : Nat) (l : List Int) (w : World) (hg : Is w A n l) :
    Calls Try.prog 101 #[.slice A n c] w fun e w' => e = .returned (.bool (riseB l (-1))) ∧ Below w.heap.size w w' := by
  have hn := hg.small
  have Hl : Hid (n = l.length) := Lib.hid hg.len
  have HR : Hid (allK (plAt l) l.length = riseB l (-1)) := Lib.hid (by have := rise_all l l.length (Nat.le_refl _); rwa [List.take_length] at this)
  go_enter Try.func101, Try.ntmps101
  go_wp2
  go_loopw [3] (fun i wr => ∃ (k : Nat) (z : Gr), k ≤ n ∧ i = .int .i64 k ∧ wr = grow w z ∧ allK (plAt l) k = true) (fun i _ => n - (intOf i).toNat)
  case atStart => exact ⟨0, ⟨#[], w.drawn⟩, by omega, rfl, by simp [grow], rfl⟩
  case round =>
    obtain ⟨k, z, hk, rfl, rfl, hall⟩ := hrel
    have Hall := Lib.hid hall; clear hall
    by_cases hlt : k < n
    rotate_left
    · obtain rfl : k = n := by omega
      go_wp2
      go_ret
      refine ⟨congrArg (fun v => Ending.returned (Value.bool v)) ?_, grow_below w z⟩
      rw [← HR.out, ← Hl.out, Hall.out]
    have hkl : k < l.length := by rw [← Hl.out]; exact hlt
    have Hno := Lib.hid (fun h => allK_no (plAt l) k h l.length hkl)
    have Hat : Hid (plAt l k = (decide (0 ≤ l[k]) && decide (l[k] ≤ 5) && (k == 0 || decide (l.getD (k - 1) 0 < l[k])))) := Lib.hid (by
      unfold plAt; rw [show l.getD k 0 = l[k] by simp [List.getD, List.getElem?_eq_getElem hkl]])
    obtain ⟨b, o, rfl, hb, hc⟩ := hg.get k hkl
    have HG := Lib.hid hg
    clear hg
    generalize l[k] = x at *
    have e5 : b < w.heap.size + z.blocks.size := by omega
    by_cases hin : 0 ≤ x ∧ x ≤ 5
    rotate_left
    · have Hin := Lib.hid hin
      clear hin
      go_wp2
      refine wp_region_grow (by kernel_rfl) (by kernel_rfl) ?_
      repeat (go_big_quiet_step ((go_at_call 67; exact quiet_grow rfl (in_no _ _ _ _ Hin.out))))
      refine wpQuiet_nil ?_
      intro z1
      obtain ⟨y, hy⟩ := grow_grow w z z1
      rw [hy]
      clear hy
      go_wp2
      go_ret
      refine ⟨congrArg (fun v => Ending.returned (Value.bool v)) ?_, grow_below w y⟩
      rw [← HR.out, Hno.out (by rw [Hat.out]; have := Hin.out; simp; intros; omega)]
    have Hin := Lib.hid hin
    clear hin
    match k, hk, hlt, hkl, hc, Hall, Hno, Hat with
    | 0, hk, hlt, hkl, hc, Hall, Hno, Hat =>
      have h0 : decide ((0 : Int) < ((0 : Nat) : Int)) = false := by simp
      rw [Nat.add_zero] at hc
      go_wp2
      refine wp_region_grow (by kernel_rfl) (by kernel_rfl) ?_
      repeat (go_big_quiet_step ((go_at_call 67; exact quiet_grow rfl (in_yes _ _ _ _ Hin.out))))
      refine wpQuiet_nil ?_
      intro z1
      obtain ⟨y, hy⟩ := grow_grow w z z1
      rw [hy]
      clear hy
      go_wp2
      refine ⟨⟨1, y, by omega, by go_num, rfl, ?_⟩, by simp [intOf]; omega⟩
      rw [allK, Hall.out, Hat.out]; have := Hin.out; simp; omega
    | j + 1, hk, hlt, hkl, hc, Hall, Hno, Hat =>
      have hjl : j < l.length := by omega
      have Hg2 : Hid (l.getD (j + 1 - 1) 0 = l[j]) := Lib.hid (by simp [List.getD, List.getElem?_eq_getElem hjl])
      obtain ⟨b', o', hbo, hb', hc'⟩ := HG.out.get j hjl
      obtain ⟨rfl, rfl⟩ : b = b' ∧ o = o' := by simpa using hbo
      clear hbo hb'
      rw [Hg2.out] at Hat
      generalize l[j] = p at *
      have h0 : (0 : Int) < ((j + 1 : Nat) : Int) := by omega
      have h0d : decide ((0 : Int) < ((j + 1 : Nat) : Int)) = true := decide_eq_true h0
      have hwr : IntKind.i64.wrap (((j + 1 : Nat) : Int) - 1) = (j : Int) := by rw [IntWalk.i64_in _ (by omega)]; omega
      have hwr2 : IntKind.i64.wrap ((j : Int) + 1 - 1) = (j : Int) := by rw [IntWalk.i64_in _ (by omega)]; omega
      have hwr3 : IntKind.i64.wrap (j : Int) = (j : Int) := IntWalk.i64_in _ (by omega)
      by_cases hpx : p < x
      · have hd : decide (x ≤ p) = false := by simp; omega
        go_wp2
        refine wp_region_grow (by kernel_rfl) (by kernel_rfl) ?_
        repeat (go_big_quiet_step ((go_at_call 67; exact quiet_grow rfl (in_yes _ _ _ _ Hin.out))))
        refine wpQuiet_nil ?_
        intro z1
        obtain ⟨y, hy⟩ := grow_grow w z z1
        rw [hy]
        clear hy hwr hwr2 hwr3
        go_wp2
        refine ⟨⟨j + 1 + 1, y, by omega, by go_num, rfl, ?_⟩, by simp [intOf]; omega⟩
        rw [allK, Hall.out, Hat.out]; have := Hin.out; simp; omega
      · have hd : decide (x ≤ p) = true := by simp; omega
        go_wp2
        refine wp_region_grow (by kernel_rfl) (by kernel_rfl) ?_
        repeat (go_big_quiet_step ((go_at_call 67; exact quiet_grow rfl (in_yes _ _ _ _ Hin.out))))
        refine wpQuiet_nil ?_
        intro z1
        obtain ⟨y, hy⟩ := grow_grow w z z1
        rw [hy]
        clear hy hwr hwr2 hwr3
        go_wp2
        go_ret
        refine ⟨congrArg (fun v => Ending.returned (Value.bool v)) ?_, grow_below w y⟩
        rw [← HR.out, Hno.out (by rw [Hat.out]; simp; intros; omega)]

/-- The owners of a valid book rise; so a mark is found by its owner. -/
theorem own_lt {w0 w1 w2 w3 w4 F : Int} {gs : List Giv} (h : okB w0 w1 w2 w3 w4 F gs = true) : ∀ (j : Nat) (hj : j < gs.length) (i : Nat) (hi : i < j), (gs[i]'(by omega)).o < gs[j].o := by
  have hall : allK (okAt w0 w1 w2 w3 w4 F gs) gs.length = true := by
    unfold okB at h
    simp only [Bool.and_eq_true] at h
    exact h.2
  intro j
  induction j with
  | zero => intro hj i hi; omega
  | succ j ih =>
    intro hj i hi
    have hat := allK_at hall (j + 1) hj
    rw [okAt_some (List.getElem?_eq_getElem hj)] at hat
    simp only [Bool.and_eq_true, decide_eq_true_eq] at hat
    have h1 : lastO gs (j + 1) = gs[j].o := by simp [lastO, List.getD, List.getElem?_eq_getElem (show j < gs.length by omega)]
    have h2 := hat.1.1.1
    rw [h1] at h2
    by_cases e : i = j
    · subst e; exact h2
    · have := ih (by omega) i (by omega); omega
theorem pos_at : ∀ (l : List Int) (j : Nat) (k : Nat) (hj : j < l.length), (∀ i (hi : i < j), (l[i]'(by omega)) ≠ l[j]) → pos l l[j] k = ((k + j : Nat) : Int)
  | [], j, k, hj, _ => by simp at hj
  | y :: r, 0, k, hj, _ => by
    show pos (y :: r) y k = _
    rw [pos_yes r k rfl]; rfl
  | y :: r, j + 1, k, hj, h => by
    have h0 := h 0 (by omega)
    simp only [List.getElem_cons_zero, List.getElem_cons_succ] at h0 ⊢
    rw [pos_no r k h0, pos_at r j (k + 1) (by simpa using hj) (fun i hi => by simpa using h (i + 1) (by omega))]
    congr 1; omega
theorem found_at {w0 w1 w2 w3 w4 F : Int} {gs : List Giv} (h : okB w0 w1 w2 w3 w4 F gs = true) {g : Giv} (hg : g ∈ gs) : ∃ j, ∃ hj : j < gs.length, pos (own gs) g.o 0 = (j : Int) ∧ gs[j] = g := by
  obtain ⟨j, hj, rfl⟩ := List.mem_iff_getElem.1 hg
  refine ⟨j, hj, ?_, rfl⟩
  have e : gs[j].o = (own gs)[j]'(by simpa [own] using hj) := by simp [own]
  rw [e, pos_at (own gs) j 0 (by simpa [own] using hj) (fun i hi => by
    have := own_lt h j hj i hi
    simp only [own, List.getElem_map]
    omega)]
  congr 1; omega
theorem refIndex_at {w0 w1 w2 w3 w4 F x : Int} (A : Option Addr) (n c : Nat) (gs : List Giv) (w : World) (hg : Gs w A n gs) (j : Nat) (hj : pos (own gs) x 0 = (j : Int)) :
    Calls Try.prog 66 #[.agg #[.int .i64 w0, .int .i64 w1, .int .i64 w2, .int .i64 w3, .int .i64 w4, .int .i64 F, .slice A n c], .int .i64 x] w fun e w' => e = .returned (.int .i64 (j : Int)) ∧ Below w.heap.size w w' :=
  (refIndex_any _ _ _ _ _ _ _ A n c gs w hg).mono fun e w' h => ⟨by rw [h.1, hj], h.2⟩
theorem g6_map (f : Int → Int) (a0 a1 a2 a3 a4 a5 i : Int) : g6 (f a0) (f a1) (f a2) (f a3) (f a4) (f a5) i = f (g6 a0 a1 a2 a3 a4 a5 i) := by
  unfold g6
  split
  · rfl
  · split
    · rfl
    · split
      · rfl
      · split
        · rfl
        · split <;> rfl
theorem meetAll_snoc (a b : Rd) (l : List Int) (x : Int) : meetAll a b (l ++ [x]) = (meetAll a b l && meetB a b x) := by simp [meetAll]
theorem g6_bd {a0 a1 a2 a3 a4 a5 : Int} (h : okM a0 a1 a2 a3 a4 a5 = true) {i : Int} (h0 : 0 ≤ i) (h1 : i < 6) : 0 ≤ g6 a0 a1 a2 a3 a4 a5 i ∧ g6 a0 a1 a2 a3 a4 a5 i < 5 := by
  obtain ⟨⟨p0, q0⟩, ⟨p1, q1⟩, ⟨p2, q2⟩, ⟨p3, q3⟩, ⟨p4, q4⟩, ⟨p5, q5⟩⟩ := (okM_iff _ _ _ _ _ _).1 h
  rcases (by omega : i = 0 ∨ i = 1 ∨ i = 2 ∨ i = 3 ∨ i = 4 ∨ i = 5) with rfl | rfl | rfl | rfl | rfl | rfl <;> exact ⟨by assumption, by assumption⟩

theorem settleAt_no {rs : List Rd} {l : List Int} {k : Nat} {a x : Rd} (h : rs[k]? = some a) (hx : x ∈ rs.take k) (hm : meetAll a x l = true) : settleAt rs l k = false := by
  rw [settleAt_some h, List.all_eq_false]
  exact ⟨x, hx, by rw [hm]; simp⟩

theorem put6_bk {w : World} {N : Nat} {c0 c1 c2 c3 c4 c5 : Value} {ty : TypeId} (h : w.heap[N]? = some (.cells #[c0, c1, c2, c3, c4, c5] ty (0, 0))) (v0 v1 v2 v3 v4 v5 : Value) :
    Bk ((((((w.setCell ⟨N, 0, none⟩ v0).setCell ⟨N, 1, none⟩ v1).setCell ⟨N, 2, none⟩ v2).setCell ⟨N, 3, none⟩ v3).setCell ⟨N, 4, none⟩ v4).setCell ⟨N, 5, none⟩ v5) N [v0, v1, v2, v3, v4, v5] := by
  obtain ⟨n1, n2, n3⟩ := made6 h
  refine ⟨by simpa [World.setCell] using n1, fun j => ?_⟩
  by_cases hj : j < 6
  · refine put6 w N v0 v1 v2 v3 v4 v5 (fun i hi => ?_) j hj
    rw [n2 i]
    rcases (by omega : i = 0 ∨ i = 1 ∨ i = 2 ∨ i = 3 ∨ i = 4 ∨ i = 5) with rfl | rfl | rfl | rfl | rfl | rfl <;> rfl
  · have hne : ∀ q, q < 6 → (Addr.mk N q none) ≠ ⟨N, j, none⟩ := fun q hq e => by injection e with _ e2; omega
    rw [World.cell?_setCell_other _ _ _ _ (hne 5 (by omega)), World.cell?_setCell_other _ _ _ _ (hne 4 (by omega)), World.cell?_setCell_other _ _ _ _ (hne 3 (by omega)), World.cell?_setCell_other _ _ _ _ (hne 2 (by omega)), World.cell?_setCell_other _ _ _ _ (hne 1 (by omega)), World.cell?_setCell_other _ _ _ _ (hne 0 (by omega)), n2 j]
    rw [List.getElem?_eq_none (by simp; omega), List.getElem?_eq_none (by simp; omega)]

set_option maxHeartbeats 1600000 in
theorem settles_any (w0 w1 w2 w3 w4 F : Int) (A : Option Addr) (n c : Nat) (gs : List Giv) (r : Rd) (B : Option Addr) (n' c' : Nat) (l : List Int) (w : World) (hg : Gs w A n gs) (hok : okB w0 w1 w2 w3 w4 F gs = true) (hl : Is w B n' l) (hin : ∀ i ∈ l, 0 ≤ i ∧ i < 6) :
    Calls Try.prog 97 #[.agg #[.int .i64 w0, .int .i64 w1, .int .i64 w2, .int .i64 w3, .int .i64 w4, .int .i64 F, .slice A n c], .agg #[.int .i64 r.r0, .int .i64 r.r1, .int .i64 r.r2, .int .i64 r.r3, .int .i64 r.r4, .int .i64 r.r5], .slice B n' c'] w fun e w' => e = .returned (.bool (settleB (rowsOf w0 w1 w2 w3 w4 (possG w0 w1 w2 w3 w4 F [r] gs)) l)) ∧ Below w.heap.size w w' := by
  have hn' := hl.small
  have Hl : Hid (n = gs.length) := Lib.hid hg.len
  have Hl' : Hid (n' = l.length) := Lib.hid hl.len
  have Hok := Lib.hid hok
  have Hin := Lib.hid hin
  have h40 : n ≤ 40 := by have := Hl.out; have := okB_40 hok; omega
  clear hok hin
  go_enter Try.func97, Try.ntmps97
  go_wp2_with fail
  generalize hW : (World.alloc _ _) = W
  have HW : Hid (Below w.heap.size w W) := Lib.hid (by subst hW; go_grown)
  have KM : Bk W w.heap.size [.int .i64 w0, .int .i64 w1, .int .i64 w2, .int .i64 w3, .int .i64 w4, .int .i64 F, .slice A n c] := ⟨by subst hW; simp only [World.size_alloc]; omega, by subst hW; intro j; simp [go_sem]⟩
  clear hW
  have HG := Lib.hid (hg.keep HW.out)
  have HI := Lib.hid (hl.keep HW.out)
  clear hg hl
  refine (refOwnersL_any w0 w1 w2 w3 w4 F A n c gs r W HG.out (okB_ok Hok.out) h40).mono ?_
  rintro e V ⟨v, rfl, hown, hb1⟩
  obtain ⟨A2, c2, rfl, _, hi2⟩ := Is.of_own hown
  clear hown
  have HO := Lib.hid hi2
  clear hi2
  replace HG := Lib.hid (HG.out.keep hb1); replace HI := Lib.hid (HI.out.keep hb1); replace KM := KM.keep hb1
  have HB1 := Lib.hid hb1
  clear hb1
  have hpl : (possG w0 w1 w2 w3 w4 F [r] gs).length ≤ 40 := Nat.le_trans (possG_len w0 w1 w2 w3 w4 F [r] gs) (okB_40 Hok.out)
  have HSub : Hid (∀ g ∈ possG w0 w1 w2 w3 w4 F [r] gs, g ∈ gs) := Lib.hid (possG_sub)
  generalize hP : possG w0 w1 w2 w3 w4 F [r] gs = P at *
  have HP := Lib.hid hP
  clear hP
  generalize hm : P.length = m at *
  have Hm := Lib.hid hm
  clear hm
  generalize hrs : rowsOf w0 w1 w2 w3 w4 P = rs
  have Hrs := Lib.hid hrs
  have Hrl : Hid (rs.length = m) := Lib.hid (by rw [← hrs, ← Hm.out]; simp [rowsOf])
  clear hrs
  have Hat : Hid (∀ k (hk : k < P.length), rs[k]? = some (rowOf w0 w1 w2 w3 w4 P[k])) := Lib.hid (fun k hk => by rw [← Hrs.out]; simp [rowsOf, hk])
  have KMl := KM.lt; have KMc := KM.get
  go_wp2
  go_loopw [8] (fun i wr => ∃ (k : Nat) (z : Gr), k ≤ m ∧ i = .int .i64 k ∧ wr = grow V z ∧ allK (settleAt rs l) k = true) (fun i _ => m - (intOf i).toNat)
  case atStart => exact ⟨0, ⟨#[], V.drawn⟩, by omega, rfl, by simp [grow], rfl⟩
  case round =>
    obtain ⟨k, z, hk, rfl, rfl, hall⟩ := hrel
    have Hall := Lib.hid hall; clear hall
    by_cases hlt : k < m
    rotate_left
    · obtain rfl : k = m := by omega
      go_wp2
      go_ret
      refine ⟨congrArg (fun v => Ending.returned (Value.bool v)) ?_, up HW.out (up HB1.out (grow_below V z))⟩
      rw [HP.out, Hrs.out]
      unfold settleB
      rw [Hrl.out, Hall.out]
    have hkP : k < P.length := by rw [Hm.out]; exact hlt
    have Hra := Lib.hid (Hat.out k hkP)
    have hmem := HSub.out _ (List.getElem_mem hkP)
    obtain ⟨ja, hja, hpa, hga⟩ := found_at Hok.out hmem
    have Hoka := Lib.hid (okB_ok Hok.out _ hmem)
    have hown_a : (own P)[k]'(by simpa [own] using hkP) = P[k].o := by simp [own]
    obtain ⟨b2, o2, rfl, hb2, hc2⟩ := HO.out.get k (by simpa [own] using hkP)
    rw [hown_a] at hc2
    clear hown_a hmem
    generalize P[k] = a at *
    have Hpa := Lib.hid hpa
    clear hpa
    obtain ⟨bg, og, rfl, hbg, hga2⟩ := HG.out.get ja hja
    rw [hga] at hga2
    obtain ⟨a0', a1', a2', a3', a4', a5', a6'⟩ := hga2
    clear hga
    have hjan : ja < n := by rw [Hl.out]; exact hja
    go_wp2
    go_loopw [9] (fun j wr => ∃ (q : Nat) (y : Gr), q ≤ k ∧ j = .int .i64 q ∧ wr = grow V y ∧ ((rs.take k).take q).all (fun b => !meetAll (rowOf w0 w1 w2 w3 w4 a) b l) = true) (fun j _ => k - (intOf j).toNat)
    case atStart => exact ⟨0, z, by omega, rfl, rfl, rfl⟩
    case round =>
      obtain ⟨q, y, hq, rfl, rfl, hpa⟩ := hrel
      have Hpa2 := Lib.hid hpa
      clear hpa
      by_cases hqk : q < k
      rotate_left
      · obtain rfl : q = k := by omega
        go_wp2
        refine ⟨⟨q + 1, y, by omega, by go_num, rfl, ?_⟩, by simp [intOf]; omega⟩
        show (allK (settleAt rs l) q && settleAt rs l q) = true
        have := Hpa2.out
        rw [List.take_of_length_le (by simp; omega)] at this
        rw [Hall.out, settleAt_some Hra.out, this]; rfl
      have hqP : q < P.length := by rw [Hm.out]; omega
      have Hrq := Lib.hid (Hat.out q hqP)
      have hmemq := HSub.out _ (List.getElem_mem hqP)
      obtain ⟨jq, hjq, hpq, hgq⟩ := found_at Hok.out hmemq
      have Hokq := Lib.hid (okB_ok Hok.out _ hmemq)
      have hown_q : (own P)[q]'(by simpa [own] using hqP) = P[q].o := by simp [own]
      obtain ⟨b3, o3, hbo3, hb3, hc3⟩ := HO.out.get q (by simpa [own] using hqP)
      obtain ⟨rfl, rfl⟩ : b2 = b3 ∧ o2 = o3 := by simpa using hbo3
      clear hbo3 hb3
      rw [hown_q] at hc3
      clear hown_q hmemq
      have Htq : Hid ((rs.take k).take (q + 1) = (rs.take k).take q ++ [rowOf w0 w1 w2 w3 w4 P[q]] ∧ rowOf w0 w1 w2 w3 w4 P[q] ∈ rs.take k) := Lib.hid (by
        have hql : q < (rs.take k).length := by rw [List.length_take, Hrl.out]; omega
        have e : (rs.take k)[q] = rowOf w0 w1 w2 w3 w4 P[q] := by
          have := Hrq.out
          rw [List.getElem?_eq_getElem (by rw [Hrl.out]; omega)] at this
          rw [List.getElem_take]
          exact Option.some.inj this
        exact ⟨by rw [List.take_succ_eq_append_getElem hql, e], by rw [← e]; exact List.getElem_mem hql⟩)
      generalize P[q] = d at *
      have Hpq := Lib.hid hpq
      clear hpq
      obtain ⟨bg2, og2, hbo, hbg2, hgq2⟩ := HG.out.get jq hjq
      obtain ⟨rfl, rfl⟩ : bg = bg2 ∧ og = og2 := by simpa using hbo
      clear hbo hbg2
      rw [hgq] at hgq2
      obtain ⟨d0', d1', d2', d3', d4', d5', d6'⟩ := hgq2
      clear hgq
      have hjqn : jq < n := by rw [Hl.out]; exact hjq
      have e2 : b2 < V.heap.size + y.blocks.size := by omega
      have e1 : w.heap.size < V.heap.size + y.blocks.size := by omega
      have e5 : bg < V.heap.size + y.blocks.size := by omega
      go_wp2
      have HbY := Lib.hid (grow_below V y)
      refine wp_region_alloc 12 11 10 (.cells #[.int .i64 0, .int .i64 0, .int .i64 0, .int .i64 0, .int .i64 0, .int .i64 0] 28) (by kernel_rfl) rfl (fun N => by kernel_rfl) (by decide) (fun a w => by simp [execOp, Act.eval, go_sem]) (by kernel_rfl) ?_
      apply Exists.intro
      refine ⟨fun b N hbN => ?_, fun N => ?_, fun W9 N hW9 hN9 hblk => ?_⟩
      · have hbV := up HbY.out hbN
        have KMb := KM.keep hbV
        have KMbl := KMb.lt
        have KMbc := KMb.get
        have e1b : w.heap.size < b.heap.size := KMb.lt
        have e2b : b2 < b.heap.size := by have := hbV.size; omega
        have e5b : bg < b.heap.size := by have := hbV.size; omega
        have u3 := (hbV.cell (p := ⟨b2, o2 + k, none⟩) hb2).trans hc2
        have u4 := (hbV.cell (p := ⟨bg, og + ja * 7 + 1, none⟩) hbg).trans a1'
        have u5 := (hbV.cell (p := ⟨bg, og + ja * 7 + 2, none⟩) hbg).trans a2'
        have u6 := (hbV.cell (p := ⟨bg, og + ja * 7 + 3, none⟩) hbg).trans a3'
        have u7 := (hbV.cell (p := ⟨bg, og + ja * 7 + 4, none⟩) hbg).trans a4'
        have u8 := (hbV.cell (p := ⟨bg, og + ja * 7 + 5, none⟩) hbg).trans a5'
        have u9 := (hbV.cell (p := ⟨bg, og + ja * 7 + 6, none⟩) hbg).trans a6'
        have HGb := Lib.hid (HG.out.keep hbV)
        simp only [List.set_cons_succ, List.set_cons_zero, ptrOp, List.take_succ_cons, List.take_zero]
        repeat (go_big_quiet_step ((go_at_call 66; exact quiet_grow rfl (refIndex_at _ _ _ gs _ (HGb.out.keep (grow_below _ _)) ja Hpa.out))))
        refine wpQuiet_nil ?_
        rfl
      · rfl
      simp only [List.drop_succ_cons, List.drop_zero]
      obtain ⟨n1, n2, n3⟩ := made6 hblk
      go_wp2
      have KA := put6_bk hblk (.int .i64 a.m0) (.int .i64 a.m1) (.int .i64 a.m2) (.int .i64 a.m3) (.int .i64 a.m4) (.int .i64 a.m5)
      have hbU := put6_below (up HbY.out hW9) (Nat.le_trans HbY.out.size hN9) (.int .i64 a.m0) (.int .i64 a.m1) (.int .i64 a.m2) (.int .i64 a.m3) (.int .i64 a.m4) (.int .i64 a.m5)
      generalize World.setCell _ ⟨N, 5, none⟩ _ = U at KA hbU ⊢
      clear n1 n2 n3 hblk hW9 hN9 e1 e2 e5
      have HbU := Lib.hid hbU
      clear hbU
      generalize N = NA at *
      refine wp_region_alloc 12 11 11 (.cells #[.int .i64 0, .int .i64 0, .int .i64 0, .int .i64 0, .int .i64 0, .int .i64 0] 28) (by kernel_rfl) rfl (fun N => by kernel_rfl) (by decide) (fun a w => by simp [execOp, Act.eval, go_sem]) (by kernel_rfl) ?_
      apply Exists.intro
      refine ⟨fun b N hbN => ?_, fun N => ?_, fun W9 N hW9 hN9 hblk => ?_⟩
      · have hbV := up HbU.out hbN
        have KMb := KM.keep hbV
        have KMbl := KMb.lt
        have KMbc := KMb.get
        have e1b : w.heap.size < b.heap.size := KMb.lt
        have e2b : b2 < b.heap.size := by have := hbV.size; omega
        have e5b : bg < b.heap.size := by have := hbV.size; omega
        have u3 := (hbV.cell (p := ⟨b2, o2 + q, none⟩) hb2).trans hc3
        have u4 := (hbV.cell (p := ⟨bg, og + jq * 7 + 1, none⟩) hbg).trans d1'
        have u5 := (hbV.cell (p := ⟨bg, og + jq * 7 + 2, none⟩) hbg).trans d2'
        have u6 := (hbV.cell (p := ⟨bg, og + jq * 7 + 3, none⟩) hbg).trans d3'
        have u7 := (hbV.cell (p := ⟨bg, og + jq * 7 + 4, none⟩) hbg).trans d4'
        have u8 := (hbV.cell (p := ⟨bg, og + jq * 7 + 5, none⟩) hbg).trans d5'
        have u9 := (hbV.cell (p := ⟨bg, og + jq * 7 + 6, none⟩) hbg).trans d6'
        have HGb := Lib.hid (HG.out.keep hbV)
        simp only [List.set_cons_succ, List.set_cons_zero, ptrOp, List.take_succ_cons, List.take_zero]
        repeat (go_big_quiet_step ((go_at_call 66; exact quiet_grow rfl (refIndex_at _ _ _ gs _ (HGb.out.keep (grow_below _ _)) jq Hpq.out))))
        refine wpQuiet_nil ?_
        rfl
      · rfl
      simp only [List.drop_succ_cons, List.drop_zero]
      obtain ⟨n1, n2, n3⟩ := made6 hblk
      go_wp2
      have KD := put6_bk hblk (.int .i64 d.m0) (.int .i64 d.m1) (.int .i64 d.m2) (.int .i64 d.m3) (.int .i64 d.m4) (.int .i64 d.m5)
      have hbX := put6_below hW9 hN9 (.int .i64 d.m0) (.int .i64 d.m1) (.int .i64 d.m2) (.int .i64 d.m3) (.int .i64 d.m4) (.int .i64 d.m5)
      generalize World.setCell _ ⟨N, 5, none⟩ _ = X at KD hbX ⊢
      have HbX := Lib.hid (up HbU.out hbX)
      have KAX := KA.keep hbX
      have KMX := KM.keep HbX.out
      have HIX := Lib.hid (HI.out.keep HbX.out)
      clear n1 n2 n3 hblk hW9 hN9 hbX
      have HWT : Hid (∀ s : Int, 0 ≤ s → s < 5 → [Value.int .i64 w0, .int .i64 w1, .int .i64 w2, .int .i64 w3, .int .i64 w4, .int .i64 F, .slice (some ⟨bg, og, none⟩) n c][s.toNat]? = some (.int .i64 (g5 w0 w1 w2 w3 w4 s))) := Lib.hid (fun s h0 h1 => by
        rcases (by omega : s = 0 ∨ s = 1 ∨ s = 2 ∨ s = 3 ∨ s = 4) with rfl | rfl | rfl | rfl | rfl <;> rfl)
      have l1 := KAX.lt
      have l2 := KD.lt
      have l3 := KMX.lt
      go_loopw [12, 13] (fun t i wr => ∃ (u : Nat) (x : Gr) (p : Bool), u ≤ n' ∧ i = .int .i64 u ∧ t = .bool p ∧ wr = grow X x ∧ (!meetAll (rowOf w0 w1 w2 w3 w4 a) (rowOf w0 w1 w2 w3 w4 d) (l.take u)) = p) (fun _ i _ => n' - (intOf i).toNat)
      case atStart => exact ⟨0, ⟨#[], X.drawn⟩, false, by omega, rfl, rfl, by simp [grow], rfl⟩
      case round =>
        obtain ⟨u, x, pb, hu, rfl, rfl, rfl, hpb⟩ := hrel
        have Hpb := Lib.hid hpb
        clear hpb
        have l4 : NA < X.heap.size + x.blocks.size := by omega
        have l5 : N < X.heap.size + x.blocks.size := by omega
        have l6 : w.heap.size < X.heap.size + x.blocks.size := by omega
        by_cases hlt3 : u < n'
        · have hul : u < l.length := by rw [← Hl'.out]; exact hlt3
          have Htu : Hid (l.take (u + 1) = l.take u ++ [l[u]]) := Lib.hid (List.take_succ_eq_append_getElem hul)
          obtain ⟨hx0, hx6⟩ := Hin.out _ (List.getElem_mem hul)
          obtain ⟨b4, o4, rfl, hb4, hc4⟩ := HIX.out.get u hul
          generalize l[u] = s at *
          have l7 : b4 < X.heap.size + x.blocks.size := by omega
          obtain ⟨sa0, sa5⟩ := g6_bd ((okM_iff _ _ _ _ _ _).2 Hoka.out) hx0 hx6
          obtain ⟨sd0, sd5⟩ := g6_bd ((okM_iff _ _ _ _ _ _).2 Hokq.out) hx0 hx6
          have ca : X.cell? ⟨NA, s.toNat, none⟩ = some (.int .i64 (g6 a.m0 a.m1 a.m2 a.m3 a.m4 a.m5 s)) := (KAX.get _).trans (at6 _ _ _ _ _ _ s hx0 hx6)
          have cd : X.cell? ⟨N, s.toNat, none⟩ = some (.int .i64 (g6 d.m0 d.m1 d.m2 d.m3 d.m4 d.m5 s)) := (KD.get _).trans (at6 _ _ _ _ _ _ s hx0 hx6)
          have HmB : Hid (meetB (rowOf w0 w1 w2 w3 w4 a) (rowOf w0 w1 w2 w3 w4 d) s = (band (g5 w0 w1 w2 w3 w4 (g6 a.m0 a.m1 a.m2 a.m3 a.m4 a.m5 s)) (g5 w0 w1 w2 w3 w4 (g6 d.m0 d.m1 d.m2 d.m3 d.m4 d.m5 s)) != 0)) := Lib.hid (by
            unfold meetB rowOf; dsimp only; rw [g6_map (g5 w0 w1 w2 w3 w4), g6_map (g5 w0 w1 w2 w3 w4)])
          generalize g6 a.m0 a.m1 a.m2 a.m3 a.m4 a.m5 s = sa at *
          generalize g6 d.m0 d.m1 d.m2 d.m3 d.m4 d.m5 s = sd at *
          have cw : X.cell? ⟨w.heap.size, sa.toNat, none⟩ = some (.int .i64 (g5 w0 w1 w2 w3 w4 sa)) := (KMX.get _).trans (HWT.out sa sa0 sa5)
          have cw2 : X.cell? ⟨w.heap.size, sd.toNat, none⟩ = some (.int .i64 (g5 w0 w1 w2 w3 w4 sd)) := (KMX.get _).trans (HWT.out sd sd0 sd5)
          generalize g5 w0 w1 w2 w3 w4 sa = ya at *
          generalize g5 w0 w1 w2 w3 w4 sd = yd at *
          cases pb
          · cases hz : (band ya yd == 0)
            all_goals
              have Hz := Lib.hid hz
              have hz2 : (bits BinOp.and IntKind.i64 ya yd == 0) = _ := hz
              clear hz
              go_wp2
              refine wp_region_grow (by kernel_rfl) (by kernel_rfl) ?_
              repeat (go_big_quiet_step ((fail)))
              refine wpQuiet_nil ?_
              intro x1
              obtain ⟨x2, hx2⟩ := grow_grow X x x1
              rw [hx2]
              clear hx2
              go_wp2
              refine ⟨⟨u + 1, x2, _, by omega, by go_num, rfl, rfl, ?_⟩, by simp [intOf]; omega⟩
              have hpm : meetAll (rowOf w0 w1 w2 w3 w4 a) (rowOf w0 w1 w2 w3 w4 d) (l.take u) = true := by simpa using Hpb.out
              rw [Htu.out, meetAll_snoc, hpm, HmB.out, bne, Hz.out]; rfl
          · go_wp2
            refine wp_region_grow (by kernel_rfl) (by kernel_rfl) ?_
            repeat (go_big_quiet_step ((fail)))
            refine wpQuiet_nil ?_
            intro x1
            obtain ⟨x2, hx2⟩ := grow_grow X x x1
            rw [hx2]
            clear hx2
            go_wp2
            refine ⟨⟨u + 1, x2, true, by omega, by go_num, rfl, rfl, ?_⟩, by simp [intOf]; omega⟩
            have hpm : meetAll (rowOf w0 w1 w2 w3 w4 a) (rowOf w0 w1 w2 w3 w4 d) (l.take u) = false := by simpa using Hpb.out
            rw [Htu.out, meetAll_snoc, hpm]; rfl
        · obtain rfl : u = n' := by omega
          have Hfull : Hid ((!meetAll (rowOf w0 w1 w2 w3 w4 a) (rowOf w0 w1 w2 w3 w4 d) l) = pb) := Lib.hid (by
            have := Hpb.out
            rwa [List.take_of_length_le (by rw [← Hl'.out]; exact Nat.le_refl _)] at this)
          cases pb
          · go_wp2
            go_ret
            refine ⟨congrArg (fun v => Ending.returned (Value.bool v)) ?_, up HW.out (up HB1.out (up HbX.out (grow_below X x)))⟩
            rw [HP.out, Hrs.out]
            unfold settleB
            rw [allK_no (settleAt rs l) k (settleAt_no Hra.out Htq.out.2 (by simpa using Hfull.out)) rs.length (by rw [Hrl.out]; exact hlt)]
          · go_wp2
            obtain ⟨y2, hy2⟩ := below_grow (up HbX.out (grow_below X x))
            refine ⟨⟨q + 1, y2, by omega, by go_num, hy2, ?_⟩, by simp [intOf]; omega⟩
            rw [Htq.out.1, List.all_append, Hpa2.out]
            simp [show meetAll (rowOf w0 w1 w2 w3 w4 a) (rowOf w0 w1 w2 w3 w4 d) l = false by simpa using Hfull.out]
end Go.Proofs.Ytpahbpgkmebieaa
