/- Contracts of functions of the program and of the reference, and plain facts: a part of a proof. Own text. -/
import Derived.Test.YtfhcofljlkihoaaGreatDoorJd
set_option linter.unusedVariables false
set_option linter.unusedSimpArgs false
set_option linter.unusedSectionVars false
namespace Go.Proofs.YtfhcofljlkihoaaGreatDoor
open Go Go.RowKit
set_option maxHeartbeats 400000
set_option maxRecDepth 100000

theorem rowL_len {wd : Bs} {n : Nat} {ws : List Bs} {l : List Int} (h : rowL wd n ws = some l) : l.length = n := by
  unfold rowL at h
  split at h
  · rename_i h1
    have := numsW_len h
    simp at this; omega
  · cases h
theorem len5 {l : List Int} (h : l.length = 5) : ∃ a0 a1 a2 a3 a4, l = [a0, a1, a2, a3, a4] := by
  match l, h with
  | [a0, a1, a2, a3, a4], _ => exact ⟨_, _, _, _, _, rfl⟩
theorem len7 {l : List Int} (h : l.length = 7) : ∃ a0 a1 a2 a3 a4 a5 a6, l = [a0, a1, a2, a3, a4, a5, a6] := by
  match l, h with
  | [a0, a1, a2, a3, a4, a5, a6], _ => exact ⟨_, _, _, _, _, _, _, rfl⟩
theorem len1 {l : List Int} (h : l.length = 1) : ∃ a0, l = [a0] := by
  match l, h with
  | [a0], _ => exact ⟨_, rfl⟩
theorem Vs.src {w : World} {A : Option Addr} {n : Nat} {l : List Value} (h : Vs w A n l) (hn : 0 < n) : ∃ g o, A = some ⟨g, o, none⟩ ∧ g < w.heap.size ∧ ∀ j v, l[j]? = some v → w.cell? ((⟨g, o, none⟩ : Addr).add j) = some v := by
  obtain ⟨g, o, rfl, hg, _⟩ := h.get 0 (by rw [← h.len]; exact hn)
  refine ⟨g, o, rfl, hg, fun j v hj => ?_⟩
  have hjl := (List.getElem?_eq_some_iff.1 hj).1
  obtain ⟨g', o', e, _, hc⟩ := h.get j hjl
  cases e
  rw [Addr.add_lit, hc]
  rw [List.getElem?_eq_getElem hjl] at hj
  exact hj
theorem nat_succ (k : Nat) : ((k : Int) + 1) = ((k + 1 : Nat) : Int) := by simp
theorem gr_fin {w X w' : World} {b : Nat} (h : Below w.heap.size w X) (hb : w.heap.size ≤ b) (hg : X.grownBy w' (some b)) : Below w.heap.size w w' :=
  ⟨hg.os.trans h.os, hg.tape.trans h.tape, hg.output.trans h.output, Nat.le_trans h.size hg.size, fun k hk =>
    (hg.block k (Nat.lt_of_lt_of_le hk h.size) (fun e => by cases e; omega)).trans (h.block k hk)⟩
theorem own_slice {w : World} {base n size : Nat} {t : TypeId} {v : Value} {l : List Value} (h : w.ownsRow base t size v n l) : ∃ A c, v = .slice A n c := by
  rcases h.2 with ⟨rfl, rfl⟩ | ⟨g, cap, cur, rfl, _⟩
  · exact ⟨_, _, rfl⟩
  · exact ⟨_, _, rfl⟩
/-- How readBook ends. -/
def ReadR (w : World) (t : Bs) (e : Ending) (w' : World) : Prop :=
  (∃ i, readG t = .bad i ∧ e = .panicked [{ v := .iface 43 (.int .i64 i), recovered := false }] ∧ Below w.heap.size w w') ∨
  (∃ k x B q c, readG t = .done k x ∧ e = .returned (.agg #[.int .i64 x.w0, .int .i64 x.w1, .int .i64 x.w2, .int .i64 x.w3, .int .i64 x.w4, .int .i64 x.F, .slice B q c]) ∧ Gs w' B q x.gs ∧ q ≤ c ∧ (∀ p, B = some p → w.heap.size ≤ p.block) ∧ Below w.heap.size w w')

set_option maxHeartbeats 4000000 in
theorem readBook_any (s : ByteArray) (w : World) (hs : s.size ≤ 4000) (hV : Vok w) : Calls Tryz.prog 15 #[.string s] w (ReadR w s.data.toList) := by
  have HV := Lib.hid hV
  have h3 : 3 < w.heap.size := by obtain ⟨v, hv, _⟩ := hV.r; exact World.block_lt_of_cell? w _ hv
  clear hV
  have hsl : s.data.toList.length ≤ 4000 := by rw [← Lib.size_eq]; exact hs
  have hll := linesG_len s.data.toList []
  have hlx := linesG_size s.data.toList []
  rw [show linesG s.data.toList [] = linesL s.data.toList from rfl] at hll hlx
  have HLX := Lib.hid hlx
  clear hlx
  obtain ⟨i0, hi, hz0, hz1, hz2⟩ := info_parts info30
  have HI := Lib.hid hi
  have HZ0 := Lib.hid hz0
  have HZ1 := Lib.hid hz1
  have HZ2 := Lib.hid hz2
  clear hi hz0 hz1 hz2
  have HRG : Hid (readG s.data.toList = match parseG (linesL s.data.toList) 0 0 Bo.zero with | .bad i => .bad i | .done said b => if said < 2 then .bad ((linesL s.data.toList).length + 1) else .done said b) := Lib.hid rfl
  go_enter Tryz.func15, Tryz.ntmps15
  go_wp2_with fail
  generalize hW0 : (World.alloc _ _) = W0
  have hb0 : Below w.heap.size w W0 := by subst hW0; go_grown
  have hb1 : Below (w.heap.size + 1) W0 W0 := Below.refl _ _
  have hz0 : w.heap.size + 1 < W0.heap.size := by subst hW0; simp
  have hblk : W0.heap[w.heap.size + 1]? = some (.cells #[.int .i64 0, .int .i64 0, .int .i64 0, .int .i64 0, .int .i64 0, .int .i64 0, .slice none 0 0] 26 (0, 0)) := by
    subst hW0
    have e : ∀ o, (w.alloc o).heap.size = w.heap.size + 1 := fun o => by simp
    rw [← e]; exact heap_alloc_new _ _
  have hres : W0.heap[w.heap.size]? = some (.cells #[.int .i64 0, .int .i64 0, .int .i64 0, .int .i64 0, .int .i64 0, .int .i64 0, .slice none 0 0] 26 (0, 0)) := by
    subst hW0
    refine (World.grownBy_alloc _ _ none).block _ (by simp) (by simp) |>.trans (heap_alloc_new _ _)
  clear hW0 hb1
  refine (linesOf_any s W0 hs (HV.out.keep hb0)).mono ?_
  rintro e X ⟨A, c, rfl, hvs, hnc, hA, hb1⟩
  have HS := Lib.hid (BW.start (X := X) (b := w.heap.size + 1) (Nat.lt_of_lt_of_le hz0 hb1.size) ((hb1.block _ hz0).trans hblk))
  have HB0 := Lib.hid (up hb0 hb1)
  have HVS := Lib.hid hvs
  have HA := Lib.hid (show ∀ p, A = some p → p.block ≠ w.heap.size + 1 from fun p hp => by have := hA p hp; omega)
  have HVX := Lib.hid (HV.out.keep (up hb0 hb1))
  have HRS := Lib.hid ((hb1.block w.heap.size (by omega)).trans hres)
  have hzX : w.heap.size + 1 < X.heap.size := Nat.lt_of_lt_of_le hz0 hb1.size
  clear hb0 hb1 hblk hres hvs hA
  clear hz0
  generalize hL : linesL s.data.toList = L at *
  clear hL
  go_wp2_with fail
  have hXb : w.heap.size ≤ w.heap.size + 1 := by omega
  generalize hbb : w.heap.size + 1 = b at *
  go_loopw [5, 16] (fun sd i wr => ∃ (k said : Nat) (x : Bo) (B : Option Addr) (q c' : Nat), k ≤ L.length ∧ said ≤ k ∧ sd = .int .i64 said ∧ i = .int .i64 k ∧ BW X wr b x B q c' ∧ q ≤ k ∧ Hid (parseG (L.drop k) k said x = parseG L 0 0 Bo.zero)) (fun _ i _ => L.length - (intOf i).toNat)
  case atStart => exact ⟨0, 0, Bo.zero, none, 0, 0, by omega, by omega, rfl, rfl, HS.out, by omega, Lib.hid rfl⟩
  case round =>
    obtain ⟨k, said, x, B, q, c', hk, hsk, rfl, rfl, hbw, hqk, HR⟩ := hrel
    have HBW := Lib.hid hbw
    have hbl := hbw.lt
    have HVW := Lib.hid (HVX.out.keepEx hbw.gr (by omega))
    have HLW := Lib.hid (HVS.out.keepEx hbw.gr HA.out)
    clear hbw
    by_cases hlt : k < L.length
    · have hdr : L.drop k = L[k] :: L.drop (k + 1) := List.drop_eq_getElem_cons hlt
      have hxl := HLX.out L[k] (List.getElem_mem _)
      rw [List.length_nil, Nat.zero_add] at hxl
      obtain ⟨b1, o1, rfl, hb1, hc1⟩ := HLW.out.str k hlt
      generalize L[k] = y at *
      have HR2 := Lib.hid (show parseG (y :: L.drop (k + 1)) k said x = parseG L 0 0 Bo.zero by rw [← hdr]; exact HR.out)
      clear hdr HR
      have hy4 : (mkS y).size ≤ 4000 := by rw [mkS_size]; omega
      go_wp2_with fail
      refine (wordsOf_any (mkS y) _ hy4).mono ?_
      rintro e w1 ⟨v, rfl, hown, hb⟩
      obtain ⟨A1, c1, rfl, hn1, hv1⟩ := Vs.of_own hown
      rw [mkS_data] at hv1 hn1
      rw [mkS_data]
      have HV1 := Lib.hid hv1
      have HBW1 := Lib.hid (HBW.out.grow hb)
      have HVW1 := Lib.hid (HVW.out.keep hb)
      have hbl1 : b < w1.heap.size := Nat.lt_of_lt_of_le hbl hb.size
      have hw40 : ∀ z ∈ wordsL y, z.length ≤ 4000 := fun z hz => by
        unfold wordsL at hz
        split at hz
        · simp at hz
        · have := wordsG_size _ _ z hz; simp at this; omega
      have hwn : (wordsL y).length ≤ 4001 := by
        unfold wordsL; split
        · simp
        · have := wordsG_len y []; omega
      have HW40 := Lib.hid hw40
      clear hown hb hv1 hw40 HVW HBW hc1 hb1 HLW hbl
      by_cases hw0 : wordsL y = []
      · rw [hw0]
        have HR3 := Lib.hid (show parseG (L.drop (k + 1)) (k + 1) said x = parseG L 0 0 Bo.zero by rw [← HR2.out, parseG, if_pos hw0])
        clear hw0 HR2 HV1 hn1 hwn HW40
        go_wp2
        exact ⟨⟨k + 1, said, x, B, q, c', by omega, by omega, rfl, by go_num, HBW1.out, by omega, HR3⟩, by simp [intOf]; omega⟩
      · have hnz : (wordsL y).length ≠ 0 := fun e => hw0 (List.eq_nil_of_length_eq_zero e)
        have hnz1 : (((wordsL y).length : Int) == 0) = false := by rw [beq_eq_false_iff_ne]; omega
        have HRN : Hid (rowL (wordL said) (cntL said) (wordsL y) = none → parseG L 0 0 Bo.zero = .bad (k + 1)) := Lib.hid fun e => by rw [← HR2.out, parseG, if_neg hw0, e]
        have HRY : Hid (∀ l, rowL (wordL said) (cntL said) (wordsL y) = some l → parseG (L.drop (k + 1)) (k + 1) (said + 1) (stepB said x l) = parseG L 0 0 Bo.zero) := Lib.hid fun l e => by rw [← HR2.out, parseG, if_neg hw0, e]
        clear hw0 HR2
        by_cases hs0 : said = 0
        · subst hs0
          have HRN : Hid (rowL wearL 5 (wordsL y) = none → _) := HRN
          have HRY : Hid (∀ l, rowL wearL 5 (wordsL y) = some l → _) := HRY
          go_wp2_with fail
          refine wp_region_takes3 5 4 [0,1,2,3] _ (by kernel_rfl) (by kernel_rfl) (by kernel_rfl) (by kernel_rfl) (by decide) (fun d _ _ _ _ h => by cases d <;> exact h) (by kernel_rfl) rfl rfl (by kernel_rfl) (by kernel_rfl) (by kernel_rfl) rfl ?_
          refine wpTakes_step (v := ?_) rfl (by rfl) ?_ ?_
          rotate_left
          · (rintro _ ⟨z9, rfl⟩; go_simp; try (with_reducible rfl))
          simp only [Act.put, List.setIfInBounds_toArray, List.set_cons_zero, List.set_cons_succ]
          refine wpTakes_step (v := ?_) rfl (by rfl) ?_ ?_
          rotate_left
          · (rintro _ ⟨z9, rfl⟩; go_simp; try (with_reducible rfl))
          simp only [Act.put, List.setIfInBounds_toArray, List.set_cons_zero, List.set_cons_succ]
          refine wpTakes_step (v := ?_) rfl (by rfl) ?_ ?_
          rotate_left
          · (rintro _ ⟨z9, rfl⟩; go_simp; try (with_reducible rfl))
          simp only [Act.put, List.setIfInBounds_toArray, List.set_cons_zero, List.set_cons_succ]
          refine wpTakes_step (v := ?_) rfl (by rfl) ?_ ?_
          rotate_left
          · (rintro _ ⟨z9, rfl⟩; go_simp; try (with_reducible rfl))
          simp only [Act.put, List.setIfInBounds_toArray, List.set_cons_zero, List.set_cons_succ]
          simp only [wpTakes, List.drop_succ_cons, List.drop_zero]
          go_wp2_with fail
          refine (numbersOf_any ((k : Int) + 1) A1 (wordsL y).length c1 (wordsL y) wearL 5 _ (HV1.out.keep (by go_grown)) hn1 (by omega) (by omega) (by omega) (by omega) HW40.out (HVW1.out.keep (by go_grown))).mono ?_
          rintro e w2 (⟨l, v, hr, rfl, hown, hb⟩ | ⟨hr, rfl, hb⟩)
          · have hl5 : l.length = 5 := rowL_len hr
            have HR3 := Lib.hid (HRY.out l hr)
            obtain ⟨A2, c2, rfl, hn2, hv2⟩ := Vs.of_own hown
            have hb2 : Below w1.heap.size w1 w2 := up (by go_grown) hb
            refine ⟨below_grow hb2, ?_⟩
            obtain ⟨g2, o2, rfl, hg2, hsrc⟩ := hv2.src (by omega)
            have HBW2 := Lib.hid (HBW1.out.grow hb2)
            obtain ⟨a0, a1, a2, a3, a4, rfl⟩ := len5 hl5
            clear hb hb2 hown hv2 hr HRN HRY HV1 HW40
            refine wpList_copy_own rfl (.tmp 50) (.tmp 53) 37 37 rfl 3 Tryz.underlying37 (by kernel_rfl) b 0 5 5 ⟨g2, o2, none⟩ 5 c2 rfl rfl (bcells x B q c') 26 HBW2.out.blk [.int .i64 a0, .int .i64 a1, .int .i64 a2, .int .i64 a3, .int .i64 a4] rfl hsrc (by simp [bcells]) (by simp [Value.oneCell']) ?_
            have HBW3 := Lib.hid (HBW2.out.wear a0 a1 a2 a3 a4)
            generalize World.setRow w2 b _ = w3 at HBW3 ⊢
            clear hsrc HBW2 HBW1 HVW1
            go_wp2
            exact ⟨⟨k + 1, 1, _, B, q, c', by omega, by omega, rfl, by go_num, HBW3.out, by omega, HR3⟩, by simp [intOf]; omega⟩
          · have hr3 := HRN.out hr
            have hb2 : Below w1.heap.size w1 w2 := up (by go_grown) hb
            have hBx := gr_fin HB0.out hXb (gr_below HBW1.out.gr hb2)
            refine ⟨rfl, Or.inl ⟨k + 1, ?_, by rw [← nat_succ], hBx⟩⟩
            rw [HRG.out, hr3]
        · by_cases hs1 : said = 1
          · subst hs1
            have HRN : Hid (rowL falseL 1 (wordsL y) = none → _) := HRN
            have HRY : Hid (∀ l, rowL falseL 1 (wordsL y) = some l → _) := HRY
            clear hs0
            go_wp2_with fail
            refine (numbersOf_any ((k : Int) + 1) A1 (wordsL y).length c1 (wordsL y) falseL 1 _ HV1.out hn1 (by omega) (by omega) (by omega) (by omega) HW40.out HVW1.out).mono ?_
            rintro e w2 (⟨l, v, hr, rfl, hown, hb⟩ | ⟨hr, rfl, hb⟩)
            · have hl1 : l.length = 1 := rowL_len hr
              have HR3 := Lib.hid (HRY.out l hr)
              obtain ⟨A2, c2, rfl, hn2, hv2⟩ := Vs.of_own hown
              obtain ⟨g2, o2, rfl, hg2, hsrc⟩ := hv2.src (by omega)
              have HBW2 := Lib.hid (HBW1.out.grow hb)
              obtain ⟨a0, rfl⟩ := len1 hl1
              have hc0 := hsrc 0 (.int .i64 a0) rfl
              rw [Addr.add_lit, Nat.add_zero] at hc0
              have hx5 := HBW2.out.get 5
              have hf5 := HBW2.out.fr 5
              have hbl2 := HBW2.out.lt
              simp at hx5
              clear hb hown hv2 hr HRN HRY HV1 HW40 hsrc HBW1 HVW1
              go_wp2
              have HBW3 := Lib.hid (HBW2.out.setF a0)
              generalize World.setCell w2 _ _ = w3 at *
              exact ⟨⟨k + 1, 2, _, B, q, c', by omega, by omega, rfl, by go_num, HBW3.out, by omega, HR3⟩, by simp [intOf]; omega⟩
            · have hr3 := HRN.out hr
              have hBx := gr_fin HB0.out hXb (gr_below HBW1.out.gr hb)
              refine ⟨rfl, Or.inl ⟨k + 1, ?_, by rw [← nat_succ], hBx⟩⟩
              rw [HRG.out, hr3]
          · have hw2 : wordL said = markL := by unfold wordL; rw [if_neg hs0, if_neg hs1]
            have hc7 : cntL said = 7 := by unfold cntL; rw [if_neg hs0, if_neg hs1]
            rw [hw2, hc7] at HRN HRY
            have hd0 : ((said : Int) == 0) = false := by rw [beq_eq_false_iff_ne]; omega
            have hd1 : ((said : Int) == 1) = false := by rw [beq_eq_false_iff_ne]; omega
            have HS2 : Hid (∀ l, stepB said x l = { x with gs := x.gs ++ [gOf l] }) := Lib.hid fun l => by unfold stepB; rw [if_neg hs0, if_neg hs1]
            clear hs0 hs1 hw2 hc7
            go_wp2_with fail
            refine (numbersOf_any ((k : Int) + 1) A1 (wordsL y).length c1 (wordsL y) markL 7 _ HV1.out hn1 (by omega) (by omega) (by omega) (by omega) HW40.out HVW1.out).mono ?_
            rintro e w2 (⟨l, v, hr, rfl, hown, hb⟩ | ⟨hr, rfl, hb⟩)
            · have hl7 : l.length = 7 := rowL_len hr
              have HR3 := Lib.hid (HRY.out l hr)
              obtain ⟨A2, c2, rfl, hn2, hv2⟩ := Vs.of_own hown
              obtain ⟨g2, o2, rfl, hg2, hsrc⟩ := hv2.src (by omega)
              have HBW2 := Lib.hid (HBW1.out.grow hb)
              obtain ⟨a0, a1, a2, a3, a4, a5, a6, rfl⟩ := len7 hl7
              have hc0 := hsrc 0 (.int .i64 a0) rfl
              rw [Addr.add_lit, Nat.add_zero] at hc0
              have hbl2 := HBW2.out.lt
              have HSRC := Lib.hid hsrc
              obtain ⟨c3, rfl⟩ : ∃ c3, c2 = c3 + 7 := ⟨c2 - 7, by simp [ints] at hn2; omega⟩
              clear hb hown hv2 hr HRN HRY HV1 HW40 hsrc HBW1 HVW1
              go_wp2
              generalize hV : World.alloc w2 _ = V
              have hVb : Below w2.heap.size w2 V := by subst hV; exact up_alloc _ _
              have hgb : V.heap[w2.heap.size]? = some (.cells #[.int .i64 a0, .int .i64 0, .int .i64 0, .int .i64 0, .int .i64 0, .int .i64 0, .int .i64 0] 41 (0, 0)) := by subst hV; exact heap_alloc_new _ _
              have hVs : V.heap.size = w2.heap.size + 1 := by subst hV; simp
              clear hV
              refine wp_region_grow_tail 4 (by kernel_rfl) (by kernel_rfl) ?_
              simp only [List.take_succ_cons, List.take_zero, List.drop_succ_cons, List.drop_zero]
              repeat (go_big_quiet_step ((fail)))
              refine wpQuiet_nil ?_
              intro z
              have hgz : (grow V z).heap[w2.heap.size]? = some (.cells #[.int .i64 a0, .int .i64 0, .int .i64 0, .int .i64 0, .int .i64 0, .int .i64 0, .int .i64 0] 41 (0, 0)) := ((grow_below V z).block _ (by omega)).trans hgb
              have hbz : Below w2.heap.size w2 (grow V z) := up hVb (grow_below V z)
              have hsr : ∀ (j : Nat) v, [Value.int .i64 a1, .int .i64 a2, .int .i64 a3, .int .i64 a4, .int .i64 a5, .int .i64 a6][j]? = some v → (grow V z).cell? ((⟨g2, o2 + 1, none⟩ : Addr).add j) = some v := by
                intro j v hj
                have := HSRC.out (j + 1) v (by simpa [ints] using hj)
                rw [Addr.add_lit] at this ⊢
                rw [show o2 + 1 + j = o2 + (j + 1) by omega]
                exact (hbz.cell (p := ⟨g2, o2 + (j + 1), none⟩) hg2).trans this
              refine wpList_copy_own rfl (.tmp 37) (.tmp 39) 37 37 rfl 3 Tryz.underlying37 (by kernel_rfl) w2.heap.size 1 6 6 ⟨g2, o2 + 1, none⟩ 6 _ rfl rfl _ 41 hgz [.int .i64 a1, .int .i64 a2, .int .i64 a3, .int .i64 a4, .int .i64 a5, .int .i64 a6] rfl hsr (by simp) (by simp [Value.oneCell']) ?_
              generalize hV2 : World.setRow (grow V z) _ _ = V2
              have hrow : V2.heap[w2.heap.size]? = some (.cells #[Value.int .i64 a0, .int .i64 a1, .int .i64 a2, .int .i64 a3, .int .i64 a4, .int .i64 a5, .int .i64 a6] 41 (0, 0)) := by
                rw [← hV2]; exact setRow_heap (grow V z) w2.heap.size _ _ 41 (0, 0) hgz
              have hbr : Below w2.heap.size w2 V2 := by rw [← hV2]; exact below_setRow hbz (Nat.le_refl _) _
              have hg7 : ∀ j, V2.cell? ⟨w2.heap.size, j, none⟩ = [Value.int .i64 a0, .int .i64 a1, .int .i64 a2, .int .i64 a3, .int .i64 a4, .int .i64 a5, .int .i64 a6][j]? := by
                intro j; rw [World.cell?]; simp only [hrow]; simp
              have hg0 := hg7 0; have hg1 := hg7 1; have hg2' := hg7 2; have hg3 := hg7 3; have hg4 := hg7 4; have hg5 := hg7 5; have hg6 := hg7 6
              simp at hg0 hg1 hg2' hg3 hg4 hg5 hg6
              have hsz2 : w2.heap.size < V2.heap.size := (Array.getElem?_eq_some_iff.1 hrow).1
              clear hV2 hgz hbz hsr hrow hVb hgb hVs hg7 hc0
              have HBW3 := Lib.hid (HBW2.out.grow hbr)
              have hx6 := HBW3.out.get 6
              simp at hx6
              have hbl3 := HBW3.out.lt
              have HBR := Lib.hid hbr
              have hq := HBW3.out.len
              have HQ := Lib.hid hq
              clear hbr hq HBW2
              go_wp2_with (at_builtin; refine wpList_append_own _ rfl _ _ 24 rfl X.heap.size 41 i0 (.agg #[.int .i64 0, .int .i64 0, .int .i64 0, .int .i64 0, .int .i64 0, .int .i64 0, .int .i64 0]) 7 56 Tryz.underlying24 HI.out HZ0.out HZ1.out HZ2.out rfl (by decide) _ _ _ rfl (HBW3.out.own.alloc _) ⟨V2.heap.size, 0, none⟩ 1 1 [.int .i64 a0, .int .i64 a1, .int .i64 a2, .int .i64 a3, .int .i64 a4, .int .i64 a5, .int .i64 a6] rfl rfl ?c1 ?c2 ?c3 ?c4 ?c5 ?_)
              case c1 =>
                intro j u hu
                rw [Addr.add_lit, World.cell?_alloc_at _ _ _ _ (by simp), Nat.zero_add]
                simpa using hu
              case c2 => intro u hu; simp at hu; rcases hu with rfl | rfl | rfl | rfl | rfl | rfl | rfl <;> rfl
              case c3 => unfold maxLen; omega
              case c4 => omega
              case c5 => have := HBW3.out.gr.size; simp; omega
              intro v' w4 hown' hgr _
              obtain ⟨B5, c5, rfl⟩ := own_slice hown'
              have hown5 : w4.ownsRow X.heap.size 41 7 (.slice B5 (q + 1) c5) (q + 1) (gcells (x.gs ++ [gOf [a0, a1, a2, a3, a4, a5, a6]])) := by rw [gcells_snoc]; exact hown'
              have HBN := Lib.hid (HBW3.out.next (up_alloc _ _) hgr _ hown5)
              obtain ⟨hap, haf⟩ := HBW3.out.app (up_alloc _ _) hgr
              have hx6' := (hap 6).trans hx6
              have hf6 := haf 6
              have hsz4 : b < w4.heap.size := Nat.lt_of_lt_of_le hbl3 (Nat.le_trans (by simp) hgr.size)
              clear hown' hown5 hgr hap haf hx6
              go_wp2
              generalize World.setCell w4 _ _ = w5 at *
              exact ⟨⟨k + 1, said + 1, _, B5, q + 1, c5, by omega, by omega, by go_num, by go_num, HBN.out, by omega, by rw [HS2.out] at HR3; exact HR3⟩, by simp [intOf]; omega⟩
            · have hr3 := HRN.out hr
              have hBx := gr_fin HB0.out hXb (gr_below HBW1.out.gr hb)
              refine ⟨rfl, Or.inl ⟨k + 1, ?_, by rw [← nat_succ], hBx⟩⟩
              rw [HRG.out, hr3]
    · obtain rfl : k = L.length := by omega
      rw [List.drop_length] at HR
      have HRF := Lib.hid (show parseG L 0 0 Bo.zero = .done said x from HR.out.symm)
      clear HR
      by_cases hs2 : said < 2
      · have hc2 : decide ((said : Int) < 2) = true := by rw [decide_eq_true_eq]; omega
        go_wp2
        have hBx := gr_fin HB0.out hXb HBW.out.gr
        refine ⟨rfl, Or.inl ⟨L.length + 1, ?_, by rw [← nat_succ], hBx⟩⟩
        rw [HRG.out, HRF.out]
        simp [hs2]
      · have hc2 : decide ((said : Int) < 2) = false := by rw [decide_eq_false_iff_not]; omega
        have hcm := HBW.out.get
        have hBx := Lib.hid (gr_fin HB0.out hXb HBW.out.gr)
        have hrb : wr.heap[w.heap.size]? = _ := (HBW.out.gr.block w.heap.size (by omega) (by intro e; cases e; omega)).trans HRS.out
        have hr0 : ∀ j, wr.cell? ⟨w.heap.size, j, none⟩ = [Value.int .i64 0, .int .i64 0, .int .i64 0, .int .i64 0, .int .i64 0, .int .i64 0, .slice none 0 0][j]? := by
          intro j; rw [World.cell?]; simp only [hrb]; simp
        have hf0 : ∀ j, wr.frozen? ⟨w.heap.size, j, none⟩ = false := by intro j; simp [World.frozen?, hrb]
        have KX : Bk wr w.heap.size [.int .i64 0, .int .i64 0, .int .i64 0, .int .i64 0, .int .i64 0, .int .i64 0, .slice none 0 0] := ⟨by omega, hr0⟩
        have hRX : w.heap.size < X.heap.size := by omega
        have HQ := Lib.hid HBW.out.len
        clear hrb
        go_wp2
        have P := put7 wr w.heap.size (.int .i64 x.w0) (.int .i64 x.w1) (.int .i64 x.w2) (.int .i64 x.w3) (.int .i64 x.w4) (.int .i64 x.F) (.slice B q c') (bk_some KX)
        have O := own_put7 (w := wr) HBW.out.own (b := w.heap.size) hRX (.int .i64 x.w0) (.int .i64 x.w1) (.int .i64 x.w2) (.int .i64 x.w3) (.int .i64 x.w4) (.int .i64 x.F) (.slice B q c')
        have BB := put7_below (w := wr) hBx.out (Nat.le_refl w.heap.size) (.int .i64 x.w0) (.int .i64 x.w1) (.int .i64 x.w2) (.int .i64 x.w3) (.int .i64 x.w4) (.int .i64 x.F) (.slice B q c')
        generalize World.setCell _ ⟨w.heap.size, 6, none⟩ _ = U at P O BB ⊢
        have p0 := P 0 (by omega); have p1 := P 1 (by omega); have p2 := P 2 (by omega); have p3 := P 3 (by omega); have p4 := P 4 (by omega); have p5 := P 5 (by omega); have p6 := P 6 (by omega)
        clear P
        simp at p0 p1 p2 p3 p4 p5 p6
        refine bodyPost_ret (v := .agg #[.int .i64 x.w0, .int .i64 x.w1, .int .i64 x.w2, .int .i64 x.w3, .int .i64 x.w4, .int .i64 x.F, .slice B q c']) (by simp [results, Tryz.results15, go_sem, p0, p1, p2, p3, p4, p5, p6]) rfl ?_
        clear p0 p1 p2 p3 p4 p5 p6
        obtain ⟨A9, c9, e9, hc9, hl9, hg9⟩ := Gs.of_own O
        cases e9
        refine Or.inr ⟨said, x, _, _, _, ?_, rfl, hg9 (by omega), hc9, fun p hp => by have := (O.lt p.block (by rw [hp]; rfl)).1; omega, BB⟩
        rw [HRG.out, HRF.out]
        simp [hs2]
end Go.Proofs.YtfhcofljlkihoaaGreatDoor

