/- Contracts of functions of the program and of the reference, and plain facts: a part of a proof. Own text. -/
import Derived.Test.YtfhcofljlkihoaaGreatDoorJf
set_option linter.unusedVariables false
set_option linter.unusedSimpArgs false
set_option linter.unusedSectionVars false
namespace Go.Proofs.YtfhcofljlkihoaaGreatDoor
open Go Go.RowKit
set_option maxHeartbeats 400000
set_option maxRecDepth 100000

theorem BW.set {X w : World} {b : Nat} {x : Bo} {B : Option Addr} {q c : Nat} (h : BW X w b x B q c) (i : Nat) (v : Value) (y : Bo) (hy : y.gs = x.gs) (he : (bcells x B q c).setIfInBounds i v = bcells y B q c) : BW X (w.setCell ⟨b, i, none⟩ v) b y B q c := by
  rw [setCell_eq_setRow w b i _ _ _ _ h.blk, he]
  exact h.row y hy
theorem BW.set5 {X w : World} {b : Nat} {x : Bo} {B : Option Addr} {q c : Nat} (h : BW X w b x B q c) (a0 a1 a2 a3 a4 : Int) :
    BW X (((((w.setCell ⟨b, 0, none⟩ (.int .i64 a0)).setCell ⟨b, 1, none⟩ (.int .i64 a1)).setCell ⟨b, 2, none⟩ (.int .i64 a2)).setCell ⟨b, 3, none⟩ (.int .i64 a3)).setCell ⟨b, 4, none⟩ (.int .i64 a4)) b { x with w0 := a0, w1 := a1, w2 := a2, w3 := a3, w4 := a4 } B q c :=
  ((((h.set 0 (.int .i64 a0) { x with w0 := a0 } rfl rfl).set 1 (.int .i64 a1) { x with w0 := a0, w1 := a1 } rfl rfl).set 2 (.int .i64 a2) { x with w0 := a0, w1 := a1, w2 := a2 } rfl rfl).set 3 (.int .i64 a3) { x with w0 := a0, w1 := a1, w2 := a2, w3 := a3 } rfl rfl).set 4 (.int .i64 a4) { x with w0 := a0, w1 := a1, w2 := a2, w3 := a3, w4 := a4 } rfl rfl
/-- A result box of seven is written whole. -/
theorem res7 {w : World} {R : Nat} {c0 c1 c2 c3 c4 c5 c6 : Value} {t : TypeId} (h : w.heap[R]? = some (.cells #[c0, c1, c2, c3, c4, c5, c6] t (0, 0))) (v0 v1 v2 v3 v4 v5 v6 : Value) :
    ∃ U, (((((((w.setCell ⟨R, 0, none⟩ v0).setCell ⟨R, 1, none⟩ v1).setCell ⟨R, 2, none⟩ v2).setCell ⟨R, 3, none⟩ v3).setCell ⟨R, 4, none⟩ v4).setCell ⟨R, 5, none⟩ v5).setCell ⟨R, 6, none⟩ v6) = U ∧
      (∀ j, U.cell? ⟨R, j, none⟩ = [v0, v1, v2, v3, v4, v5, v6][j]?) ∧ (∀ k, k ≠ R → U.heap[k]? = w.heap[k]?) ∧ U.heap.size = w.heap.size ∧ (∀ {a : World} {B : Nat}, Below B a w → B ≤ R → Below B a U) := by
  have a0 := sc_blk h 0 v0
  have a1 := sc_blk a0 1 v1
  have a2 := sc_blk a1 2 v2
  have a3 := sc_blk a2 3 v3
  have a4 := sc_blk a3 4 v4
  have a5 := sc_blk a4 5 v5
  have a6 := sc_blk a5 6 v6
  refine ⟨_, rfl, blk_cell a6, fun k hk => ?_, by simp, fun hb hR => put7_below hb hR _ _ _ _ _ _ _⟩
  exact (sc_other a5 6 v6 hk).trans ((sc_other a4 5 v5 hk).trans ((sc_other a3 4 v4 hk).trans ((sc_other a2 3 v3 hk).trans ((sc_other a1 2 v2 hk).trans ((sc_other a0 1 v1 hk).trans (sc_other h 0 v0 hk))))))

/-- A result box of seven is written at once. -/
theorem res7r {w : World} {R : Nat} {c0 c1 c2 c3 c4 c5 c6 : Value} {t : TypeId} (h : w.heap[R]? = some (.cells #[c0, c1, c2, c3, c4, c5, c6] t (0, 0))) (v0 v1 v2 v3 v4 v5 v6 : Value) :
    ∃ U, w.setRow R #[v0, v1, v2, v3, v4, v5, v6] = U ∧ (∀ j, U.cell? ⟨R, j, none⟩ = [v0, v1, v2, v3, v4, v5, v6][j]?) ∧ (∀ k, k ≠ R → U.heap[k]? = w.heap[k]?) ∧ U.heap.size = w.heap.size ∧ (∀ {a : World} {B : Nat}, Below B a w → B ≤ R → Below B a U) :=
  ⟨_, rfl, blk_cell (setRow_heap w R _ _ _ _ h), fun k hk => setRow_other w R k _ hk, by simp [World.setRow], fun hb hR => hb.trans ⟨rfl, rfl, rfl, by simp [World.setRow], fun k hk => setRow_other w R k _ (by omega)⟩⟩


theorem refParse_long (s : ByteArray) (w : World) (hs : 4000 < s.size) (hs2 : s.size ≤ 140737488355328) : Calls Tryz.prog 7 #[.string s] w (ParseR w s.data.toList) := by
  have HE := Lib.hid (text_long (show 4000 < s.data.toList.length by rw [← Lib.size_eq]; exact hs))
  have hc : decide ((4000 : Int) < (s.size : Int)) = true := by rw [decide_eq_true_eq]; omega
  clear hs
  go_enter Tryz.func7, Tryz.ntmps7
  go_wp2
  obtain ⟨e1, e2, e3⟩ := HE.out
  refine bodyPost_ret (v := .tuple #[.agg #[.int .i64 0, .int .i64 0, .int .i64 0, .int .i64 0, .int .i64 0, .int .i64 0, .slice none 0 0], .int .i64 0, .int .i64 2]) (by simp [results, Tryz.results7, go_sem]) rfl ⟨none, 0, 0, ?_, ?_, Nat.le_refl _, by go_grown⟩
  · rw [e1, e2, e3]; rfl
  · rw [e3]; exact gs_none _

set_option maxHeartbeats 8000000 in
theorem refParse_short (s : ByteArray) (w : World) (hs : s.size ≤ 4000) : Calls Tryz.prog 7 #[.string s] w (ParseR w s.data.toList) := by
  have HL := Lib.hid (show s.data.toList.length ≤ 4000 by rw [← Lib.size_eq]; exact hs)
  have hc : decide ((4000 : Int) < (s.size : Int)) = false := by rw [decide_eq_false_iff_not]; omega
  have hll := linesG_len s.data.toList []
  have hlx := linesG_size s.data.toList []
  rw [show linesG s.data.toList [] = linesL s.data.toList from rfl] at hll hlx
  have hll2 : (linesL s.data.toList).length ≤ 4001 := by have := HL.out; omega
  have HLX : Hid (∀ x ∈ linesL s.data.toList, x.length ≤ 4000) := Lib.hid fun x hx => by have h1 := hlx x hx; have h2 := HL.out; simp at h1; omega
  clear hlx hll
  obtain ⟨i0, hi, hz0, hz1, hz2⟩ := info_parts info30
  have HI := Lib.hid hi
  have HZ0 := Lib.hid hz0
  have HZ1 := Lib.hid hz1
  have HZ2 := Lib.hid hz2
  clear hi hz0 hz1 hz2
  have HRG : Hid (readG s.data.toList = match parseG (linesL s.data.toList) 0 0 Bo.zero with | .bad i => .bad i | .done said b => if said < 2 then .bad ((linesL s.data.toList).length + 1) else .done said b) := Lib.hid rfl
  go_enter Tryz.func7, Tryz.ntmps7
  go_wp2_with fail
  generalize hW0 : (World.alloc _ _) = W0
  have hb0 : Below w.heap.size w W0 := by subst hW0; go_grown
  have hz0 : w.heap.size < W0.heap.size := by subst hW0; simp
  have hres : W0.heap[w.heap.size]? = some (.cells #[.int .i64 0, .int .i64 0, .int .i64 0, .int .i64 0, .int .i64 0, .int .i64 0, .slice none 0 0] 26 (0, 0)) := by
    subst hW0; exact heap_alloc_new _ _
  clear hW0
  refine (refLines_any s W0 hs).mono ?_
  rintro e w1 ⟨v, rfl, hown, hb1⟩
  obtain ⟨A, c, rfl, hnc, hvs⟩ := Vs.of_own hown
  generalize hL : linesL s.data.toList = L at *
  clear hown hL
  go_wp2_with fail
  generalize hX : (World.alloc w1 _) = X
  have hbX : Below w1.heap.size w1 X := by subst hX; exact up_alloc _ _
  have hXs : X.heap.size = w1.heap.size + 1 := by subst hX; simp
  have HS := Lib.hid (BW.start (X := X) (b := w1.heap.size) (by omega) (by subst hX; exact heap_alloc_new _ _))
  have HB0 := Lib.hid (up hb0 (up hb1 hbX))
  have HVS := Lib.hid (hvs.keep hbX)
  have HA : Hid (∀ k (h : k < L.length), ∃ g o, A = some ⟨g, o, none⟩ ∧ g < w1.heap.size) := Lib.hid fun k h => by
    obtain ⟨g, o, e, hg, _⟩ := hvs.str k h; exact ⟨g, o, e, hg⟩
  have HRS := Lib.hid ((hbX.block w.heap.size (by have := hb1.size; omega)).trans ((hb1.block w.heap.size hz0).trans hres))
  have hRX : w.heap.size < X.heap.size := by have := hb1.size; omega
  have hXb : w.heap.size ≤ w1.heap.size := by have := hb1.size; omega
  have hXR : w.heap.size < w1.heap.size := by have := hb1.size; omega
  clear hX hb0 hb1 hbX hvs hres hz0
  generalize w1.heap.size = b at *
  go_loopw [7, 8] (fun sd i wr => ∃ (k said : Nat) (x : Bo) (B : Option Addr) (q c' : Nat), k ≤ L.length ∧ said ≤ k ∧ sd = .int .i64 said ∧ i = .int .i64 k ∧ BW X wr b x B q c' ∧ q ≤ k ∧ Hid (parseG (L.drop k) k said x = parseG L 0 0 Bo.zero)) (fun _ i _ => L.length - (intOf i).toNat)
  case atStart => exact ⟨0, 0, Bo.zero, none, 0, 0, by omega, by omega, rfl, rfl, HS.out, by omega, Lib.hid rfl⟩
  case round =>
    obtain ⟨k, said, x, B, q, c', hk, hsk, rfl, rfl, hbw, hqk, HR⟩ := hrel
    have HBW := Lib.hid hbw
    have hbl := hbw.lt
    by_cases hlt : k < L.length
    · have HLW := Lib.hid (HVS.out.keepEx hbw.gr (fun p hp => by obtain ⟨g, o, e, hg⟩ := HA.out k hlt; rw [hp] at e; cases e; exact Nat.ne_of_lt hg))
      clear hbw
      have hdr : L.drop k = L[k] :: L.drop (k + 1) := List.drop_eq_getElem_cons hlt
      have hxl := HLX.out L[k] (List.getElem_mem _)
      obtain ⟨b1, o1, rfl, hb1, hc1⟩ := HLW.out.str k hlt
      generalize L[k] = y at *
      have HR2 := Lib.hid (show parseG (y :: L.drop (k + 1)) k said x = parseG L 0 0 Bo.zero by rw [← hdr]; exact HR.out)
      clear hdr HR
      have hy4 : (mkS y).size ≤ 4000 := by rw [mkS_size]; omega
      have hke : ∀ wx, wx = wr → True := fun _ _ => trivial
      clear hke
      go_wp2_with fail
      refine (refWords_any (mkS y) _ hy4).mono ?_
      rintro e w1 ⟨v, rfl, hown, hb⟩
      obtain ⟨A1, c1, rfl, hn1, hv1⟩ := Vs.of_own hown
      rw [mkS_data] at hv1 hn1
      rw [mkS_data]
      have HV1 := Lib.hid hv1
      have HBW1 := Lib.hid (HBW.out.grow hb)
      have hbl1 : b < w1.heap.size := Nat.lt_of_lt_of_le hbl hb.size
      have hw40 : ∀ z ∈ wordsL y, z.length ≤ 4000 := fun z hz => by
        unfold wordsL at hz
        split at hz
        · simp at hz
        · have := wordsG_size _ _ z hz; simp at this; omega
      have hwn : (wordsL y).length ≤ 4001 := by
        unfold wordsL; split
        · simp
        · have := wordsG_len y []; omega
      have HW40 := Lib.hid hw40
      clear hown hb hv1 hw40 HBW hc1 hb1 HLW hbl
      by_cases hw0 : wordsL y = []
      · rw [hw0]
        have HR3 := Lib.hid (show parseG (L.drop (k + 1)) (k + 1) said x = parseG L 0 0 Bo.zero by rw [← HR2.out, parseG, if_pos hw0])
        clear hw0 HR2 HV1 hn1 hwn HW40
        go_wp2
        exact ⟨⟨k + 1, said, x, B, q, c', by omega, by omega, rfl, by go_num, HBW1.out, by omega, HR3⟩, by simp [intOf]; omega⟩
      · have hnz : (wordsL y).length ≠ 0 := fun e => hw0 (List.eq_nil_of_length_eq_zero e)
        have hnz1 : (((wordsL y).length : Int) == 0) = false := by rw [beq_eq_false_iff_ne]; omega
        have HRN : Hid (rowL (wordL said) (cntL said) (wordsL y) = none → parseG L 0 0 Bo.zero = .bad (k + 1)) := Lib.hid fun e => by rw [← HR2.out, parseG, if_neg hw0, e]
        have HRY : Hid (∀ l, rowL (wordL said) (cntL said) (wordsL y) = some l → parseG (L.drop (k + 1)) (k + 1) (said + 1) (stepB said x l) = parseG L 0 0 Bo.zero) := Lib.hid fun l e => by rw [← HR2.out, parseG, if_neg hw0, e]
        have HBAD : Hid (rowL (wordL said) (cntL said) (wordsL y) = none → textE s.data.toList = 5 ∧ textN s.data.toList = ((k + 1 : Nat) : Int) ∧ bookT s.data.toList = Bo.zero) := Lib.hid fun e => text_bad HL.out (by rw [HRG.out, HRN.out e])
        obtain ⟨y0, ws, hyw⟩ : ∃ y0 ws, wordsL y = y0 :: ws := by cases h : wordsL y with
          | nil => exact absurd h hw0
          | cons a r => exact ⟨a, r, rfl⟩
        rw [hyw] at HV1 hn1 hwn HW40 hnz hnz1 HRN HRY HBAD ⊢
        clear hw0 HR2 hyw
        obtain ⟨g1, p1, rfl, hg1, hy0⟩ := HV1.out.str 0 (by simp)
        rw [Nat.add_zero, List.getElem_cons_zero] at hy0
        have HVT := Lib.hid (HV1.out.drop (k := 1) (by simp) (some ⟨g1, p1 + 1, none⟩) (fun b' o' e _ => by cases e; rfl))
        have HVT2 : Hid (Vs w1 (some ⟨g1, p1 + 1, none⟩) ws.length (strs ws)) := Lib.hid (by have := HVT.out; simpa [strs] using this)
        have HWT : Hid (∀ z ∈ ws, z.length ≤ 4000) := Lib.hid fun z hz => HW40.out z (List.mem_cons_of_mem _ hz)
        simp only [List.length_cons] at hn1 hwn hnz1 ⊢
        clear HV1 HVT HW40 hnz
        have HVn : Hid (ws.length = 0 → Vs w1 none 0 (strs ws)) := Lib.hid fun h => by
          obtain rfl := List.eq_nil_of_length_eq_zero h
          exact ⟨rfl, by omega, fun k hk => by simp [strs] at hk⟩
        have HWS := Lib.hid (show ∀ wd n, rowL wd n (y0 :: ws) = if ws.length + 1 = n + 1 ∧ y0 = wd then numsW ws else none from fun wd n => by unfold rowL; simp)
        go_wp2_with fail
        all_goals
          refine (refNumbers_any _ ws.length _ ws w1 (by first | exact HVT2.out | exact (by have h0 : ws.length = 0 := (by omega); obtain rfl := List.eq_nil_of_length_eq_zero h0; exact ⟨rfl, by simp, fun k hk => by simp [strs] at hk⟩)) (by omega) HWT.out).mono ?_
          rintro e w2 (⟨l, v, hr, rfl, hown, hb⟩ | ⟨hr, rfl, hb⟩)
          · have hnl := numsW_len hr
            have HLN := Lib.hid hnl
            obtain ⟨A2, c2, rfl, hn2, hv2⟩ := Vs.of_own hown
            have HV2 := Lib.hid hv2
            have HBW2 := Lib.hid (HBW1.out.grow hb)
            have hy2 := (hb.cell (p := ⟨g1, p1, none⟩) hg1).trans hy0
            have hg2 : g1 < w2.heap.size := Nat.lt_of_lt_of_le hg1 hb.size
            have HR5 := Lib.hid hr
            clear hr hown hv2 hb hn2 hnl HVT2 HVn HWT HBW1
            by_cases hs0 : said = 0
            · subst hs0
              rw [show wordL 0 = wearL from rfl, show cntL 0 = 5 from rfl] at HRY HBAD
              by_cases hwd : y0 = wearL
              · have heq : (mkS y0).toList = [119, 101, 97, 114] := by rw [Lib.toList_data, mkS_data]; exact hwd
                have HWD := Lib.hid hwd
                clear hwd
                by_cases hl5 : l.length = 5
                · have HOK := Lib.hid (HRY.out l (by rw [HWS.out, if_pos ⟨by rw [← HLN.out, hl5], HWD.out⟩]; exact HR5.out))
                  have he5 : ((l.length : Int) == 5) = true := by rw [hl5]; rfl
                  obtain ⟨a0, a1, a2, a3, a4, rfl⟩ := len5 hl5
                  obtain ⟨g3, o3, rfl, hg3, hsrc⟩ := HV2.out.src (by simp)
                  have hc0 := hsrc 0 _ rfl; rw [Addr.add_lit] at hc0
                  have hc1 := hsrc 1 _ rfl; rw [Addr.add_lit] at hc1
                  have hc2 := hsrc 2 _ rfl; rw [Addr.add_lit] at hc2
                  have hc3 := hsrc 3 _ rfl; rw [Addr.add_lit] at hc3
                  have hc4 := hsrc 4 _ rfl; rw [Addr.add_lit] at hc4
                  rw [Nat.add_zero] at hc0
                  clear hsrc hl5
                  go_wp2
                  refine wp_region_grow_tail 17 (by kernel_rfl) (by kernel_rfl) ?_
                  simp only [List.take_succ_cons, List.take_zero, List.drop_succ_cons, List.drop_zero]
                  repeat (go_big_quiet_step ((fail)))
                  refine wpQuiet_nil ?_
                  intro z
                  have HBW3 := Lib.hid (HBW2.out.grow (grow_below w2 z))
                  have hx0 := HBW3.out.get 0; have hx1 := HBW3.out.get 1; have hx2 := HBW3.out.get 2; have hx3 := HBW3.out.get 3; have hx4 := HBW3.out.get 4
                  have hf0 := HBW3.out.fr 0; have hf1 := HBW3.out.fr 1; have hf2 := HBW3.out.fr 2; have hf3 := HBW3.out.fr 3; have hf4 := HBW3.out.fr 4
                  have hbl3 := HBW3.out.lt
                  generalize grow w2 z = w3 at *
                  simp at hx0 hx1 hx2 hx3 hx4
                  go_wp2
                  have HBW4 := Lib.hid (HBW3.out.set5 a0 a1 a2 a3 a4)
                  generalize World.setCell _ ⟨b, 4, none⟩ _ = w4 at HBW4 ⊢
                  exact ⟨⟨k + 1, 1, _, B, q, c', by omega, by omega, rfl, by go_num, HBW4.out, by omega, HOK⟩, by simp [intOf]; omega⟩
                · have he5 : ((l.length : Int) == 5) = false := by rw [beq_eq_false_iff_ne]; omega
                  have HE5 := Lib.hid hl5
                  clear hl5
                  have HBD := Lib.hid (HBAD.out (by rw [HWS.out]; rw [if_neg]; rintro ⟨h1, _⟩; apply HE5.out; rw [HLN.out]; omega))
                  have HRB := Lib.hid ((HBW2.out.gr.block w.heap.size hRX (by intro e; cases e; omega)).trans HRS.out)
                  go_upto_region 12 with fail
                  refine wp_region_lit ?_
                  iterate 10 go_step
                  refine wp_store_row 26 _ _ rfl w.heap.size _ rfl rfl 26 _ HRB.out (by kernel_rfl) rfl (by simp [Value.oneCell']) ?_
                  obtain ⟨U, hU, hp, _, _, hbu⟩ := res7r HRB.out (.int .i64 0) (.int .i64 0) (.int .i64 0) (.int .i64 0) (.int .i64 0) (.int .i64 0) (.slice none 0 0)
                  rw [hU]
                  clear hU
                  repeat go_step
                  have p0 := hp 0; have p1 := hp 1; have p2 := hp 2; have p3 := hp 3; have p4 := hp 4; have p5 := hp 5; have p6 := hp 6
                  simp at p0 p1 p2 p3 p4 p5 p6
                  refine bodyPost_ret (v := .tuple #[.agg #[.int .i64 0, .int .i64 0, .int .i64 0, .int .i64 0, .int .i64 0, .int .i64 0, .slice none 0 0], .int .i64 ((k : Int) + 1), .int .i64 5]) (by simp [results, Tryz.results7, go_sem, p0, p1, p2, p3, p4, p5, p6]) rfl ?_
                  obtain ⟨e1, e2, e3⟩ := HBD.out
                  refine ⟨none, 0, 0, ?_, ?_, Nat.le_refl _, hbu (gr_fin HB0.out hXb HBW2.out.gr) (Nat.le_refl _)⟩
                  · rw [e1, e2, e3]; first | rfl | (rw [← nat_succ]; rfl)
                  · rw [e3]; exact gs_none _
              · have heq : ¬ (mkS y0).toList = [119, 101, 97, 114] := by rw [Lib.toList_data, mkS_data]; exact hwd
                have HWD := Lib.hid hwd
                clear hwd
                have HBD := Lib.hid (HBAD.out (by rw [HWS.out]; rw [if_neg]; rintro ⟨_, h1⟩; exact HWD.out h1))
                have HRB := Lib.hid ((HBW2.out.gr.block w.heap.size hRX (by intro e; cases e; omega)).trans HRS.out)
                go_upto_region 12 with fail
                refine wp_region_lit ?_
                iterate 10 go_step
                refine wp_store_row 26 _ _ rfl w.heap.size _ rfl rfl 26 _ HRB.out (by kernel_rfl) rfl (by simp [Value.oneCell']) ?_
                obtain ⟨U, hU, hp, _, _, hbu⟩ := res7r HRB.out (.int .i64 0) (.int .i64 0) (.int .i64 0) (.int .i64 0) (.int .i64 0) (.int .i64 0) (.slice none 0 0)
                rw [hU]
                clear hU
                repeat go_step
                have p0 := hp 0; have p1 := hp 1; have p2 := hp 2; have p3 := hp 3; have p4 := hp 4; have p5 := hp 5; have p6 := hp 6
                simp at p0 p1 p2 p3 p4 p5 p6
                refine bodyPost_ret (v := .tuple #[.agg #[.int .i64 0, .int .i64 0, .int .i64 0, .int .i64 0, .int .i64 0, .int .i64 0, .slice none 0 0], .int .i64 ((k : Int) + 1), .int .i64 5]) (by simp [results, Tryz.results7, go_sem, p0, p1, p2, p3, p4, p5, p6]) rfl ?_
                obtain ⟨e1, e2, e3⟩ := HBD.out
                refine ⟨none, 0, 0, ?_, ?_, Nat.le_refl _, hbu (gr_fin HB0.out hXb HBW2.out.gr) (Nat.le_refl _)⟩
                · rw [e1, e2, e3]; first | rfl | (rw [← nat_succ]; rfl)
                · rw [e3]; exact gs_none _
            · by_cases hs1 : said = 1
              · subst hs1
                rw [show wordL 1 = falseL from rfl, show cntL 1 = 1 from rfl] at HRY HBAD
                clear hs0
                by_cases hwd : y0 = falseL
                · have heq : (mkS y0).toList = [102, 97, 108, 115, 101] := by rw [Lib.toList_data, mkS_data]; exact hwd
                  have HWD := Lib.hid hwd
                  clear hwd
                  by_cases hl5 : l.length = 1
                  · have HOK := Lib.hid (HRY.out l (by rw [HWS.out, if_pos ⟨by rw [← HLN.out, hl5], HWD.out⟩]; exact HR5.out))
                    have he5 : ((l.length : Int) == 1) = true := by rw [hl5]; rfl
                    obtain ⟨a0, rfl⟩ := len1 hl5
                    obtain ⟨g3, o3, rfl, hg3, hsrc⟩ := HV2.out.src (by simp)
                    have hc0 := hsrc 0 _ rfl; rw [Addr.add_lit] at hc0
                    rw [Nat.add_zero] at hc0
                    clear hsrc hl5
                    have hx5 := HBW2.out.get 5; have hf5 := HBW2.out.fr 5; have hbl2 := HBW2.out.lt
                    simp at hx5
                    go_wp2
                    have HBW3 := Lib.hid (HBW2.out.setF a0)
                    generalize World.setCell w2 _ _ = w3 at *
                    exact ⟨⟨k + 1, 2, _, B, q, c', by omega, by omega, rfl, by go_num, HBW3.out, by omega, HOK⟩, by simp [intOf]; omega⟩
                  · have he5 : ((l.length : Int) == 1) = false := by rw [beq_eq_false_iff_ne]; omega
                    have HE5 := Lib.hid hl5
                    clear hl5
                    have HBD := Lib.hid (HBAD.out (by rw [HWS.out]; rw [if_neg]; rintro ⟨h1, _⟩; apply HE5.out; rw [HLN.out]; omega))
                    have HRB := Lib.hid ((HBW2.out.gr.block w.heap.size hRX (by intro e; cases e; omega)).trans HRS.out)
                    go_upto_region 12 with fail
                    refine wp_region_lit ?_
                    iterate 10 go_step
                    refine wp_store_row 26 _ _ rfl w.heap.size _ rfl rfl 26 _ HRB.out (by kernel_rfl) rfl (by simp [Value.oneCell']) ?_
                    obtain ⟨U, hU, hp, _, _, hbu⟩ := res7r HRB.out (.int .i64 0) (.int .i64 0) (.int .i64 0) (.int .i64 0) (.int .i64 0) (.int .i64 0) (.slice none 0 0)
                    rw [hU]
                    clear hU
                    repeat go_step
                    have p0 := hp 0; have p1 := hp 1; have p2 := hp 2; have p3 := hp 3; have p4 := hp 4; have p5 := hp 5; have p6 := hp 6
                    simp at p0 p1 p2 p3 p4 p5 p6
                    refine bodyPost_ret (v := .tuple #[.agg #[.int .i64 0, .int .i64 0, .int .i64 0, .int .i64 0, .int .i64 0, .int .i64 0, .slice none 0 0], .int .i64 ((k : Int) + 1), .int .i64 5]) (by simp [results, Tryz.results7, go_sem, p0, p1, p2, p3, p4, p5, p6]) rfl ?_
                    obtain ⟨e1, e2, e3⟩ := HBD.out
                    refine ⟨none, 0, 0, ?_, ?_, Nat.le_refl _, hbu (gr_fin HB0.out hXb HBW2.out.gr) (Nat.le_refl _)⟩
                    · rw [e1, e2, e3]; first | rfl | (rw [← nat_succ]; rfl)
                    · rw [e3]; exact gs_none _
                · have heq : ¬ (mkS y0).toList = [102, 97, 108, 115, 101] := by rw [Lib.toList_data, mkS_data]; exact hwd
                  have HWD := Lib.hid hwd
                  clear hwd
                  have HBD := Lib.hid (HBAD.out (by rw [HWS.out]; rw [if_neg]; rintro ⟨_, h1⟩; exact HWD.out h1))
                  have HRB := Lib.hid ((HBW2.out.gr.block w.heap.size hRX (by intro e; cases e; omega)).trans HRS.out)
                  go_upto_region 12 with fail
                  refine wp_region_lit ?_
                  iterate 10 go_step
                  refine wp_store_row 26 _ _ rfl w.heap.size _ rfl rfl 26 _ HRB.out (by kernel_rfl) rfl (by simp [Value.oneCell']) ?_
                  obtain ⟨U, hU, hp, _, _, hbu⟩ := res7r HRB.out (.int .i64 0) (.int .i64 0) (.int .i64 0) (.int .i64 0) (.int .i64 0) (.int .i64 0) (.slice none 0 0)
                  rw [hU]
                  clear hU
                  repeat go_step
                  have p0 := hp 0; have p1 := hp 1; have p2 := hp 2; have p3 := hp 3; have p4 := hp 4; have p5 := hp 5; have p6 := hp 6
                  simp at p0 p1 p2 p3 p4 p5 p6
                  refine bodyPost_ret (v := .tuple #[.agg #[.int .i64 0, .int .i64 0, .int .i64 0, .int .i64 0, .int .i64 0, .int .i64 0, .slice none 0 0], .int .i64 ((k : Int) + 1), .int .i64 5]) (by simp [results, Tryz.results7, go_sem, p0, p1, p2, p3, p4, p5, p6]) rfl ?_
                  obtain ⟨e1, e2, e3⟩ := HBD.out
                  refine ⟨none, 0, 0, ?_, ?_, Nat.le_refl _, hbu (gr_fin HB0.out hXb HBW2.out.gr) (Nat.le_refl _)⟩
                  · rw [e1, e2, e3]; first | rfl | (rw [← nat_succ]; rfl)
                  · rw [e3]; exact gs_none _
              · have hw2 : wordL said = markL := by unfold wordL; rw [if_neg hs0, if_neg hs1]
                have hc7 : cntL said = 7 := by unfold cntL; rw [if_neg hs0, if_neg hs1]
                rw [hw2, hc7] at HRY HBAD
                have hd0 : ((said : Int) == 0) = false := by rw [beq_eq_false_iff_ne]; omega
                have hd1 : ((said : Int) == 1) = false := by rw [beq_eq_false_iff_ne]; omega
                have hd2 : decide ((1 : Int) < (said : Int)) = true := by rw [decide_eq_true_eq]; omega
                have HS2 : Hid (∀ l, stepB said x l = { x with gs := x.gs ++ [gOf l] }) := Lib.hid fun l => by unfold stepB; rw [if_neg hs0, if_neg hs1]
                clear hs0 hs1 hw2 hc7
                by_cases hwd : y0 = markL
                · have heq : (mkS y0).toList = [109, 97, 114, 107] := by rw [Lib.toList_data, mkS_data]; exact hwd
                  have HWD := Lib.hid hwd
                  clear hwd
                  by_cases hl5 : l.length = 7
                  · have HOK := Lib.hid (HRY.out l (by rw [HWS.out, if_pos ⟨by rw [← HLN.out, hl5], HWD.out⟩]; exact HR5.out))
                    have he5 : ((l.length : Int) == 7) = true := by rw [hl5]; rfl
                    obtain ⟨a0, a1, a2, a3, a4, a5, a6, rfl⟩ := len7 hl5
                    obtain ⟨g3, o3, rfl, hg3, hsrc⟩ := HV2.out.src (by simp)
                    have hc0 := hsrc 0 _ rfl; rw [Addr.add_lit] at hc0
                    have hc1 := hsrc 1 _ rfl; rw [Addr.add_lit] at hc1
                    have hc2 := hsrc 2 _ rfl; rw [Addr.add_lit] at hc2
                    have hc3 := hsrc 3 _ rfl; rw [Addr.add_lit] at hc3
                    have hc4 := hsrc 4 _ rfl; rw [Addr.add_lit] at hc4
                    have hc5 := hsrc 5 _ rfl; rw [Addr.add_lit] at hc5
                    have hc6 := hsrc 6 _ rfl; rw [Addr.add_lit] at hc6
                    rw [Nat.add_zero] at hc0
                    clear hsrc hl5
                    have hx6 := HBW2.out.get 6
                    simp at hx6
                    have hbl2 := HBW2.out.lt
                    have HQ := Lib.hid HBW2.out.len
                    go_wp2
                    refine wp_region_takes 26 25 [0,1,2,3,4,5,6,7,8,9,10,11,12,13,14,15,16,17,18,19,20,21,22,23,24] _ (by kernel_rfl) (by kernel_rfl) (by kernel_rfl) (by kernel_rfl) (by decide) (by decide) (fun d _ _ _ _ h => by cases d <;> exact h) (by kernel_rfl) rfl rfl (by kernel_rfl) (by kernel_rfl) (by kernel_rfl) rfl (makes_slice Tryz.underlying24 HI.out HZ0.out rfl (by rw [HZ1.out]; decide)) ?_
                    refine wpTakes_step (v := ?_) rfl (by rfl) ?_ ?_
                    rotate_left
                    · (rintro _ ⟨z9, rfl⟩; go_simp; try (with_reducible rfl))
                    simp only [Act.put, List.setIfInBounds_toArray, List.set_cons_zero, List.set_cons_succ]
                    refine wpTakes_step (v := ?_) rfl (by rfl) ?_ ?_
                    rotate_left
                    · (rintro _ ⟨z9, rfl⟩; go_simp; try (with_reducible rfl))
                    simp only [Act.put, List.setIfInBounds_toArray, List.set_cons_zero, List.set_cons_succ]
                    refine wpTakes_step (v := ?_) rfl (by rfl) ?_ ?_
                    rotate_left
                    · (rintro _ ⟨z9, rfl⟩; go_simp; try (with_reducible rfl))
                    simp only [Act.put, List.setIfInBounds_toArray, List.set_cons_zero, List.set_cons_succ]
                    refine wpTakes_step (v := ?_) rfl (by rfl) ?_ ?_
                    rotate_left
                    · (rintro _ ⟨z9, rfl⟩; go_simp; try (with_reducible rfl))
                    simp only [Act.put, List.setIfInBounds_toArray, List.set_cons_zero, List.set_cons_succ]
                    refine wpTakes_step (v := ?_) rfl (by rfl) ?_ ?_
                    rotate_left
                    · (rintro _ ⟨z9, rfl⟩; go_simp; try (with_reducible rfl))
                    simp only [Act.put, List.setIfInBounds_toArray, List.set_cons_zero, List.set_cons_succ]
                    refine wpTakes_step (v := ?_) rfl (by rfl) ?_ ?_
                    rotate_left
                    · (rintro _ ⟨z9, rfl⟩; go_simp; try (with_reducible rfl))
                    simp only [Act.put, List.setIfInBounds_toArray, List.set_cons_zero, List.set_cons_succ]
                    refine wpTakes_step (v := ?_) rfl (by rfl) ?_ ?_
                    rotate_left
                    · (rintro _ ⟨z9, rfl⟩; go_simp; try (with_reducible rfl))
                    simp only [Act.put, List.setIfInBounds_toArray, List.set_cons_zero, List.set_cons_succ]
                    refine wpTakes_step (v := ?_) rfl (by rfl) ?_ ?_
                    rotate_left
                    · (rintro _ ⟨z9, rfl⟩; go_simp; try (with_reducible rfl))
                    simp only [Act.put, List.setIfInBounds_toArray, List.set_cons_zero, List.set_cons_succ]
                    refine wpTakes_step (v := ?_) rfl (by rfl) ?_ ?_
                    rotate_left
                    · (rintro _ ⟨z9, rfl⟩; go_simp; try (with_reducible rfl))
                    simp only [Act.put, List.setIfInBounds_toArray, List.set_cons_zero, List.set_cons_succ]
                    refine wpTakes_step (v := ?_) rfl (by rfl) ?_ ?_
                    rotate_left
                    · (rintro _ ⟨z9, rfl⟩; go_simp; try (with_reducible rfl))
                    simp only [Act.put, List.setIfInBounds_toArray, List.set_cons_zero, List.set_cons_succ]
                    refine wpTakes_step (v := ?_) rfl (by rfl) ?_ ?_
                    rotate_left
                    · (rintro _ ⟨z9, rfl⟩; go_simp; try (with_reducible rfl))
                    simp only [Act.put, List.setIfInBounds_toArray, List.set_cons_zero, List.set_cons_succ]
                    refine wpTakes_step (v := ?_) rfl (by rfl) ?_ ?_
                    rotate_left
                    · (rintro _ ⟨z9, rfl⟩; go_simp; try (with_reducible rfl))
                    simp only [Act.put, List.setIfInBounds_toArray, List.set_cons_zero, List.set_cons_succ]
                    refine wpTakes_step (v := ?_) rfl (by rfl) ?_ ?_
                    rotate_left
                    · (rintro _ ⟨z9, rfl⟩; go_simp; try (with_reducible rfl))
                    simp only [Act.put, List.setIfInBounds_toArray, List.set_cons_zero, List.set_cons_succ]
                    refine wpTakes_step (v := ?_) rfl (by rfl) ?_ ?_
                    rotate_left
                    · (rintro _ ⟨z9, rfl⟩; go_simp; try (with_reducible rfl))
                    simp only [Act.put, List.setIfInBounds_toArray, List.set_cons_zero, List.set_cons_succ]
                    refine wpTakes_step (v := ?_) rfl (by rfl) ?_ ?_
                    rotate_left
                    · (rintro _ ⟨z9, rfl⟩; go_simp; try (with_reducible rfl))
                    simp only [Act.put, List.setIfInBounds_toArray, List.set_cons_zero, List.set_cons_succ]
                    refine wpTakes_step (v := ?_) rfl (by rfl) ?_ ?_
                    rotate_left
                    · (rintro _ ⟨z9, rfl⟩; go_simp; try (with_reducible rfl))
                    simp only [Act.put, List.setIfInBounds_toArray, List.set_cons_zero, List.set_cons_succ]
                    refine wpTakes_step (v := ?_) rfl (by rfl) ?_ ?_
                    rotate_left
                    · (rintro _ ⟨z9, rfl⟩; go_simp; try (with_reducible rfl))
                    simp only [Act.put, List.setIfInBounds_toArray, List.set_cons_zero, List.set_cons_succ]
                    refine wpTakes_step (v := ?_) rfl (by rfl) ?_ ?_
                    rotate_left
                    · (rintro _ ⟨z9, rfl⟩; go_simp; try (with_reducible rfl))
                    simp only [Act.put, List.setIfInBounds_toArray, List.set_cons_zero, List.set_cons_succ]
                    refine wpTakes_step (v := ?_) rfl (by rfl) ?_ ?_
                    rotate_left
                    · (rintro _ ⟨z9, rfl⟩; go_simp; try (with_reducible rfl))
                    simp only [Act.put, List.setIfInBounds_toArray, List.set_cons_zero, List.set_cons_succ]
                    refine wpTakes_step (v := ?_) rfl (by rfl) ?_ ?_
                    rotate_left
                    · (rintro _ ⟨z9, rfl⟩; go_simp; try (with_reducible rfl))
                    simp only [Act.put, List.setIfInBounds_toArray, List.set_cons_zero, List.set_cons_succ]
                    refine wpTakes_step (v := ?_) rfl (by rfl) ?_ ?_
                    rotate_left
                    · (rintro _ ⟨z9, rfl⟩; go_simp; try (with_reducible rfl))
                    simp only [Act.put, List.setIfInBounds_toArray, List.set_cons_zero, List.set_cons_succ]
                    refine wpTakes_step (v := ?_) rfl (by rfl) ?_ ?_
                    rotate_left
                    · (rintro _ ⟨z9, rfl⟩; go_simp; try (with_reducible rfl))
                    simp only [Act.put, List.setIfInBounds_toArray, List.set_cons_zero, List.set_cons_succ]
                    refine wpTakes_step (v := ?_) rfl (by rfl) ?_ ?_
                    rotate_left
                    · (rintro _ ⟨z9, rfl⟩; go_simp; try (with_reducible rfl))
                    simp only [Act.put, List.setIfInBounds_toArray, List.set_cons_zero, List.set_cons_succ]
                    refine wpTakes_step (v := ?_) rfl (by rfl) ?_ ?_
                    rotate_left
                    · (rintro _ ⟨z9, rfl⟩; go_simp; try (with_reducible rfl))
                    simp only [Act.put, List.setIfInBounds_toArray, List.set_cons_zero, List.set_cons_succ]
                    refine wpTakes_step (v := ?_) rfl (by rfl) ?_ ?_
                    rotate_left
                    · (rintro _ ⟨z9, rfl⟩; go_simp; try (with_reducible rfl))
                    simp only [Act.put, List.setIfInBounds_toArray, List.set_cons_zero, List.set_cons_succ]
                    simp only [wpTakes, List.drop_succ_cons, List.drop_zero]
                    go_wp2_with (at_builtin; refine wpList_append_own _ rfl _ _ 24 rfl X.heap.size 41 i0 (.agg #[.int .i64 0, .int .i64 0, .int .i64 0, .int .i64 0, .int .i64 0, .int .i64 0, .int .i64 0]) 7 56 Tryz.underlying24 HI.out HZ0.out HZ1.out HZ2.out rfl (by decide) _ _ _ rfl (own_keep HBW2.out.own (by go_grown)) ⟨w2.heap.size, 0, none⟩ 1 1 [.int .i64 a0, .int .i64 a1, .int .i64 a2, .int .i64 a3, .int .i64 a4, .int .i64 a5, .int .i64 a6] rfl rfl ?c1 ?c2 ?c3 ?c4 ?c5 ?_)
                    case c1 => intro j u hu; rw [Addr.add_lit, Nat.zero_add]; simpa [go_sem] using hu
                    case c2 => intro u hu; simp at hu; rcases hu with rfl | rfl | rfl | rfl | rfl | rfl | rfl <;> rfl
                    case c3 => unfold maxLen; omega
                    case c4 => omega
                    case c5 => have := HBW2.out.gr.size; simp; omega
                    intro v' w4 hown' hgr _
                    obtain ⟨B5, c5, rfl⟩ := own_slice hown'
                    have hown5 : w4.ownsRow X.heap.size 41 7 (.slice B5 (q + 1) c5) (q + 1) (gcells (x.gs ++ [gOf [a0, a1, a2, a3, a4, a5, a6]])) := by rw [hXs, gcells_snoc]; exact hown'
                    have HBN := Lib.hid (HBW2.out.next (by go_grown) hgr _ hown5)
                    obtain ⟨hap, haf⟩ := HBW2.out.app (by go_grown) hgr
                    have hx6' := (hap 6).trans hx6
                    have hf6 := haf 6
                    have hsz4 : b < w4.heap.size := Nat.lt_of_lt_of_le hbl2 (Nat.le_trans (by simp) hgr.size)
                    clear hown' hown5 hgr hap haf hx6
                    go_wp2
                    generalize World.setCell w4 _ _ = w5 at *
                    exact ⟨⟨k + 1, said + 1, _, B5, q + 1, c5, by omega, by omega, by go_num, by go_num, HBN.out, by omega, by rw [HS2.out] at HOK; exact HOK⟩, by simp [intOf]; omega⟩
                  · have he5 : ((l.length : Int) == 7) = false := by rw [beq_eq_false_iff_ne]; omega
                    have HE5 := Lib.hid hl5
                    clear hl5
                    have HBD := Lib.hid (HBAD.out (by rw [HWS.out]; rw [if_neg]; rintro ⟨h1, _⟩; apply HE5.out; rw [HLN.out]; omega))
                    have HRB := Lib.hid ((HBW2.out.gr.block w.heap.size hRX (by intro e; cases e; omega)).trans HRS.out)
                    go_upto_region 12 with fail
                    refine wp_region_lit ?_
                    iterate 10 go_step
                    refine wp_store_row 26 _ _ rfl w.heap.size _ rfl rfl 26 _ HRB.out (by kernel_rfl) rfl (by simp [Value.oneCell']) ?_
                    obtain ⟨U, hU, hp, _, _, hbu⟩ := res7r HRB.out (.int .i64 0) (.int .i64 0) (.int .i64 0) (.int .i64 0) (.int .i64 0) (.int .i64 0) (.slice none 0 0)
                    rw [hU]
                    clear hU
                    repeat go_step
                    have p0 := hp 0; have p1 := hp 1; have p2 := hp 2; have p3 := hp 3; have p4 := hp 4; have p5 := hp 5; have p6 := hp 6
                    simp at p0 p1 p2 p3 p4 p5 p6
                    refine bodyPost_ret (v := .tuple #[.agg #[.int .i64 0, .int .i64 0, .int .i64 0, .int .i64 0, .int .i64 0, .int .i64 0, .slice none 0 0], .int .i64 ((k : Int) + 1), .int .i64 5]) (by simp [results, Tryz.results7, go_sem, p0, p1, p2, p3, p4, p5, p6]) rfl ?_
                    obtain ⟨e1, e2, e3⟩ := HBD.out
                    refine ⟨none, 0, 0, ?_, ?_, Nat.le_refl _, hbu (gr_fin HB0.out hXb HBW2.out.gr) (Nat.le_refl _)⟩
                    · rw [e1, e2, e3]; first | rfl | (rw [← nat_succ]; rfl)
                    · rw [e3]; exact gs_none _
                · have heq : ¬ (mkS y0).toList = [109, 97, 114, 107] := by rw [Lib.toList_data, mkS_data]; exact hwd
                  have HWD := Lib.hid hwd
                  clear hwd
                  have HBD := Lib.hid (HBAD.out (by rw [HWS.out]; rw [if_neg]; rintro ⟨_, h1⟩; exact HWD.out h1))
                  have HRB := Lib.hid ((HBW2.out.gr.block w.heap.size hRX (by intro e; cases e; omega)).trans HRS.out)
                  go_upto_region 12 with fail
                  refine wp_region_lit ?_
                  iterate 10 go_step
                  refine wp_store_row 26 _ _ rfl w.heap.size _ rfl rfl 26 _ HRB.out (by kernel_rfl) rfl (by simp [Value.oneCell']) ?_
                  obtain ⟨U, hU, hp, _, _, hbu⟩ := res7r HRB.out (.int .i64 0) (.int .i64 0) (.int .i64 0) (.int .i64 0) (.int .i64 0) (.int .i64 0) (.slice none 0 0)
                  rw [hU]
                  clear hU
                  repeat go_step
                  have p0 := hp 0; have p1 := hp 1; have p2 := hp 2; have p3 := hp 3; have p4 := hp 4; have p5 := hp 5; have p6 := hp 6
                  simp at p0 p1 p2 p3 p4 p5 p6
                  refine bodyPost_ret (v := .tuple #[.agg #[.int .i64 0, .int .i64 0, .int .i64 0, .int .i64 0, .int .i64 0, .int .i64 0, .slice none 0 0], .int .i64 ((k : Int) + 1), .int .i64 5]) (by simp [results, Tryz.results7, go_sem, p0, p1, p2, p3, p4, p5, p6]) rfl ?_
                  obtain ⟨e1, e2, e3⟩ := HBD.out
                  refine ⟨none, 0, 0, ?_, ?_, Nat.le_refl _, hbu (gr_fin HB0.out hXb HBW2.out.gr) (Nat.le_refl _)⟩
                  · rw [e1, e2, e3]; first | rfl | (rw [← nat_succ]; rfl)
                  · rw [e3]; exact gs_none _
          · have HR5 := Lib.hid hr
            have HBW2 := Lib.hid (HBW1.out.grow hb)
            clear hr hb HVT2 HVn HWT HBW1
            have HBD := Lib.hid (HBAD.out (by rw [HWS.out]; split; exact HR5.out; rfl))
            have HRB := Lib.hid ((HBW2.out.gr.block w.heap.size hRX (by intro e; cases e; omega)).trans HRS.out)
            go_upto_region 12 with fail
            refine wp_region_lit ?_
            iterate 10 go_step
            refine wp_store_row 26 _ _ rfl w.heap.size _ rfl rfl 26 _ HRB.out (by kernel_rfl) rfl (by simp [Value.oneCell']) ?_
            obtain ⟨U, hU, hp, _, _, hbu⟩ := res7r HRB.out (.int .i64 0) (.int .i64 0) (.int .i64 0) (.int .i64 0) (.int .i64 0) (.int .i64 0) (.slice none 0 0)
            rw [hU]
            clear hU
            repeat go_step
            have p0 := hp 0; have p1 := hp 1; have p2 := hp 2; have p3 := hp 3; have p4 := hp 4; have p5 := hp 5; have p6 := hp 6
            simp at p0 p1 p2 p3 p4 p5 p6
            refine bodyPost_ret (v := .tuple #[.agg #[.int .i64 0, .int .i64 0, .int .i64 0, .int .i64 0, .int .i64 0, .int .i64 0, .slice none 0 0], .int .i64 ((k : Int) + 1), .int .i64 5]) (by simp [results, Tryz.results7, go_sem, p0, p1, p2, p3, p4, p5, p6]) rfl ?_
            obtain ⟨e1, e2, e3⟩ := HBD.out
            refine ⟨none, 0, 0, ?_, ?_, Nat.le_refl _, hbu (gr_fin HB0.out hXb HBW2.out.gr) (Nat.le_refl _)⟩
            · rw [e1, e2, e3]; first | rfl | (rw [← nat_succ]; rfl)
            · rw [e3]; exact gs_none _
    · obtain rfl : k = L.length := by omega
      clear hbw
      rw [List.drop_length] at HR
      have HRF := Lib.hid (show parseG L 0 0 Bo.zero = .done said x from HR.out.symm)
      clear HR
      by_cases hs2 : said < 2
      · have hc2 : decide ((said : Int) < 2) = true := by rw [decide_eq_true_eq]; omega
        have HBD := Lib.hid (text_bad (i := L.length + 1) HL.out (by rw [HRG.out, HRF.out]; simp [hs2]))
        have HRB := Lib.hid ((HBW.out.gr.block w.heap.size hRX (by intro e; cases e; omega)).trans HRS.out)
        go_upto_region 21 with fail
        refine wp_region_lit ?_
        iterate 13 go_step
        refine wp_store_row 26 _ _ rfl w.heap.size _ rfl rfl 26 _ HRB.out (by kernel_rfl) rfl (by simp [Value.oneCell']) ?_
        obtain ⟨U, hU, hp, _, _, hbu⟩ := res7r HRB.out (.int .i64 0) (.int .i64 0) (.int .i64 0) (.int .i64 0) (.int .i64 0) (.int .i64 0) (.slice none 0 0)
        rw [hU]
        clear hU
        repeat go_step
        have p0 := hp 0; have p1 := hp 1; have p2 := hp 2; have p3 := hp 3; have p4 := hp 4; have p5 := hp 5; have p6 := hp 6
        simp at p0 p1 p2 p3 p4 p5 p6
        refine bodyPost_ret (v := .tuple #[.agg #[.int .i64 0, .int .i64 0, .int .i64 0, .int .i64 0, .int .i64 0, .int .i64 0, .slice none 0 0], .int .i64 ((L.length : Int) + 1), .int .i64 5]) (by simp [results, Tryz.results7, go_sem, p0, p1, p2, p3, p4, p5, p6]) rfl ?_
        obtain ⟨e1, e2, e3⟩ := HBD.out
        refine ⟨none, 0, 0, ?_, ?_, Nat.le_refl _, hbu (gr_fin HB0.out hXb HBW.out.gr) (Nat.le_refl _)⟩
        · rw [e1, e2, e3]; first | rfl | (rw [← nat_succ]; rfl)
        · rw [e3]; exact gs_none _
      · have hc2 : decide ((said : Int) < 2) = false := by rw [decide_eq_false_iff_not]; omega
        have HDN := Lib.hid (show readG s.data.toList = .done said x by rw [HRG.out, HRF.out]; simp [hs2])
        have hcm := HBW.out.get
        have HGX : Hid (Gs wr B q x.gs ∧ q ≤ c' ∧ ∀ p, B = some p → X.heap.size ≤ p.block) := Lib.hid (by
          obtain ⟨A9, c9, e9, hc9, hl9, hg9⟩ := Gs.of_own HBW.out.own
          cases e9
          exact ⟨hg9 (by omega), hc9, fun p hp => (HBW.out.own.lt p.block (by rw [hp]; rfl)).1⟩)
        cases hok : okB x.w0 x.w1 x.w2 x.w3 x.w4 x.F x.gs
        · have HBD := Lib.hid (text_no HL.out HDN.out hok)
          have HOK := Lib.hid hok
          clear hok
          go_upto_region 23 with (go_at_call 12; refine (refCheck_no x.w0 x.w1 x.w2 x.w3 x.w4 x.F B q c' x.gs _ HGX.out.1 HOK.out).mono ?_; rintro e w2 ⟨rfl, hb2⟩; have HBW2 := Lib.hid (HBW.out.grow hb2); clear hb2 hcm)
          have HRB := Lib.hid ((HBW2.out.gr.block w.heap.size hRX (by intro e; cases e; omega)).trans HRS.out)
          refine wp_region_lit ?_
          iterate 4 go_step
          refine wp_store_row 26 _ _ rfl w.heap.size _ rfl rfl 26 _ HRB.out (by kernel_rfl) rfl (by simp [Value.oneCell']) ?_
          obtain ⟨U, hU, hp, _, _, hbu⟩ := res7r HRB.out (.int .i64 0) (.int .i64 0) (.int .i64 0) (.int .i64 0) (.int .i64 0) (.int .i64 0) (.slice none 0 0)
          rw [hU]
          clear hU
          repeat go_step
          have p0 := hp 0; have p1 := hp 1; have p2 := hp 2; have p3 := hp 3; have p4 := hp 4; have p5 := hp 5; have p6 := hp 6
          simp at p0 p1 p2 p3 p4 p5 p6
          refine bodyPost_ret (v := .tuple #[.agg #[.int .i64 0, .int .i64 0, .int .i64 0, .int .i64 0, .int .i64 0, .int .i64 0, .slice none 0 0], .int .i64 (0), .int .i64 13]) (by simp [results, Tryz.results7, go_sem, p0, p1, p2, p3, p4, p5, p6]) rfl ?_
          obtain ⟨e1, e2, e3⟩ := HBD.out
          refine ⟨none, 0, 0, ?_, ?_, Nat.le_refl _, hbu (gr_fin HB0.out hXb HBW2.out.gr) (Nat.le_refl _)⟩
          · rw [e1, e2, e3]; first | rfl | (rw [← nat_succ]; rfl)
          · rw [e3]; exact gs_none _
        · have HBD := Lib.hid (text_ok HL.out HDN.out hok)
          have HOK := Lib.hid hok
          clear hok
          go_upto_region 24 with (go_at_call 12; refine (refCheck_yes x.w0 x.w1 x.w2 x.w3 x.w4 x.F B q c' x.gs _ HGX.out.1 HOK.out).mono ?_; rintro e w2 ⟨rfl, hb2⟩; have HBW2 := Lib.hid (HBW.out.grow hb2); have HG2 := Lib.hid (HGX.out.1.keep hb2); have hcm2 := HBW2.out.get; have hbl2 := HBW2.out.lt; clear hb2 hcm)
          have HRB := Lib.hid ((HBW2.out.gr.block w.heap.size hRX (by intro e; cases e; omega)).trans HRS.out)
          refine wp_region_lit ?_
          iterate 4 go_step
          refine wp_store_row 26 _ _ rfl w.heap.size #[.int .i64 x.w0, .int .i64 x.w1, .int .i64 x.w2, .int .i64 x.w3, .int .i64 x.w4, .int .i64 x.F, .slice B q c'] rfl rfl 26 _ HRB.out (by kernel_rfl) rfl (by simp [Value.oneCell']) ?_
          obtain ⟨U, hU, hp, ho, hsz, hbu⟩ := res7r HRB.out (.int .i64 x.w0) (.int .i64 x.w1) (.int .i64 x.w2) (.int .i64 x.w3) (.int .i64 x.w4) (.int .i64 x.F) (.slice B q c')
          rw [hU]
          clear hU
          repeat go_step
          have p0 := hp 0; have p1 := hp 1; have p2 := hp 2; have p3 := hp 3; have p4 := hp 4; have p5 := hp 5; have p6 := hp 6
          simp at p0 p1 p2 p3 p4 p5 p6
          refine bodyPost_ret (v := .tuple #[.agg #[.int .i64 x.w0, .int .i64 x.w1, .int .i64 x.w2, .int .i64 x.w3, .int .i64 x.w4, .int .i64 x.F, .slice B q c'], .int .i64 0, .int .i64 0]) (by simp [results, Tryz.results7, go_sem, p0, p1, p2, p3, p4, p5, p6]) rfl ?_
          obtain ⟨e1, e2, e3⟩ := HBD.out
          refine ⟨B, q, c', ?_, ?_, HGX.out.2.1, hbu (gr_fin HB0.out hXb HBW2.out.gr) (Nat.le_refl _)⟩
          · rw [e1, e2, e3]
          · rw [e3]; exact HG2.out.keepB (by omega) (fun p hp => ho _ (by have := HGX.out.2.2 p hp; omega))
end Go.Proofs.YtfhcofljlkihoaaGreatDoor

