/- Contracts of functions of the program and of the reference, and plain facts: a part of a proof. Own text. -/
import Derived.Test.YtfhcofljlkihoaaGreatDoorJc
import Derived.Test.YtfhcofljlkihoaaGreatDoorShelf
import Derived.WalkLawsBesides
import Derived.Laws.CopyOwn
set_option linter.unusedVariables false
set_option linter.unusedSimpArgs false
set_option linter.unusedSectionVars false
namespace Go.Proofs.YtfhcofljlkihoaaGreatDoor
open Go Go.RowKit
set_option maxHeartbeats 400000
set_option maxRecDepth 100000

/-- The library's variables hold something. -/
structure Vok (w : World) : Prop where
  m : ∃ m, w.cell? ⟨1, 0, none⟩ = some (.int .i64 m)
  s : ∃ v, w.cell? ⟨2, 0, none⟩ = some v ∧ (v = .nilIface ∨ ∃ te pe, v = .iface te pe)
  r : ∃ v, w.cell? ⟨3, 0, none⟩ = some v ∧ (v = .nilIface ∨ ∃ te pe, v = .iface te pe)
theorem Vok.keep {w w' : World} (h : Vok w) (hb : Below w.heap.size w w') : Vok w' := by
  have lt : ∀ (b : Nat) (v : Value), w.cell? ⟨b, 0, none⟩ = some v → w'.cell? ⟨b, 0, none⟩ = some v := fun b v hv =>
    (hb.cell (p := ⟨b, 0, none⟩) (World.block_lt_of_cell? w _ hv)).trans hv
  obtain ⟨⟨m, hm⟩, ⟨s, hs, hs2⟩, ⟨r, hr, hr2⟩⟩ := h
  exact ⟨⟨m, lt _ _ hm⟩, ⟨s, lt _ _ hs, hs2⟩, ⟨r, lt _ _ hr, hr2⟩⟩

theorem below_bw (w : World) (e : TypeId) (s : ByteArray) : Below w.heap.size w (Lib.bytesWorld w e s) :=
  ⟨rfl, rfl, rfl, by rw [Lib.bytesWorld_size]; omega, fun k hk => Lib.bytesWorld_at_old w e s k hk⟩
theorem streq_yes {a b : ByteArray} (h : a = b) : (a.toList == b.toList) = true := by subst h; exact beq_self_eq_true _
theorem streq_no {a b : ByteArray} (h : a ≠ b) : (a.toList == b.toList) = false := by
  rw [beq_eq_false_iff_ne, Lib.toList_data, Lib.toList_data]
  intro e; apply h
  rw [← mkS_list a, ← mkS_list b, e]
/-- How Atoi ends. -/
def AtoiR (w : World) (s : ByteArray) (e : Ending) (w' : World) : Prop :=
  Below w.heap.size w w' ∧ ((∃ v, Lib.atoiAll s.data.toList = .ok v ∧ e = .returned (.tuple #[.int .i64 v, .nilIface])) ∨
  ((∀ v, Lib.atoiAll s.data.toList ≠ .ok v) ∧ ∃ x t N, e = .returned (.tuple #[.int .i64 x, .iface t (.pointer (some ⟨N, 0, none⟩))])))
theorem atoi_any (s : ByteArray) (w : World) (hs : s.size ≤ 4000) (hv : Vok w) : Calls Tryz.prog 78 #[.string s] w (AtoiR w s) := by
  cases h : Lib.atoiAll s.data.toList with
  | ok v =>
    refine (Tryz.strconv_Atoi_ok s (by omega) v h w).mono ?_
    rintro e w' ⟨rfl, rfl | ⟨t, rfl⟩⟩
    · exact ⟨Below.refl _ _, .inl ⟨v, h, rfl⟩⟩
    · exact ⟨below_bw _ _ _, .inl ⟨v, h, rfl⟩⟩
  | range =>
    obtain ⟨v, hv1, hv2⟩ := hv.r
    refine (Tryz.strconv_Atoi_range s (by omega) h v w hv1 hv2).mono ?_
    rintro e w' ⟨N, rfl, _, _, hb⟩
    exact ⟨hb, .inr ⟨(fun v e => by rw [h] at e; cases e), _, _, _, rfl⟩⟩
  | _ =>
    obtain ⟨v, hv1, hv2⟩ := hv.s
    refine (Any.strconv_Atoi_syntax Tryz.laysC172 s (by omega) h v w hv1 hv2).mono ?_
    rintro e w' ⟨N, rfl, _, _, hb⟩
    exact ⟨hb, .inr ⟨(fun v e => by rw [h] at e; cases e), _, _, _, rfl⟩⟩

theorem atoi_small {l : Bs} {v : Int} (hl : l.length ≤ 2) (h : Lib.atoiAll l = .ok v) : v < 100 := by
  have key : ∀ (m : Bs) (u : Nat), m.length ≤ 2 → Lib.parseMag m = .ok u → u < 100 := by
    intro m u hm hu
    match m, hm with
    | [], _ => simp [Lib.parseMag] at hu
    | [c], _ =>
      simp only [Lib.parseMag, List.cons_ne_nil, if_false, Lib.parseUint10] at hu
      split at hu
      · repeat' split at hu
        all_goals first | (cases hu; done) | (simp at hu; omega)
      · cases hu
    | [c, d], _ =>
      simp only [Lib.parseMag, List.cons_ne_nil, if_false, Lib.parseUint10] at hu
      split at hu
      · repeat' split at hu
        all_goals first | (cases hu; done) | (simp at hu; omega)
      · cases hu
  unfold Lib.atoiAll at h
  split at h
  · cases h
  · rename_i c r
    have hl2 : (if c.toNat = 43 ∨ c.toNat = 45 then r else c :: r).length ≤ 2 := by split <;> simp at hl ⊢ <;> omega
    dsimp only at h
    split at h
    · cases h
    · cases h
    · rename_i u hu
      have := key _ u hl2 hu
      split at h
      · cases h
      · split at h
        · cases h
        · injection h with h; split at h <;> omega

/-- A number of a word, or none. -/
def NumR (w : World) (s : Bs) (e : Ending) (w' : World) : Prop :=
  (∃ k, numW s = some k ∧ e = .returned (.tuple #[.int .i64 k, .bool true]) ∧ Below w.heap.size w w') ∨
  (numW s = none ∧ e = .returned (.tuple #[.int .i64 0, .bool false]) ∧ Below w.heap.size w w')

theorem numberOf_any (s : ByteArray) (w : World) (hs : s.size ≤ 4000) (hv : Vok w) : Calls Tryz.prog 68 #[.string s] w (NumR w s.data.toList) := by
  have HV := Lib.hid hv
  clear hv
  go_enter Tryz.func68, Tryz.ntmps68
  go_wp2_with fail
  refine (atoi_any s _ hs HV.out).mono ?_
  rintro e x1 ⟨hb, ⟨v, ha, rfl⟩ | ⟨hno, x, t, N, rfl⟩⟩
  · have HB := Lib.hid hb
    have HA := Lib.hid ha
    clear hb ha
    by_cases h2 : 2 < s.size
    · have h3 : decide ((2 : Int) < (s.size : Int)) = true := by rw [decide_eq_true_eq]; omega
      clear h2
      go_wp2
      go_ret2
      refine Or.inr ⟨?_, rfl, HB.out⟩
      exact numW_none (by right; rw [decide_eq_true_eq] at h3; omega)
    · have h3 : decide ((2 : Int) < (s.size : Int)) = false := by rw [decide_eq_false_iff_not]; omega
      have hv100 := atoi_small (by rw [← Lib.size_eq]; omega) HA.out
      by_cases hneg : v < 0
      · go_wp2
        go_ret2
        refine Or.inr ⟨?_, rfl, HB.out⟩
        rw [← numP_eq]; unfold numP; rw [HA.out]
        simp only []; rw [if_neg (by omega)]
      · have hpos : 0 ≤ v := by omega
        by_cases heq : numB v = s
        · have HEQ := Lib.hid heq
          have heq1 : ((numB v).toList == s.toList) = true := streq_yes heq
          have hdec : decide (v < 0) = false := by rw [decide_eq_false_iff_not]; omega
          clear heq h2 hneg
          go_wp2_with (go_at_call 32; refine (itoa_any v _ hpos hv100).mono ?_; rintro e w' ⟨rfl, rfl⟩)
          go_ret2
          refine Or.inl ⟨v.toNat, ?_, by rw [Int.toNat_of_nonneg hpos]; rfl, HB.out⟩
          rw [← numP_eq]; unfold numP; rw [HA.out]
          simp only []
          rw [if_pos]
          refine ⟨by rw [← Lib.size_eq]; rw [decide_eq_false_iff_not] at h3; omega, hpos, ?_⟩
          rw [← HEQ.out]; simp [numB]
        · have heq1 : ((numB v).toList == s.toList) = false := streq_no heq
          have HNE := Lib.hid heq
          have hdec : decide (v < 0) = false := by rw [decide_eq_false_iff_not]; omega
          clear heq h2 hneg
          go_wp2_with (go_at_call 32; refine (itoa_any v _ hpos hv100).mono ?_; rintro e w' ⟨rfl, rfl⟩)
          go_ret2
          refine Or.inr ⟨?_, rfl, HB.out⟩
          rw [← numP_eq]; unfold numP; rw [HA.out]
          simp only []
          rw [if_neg]
          rintro ⟨_, _, h9⟩
          apply HNE.out
          unfold numB; rw [h9]
  · have HB := Lib.hid hb
    have HN := Lib.hid hno
    clear hb hno
    go_wp2
    go_ret2
    refine Or.inr ⟨?_, rfl, HB.out⟩
    rw [← numP_eq]; unfold numP
    cases h : Lib.atoiAll s.data.toList with
    | ok v => exact absurd h (HN.out v)
    | range => rfl
    | _ => rfl

theorem own_keep {w w' : World} {base : Nat} {e : TypeId} {size n : Nat} {v : Value} {xs : List Value} (h : w.ownsRow base e size v n xs) (hb : Below w.heap.size w w') : w'.ownsRow base e size v n xs := by
  refine ⟨h.1, ?_⟩
  rcases h.2 with hn | ⟨g, cap, cur, rfl, hb', hg, rest⟩
  · exact .inl hn
  · exact .inr ⟨g, cap, cur, rfl, hb', by rw [hb.block g (Array.getElem?_eq_some_iff.1 hg).1]; exact hg, rest⟩
/-- The numbers of a line, or a panic with its number. -/
def RowR (w : World) (at_ : Int) (wd : Bs) (cnt : Nat) (ws : List Bs) (e : Ending) (w' : World) : Prop :=
  (∃ l v, rowL wd cnt ws = some l ∧ e = .returned v ∧ w'.ownsRow w.heap.size 3 1 v l.length (ints l) ∧ Below w.heap.size w w') ∨
  (rowL wd cnt ws = none ∧ e = .panicked [{ v := .iface 43 (.int .i64 at_), recovered := false }] ∧ Below w.heap.size w w')

set_option maxHeartbeats 1000000 in
theorem numbersOf_any (at_ : Int) (A : Option Addr) (n c : Nat) (ws : List Bs) (wd : Bs) (cnt : Nat) (w : World) (hv : Vs w A n (strs ws)) (hnc : n ≤ c) (h0 : 0 < n) (h40 : n ≤ 5000) (hcnt1 : 1 ≤ cnt) (hcnt : cnt ≤ 10) (hws : ∀ x ∈ ws, x.length ≤ 4000) (hV : Vok w) :
    Calls Tryz.prog 40 #[.int .i64 at_, .slice A n c, .string (mkS wd), .int .i64 cnt] w (RowR w at_ wd cnt ws) := by
  have Hl := Lib.hid hv.wlen
  have HV := Lib.hid hv
  have HW := Lib.hid hws
  have HK := Lib.hid hV
  have hn := hv.small
  obtain ⟨i0, hi, hz0, hz1, hz2⟩ := info_parts info3
  have HI := Lib.hid hi
  have HZ0 := Lib.hid hz0
  have HZ1 := Lib.hid hz1
  have HZ2 := Lib.hid hz2
  have hl0 : 0 < ws.length := by rw [← Hl.out]; exact h0
  obtain ⟨b, o, rfl, hb, hc0⟩ := hv.str 0 hl0
  simp only [Nat.add_zero] at hc0
  clear hi hz0 hz1 hz2 hv hws hV
  have hne0 : ws ≠ [] := by intro e; have := Hl.out; rw [e] at this; simp at this; omega
  have HNE := Lib.hid hne0
  have HHD := Lib.hid (show ws.head? = some ws[0] by rw [List.head?_eq_getElem?, List.getElem?_eq_getElem])
  clear hne0
  generalize ws[0] = x0 at *
  clear hl0
  by_cases hlen : n = cnt + 1
  · have he1 : ((n : Int) == 1 + (cnt : Int)) = true := by rw [beq_iff_eq]; omega
    have he2 : ((n : Int) != 1 + (cnt : Int)) = false := by rw [bne, he1]; rfl
    have HLN := Lib.hid (show ws.length = cnt + 1 by rw [← Hl.out]; exact hlen)
    by_cases hwd : mkS x0 = mkS wd
    · have hs1 := streq_yes hwd
      have HWD := Lib.hid (mkS_inj hwd)
      have HTL := Lib.hid (show rowL wd cnt ws = numsW ws.tail by unfold rowL; rw [if_pos ⟨HLN.out, by rw [HHD.out, HWD.out]⟩])
      have HVt := Lib.hid (HV.out.drop (k := 1) (by omega) (some ⟨b, o + 1, none⟩) (fun b' o' e _ => by cases e; rfl))
      obtain ⟨c', rfl⟩ : ∃ c', c = c' + 2 := ⟨c - 2, by omega⟩
      clear hwd hlen
      go_enter Tryz.func40, Tryz.ntmps40
      go_wp2
      have HVt2 : Hid (Vs w (some ⟨b, o + 1, none⟩) (n - 1) (strs ws.tail)) := Lib.hid (by have := HVt.out; rwa [show (strs ws).drop 1 = strs ws.tail by simp [strs]] at this)
      have Hl2 := Lib.hid HVt2.out.wlen
      have HWt : Hid (∀ x ∈ ws.tail, x.length ≤ 4000) := Lib.hid fun x hx => HW.out x (List.mem_of_mem_tail hx)
      clear HVt HV HW Hl HNE HHD HLN HWD hc0 he1 he2 hs1
      generalize ws.tail = wt at *
      obtain ⟨m, hm⟩ : ∃ m, m = n - 1 := ⟨_, rfl⟩
      have hmn : m + 1 = n := by omega
      have Hl3 : Hid (m = wt.length) := Lib.hid (hm.trans Hl2.out)
      have HVt3 : Hid (Vs w (some ⟨b, o + 1, none⟩) m (strs wt)) := Lib.hid (by rw [hm]; exact HVt2.out)
      rw [← hm]
      clear hm h0 Hl2 HVt2
      go_loopw [9, 31] (fun v i wr => ∃ (k : Nat) (z : Gr) (l : List Int), k ≤ m ∧ i = .int .i64 k ∧ wr = grow w z ∧ l.length = k ∧ (grow w z).ownsRow w.heap.size 3 1 v k (ints l) ∧ Hid (numsW (wt.take k) = some l)) (fun _ i _ => m - (intOf i).toNat)
      case atStart => exact ⟨0, ⟨#[], w.drawn⟩, [], by omega, rfl, by simp [grow], rfl, World.ownsRow_nil _ _ _ _, Lib.hid rfl⟩
      case round =>
        obtain ⟨k, z, l, hk, rfl, rfl, hll, hown, HN⟩ := hrel
        have Hown := Lib.hid hown; clear hown
        have HLL := Lib.hid hll; clear hll
        by_cases hlt : k < m
        · have hkl : k < wt.length := by rw [← Hl3.out]; exact hlt
          obtain ⟨b', o', e', hb', hc⟩ := HVt3.out.str k hkl
          obtain ⟨rfl, rfl⟩ : b' = b ∧ o' = o + 1 := by cases e'; exact ⟨rfl, rfl⟩
          have hsz := HWt.out wt[k] (List.getElem_mem _)
          have htk : wt.take (k + 1) = wt.take k ++ [wt[k]] := List.take_succ_eq_append_getElem hkl
          have HTK := Lib.hid htk
          have HDR := Lib.hid (show wt = wt.take k ++ wt[k] :: wt.drop (k + 1) by rw [← List.drop_eq_getElem_cons hkl, List.take_append_drop])
          clear htk e'
          generalize hwk : wt[k] = x at *
          clear hwk
          go_wp2_with fail
          refine (numberOf_any (mkS x) _ (by rw [mkS_size]; exact hsz) (HK.out.keep (grow_below w z))).mono ?_
          rintro e x1 (⟨q, hq, rfl, hb1⟩ | ⟨hq, rfl, hb1⟩)
          · rw [mkS_data] at hq
            have HX := Lib.hid hq
            have hql := numW_lt hq
            obtain ⟨y0, rfl⟩ := below_grow (up (grow_below w z) hb1)
            have Hown2 := Lib.hid (own_keep Hown.out hb1)
            clear hb1 hq
            go_wp2_with (at_builtin; refine wpList_append_own _ rfl _ _ 37 rfl w.heap.size 3 i0 (.int .i64 0) 1 8 Tryz.underlying37 HI.out HZ0.out HZ1.out HZ2.out rfl (by decide) _ _ _ rfl (Hown2.out.alloc _) ⟨w.heap.size + y0.blocks.size, 0, none⟩ 1 1 [.int .i64 q] rfl rfl ?c1 ?c2 ?c3 ?c4 ?c5 ?_)
            case c1 =>
              intro j u hu
              cases j with
              | zero => simp at hu; subst hu; simp [Addr.add_lit, go_sem]
              | succ j => simp at hu
            case c2 => intro u hu; simp at hu; subst hu; rfl
            case c3 => unfold maxLen; omega
            case c4 => omega
            case c5 => simp; omega
            intro v' w' hown' hgr _
            have hbel : Below w.heap.size w w' := (up (grow_below w y0) (up_alloc _ _)).grown hgr (by simp; omega) (fun q hq => (Hown2.out.lt q hq).1)
            have Hown' := Lib.hid hown'
            clear hown' hgr
            obtain ⟨y, rfl⟩ := below_grow hbel
            go_wp2
            refine ⟨⟨k + 1, y, l ++ [(q : Int)], by omega, by go_num, rfl, by simp [HLL.out], ?_, Lib.hid ?_⟩, by simp [intOf]; omega⟩
            · rw [ints_snoc]; exact Hown'.out
            · rw [HTK.out]; exact numsW_snoc HN.out HX.out
          · rw [mkS_data] at hq
            have HX := Lib.hid hq
            have HB1 := Lib.hid (up (grow_below w z) hb1)
            clear hb1 hq
            go_wp2
            refine ⟨rfl, Or.inr ⟨?_, rfl, HB1.out⟩⟩
            rw [HTL.out, HDR.out]; exact numsW_snoc_none HX.out
        · obtain rfl : k = m := by omega
          go_wp2
          go_ret
          refine Or.inl ⟨l, _, ?_, rfl, ?_, grow_below w z⟩
          · rw [HTL.out]
            have := HN.out
            rwa [List.take_of_length_le (by rw [← Hl3.out]; exact Nat.le_refl _)] at this
          · rw [HLL.out]; exact Hown.out
    · have hs1 := streq_no hwd
      have HWD := Lib.hid hwd
      clear hwd hlen
      go_enter Tryz.func40, Tryz.ntmps40
      go_wp2
      refine ⟨rfl, Or.inr ⟨?_, rfl, Below.refl _ _⟩⟩
      unfold rowL; rw [if_neg]; rintro ⟨_, h2⟩
      rw [HHD.out] at h2
      exact HWD.out (congrArg mkS (Option.some.inj h2))
  · have hne : ((n : Int) == 1 + (cnt : Int)) = false := by rw [beq_eq_false_iff_ne]; omega
    have hne2 : ((n : Int) != 1 + (cnt : Int)) = true := by rw [bne, hne]; rfl
    have HNL := Lib.hid hlen
    clear hlen
    go_enter Tryz.func40, Tryz.ntmps40
    go_wp2
    refine ⟨rfl, Or.inr ⟨?_, rfl, Below.refl _ _⟩⟩
    unfold rowL; rw [if_neg]; rintro ⟨h1, _⟩
    exact HNL.out (by rw [Hl.out]; exact h1)
end Go.Proofs.YtfhcofljlkihoaaGreatDoor

namespace Go.Proofs.YtfhcofljlkihoaaGreatDoor
open Go Go.RowKit
set_option maxHeartbeats 400000
set_option maxRecDepth 100000

theorem blank_gives (w : World) : PredAtRunes Tryz.prog 67 #[] isBlank w := by
  intro W x hx _
  unfold FnGives
  by_cases h : x = 32
  · subst h
    show Calls Tryz.prog 67 #[.int .i32 32] W _
    go_enter Tryz.func67, Tryz.ntmps67
    go_wp2
    go_ret
    exact ⟨rfl, 0, rfl⟩
  · have h1 : ((x : Int) == 32) = false := by rw [beq_eq_false_iff_ne]; omega
    show Calls Tryz.prog 67 #[.int .i32 x] W _
    have h2 : isBlank x = false := by unfold isBlank; rw [beq_eq_false_iff_ne]; exact h
    rw [h2]
    clear h h2
    go_enter Tryz.func67, Tryz.ntmps67
    go_wp2
    go_ret
    exact ⟨rfl, 0, rfl⟩

theorem hasPrefix35 (l : Bs) : Lib.hasPrefix l [35] = decide (l.head? = some 35) := by
  cases l with
  | nil => rfl
  | cons c r => by_cases h : c = 35 <;> simp [Lib.hasPrefix, h, List.isPrefixOf]; exact fun e => h e.symm

theorem wordsOf_any (s : ByteArray) (w : World) (hs : s.size ≤ 4000) :
    Calls Tryz.prog 39 #[.string s] w fun e w' => ∃ v, e = .returned v ∧ w'.ownsRow w.heap.size 9 1 v (wordsL s.data.toList).length (strs (wordsL s.data.toList)) ∧ Below w.heap.size w w' := by
  have hp := Tryz.strings_HasPrefix s ⟨#[35]⟩
  rw [show (⟨#[35]⟩ : ByteArray).data.toList = [35] from rfl, hasPrefix35] at hp
  by_cases h : s.data.toList.head? = some 35
  · rw [decide_eq_true h] at hp
    have HL : Hid (wordsL s.data.toList = []) := Lib.hid (by unfold wordsL; rw [if_pos h])
    clear h
    go_enter Tryz.func39, Tryz.ntmps39
    go_wp2_with (go_at_call 65; refine (hp _).mono ?_; rintro e w' ⟨rfl, rfl⟩)
    go_ret
    refine ⟨_, rfl, ?_, Below.refl _ _⟩
    rw [HL.out]; exact World.ownsRow_nil _ _ _ _
  · rw [decide_eq_false h] at hp
    have HL : Hid (wordsL s.data.toList = wordsG s.data.toList []) := Lib.hid (by unfold wordsL; rw [if_neg h])
    have HF := Lib.hid (goFields_words s)
    clear h
    go_enter Tryz.func39, Tryz.ntmps39
    go_wp2_with (first
      | (go_at_call 65; refine (hp _).mono ?_; rintro e w' ⟨rfl, rfl⟩)
      | (go_at_call 66; refine (Tryz.strings_FieldsFunc_runes 67 #[] (enters_of Tryz.func67 (by kernel_rfl) rfl) isBlank s _ (by omega) (blank_gives _)).mono ?_; rintro e w' ⟨A, rfl, _, hown, hb⟩))
    go_ret
    rw [HF.out, mkS_map, List.length_map] at hown
    refine ⟨_, rfl, ?_, hb⟩
    rw [HL.out, HF.out, List.length_map]
    exact hown

theorem lineS (s : ByteArray) : (Lib.splitB ⟨#[10]⟩ 0 (Lib.countB s ⟨#[10]⟩) s) = (splitG s.data.toList []).map mkS := by
  have h := Lib.splitB_data ⟨#[10]⟩ 0 (Lib.countB s ⟨#[10]⟩) s
  rw [show (⟨#[10]⟩ : ByteArray).data.toList = [10] from rfl] at h
  have h2 : Lib.countB s ⟨#[10]⟩ = Lib.count s.data.toList [10] := rfl
  rw [h2, splitK_split _ []] at h
  rw [← h, List.map_map]
  have : ∀ l : List ByteArray, l = l.map (mkS ∘ fun x => x.data.toList) := by
    intro l; induction l with
    | nil => rfl
    | cons x r ih => simp [mkS_list, ← ih]
  rw [h2]
  exact this _
theorem linesOf_any (s : ByteArray) (w : World) (hs : s.size ≤ 4000) (hV : Vok w) :
    Calls Tryz.prog 38 #[.string s] w fun e w' => ∃ A c, e = .returned (.slice A (linesL s.data.toList).length c) ∧ Vs w' A (linesL s.data.toList).length (strs (linesL s.data.toList)) ∧ (linesL s.data.toList).length ≤ c ∧ (∀ p, A = some p → w.heap.size ≤ p.block) ∧ Below w.heap.size w w' := by
  obtain ⟨m, hm⟩ := hV.m
  have hcall := Tryz.strings_Split s ⟨#[10]⟩ m w (by omega) hm (by decide)
  rw [lineS s] at hcall
  have hlen := Lib.splitB_all ⟨#[10]⟩ (by decide) 0 _ s rfl
  rw [lineS s, List.length_map] at hlen
  rw [← hlen, mkS_map] at hcall
  have hls := lines_split s.data.toList []
  have hne := splitG_ne s.data.toList []
  have hsz : (splitG s.data.toList []).length ≤ 4001 := by
    have := Lib.countB_le ⟨#[10]⟩ (by decide) s.size s (Nat.le_refl _); omega
  rw [show linesG s.data.toList [] = linesL s.data.toList from rfl] at hls
  generalize splitG s.data.toList [] = P at *
  clear hlen hm
  obtain ⟨Q, x, rfl⟩ : ∃ Q x, P = Q ++ [x] := ⟨P.dropLast, P.getLast hne, (List.dropLast_concat_getLast hne).symm⟩
  rw [List.length_append, List.length_singleton] at hcall hsz
  rw [List.getLast?_concat, List.dropLast_concat] at hls
  simp only [Option.some.injEq] at hls
  have hcl : ∀ j, (w.alloc (.cells (strs (Q ++ [x])).toArray 9)).cell? ⟨w.heap.size, j, none⟩ = (strs (Q ++ [x]))[j]? := by intro j; simp [go_sem]
  have hlast : (strs (Q ++ [x]))[Q.length]? = some (.string (mkS x)) := by simp [strs]
  have HVs : Hid (Vs (w.alloc (.cells (strs (Q ++ [x])).toArray 9)) (some ⟨w.heap.size, 0, none⟩) (Q.length + 1) (strs (Q ++ [x]))) := Lib.hid
    ⟨by simp [strs], by omega, fun k hk => ⟨w.heap.size, 0, rfl, by simp, by rw [Nat.zero_add, hcl, List.getElem?_eq_getElem hk]⟩⟩
  have hc1 := (hcl Q.length).trans hlast
  have HB := Lib.hid (up_alloc w (.cells (strs (Q ++ [x])).toArray 9))
  generalize hWW : w.alloc (.cells (strs (Q ++ [x])).toArray 9) = W at *
  have i1 : (0 : Int) ≤ (Q.length : Int) := by omega
  have hlt : w.heap.size < W.heap.size := by rw [← hWW]; simp
  clear hcl hlast hWW hne
  by_cases hx : x = []
  · subst hx
    rw [if_pos rfl] at hls
    have HLS := Lib.hid hls
    clear hls
    have hs1 : (mkS []).toList.isEmpty = true := by rw [Lib.toList_data, mkS_data]; rfl
    go_enter Tryz.func38, Tryz.ntmps38
    go_wp2_with (go_at_call 64; refine hcall.mono ?_; rintro e w' ⟨rfl, rfl⟩)
    go_ret
    refine ⟨_, _, by rw [HLS.out]; rfl, ?_, ?_, fun p hp => by cases hp; exact Nat.le_refl _, HB.out⟩
    · rw [HLS.out]
      have := HVs.out.take (k := Q.length) (by omega)
      rwa [show (strs (Q ++ [[]])).take Q.length = strs Q by simp [strs]] at this
    · rw [HLS.out]; omega
  · rw [if_neg hx] at hls
    have HLS := Lib.hid hls
    have hs1 : (mkS x).toList.isEmpty = false := by rw [Lib.toList_data, mkS_data]; simpa using hx
    clear hls hx
    go_enter Tryz.func38, Tryz.ntmps38
    go_wp2_with (go_at_call 64; refine hcall.mono ?_; rintro e w' ⟨rfl, rfl⟩)
    go_ret
    refine ⟨_, _, by rw [HLS.out, List.length_append, List.length_singleton]; rfl, ?_, ?_, fun p hp => by cases hp; exact Nat.le_refl _, HB.out⟩
    · rw [HLS.out]; simpa using HVs.out
    · rw [HLS.out]; simp
end Go.Proofs.YtfhcofljlkihoaaGreatDoor

namespace Go.Proofs.YtfhcofljlkihoaaGreatDoor
open Go Go.RowKit

section takes
variable {P : Program} {ops : Array Oper} {md : Region.Mode} {S : World → Prop} {Q : Exit → Act → World → Prop} {n : Nat}
theorem wpAnyT_step {i fuel : Nat} {listed : Array Bool} {a : Act} {w : World} {o : Oper} (hi : ops[i]? = some o) (hr : Region.ready md ops listed = [i]) (hg : o.guard = none)
    (h : o.wp P a w (fun a' w' => S w' ∧ wpAnyT P md ops Q S n fuel (listed.setIfInBounds i true) a' w') Q) : wpAnyT P md ops Q S n (fuel + 1) listed a w := by
  refine ⟨fun h0 => absurd (hr.symm.trans h0) (by simp), fun j hj => ?_⟩
  rw [hr] at hj
  obtain rfl : j = i := by simpa using hj
  unfold wpOp
  simp only [hi, Region.wanted, hg, if_true]
  exact .inl (Oper.wp_mono (fun a'' w'' h2 => ⟨fun _ => h2.1, h2.2⟩) h)
end takes

theorem wp_region_takes2 {P : Program} {id : Nat} {Q : Exit → Act → World → Prop} {a : Act} {w : World} {l : List Oper} (n m c : Nat) (is : List Nat) (om oc : Oper) (hmo : P.follows .mixedOrders = true)
    (hsel : Region.noSelect l.toArray = true) (hs : Region.sinkB .any l.toArray n = true) (hc : Region.chainB .any l.toArray n = true) (hn : n < l.length)
    (hQ : ∀ d v c a w, Q (.panic c) (a.put d v) w → Q (.panic c) a w)
    (hB : takesB .any l.toArray n is (Array.replicate l.length false) = true) (hm : l[m]? = some om) (hgm : om.guard = none) (hcc : l[c]? = some oc) (hgc : oc.guard = none)
    (hrm : Region.ready .any l.toArray (marks is (Array.replicate l.length false)) = [m])
    (hrc : Region.ready .any l.toArray (marks (is ++ [m]) (Array.replicate l.length false)) = [c])
    (hall : (List.range n).all (fun i => (marks (is ++ [m, c]) (Array.replicate l.length false)).getD i true) = true)
    (hseq : Region.seqB .any l.toArray (l.length - n) n (marks (is ++ [m, c]) (Array.replicate l.length false)) = true) (hlen : l.length = (l.length - n) + 1 + 1 + is.length)
    (hmk : Makes P om) (h : wpTakes P l.toArray (grown w) (fun a' => om.wp P a' w.drew (fun a1 w1 => oc.wp P a1 w1 (fun a2 w2 => grown w w2 ∧ wpList P l.toArray Q (l.drop n) a2 w2) Q) Q) is a) : (Code.region id l.toArray true).wp P Q a w := by
  refine wp_region_any hmo ?_
  refine wpAny_of_T (S := grown w) (n := n) _ _ _ _ ?_
  have inv0 : HeadInv .any l.toArray n (Array.replicate l.length false) :=
    { size := by simp
      closed := fun j oj _ hl => by rw [getD_replicate_false] at hl; cases hl
      tail := fun t _ ht => getD_in (by simpa using ht) (getD_replicate_false _ _) }
  have hw0 : grown w { w with drawn := w.drawn + 1 } := ⟨⟨#[], w.drawn + 1⟩, by simp [grow]⟩
  have key := wpAnyT_takes (P := P) (Q := Q) (S := grown w) (md := .any) hsel hs hc (by simpa using hn) hQ is (Array.replicate l.length false) a { w with drawn := w.drawn + 1 } ((l.length - n) + 1 + 1) hB inv0 hw0 h
    (fun a' hG _ => by
      have e1 : marks (is ++ [m]) (Array.replicate l.length false) = (marks is (Array.replicate l.length false)).setIfInBounds m true := by simp [marks, List.foldl_append]
      have e2 : marks (is ++ [m, c]) (Array.replicate l.length false) = (marks (is ++ [m]) (Array.replicate l.length false)).setIfInBounds c true := by simp [marks, List.foldl_append]
      refine wpAnyT_step (o := om) (by simpa using hm) hrm hgm (Oper.wp_mono (fun a1 w1 h1 => ?_) (hmk.wp hG))
      obtain ⟨hb1, h1⟩ := h1
      refine ⟨?_, ?_⟩
      · obtain ⟨z, hz⟩ := hw0
        have : Below w.heap.size w w1 := by
          have h0 : Below w.heap.size w w.drew := by go_grown
          exact h0.trans (hb1.mono (by simp))
        exact below_grow this
      rw [← e1]
      refine wpAnyT_step (o := oc) (by simpa using hcc) hrc hgc (Oper.wp_mono (fun a2 w2 h2 => ?_) h1)
      refine ⟨h2.1, ?_⟩
      rw [← e2]
      refine wpAnyT_of _ _ _ _ (fun i hi => by have := List.all_eq_true.1 hall i (List.mem_range.2 hi); exact this) ?_
      have := wpAny_of_seq (md := .any) (ops := l.toArray) (Q' := Q) (l.drop n) n (marks (is ++ [m, c]) (Array.replicate l.length false)) a2 w2 (fun j => by simp [List.getElem?_drop]) (by rw [List.length_drop]; exact hseq) h2.2
      rwa [List.length_drop] at this)
  rw [← hlen] at key
  simpa using key
end Go.Proofs.YtfhcofljlkihoaaGreatDoor

namespace Go.Proofs.YtfhcofljlkihoaaGreatDoor
open Go Go.RowKit

theorem wp_region_takes3 {P : Program} {id : Nat} {Q : Exit → Act → World → Prop} {a : Act} {w : World} {l : List Oper} (n c : Nat) (is : List Nat) (oc : Oper) (hmo : P.follows .mixedOrders = true)
    (hsel : Region.noSelect l.toArray = true) (hs : Region.sinkB .any l.toArray n = true) (hc : Region.chainB .any l.toArray n = true) (hn : n < l.length)
    (hQ : ∀ d v c a w, Q (.panic c) (a.put d v) w → Q (.panic c) a w)
    (hB : takesB .any l.toArray n is (Array.replicate l.length false) = true) (hcc : l[c]? = some oc) (hgc : oc.guard = none)
    (hrc : Region.ready .any l.toArray (marks is (Array.replicate l.length false)) = [c])
    (hall : (List.range n).all (fun i => (marks (is ++ [c]) (Array.replicate l.length false)).getD i true) = true)
    (hseq : Region.seqB .any l.toArray (l.length - n) n (marks (is ++ [c]) (Array.replicate l.length false)) = true) (hlen : l.length = (l.length - n) + 1 + is.length)
    (h : wpTakes P l.toArray (grown w) (fun a' => oc.wp P a' w.drew (fun a2 w2 => grown w w2 ∧ wpList P l.toArray Q (l.drop n) a2 w2) Q) is a) : (Code.region id l.toArray true).wp P Q a w := by
  refine wp_region_any hmo ?_
  refine wpAny_of_T (S := grown w) (n := n) _ _ _ _ ?_
  have inv0 : HeadInv .any l.toArray n (Array.replicate l.length false) :=
    { size := by simp
      closed := fun j oj _ hl => by rw [getD_replicate_false] at hl; cases hl
      tail := fun t _ ht => getD_in (by simpa using ht) (getD_replicate_false _ _) }
  have hw0 : grown w { w with drawn := w.drawn + 1 } := ⟨⟨#[], w.drawn + 1⟩, by simp [grow]⟩
  have key := wpAnyT_takes (P := P) (Q := Q) (S := grown w) (md := .any) hsel hs hc (by simpa using hn) hQ is (Array.replicate l.length false) a { w with drawn := w.drawn + 1 } ((l.length - n) + 1) hB inv0 hw0 h
    (fun a' hG _ => by
      have e2 : marks (is ++ [c]) (Array.replicate l.length false) = (marks is (Array.replicate l.length false)).setIfInBounds c true := by simp [marks, List.foldl_append]
      refine wpAnyT_step (o := oc) (by simpa using hcc) hrc hgc (Oper.wp_mono (fun a2 w2 h2 => ?_) hG)
      refine ⟨h2.1, ?_⟩
      rw [← e2]
      refine wpAnyT_of _ _ _ _ (fun i hi => by have := List.all_eq_true.1 hall i (List.mem_range.2 hi); exact this) ?_
      have := wpAny_of_seq (md := .any) (ops := l.toArray) (Q' := Q) (l.drop n) n (marks (is ++ [c]) (Array.replicate l.length false)) a2 w2 (fun j => by simp [List.getElem?_drop]) (by rw [List.length_drop]; exact hseq) h2.2
      rwa [List.length_drop] at this)
  rw [← hlen] at key
  simpa using key
end Go.Proofs.YtfhcofljlkihoaaGreatDoor

namespace Go.Proofs.YtfhcofljlkihoaaGreatDoor
open Go Go.RowKit
set_option maxHeartbeats 400000
set_option maxRecDepth 100000

theorem put7 (w : World) (b : Nat) (v0 v1 v2 v3 v4 v5 v6 : Value) (h : ∀ j, j < 7 → (w.cell? ⟨b, j, none⟩).isSome = true) : ∀ j, j < 7 →
    (((((((w.setCell ⟨b, 0, none⟩ v0).setCell ⟨b, 1, none⟩ v1).setCell ⟨b, 2, none⟩ v2).setCell ⟨b, 3, none⟩ v3).setCell ⟨b, 4, none⟩ v4).setCell ⟨b, 5, none⟩ v5).setCell ⟨b, 6, none⟩ v6).cell? ⟨b, j, none⟩ = [v0, v1, v2, v3, v4, v5, v6][j]? := by
  intro j hj
  have := World.cell?_setCells_in b [v0, v1, v2, v3, v4, v5, v6] 0 w (fun j hj => by rw [Nat.zero_add]; exact h j (by simpa using hj)) j (by simpa using hj)
  rw [Nat.zero_add] at this
  rw [List.getElem?_eq_getElem (by simpa using hj)]
  exact this
theorem put7_below {a w : World} {B b : Nat} (h : Below B a w) (hB : B ≤ b) (v0 v1 v2 v3 v4 v5 v6 : Value) :
    Below B a (((((((w.setCell ⟨b, 0, none⟩ v0).setCell ⟨b, 1, none⟩ v1).setCell ⟨b, 2, none⟩ v2).setCell ⟨b, 3, none⟩ v3).setCell ⟨b, 4, none⟩ v4).setCell ⟨b, 5, none⟩ v5).setCell ⟨b, 6, none⟩ v6) :=
  ((((((h.setCell hB _).setCell hB _).setCell hB _).setCell hB _).setCell hB _).setCell hB _).setCell hB _
theorem own_set {w : World} {base : Nat} {e : TypeId} {size n : Nat} {v : Value} {xs : List Value} (h : w.ownsRow base e size v n xs) (b j : Nat) (hb : b < base) (u : Value) : (w.setCell ⟨b, j, none⟩ u).ownsRow base e size v n xs := by
  refine ⟨h.1, ?_⟩
  rcases h.2 with h2 | ⟨g, cap, cur, hv, hg, hc, r⟩
  · exact .inl h2
  · exact .inr ⟨g, cap, cur, hv, hg, by rw [Below.heap_setCell _ _ _ _ (by show g ≠ b; omega)]; exact hc, r⟩
theorem own_put7 {w : World} {base : Nat} {e : TypeId} {size n : Nat} {v : Value} {xs : List Value} (h : w.ownsRow base e size v n xs) {b : Nat} (hb : b < base) (v0 v1 v2 v3 v4 v5 v6 : Value) :
    (((((((w.setCell ⟨b, 0, none⟩ v0).setCell ⟨b, 1, none⟩ v1).setCell ⟨b, 2, none⟩ v2).setCell ⟨b, 3, none⟩ v3).setCell ⟨b, 4, none⟩ v4).setCell ⟨b, 5, none⟩ v5).setCell ⟨b, 6, none⟩ v6).ownsRow base e size v n xs :=
  own_set (own_set (own_set (own_set (own_set (own_set (own_set h b 0 hb _) b 1 hb _) b 2 hb _) b 3 hb _) b 4 hb _) b 5 hb _) b 6 hb _
theorem bk_some {w : World} {b : Nat} {c0 c1 c2 c3 c4 c5 c6 : Value} (h : Bk w b [c0, c1, c2, c3, c4, c5, c6]) : ∀ j, j < 7 → (w.cell? ⟨b, j, none⟩).isSome = true := by
  intro j hj
  rw [h.get j]
  rcases (by omega : j = 0 ∨ j = 1 ∨ j = 2 ∨ j = 3 ∨ j = 4 ∨ j = 5 ∨ j = 6) with rfl | rfl | rfl | rfl | rfl | rfl | rfl <;> rfl
/-- Nothing has changed but this block, and what is new. -/
theorem gr_refl (w : World) (r : Option Nat) : w.grownBy w r := ⟨rfl, rfl, rfl, Nat.le_refl _, fun _ _ _ => rfl⟩
theorem gr_below {X w w' : World} {b : Nat} (h : X.grownBy w (some b)) (hb : Below w.heap.size w w') : X.grownBy w' (some b) :=
  ⟨hb.os.trans h.os, hb.tape.trans h.tape, hb.output.trans h.output, Nat.le_trans h.size hb.size, fun k hk hne => (hb.block k (Nat.lt_of_lt_of_le hk h.size)).trans (h.block k hk hne)⟩
theorem gr_row {X w : World} {b : Nat} (h : X.grownBy w (some b)) (cs : Array Value) : X.grownBy (w.setRow b cs) (some b) :=
  ⟨h.os, h.tape, h.output, by simpa [World.setRow] using h.size, fun k hk hne => (setRow_other w b k cs (fun e => hne (by rw [e]))).trans (h.block k hk hne)⟩
theorem gr_own {X w w' : World} {b : Nat} {r : Option Nat} (h : X.grownBy w (some b)) (hg : w.grownBy w' r) (hr : ∀ k, r = some k → X.heap.size ≤ k) : X.grownBy w' (some b) :=
  ⟨hg.os.trans h.os, hg.tape.trans h.tape, hg.output.trans h.output, Nat.le_trans h.size hg.size, fun k hk hne =>
    (hg.block k (Nat.lt_of_lt_of_le hk h.size) (fun e => by have := hr k e.symm; omega)).trans (h.block k hk hne)⟩
theorem Vs.keepEx {X w : World} {b : Nat} {A : Option Addr} {n : Nat} {l : List Value} (h : Vs X A n l) (hg : X.grownBy w (some b)) (hA : ∀ p, A = some p → p.block ≠ b) : Vs w A n l :=
  ⟨h.len, h.small, fun k hk => by
    obtain ⟨g, o, e, hlt, hc⟩ := h.get k hk
    refine ⟨g, o, e, Nat.lt_of_lt_of_le hlt hg.size, ?_⟩
    rw [World.cell?_of_block (w := X) (a := ⟨g, o + k, none⟩) (hg.block g hlt (fun e2 => hA _ e (by cases e2; rfl)))]
    exact hc⟩
theorem Vok.keepEx {X w : World} {b : Nat} (h : Vok X) (hg : X.grownBy w (some b)) (hb : 3 < b) : Vok w := by
  have lt : ∀ (k : Nat) (v : Value), k ≤ 3 → X.cell? ⟨k, 0, none⟩ = some v → w.cell? ⟨k, 0, none⟩ = some v := fun k v hk hv =>
    (World.cell?_of_block (w := X) (a := ⟨k, 0, none⟩) (hg.block k (World.block_lt_of_cell? X _ hv) (fun e => by cases e; omega))).trans hv
  obtain ⟨⟨m, hm⟩, ⟨s, hs, hs2⟩, ⟨r, hr, hr2⟩⟩ := h
  exact ⟨⟨m, lt _ _ (by omega) hm⟩, ⟨s, lt _ _ (by omega) hs, hs2⟩, ⟨r, lt _ _ (by omega) hr, hr2⟩⟩
theorem own_row {w : World} {base : Nat} {e : TypeId} {size n : Nat} {v : Value} {xs : List Value} (h : w.ownsRow base e size v n xs) (b : Nat) (hb : b < base) (cs : Array Value) : (w.setRow b cs).ownsRow base e size v n xs := by
  refine ⟨h.1, ?_⟩
  rcases h.2 with h2 | ⟨g, cap, cur, hv, hg, hc, r⟩
  · exact .inl h2
  · exact .inr ⟨g, cap, cur, hv, hg, by rw [setRow_other w b g cs (by omega)]; exact hc, r⟩

/-- A book under way: in block b, known whole; its row is its own. -/
def bcells (x : Bo) (B : Option Addr) (q c : Nat) : Array Value := #[.int .i64 x.w0, .int .i64 x.w1, .int .i64 x.w2, .int .i64 x.w3, .int .i64 x.w4, .int .i64 x.F, .slice B q c]
structure BW (X w : World) (b : Nat) (x : Bo) (B : Option Addr) (q c : Nat) : Prop where
  bx : b < X.heap.size
  gr : X.grownBy w (some b)
  blk : w.heap[b]? = some (.cells (bcells x B q c) 26 (0, 0))
  own : w.ownsRow X.heap.size 41 7 (.slice B q c) q (gcells x.gs)
theorem BW.lt {X w : World} {b : Nat} {x : Bo} {B : Option Addr} {q c : Nat} (h : BW X w b x B q c) : b < w.heap.size := Nat.lt_of_lt_of_le h.bx h.gr.size
theorem BW.get {X w : World} {b : Nat} {x : Bo} {B : Option Addr} {q c : Nat} (h : BW X w b x B q c) : ∀ j, w.cell? ⟨b, j, none⟩ = [Value.int .i64 x.w0, .int .i64 x.w1, .int .i64 x.w2, .int .i64 x.w3, .int .i64 x.w4, .int .i64 x.F, .slice B q c][j]? := by
  intro j
  rw [World.cell?]
  simp only [h.blk, bcells]
  simp
theorem BW.fr {X w : World} {b : Nat} {x : Bo} {B : Option Addr} {q c : Nat} (h : BW X w b x B q c) : ∀ j, w.frozen? ⟨b, j, none⟩ = false := by
  intro j; simp [World.frozen?, h.blk]
theorem BW.grow {X w w' : World} {b : Nat} {x : Bo} {B : Option Addr} {q c : Nat} (h : BW X w b x B q c) (hb : Below w.heap.size w w') : BW X w' b x B q c :=
  ⟨h.bx, gr_below h.gr hb, by rw [hb.block b h.lt]; exact h.blk, own_keep h.own hb⟩
theorem BW.len {X w : World} {b : Nat} {x : Bo} {B : Option Addr} {q c : Nat} (h : BW X w b x B q c) : q = x.gs.length := by
  have := h.own.1; rw [gcells_len] at this; omega
/-- The first six numbers are others. -/
theorem BW.row {X w : World} {b : Nat} {x : Bo} {B : Option Addr} {q c : Nat} (h : BW X w b x B q c) (y : Bo) (hy : y.gs = x.gs) : BW X (w.setRow b (bcells y B q c)) b y B q c :=
  ⟨h.bx, gr_row h.gr _, setRow_heap w b _ _ _ _ h.blk, by rw [hy]; exact own_row h.own b h.bx _⟩
theorem BW.wear {X w : World} {b : Nat} {x : Bo} {B : Option Addr} {q c : Nat} (h : BW X w b x B q c) (a0 a1 a2 a3 a4 : Int) :
    BW X (w.setRow b ((bcells x B q c).toList.take 0 ++ ([Value.int .i64 a0, .int .i64 a1, .int .i64 a2, .int .i64 a3, .int .i64 a4] ++ (bcells x B q c).toList.drop (0 + 5))).toArray) b { x with w0 := a0, w1 := a1, w2 := a2, w3 := a3, w4 := a4 } B q c :=
  h.row { x with w0 := a0, w1 := a1, w2 := a2, w3 := a3, w4 := a4 } rfl
theorem BW.setF {X w : World} {b : Nat} {x : Bo} {B : Option Addr} {q c : Nat} (h : BW X w b x B q c) (F : Int) : BW X (w.setCell ⟨b, 5, none⟩ (.int .i64 F)) b { x with F := F } B q c := by
  rw [setCell_eq_setRow w b 5 _ _ _ _ h.blk]
  exact h.row { x with F := F } rfl
/-- A row with one mark more. -/
theorem BW.next {X w w1 w' : World} {b : Nat} {x : Bo} {B B' : Option Addr} {q c q' c' : Nat} (h : BW X w b x B q c) (hb : Below w.heap.size w w1) (hg : w1.grownBy w' (Value.slice B q c).ownBlock) (g : Giv)
    (ho : w'.ownsRow X.heap.size 41 7 (.slice B' q' c') q' (gcells (x.gs ++ [g]))) : BW X (w'.setCell ⟨b, 6, none⟩ (.slice B' q' c')) b { x with gs := x.gs ++ [g] } B' q' c' := by
  have h1 := h.grow hb
  have hne : some b ≠ (Value.slice B q c).ownBlock := fun e => by have := (h.own.lt b e.symm).1; have := h.bx; omega
  have hblk : w'.heap[b]? = _ := (hg.block b h1.lt hne).trans h1.blk
  have hgr : X.grownBy w' (some b) := gr_own h1.gr hg (fun k hk => (h.own.lt k hk).1)
  rw [setCell_eq_setRow w' b 6 _ _ _ _ hblk]
  exact ⟨h.bx, gr_row hgr _, setRow_heap w' b _ _ _ _ hblk, own_row ho b h.bx _⟩
theorem BW.app {X w w1 w' : World} {b : Nat} {x : Bo} {B : Option Addr} {q c : Nat} (h : BW X w b x B q c) (hb : Below w.heap.size w w1) (hg : w1.grownBy w' (Value.slice B q c).ownBlock) :
    (∀ j, w'.cell? ⟨b, j, none⟩ = w.cell? ⟨b, j, none⟩) ∧ (∀ j, w'.frozen? ⟨b, j, none⟩ = false) := by
  have hne : some b ≠ (Value.slice B q c).ownBlock := fun e => by have := (h.own.lt b e.symm).1; have := h.bx; omega
  have hblk : w'.heap[b]? = w.heap[b]? := (hg.block b (Nat.lt_of_lt_of_le h.lt hb.size) hne).trans (hb.block b h.lt)
  exact ⟨fun j => World.cell?_of_block (a := ⟨b, j, none⟩) hblk, fun j => (World.frozen?_of_block (a := ⟨b, j, none⟩) hblk).trans (h.fr j)⟩
theorem BW.start {X : World} {b : Nat} (hb : b < X.heap.size) (h : X.heap[b]? = some (.cells #[.int .i64 0, .int .i64 0, .int .i64 0, .int .i64 0, .int .i64 0, .int .i64 0, .slice none 0 0] 26 (0, 0))) : BW X X b Bo.zero none 0 0 :=
  ⟨hb, gr_refl _ _, h, World.ownsRow_nil _ _ _ _⟩
end Go.Proofs.YtfhcofljlkihoaaGreatDoor

