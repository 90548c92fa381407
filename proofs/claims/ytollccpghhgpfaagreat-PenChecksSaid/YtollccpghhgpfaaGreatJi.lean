/- Contracts of functions of the program and of the reference, and plain facts: a part of a proof. Own text. -/
import Derived.Test.YtollccpghhgpfaaGreatJh
set_option linter.unusedVariables false
set_option linter.unusedSimpArgs false
set_option linter.unusedSectionVars false
namespace Go.Proofs.YtollccpghhgpfaaGreat
open Go Go.RowKit
set_option maxHeartbeats 8000000
set_option maxRecDepth 100000

/-- Cells of stays in a row. -/
def scells : List St → List Value
  | [] => []
  | x :: r => [.int .i64 x.s, .int .i64 x.i, .int .i64 x.o] ++ scells r
theorem scells_at : ∀ (l : List St) (k : Nat) (h : k < l.length), (scells l)[k * 3]? = some (.int .i64 l[k].s) ∧ (scells l)[k * 3 + 1]? = some (.int .i64 l[k].i) ∧ (scells l)[k * 3 + 2]? = some (.int .i64 l[k].o)
  | [], k, h => by simp at h
  | x :: r, 0, h => by simp [scells]
  | x :: r, k + 1, h => by
    have := scells_at r k (by simpa using h)
    have e : ∀ j, (scells (x :: r))[(k + 1) * 3 + j]? = (scells r)[k * 3 + j]? := fun j => by
      simp only [scells]
      rw [List.getElem?_append_right (by simp; omega)]
      congr 1; simp; omega
    have e0 := e 0
    simp only [Nat.add_zero] at e0
    rw [e0, e, e]; simpa using this
theorem ssB (X : World) (t : TypeId) (b : Nat) (l : List St) (K : Bx X b t (scells l)) (h : l.length ≤ 1000) : Ss X (some ⟨b, 0, none⟩) l.length l :=
  ⟨rfl, by omega, fun k hk => ⟨b, 0, rfl, K.lt, by
    have ha := scells_at l k hk
    rw [Nat.zero_add]
    exact ⟨(K.get _).trans ha.1, (K.get _).trans ha.2.1, (K.get _).trans ha.2.2⟩⟩⟩
theorem info76 : (Tryz.prog.info? 76).map (fun i => (i.zero, i.size, i.bytes)) = some (some (.agg #[.int .i64 0, .int .i64 0, .int .i64 0]), 3, 24) := by kernel_rfl
theorem ssOwn {w : World} {base : Nat} {v : Value} {l : List St} (h : w.ownsRow base 76 3 v l.length (scells l)) (h0 : 0 < l.length) (hl : l.length ≤ 1000) : ∃ A c, v = .slice A l.length c ∧ Ss w A l.length l := by
  rcases h.2 with ⟨rfl, h1⟩ | ⟨g, cap, cur, rfl, hge, hg, hnc, hcm, hcs, htk⟩
  · omega
  · refine ⟨some ⟨g, 0, none⟩, cap, rfl, ⟨rfl, by omega, fun k hk => ⟨g, 0, rfl, (Array.getElem?_eq_some_iff.1 hg).1, ?_⟩⟩⟩
    have ha := scells_at l k hk
    have key : ∀ j u, (scells l)[j]? = some u → w.cell? ⟨g, j, none⟩ = some u := fun j u hu => by
      have := h.cells (g := g) rfl j u hu
      rw [Addr.add_lit] at this; simpa using this
    rw [Nat.zero_add]
    exact ⟨key _ _ ha.1, key _ _ ha.2.1, key _ _ ha.2.2⟩
theorem wp_mid {P : Program} {c : Code} {Q : Exit → Act → World → Prop} {a : Act} {w : World} (Good : World → Prop)
    (h : ∃ A : Option Addr → Nat → Act, c.wp P (fun e a' w' => e = .normal ∧ ∃ x y, a' = A x y ∧ Good w') a w ∧ ∀ x y w', Good w' → Q .normal (A x y) w') : c.wp P Q a w := by
  obtain ⟨A, h1, h2⟩ := h
  exact wp_mono h1 fun e a' w' ⟨x, v, u, y, z⟩ => by subst x; subst y; exact h2 v u w' z
theorem wp_region_takesS {P : Program} {id : Nat} {Q : Exit → Act → World → Prop} {a : Act} {w : World} {l : List Oper} (S : World → Prop) (n fuel : Nat) (is : List Nat) (hmo : P.follows .mixedOrders = true)
    (hsel : Region.noSelect l.toArray = true) (hs : Region.sinkB .any l.toArray n = true) (hc : Region.chainB .any l.toArray n = true) (hn : n < l.length)
    (hQ : ∀ d v c a w, Q (.panic c) (a.put d v) w → Q (.panic c) a w)
    (hB : takesB .any l.toArray n is (Array.replicate l.length false) = true) (hlen : l.length = fuel + is.length) (hS : S { w with drawn := w.drawn + 1 })
    (h : wpTakes P l.toArray S (fun a' => wpAnyT P .any l.toArray Q S n fuel (marks is (Array.replicate l.length false)) a' w.drew) is a) : (Code.region id l.toArray true).wp P Q a w := by
  refine wp_region_any hmo ?_
  refine wpAny_of_T (S := S) (n := n) _ _ _ _ ?_
  have inv0 : HeadInv .any l.toArray n (Array.replicate l.length false) :=
    { size := by simp
      closed := fun j oj _ hl => by rw [getD_replicate_false] at hl; cases hl
      tail := fun t _ ht => getD_in (by simpa using ht) (getD_replicate_false _ _) }
  have key := wpAnyT_takes (P := P) (Q := Q) (S := S) (md := .any) hsel hs hc (by simpa using hn) hQ is (Array.replicate l.length false) a { w with drawn := w.drawn + 1 } fuel hB inv0 hS h (fun a' hG _ => hG)
  rw [← hlen] at key
  simpa using key

theorem sane_any (w : World) : Calls Tryz.prog 22 #[] w fun e w' => e = .returned (.bool true) ∧ Below w.heap.size w w' := by
  go_enter Tryz.func22, Tryz.ntmps22
  go_upto_region 2 with (first
    | (go_at_call 74; refine (yard_any w).mono ?_; rintro e Y ⟨A, c, B, d, rfl, hp, hg, hby⟩; have HP := Lib.hid hp; have HG := Lib.hid hg; have HB0 := Lib.hid hby; clear hp hg hby)
    | (refine wpList_putNew 25 1 27 rfl rfl rfl rfl (by kernel_rfl) rfl (by simp [Value.oneCell']) ?_; intro X1 KY hbx hsx; have HY := Lib.hid hbx; clear hbx hsx))

  have hL := isC X1 3 [1, 1, 2] (by simp)
  have hbL := up_alloc X1 (.cells ⟨ints [1, 1, 2]⟩ 3)
  have hC := Place_any A 3 c yP B 4 d yK (some ⟨X1.heap.size, 0, none⟩) 3 3 [1, 1, 2] _ ((HP.out.keep HY.out).keep hbL) ((HG.out.keep HY.out).keep hbL) hL
  rw [ex_place.1, ex_place.2] at hC
  have HC := Lib.hid hC
  have HBL := Lib.hid hbL
  clear hC hL hbL
  have KYl := KY.lt; have KYc := KY.get; have KYf := KY.fr
  go_upto_region 3 with (go_at_call 23; refine HC.out.mono ?_; rintro e X3 ⟨v, rfl, hv, hb⟩; have HYn := Lib.hid (up HY.out (up HBL.out hb)); have KYn := KY.keep (up HBL.out hb); clear hb)
  clear HC HBL KYl KYc KYf
  clear HY KY 
  have HY := HYn; clear HYn; have KY := KYn; clear KYn
  obtain ⟨Cp, kp, sp, rfl, hkp, hip, -⟩ := hv
  have Hp := Lib.hid hip
  obtain rfl := hip.len
  clear hip
  have hL := isC X3 3 [1, 1, 2] (by simp)
  have hbL := up_alloc X3 (.cells ⟨ints [1, 1, 2]⟩ 3)
  have HpL := Lib.hid (Hp.out.keep hbL)
  have hC := Count_any A 3 c yP B 4 d yK (some ⟨X3.heap.size, 0, none⟩) 3 3 [1, 1, 2] _ ((HP.out.keep HY.out).keep hbL) ((HG.out.keep HY.out).keep hbL) hL
  rw [ex_count.1, ex_count.2] at hC
  have HC := Lib.hid hC
  have HBL := Lib.hid hbL
  clear hC hL hbL
  have KYl := KY.lt; have KYc := KY.get; have KYf := KY.fr
  go_upto_region 4 with (go_at_call 25; refine HC.out.mono ?_; rintro e X4 ⟨rfl, hb⟩; have HYn := Lib.hid (up HY.out (up HBL.out hb)); have KYn := KY.keep (up HBL.out hb); have Hpn := Lib.hid (HpL.out.keep hb); clear hb)
  clear HC HBL KYl KYc KYf
  clear HY KY Hp HpL
  have HY := HYn; clear HYn; have KY := KYn; clear KYn; have Hp := Hpn; clear Hpn
  have hL := isC X4 3 [1, 1, 2] (by simp)
  have hbL := up_alloc X4 (.cells ⟨ints [1, 1, 2]⟩ 3)
  have HpL := Lib.hid (Hp.out.keep hbL)
  have hC := Free_any A 3 c yP B 4 d yK (some ⟨X4.heap.size, 0, none⟩) 3 3 [1, 1, 2] Cp _ sp [0, 0, 1] _ ((HP.out.keep HY.out).keep hbL) ((HG.out.keep HY.out).keep hbL) hL HpL.out
  rw [ex_free.1, ex_free.2] at hC
  have HC := Lib.hid hC
  have HBL := Lib.hid hbL
  clear hC hL hbL
  have KYl := KY.lt; have KYc := KY.get; have KYf := KY.fr
  go_upto_region 5 with (go_at_call 30; refine HC.out.mono ?_; rintro e X5 ⟨v, rfl, hv, hb⟩; have HYn := Lib.hid (up HY.out (up HBL.out hb)); have KYn := KY.keep (up HBL.out hb); have Hpn := Lib.hid (HpL.out.keep hb); clear hb)
  clear HC HBL KYl KYc KYf
  clear HY KY Hp HpL
  have HY := HYn; clear HYn; have KY := KYn; clear KYn; have Hp := Hpn; clear Hpn
  obtain ⟨Cf, kf, sf, rfl, hkf, hif, -⟩ := hv
  have Hf := Lib.hid hif
  obtain rfl := hif.len
  clear hif
  have hL := isC X5 3 [1, 1, 2] (by simp)
  have hbL := up_alloc X5 (.cells ⟨ints [1, 1, 2]⟩ 3)
  have HpL := Lib.hid (Hp.out.keep hbL)
  have HfL := Lib.hid (Hf.out.keep hbL)
  have hC := Add_any A 3 c yP B 4 d yK (some ⟨X5.heap.size, 0, none⟩) 3 3 [1, 1, 2] Cp _ sp [0, 0, 1] 3 _ ((HP.out.keep HY.out).keep hbL) ((HG.out.keep HY.out).keep hbL) hL HpL.out
  rw [ex_add.1, ex_add.2] at hC
  have HC := Lib.hid hC
  have HBL := Lib.hid hbL
  clear hC hL hbL
  have KYl := KY.lt; have KYc := KY.get; have KYf := KY.fr
  go_upto_region 6 with (go_at_call 34; refine HC.out.mono ?_; rintro e X6 ⟨rfl, hb⟩; have HYn := Lib.hid (up HY.out (up HBL.out hb)); have KYn := KY.keep (up HBL.out hb); have Hpn := Lib.hid (HpL.out.keep hb); have Hfn := Lib.hid (HfL.out.keep hb); clear hb)
  clear HC HBL KYl KYc KYf
  clear HY KY Hp HpL Hf HfL
  have HY := HYn; clear HYn; have KY := KYn; clear KYn; have Hp := Hpn; clear Hpn; have Hf := Hfn; clear Hfn
  have hL := isC X6 3 [1, 1, 1, 1] (by simp)
  have hbL := up_alloc X6 (.cells ⟨ints [1, 1, 1, 1]⟩ 3)
  have HpL := Lib.hid (Hp.out.keep hbL)
  have HfL := Lib.hid (Hf.out.keep hbL)
  have hC := Refuse_any A 3 c yP B 4 d yK (some ⟨X6.heap.size, 0, none⟩) 4 4 [1, 1, 1, 1] _ ((HP.out.keep HY.out).keep hbL) ((HG.out.keep HY.out).keep hbL) hL
  rw [ex_tight.1, ex_tight.2] at hC
  have HC := Lib.hid hC
  have HBL := Lib.hid hbL
  clear hC hL hbL
  have KYl := KY.lt; have KYc := KY.get; have KYf := KY.fr
  go_upto_region 7 with (first
    | (go_at_call 42; refine HC.out.mono ?_; rintro e X7 ⟨v, rfl, hv, hb⟩; have HYn := Lib.hid (up HY.out (up HBL.out hb)); have KYn := KY.keep (up HBL.out hb); have Hpn := Lib.hid (HpL.out.keep hb); have Hfn := Lib.hid (HfL.out.keep hb); clear hb; obtain ⟨C10, k10, s10, rfl, hk10, hi10, -⟩ := hv)
    | (refine wpList_putNew 53 10 58 rfl rfl rfl rfl (by kernel_rfl) rfl (by simp [Value.oneCell']) ?_; intro U7 R10 hbu hsu; replace HYn := Lib.hid (up HYn.out hbu); replace KYn := KYn.keep hbu; replace Hpn := Lib.hid (Hpn.out.keep hbu); replace Hfn := Lib.hid (Hfn.out.keep hbu); have H10 := Lib.hid (hi10.keep hbu); clear hbu hsu))
  clear HC HBL KYl KYc KYf
  clear HY KY Hp HpL Hf HfL
  have HY := HYn; clear HYn; have KY := KYn; clear KYn; have Hp := Hpn; clear Hpn; have Hf := Hfn; clear Hfn
  obtain rfl := hi10.len
  clear hi10
  have hL := isC U7 3 [4, 4, 4, 4] (by simp)
  have hbL := up_alloc U7 (.cells ⟨ints [4, 4, 4, 4]⟩ 3)
  have HpL := Lib.hid (Hp.out.keep hbL)
  have HfL := Lib.hid (Hf.out.keep hbL)
  have H10L := Lib.hid (H10.out.keep hbL)
  have hC := Refuse_any A 3 c yP B 4 d yK (some ⟨U7.heap.size, 0, none⟩) 4 4 [4, 4, 4, 4] _ ((HP.out.keep HY.out).keep hbL) ((HG.out.keep HY.out).keep hbL) hL
  rw [ex_many.1, ex_many.2] at hC
  have HC := Lib.hid hC
  have HBL := Lib.hid hbL
  clear hC hL hbL
  have KYl := KY.lt; have KYc := KY.get; have KYf := KY.fr; have R10l := R10.lt; have R10c := R10.get; have R10f := R10.fr
  go_upto_region 8 with (first
    | (go_at_call 42; refine HC.out.mono ?_; rintro e X8 ⟨v, rfl, hv, hb⟩; have HYn := Lib.hid (up HY.out (up HBL.out hb)); have KYn := KY.keep (up HBL.out hb); have R10n := R10.keep (up HBL.out hb); have Hpn := Lib.hid (HpL.out.keep hb); have Hfn := Lib.hid (HfL.out.keep hb); have H10n := Lib.hid (H10L.out.keep hb); clear hb; obtain ⟨C12, k12, s12, rfl, hk12, hi12, -⟩ := hv)
    | (refine wpList_putNew 53 12 64 rfl rfl rfl rfl (by kernel_rfl) rfl (by simp [Value.oneCell']) ?_; intro U8 R12 hbu hsu; replace HYn := Lib.hid (up HYn.out hbu); replace KYn := KYn.keep hbu; replace R10n := R10n.keep hbu; replace Hpn := Lib.hid (Hpn.out.keep hbu); replace Hfn := Lib.hid (Hfn.out.keep hbu); replace H10n := Lib.hid (H10n.out.keep hbu); have H12 := Lib.hid (hi12.keep hbu); clear hbu hsu))
  clear HC HBL KYl KYc KYf R10l R10c R10f
  clear HY KY R10 Hp HpL Hf HfL H10 H10L
  have HY := HYn; clear HYn; have KY := KYn; clear KYn; have R10 := R10n; clear R10n; have Hp := Hpn; clear Hpn; have Hf := Hfn; clear Hfn; have H10 := H10n; clear H10n
  obtain rfl := hi12.len
  clear hi12
  have hL := isC U8 3 [1, 1, 1, 2, 2] (by simp)
  have hbL := up_alloc U8 (.cells ⟨ints [1, 1, 1, 2, 2]⟩ 3)
  have HpL := Lib.hid (Hp.out.keep hbL)
  have HfL := Lib.hid (Hf.out.keep hbL)
  have H10L := Lib.hid (H10.out.keep hbL)
  have H12L := Lib.hid (H12.out.keep hbL)
  have hC := Refuse_any A 3 c yP B 4 d yK (some ⟨U8.heap.size, 0, none⟩) 5 5 [1, 1, 1, 2, 2] _ ((HP.out.keep HY.out).keep hbL) ((HG.out.keep HY.out).keep hbL) hL
  rw [ex_much.1, ex_much.2] at hC
  have HC := Lib.hid hC
  have HBL := Lib.hid hbL
  clear hC hL hbL
  have KYl := KY.lt; have KYc := KY.get; have KYf := KY.fr; have R10l := R10.lt; have R10c := R10.get; have R10f := R10.fr; have R12l := R12.lt; have R12c := R12.get; have R12f := R12.fr
  go_upto_region 9 with (first
    | (go_at_call 42; refine HC.out.mono ?_; rintro e X9 ⟨v, rfl, hv, hb⟩; have HYn := Lib.hid (up HY.out (up HBL.out hb)); have KYn := KY.keep (up HBL.out hb); have R10n := R10.keep (up HBL.out hb); have R12n := R12.keep (up HBL.out hb); have Hpn := Lib.hid (HpL.out.keep hb); have Hfn := Lib.hid (HfL.out.keep hb); have H10n := Lib.hid (H10L.out.keep hb); have H12n := Lib.hid (H12L.out.keep hb); clear hb; obtain ⟨C14, k14, s14, rfl, hk14, hi14, -⟩ := hv)
    | (refine wpList_putNew 53 14 70 rfl rfl rfl rfl (by kernel_rfl) rfl (by simp [Value.oneCell']) ?_; intro U9 R14 hbu hsu; replace HYn := Lib.hid (up HYn.out hbu); replace KYn := KYn.keep hbu; replace R10n := R10n.keep hbu; replace R12n := R12n.keep hbu; replace Hpn := Lib.hid (Hpn.out.keep hbu); replace Hfn := Lib.hid (Hfn.out.keep hbu); replace H10n := Lib.hid (H10n.out.keep hbu); replace H12n := Lib.hid (H12n.out.keep hbu); have H14 := Lib.hid (hi14.keep hbu); clear hbu hsu))
  clear HC HBL KYl KYc KYf R10l R10c R10f R12l R12c R12f
  clear HY KY R10 R12 Hp HpL Hf HfL H10 H10L H12 H12L
  have HY := HYn; clear HYn; have KY := KYn; clear KYn; have R10 := R10n; clear R10n; have R12 := R12n; clear R12n; have Hp := Hpn; clear Hpn; have Hf := Hfn; clear Hfn; have H10 := H10n; clear H10n; have H12 := H12n; clear H12n
  obtain rfl := hi14.len
  clear hi14
  have hL := isC U9 3 [1, 4, 4] (by simp)
  have hbL := up_alloc U9 (.cells ⟨ints [1, 4, 4]⟩ 3)
  have HpL := Lib.hid (Hp.out.keep hbL)
  have HfL := Lib.hid (Hf.out.keep hbL)
  have H10L := Lib.hid (H10.out.keep hbL)
  have H12L := Lib.hid (H12.out.keep hbL)
  have H14L := Lib.hid (H14.out.keep hbL)
  have hC := Fewest_any A 3 c yP B 4 d yK (some ⟨U9.heap.size, 0, none⟩) 3 3 [1, 4, 4] _ ((HP.out.keep HY.out).keep hbL) ((HG.out.keep HY.out).keep hbL) hL
  rw [ex_few.1, ex_few.2] at hC
  have HC := Lib.hid hC
  have HBL := Lib.hid hbL
  clear hC hL hbL
  have KYl := KY.lt; have KYc := KY.get; have KYf := KY.fr; have R10l := R10.lt; have R10c := R10.get; have R10f := R10.fr; have R12l := R12.lt; have R12c := R12.get; have R12f := R12.fr; have R14l := R14.lt; have R14c := R14.get; have R14f := R14.fr
  go_upto_region 10 with (go_at_call 44; refine HC.out.mono ?_; rintro e X10 ⟨v, rfl, hv, hb⟩; have HYn := Lib.hid (up HY.out (up HBL.out hb)); have KYn := KY.keep (up HBL.out hb); have R10n := R10.keep (up HBL.out hb); have R12n := R12.keep (up HBL.out hb); have R14n := R14.keep (up HBL.out hb); have Hpn := Lib.hid (HpL.out.keep hb); have Hfn := Lib.hid (HfL.out.keep hb); have H10n := Lib.hid (H10L.out.keep hb); have H12n := Lib.hid (H12L.out.keep hb); have H14n := Lib.hid (H14L.out.keep hb); clear hb)
  clear HC HBL KYl KYc KYf R10l R10c R10f R12l R12c R12f R14l R14c R14f
  clear HY KY R10 R12 R14 Hp HpL Hf HfL H10 H10L H12 H12L H14 H14L
  have HY := HYn; clear HYn; have KY := KYn; clear KYn; have R10 := R10n; clear R10n; have R12 := R12n; clear R12n; have R14 := R14n; clear R14n; have Hp := Hpn; clear Hpn; have Hf := Hfn; clear Hfn; have H10 := H10n; clear H10n; have H12 := H12n; clear H12n; have H14 := H14n; clear H14n
  obtain ⟨Cw, kw, sw, rfl, hkw, hiw, -⟩ := hv
  have Hw := Lib.hid hiw
  obtain rfl := hiw.len
  clear hiw
  have KY10l := KY.lt
  go_upto_region 11 with fail
  generalize hXS : World.alloc X10 _ = X11
  have kS : Bx X11 X10.heap.size 76 (scells yL) := by subst hXS; exact Bx.new _ _ _
  have hbS : Below X10.heap.size X10 X11 := by subst hXS; exact up_alloc _ _
  clear hXS
  have HT := Lib.hid hbS
  replace HY := Lib.hid (up HY.out hbS); replace KY := KY.keep hbS
  clear hbS
  have hC := Eaten_any A 3 c yP B 4 d yK (some ⟨X10.heap.size, 0, none⟩) 2 2 yL 5 X11 (HP.out.keep HY.out) (HG.out.keep HY.out) (ssB X11 76 _ yL kS (by decide))
  rw [if_pos ex_eat.1, ex_eat.2, ex_eat.1] at hC
  have HC := Lib.hid hC
  clear hC
  have KYl := KY.lt; have KYc := KY.get; have KYf := KY.fr
  go_upto_region 12 with (go_at_call 52; refine HC.out.mono ?_; rintro e X12 ⟨rfl, hb⟩; have hb12 := Lib.hid hb; clear hb)
  clear HC KYl KYc KYf
  replace HY := Lib.hid (up HY.out hb12.out); replace KY := KY.keep hb12.out; replace kS := kS.keep hb12.out; replace HT := Lib.hid (up HT.out hb12.out)
  clear hb12
  have hC := Lasts_any A 3 c yP B 4 d yK (some ⟨X10.heap.size, 0, none⟩) 2 2 yL 41 X12 (HP.out.keep HY.out) (HG.out.keep HY.out) (ssB X12 76 _ yL kS (by decide))
  have HC := Lib.hid hC
  clear hC
  have KYl := KY.lt; have KYc := KY.get; have KYf := KY.fr
  go_upto_region 13 with (go_at_call 54; refine HC.out.mono ?_; rintro e X13 ⟨lv, lx, rfl, hlv, hb⟩; obtain ⟨rfl, rfl⟩ : lv = 5 ∧ lx = 0 := (by rcases hlv with ⟨h, _⟩ | ⟨_, h⟩; exact absurd ex_las h; exact LasP.one ex_ksOk h ex_lasP); have hb13 := Lib.hid hb; clear hb hlv)
  clear HC KYl KYc KYf
  have hS10 : Y.heap.size < X10.heap.size := KY10l
  replace HY := Lib.hid (up HY.out hb13.out); replace KY := KY.keep hb13.out; replace kS := kS.keep hb13.out; replace HT := Lib.hid (up HT.out hb13.out)
  clear hb13
  obtain ⟨i0, hi0, hz0, hz1, hz2⟩ := info_parts info76
  have HI0 := Lib.hid hi0; have HZ0 := Lib.hid hz0; have HZ1 := Lib.hid hz1; have HZ2 := Lib.hid hz2
  clear hi0 hz0 hz1 hz2
  have hS13 : X10.heap.size < X13.heap.size := kS.lt
  have HKY := Lib.hid KY; have HkS := Lib.hid kS
  clear KY kS
  refine wp_mid (fun w' => Below X10.heap.size X13 w') ?_
  apply Exists.intro
  refine ⟨?_, fun A5 c5 X14 hb14 => ?_⟩
  · refine wp_region_takesS (fun w' => Below X10.heap.size X13 w') 12 8 [0, 1, 2, 3, 4] (by kernel_rfl) (by kernel_rfl) (by kernel_rfl) (by kernel_rfl) (by decide) (fun _ _ _ _ _ h => by cases h.1) (by kernel_rfl) rfl ((show Below X13.heap.size X13 X13.drew by go_grown).mono (by omega)) ?_
    refine wpTakes_step (v := .agg #[.slice A 3 c, .slice B 4 d]) rfl (by rfl) ?_ ?_
    · (rintro _ z9; exact run_get 25 (.tmp 1) rfl rfl (cell_res (HKY.out.keepB z9 hS10) Tryz.underlying25 rfl (by kernel_rfl)))
    simp only [Act.put, List.setIfInBounds_toArray, List.set_cons_zero, List.set_cons_succ]
    refine wpTakes_step (v := ?_) rfl (by rfl) ?_ ?_
    rotate_left
    · (rintro _ z9; go_simp; try (with_reducible rfl))
    simp only [Act.put, List.setIfInBounds_toArray, List.set_cons_zero, List.set_cons_succ]
    refine wpTakes_step (v := ?_) rfl (by rfl) ?_ ?_
    rotate_left
    · (rintro _ z9; go_simp; try (with_reducible rfl))
    simp only [Act.put, List.setIfInBounds_toArray, List.set_cons_zero, List.set_cons_succ]
    refine wpTakes_step (v := ?_) rfl (by rfl) ?_ ?_
    rotate_left
    · (rintro _ z9; go_simp; try (with_reducible rfl))
    simp only [Act.put, List.setIfInBounds_toArray, List.set_cons_zero, List.set_cons_succ]
    refine wpTakes_step (v := ?_) rfl (by rfl) ?_ ?_
    rotate_left
    · (rintro _ z9; go_simp; try (with_reducible rfl))
    simp only [Act.put, List.setIfInBounds_toArray, List.set_cons_zero, List.set_cons_succ]
    simp only [wpTakes]
    refine wpAnyT_step (i := 5) rfl (by kernel_rfl) rfl ?_
    go_wp2_with fail
    refine ⟨(show Below X13.heap.size X13 _ by go_grown).mono (by omega), ?_⟩
    refine wpAnyT_step (i := 6) rfl (by kernel_rfl) rfl ?_
    have kN := Bx.new X13 (scells [⟨1, 5, 9⟩, ⟨1, 5, 9⟩, ⟨4, 5, 6⟩]) 76
    have b1 := up_alloc X13 (.cells ⟨scells [⟨1, 5, 9⟩, ⟨1, 5, 9⟩, ⟨4, 5, 6⟩]⟩ 76)
    rw [show (#[Value.int .i64 1, .int .i64 5, .int .i64 9, .int .i64 1, .int .i64 5, .int .i64 9, .int .i64 4, .int .i64 5, .int .i64 6] : Array Value) = ⟨scells [⟨1, 5, 9⟩, ⟨1, 5, 9⟩, ⟨4, 5, 6⟩]⟩ from rfl]
    generalize X13.alloc (.cells ⟨scells [⟨1, 5, 9⟩, ⟨1, 5, 9⟩, ⟨4, 5, 6⟩]⟩ 76) = V0 at *
    have b2 : Below V0.heap.size V0 V0.drew := by go_grown
    replace kN := kN.keep b2
    have b3 := up b1 b2
    generalize V0.drew = V at *
    have kSV := HkS.out.keep b3
    have hVs := b3.size
    have hown : V.ownsRow X10.heap.size 76 3 (.slice (some ⟨X10.heap.size, 0, none⟩) 2 2) 2 (scells yL) := ⟨rfl, .inr ⟨X10.heap.size, 2, ⟨scells yL⟩, rfl, Nat.le_refl _, kSV.h, Nat.le_refl _, by unfold maxLen; omega, rfl, rfl⟩⟩
    refine wp_append_own _ (.tmp 95) (.tmp 99) 58 rfl X10.heap.size 76 i0 (.agg #[.int .i64 0, .int .i64 0, .int .i64 0]) 3 24 Tryz.underlying58 HI0.out HZ0.out HZ1.out HZ2.out rfl (by decide) (.slice (some ⟨X10.heap.size, 0, none⟩) 2 2) 2 (scells yL) rfl hown ⟨X13.heap.size, 0, none⟩ 3 3 (scells [⟨1, 5, 9⟩, ⟨1, 5, 9⟩, ⟨4, 5, 6⟩]) rfl rfl (fun j u hu => by rw [Addr.add_lit, Nat.zero_add, kN.get]; exact hu) (by intro u hu; simp [scells] at hu; rcases hu with rfl | rfl | rfl | rfl | rfl | rfl | rfl | rfl | rfl <;> rfl) (by unfold maxLen; omega) (by omega) (by omega) ?_
    intro v' w5 hown5 hgr5 _
    have hb5 := below_grown hown (by omega) hgr5
    have hB5 : Below X10.heap.size X13 w5 := (b3.mono (by omega)).trans hb5
    have hown5' : w5.ownsRow X10.heap.size 76 3 v' yL5.length (scells yL5) := hown5
    obtain ⟨A5, c5, rfl, hss⟩ := ssOwn hown5' (by decide) (by decide)
    have HSS := Lib.hid hss; have HB5 := Lib.hid hB5
    refine ⟨hB5, ?_⟩
    clear hown hown5 hown5' hgr5 hb5 hB5 hss kSV kN b1 b2 b3
    have hC := Full_any A 3 c yP B 4 d yK A5 5 c5 yL5 w5 (HP.out.keep (HY.out.trans (HB5.out.mono (by omega)))) (HG.out.keep (HY.out.trans (HB5.out.mono (by omega)))) HSS.out
    rw [ex_full.1, ex_full.2] at hC
    have HC := Lib.hid hC
    clear hC
    refine wpAnyT_step (i := 7) rfl (by kernel_rfl) rfl ?_
    go_wp2_with fail
    refine HC.out.mono ?_
    rintro e w6 ⟨rfl, hb6⟩
    have hB6 : Below X10.heap.size X13 w6 := HB5.out.trans (hb6.mono (by have := HB5.out.size; omega))
    have HB6 := Lib.hid hB6
    refine ⟨hB6, ?_⟩
    clear hb6 hB6 HC
    refine wpAnyT_step (i := 8) rfl (by kernel_rfl) rfl ?_
    go_wp2_with fail
    refine ⟨HB6.out, ?_⟩
    refine wpAnyT_step2 (i := 9) (j := 10) (by kernel_rfl) rfl rfl rfl rfl ?_ ?_
    · go_wp2_with fail
      refine ⟨HB6.out, ?_⟩
      refine wpAnyT_step2 (i := 10) (j := 11) (by kernel_rfl) rfl rfl rfl rfl ?_ ?_
      · go_wp2_with fail
        refine ⟨HB6.out, ?_⟩
        refine wpAnyT_step (i := 11) rfl (by kernel_rfl) rfl ?_
        go_wp2_with fail
        refine ⟨HB6.out, ?_⟩
        refine wpAnyT_tail rfl (by kernel_rfl) (by kernel_rfl) ?_
        simp only [List.drop_succ_cons, List.drop_zero]
        go_wp2
        first | exact HB6.out | exact ⟨⟨A5, c5, rfl⟩, HB6.out⟩
      · go_wp2_with fail
        refine ⟨HB6.out, ?_⟩
        refine wpAnyT_step (i := 10) rfl (by kernel_rfl) rfl ?_
        go_wp2_with fail
        refine ⟨HB6.out, ?_⟩
        refine wpAnyT_tail rfl (by kernel_rfl) (by kernel_rfl) ?_
        simp only [List.drop_succ_cons, List.drop_zero]
        go_wp2
        first | exact HB6.out | exact ⟨⟨A5, c5, rfl⟩, HB6.out⟩
    · go_wp2_with fail
      refine ⟨HB6.out, ?_⟩
      refine wpAnyT_step (i := 9) rfl (by kernel_rfl) rfl ?_
      go_wp2_with fail
      refine ⟨HB6.out, ?_⟩
      refine wpAnyT_step (i := 11) rfl (by kernel_rfl) rfl ?_
      go_wp2_with fail
      refine ⟨HB6.out, ?_⟩
      refine wpAnyT_tail rfl (by kernel_rfl) (by kernel_rfl) ?_
      simp only [List.drop_succ_cons, List.drop_zero]
      go_wp2
      first | exact HB6.out | exact ⟨⟨A5, c5, rfl⟩, HB6.out⟩
  · have hT := HT.out.trans hb14
    replace HY := Lib.hid (HY.out.trans (hb14.mono (by omega)))
    replace R10 := R10.keep hT; replace R12 := R12.keep hT; replace R14 := R14.keep hT; replace Hp := Lib.hid (Hp.out.keep hT); replace Hf := Lib.hid (Hf.out.keep hT); replace H10 := Lib.hid (H10.out.keep hT); replace H12 := Lib.hid (H12.out.keep hT); replace H14 := Lib.hid (H14.out.keep hT); replace Hw := Lib.hid (Hw.out.keep hT)
    clear hT hb14 HT HKY HkS HI0 HZ0 HZ1 HZ2
    go_upto_region 15 with fail

    have R10l := R10.lt; have R10c := R10.get; have R10f := R10.fr; have R12l := R12.lt; have R12c := R12.get; have R12f := R12.fr; have R14l := R14.lt; have R14c := R14.get; have R14f := R14.fr
    go_wp2_with fail
    generalize hW : World.alloc _ _ = V0
    have k26 : Bx V0 X14.heap.size 3 (ints [0, 1, 2, 3]) := by subst hW; exact (Bx.new X14 _ 3).old _
    have kz : Bx V0 (X14.heap.size + 1) 3 (ints [0, 0, 1]) := by subst hW; exact Bx.newAt _ _ _ (by simp)
    have hbz : Below X14.heap.size X14 V0 := by subst hW; go_grown
    clear hW
    clear R10l R10c R10f R12l R12c R12f R14l R14c R14f
    replace HY := Lib.hid (up HY.out hbz); replace R10 := R10.keep hbz; replace R12 := R12.keep hbz; replace R14 := R14.keep hbz; replace Hp := Lib.hid (Hp.out.keep hbz); replace Hf := Lib.hid (Hf.out.keep hbz); replace H10 := Lib.hid (H10.out.keep hbz); replace H12 := Lib.hid (H12.out.keep hbz); replace H14 := Lib.hid (H14.out.keep hbz); replace Hw := Lib.hid (Hw.out.keep hbz)
    clear hbz
    refine Calls.mono (Same_any _ _ _ [0, 0, 1] _ _ _ [0, 0, 1] V0 Hp.out (isB V0 3 _ [0, 0, 1] kz (by decide))) ?_
    rintro e Z0 ⟨rfl, hb⟩
    rw [beq_self_eq_true]
    replace HY := Lib.hid (up HY.out hb); replace R10 := R10.keep hb; replace R12 := R12.keep hb; replace R14 := R14.keep hb; replace Hp := Lib.hid (Hp.out.keep hb); replace Hf := Lib.hid (Hf.out.keep hb); replace H10 := Lib.hid (H10.out.keep hb); replace H12 := Lib.hid (H12.out.keep hb); replace H14 := Lib.hid (H14.out.keep hb); replace Hw := Lib.hid (Hw.out.keep hb); replace k26 := k26.keep hb
    clear hb kz
    have R10l := R10.lt; have R10c := R10.get; have R10f := R10.fr; have R12l := R12.lt; have R12c := R12.get; have R12f := R12.fr; have R14l := R14.lt; have R14c := R14.get; have R14f := R14.fr
    go_wp2_with fail
    generalize hW : World.alloc _ _ = V1
    have kz : Bx V1 Z0.heap.size 3 (ints [0, 2, 4]) := by subst hW; exact Bx.new _ _ _
    have hbz : Below Z0.heap.size Z0 V1 := by subst hW; go_grown
    clear hW
    clear R10l R10c R10f R12l R12c R12f R14l R14c R14f
    replace k26 := k26.keep hbz; replace HY := Lib.hid (up HY.out hbz); replace R10 := R10.keep hbz; replace R12 := R12.keep hbz; replace R14 := R14.keep hbz; replace Hp := Lib.hid (Hp.out.keep hbz); replace Hf := Lib.hid (Hf.out.keep hbz); replace H10 := Lib.hid (H10.out.keep hbz); replace H12 := Lib.hid (H12.out.keep hbz); replace H14 := Lib.hid (H14.out.keep hbz); replace Hw := Lib.hid (Hw.out.keep hbz)
    clear hbz
    refine Calls.mono (Same_any _ _ _ [0, 2, 4] _ _ _ [0, 2, 4] V1 Hf.out (isB V1 3 _ [0, 2, 4] kz (by decide))) ?_
    rintro e Z1 ⟨rfl, hb⟩
    rw [beq_self_eq_true]
    replace HY := Lib.hid (up HY.out hb); replace R10 := R10.keep hb; replace R12 := R12.keep hb; replace R14 := R14.keep hb; replace Hp := Lib.hid (Hp.out.keep hb); replace Hf := Lib.hid (Hf.out.keep hb); replace H10 := Lib.hid (H10.out.keep hb); replace H12 := Lib.hid (H12.out.keep hb); replace H14 := Lib.hid (H14.out.keep hb); replace Hw := Lib.hid (Hw.out.keep hb); replace k26 := k26.keep hb
    clear hb kz
    have R10l := R10.lt; have R10c := R10.get; have R10f := R10.fr; have R12l := R12.lt; have R12c := R12.get; have R12f := R12.fr; have R14l := R14.lt; have R14c := R14.get; have R14f := R14.fr
    go_wp2_with fail
    clear R10l R10c R10f R12l R12c R12f R14l R14c R14f
    refine Calls.mono (Same_any _ _ _ [0, 1, 2, 3] _ _ _ [0, 1, 2, 3] Z1 H10.out (isB Z1 3 _ [0, 1, 2, 3] k26 (by decide))) ?_
    rintro e Z2 ⟨rfl, hb⟩
    rw [beq_self_eq_true]
    replace HY := Lib.hid (up HY.out hb); replace R10 := R10.keep hb; replace R12 := R12.keep hb; replace R14 := R14.keep hb; replace Hp := Lib.hid (Hp.out.keep hb); replace Hf := Lib.hid (Hf.out.keep hb); replace H10 := Lib.hid (H10.out.keep hb); replace H12 := Lib.hid (H12.out.keep hb); replace H14 := Lib.hid (H14.out.keep hb); replace Hw := Lib.hid (Hw.out.keep hb); replace k26 := k26.keep hb
    clear hb
    have R10l := R10.lt; have R10c := R10.get; have R10f := R10.fr; have R12l := R12.lt; have R12c := R12.get; have R12f := R12.fr; have R14l := R14.lt; have R14c := R14.get; have R14f := R14.fr
    go_wp2_with fail
    clear R10l R10c R10f R12l R12c R12f R14l R14c R14f
    refine Calls.mono (Same_any _ _ _ [0, 1, 2, 3] _ _ _ [0, 1, 2, 3] Z2 H12.out (isB Z2 3 _ [0, 1, 2, 3] k26 (by decide))) ?_
    rintro e Z3 ⟨rfl, hb⟩
    rw [beq_self_eq_true]
    replace HY := Lib.hid (up HY.out hb); replace R10 := R10.keep hb; replace R12 := R12.keep hb; replace R14 := R14.keep hb; replace Hp := Lib.hid (Hp.out.keep hb); replace Hf := Lib.hid (Hf.out.keep hb); replace H10 := Lib.hid (H10.out.keep hb); replace H12 := Lib.hid (H12.out.keep hb); replace H14 := Lib.hid (H14.out.keep hb); replace Hw := Lib.hid (Hw.out.keep hb); replace k26 := k26.keep hb
    clear hb
    have R10l := R10.lt; have R10c := R10.get; have R10f := R10.fr; have R12l := R12.lt; have R12c := R12.get; have R12f := R12.fr; have R14l := R14.lt; have R14c := R14.get; have R14f := R14.fr
    go_wp2_with fail
    generalize hW : World.alloc _ _ = V4
    have kz : Bx V4 Z3.heap.size 3 (ints [0, 1, 2, 3, 4]) := by subst hW; exact Bx.new _ _ _
    have hbz : Below Z3.heap.size Z3 V4 := by subst hW; go_grown
    clear hW
    clear R10l R10c R10f R12l R12c R12f R14l R14c R14f
    replace k26 := k26.keep hbz; replace HY := Lib.hid (up HY.out hbz); replace R10 := R10.keep hbz; replace R12 := R12.keep hbz; replace R14 := R14.keep hbz; replace Hp := Lib.hid (Hp.out.keep hbz); replace Hf := Lib.hid (Hf.out.keep hbz); replace H10 := Lib.hid (H10.out.keep hbz); replace H12 := Lib.hid (H12.out.keep hbz); replace H14 := Lib.hid (H14.out.keep hbz); replace Hw := Lib.hid (Hw.out.keep hbz)
    clear hbz
    refine Calls.mono (Same_any _ _ _ [0, 1, 2, 3, 4] _ _ _ [0, 1, 2, 3, 4] V4 H14.out (isB V4 3 _ [0, 1, 2, 3, 4] kz (by decide))) ?_
    rintro e Z4 ⟨rfl, hb⟩
    rw [beq_self_eq_true]
    replace HY := Lib.hid (up HY.out hb); replace R10 := R10.keep hb; replace R12 := R12.keep hb; replace R14 := R14.keep hb; replace Hp := Lib.hid (Hp.out.keep hb); replace Hf := Lib.hid (Hf.out.keep hb); replace H10 := Lib.hid (H10.out.keep hb); replace H12 := Lib.hid (H12.out.keep hb); replace H14 := Lib.hid (H14.out.keep hb); replace Hw := Lib.hid (Hw.out.keep hb); replace k26 := k26.keep hb
    clear hb kz
    have R10l := R10.lt; have R10c := R10.get; have R10f := R10.fr; have R12l := R12.lt; have R12c := R12.get; have R12f := R12.fr; have R14l := R14.lt; have R14c := R14.get; have R14f := R14.fr
    go_wp2_with fail
    generalize hW : World.alloc _ _ = V5
    have kz : Bx V5 Z4.heap.size 3 (ints [0, 0, 1]) := by subst hW; exact Bx.new _ _ _
    have hbz : Below Z4.heap.size Z4 V5 := by subst hW; go_grown
    clear hW
    clear R10l R10c R10f R12l R12c R12f R14l R14c R14f
    replace k26 := k26.keep hbz; replace HY := Lib.hid (up HY.out hbz); replace R10 := R10.keep hbz; replace R12 := R12.keep hbz; replace R14 := R14.keep hbz; replace Hp := Lib.hid (Hp.out.keep hbz); replace Hf := Lib.hid (Hf.out.keep hbz); replace H10 := Lib.hid (H10.out.keep hbz); replace H12 := Lib.hid (H12.out.keep hbz); replace H14 := Lib.hid (H14.out.keep hbz); replace Hw := Lib.hid (Hw.out.keep hbz)
    clear hbz
    refine Calls.mono (Same_any _ _ _ [0, 0, 1] _ _ _ [0, 0, 1] V5 Hw.out (isB V5 3 _ [0, 0, 1] kz (by decide))) ?_
    rintro e Z5 ⟨rfl, hb⟩
    rw [beq_self_eq_true]
    replace HY := Lib.hid (up HY.out hb); replace R10 := R10.keep hb; replace R12 := R12.keep hb; replace R14 := R14.keep hb; replace Hp := Lib.hid (Hp.out.keep hb); replace Hf := Lib.hid (Hf.out.keep hb); replace H10 := Lib.hid (H10.out.keep hb); replace H12 := Lib.hid (H12.out.keep hb); replace H14 := Lib.hid (H14.out.keep hb); replace Hw := Lib.hid (Hw.out.keep hb); replace k26 := k26.keep hb
    clear hb kz
    go_wp2
    go_ret
    exact ⟨rfl, HB0.out.trans (HY.out.mono (by have := HB0.out.size; omega))⟩
end Go.Proofs.YtollccpghhgpfaaGreat

namespace Go.Proofs.YtollccpghhgpfaaGreat
open Go Go.RowKit
set_option maxRecDepth 100000

/-- Small sets, bit by bit. -/
def okA (ap : List Int) : Prop := ∀ j, 0 ≤ ap.getD j 0 ∧ ap.getD j 0 ≤ 1023
theorem bor_bit {a s t : Int} (ha : 0 ≤ a ∧ a ≤ 1023) (hs : 0 ≤ s ∧ s ≤ 9) (ht : 0 ≤ t ∧ t ≤ 9) : (0 ≤ bor a (2 ^ s.toNat) ∧ bor a (2 ^ s.toNat) ≤ 1023) ∧ hasB (bor a (2 ^ s.toNat)) t = (hasB a t || decide (s = t)) := by
  obtain ⟨x, rfl⟩ := Int.eq_ofNat_of_zero_le ha.1
  obtain ⟨n, rfl⟩ := Int.eq_ofNat_of_zero_le hs.1
  obtain ⟨m, rfl⟩ := Int.eq_ofNat_of_zero_le ht.1
  have hp : 2 ^ n < 1024 := by
    have : 2 ^ n ≤ 2 ^ 9 := Nat.pow_le_pow_right (by decide) (by omega)
    omega
  rw [Int.toNat_natCast, show ((2 : Int) ^ n) = ((2 ^ n : Nat) : Int) by simp, bor_nat x (2 ^ n) (by omega) (by omega)]
  have hlt : x ||| 2 ^ n < 2 ^ 10 := Nat.or_lt_two_pow (by omega) (by omega)
  refine ⟨by omega, ?_⟩
  rw [hasB_nat _ m (by omega) (by omega), hasB_nat _ m (by omega) (by omega), Nat.testBit_or, Nat.testBit_two_pow]
  congr 1
  rw [decide_eq_decide]; omega
theorem zero_bit {t : Int} (ht : 0 ≤ t ∧ t ≤ 9) : hasB 0 t = false := by
  obtain ⟨m, rfl⟩ := Int.eq_ofNat_of_zero_le ht.1
  rw [show (0 : Int) = ((0 : Nat) : Int) from rfl, hasB_nat _ m (by omega) (by omega), Nat.zero_testBit]
theorem apStep_ok {s t : Int} {ap : List Int} (h : okA ap) (hl : ap.length = 10) (hs : 0 ≤ s ∧ s ≤ 9) (ht : 0 ≤ t ∧ t ≤ 9) {x y : Int} (hx : 0 ≤ x ∧ x ≤ 9) (hy : 0 ≤ y ∧ y ≤ 9) :
    okA (apStep s ap t) ∧ hasB ((apStep s ap t).getD x.toNat 0) y = (hasB (ap.getD x.toNat 0) y || (decide (s = x) && decide (t = y)) || (decide (t = x) && decide (s = y))) := by
  have h1 := (bor_bit (h s.toNat) ht hy).1
  constructor
  · intro j
    unfold apStep
    rw [getD_set]
    split
    · have h2 : 0 ≤ (ap.set s.toNat (bor (ap.getD s.toNat 0) (2 ^ t.toNat))).getD t.toNat 0 ∧ (ap.set s.toNat (bor (ap.getD s.toNat 0) (2 ^ t.toNat))).getD t.toNat 0 ≤ 1023 := by
        rw [getD_set]; split
        · exact h1
        · exact h _
      exact (bor_bit h2 hs hy).1
    · rw [getD_set]; split
      · exact h1
      · exact h _
  · have h2 : 0 ≤ (ap.set s.toNat (bor (ap.getD s.toNat 0) (2 ^ t.toNat))).getD t.toNat 0 ∧ (ap.set s.toNat (bor (ap.getD s.toNat 0) (2 ^ t.toNat))).getD t.toNat 0 ≤ 1023 := by
      rw [getD_set]; split
      · exact h1
      · exact h _
    have b1 := (bor_bit (h s.toNat) ht hy).2
    have b2 := (bor_bit h2 hs hy).2
    have et : (t.toNat = x.toNat) = (t = x) := by apply propext; constructor <;> intro <;> omega
    have es : (s.toNat = x.toNat) = (s = x) := by apply propext; constructor <;> intro <;> omega
    unfold apStep
    rw [getD_set, List.length_set, hl]
    by_cases e1 : t = x
    · subst e1
      rw [if_pos ⟨rfl, by omega⟩, b2, getD_set, hl]
      by_cases e2 : s = t
      · subst e2; rw [if_pos ⟨rfl, by omega⟩, b1]; simp
      · rw [if_neg (by omega)]; simp [e2]
    · rw [if_neg (by omega), getD_set, hl]
      by_cases e2 : s = x
      · subst e2; rw [if_pos ⟨rfl, by omega⟩, b1]; simp [e1]
      · rw [if_neg (by omega)]; simp [e1, e2]
/-- A bit of what must stand apart from a sort, after more sorts. -/
theorem apFold_ok {s : Int} (hs : 0 ≤ s ∧ s ≤ 9) {x y : Int} (hx : 0 ≤ x ∧ x ≤ 9) (hy : 0 ≤ y ∧ y ≤ 9) (l : List Int) : ∀ ap : List Int, okA ap → ap.length = 10 → (∀ t ∈ l, 0 ≤ t ∧ t ≤ 9) →
    okA (l.foldl (apStep s) ap) ∧ hasB ((l.foldl (apStep s) ap).getD x.toNat 0) y = (hasB (ap.getD x.toNat 0) y || (decide (s = x) && decide (y ∈ l)) || (decide (s = y) && decide (x ∈ l))) := by
  induction l with
  | nil => intro ap h _ _; exact ⟨h, by simp⟩
  | cons t l ih =>
    intro ap h hl ht
    have ht0 := ht t (by simp)
    obtain ⟨h1, h2⟩ := apStep_ok h hl hs ht0 hx hy
    obtain ⟨h3, h4⟩ := ih (apStep s ap t) h1 (by rw [apStep_len]; exact hl) (fun u hu => ht u (by simp [hu]))
    refine ⟨h3, ?_⟩
    have m : ∀ u : Int, decide (u ∈ t :: l) = (decide (t = u) || decide (u ∈ l)) := by
      intro u
      rw [Bool.eq_iff_iff]
      simp only [decide_eq_true_eq, Bool.or_eq_true, List.mem_cons]
      constructor
      · rintro (h | h)
        · exact .inl h.symm
        · exact .inr h
      · rintro (h | h)
        · exact .inl h.symm
        · exact .inr h
    rw [List.foldl_cons, h4, h2, m, m]
    generalize hasB (ap.getD x.toNat 0) y = b0
    generalize decide (s = x) = b1
    generalize decide (s = y) = b2
    generalize decide (t = x) = b3
    generalize decide (t = y) = b4
    generalize decide (y ∈ l) = b5
    generalize decide (x ∈ l) = b6
    cases b0 <;> cases b1 <;> cases b2 <;> cases b3 <;> cases b4 <;> cases b5 <;> cases b6 <;> rfl
theorem eachK_mem (a : Int) : ∀ k, k ≤ 9 → ∀ t, t ∈ eachK a k ↔ (9 - (k : Int) < t ∧ t ≤ 9 ∧ hasB a t = true) := by
  intro k
  induction k with
  | zero => intro _ t; simp [eachK]; omega
  | succ k ih =>
    intro hk t
    rw [eachK]
    split
    · rename_i h
      rw [List.mem_append, ih (by omega)]
      constructor
      · rintro (⟨a1, a2, a3⟩ | h2)
        · exact ⟨by omega, a2, a3⟩
        · simp at h2; subst h2; exact ⟨by omega, by omega, h⟩
      · rintro ⟨a1, a2, a3⟩
        by_cases e : t = 9 - (k : Int)
        · right; simp [e]
        · left; exact ⟨by omega, a2, a3⟩
    · rename_i h
      rw [ih (by omega)]
      constructor
      · rintro ⟨a1, a2, a3⟩; exact ⟨by omega, a2, a3⟩
      · rintro ⟨a1, a2, a3⟩
        by_cases e : t = 9 - (k : Int)
        · subst e; exact absurd a3 h
        · exact ⟨by omega, a2, a3⟩
theorem eachL_mem {a t : Int} : t ∈ eachL a ↔ (1 ≤ t ∧ t ≤ 9 ∧ hasB a t = true) := by
  unfold eachL
  rw [eachK_mem a 9 (by omega)]
  constructor
  · rintro ⟨h1, h2, h3⟩; exact ⟨by omega, h2, h3⟩
  · rintro ⟨h1, h2, h3⟩; exact ⟨by omega, h2, h3⟩
theorem apKs_ok {x y : Int} (hx : 1 ≤ x ∧ x ≤ 9) (hy : 1 ≤ y ∧ y ≤ 9) (K : List Kd) : ∀ ap : List Int, okA ap → ap.length = 10 → (∀ k ∈ K, kdOk k = true) →
    okA (K.foldl apKd ap) ∧ hasB ((K.foldl apKd ap).getD x.toNat 0) y = (hasB (ap.getD x.toNat 0) y || K.any (fun k => decide (k.s = x) && hasB k.a y || decide (k.s = y) && hasB k.a x)) := by
  induction K with
  | nil => intro ap h _ _; exact ⟨h, by simp⟩
  | cons k K ih =>
    intro ap h hl hk
    have hk0 := kdOk_iff.1 (hk k (by simp))
    obtain ⟨h1, h2⟩ := apFold_ok (s := k.s) (by omega) (x := x) (y := y) (by omega) (by omega) (eachL k.a) ap h hl (fun t ht => by have := (eachL_mem.1 ht); omega)
    obtain ⟨h3, h4⟩ := ih (apKd ap k) h1 (by rw [apKd_len]; exact hl) (fun u hu => hk u (by simp [hu]))
    refine ⟨h3, ?_⟩
    rw [List.foldl_cons, h4]
    have e : hasB ((apKd ap k).getD x.toNat 0) y = _ := h2
    have m1 : decide (y ∈ eachL k.a) = hasB k.a y := by
      cases hb : hasB k.a y
      · simp [eachL_mem, hb]
      · simp [eachL_mem, hb]; omega
    have m2 : decide (x ∈ eachL k.a) = hasB k.a x := by
      cases hb : hasB k.a x
      · simp [eachL_mem, hb]
      · simp [eachL_mem, hb]; omega
    rw [e, m1, m2, List.any_cons]
    cases hasB (ap.getD x.toNat 0) y <;> cases hasB k.a y <;> cases hasB k.a x <;> cases decide (k.s = x) <;> cases decide (k.s = y) <;> simp
theorem ap0_ok : okA ap0 := by
  intro j
  by_cases h : j < 10
  · rcases (by omega : j = 0 ∨ j = 1 ∨ j = 2 ∨ j = 3 ∨ j = 4 ∨ j = 5 ∨ j = 6 ∨ j = 7 ∨ j = 8 ∨ j = 9) with rfl | rfl | rfl | rfl | rfl | rfl | rfl | rfl | rfl | rfl <;> (show (0 : Int) ≤ 0 ∧ (0 : Int) ≤ 1023; decide)
  · rw [List.getD_eq_getElem?_getD, List.getElem?_eq_none (by show 10 ≤ j; omega)]; decide
/-- The sorts of a valid yard are rising. -/
theorem ks_lt {K : List Kd} (h : ksOk K = true) {i j : Nat} (hij : i < j) (hj : j < K.length) : (K[i]'(by omega)).s < K[j].s := by
  induction j with
  | zero => omega
  | succ j ih =>
    have h1 := ksOk_at h hj
    simp only [ksAt, Bool.and_eq_true, Bool.or_eq_true, beq_iff_eq, decide_eq_true_eq] at h1
    have h2 : (K[j]'(by omega)).s < K[j + 1].s := by
      rcases h1.2 with h2 | h2
      · omega
      · simpa [hj, show j < K.length by omega] using h2
    by_cases e : i = j
    · subst e; exact h2
    · have := ih (by omega) (by omega); omega
theorem kd_uniq {K : List Kd} (h : ksOk K = true) {k : Kd} (hk : k ∈ K) : kdD K k.s = k := by
  obtain ⟨i, hi, rfl⟩ := List.mem_iff_getElem.1 hk
  cases hf : kd? K K[i].s with
  | none =>
    have := List.find?_eq_none.1 hf K[i] hk
    simp at this
  | some q =>
    rw [(kdD_some hf).1]
    obtain ⟨hq, hs⟩ := kd_mem hf
    obtain ⟨j, hj, rfl⟩ := List.mem_iff_getElem.1 hq
    rcases Nat.lt_trichotomy i j with h1 | h1 | h1
    · have := ks_lt h h1 hj; omega
    · subst h1; rfl
    · have := ks_lt h h1 hi; omega
theorem any_apart {K : List Kd} (h : ksOk K = true) {x y : Int} (hy : 0 ≤ y ∧ y ≤ 9) : K.any (fun k => decide (k.s = x) && hasB k.a y) = hasB (kdD K x).a y := by
  cases hb : hasB (kdD K x).a y
  · rw [List.any_eq_false]
    intro k hk
    by_cases e : k.s = x
    · subst e; rw [kd_uniq h hk] at hb; simp [hb]
    · simp [e]
  · rw [List.any_eq_true]
    cases hf : kd? K x with
    | none => rw [(kdD_none hf).1] at hb; rw [show kd0.a = 0 from rfl, zero_bit hy] at hb; cases hb
    | some q =>
      rw [(kdD_some hf).1] at hb
      obtain ⟨hq, hs⟩ := kd_mem hf
      exact ⟨q, hq, by simp [hs, hb]⟩
theorem any_or2 (K : List Kd) (p q : Kd → Bool) : K.any (fun k => p k || q k) = (K.any p || K.any q) := by
  induction K with
  | nil => rfl
  | cons k K ih => rw [List.any_cons, List.any_cons, List.any_cons, ih]; cases p k <;> cases q k <;> cases K.any p <;> rfl
/-- Both sides say the same of two sorts. -/
theorem apL_apt {K : List Kd} (h : ksOk K = true) {x y : Int} (hx : 1 ≤ x ∧ x ≤ 9) (hy : 1 ≤ y ∧ y ≤ 9) : hasB ((apL K).getD x.toNat 0) y = aptB K x y := by
  have := (apKs_ok hx hy K ap0 ap0_ok rfl (ksOk_kd h)).2
  unfold apL
  rw [this]
  have e0 : hasB (ap0.getD x.toNat 0) y = false := by
    have : ap0.getD x.toNat 0 = 0 := by
      rcases (by omega : x = 1 ∨ x = 2 ∨ x = 3 ∨ x = 4 ∨ x = 5 ∨ x = 6 ∨ x = 7 ∨ x = 8 ∨ x = 9) with rfl | rfl | rfl | rfl | rfl | rfl | rfl | rfl | rfl <;> rfl
    rw [this, zero_bit (by omega)]
  rw [e0, Bool.false_or]
  unfold aptB
  rw [← any_apart h (x := x) (y := y) (by omega), ← any_apart h (x := y) (y := x) (by omega)]
  exact any_or2 K _ _
theorem apP_apR (P : List Int) (K : List Kd) (x y : Int) : apP P K x y = apR P K x y := by
  unfold apP apR
  by_cases h : sE P K [x, y] = 0
  · obtain ⟨hy, -, hl⟩ := sE_0 h
    have hK := (yOk_k hy).2.2
    have hxy := lOk2 hl
    rw [apL_apt hK (sort_in hK hxy.1) (sort_in hK hxy.2)]
  · have : (sE P K [x, y] == 0) = false := by simpa using h
    rw [this]; rfl
end Go.Proofs.YtollccpghhgpfaaGreat

namespace Go.Proofs.YtollccpghhgpfaaGreat
open Go Go.ChangeShapes Go.WideShapes Go.RowKit Go.Deep
set_option maxHeartbeats 4000000
set_option maxRecDepth 100000

theorem penChecks_any (A : Option Addr) (n c : Nat) (P : List Int) (B : Option Addr) (m d : Nat) (K : List Kd) (L : Option Addr) (r s : Nat) (l : List Int) (x y : Int) (w : World) (hp : Is w A n P) (hg : Ks w B m K) (hl : Is w L r l) :
    Calls Tryz.prog 3 #[.agg #[.slice A n c, .slice B m d], .slice L r s, .agg #[.int .i64 x, .int .i64 y]] w fun e w' => e = .returned (.bool true) ∧ Below w.heap.size w w' := by
  have Hp := Lib.hid hp; have Hg := Lib.hid hg; have Hl := Lib.hid hl
  have HAp := Lib.hid (apP_apR P K x y)
  clear hp hg hl
  go_enter Tryz.func3, Tryz.ntmps3
  go_upto_region 1 with fail
  generalize hW : (World.alloc _ _) = W
  have HB : Hid (Below w.heap.size w W) := Lib.hid (by subst hW; go_grown)
  have KY : Bx W (w.heap.size) 25 [.slice A n c, .slice B m d] := by subst hW; repeat (first | (refine Bx.newAt _ _ _ ?_; first | rfl | (simp only [World.size_alloc]; done) | (simp only [World.size_alloc]; omega)) | refine Bx.old ?_ _)
  have KS : Bx W (w.heap.size + 1) 26 [.int .i64 x, .int .i64 y] := by subst hW; repeat (first | (refine Bx.newAt _ _ _ ?_; first | rfl | (simp only [World.size_alloc]; done) | (simp only [World.size_alloc]; omega)) | refine Bx.old ?_ _)
  clear hW
  have KYl := KY.lt; have KYc := KY.get; have KYf := KY.fr; have KSl := KS.lt; have KSc := KS.get; have KSf := KS.fr
  go_upto_region 2 with (go_at_call 14; refine (Room_any A n c P B m d K L r s l _ (Hp.out.keep HB.out) (Hg.out.keep HB.out) (Hl.out.keep HB.out)).mono ?_; rintro e X ⟨rfl, hbx⟩; clear KYl KYc KYf; replace KY := KY.keep hbx; have KYl := KY.lt; have KYc := KY.get; have KYf := KY.fr; clear KSl KSc KSf; replace KS := KS.keep hbx; have KSl := KS.lt; have KSc := KS.get; have KSf := KS.fr; replace HB := Lib.hid (up HB.out hbx); clear hbx)
  go_upto_region 3 with (go_at_call 15; refine (rRoom_any A n c P B m d K L r s l _ (Hp.out.keep HB.out) (Hg.out.keep HB.out) (Hl.out.keep HB.out)).mono ?_; rintro e X ⟨rfl, hbx⟩; clear KYl KYc KYf; replace KY := KY.keep hbx; have KYl := KY.lt; have KYc := KY.get; have KYf := KY.fr; clear KSl KSc KSf; replace KS := KS.keep hbx; have KSl := KS.lt; have KSc := KS.get; have KSf := KS.fr; replace HB := Lib.hid (up HB.out hbx); clear hbx)
  generalize (if sE P K l = 0 then sumR (bsL K l) else 0) = R at *
  go_upto_region 4 with (go_at_call 16; refine (Apart_any A n c P B m d K x y _ (Hp.out.keep HB.out) (Hg.out.keep HB.out)).mono ?_; rw [HAp.out]; rintro e X ⟨rfl, hbx⟩; clear KYl KYc KYf; replace KY := KY.keep hbx; have KYl := KY.lt; have KYc := KY.get; have KYf := KY.fr; clear KSl KSc KSf; replace KS := KS.keep hbx; have KSl := KS.lt; have KSc := KS.get; have KSf := KS.fr; replace HB := Lib.hid (up HB.out hbx); clear hbx)
  go_upto_region 5 with (go_at_call 17; refine (rApart_any A n c P B m d K x y _ (Hp.out.keep HB.out) (Hg.out.keep HB.out)).mono ?_; rintro e X ⟨rfl, hbx⟩; clear KYl KYc KYf; replace KY := KY.keep hbx; have KYl := KY.lt; have KYc := KY.get; have KYf := KY.fr; clear KSl KSc KSf; replace KS := KS.keep hbx; have KSl := KS.lt; have KSc := KS.get; have KSf := KS.fr; replace HB := Lib.hid (up HB.out hbx); clear hbx)
  have HEQ : Hid (∀ V, Below w.heap.size w V → Calls Tryz.prog 18 #[.agg #[.slice A n c, .slice B m d]] V fun e w' => e = .returned (.int .i64 (yE P K)) ∧ Below V.heap.size V w') := Lib.hid (fun V hV => checkYard_any A n c P B m d K V (Hp.out.keep hV) (Hg.out.keep hV))
  have HEQ2 : Hid (∀ V, Below w.heap.size w V → Calls Tryz.prog 19 #[.agg #[.slice A n c, .slice B m d]] V fun e w' => e = .returned (.int .i64 (yE P K)) ∧ Below V.heap.size V w') := Lib.hid (fun V hV => rcheckYard_any A n c P B m d K V (Hp.out.keep hV) (Hg.out.keep hV))
  have HES : Hid (∀ V, Below w.heap.size w V → Calls Tryz.prog 20 #[.agg #[.slice A n c, .slice B m d], .slice L r s] V fun e w' => e = .returned (.int .i64 (sE P K l)) ∧ Below V.heap.size V w') := Lib.hid (fun V hV => checkSorts_any A n c P B m d K L r s l V (Hp.out.keep hV) (Hg.out.keep hV) (Hl.out.keep hV))
  have HES2 : Hid (∀ V, Below w.heap.size w V → Calls Tryz.prog 21 #[.agg #[.slice A n c, .slice B m d], .slice L r s] V fun e w' => e = .returned (.int .i64 (sE P K l)) ∧ Below V.heap.size V w') := Lib.hid (fun V hV => rcheckSorts_any A n c P B m d K L r s l V (Hp.out.keep hV) (Hg.out.keep hV) (Hl.out.keep hV))
  generalize yE P K = E1 at *
  generalize sE P K l = E2 at *
  generalize sE P K [x, y] = E3 at *
  generalize apR P K x y = AR at *
  clear HAp Hp Hg Hl
  refine wp_region_grow (by kernel_rfl) (by kernel_rfl) ?_
  repeat (go_big_quiet_step ((first | (go_at_call 18; exact quiet_grow rfl (HEQ.out _ (up HB.out (grow_below _ _)))) | (go_at_call 19; exact quiet_grow rfl (HEQ2.out _ (up HB.out (grow_below _ _)))) | (go_at_call 20; exact quiet_grow rfl (HES.out _ (up HB.out (grow_below _ _)))) | (go_at_call 21; exact quiet_grow rfl (HES2.out _ (up HB.out (grow_below _ _)))) | (go_at_call 22; exact quiet_grow rfl (sane_any _)))))
  refine wpQuiet_nil ?_
  intro z
  go_wp2
  go_ret
  exact ⟨rfl, up HB.out (grow_below _ _)⟩
end Go.Proofs.YtollccpghhgpfaaGreat

namespace Go.Proofs.YtollccpghhgpfaaGreat
open Go Go.RowKit
set_option maxHeartbeats 2000000
set_option maxRecDepth 100000

theorem lOk_in {K : List Kd} {l : List Int} (hK : ksOk K = true) (hl : lOk K l = true) : ∀ x ∈ l, 1 ≤ x ∧ x ≤ 9 := by
  intro x hx
  have h1 : kdI K x = true := List.all_eq_true.1 hl x hx
  cases h : kd? K x with
  | none => rw [(kdD_none h).2] at h1; cases h1
  | some q =>
    have h2 := (kd_mem h)
    have := kdOk_iff.1 (ksOk_kd hK q h2.1)
    omega

theorem rapart_b (A : Option Addr) (n c : Nat) (B : Option Addr) (m d : Nat) (K : List Kd) (x y : Int) (b : Bool) (w : World) (hg : Ks w B m K) (hK : ksOk K = true) (hx : 0 ≤ x ∧ x ≤ 9) (hy : 0 ≤ y ∧ y ≤ 9) (h : aptB K x y = b) :
    Calls Tryz.prog 69 #[.agg #[.slice A n c, .slice B m d], .int .i64 x, .int .i64 y] w fun e w' => e = .returned (.bool b) ∧ Below w.heap.size w w' := h ▸ rapart_any A n c B m d K x y w hg hK hx hy

theorem rfits_any (A : Option Addr) (n c : Nat) (P : List Int) (B : Option Addr) (m d : Nat) (K : List Kd) (L : Option Addr) (r s : Nat) (l : List Int) (C : Option Addr) (u v : Nat) (p : List Int) (i q : Nat) (w : World)
    (hp : Is w A n P) (hg : Ks w B m K) (hl : Is w L r l) (hc : Is w C u p) (hK : ksOk K = true) (hlo : lOk K l = true) (hi : i < l.length) (hpl : p.length ≤ l.length) (hq : q < P.length) (h40 : l.length ≤ 1000) :
    Calls Tryz.prog 86 #[.agg #[.slice A n c, .slice B m d], .slice L r s, .slice C u v, .int .i64 (i : Int), .int .i64 (q : Int)] w fun e w' => e = .returned (.bool (fitS P K l p i q)) ∧ Below w.heap.size w w' := by
  have Hr : Hid (r = l.length) := Lib.hid hl.len
  have Hu : Hid (u = p.length) := Lib.hid hc.len
  have Hn : Hid (n = P.length) := Lib.hid hp.len
  have hir : i < r := by rw [hl.len]; exact hi
  have hur : u ≤ r := by rw [hl.len, hc.len]; exact hpl
  have hqn : q < n := by rw [hp.len]; exact hq
  have hr40 : r ≤ 1000 := by rw [hl.len]; exact h40
  have hnx := hp.small
  have Hin := Lib.hid (lOk_in hK hlo)
  have HK := Lib.hid hK
  have Hp := Lib.hid hp; have Hg := Lib.hid hg; have Hl := Lib.hid hl; have Hc := Lib.hid hc
  clear hp hg hl hc hK hlo
  go_enter Tryz.func86, Tryz.ntmps86
  go_upto_region 1 with fail
  generalize hW : (World.alloc _ _) = W
  have HB : Hid (Below w.heap.size w W) := Lib.hid (by subst hW; go_grown)
  have KY : Bx W (w.heap.size) 25 [.slice A n c, .slice B m d] := by subst hW; repeat (first | (refine Bx.newAt _ _ _ ?_; first | rfl | (simp only [World.size_alloc]; done) | (simp only [World.size_alloc]; omega)) | refine Bx.old ?_ _)
  clear hW
  have KYl := KY.lt; have KYc := KY.get; have KYf := KY.fr
  obtain ⟨bi, oi, hLi, hbi, hci⟩ := (Hl.out.keep HB.out).get i hi
  have Hci := Lib.hid hci
  have Hi0 : Hid (l.getD i 0 = l[i]) := Lib.hid (by simp [hi])
  have HLi := Lib.hid hLi
  subst hLi
  generalize hyi : l[i] = yi at hci Hi0
  have Hyi := Lib.hid hyi; clear hyi
  refine wp_region_grow (by kernel_rfl) (by kernel_rfl) ?_
  repeat (go_big_quiet_step (((go_at_call 81; exact quiet_grow rfl (rroom_any _ _ _ _ _ _ K _ _ ((Hg.out.keep HB.out).keep (grow_below _ _)))))))
  refine wpQuiet_nil ?_
  intro z
  have hb := grow_below W z
  generalize grow W z = V at *
  clear KYl KYc KYf; replace KY := KY.keep hb; have KYl := KY.lt; have KYc := KY.get; have KYf := KY.fr; replace HB := Lib.hid (up HB.out hb); clear hb
  clear hci hbi
  have H0 : Hid (fitK K l p i q 0 = some (kdD K yi).r) := Lib.hid (by unfold fitK; rw [Hi0.out])
  go_wp2_with fail
  clear KYl KYc KYf
  go_loopw [11, 21] (fun nn k wr => ∃ (j : Nat) (x : Int), j ≤ u ∧ k = .int .i64 j ∧ nn = .int .i64 x ∧ Below w.heap.size w wr ∧ Bx wr w.heap.size 25 [.slice A n c, .slice B m d] ∧ fitK K l p i q j = some x) (fun _ k _ => u - (intOf k).toNat)
  case atStart => exact ⟨0, _, by omega, rfl, rfl, HB.out, KY, H0.out⟩
  case round =>
    clear KY
    obtain ⟨j, x, hj, rfl, rfl, hb, KY, hx⟩ := hrel
    replace HB := Lib.hid hb
    have Hx := Lib.hid hx
    obtain ⟨x0, x1⟩ := fitK_le HK.out j x hx
    have hx2 : x ≤ 1001000 := by omega
    clear hb hx x1
    have KYl := KY.lt; have KYc := KY.get; have KYf := KY.fr
    by_cases hlt : j < u
    · have hjp : j < p.length := by rw [← Hu.out]; exact hlt
      have hjl : j < l.length := by omega
      have Hnx : Hid (fitK K l p i q (j + 1) = if (p[j] != (q : Int) || j == i) = true then some x else if aptB K l[j] yi = true then none else some (x + (kdD K l[j]).r)) := Lib.hid (by
        rw [fitK, Hx.out, Hi0.out]; simp [hjp, hjl])
      have Hno : Hid (fitK K l p i q (j + 1) = none → fitS P K l p i q = false) := Lib.hid (fitS_none hjp)
      obtain ⟨b, o, rfl, hb, hc⟩ := (Hc.out.keep HB.out).get j hjp
      obtain ⟨b2, o2, e2, hb2, hc2⟩ := (Hl.out.keep HB.out).get j hjl
      obtain ⟨rfl, rfl⟩ : bi = b2 ∧ oi = o2 := by simpa using e2
      obtain ⟨b3, o3, e3, hb3, hc3⟩ := (Hl.out.keep HB.out).get i hi
      obtain ⟨rfl, rfl⟩ : bi = b3 ∧ oi = o3 := by simpa using e3
      rw [Hyi.out] at hc3
      have hl1 := Hin.out l[j] (List.getElem_mem hjl)
      have hl2 := Hin.out l[i] (List.getElem_mem hi)
      rw [Hyi.out] at hl2
      have hrj := kdD_in HK.out l[j]
      clear e2 e3
      generalize p[j] = pj at *
      generalize l[j] = lj at *
      by_cases h1 : pj = (q : Int)
      rotate_left
      · have h1b : (pj != (q : Int)) = true := by simpa using h1
        rw [h1b] at Hnx
        clear h1
        go_wp2
        exact ⟨⟨j + 1, x, by omega, by go_num, rfl, HB.out, KY, by rw [Hnx.out]; rfl⟩, by simp [intOf]; omega⟩
      have h1b : (pj != (q : Int)) = false := by simpa using h1
      rw [h1b] at Hnx
      clear h1
      by_cases h2 : j = i
      · subst h2
        go_wp2
        exact ⟨⟨j + 1, x, by omega, by go_num, rfl, HB.out, KY, by rw [Hnx.out]; simp⟩, by simp [intOf]; omega⟩
      have h2b : ((j : Int) == (i : Int)) = false := by simp; omega
      have h2c : (j == i) = false := by simpa using h2
      rw [h2c] at Hnx
      cases ha : aptB K lj yi
      · have Ha := Lib.hid ha; clear ha
        go_upto_region 6 with fail
        refine wp_region_grow (by kernel_rfl) (by kernel_rfl) ?_
        repeat (go_big_quiet_step (((go_at_call 69; exact quiet_grow rfl (rapart_b _ _ _ _ _ _ K _ _ _ _ ((Hg.out.keep HB.out).keep (grow_below _ _)) HK.out (by omega) (by omega) Ha.out)))))
        refine wpQuiet_nil ?_
        intro z
        have hb := grow_below wr z
        have e1 : b < wr.heap.size := hb.size |> fun _ => by assumption
        replace hc2 := (hb.cell (p := ⟨bi, oi + j, none⟩) hb2).trans hc2
        have hb2' : bi < (grow wr z).heap.size := by have := hb.size; omega
        generalize grow wr z = V1 at *
        clear KYl KYc KYf; replace KY := KY.keep hb; have KYl := KY.lt; have KYc := KY.get; have KYf := KY.fr; replace HB := Lib.hid (up HB.out hb); clear hb
        go_upto_region 8 with fail
        refine wp_region_grow (by kernel_rfl) (by kernel_rfl) ?_
        repeat (go_big_quiet_step (((go_at_call 81; exact quiet_grow rfl (rroom_any _ _ _ _ _ _ K _ _ ((Hg.out.keep HB.out).keep (grow_below _ _)))))))
        refine wpQuiet_nil ?_
        intro z
        have hb := grow_below V1 z
        generalize grow V1 z = V2 at *
        clear KYl KYc KYf; replace KY := KY.keep hb; have KYl := KY.lt; have KYc := KY.get; have KYf := KY.fr; replace HB := Lib.hid (up HB.out hb); clear hb
        have ew : IntKind.i64.wrap (x + (kdD K lj).r) = x + (kdD K lj).r := by rw [IntWalk.i64_in _ (by omega)]
        go_wp2
        refine ⟨⟨j + 1, x + (kdD K lj).r, by omega, by go_num, ?_, HB.out, KY, by rw [Hnx.out, Ha.out]; simp⟩, by simp [intOf]; omega⟩
        first | rfl | (rw [ew]) | simp
      · have Ha := Lib.hid ha; clear ha
        go_upto_region 6 with fail
        refine wp_region_grow (by kernel_rfl) (by kernel_rfl) ?_
        repeat (go_big_quiet_step (((go_at_call 69; exact quiet_grow rfl (rapart_b _ _ _ _ _ _ K _ _ _ _ ((Hg.out.keep HB.out).keep (grow_below _ _)) HK.out (by omega) (by omega) Ha.out)))))
        refine wpQuiet_nil ?_
        intro z
        go_wp2
        go_ret
        exact ⟨ret_bool (Hno.out (by rw [Hnx.out, Ha.out]; rfl)).symm, up HB.out (grow_below _ _)⟩
    · obtain rfl : j = u := by omega
      obtain ⟨b, o, rfl, hb, hc⟩ := (Hp.out.keep HB.out).get q hq
      have Hf : Hid (fitS P K l p i q = decide (x ≤ P[q])) := Lib.hid (by unfold fitS; rw [← Hu.out, Hx.out]; simp [hq])
      generalize P[q] = pq at *
      go_wp2
      go_ret
      exact ⟨ret_bool Hf.out.symm, HB.out⟩
end Go.Proofs.YtollccpghhgpfaaGreat

namespace Go.Proofs.YtollccpghhgpfaaGreat
open Go Go.RowKit
set_option maxHeartbeats 2000000
set_option maxRecDepth 100000

theorem rwithin_g (n lo hi : Int) (b : Bool) (w : World) (h : inB n lo hi = b) : Calls Tryz.prog 72 #[.int .i64 n, .int .i64 lo, .int .i64 hi] w fun e w' => e = .returned (.bool b) ∧ Below w.heap.size w w' := rwithin_b n lo hi b w h
section
variable (A : Option Addr) (n c : Nat) (P : List Int) (B : Option Addr) (m d : Nat) (K : List Kd) (L : Option Addr) (r s : Nat) (l : List Int) (C : Option Addr) (u v : Nat) (p : List Int) (w : World)
  (hp : Is w A n P) (hg : Ks w B m K) (hl : Is w L r l) (hc : Is w C u p)
include hp hg hl hc
theorem rfits_b (i q : Nat) (b : Bool) (hK : ksOk K = true) (hlo : lOk K l = true) (hi : i < l.length) (hpl : p.length ≤ l.length) (hq : q < P.length) (h40 : l.length ≤ 1000) (h : fitS P K l p i q = b) :
    Calls Tryz.prog 86 #[.agg #[.slice A n c, .slice B m d], .slice L r s, .slice C u v, .int .i64 (i : Int), .int .i64 (q : Int)] w fun e w' => e = .returned (.bool b) ∧ Below w.heap.size w w' :=
  h ▸ rfits_any A n c P B m d K L r s l C u v p i q w hp hg hl hc hK hlo hi hpl hq h40

theorem risPlace_any (hK : ksOk K = true) (hlo : lOk K l = true) (h40 : l.length ≤ 1000) :
    Calls Tryz.prog 89 #[.agg #[.slice A n c, .slice B m d], .slice L r s, .slice C u v] w fun e w' => e = .returned (.bool (isPlB P K l p)) ∧ Below w.heap.size w w' := by
  have Hr : Hid (r = l.length) := Lib.hid hl.len
  have Hu : Hid (u = p.length) := Lib.hid hc.len
  have Hn : Hid (n = P.length) := Lib.hid hp.len
  have hr40 : r ≤ 1000 := by rw [hl.len]; exact h40
  have hnx := hp.small
  have hux := hc.small
  have HK := Lib.hid hK
  have HL := Lib.hid hlo
  have Hp := Lib.hid hp; have Hg := Lib.hid hg; have Hl := Lib.hid hl; have Hc := Lib.hid hc
  clear hp hg hl hc hK hlo
  go_enter Tryz.func89, Tryz.ntmps89
  go_upto_region 1 with fail
  generalize hW : (World.alloc _ _) = W
  have HB : Hid (Below w.heap.size w W) := Lib.hid (by subst hW; go_grown)
  have KY : Bx W (w.heap.size) 25 [.slice A n c, .slice B m d] := by subst hW; repeat (first | (refine Bx.newAt _ _ _ ?_; first | rfl | (simp only [World.size_alloc]; done) | (simp only [World.size_alloc]; omega)) | refine Bx.old ?_ _)
  clear hW
  have KYl := KY.lt; have KYc := KY.get; have KYf := KY.fr
  by_cases hru : r = u
  rotate_left
  · have hne : ((r : Int) != (u : Int)) = true := by simp; omega
    have hS : Hid (isPlB P K l p = false) := Lib.hid (by unfold isPlB; rw [Bool.and_eq_false_iff]; left; simp; rw [← Hr.out, ← Hu.out]; exact hru)
    go_wp2
    go_ret
    exact ⟨ret_bool hS.out.symm, HB.out⟩
  have Hlp0 : Hid (l.length = p.length) := Lib.hid (by rw [← Hr.out, ← Hu.out]; exact hru)
  obtain rfl : r = u := hru
  have hne : ((r : Int) != (r : Int)) = false := by simp
  have Hlp : Hid (l.length = p.length) := Hlp0
  go_wp2
  clear hne
  clear KYl KYc KYf
  go_loopw [15] (fun k wr => ∃ (j : Nat), j ≤ r ∧ k = .int .i64 j ∧ Below w.heap.size w wr ∧ Bx wr w.heap.size 25 [.slice A n c, .slice B m d] ∧ ∀ i, i < j → isPlK P K l p i = true) (fun k _ => r - (intOf k).toNat)
  case atStart => exact ⟨0, by omega, rfl, HB.out, KY, fun i h => by omega⟩
  case round =>
    clear KY
    obtain ⟨j, hj, rfl, hb, KY, hall⟩ := hrel
    replace HB := Lib.hid hb
    have Hall := Lib.hid hall
    clear hb hall
    have KYl := KY.lt; have KYc := KY.get; have KYf := KY.fr
    by_cases hlt : j < r
    · have hjl : j < l.length := by rw [← Hr.out]; exact hlt
      have hjp : j < p.length := by rw [← Hlp.out]; exact hjl
      have Hst : Hid (isPlK P K l p j = true → ∀ i, i < j + 1 → isPlK P K l p i = true) := Lib.hid (fun h i hi => by
        by_cases e : i = j
        · subst e; exact h
        · exact Hall.out i (by omega))
      have Hno : Hid (isPlK P K l p j = false → isPlB P K l p = false) := Lib.hid (isPlB_no hjl)
      have Hk : Hid (isPlK P K l p j = (inB p[j] 0 ((n : Int) - 1) && fitS P K l p j p[j])) := Lib.hid (by unfold isPlK; rw [Hn.out]; simp [hjp])
      obtain ⟨b, o, rfl, hb, hc⟩ := (Hc.out.keep HB.out).get j hjp
      generalize p[j] = q at *
      have e1 : IntKind.i64.wrap ((n : Int) - 1) = (n : Int) - 1 := by rw [IntWalk.i64_in _ (by omega)]
      cases hq : inB q 0 ((n : Int) - 1)
      · have Hq := Lib.hid hq; clear hq
        go_upto_region 6 with fail
        refine wp_region_grow (by kernel_rfl) (by kernel_rfl) ?_
        repeat (go_big_quiet_step (((go_at_call 72; exact quiet_grow rfl (rwithin_g _ _ _ _ _ Hq.out)))))
        refine wpQuiet_nil ?_
        intro z
        clear e1
        go_wp2
        go_ret
        exact ⟨ret_bool (Hno.out (by rw [Hk.out, Hq.out]; rfl)).symm, up HB.out (grow_below _ _)⟩
      have Hq := Lib.hid hq
      rw [inB_iff] at hq
      obtain ⟨q, rfl⟩ := Int.eq_ofNat_of_zero_le hq.1
      have hqn : q < P.length := by rw [← Hn.out]; omega
      clear hq
      have hpl : p.length ≤ l.length := by rw [Hlp.out]; exact Nat.le_refl _
      cases hf : fitS P K l p j (q : Int)
      all_goals
        have Hf := Lib.hid hf; clear hf
        go_upto_region 6 with fail
        refine wp_region_grow (by kernel_rfl) (by kernel_rfl) ?_
        repeat (go_big_quiet_step (((first | (go_at_call 72; exact quiet_grow rfl (rwithin_g _ _ _ _ _ Hq.out)) | (go_at_call 86; exact quiet_grow rfl (rfits_b _ _ _ P _ _ _ K _ _ _ l _ _ _ p _ ((Hp.out.keep HB.out).keep (grow_below _ _)) ((Hg.out.keep HB.out).keep (grow_below _ _)) ((Hl.out.keep HB.out).keep (grow_below _ _)) ((Hc.out.keep HB.out).keep (grow_below _ _)) j q _ HK.out HL.out hjl hpl hqn h40 Hf.out))))))
        refine wpQuiet_nil ?_
        intro z
        clear e1
      · go_wp2
        go_ret
        exact ⟨ret_bool (Hno.out (by rw [Hk.out, Hf.out]; simp)).symm, up HB.out (grow_below _ _)⟩
      · have hb2 := grow_below wr z
        generalize grow wr z = V at *
        clear KYl KYc KYf; replace KY := KY.keep hb2; have KYl := KY.lt; have KYc := KY.get; have KYf := KY.fr; replace HB := Lib.hid (up HB.out hb2); clear hb2
        go_wp2
        exact ⟨⟨j + 1, by omega, by go_num, HB.out, KY, Hst.out (by rw [Hk.out, Hq.out, Hf.out]; rfl)⟩, by simp [intOf]; omega⟩
    · obtain rfl : j = r := by omega
      go_wp2
      go_ret
      exact ⟨ret_bool (isPlB_yes Hlp.out fun i hi => Hall.out i (by rw [Hr.out]; exact hi)).symm, HB.out⟩

theorem rcheckPlace_any : Calls Tryz.prog 41 #[.agg #[.slice A n c, .slice B m d], .slice L r s, .slice C u v] w fun e w' => e = .returned (.int .i64 (rplE P K l p)) ∧ Below w.heap.size w w' := by
  have Hp := Lib.hid hp; have Hg := Lib.hid hg; have Hl := Lib.hid hl; have Hc := Lib.hid hc
  clear hp hg hl hc
  by_cases h0 : sE P K l = 0
  · obtain ⟨hy, h8, hlo⟩ := sE_0 h0
    have HK := Lib.hid (yOk_k hy).2.2
    have HL := Lib.hid hlo
    clear hy hlo
    cases hpl : isPlB P K l p
    all_goals
      have HE : Hid (rplE P K l p = if isPlB P K l p = true then 0 else 52) := Lib.hid (by unfold rplE; rw [if_pos h0])
      have H0 := Lib.hid h0
      have HP := Lib.hid hpl
      clear hpl
      go_enter Tryz.func41, Tryz.ntmps41
      go_upto_region 1 with fail
      generalize hW : (World.alloc _ _) = W
      have HB : Hid (Below w.heap.size w W) := Lib.hid (by subst hW; go_grown)
      have KY : Bx W (w.heap.size) 25 [.slice A n c, .slice B m d] := by subst hW; repeat (first | (refine Bx.newAt _ _ _ ?_; first | rfl | (simp only [World.size_alloc]; done) | (simp only [World.size_alloc]; omega)) | refine Bx.old ?_ _)
      clear hW
      have KYl := KY.lt; have KYc := KY.get; have KYf := KY.fr
      go_wp2_with (first
        | (go_at_call 21; refine (rcheckSorts_any _ _ _ P _ _ _ K _ _ _ l _ (Hp.out.keep HB.out) (Hg.out.keep HB.out) (Hl.out.keep HB.out)).mono ?_; rintro e X ⟨rfl, hbx⟩; clear KYl KYc KYf; replace KY := KY.keep hbx; have KYl := KY.lt; have KYc := KY.get; have KYf := KY.fr; replace HB := Lib.hid (up HB.out hbx); clear hbx; rw [H0.out])
        | (go_at_call 89; refine (risPlace_any _ _ _ P _ _ _ K _ _ _ l _ _ _ p _ (Hp.out.keep HB.out) (Hg.out.keep HB.out) (Hl.out.keep HB.out) (Hc.out.keep HB.out) HK.out HL.out (by omega)).mono ?_; rintro e V ⟨rfl, hbv⟩; replace HB := Lib.hid (up HB.out hbv); rw [HP.out]))
      go_ret
      exact ⟨ret_int (by rw [HE.out, HP.out]; rfl), HB.out⟩
  · have hne : (sE P K l != 0) = true := by simpa using h0
    have HE : Hid (rplE P K l p = sE P K l) := Lib.hid (by unfold rplE; rw [if_neg h0])
    clear h0
    go_enter Tryz.func41, Tryz.ntmps41
    go_upto_region 1 with fail
    generalize hW : (World.alloc _ _) = W
    have HB : Hid (Below w.heap.size w W) := Lib.hid (by subst hW; go_grown)
    have KY : Bx W (w.heap.size) 25 [.slice A n c, .slice B m d] := by subst hW; repeat (first | (refine Bx.newAt _ _ _ ?_; first | rfl | (simp only [World.size_alloc]; done) | (simp only [World.size_alloc]; omega)) | refine Bx.old ?_ _)
    clear hW
    have KYl := KY.lt; have KYc := KY.get; have KYf := KY.fr
    go_wp2_with (go_at_call 21; refine (rcheckSorts_any _ _ _ P _ _ _ K _ _ _ l _ (Hp.out.keep HB.out) (Hg.out.keep HB.out) (Hl.out.keep HB.out)).mono ?_; rintro e X ⟨rfl, hbx⟩; clear KYl KYc KYf; replace KY := KY.keep hbx; have KYl := KY.lt; have KYc := KY.get; have KYf := KY.fr; replace HB := Lib.hid (up HB.out hbx); clear hbx)
    go_ret
    exact ⟨ret_int HE.out.symm, HB.out⟩
end
end Go.Proofs.YtollccpghhgpfaaGreat

