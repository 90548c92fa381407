/- Contracts of functions of the program and of the reference, and plain facts: a part of a proof. Own text. -/
import Derived.Test.YtaieidigpilbfaaGreatJe
import Derived.Test.YtaieidigpilbfaaGreatJh
import Derived.Test.YtaieidigpilbfaaGreatJi
set_option linter.unusedVariables false
set_option linter.unusedSimpArgs false
set_option linter.unusedSectionVars false
namespace Go.Proofs.YtaieidigpilbfaaGreat
open Go Go.RowKit
set_option maxRecDepth 100000

def yP : List Int := [10, 6, 4]
def yK : List Kd := [⟨1, 5, 8, 0⟩, ⟨2, 4, 6, 2⟩, ⟨3, 1, 1, 0⟩, ⟨4, 2, 3, 16⟩]
def yL : List St := [⟨1, 3, 6⟩, ⟨2, 4, -1⟩]
def yL5 : List St := [⟨1, 3, 6⟩, ⟨2, 4, -1⟩, ⟨1, 5, 9⟩, ⟨1, 5, 9⟩, ⟨4, 5, 6⟩]
theorem ex_place : nthE yP yK [1, 1, 2] 0 53 = 0 ∧ nthL yP yK [1, 1, 2] 0 = [0, 0, 1] := ⟨by kernel_rfl, by kernel_rfl⟩
theorem ex_count : cntN yP yK [1, 1, 2] = 4 ∧ sE yP yK [1, 1, 2] = 0 := ⟨by kernel_rfl, by kernel_rfl⟩
theorem ex_free : plE yP yK [1, 1, 2] [0, 0, 1] = 0 ∧ freL yP yK [1, 1, 2] [0, 0, 1] = [0, 2, 4] := ⟨by kernel_rfl, by kernel_rfl⟩
theorem ex_add : adV yP yK [1, 1, 2] [0, 0, 1] 3 = 1 ∧ adE yP yK [1, 1, 2] [0, 0, 1] 3 = 0 := ⟨by kernel_rfl, by kernel_rfl⟩
theorem ex_tight : refP yP yK [1, 1, 1, 1] = (4, [0, 1, 2, 3]) ∧ refE yP yK [1, 1, 1, 1] = 0 := ⟨by kernel_rfl, by kernel_rfl⟩
theorem ex_many : refP yP yK [4, 4, 4, 4] = (3, [0, 1, 2, 3]) ∧ refE yP yK [4, 4, 4, 4] = 0 := ⟨by kernel_rfl, by kernel_rfl⟩
theorem ex_much : refP yP yK [1, 1, 1, 2, 2] = (2, [0, 1, 2, 3, 4]) ∧ refE yP yK [1, 1, 1, 2, 2] = 0 := ⟨by kernel_rfl, by kernel_rfl⟩
theorem ex_few : fewL yP yK [1, 4, 4] = [0, 0, 1] ∧ fewE yP yK [1, 4, 4] = 0 := ⟨by kernel_rfl, by kernel_rfl⟩
theorem ex_eat : thrE yP yK yL 5 = 0 ∧ eatL yK yL 5 = 36 := ⟨by kernel_rfl, by kernel_rfl⟩
theorem ex_ksOk : ksOk yK = true := by kernel_rfl
theorem ex_las : lasE yP yK yL 41 = 0 := by kernel_rfl
theorem ex_lasP : LasP yK yL 41 5 0 := .inr ⟨rfl, by omega, by rw [ex_eat.2]; omega, fun _ => by rw [show eatL yK yL (5 + 1) = 42 by kernel_rfl]; omega⟩
theorem ex_srt : srt (inL yL5) = [3, 4, 5, 5, 5] := by
  unfold srt
  exact List.mergeSort_of_pairwise (by decide)
theorem ex_full : fulD yP yK yL5 = 5 ∧ fulE yP yK yL5 = 0 := by
  have h : fulP yP yK yL5 = some 5 := by unfold fulP; rw [ex_srt]; kernel_rfl
  have h0 : ssE yP yK yL5 = 0 := by kernel_rfl
  unfold fulD fulE
  rw [if_pos h0, if_pos h0, h]
  exact ⟨rfl, rfl⟩
end Go.Proofs.YtaieidigpilbfaaGreat

namespace Go.Proofs.YtaieidigpilbfaaGreat
open Go Go.RowKit
set_option maxHeartbeats 2000000
set_option maxRecDepth 100000

theorem ksY (X : World) (cs : List Value) (t : TypeId) (b : Nat) (K : Bx X b t cs) (h : cs = kcells yK) : Ks X (some ⟨b, 0, none⟩) 4 yK := by
  subst h
  refine ⟨rfl, by omega, fun k hk => ⟨b, 0, rfl, K.lt, ?_⟩⟩
  have ha := kcells_at yK k hk
  rw [Nat.zero_add]
  exact ⟨(K.get _).trans ha.1, (K.get _).trans ha.2.1, (K.get _).trans ha.2.2.1, (K.get _).trans ha.2.2.2⟩
theorem isB (X : World) (t : TypeId) (b : Nat) (l : List Int) (K : Bx X b t (ints l)) (h : l.length ≤ 1000) : Is X (some ⟨b, 0, none⟩) l.length l :=
  ⟨rfl, by omega, fun k hk => ⟨b, 0, rfl, K.lt, by rw [K.get, Nat.zero_add]; simp [ints, hk]⟩⟩
theorem yard_any (w : World) : Calls Tryz.prog 74 #[] w fun e w' => ∃ (A : Option Addr) (c : Nat) (B : Option Addr) (d : Nat), e = .returned (.agg #[.slice A 3 c, .slice B 4 d]) ∧ Is w' A 3 yP ∧ Ks w' B 4 yK ∧ Below w.heap.size w w' := by
  go_enter Tryz.func74, Tryz.ntmps74
  go_upto_region 1 with fail
  generalize hW : (World.alloc _ _) = W
  have HB : Hid (Below w.heap.size w W) := Lib.hid (by subst hW; go_grown)
  have KR : Bx W (w.heap.size) 25 [.slice none 0 0, .slice none 0 0] := by subst hW; repeat (first | (refine Bx.newAt _ _ _ ?_; first | rfl | (simp only [World.size_alloc]; done) | (simp only [World.size_alloc]; omega)) | refine Bx.old ?_ _)
  clear hW
  have KRl := KR.lt; have KRc := KR.get; have KRf := KR.fr
  go_wp2_with (refine wpList_put 25 0 7 rfl rfl ((KR.old _).old _) rfl rfl (by kernel_rfl) rfl (by simp [Value.oneCell']) ?_; intro U KRn hp)
  have k1 : Bx U W.heap.size 3 (ints yP) := ((Bx.new W (ints yP) 3).old _).put hp (by have := KR.lt; omega)
  have k2 : Bx U (W.heap.size + 1) 72 (kcells yK) := (Bx.newAt _ (kcells yK) 72 (by simp)).put hp (by have := KR.lt; omega)
  have hb : Below W.heap.size W ((W.alloc (.cells ⟨ints yP⟩ 3)).alloc (.cells ⟨kcells yK⟩ 72)) := (up_alloc W _).trans ((up_alloc _ _).mono (by simp))
  exact post_1 rfl rfl rfl KRn Tryz.underlying25 rfl (by kernel_rfl) ⟨_, 3, _, ⟨4, rfl⟩, isB U 3 _ yP k1 (by decide), ksY U _ 72 _ k2 rfl, upP (up HB.out hb) hp (Nat.le_refl _)⟩
end Go.Proofs.YtaieidigpilbfaaGreat

namespace Go.Proofs.YtaieidigpilbfaaGreat
open Go Go.RowKit
set_option maxHeartbeats 8000000
set_option maxRecDepth 100000

/-- Cells of stays in a row. -/
def scells : List St → List Value
  | [] => []
  | x :: r => [.int .i64 x.s, .int .i64 x.i, .int .i64 x.o] ++ scells r
theorem scells_at : ∀ (l : List St) (k : Nat) (h : k < l.length), (scells l)[k * 3]? = some (.int .i64 l[k].s) ∧ (scells l)[k * 3 + 1]? = some (.int .i64 l[k].i) ∧ (scells l)[k * 3 + 2]? = some (.int .i64 l[k].o)
  | [], k, h => by simp at h
  | x :: r, 0, h => by simp [scells]
  | x :: r, k + 1, h => by
    have := scells_at r k (by simpa using h)
    have e : ∀ j, (scells (x :: r))[(k + 1) * 3 + j]? = (scells r)[k * 3 + j]? := fun j => by
      simp only [scells]
      rw [List.getElem?_append_right (by simp; omega)]
      congr 1; simp; omega
    have e0 := e 0
    simp only [Nat.add_zero] at e0
    rw [e0, e, e]; simpa using this
theorem ssB (X : World) (t : TypeId) (b : Nat) (l : List St) (K : Bx X b t (scells l)) (h : l.length ≤ 1000) : Ss X (some ⟨b, 0, none⟩) l.length l :=
  ⟨rfl, by omega, fun k hk => ⟨b, 0, rfl, K.lt, by
    have ha := scells_at l k hk
    rw [Nat.zero_add]
    exact ⟨(K.get _).trans ha.1, (K.get _).trans ha.2.1, (K.get _).trans ha.2.2⟩⟩⟩
theorem info76 : (Tryz.prog.info? 76).map (fun i => (i.zero, i.size, i.bytes)) = some (some (.agg #[.int .i64 0, .int .i64 0, .int .i64 0]), 3, 24) := by kernel_rfl
theorem ssOwn {w : World} {base : Nat} {v : Value} {l : List St} (h : w.ownsRow base 76 3 v l.length (scells l)) (h0 : 0 < l.length) (hl : l.length ≤ 1000) : ∃ A c, v = .slice A l.length c ∧ Ss w A l.length l := by
  rcases h.2 with ⟨rfl, h1⟩ | ⟨g, cap, cur, rfl, hge, hg, hnc, hcm, hcs, htk⟩
  · omega
  · refine ⟨some ⟨g, 0, none⟩, cap, rfl, ⟨rfl, by omega, fun k hk => ⟨g, 0, rfl, (Array.getElem?_eq_some_iff.1 hg).1, ?_⟩⟩⟩
    have ha := scells_at l k hk
    have key : ∀ j u, (scells l)[j]? = some u → w.cell? ⟨g, j, none⟩ = some u := fun j u hu => by
      have := h.cells (g := g) rfl j u hu
      rw [Addr.add_lit] at this; simpa using this
    rw [Nat.zero_add]
    exact ⟨key _ _ ha.1, key _ _ ha.2.1, key _ _ ha.2.2⟩
theorem wp_mid {P : Program} {c : Code} {Q : Exit → Act → World → Prop} {a : Act} {w : World} (Good : World → Prop)
    (h : ∃ A : Option Addr → Nat → Act, c.wp P (fun e a' w' => e = .normal ∧ ∃ x y, a' = A x y ∧ Good w') a w ∧ ∀ x y w', Good w' → Q .normal (A x y) w') : c.wp P Q a w := by
  obtain ⟨A, h1, h2⟩ := h
  exact wp_mono h1 fun e a' w' ⟨x, v, u, y, z⟩ => by subst x; subst y; exact h2 v u w' z
theorem wp_region_takesS {P : Program} {id : Nat} {Q : Exit → Act → World → Prop} {a : Act} {w : World} {l : List Oper} (S : World → Prop) (n fuel : Nat) (is : List Nat) (hmo : P.follows .mixedOrders = true)
    (hsel : Region.noSelect l.toArray = true) (hs : Region.sinkB .any l.toArray n = true) (hc : Region.chainB .any l.toArray n = true) (hn : n < l.length)
    (hQ : ∀ d v c a w, Q (.panic c) (a.put d v) w → Q (.panic c) a w)
    (hB : takesB .any l.toArray n is (Array.replicate l.length false) = true) (hlen : l.length = fuel + is.length) (hS : S { w with drawn := w.drawn + 1 })
    (h : wpTakes P l.toArray S (fun a' => wpAnyT P .any l.toArray Q S n fuel (marks is (Array.replicate l.length false)) a' w.drew) is a) : (Code.region id l.toArray true).wp P Q a w := by
  refine wp_region_any hmo ?_
  refine wpAny_of_T (S := S) (n := n) _ _ _ _ ?_
  have inv0 : HeadInv .any l.toArray n (Array.replicate l.length false) :=
    { size := by simp
      closed := fun j oj _ hl => by rw [getD_replicate_false] at hl; cases hl
      tail := fun t _ ht => getD_in (by simpa using ht) (getD_replicate_false _ _) }
  have key := wpAnyT_takes (P := P) (Q := Q) (S := S) (md := .any) hsel hs hc (by simpa using hn) hQ is (Array.replicate l.length false) a { w with drawn := w.drawn + 1 } fuel hB inv0 hS h (fun a' hG _ => hG)
  rw [← hlen] at key
  simpa using key

theorem sane_any (w : World) : Calls Tryz.prog 22 #[] w fun e w' => e = .returned (.bool true) ∧ Below w.heap.size w w' := by
  go_enter Tryz.func22, Tryz.ntmps22
  go_upto_region 2 with (first
    | (go_at_call 74; refine (yard_any w).mono ?_; rintro e Y ⟨A, c, B, d, rfl, hp, hg, hby⟩; have HP := Lib.hid hp; have HG := Lib.hid hg; have HB0 := Lib.hid hby; clear hp hg hby)
    | (refine wpList_putNew 25 1 27 rfl rfl rfl rfl (by kernel_rfl) rfl (by simp [Value.oneCell']) ?_; intro X1 KY hbx hsx; have HY := Lib.hid hbx; clear hbx hsx))

  have hL := isC X1 3 [1, 1, 2] (by simp)
  have hbL := up_alloc X1 (.cells ⟨ints [1, 1, 2]⟩ 3)
  have hC := Place_any A 3 c yP B 4 d yK (some ⟨X1.heap.size, 0, none⟩) 3 3 [1, 1, 2] _ ((HP.out.keep HY.out).keep hbL) ((HG.out.keep HY.out).keep hbL) hL
  rw [ex_place.1, ex_place.2] at hC
  have HC := Lib.hid hC
  have HBL := Lib.hid hbL
  clear hC hL hbL
  have KYl := KY.lt; have KYc := KY.get; have KYf := KY.fr
  go_upto_region 3 with (go_at_call 23; refine HC.out.mono ?_; rintro e X3 ⟨v, rfl, hv, hb⟩; have HYn := Lib.hid (up HY.out (up HBL.out hb)); have KYn := KY.keep (up HBL.out hb); clear hb)
  clear HC HBL KYl KYc KYf
  clear HY KY 
  have HY := HYn; clear HYn; have KY := KYn; clear KYn
  obtain ⟨Cp, kp, sp, rfl, hkp, hip, -⟩ := hv
  have Hp := Lib.hid hip
  obtain rfl := hip.len
  clear hip
  have hL := isC X3 3 [1, 1, 2] (by simp)
  have hbL := up_alloc X3 (.cells ⟨ints [1, 1, 2]⟩ 3)
  have HpL := Lib.hid (Hp.out.keep hbL)
  have hC := Count_any A 3 c yP B 4 d yK (some ⟨X3.heap.size, 0, none⟩) 3 3 [1, 1, 2] _ ((HP.out.keep HY.out).keep hbL) ((HG.out.keep HY.out).keep hbL) hL
  rw [ex_count.1, ex_count.2] at hC
  have HC := Lib.hid hC
  have HBL := Lib.hid hbL
  clear hC hL hbL
  have KYl := KY.lt; have KYc := KY.get; have KYf := KY.fr
  go_upto_region 4 with (go_at_call 25; refine HC.out.mono ?_; rintro e X4 ⟨rfl, hb⟩; have HYn := Lib.hid (up HY.out (up HBL.out hb)); have KYn := KY.keep (up HBL.out hb); have Hpn := Lib.hid (HpL.out.keep hb); clear hb)
  clear HC HBL KYl KYc KYf
  clear HY KY Hp HpL
  have HY := HYn; clear HYn; have KY := KYn; clear KYn; have Hp := Hpn; clear Hpn
  have hL := isC X4 3 [1, 1, 2] (by simp)
  have hbL := up_alloc X4 (.cells ⟨ints [1, 1, 2]⟩ 3)
  have HpL := Lib.hid (Hp.out.keep hbL)
  have hC := Free_any A 3 c yP B 4 d yK (some ⟨X4.heap.size, 0, none⟩) 3 3 [1, 1, 2] Cp _ sp [0, 0, 1] _ ((HP.out.keep HY.out).keep hbL) ((HG.out.keep HY.out).keep hbL) hL HpL.out
  rw [ex_free.1, ex_free.2] at hC
  have HC := Lib.hid hC
  have HBL := Lib.hid hbL
  clear hC hL hbL
  have KYl := KY.lt; have KYc := KY.get; have KYf := KY.fr
  go_upto_region 5 with (go_at_call 30; refine HC.out.mono ?_; rintro e X5 ⟨v, rfl, hv, hb⟩; have HYn := Lib.hid (up HY.out (up HBL.out hb)); have KYn := KY.keep (up HBL.out hb); have Hpn := Lib.hid (HpL.out.keep hb); clear hb)
  clear HC HBL KYl KYc KYf
  clear HY KY Hp HpL
  have HY := HYn; clear HYn; have KY := KYn; clear KYn; have Hp := Hpn; clear Hpn
  obtain ⟨Cf, kf, sf, rfl, hkf, hif, -⟩ := hv
  have Hf := Lib.hid hif
  obtain rfl := hif.len
  clear hif
  have hL := isC X5 3 [1, 1, 2] (by simp)
  have hbL := up_alloc X5 (.cells ⟨ints [1, 1, 2]⟩ 3)
  have HpL := Lib.hid (Hp.out.keep hbL)
  have HfL := Lib.hid (Hf.out.keep hbL)
  have hC := Add_any A 3 c yP B 4 d yK (some ⟨X5.heap.size, 0, none⟩) 3 3 [1, 1, 2] Cp _ sp [0, 0, 1] 3 _ ((HP.out.keep HY.out).keep hbL) ((HG.out.keep HY.out).keep hbL) hL HpL.out
  rw [ex_add.1, ex_add.2] at hC
  have HC := Lib.hid hC
  have HBL := Lib.hid hbL
  clear hC hL hbL
  have KYl := KY.lt; have KYc := KY.get; have KYf := KY.fr
  go_upto_region 6 with (go_at_call 34; refine HC.out.mono ?_; rintro e X6 ⟨rfl, hb⟩; have HYn := Lib.hid (up HY.out (up HBL.out hb)); have KYn := KY.keep (up HBL.out hb); have Hpn := Lib.hid (HpL.out.keep hb); have Hfn := Lib.hid (HfL.out.keep hb); clear hb)
  clear HC HBL KYl KYc KYf
  clear HY KY Hp HpL Hf HfL
  have HY := HYn; clear HYn; have KY := KYn; clear KYn; have Hp := Hpn; clear Hpn; have Hf := Hfn; clear Hfn
  have hL := isC X6 3 [1, 1, 1, 1] (by simp)
  have hbL := up_alloc X6 (.cells ⟨ints [1, 1, 1, 1]⟩ 3)
  have HpL := Lib.hid (Hp.out.keep hbL)
  have HfL := Lib.hid (Hf.out.keep hbL)
  have hC := Refuse_any A 3 c yP B 4 d yK (some ⟨X6.heap.size, 0, none⟩) 4 4 [1, 1, 1, 1] _ ((HP.out.keep HY.out).keep hbL) ((HG.out.keep HY.out).keep hbL) hL
  rw [ex_tight.1, ex_tight.2] at hC
  have HC := Lib.hid hC
  have HBL := Lib.hid hbL
  clear hC hL hbL
  have KYl := KY.lt; have KYc := KY.get; have KYf := KY.fr
  go_upto_region 7 with (first
    | (go_at_call 42; refine HC.out.mono ?_; rintro e X7 ⟨v, rfl, hv, hb⟩; have HYn := Lib.hid (up HY.out (up HBL.out hb)); have KYn := KY.keep (up HBL.out hb); have Hpn := Lib.hid (HpL.out.keep hb); have Hfn := Lib.hid (HfL.out.keep hb); clear hb; obtain ⟨C10, k10, s10, rfl, hk10, hi10, -⟩ := hv)
    | (refine wpList_putNew 53 10 58 rfl rfl rfl rfl (by kernel_rfl) rfl (by simp [Value.oneCell']) ?_; intro U7 R10 hbu hsu; replace HYn := Lib.hid (up HYn.out hbu); replace KYn := KYn.keep hbu; replace Hpn := Lib.hid (Hpn.out.keep hbu); replace Hfn := Lib.hid (Hfn.out.keep hbu); have H10 := Lib.hid (hi10.keep hbu); clear hbu hsu))
  clear HC HBL KYl KYc KYf
  clear HY KY Hp HpL Hf HfL
  have HY := HYn; clear HYn; have KY := KYn; clear KYn; have Hp := Hpn; clear Hpn; have Hf := Hfn; clear Hfn
  obtain rfl := hi10.len
  clear hi10
  have hL := isC U7 3 [4, 4, 4, 4] (by simp)
  have hbL := up_alloc U7 (.cells ⟨ints [4, 4, 4, 4]⟩ 3)
  have HpL := Lib.hid (Hp.out.keep hbL)
  have HfL := Lib.hid (Hf.out.keep hbL)
  have H10L := Lib.hid (H10.out.keep hbL)
  have hC := Refuse_any A 3 c yP B 4 d yK (some ⟨U7.heap.size, 0, none⟩) 4 4 [4, 4, 4, 4] _ ((HP.out.keep HY.out).keep hbL) ((HG.out.keep HY.out).keep hbL) hL
  rw [ex_many.1, ex_many.2] at hC
  have HC := Lib.hid hC
  have HBL := Lib.hid hbL
  clear hC hL hbL
  have KYl := KY.lt; have KYc := KY.get; have KYf := KY.fr; have R10l := R10.lt; have R10c := R10.get; have R10f := R10.fr
  go_upto_region 8 with (first
    | (go_at_call 42; refine HC.out.mono ?_; rintro e X8 ⟨v, rfl, hv, hb⟩; have HYn := Lib.hid (up HY.out (up HBL.out hb)); have KYn := KY.keep (up HBL.out hb); have R10n := R10.keep (up HBL.out hb); have Hpn := Lib.hid (HpL.out.keep hb); have Hfn := Lib.hid (HfL.out.keep hb); have H10n := Lib.hid (H10L.out.keep hb); clear hb; obtain ⟨C12, k12, s12, rfl, hk12, hi12, -⟩ := hv)
    | (refine wpList_putNew 53 12 64 rfl rfl rfl rfl (by kernel_rfl) rfl (by simp [Value.oneCell']) ?_; intro U8 R12 hbu hsu; replace HYn := Lib.hid (up HYn.out hbu); replace KYn := KYn.keep hbu; replace R10n := R10n.keep hbu; replace Hpn := Lib.hid (Hpn.out.keep hbu); replace Hfn := Lib.hid (Hfn.out.keep hbu); replace H10n := Lib.hid (H10n.out.keep hbu); have H12 := Lib.hid (hi12.keep hbu); clear hbu hsu))
  clear HC HBL KYl KYc KYf R10l R10c R10f
  clear HY KY R10 Hp HpL Hf HfL H10 H10L
  have HY := HYn; clear HYn; have KY := KYn; clear KYn; have R10 := R10n; clear R10n; have Hp := Hpn; clear Hpn; have Hf := Hfn; clear Hfn; have H10 := H10n; clear H10n
  obtain rfl := hi12.len
  clear hi12
  have hL := isC U8 3 [1, 1, 1, 2, 2] (by simp)
  have hbL := up_alloc U8 (.cells ⟨ints [1, 1, 1, 2, 2]⟩ 3)
  have HpL := Lib.hid (Hp.out.keep hbL)
  have HfL := Lib.hid (Hf.out.keep hbL)
  have H10L := Lib.hid (H10.out.keep hbL)
  have H12L := Lib.hid (H12.out.keep hbL)
  have hC := Refuse_any A 3 c yP B 4 d yK (some ⟨U8.heap.size, 0, none⟩) 5 5 [1, 1, 1, 2, 2] _ ((HP.out.keep HY.out).keep hbL) ((HG.out.keep HY.out).keep hbL) hL
  rw [ex_much.1, ex_much.2] at hC
  have HC := Lib.hid hC
  have HBL := Lib.hid hbL
  clear hC hL hbL
  have KYl := KY.lt; have KYc := KY.get; have KYf := KY.fr; have R10l := R10.lt; have R10c := R10.get; have R10f := R10.fr; have R12l := R12.lt; have R12c := R12.get; have R12f := R12.fr
  go_upto_region 9 with (first
    | (go_at_call 42; refine HC.out.mono ?_; rintro e X9 ⟨v, rfl, hv, hb⟩; have HYn := Lib.hid (up HY.out (up HBL.out hb)); have KYn := KY.keep (up HBL.out hb); have R10n := R10.keep (up HBL.out hb); have R12n := R12.keep (up HBL.out hb); have Hpn := Lib.hid (HpL.out.keep hb); have Hfn := Lib.hid (HfL.out.keep hb); have H10n := Lib.hid (H10L.out.keep hb); have H12n := Lib.hid (H12L.out.keep hb); clear hb; obtain ⟨C14, k14, s14, rfl, hk14, hi14, -⟩ := hv)
    | (refine wpList_putNew 53 14 70 rfl rfl rfl rfl (by kernel_rfl) rfl (by simp [Value.oneCell']) ?_; intro U9 R14 hbu hsu; replace HYn := Lib.hid (up HYn.out hbu); replace KYn := KYn.keep hbu; replace R10n := R10n.keep hbu; replace R12n := R12n.keep hbu; replace Hpn := Lib.hid (Hpn.out.keep hbu); replace Hfn := Lib.hid (Hfn.out.keep hbu); replace H10n := Lib.hid (H10n.out.keep hbu); replace H12n := Lib.hid (H12n.out.keep hbu); have H14 := Lib.hid (hi14.keep hbu); clear hbu hsu))
  clear HC HBL KYl KYc KYf R10l R10c R10f R12l R12c R12f
  clear HY KY R10 R12 Hp HpL Hf HfL H10 H10L H12 H12L
  have HY := HYn; clear HYn; have KY := KYn; clear KYn; have R10 := R10n; clear R10n; have R12 := R12n; clear R12n; have Hp := Hpn; clear Hpn; have Hf := Hfn; clear Hfn; have H10 := H10n; clear H10n; have H12 := H12n; clear H12n
  obtain rfl := hi14.len
  clear hi14
  have hL := isC U9 3 [1, 4, 4] (by simp)
  have hbL := up_alloc U9 (.cells ⟨ints [1, 4, 4]⟩ 3)
  have HpL := Lib.hid (Hp.out.keep hbL)
  have HfL := Lib.hid (Hf.out.keep hbL)
  have H10L := Lib.hid (H10.out.keep hbL)
  have H12L := Lib.hid (H12.out.keep hbL)
  have H14L := Lib.hid (H14.out.keep hbL)
  have hC := Fewest_any A 3 c yP B 4 d yK (some ⟨U9.heap.size, 0, none⟩) 3 3 [1, 4, 4] _ ((HP.out.keep HY.out).keep hbL) ((HG.out.keep HY.out).keep hbL) hL
  rw [ex_few.1, ex_few.2] at hC
  have HC := Lib.hid hC
  have HBL := Lib.hid hbL
  clear hC hL hbL
  have KYl := KY.lt; have KYc := KY.get; have KYf := KY.fr; have R10l := R10.lt; have R10c := R10.get; have R10f := R10.fr; have R12l := R12.lt; have R12c := R12.get; have R12f := R12.fr; have R14l := R14.lt; have R14c := R14.get; have R14f := R14.fr
  go_upto_region 10 with (go_at_call 44; refine HC.out.mono ?_; rintro e X10 ⟨v, rfl, hv, hb⟩; have HYn := Lib.hid (up HY.out (up HBL.out hb)); have KYn := KY.keep (up HBL.out hb); have R10n := R10.keep (up HBL.out hb); have R12n := R12.keep (up HBL.out hb); have R14n := R14.keep (up HBL.out hb); have Hpn := Lib.hid (HpL.out.keep hb); have Hfn := Lib.hid (HfL.out.keep hb); have H10n := Lib.hid (H10L.out.keep hb); have H12n := Lib.hid (H12L.out.keep hb); have H14n := Lib.hid (H14L.out.keep hb); clear hb)
  clear HC HBL KYl KYc KYf R10l R10c R10f R12l R12c R12f R14l R14c R14f
  clear HY KY R10 R12 R14 Hp HpL Hf HfL H10 H10L H12 H12L H14 H14L
  have HY := HYn; clear HYn; have KY := KYn; clear KYn; have R10 := R10n; clear R10n; have R12 := R12n; clear R12n; have R14 := R14n; clear R14n; have Hp := Hpn; clear Hpn; have Hf := Hfn; clear Hfn; have H10 := H10n; clear H10n; have H12 := H12n; clear H12n; have H14 := H14n; clear H14n
  obtain ⟨Cw, kw, sw, rfl, hkw, hiw, -⟩ := hv
  have Hw := Lib.hid hiw
  obtain rfl := hiw.len
  clear hiw
  have KY10l := KY.lt
  go_upto_region 11 with fail
  generalize hXS : World.alloc X10 _ = X11
  have kS : Bx X11 X10.heap.size 76 (scells yL) := by subst hXS; exact Bx.new _ _ _
  have hbS : Below X10.heap.size X10 X11 := by subst hXS; exact up_alloc _ _
  clear hXS
  have HT := Lib.hid hbS
  replace HY := Lib.hid (up HY.out hbS); replace KY := KY.keep hbS
  clear hbS
  have hC := Eaten_any A 3 c yP B 4 d yK (some ⟨X10.heap.size, 0, none⟩) 2 2 yL 5 X11 (HP.out.keep HY.out) (HG.out.keep HY.out) (ssB X11 76 _ yL kS (by decide))
  rw [if_pos ex_eat.1, ex_eat.2, ex_eat.1] at hC
  have HC := Lib.hid hC
  clear hC
  have KYl := KY.lt; have KYc := KY.get; have KYf := KY.fr
  go_upto_region 12 with (go_at_call 52; refine HC.out.mono ?_; rintro e X12 ⟨rfl, hb⟩; have hb12 := Lib.hid hb; clear hb)
  clear HC KYl KYc KYf
  replace HY := Lib.hid (up HY.out hb12.out); replace KY := KY.keep hb12.out; replace kS := kS.keep hb12.out; replace HT := Lib.hid (up HT.out hb12.out)
  clear hb12
  have hC := Lasts_any A 3 c yP B 4 d yK (some ⟨X10.heap.size, 0, none⟩) 2 2 yL 41 X12 (HP.out.keep HY.out) (HG.out.keep HY.out) (ssB X12 76 _ yL kS (by decide))
  have HC := Lib.hid hC
  clear hC
  have KYl := KY.lt; have KYc := KY.get; have KYf := KY.fr
  go_upto_region 13 with (go_at_call 54; refine HC.out.mono ?_; rintro e X13 ⟨lv, lx, rfl, hlv, hb⟩; obtain ⟨rfl, rfl⟩ : lv = 5 ∧ lx = 0 := (by rcases hlv with ⟨h, _⟩ | ⟨_, h⟩; exact absurd ex_las h; exact LasP.one ex_ksOk h ex_lasP); have hb13 := Lib.hid hb; clear hb hlv)
  clear HC KYl KYc KYf
  have hS10 : Y.heap.size < X10.heap.size := KY10l
  replace HY := Lib.hid (up HY.out hb13.out); replace KY := KY.keep hb13.out; replace kS := kS.keep hb13.out; replace HT := Lib.hid (up HT.out hb13.out)
  clear hb13
  obtain ⟨i0, hi0, hz0, hz1, hz2⟩ := info_parts info76
  have HI0 := Lib.hid hi0; have HZ0 := Lib.hid hz0; have HZ1 := Lib.hid hz1; have HZ2 := Lib.hid hz2
  clear hi0 hz0 hz1 hz2
  have hS13 : X10.heap.size < X13.heap.size := kS.lt
  have HKY := Lib.hid KY; have HkS := Lib.hid kS
  clear KY kS
  refine wp_mid (fun w' => Below X10.heap.size X13 w') ?_
  apply Exists.intro
  refine ⟨?_, fun A5 c5 X14 hb14 => ?_⟩
  · refine wp_region_takesS (fun w' => Below X10.heap.size X13 w') 12 8 [0, 1, 2, 3, 4] (by kernel_rfl) (by kernel_rfl) (by kernel_rfl) (by kernel_rfl) (by decide) (fun _ _ _ _ _ h => by cases h.1) (by kernel_rfl) rfl ((show Below X13.heap.size X13 X13.drew by go_grown).mono (by omega)) ?_
    refine wpTakes_step (v := .agg #[.slice A 3 c, .slice B 4 d]) rfl (by rfl) ?_ ?_
    · (rintro _ z9; exact run_get 25 (.tmp 1) rfl rfl (cell_res (HKY.out.keepB z9 hS10) Tryz.underlying25 rfl (by kernel_rfl)))
    simp only [Act.put, List.setIfInBounds_toArray, List.set_cons_zero, List.set_cons_succ]
    refine wpTakes_step (v := ?_) rfl (by rfl) ?_ ?_
    rotate_left
    · (rintro _ z9; go_simp; try (with_reducible rfl))
    simp only [Act.put, List.setIfInBounds_toArray, List.set_cons_zero, List.set_cons_succ]
    refine wpTakes_step (v := ?_) rfl (by rfl) ?_ ?_
    rotate_left
    · (rintro _ z9; go_simp; try (with_reducible rfl))
    simp only [Act.put, List.setIfInBounds_toArray, List.set_cons_zero, List.set_cons_succ]
    refine wpTakes_step (v := ?_) rfl (by rfl) ?_ ?_
    rotate_left
    · (rintro _ z9; go_simp; try (with_reducible rfl))
    simp only [Act.put, List.setIfInBounds_toArray, List.set_cons_zero, List.set_cons_succ]
    refine wpTakes_step (v := ?_) rfl (by rfl) ?_ ?_
    rotate_left
    · (rintro _ z9; go_simp; try (with_reducible rfl))
    simp only [Act.put, List.setIfInBounds_toArray, List.set_cons_zero, List.set_cons_succ]
    simp only [wpTakes]
    refine wpAnyT_step (i := 5) rfl (by kernel_rfl) rfl ?_
    go_wp2_with fail
    refine ⟨(show Below X13.heap.size X13 _ by go_grown).mono (by omega), ?_⟩
    refine wpAnyT_step (i := 6) rfl (by kernel_rfl) rfl ?_
    have kN := Bx.new X13 (scells [⟨1, 5, 9⟩, ⟨1, 5, 9⟩, ⟨4, 5, 6⟩]) 76
    have b1 := up_alloc X13 (.cells ⟨scells [⟨1, 5, 9⟩, ⟨1, 5, 9⟩, ⟨4, 5, 6⟩]⟩ 76)
    rw [show (#[Value.int .i64 1, .int .i64 5, .int .i64 9, .int .i64 1, .int .i64 5, .int .i64 9, .int .i64 4, .int .i64 5, .int .i64 6] : Array Value) = ⟨scells [⟨1, 5, 9⟩, ⟨1, 5, 9⟩, ⟨4, 5, 6⟩]⟩ from rfl]
    generalize X13.alloc (.cells ⟨scells [⟨1, 5, 9⟩, ⟨1, 5, 9⟩, ⟨4, 5, 6⟩]⟩ 76) = V0 at *
    have b2 : Below V0.heap.size V0 V0.drew := by go_grown
    replace kN := kN.keep b2
    have b3 := up b1 b2
    generalize V0.drew = V at *
    have kSV := HkS.out.keep b3
    have hVs := b3.size
    have hown : V.ownsRow X10.heap.size 76 3 (.slice (some ⟨X10.heap.size, 0, none⟩) 2 2) 2 (scells yL) := ⟨rfl, .inr ⟨X10.heap.size, 2, ⟨scells yL⟩, rfl, Nat.le_refl _, kSV.h, Nat.le_refl _, by unfold maxLen; omega, rfl, rfl⟩⟩
    refine wp_append_own _ (.tmp 95) (.tmp 99) 58 rfl X10.heap.size 76 i0 (.agg #[.int .i64 0, .int .i64 0, .int .i64 0]) 3 24 Tryz.underlying58 HI0.out HZ0.out HZ1.out HZ2.out rfl (by decide) (.slice (some ⟨X10.heap.size, 0, none⟩) 2 2) 2 (scells yL) rfl hown ⟨X13.heap.size, 0, none⟩ 3 3 (scells [⟨1, 5, 9⟩, ⟨1, 5, 9⟩, ⟨4, 5, 6⟩]) rfl rfl (fun j u hu => by rw [Addr.add_lit, Nat.zero_add, kN.get]; exact hu) (by intro u hu; simp [scells] at hu; rcases hu with rfl | rfl | rfl | rfl | rfl | rfl | rfl | rfl | rfl <;> rfl) (by unfold maxLen; omega) (by omega) (by omega) ?_
    intro v' w5 hown5 hgr5 _
    have hb5 := below_grown hown (by omega) hgr5
    have hB5 : Below X10.heap.size X13 w5 := (b3.mono (by omega)).trans hb5
    have hown5' : w5.ownsRow X10.heap.size 76 3 v' yL5.length (scells yL5) := hown5
    obtain ⟨A5, c5, rfl, hss⟩ := ssOwn hown5' (by decide) (by decide)
    have HSS := Lib.hid hss; have HB5 := Lib.hid hB5
    refine ⟨hB5, ?_⟩
    clear hown hown5 hown5' hgr5 hb5 hB5 hss kSV kN b1 b2 b3
    have hC := Full_any A 3 c yP B 4 d yK A5 5 c5 yL5 w5 (HP.out.keep (HY.out.trans (HB5.out.mono (by omega)))) (HG.out.keep (HY.out.trans (HB5.out.mono (by omega)))) HSS.out
    rw [ex_full.1, ex_full.2] at hC
    have HC := Lib.hid hC
    clear hC
    refine wpAnyT_step (i := 7) rfl (by kernel_rfl) rfl ?_
    go_wp2_with fail
    refine HC.out.mono ?_
    rintro e w6 ⟨rfl, hb6⟩
    have hB6 : Below X10.heap.size X13 w6 := HB5.out.trans (hb6.mono (by have := HB5.out.size; omega))
    have HB6 := Lib.hid hB6
    refine ⟨hB6, ?_⟩
    clear hb6 hB6 HC
    refine wpAnyT_step (i := 8) rfl (by kernel_rfl) rfl ?_
    go_wp2_with fail
    refine ⟨HB6.out, ?_⟩
    refine wpAnyT_step2 (i := 9) (j := 10) (by kernel_rfl) rfl rfl rfl rfl ?_ ?_
    · go_wp2_with fail
      refine ⟨HB6.out, ?_⟩
      refine wpAnyT_step2 (i := 10) (j := 11) (by kernel_rfl) rfl rfl rfl rfl ?_ ?_
      · go_wp2_with fail
        refine ⟨HB6.out, ?_⟩
        refine wpAnyT_step (i := 11) rfl (by kernel_rfl) rfl ?_
        go_wp2_with fail
        refine ⟨HB6.out, ?_⟩
        refine wpAnyT_tail rfl (by kernel_rfl) (by kernel_rfl) ?_
        simp only [List.drop_succ_cons, List.drop_zero]
        go_wp2
        first | exact HB6.out | exact ⟨⟨A5, c5, rfl⟩, HB6.out⟩
      · go_wp2_with fail
        refine ⟨HB6.out, ?_⟩
        refine wpAnyT_step (i := 10) rfl (by kernel_rfl) rfl ?_
        go_wp2_with fail
        refine ⟨HB6.out, ?_⟩
        refine wpAnyT_tail rfl (by kernel_rfl) (by kernel_rfl) ?_
        simp only [List.drop_succ_cons, List.drop_zero]
        go_wp2
        first | exact HB6.out | exact ⟨⟨A5, c5, rfl⟩, HB6.out⟩
    · go_wp2_with fail
      refine ⟨HB6.out, ?_⟩
      refine wpAnyT_step (i := 9) rfl (by kernel_rfl) rfl ?_
      go_wp2_with fail
      refine ⟨HB6.out, ?_⟩
      refine wpAnyT_step (i := 11) rfl (by kernel_rfl) rfl ?_
      go_wp2_with fail
      refine ⟨HB6.out, ?_⟩
      refine wpAnyT_tail rfl (by kernel_rfl) (by kernel_rfl) ?_
      simp only [List.drop_succ_cons, List.drop_zero]
      go_wp2
      first | exact HB6.out | exact ⟨⟨A5, c5, rfl⟩, HB6.out⟩
  · have hT := HT.out.trans hb14
    replace HY := Lib.hid (HY.out.trans (hb14.mono (by omega)))
    replace R10 := R10.keep hT; replace R12 := R12.keep hT; replace R14 := R14.keep hT; replace Hp := Lib.hid (Hp.out.keep hT); replace Hf := Lib.hid (Hf.out.keep hT); replace H10 := Lib.hid (H10.out.keep hT); replace H12 := Lib.hid (H12.out.keep hT); replace H14 := Lib.hid (H14.out.keep hT); replace Hw := Lib.hid (Hw.out.keep hT)
    clear hT hb14 HT HKY HkS HI0 HZ0 HZ1 HZ2
    go_upto_region 15 with fail

    have R10l := R10.lt; have R10c := R10.get; have R10f := R10.fr; have R12l := R12.lt; have R12c := R12.get; have R12f := R12.fr; have R14l := R14.lt; have R14c := R14.get; have R14f := R14.fr
    go_wp2_with fail
    generalize hW : World.alloc _ _ = V0
    have k26 : Bx V0 X14.heap.size 3 (ints [0, 1, 2, 3]) := by subst hW; exact (Bx.new X14 _ 3).old _
    have kz : Bx V0 (X14.heap.size + 1) 3 (ints [0, 0, 1]) := by subst hW; exact Bx.newAt _ _ _ (by simp)
    have hbz : Below X14.heap.size X14 V0 := by subst hW; go_grown
    clear hW
    clear R10l R10c R10f R12l R12c R12f R14l R14c R14f
    replace HY := Lib.hid (up HY.out hbz); replace R10 := R10.keep hbz; replace R12 := R12.keep hbz; replace R14 := R14.keep hbz; replace Hp := Lib.hid (Hp.out.keep hbz); replace Hf := Lib.hid (Hf.out.keep hbz); replace H10 := Lib.hid (H10.out.keep hbz); replace H12 := Lib.hid (H12.out.keep hbz); replace H14 := Lib.hid (H14.out.keep hbz); replace Hw := Lib.hid (Hw.out.keep hbz)
    clear hbz
    refine Calls.mono (Same_any _ _ _ [0, 0, 1] _ _ _ [0, 0, 1] V0 Hp.out (isB V0 3 _ [0, 0, 1] kz (by decide))) ?_
    rintro e Z0 ⟨rfl, hb⟩
    rw [beq_self_eq_true]
    replace HY := Lib.hid (up HY.out hb); replace R10 := R10.keep hb; replace R12 := R12.keep hb; replace R14 := R14.keep hb; replace Hp := Lib.hid (Hp.out.keep hb); replace Hf := Lib.hid (Hf.out.keep hb); replace H10 := Lib.hid (H10.out.keep hb); replace H12 := Lib.hid (H12.out.keep hb); replace H14 := Lib.hid (H14.out.keep hb); replace Hw := Lib.hid (Hw.out.keep hb); replace k26 := k26.keep hb
    clear hb kz
    have R10l := R10.lt; have R10c := R10.get; have R10f := R10.fr; have R12l := R12.lt; have R12c := R12.get; have R12f := R12.fr; have R14l := R14.lt; have R14c := R14.get; have R14f := R14.fr
    go_wp2_with fail
    generalize hW : World.alloc _ _ = V1
    have kz : Bx V1 Z0.heap.size 3 (ints [0, 2, 4]) := by subst hW; exact Bx.new _ _ _
    have hbz : Below Z0.heap.size Z0 V1 := by subst hW; go_grown
    clear hW
    clear R10l R10c R10f R12l R12c R12f R14l R14c R14f
    replace k26 := k26.keep hbz; replace HY := Lib.hid (up HY.out hbz); replace R10 := R10.keep hbz; replace R12 := R12.keep hbz; replace R14 := R14.keep hbz; replace Hp := Lib.hid (Hp.out.keep hbz); replace Hf := Lib.hid (Hf.out.keep hbz); replace H10 := Lib.hid (H10.out.keep hbz); replace H12 := Lib.hid (H12.out.keep hbz); replace H14 := Lib.hid (H14.out.keep hbz); replace Hw := Lib.hid (Hw.out.keep hbz)
    clear hbz
    refine Calls.mono (Same_any _ _ _ [0, 2, 4] _ _ _ [0, 2, 4] V1 Hf.out (isB V1 3 _ [0, 2, 4] kz (by decide))) ?_
    rintro e Z1 ⟨rfl, hb⟩
    rw [beq_self_eq_true]
    replace HY := Lib.hid (up HY.out hb); replace R10 := R10.keep hb; replace R12 := R12.keep hb; replace R14 := R14.keep hb; replace Hp := Lib.hid (Hp.out.keep hb); replace Hf := Lib.hid (Hf.out.keep hb); replace H10 := Lib.hid (H10.out.keep hb); replace H12 := Lib.hid (H12.out.keep hb); replace H14 := Lib.hid (H14.out.keep hb); replace Hw := Lib.hid (Hw.out.keep hb); replace k26 := k26.keep hb
    clear hb kz
    have R10l := R10.lt; have R10c := R10.get; have R10f := R10.fr; have R12l := R12.lt; have R12c := R12.get; have R12f := R12.fr; have R14l := R14.lt; have R14c := R14.get; have R14f := R14.fr
    go_wp2_with fail
    clear R10l R10c R10f R12l R12c R12f R14l R14c R14f
    refine Calls.mono (Same_any _ _ _ [0, 1, 2, 3] _ _ _ [0, 1, 2, 3] Z1 H10.out (isB Z1 3 _ [0, 1, 2, 3] k26 (by decide))) ?_
    rintro e Z2 ⟨rfl, hb⟩
    rw [beq_self_eq_true]
    replace HY := Lib.hid (up HY.out hb); replace R10 := R10.keep hb; replace R12 := R12.keep hb; replace R14 := R14.keep hb; replace Hp := Lib.hid (Hp.out.keep hb); replace Hf := Lib.hid (Hf.out.keep hb); replace H10 := Lib.hid (H10.out.keep hb); replace H12 := Lib.hid (H12.out.keep hb); replace H14 := Lib.hid (H14.out.keep hb); replace Hw := Lib.hid (Hw.out.keep hb); replace k26 := k26.keep hb
    clear hb
    have R10l := R10.lt; have R10c := R10.get; have R10f := R10.fr; have R12l := R12.lt; have R12c := R12.get; have R12f := R12.fr; have R14l := R14.lt; have R14c := R14.get; have R14f := R14.fr
    go_wp2_with fail
    clear R10l R10c R10f R12l R12c R12f R14l R14c R14f
    refine Calls.mono (Same_any _ _ _ [0, 1, 2, 3] _ _ _ [0, 1, 2, 3] Z2 H12.out (isB Z2 3 _ [0, 1, 2, 3] k26 (by decide))) ?_
    rintro e Z3 ⟨rfl, hb⟩
    rw [beq_self_eq_true]
    replace HY := Lib.hid (up HY.out hb); replace R10 := R10.keep hb; replace R12 := R12.keep hb; replace R14 := R14.keep hb; replace Hp := Lib.hid (Hp.out.keep hb); replace Hf := Lib.hid (Hf.out.keep hb); replace H10 := Lib.hid (H10.out.keep hb); replace H12 := Lib.hid (H12.out.keep hb); replace H14 := Lib.hid (H14.out.keep hb); replace Hw := Lib.hid (Hw.out.keep hb); replace k26 := k26.keep hb
    clear hb
    have R10l := R10.lt; have R10c := R10.get; have R10f := R10.fr; have R12l := R12.lt; have R12c := R12.get; have R12f := R12.fr; have R14l := R14.lt; have R14c := R14.get; have R14f := R14.fr
    go_wp2_with fail
    generalize hW : World.alloc _ _ = V4
    have kz : Bx V4 Z3.heap.size 3 (ints [0, 1, 2, 3, 4]) := by subst hW; exact Bx.new _ _ _
    have hbz : Below Z3.heap.size Z3 V4 := by subst hW; go_grown
    clear hW
    clear R10l R10c R10f R12l R12c R12f R14l R14c R14f
    replace k26 := k26.keep hbz; replace HY := Lib.hid (up HY.out hbz); replace R10 := R10.keep hbz; replace R12 := R12.keep hbz; replace R14 := R14.keep hbz; replace Hp := Lib.hid (Hp.out.keep hbz); replace Hf := Lib.hid (Hf.out.keep hbz); replace H10 := Lib.hid (H10.out.keep hbz); replace H12 := Lib.hid (H12.out.keep hbz); replace H14 := Lib.hid (H14.out.keep hbz); replace Hw := Lib.hid (Hw.out.keep hbz)
    clear hbz
    refine Calls.mono (Same_any _ _ _ [0, 1, 2, 3, 4] _ _ _ [0, 1, 2, 3, 4] V4 H14.out (isB V4 3 _ [0, 1, 2, 3, 4] kz (by decide))) ?_
    rintro e Z4 ⟨rfl, hb⟩
    rw [beq_self_eq_true]
    replace HY := Lib.hid (up HY.out hb); replace R10 := R10.keep hb; replace R12 := R12.keep hb; replace R14 := R14.keep hb; replace Hp := Lib.hid (Hp.out.keep hb); replace Hf := Lib.hid (Hf.out.keep hb); replace H10 := Lib.hid (H10.out.keep hb); replace H12 := Lib.hid (H12.out.keep hb); replace H14 := Lib.hid (H14.out.keep hb); replace Hw := Lib.hid (Hw.out.keep hb); replace k26 := k26.keep hb
    clear hb kz
    have R10l := R10.lt; have R10c := R10.get; have R10f := R10.fr; have R12l := R12.lt; have R12c := R12.get; have R12f := R12.fr; have R14l := R14.lt; have R14c := R14.get; have R14f := R14.fr
    go_wp2_with fail
    generalize hW : World.alloc _ _ = V5
    have kz : Bx V5 Z4.heap.size 3 (ints [0, 0, 1]) := by subst hW; exact Bx.new _ _ _
    have hbz : Below Z4.heap.size Z4 V5 := by subst hW; go_grown
    clear hW
    clear R10l R10c R10f R12l R12c R12f R14l R14c R14f
    replace k26 := k26.keep hbz; replace HY := Lib.hid (up HY.out hbz); replace R10 := R10.keep hbz; replace R12 := R12.keep hbz; replace R14 := R14.keep hbz; replace Hp := Lib.hid (Hp.out.keep hbz); replace Hf := Lib.hid (Hf.out.keep hbz); replace H10 := Lib.hid (H10.out.keep hbz); replace H12 := Lib.hid (H12.out.keep hbz); replace H14 := Lib.hid (H14.out.keep hbz); replace Hw := Lib.hid (Hw.out.keep hbz)
    clear hbz
    refine Calls.mono (Same_any _ _ _ [0, 0, 1] _ _ _ [0, 0, 1] V5 Hw.out (isB V5 3 _ [0, 0, 1] kz (by decide))) ?_
    rintro e Z5 ⟨rfl, hb⟩
    rw [beq_self_eq_true]
    replace HY := Lib.hid (up HY.out hb); replace R10 := R10.keep hb; replace R12 := R12.keep hb; replace R14 := R14.keep hb; replace Hp := Lib.hid (Hp.out.keep hb); replace Hf := Lib.hid (Hf.out.keep hb); replace H10 := Lib.hid (H10.out.keep hb); replace H12 := Lib.hid (H12.out.keep hb); replace H14 := Lib.hid (H14.out.keep hb); replace Hw := Lib.hid (Hw.out.keep hb); replace k26 := k26.keep hb
    clear hb kz
    go_wp2
    go_ret
    exact ⟨rfl, HB0.out.trans (HY.out.mono (by have := HB0.out.size; omega))⟩
end Go.Proofs.YtaieidigpilbfaaGreat

