/- Contracts of functions of the program and of the reference, and plain facts: a part of a proof. Own text. -/
import Derived.Test.YtbieopkohkomoaaJi
import Derived.Deep.Cut
set_option linter.unusedVariables false
set_option linter.unusedSimpArgs false
set_option linter.unusedSectionVars false
namespace Go.Proofs.Ytbieopkohkomoaa
open Go Go.RowKit
set_option maxHeartbeats 400000
set_option maxRecDepth 100000

/-- Which mark number k describes. -/
def mNum (x : Int) (k : Nat) : Nat := (wrap64 (wrap64 (x * 7) + (k : Int) * 2503) % 15625).toNat
theorem mNum_lt (x : Int) (k : Nat) : mNum x k < 15625 := by
  unfold mNum
  have h0 := Int.emod_nonneg (wrap64 (wrap64 (x * 7) + (k : Int) * 2503)) (by decide : (15625 : Int) ≠ 0)
  have h1 := Int.emod_lt_of_pos (wrap64 (wrap64 (x * 7) + (k : Int) * 2503)) (by decide : (0 : Int) < 15625)
  omega
def mStep (w0 w1 w2 w3 w4 F : Int) (x : Int) (k : Nat) (s : Int × List Giv) : Int × List Giv :=
  (s.1 + (1 + x % 4), if refNearB w0 w1 w2 w3 w4 F (markNo (mNum x k)).r0 (markNo (mNum x k)).r1 (markNo (mNum x k)).r2 (markNo (mNum x k)).r3 (markNo (mNum x k)).r4 (markNo (mNum x k)).r5 s.2 = true then s.2 else s.2 ++ [(markNo (mNum x k)).giv (s.1 + (1 + x % 4))])
/-- The last owner, and the marks, behind k numbers. -/
def madeK (w0 w1 w2 w3 w4 F : Int) (l : List Int) : Nat → Int × List Giv
  | 0 => (0, [])
  | k + 1 => if (madeK w0 w1 w2 w3 w4 F l k).2.length < 9 then mStep w0 w1 w2 w3 w4 F (l.getD k 0) k (madeK w0 w1 w2 w3 w4 F l k) else madeK w0 w1 w2 w3 w4 F l k
def madeF (l : List Int) : Int := atL l 5 % 2
def madeG (l : List Int) : List Giv := (madeK (wrN l 0) (wrN l 1) (wrN l 2) (wrN l 3) (wrN l 4) (madeF l) l (min 12 l.length)).2

theorem madeK_stay {w0 w1 w2 w3 w4 F : Int} {l : List Int} {k : Nat} (h : 9 ≤ (madeK w0 w1 w2 w3 w4 F l k).2.length) : ∀ j, madeK w0 w1 w2 w3 w4 F l (k + j) = madeK w0 w1 w2 w3 w4 F l k := by
  intro j
  induction j with
  | zero => rfl
  | succ j ih => rw [show k + (j + 1) = (k + j) + 1 from rfl, madeK, ih, if_neg (by omega)]

theorem allK_all {f : Nat → Bool} {n : Nat} (h : ∀ k, k < n → f k = true) : allK f n = true := by
  induction n with
  | zero => rfl
  | succ n ih => rw [allK, ih (fun k hk => h k (by omega)), h n (by omega)]; rfl
/-- A mark laid at the end. -/
theorem okB_snoc {w0 w1 w2 w3 w4 F : Int} {gs : List Giv} {g : Giv} (h : okB w0 w1 w2 w3 w4 F gs = true) (hl : gs.length < 40) (ho : lastO gs gs.length < g.o) (h1 : 1 ≤ g.o ∧ g.o ≤ 99) (hg : g.okB = true)
    (hn : nearB w0 w1 w2 w3 w4 F g.m0 g.m1 g.m2 g.m3 g.m4 g.m5 gs = false) : okB w0 w1 w2 w3 w4 F (gs ++ [g]) = true := by
  simp only [okB, Bool.and_eq_true, decide_eq_true_eq] at h ⊢
  refine ⟨⟨h.1.1, by simp; omega⟩, allK_all fun k hk => ?_⟩
  by_cases hk2 : k < gs.length
  · have h3 := allK_at h.2 k hk2
    rw [okAt_some (List.getElem?_eq_getElem hk2)] at h3
    rw [okAt_some (g := gs[k]) (by rw [List.getElem?_append_left hk2]; exact List.getElem?_eq_getElem hk2)]
    have e1 : lastO (gs ++ [g]) k = lastO gs k := by
      cases k with
      | zero => rfl
      | succ j => simp only [lastO]; rw [List.getD_eq_getElem?_getD, List.getD_eq_getElem?_getD, List.getElem?_append_left (by omega)]
    have e2 : (gs ++ [g]).take k = gs.take k := List.take_append_of_le_length (by omega)
    rw [e1, e2]; exact h3
  · have hke : k = gs.length := by simp at hk; omega
    subst hke
    rw [okAt_some (g := g) (by simp)]
    have e1 : lastO (gs ++ [g]) gs.length = lastO gs gs.length := by
      cases hgl : gs.length with
      | zero => rfl
      | succ j => simp only [lastO]; rw [List.getD_eq_getElem?_getD, List.getD_eq_getElem?_getD, List.getElem?_append_left (by omega)]
    have e2 : (gs ++ [g]).take gs.length = gs := by simp
    rw [e1, e2, hn]
    simp [ho, h1.1, h1.2, hg]
theorem lastO_snoc (gs : List Giv) (g : Giv) : lastO (gs ++ [g]) (gs ++ [g]).length = g.o := by
  rw [List.length_append]; simp only [List.length_cons, List.length_nil, lastO]
  rw [List.getD_eq_getElem?_getD]; simp

theorem markNo_ok (k : Nat) (x : Int) : ((markNo k).giv x).okB = true := (okM_iff _ _ _ _ _ _).2 (markNo_dig k)

theorem madeK_inv {w0 w1 w2 w3 w4 F : Int} (l : List Int) (hw : okW w0 w1 w2 w3 w4 = true) (hF : 0 ≤ F ∧ F ≤ 2) : ∀ k, k ≤ 12 →
    okB w0 w1 w2 w3 w4 F (madeK w0 w1 w2 w3 w4 F l k).2 = true ∧ (madeK w0 w1 w2 w3 w4 F l k).2.length ≤ 9 ∧ lastO (madeK w0 w1 w2 w3 w4 F l k).2 (madeK w0 w1 w2 w3 w4 F l k).2.length ≤ (madeK w0 w1 w2 w3 w4 F l k).1 ∧ 0 ≤ (madeK w0 w1 w2 w3 w4 F l k).1 ∧ (madeK w0 w1 w2 w3 w4 F l k).1 ≤ 4 * k ∧ ∀ g ∈ (madeK w0 w1 w2 w3 w4 F l k).2, g.o ≤ (madeK w0 w1 w2 w3 w4 F l k).1 := by
  intro k
  induction k with
  | zero => intro _; simp [madeK, okB, hw, hF.1, hF.2, lastO, allK]
  | succ k ih =>
    intro hk
    obtain ⟨i1, i2, i3, i4, i5, i6⟩ := ih (by omega)
    rw [madeK]
    by_cases h9 : (madeK w0 w1 w2 w3 w4 F l k).2.length < 9
    · rw [if_pos h9]
      generalize madeK w0 w1 w2 w3 w4 F l k = s at *
      generalize l.getD k 0 = x
      have x0 := Int.emod_nonneg x (by decide : (4 : Int) ≠ 0)
      have x1 := Int.emod_lt_of_pos x (by decide : (0 : Int) < 4)
      unfold mStep
      generalize hm : markNo (mNum x k) = m
      by_cases hn : refNearB w0 w1 w2 w3 w4 F m.r0 m.r1 m.r2 m.r3 m.r4 m.r5 s.2 = true
      · rw [if_pos hn]
        exact ⟨i1, i2, by simp only; omega, by simp only; omega, by simp only; omega, fun g hg => by have := i6 g hg; simp only; omega⟩
      · rw [if_neg hn]
        have hok := okB_ok i1
        have hnb : nearB w0 w1 w2 w3 w4 F m.r0 m.r1 m.r2 m.r3 m.r4 m.r5 s.2 = false := by
          rw [near_eq hw hF.1 hok]
          have : refNearB w0 w1 w2 w3 w4 F m.r0 m.r1 m.r2 m.r3 m.r4 m.r5 s.2 = nearD w0 w1 w2 w3 w4 F m.r0 m.r1 m.r2 m.r3 m.r4 m.r5 s.2 := rfl
          rw [← this]; simpa using hn
        have hgo : (m.giv (s.1 + (1 + x % 4))).okB = true := by rw [← hm]; exact markNo_ok _ _
        refine ⟨okB_snoc i1 (by omega) (by simp only [Rd.giv]; omega) (by simp only [Rd.giv]; omega) hgo hnb, by simp; omega, ?_, by simp only; omega, by simp only; omega, fun g hg => ?_⟩
        · rw [lastO_snoc]
          simp only [Rd.giv]; omega
        · rcases List.mem_append.1 hg with h | h
          · have := i6 g h; simp only; omega
          · rw [List.mem_singleton.1 h]; simp only [Rd.giv]; omega
    · rw [if_neg h9]
      exact ⟨i1, i2, i3, i4, by omega, i6⟩
theorem madeF_bd (l : List Int) : 0 ≤ madeF l ∧ madeF l ≤ 1 := by
  unfold madeF
  have := Int.emod_nonneg (atL l 5) (by decide : (2 : Int) ≠ 0)
  have := Int.emod_lt_of_pos (atL l 5) (by decide : (0 : Int) < 2)
  omega
/-- It is valid. -/
theorem made_ok (l : List Int) : okB (wrN l 0) (wrN l 1) (wrN l 2) (wrN l 3) (wrN l 4) (madeF l) (madeG l) = true ∧ (madeG l).length ≤ 9 ∧ ∀ g ∈ madeG l, g.o ≤ 48 := by
  have hb := madeF_bd l
  have key := madeK_inv (F := madeF l) l (wears_ok l) ⟨hb.1, by omega⟩ (min 12 l.length) (by omega)
  exact ⟨key.1, key.2.1, fun g hg => by have := key.2.2.2.2.2 g hg; have := key.2.2.2.2.1; omega⟩
end Go.Proofs.Ytbieopkohkomoaa

namespace Go.Proofs.Ytbieopkohkomoaa
open Go Go.RowKit
set_option maxHeartbeats 400000
set_option maxRecDepth 100000

set_option maxHeartbeats 500000 in
theorem made_any (A : Option Addr) (n c : Nat) (l : List Int) (w : World) (hl : Is w A n l) (hn : n ≤ 4611686018427387904) :
    Calls Try.prog 60 #[.slice A n c] w fun e w' => ∃ B k c', e = .returned (.agg #[.int .i64 (wrN l 0), .int .i64 (wrN l 1), .int .i64 (wrN l 2), .int .i64 (wrN l 3), .int .i64 (wrN l 4), .int .i64 (madeF l), .slice B k c']) ∧ k ≤ c' ∧ Gs w' B k (madeG l) ∧ Below w.heap.size w w' := by
  have Hl : Hid (n = l.length) := Lib.hid hl.len
  obtain ⟨i0, hi, hz0, hz1, hz2⟩ := info_parts info30
  have HI0 := Lib.hid hi
  have HZ0 := Lib.hid hz0
  have HZ1 := Lib.hid hz1
  have HZ2 := Lib.hid hz2
  clear hi hz0 hz1 hz2
  go_enter Try.func60, Try.ntmps60
  go_wp2_with fail
  generalize hW : (World.alloc _ _) = W
  have HW : Hid (Below w.heap.size w W) := Lib.hid (by subst hW; go_grown)
  have KX : Bk W w.heap.size [.int .i64 0, .int .i64 0, .int .i64 0, .int .i64 0, .int .i64 0, .int .i64 0, .slice none 0 0] := ⟨by subst hW; simp only [World.size_alloc]; omega, by subst hW; intro j; simp [go_sem]⟩
  have HFX : Hid (∀ j, W.frozen? ⟨w.heap.size, j, none⟩ = false) := Lib.hid (by subst hW; intro j; simp [go_sem])
  clear hW
  have HL := Lib.hid (hl.keep HW.out)
  clear hl
  refine (wears_any A n c l W HL.out hn).mono ?_
  rintro e V ⟨rfl, hb1⟩
  replace HFX := Lib.hid (fun j => (hb1.frozen (p := ⟨w.heap.size, j, none⟩) KX.lt).trans (HFX.out j))
  replace KX := KX.keep hb1
  replace HL := Lib.hid (HL.out.keep hb1)
  have HB1 := Lib.hid hb1
  clear hb1
  have HwF : Hid (atL l 5 % 2 = madeF l) := Lib.hid rfl
  have Hok := Lib.hid (made_ok l)
  have HM : Hid (madeG l = (madeK (wrN l 0) (wrN l 1) (wrN l 2) (wrN l 3) (wrN l 4) (madeF l) l (min 12 l.length)).2) := Lib.hid rfl
  have Hinv := Lib.hid (madeK_inv (F := madeF l) l (wears_ok l) ⟨(madeF_bd l).1, by have := (madeF_bd l).2; omega⟩)
  have hFb := madeF_bd l
  go_wp2_with (first
    | (go_at_call 59; refine (at_any _ _ _ _ _ _ HL.out hn).mono ?_; rintro e x1 ⟨rfl, rfl⟩)
    | (go_at_call 58; refine (mod_any _ _ _ (by omega) (by omega)).mono ?_; rintro e x1 ⟨rfl, rfl⟩; rw [HwF.out]))
  generalize hw0 : wrN l 0 = w0 at *
  generalize hw1 : wrN l 1 = w1 at *
  generalize hw2 : wrN l 2 = w2 at *
  generalize hw3 : wrN l 3 = w3 at *
  generalize hw4 : wrN l 4 = w4 at *
  generalize hF : madeF l = F at *
  have Hw0 := Lib.hid hw0; have Hw1 := Lib.hid hw1; have Hw2 := Lib.hid hw2; have Hw3 := Lib.hid hw3; have Hw4 := Lib.hid hw4; have HF := Lib.hid hF
  clear hw0 hw1 hw2 hw3 hw4 hF
  have HR0 := Lib.hid (BR.start V w0 w1 w2 w3 w4 F)
  have hn0 := HL.out.small
  go_loopw [4, 5] (fun o s wr => ∃ (k q c' : Nat) (B : Option Addr), k ≤ 12 ∧ k ≤ n ∧ o = .int .i64 (madeK w0 w1 w2 w3 w4 F l k).1 ∧ s = .int .i64 k ∧ BR V wr V.heap.size w0 w1 w2 w3 w4 F B q c' (madeK w0 w1 w2 w3 w4 F l k).2) (fun _ s _ => 12 - (intOf s).toNat)
  case atStart => exact ⟨0, 0, 0, none, by omega, by omega, rfl, rfl, HR0.out⟩
  case round =>
    obtain ⟨k, q, c', B, hk12, hkn, rfl, rfl, hR⟩ := hrel
    have HR := Lib.hid hR
    clear hR
    obtain ⟨hok, h9, _, hs0, hs1, _⟩ := Hinv.out k hk12
    have hqe : q = (madeK w0 w1 w2 w3 w4 F l k).2.length := by have := HR.out.own.1; rw [gcells_len] at this; omega
    have hq9 : q ≤ 9 := by omega
    have Hqe := Lib.hid hqe
    have Hokk := Lib.hid hok
    clear hqe hok h9
    have KX1 := KX.keep HR.out.bel
    have KO := HR.out.bk
    have b1 := KX.lt
    by_cases hc1 : k < n ∧ k < 12 ∧ q < 9
    rotate_left
    · have HE : Hid ((madeK w0 w1 w2 w3 w4 F l k).2 = madeG l) := Lib.hid (by
        rw [HM.out]
        by_cases hq : q < 9
        · have : k = min 12 l.length := by have := Hl.out; omega
          rw [this]
        · have h9' : 9 ≤ (madeK w0 w1 w2 w3 w4 F l k).2.length := by rw [← Hqe.out]; omega
          have := madeK_stay h9' (min 12 l.length - k)
          rw [show k + (min 12 l.length - k) = min 12 l.length by have := Hl.out; omega] at this
          rw [this])
      have hlen : (madeG l).length ≤ 100000 := by have := Hok.out.2.1; omega
      have FX1 : ∀ j, wr.frozen? ⟨w.heap.size, j, none⟩ = false := fun j => (HR.out.bel.frozen (p := ⟨w.heap.size, j, none⟩) b1).trans (HFX.out j)
      clear Hokk Hinv HM Hqe hs0 hs1
      generalize madeK w0 w1 w2 w3 w4 F l k = st at *
      obtain ⟨ow, gs⟩ := st
      by_cases e1 : k < n
      · by_cases e2 : k < 12
        · have e3 : ¬ q < 9 := fun h => hc1 ⟨e1, e2, h⟩
          have hq9' : q = 9 := by omega
          clear hc1 e3
          subst hq9'
          have KX1l := KX1.lt; have KX1c := KX1.get; have KOl := KO.lt; have KOc := KO.get
          go_wp2
          have P := put7 wr (w.heap.size) (.int .i64 w0) (.int .i64 w1) (.int .i64 w2) (.int .i64 w3) (.int .i64 w4) (.int .i64 F) (.slice B 9 c') (bk_some (KX1))
          have O := own_put7 (w := wr) (HR.out.own) (b := w.heap.size) (by omega) (.int .i64 w0) (.int .i64 w1) (.int .i64 w2) (.int .i64 w3) (.int .i64 w4) (.int .i64 F) (.slice B 9 c')
          have BB := put7_below (w := wr) (up HW.out (up HB1.out HR.out.bel)) (by omega : _ ≤ w.heap.size) (.int .i64 w0) (.int .i64 w1) (.int .i64 w2) (.int .i64 w3) (.int .i64 w4) (.int .i64 F) (.slice B 9 c')
          generalize World.setCell _ ⟨w.heap.size, 6, none⟩ _ = U at P O BB ⊢
          have p0 := P 0 (by omega); have p1 := P 1 (by omega); have p2 := P 2 (by omega); have p3 := P 3 (by omega); have p4 := P 4 (by omega); have p5 := P 5 (by omega); have p6 := P 6 (by omega)
          clear P
          simp at p0 p1 p2 p3 p4 p5 p6
          refine bodyPost_ret (v := .agg #[.int .i64 w0, .int .i64 w1, .int .i64 w2, .int .i64 w3, .int .i64 w4, .int .i64 F, .slice B 9 c']) (by simp [results, Try.results60, go_sem, p0, p1, p2, p3, p4, p5, p6]) rfl ?_
          clear p0 p1 p2 p3 p4 p5 p6
          rw [HE.out] at O
          refine ⟨B, 9, c', ?_, own_le O, gs_own O hlen, BB⟩
          rw [Hw0.out, Hw1.out, Hw2.out, Hw3.out, Hw4.out, HF.out]
        · have e4 : k = 12 := by omega
          clear hc1 e2
          subst e4
          have KX1l := KX1.lt; have KX1c := KX1.get; have KOl := KO.lt; have KOc := KO.get
          go_wp2
          have P := put7 wr (w.heap.size) (.int .i64 w0) (.int .i64 w1) (.int .i64 w2) (.int .i64 w3) (.int .i64 w4) (.int .i64 F) (.slice B q c') (bk_some (KX1))
          have O := own_put7 (w := wr) (HR.out.own) (b := w.heap.size) (by omega) (.int .i64 w0) (.int .i64 w1) (.int .i64 w2) (.int .i64 w3) (.int .i64 w4) (.int .i64 F) (.slice B q c')
          have BB := put7_below (w := wr) (up HW.out (up HB1.out HR.out.bel)) (by omega : _ ≤ w.heap.size) (.int .i64 w0) (.int .i64 w1) (.int .i64 w2) (.int .i64 w3) (.int .i64 w4) (.int .i64 F) (.slice B q c')
          generalize World.setCell _ ⟨w.heap.size, 6, none⟩ _ = U at P O BB ⊢
          have p0 := P 0 (by omega); have p1 := P 1 (by omega); have p2 := P 2 (by omega); have p3 := P 3 (by omega); have p4 := P 4 (by omega); have p5 := P 5 (by omega); have p6 := P 6 (by omega)
          clear P
          simp at p0 p1 p2 p3 p4 p5 p6
          refine bodyPost_ret (v := .agg #[.int .i64 w0, .int .i64 w1, .int .i64 w2, .int .i64 w3, .int .i64 w4, .int .i64 F, .slice B q c']) (by simp [results, Try.results60, go_sem, p0, p1, p2, p3, p4, p5, p6]) rfl ?_
          clear p0 p1 p2 p3 p4 p5 p6
          rw [HE.out] at O
          refine ⟨B, q, c', ?_, own_le O, gs_own O hlen, BB⟩
          rw [Hw0.out, Hw1.out, Hw2.out, Hw3.out, Hw4.out, HF.out]
      · have e4 : k = n := by omega
        clear hc1 e1
        subst e4
        have KX1l := KX1.lt; have KX1c := KX1.get; have KOl := KO.lt; have KOc := KO.get
        go_wp2
        have P := put7 wr (w.heap.size) (.int .i64 w0) (.int .i64 w1) (.int .i64 w2) (.int .i64 w3) (.int .i64 w4) (.int .i64 F) (.slice B q c') (bk_some (KX1))
        have O := own_put7 (w := wr) (HR.out.own) (b := w.heap.size) (by omega) (.int .i64 w0) (.int .i64 w1) (.int .i64 w2) (.int .i64 w3) (.int .i64 w4) (.int .i64 F) (.slice B q c')
        have BB := put7_below (w := wr) (up HW.out (up HB1.out HR.out.bel)) (by omega : _ ≤ w.heap.size) (.int .i64 w0) (.int .i64 w1) (.int .i64 w2) (.int .i64 w3) (.int .i64 w4) (.int .i64 F) (.slice B q c')
        generalize World.setCell _ ⟨w.heap.size, 6, none⟩ _ = U at P O BB ⊢
        have p0 := P 0 (by omega); have p1 := P 1 (by omega); have p2 := P 2 (by omega); have p3 := P 3 (by omega); have p4 := P 4 (by omega); have p5 := P 5 (by omega); have p6 := P 6 (by omega)
        clear P
        simp at p0 p1 p2 p3 p4 p5 p6
        refine bodyPost_ret (v := .agg #[.int .i64 w0, .int .i64 w1, .int .i64 w2, .int .i64 w3, .int .i64 w4, .int .i64 F, .slice B q c']) (by simp [results, Try.results60, go_sem, p0, p1, p2, p3, p4, p5, p6]) rfl ?_
        clear p0 p1 p2 p3 p4 p5 p6
        rw [HE.out] at O
        refine ⟨B, q, c', ?_, own_le O, gs_own O hlen, BB⟩
        rw [Hw0.out, Hw1.out, Hw2.out, Hw3.out, Hw4.out, HF.out]
    obtain ⟨e1, e2, e3⟩ := hc1
    have hkl : k < l.length := by rw [← Hl.out]; exact e1
    have hmk : madeK w0 w1 w2 w3 w4 F l (k + 1) = mStep w0 w1 w2 w3 w4 F (l.getD k 0) k (madeK w0 w1 w2 w3 w4 F l k) := by rw [madeK, if_pos (by rw [← Hqe.out]; exact e3)]
    have Hmk := Lib.hid hmk
    clear hmk
    obtain ⟨bl, ol, hAe, hbl, hcl⟩ := HL.out.get k hkl
    subst hAe
    have hgd : l.getD k 0 = l[k] := by rw [List.getD_eq_getElem?_getD, List.getElem?_eq_getElem hkl]; rfl
    rw [hgd] at Hmk
    clear hgd
    have Hc : Hid (∀ R, Below V.heap.size V R → R.cell? ⟨bl, ol + k, none⟩ = some (.int .i64 l[k]) ∧ bl < R.heap.size) := Lib.hid (fun R hb => ⟨(hb.cell (p := ⟨bl, ol + k, none⟩) hbl).trans hcl, Nat.lt_of_lt_of_le hbl hb.size⟩)
    generalize l[k] = x at *
    clear hcl
    generalize madeK w0 w1 w2 w3 w4 F l k = st at *
    obtain ⟨ow, gs⟩ := st
    have x0 := Int.emod_nonneg x (by decide : (4 : Int) ≠ 0)
    have x1 := Int.emod_lt_of_pos x (by decide : (0 : Int) < 4)
    have hs0' : 0 ≤ ow := hs0
    have hs1' : ow ≤ 4 * k := hs1
    clear hs0 hs1
    obtain ⟨hc, hbr⟩ := Hc.out wr HR.out.bel
    have Hnum : Hid (wrap64 (wrap64 (x * 7) + (k : Int) * 2503) % 15625 = ((mNum x k : Nat) : Int)) := Lib.hid (by
      unfold mNum
      have h0 := Int.emod_nonneg (wrap64 (wrap64 (x * 7) + (k : Int) * 2503)) (by decide : (15625 : Int) ≠ 0)
      omega)
    have Hlt := Lib.hid (mNum_lt x k)
    have KX1l := KX1.lt; have KX1c := KX1.get; have KOl := KO.lt; have KOc := KO.get
    go_upto_region 7 with (go_at_call 58; refine (mod_any _ _ _ (by omega) (by omega)).mono ?_; rintro e y1 ⟨rfl, rfl⟩)
    clear KX1l KX1c KOl KOc
    clear hc hbr
    obtain ⟨hc, hbr⟩ := Hc.out wr HR.out.bel
    go_upto_region 8 with (first | (go_at_call 58; refine (mod_any _ _ _ (by decide) (by decide)).mono ?_; rintro e y1 ⟨rfl, rfl⟩; rw [Hnum.out]) | (go_at_call 57; refine (numbered_any (mNum x k) _ Hlt.out).mono ?_; rintro e y2 ⟨rfl, hb2⟩; have HB2 := Lib.hid hb2; clear hb2))
    have Hdg := Lib.hid (markNo_dig (mNum x k))
    have Hmk2 : Hid (madeK w0 w1 w2 w3 w4 F l (k + 1) = (ow + (1 + x % 4), if refNearB w0 w1 w2 w3 w4 F (markNo (mNum x k)).r0 (markNo (mNum x k)).r1 (markNo (mNum x k)).r2 (markNo (mNum x k)).r3 (markNo (mNum x k)).r4 (markNo (mNum x k)).r5 gs = true then gs else gs ++ [(markNo (mNum x k)).giv (ow + (1 + x % 4))])) := Lib.hid Hmk.out
    clear Hmk Hnum Hlt hc hbr
    generalize markNo (mNum x k) = m at *
    generalize hV3 : World.alloc y2 _ = Y3
    have hb3 : Below y2.heap.size y2 Y3 := by subst hV3; exact up_alloc _ _
    have KG : Bk Y3 y2.heap.size [.int .i64 (ow + (1 + x % 4)), .int .i64 m.r0, .int .i64 m.r1, .int .i64 m.r2, .int .i64 m.r3, .int .i64 m.r4, .int .i64 m.r5] := ⟨by subst hV3; simp, by subst hV3; intro j; simp [go_sem]⟩
    clear hV3
    have HR3 := Lib.hid (HR.out.grow (up HB2.out hb3))
    clear hb3 HB2 HR KX1 KO
    have KO := HR3.out.bk
    obtain ⟨⟨m0, k0⟩, ⟨m1, k1⟩, ⟨m2, k2⟩, ⟨m3, k3⟩, ⟨m4, k4⟩, ⟨m5, k5⟩⟩ := Hdg.out
    have hgl : gs.length ≤ 100000 := by have : q = gs.length := Hqe.out; omega
    have HGs := Lib.hid (gs_own HR3.out.own hgl)
    have KOl := KO.lt; have KOc := KO.get; have KGl := KG.lt; have KGc := KG.get
    go_wp2_with fail
    refine (refNear_any w0 w1 w2 w3 w4 F m.r0 m.r1 m.r2 m.r3 m.r4 m.r5 B q c' gs Y3 m0 k0 m1 k1 m2 k2 m3 k3 m4 k4 m5 k5 hFb.1 (by omega) HGs.out (okB_ok Hokk.out)).mono ?_
    rintro e y5 ⟨rfl, hb5⟩
    clear KOl KOc KGl KGc
    have HR5 := Lib.hid (HR3.out.grow hb5)
    replace KG := KG.keep hb5
    clear hb5 HR3 KO
    have KO := HR5.out.bk
    generalize hN : refNearB w0 w1 w2 w3 w4 F m.r0 m.r1 m.r2 m.r3 m.r4 m.r5 gs = N at *
    cases N
    · have HE : Hid (madeK w0 w1 w2 w3 w4 F l (k + 1) = (ow + (1 + x % 4), gs ++ [m.giv (ow + (1 + x % 4))])) := Lib.hid (by rw [Hmk2.out]; simp)
      clear hN Hmk2
      generalize hgv : m.giv (ow + (1 + x % 4)) = g at *
      have eo : ow + (1 + x % 4) = g.o := by rw [← hgv]; rfl
      have e0 : m.r0 = g.m0 := by rw [← hgv]; rfl
      have e1' : m.r1 = g.m1 := by rw [← hgv]; rfl
      have e2' : m.r2 = g.m2 := by rw [← hgv]; rfl
      have e3' : m.r3 = g.m3 := by rw [← hgv]; rfl
      have e4' : m.r4 = g.m4 := by rw [← hgv]; rfl
      have e5' : m.r5 = g.m5 := by rw [← hgv]; rfl
      clear hgv
      rw [e0, e1', e2', e3', e4', e5', eo] at KG
      clear e0 e1' e2' e3' e4' e5' eo m0 k0 m1 k1 m2 k2 m3 k3 m4 k4 m5 k5
      have KOl := KO.lt; have KOc := KO.get; have KGl := KG.lt; have KGc := KG.get
      have hB : Below y5.heap.size y5 (y5.alloc (Obj.cells #[.int .i64 g.o, .int .i64 g.m0, .int .i64 g.m1, .int .i64 g.m2, .int .i64 g.m3, .int .i64 g.m4, .int .i64 g.m5] 30)) := by go_grown
      have HBn := Lib.hid hB
      clear hB
      go_wp2_with (at_builtin; refine wpList_append_lies _ rfl _ _ 24 rfl (V.heap.size + 1) 30 i0 (.agg #[.int .i64 0, .int .i64 0, .int .i64 0, .int .i64 0, .int .i64 0, .int .i64 0, .int .i64 0]) 7 56 Try.underlying24 HI0.out HZ0.out HZ1.out HZ2.out rfl (by decide) _ _ _ (by rfl) (HR5.out.own.alloc _) ⟨y5.heap.size, 0, none⟩ 1 1 [.int .i64 g.o, .int .i64 g.m0, .int .i64 g.m1, .int .i64 g.m2, .int .i64 g.m3, .int .i64 g.m4, .int .i64 g.m5] (by rfl) rfl (World.news_of_block (cs := #[.int .i64 g.o, .int .i64 g.m0, .int .i64 g.m1, .int .i64 g.m2, .int .i64 g.m3, .int .i64 g.m4, .int .i64 g.m5]) (t := 30) (fr := (0, 0)) (heap_alloc_new y5 _)) (by simp [Value.oneCell']) (by decide) (by unfold maxLen; omega) (by omega) (by simp; omega) (y5.heap.size + 1) (by simp) ?_; intro gy6 capy6 y6 hown1 hgrow hat hlt1; have hap := HR5.out.app HBn.out hgrow; have cx := hap.1 6; have fx := hap.2 6; rw [KOc 6] at cx; have Hown1 := Lib.hid hown1; have Hgrow := Lib.hid hgrow; clear hap hown1 hgrow hat)
      exact ⟨⟨k + 1, q + 1, capy6, _, by omega, by omega, by rw [HE.out], by go_num, by rw [HE.out]; exact (HR5.out.grow HBn.out).next Hgrow.out (by rw [gcells_snoc]; exact Hown1.out)⟩, by simp [intOf]; omega⟩
    · have HE : Hid (madeK w0 w1 w2 w3 w4 F l (k + 1) = (ow + (1 + x % 4), gs)) := Lib.hid (by rw [Hmk2.out]; simp)
      clear hN Hmk2
      have KOl := KO.lt; have KOc := KO.get; have KGl := KG.lt; have KGc := KG.get
      go_wp2
      exact ⟨⟨k + 1, q, c', B, by omega, by omega, by rw [HE.out], by go_num, by rw [HE.out]; exact HR5.out⟩, by simp [intOf]; omega⟩
end Go.Proofs.Ytbieopkohkomoaa

namespace Go.Proofs.Ytbieopkohkomoaa
open Go Go.RowKit
set_option maxHeartbeats 400000
set_option maxRecDepth 100000

def updF (f : Nat → Int) (k : Nat) (v : Int) : Nat → Int := fun j => if j = k then v else f j
/-- Some places are false. -/
def seenA (p : List Int) (f : Nat → Int) : Nat → Nat → Int
  | 0 => f
  | j + 1 => updF (seenA p f j) (atL p ((j : Int) + 2) % 6).toNat (2 ^ (atL p ((j : Int) + 5) % 5).toNat)
/-- Some places have more signs. -/
def seenB (p : List Int) (f : Nat → Int) : Nat → Nat → Int
  | 0 => f
  | j + 1 => updF (seenB p f j) (atL p ((j : Int) + 7) % 6).toNat (bits BinOp.or IntKind.i64 (seenB p f j (atL p ((j : Int) + 7) % 6).toNat) (atL p ((j : Int) + 3) % 32))
def seenR (w0 w1 w2 w3 w4 m0 m1 m2 m3 m4 m5 F : Int) (p : List Int) : Nat → Int := seenB p (seenA p (wornV w0 w1 w2 w3 w4 m0 m1 m2 m3 m4 m5 p) F.toNat) (atL p 1 % 4).toNat

/-- A box of six numbers. -/
structure SBox (wr : World) (N : Nat) (f : Nat → Int) : Prop where
  lt : N < wr.heap.size
  cell : ∀ j, j < 6 → wr.cell? ⟨N, j, none⟩ = some (.int .i64 (f j))
  fro : ∀ j, wr.frozen? ⟨N, j, none⟩ = false
theorem SBox.keep {wr w' : World} {N : Nat} {f : Nat → Int} (h : SBox wr N f) (hb : Below wr.heap.size wr w') : SBox w' N f :=
  ⟨by have := hb.size; have := h.lt; omega, fun j hj => (hb.cell (p := ⟨N, j, none⟩) h.lt).trans (h.cell j hj), fun j => (hb.frozen (p := ⟨N, j, none⟩) h.lt).trans (h.fro j)⟩
theorem SBox.put {wr : World} {N : Nat} {f : Nat → Int} {k : Nat} (h : SBox wr N f) (hk : k < 6) (v : Int) : SBox (wr.setCell ⟨N, k, none⟩ (.int .i64 v)) N (updF f k v) := by
  refine ⟨by simpa [World.setCell] using h.lt, fun j hj => ?_, fun j => by rw [World.frozen?_setCell]; exact h.fro j⟩
  unfold updF
  by_cases e : j = k
  · subst e; rw [World.cell?_setCell_same' _ _ _ (by rw [h.cell j hj]; rfl), if_pos rfl]
  · rw [World.cell?_setCell_other _ _ _ _ (by intro h; injection h with _ h2; exact e h2.symm), h.cell j hj, if_neg e]

set_option maxHeartbeats 600000 in
theorem seen_any (w0 w1 w2 w3 w4 F m0 m1 m2 m3 m4 m5 : Int) (B : Option Addr) (q c' : Nat) (A : Option Addr) (n c : Nat) (p : List Int) (w : World) (hF : 0 ≤ F ∧ F ≤ 2) (hl : Is w A n p) (hn : n ≤ 4611686018427387904) :
    Calls Try.prog 61 #[.agg #[.int .i64 w0, .int .i64 w1, .int .i64 w2, .int .i64 w3, .int .i64 w4, .int .i64 F, .slice B q c'], .agg #[.int .i64 m0, .int .i64 m1, .int .i64 m2, .int .i64 m3, .int .i64 m4, .int .i64 m5], .slice A n c] w fun e w' =>
      e = .returned (.agg #[.int .i64 (seenR w0 w1 w2 w3 w4 m0 m1 m2 m3 m4 m5 F p 0), .int .i64 (seenR w0 w1 w2 w3 w4 m0 m1 m2 m3 m4 m5 F p 1), .int .i64 (seenR w0 w1 w2 w3 w4 m0 m1 m2 m3 m4 m5 F p 2), .int .i64 (seenR w0 w1 w2 w3 w4 m0 m1 m2 m3 m4 m5 F p 3), .int .i64 (seenR w0 w1 w2 w3 w4 m0 m1 m2 m3 m4 m5 F p 4), .int .i64 (seenR w0 w1 w2 w3 w4 m0 m1 m2 m3 m4 m5 F p 5)]) ∧ Below w.heap.size w w' := by
  go_enter Try.func61, Try.ntmps61
  go_wp2_with fail
  generalize hW : (World.alloc _ _) = W
  have HW : Hid (Below w.heap.size w W) := Lib.hid (by subst hW; go_grown)
  have KM : Bk W w.heap.size [.int .i64 w0, .int .i64 w1, .int .i64 w2, .int .i64 w3, .int .i64 w4, .int .i64 F, .slice B q c'] := ⟨by subst hW; simp only [World.size_alloc]; omega, by subst hW; intro j; simp [go_sem]⟩
  have KX : Bk W (w.heap.size + 2) [.int .i64 0, .int .i64 0, .int .i64 0, .int .i64 0, .int .i64 0, .int .i64 0] := ⟨by subst hW; simp only [World.size_alloc]; omega, by subst hW; intro j; simp [go_sem]⟩
  have HFX : Hid (∀ j, W.frozen? ⟨w.heap.size + 2, j, none⟩ = false) := Lib.hid (by subst hW; intro j; simp [go_sem])
  clear hW
  have HL := Lib.hid (hl.keep HW.out)
  clear hl
  refine (refWorn_any w0 w1 w2 w3 w4 m0 m1 m2 m3 m4 m5 A n c p W HL.out hn).mono ?_
  rintro e V ⟨rfl, hb1⟩
  replace HFX := Lib.hid (fun j => (hb1.frozen (p := ⟨w.heap.size + 2, j, none⟩) KX.lt).trans (HFX.out j))
  replace KX := KX.keep hb1; replace KM := KM.keep hb1
  replace HL := Lib.hid (HL.out.keep hb1)
  have HB1 := Lib.hid hb1
  clear hb1
  have HRs : Hid (seenR w0 w1 w2 w3 w4 m0 m1 m2 m3 m4 m5 F p = seenB p (seenA p (wornV w0 w1 w2 w3 w4 m0 m1 m2 m3 m4 m5 p) F.toNat) (atL p 1 % 4).toNat) := Lib.hid rfl
  generalize wornV w0 w1 w2 w3 w4 m0 m1 m2 m3 m4 m5 p = f0 at *
  generalize wornE w0 w1 w2 w3 w4 m0 m1 m2 m3 m4 m5 = e0
  have KMl := KM.lt; have KMc := KM.get; have KXl := KX.lt; have KXc := KX.get
  go_upto_region 2 with (fail)
  clear KMl KMc KXl KXc
  have hS0 : SBox (V.alloc (.cells #[.int .i64 (f0 0), .int .i64 (f0 1), .int .i64 (f0 2), .int .i64 (f0 3), .int .i64 (f0 4), .int .i64 (f0 5)] 31)) V.heap.size f0 := ⟨by simp, fun j hj => by
      rw [World.cell?_alloc_at _ _ _ _ rfl]
      rcases (by omega : j = 0 ∨ j = 1 ∨ j = 2 ∨ j = 3 ∨ j = 4 ∨ j = 5) with rfl | rfl | rfl | rfl | rfl | rfl <;> rfl, fun j => World.frozen?_alloc_at _ _ _ _ rfl⟩
  have HS0 := Lib.hid hS0
  have HV0 := Lib.hid (up_alloc V (.cells #[.int .i64 (f0 0), .int .i64 (f0 1), .int .i64 (f0 2), .int .i64 (f0 3), .int .i64 (f0 4), .int .i64 (f0 5)] 31))
  clear hS0
  generalize (V.alloc (.cells #[.int .i64 (f0 0), .int .i64 (f0 1), .int .i64 (f0 2), .int .i64 (f0 3), .int .i64 (f0 4), .int .i64 (f0 5)] 31)) = V1 at *
  obtain ⟨F', hF'⟩ := Int.eq_ofNat_of_zero_le hF.1
  subst hF'
  have hF2 : F' ≤ 2 := by omega
  go_wp2_with fail
  go_loopw [9] (fun s wr => ∃ k : Nat, k ≤ F' ∧ s = .int .i64 k ∧ Below V.heap.size V wr ∧ SBox wr V.heap.size (seenA p f0 k)) (fun s _ => F' - (intOf s).toNat)
  case atStart => exact ⟨0, by omega, rfl, HV0.out, HS0.out⟩
  case round =>
    obtain ⟨k, hk, rfl, hbw, hsb⟩ := hrel
    have Hbw := Lib.hid hbw
    have Hsb := Lib.hid hsb
    clear hbw hsb
    have KM1 := KM.keep Hbw.out
    by_cases hlt : k < F'
    · have Hnx : Hid (seenA p f0 (k + 1) = updF (seenA p f0 k) (atL p ((k : Int) + 2) % 6).toNat (2 ^ (atL p ((k : Int) + 5) % 5).toNat)) := Lib.hid rfl
      have g0 := Int.emod_nonneg (atL p ((k : Int) + 2)) (by decide : (6 : Int) ≠ 0)
      have g1 := Int.emod_lt_of_pos (atL p ((k : Int) + 2)) (by decide : (0 : Int) < 6)
      have g2 := Int.emod_nonneg (atL p ((k : Int) + 5)) (by decide : (5 : Int) ≠ 0)
      have g3 := Int.emod_lt_of_pos (atL p ((k : Int) + 5)) (by decide : (0 : Int) < 5)
      obtain ⟨a, ha⟩ := Int.eq_ofNat_of_zero_le g0
      generalize hq : atL p ((k : Int) + 5) % 5 = s at *
      have Hq := Lib.hid hq
      have Ha := Lib.hid ha
      have ha6 : a < 6 := by omega
      have hai : (a : Int) < 6 := by omega
      have hp2 := p2_wrap s g2 g3
      clear hq ha g0 g1
      rw [Ha.out, Int.toNat_natCast] at Hnx
      have hk5 : (0 : Int) ≤ (k : Int) := by omega
      have f1 := Hsb.out.cell a ha6
      have f2 := Hsb.out.fro a
      have f3 := Hsb.out.lt
      have KM1l := KM1.lt; have KM1c := KM1.get
      go_wp2_with (first
        | (go_at_call 59; refine (at_any _ _ _ p _ _ (HL.out.keep Hbw.out) hn).mono ?_; rintro e x9 ⟨rfl, rfl⟩)
        | (go_at_call 58; refine (mod_any _ _ _ (by omega) (by omega)).mono ?_; rintro e x9 ⟨rfl, rfl⟩; first | rw [Ha.out] | rw [Hq.out]))
      exact ⟨⟨k + 1, by omega, by go_num, Hbw.out.setCell (Nat.le_refl _) _, by rw [Hnx.out]; exact Hsb.out.put ha6 _⟩, by simp [intOf]; omega⟩
    · obtain rfl : k = F' := by omega
      rw [Int.toNat_natCast] at HRs
      generalize seenA p f0 k = f1 at *
      have g0 := Int.emod_nonneg (atL p 1) (by decide : (4 : Int) ≠ 0)
      have g1 := Int.emod_lt_of_pos (atL p 1) (by decide : (0 : Int) < 4)
      obtain ⟨N, hN⟩ := Int.eq_ofNat_of_zero_le g0
      have hN4 : N < 4 := by omega
      have HN := Lib.hid hN
      rw [hN, Int.toNat_natCast] at HRs
      clear hN g0 g1
      have KM1l := KM1.lt; have KM1c := KM1.get
      go_wp2
      clear KM1l KM1c
      clear KM1
      have Hx : Hid (Below V.heap.size V wr) := Hbw
      have Hsb0 := Hsb
      go_loopw [10] (fun s wr2 => ∃ j : Nat, j ≤ N ∧ s = .int .i64 j ∧ Below V.heap.size V wr2 ∧ SBox wr2 V.heap.size (seenB p f1 j)) (fun s _ => N - (intOf s).toNat)
      case atStart => exact ⟨0, by omega, rfl, Hx.out, Hsb0.out⟩
      case round =>
        obtain ⟨j, hj, rfl, hbw, hsb⟩ := hrel
        clear Hbw Hsb Hx Hsb0
        have Hbw := Lib.hid hbw
        have Hsb := Lib.hid hsb
        clear hbw hsb
        by_cases hlt : j < N
        · have Hnx : Hid (seenB p f1 (j + 1) = updF (seenB p f1 j) (atL p ((j : Int) + 7) % 6).toNat (bits BinOp.or IntKind.i64 (seenB p f1 j (atL p ((j : Int) + 7) % 6).toNat) (atL p ((j : Int) + 3) % 32))) := Lib.hid rfl
          have g0 := Int.emod_nonneg (atL p ((j : Int) + 7)) (by decide : (6 : Int) ≠ 0)
          have g1 := Int.emod_lt_of_pos (atL p ((j : Int) + 7)) (by decide : (0 : Int) < 6)
          obtain ⟨a, ha⟩ := Int.eq_ofNat_of_zero_le g0
          have Ha := Lib.hid ha
          have ha6 : a < 6 := by omega
          have hai : (a : Int) < 6 := by omega
          have hai0 : (0 : Int) ≤ (a : Int) := by omega
          clear ha g0 g1
          rw [Ha.out, Int.toNat_natCast] at Hnx
          have hj5 : (0 : Int) ≤ (j : Int) := by omega
          have f1' := Hsb.out.cell a ha6
          have f2 := Hsb.out.fro a
          have f3 := Hsb.out.lt
          have hjN : (j : Int) < (N : Int) := by omega
          go_wp2_with (first
            | (go_at_call 59; refine (at_any _ _ _ p _ _ (HL.out.keep Hbw.out) hn).mono ?_; rintro e x9 ⟨rfl, rfl⟩)
            | (go_at_call 58; refine (mod_any _ _ _ (by omega) (by omega)).mono ?_; rintro e x9 ⟨rfl, rfl⟩; first | rw [Ha.out] | rw [HN.out]))
          have hz := grow_below wr (default : Gr)
          clear hz
          refine wp_region_grow_tail 11 (by kernel_rfl) (by kernel_rfl) ?_
          simp only [List.take_succ_cons, List.take_zero, List.drop_succ_cons, List.drop_zero]
          repeat (go_big_quiet_step ((first | (go_at_call 59; exact quiet_grow rfl (still_grow (at_any _ _ _ p _ _ (HL.out.keep (up Hbw.out (by first | exact Below.refl _ _ | exact grow_below _ _))) hn))) | (go_at_call 58; exact quiet_grow rfl (still_grow (mod_any _ _ _ (by decide) (by decide)))))))
          refine wpQuiet_nil ?_
          intro z
          have Hz := Lib.hid (grow_below wr z)
          have Hsb2 := Lib.hid (Hsb.out.keep Hz.out)
          generalize grow wr z = R at *
          clear f1' f2 f3
          have f1' := Hsb2.out.cell a ha6
          have f2 := Hsb2.out.fro a
          have f3 := Hsb2.out.lt
          go_wp2
          exact ⟨⟨j + 1, by omega, by go_num, (Hbw.out.trans (Hz.out.mono (Nat.le_of_lt Hsb.out.lt))).setCell (Nat.le_refl _) _, by rw [Hnx.out]; exact Hsb2.out.put ha6 _⟩, by simp [intOf]; omega⟩
        · obtain rfl : j = N := by omega
          have KX1 := KX.keep Hbw.out
          have FX1 : ∀ i, wr.frozen? ⟨w.heap.size + 2, i, none⟩ = false := fun i => (Hbw.out.frozen (p := ⟨w.heap.size + 2, i, none⟩) KX.lt).trans (HFX.out i)
          have d0 := Hsb.out.cell 0 (by omega); have d1 := Hsb.out.cell 1 (by omega); have d2 := Hsb.out.cell 2 (by omega); have d3 := Hsb.out.cell 3 (by omega); have d4 := Hsb.out.cell 4 (by omega); have d5 := Hsb.out.cell 5 (by omega)
          have f3 := Hsb.out.lt
          rw [← HRs.out] at d0 d1 d2 d3 d4 d5
          have b1 := KX.lt
          generalize seenB p f1 j = f2 at *
          have Ex : ∀ i, i < 6 → (wr.cell? ⟨w.heap.size + 1 + 1, i, none⟩).isSome = true := fun i hi => by
            rw [show w.heap.size + 1 + 1 = w.heap.size + 2 from rfl, KX1.get i]
            rcases (by omega : i = 0 ∨ i = 1 ∨ i = 2 ∨ i = 3 ∨ i = 4 ∨ i = 5) with rfl | rfl | rfl | rfl | rfl | rfl <;> rfl
          have HEx := Lib.hid Ex
          clear Ex
          have KX1l := KX1.lt; have KX1c := KX1.get
          go_wp2_with (first
            | (go_at_call 59; refine (at_any _ _ _ p _ _ (HL.out.keep Hbw.out) hn).mono ?_; rintro e x9 ⟨rfl, rfl⟩)
            | (go_at_call 58; refine (mod_any _ _ _ (by omega) (by omega)).mono ?_; rintro e x9 ⟨rfl, rfl⟩; rw [HN.out]))
          have P := put6 wr (w.heap.size + 1 + 1) (.int .i64 (seenR w0 w1 w2 w3 w4 m0 m1 m2 m3 m4 m5 (k : Int) p 0)) (.int .i64 (seenR w0 w1 w2 w3 w4 m0 m1 m2 m3 m4 m5 (k : Int) p 1)) (.int .i64 (seenR w0 w1 w2 w3 w4 m0 m1 m2 m3 m4 m5 (k : Int) p 2)) (.int .i64 (seenR w0 w1 w2 w3 w4 m0 m1 m2 m3 m4 m5 (k : Int) p 3)) (.int .i64 (seenR w0 w1 w2 w3 w4 m0 m1 m2 m3 m4 m5 (k : Int) p 4)) (.int .i64 (seenR w0 w1 w2 w3 w4 m0 m1 m2 m3 m4 m5 (k : Int) p 5)) HEx.out
          have BB := put6_below (w := wr) (up HW.out (up HB1.out Hbw.out)) (by omega : w.heap.size ≤ w.heap.size + 1 + 1) (.int .i64 (seenR w0 w1 w2 w3 w4 m0 m1 m2 m3 m4 m5 (k : Int) p 0)) (.int .i64 (seenR w0 w1 w2 w3 w4 m0 m1 m2 m3 m4 m5 (k : Int) p 1)) (.int .i64 (seenR w0 w1 w2 w3 w4 m0 m1 m2 m3 m4 m5 (k : Int) p 2)) (.int .i64 (seenR w0 w1 w2 w3 w4 m0 m1 m2 m3 m4 m5 (k : Int) p 3)) (.int .i64 (seenR w0 w1 w2 w3 w4 m0 m1 m2 m3 m4 m5 (k : Int) p 4)) (.int .i64 (seenR w0 w1 w2 w3 w4 m0 m1 m2 m3 m4 m5 (k : Int) p 5))
          generalize World.setCell _ ⟨w.heap.size + 1 + 1, 5, none⟩ _ = U at P BB ⊢
          have p0 := P 0 (by omega); have p1 := P 1 (by omega); have p2 := P 2 (by omega); have p3 := P 3 (by omega); have p4 := P 4 (by omega); have p5 := P 5 (by omega)
          clear P
          simp at p0 p1 p2 p3 p4 p5
          refine bodyPost_ret (v := .agg #[.int .i64 (seenR w0 w1 w2 w3 w4 m0 m1 m2 m3 m4 m5 (k : Int) p 0), .int .i64 (seenR w0 w1 w2 w3 w4 m0 m1 m2 m3 m4 m5 (k : Int) p 1), .int .i64 (seenR w0 w1 w2 w3 w4 m0 m1 m2 m3 m4 m5 (k : Int) p 2), .int .i64 (seenR w0 w1 w2 w3 w4 m0 m1 m2 m3 m4 m5 (k : Int) p 3), .int .i64 (seenR w0 w1 w2 w3 w4 m0 m1 m2 m3 m4 m5 (k : Int) p 4), .int .i64 (seenR w0 w1 w2 w3 w4 m0 m1 m2 m3 m4 m5 (k : Int) p 5)]) (by simp [results, Try.results61, go_sem, p0, p1, p2, p3, p4, p5]) rfl ⟨rfl, BB⟩
end Go.Proofs.Ytbieopkohkomoaa

namespace Go.Proofs.Ytbieopkohkomoaa
open Go Go.RowKit
set_option maxHeartbeats 400000
set_option maxRecDepth 100000

/-- The worn signs of a mark, place by place. -/
def wf (w0 w1 w2 w3 w4 : Int) (g : Giv) (k : Nat) : Int := g6 (g5 w0 w1 w2 w3 w4 g.m0) (g5 w0 w1 w2 w3 w4 g.m1) (g5 w0 w1 w2 w3 w4 g.m2) (g5 w0 w1 w2 w3 w4 g.m3) (g5 w0 w1 w2 w3 w4 g.m4) (g5 w0 w1 w2 w3 w4 g.m5) k
/-- What a reading costs. -/
def cst (a f : Nat → Int) : Int := sumK (fun j => mis (a j) (f j)) 6
theorem wcost_cst (w0 w1 w2 w3 w4 : Int) (g : Giv) (f : Nat → Int) : wcost w0 w1 w2 w3 w4 g.m0 g.m1 g.m2 g.m3 g.m4 g.m5 (f 0) (f 1) (f 2) (f 3) (f 4) (f 5) = cst (wf w0 w1 w2 w3 w4 g) f := by
  show dist6 _ _ _ _ _ _ _ _ _ _ _ _ = _
  rw [dist6_sum _ _ _ _ _ _ f]; rfl
theorem wdist_cst (w0 w1 w2 w3 w4 : Int) (g h : Giv) : wdist w0 w1 w2 w3 w4 g.m0 g.m1 g.m2 g.m3 g.m4 g.m5 h.m0 h.m1 h.m2 h.m3 h.m4 h.m5 = cst (wf w0 w1 w2 w3 w4 g) (wf w0 w1 w2 w3 w4 h) := by
  show dist6 _ _ _ _ _ _ _ _ _ _ _ _ = _
  have e := dist6_sum (g5 w0 w1 w2 w3 w4 g.m0) (g5 w0 w1 w2 w3 w4 g.m1) (g5 w0 w1 w2 w3 w4 g.m2) (g5 w0 w1 w2 w3 w4 g.m3) (g5 w0 w1 w2 w3 w4 g.m4) (g5 w0 w1 w2 w3 w4 g.m5) (wf w0 w1 w2 w3 w4 h)
  exact e
theorem wf_st {w0 w1 w2 w3 w4 : Int} {g : Giv} (h : okW w0 w1 w2 w3 w4 = true) (hg : g.okB = true) : ∀ k, k < 6 → st (wf w0 w1 w2 w3 w4 g k) := worn6_st h hg
theorem wf_g5 {w0 w1 w2 w3 w4 : Int} {g : Giv} (k : Nat) (h : k < 6) : g5 w0 w1 w2 w3 w4 (g6 g.m0 g.m1 g.m2 g.m3 g.m4 g.m5 k) = wf w0 w1 w2 w3 w4 g k := by
  rcases (by omega : k = 0 ∨ k = 1 ∨ k = 2 ∨ k = 3 ∨ k = 4 ∨ k = 5) with rfl | rfl | rfl | rfl | rfl | rfl <;> rfl

theorem sumK_mono {f g : Nat → Int} : ∀ n, (∀ j, j < n → f j ≤ g j) → sumK f n ≤ sumK g n
  | 0, _ => Int.le_refl _
  | n + 1, h => by
    simp only [sumK]
    have := sumK_mono n (fun j hj => h j (by omega))
    have := h n (by omega)
    omega
theorem sumK_zero {f : Nat → Int} : ∀ n, (∀ j, j < n → f j = 0) → sumK f n = 0
  | 0, _ => rfl
  | n + 1, h => by simp only [sumK]; rw [sumK_zero n (fun j hj => h j (by omega)), h n (by omega)]; rfl
theorem sumK_add {f g : Nat → Int} : ∀ n, sumK (fun j => f j + g j) n = sumK f n + sumK g n
  | 0 => rfl
  | n + 1 => by simp only [sumK]; rw [sumK_add n]; omega
/-- One place changed: at most one more. -/
theorem sumK_upd (a f : Nat → Int) (k : Nat) (v : Int) : ∀ n, sumK (fun j => mis (a j) (updF f k v j)) n ≤ sumK (fun j => mis (a j) (f j)) n + (if k < n then 1 else 0)
  | 0 => by simp [sumK]
  | n + 1 => by
    have ih := sumK_upd a f k v n
    simp only [sumK]
    by_cases h : k = n
    · subst h
      have e1 : ¬ k < k := by omega
      rw [if_neg e1] at ih
      rw [if_pos (by omega)]
      have := mis_bd (a k) (updF f k v k)
      have := mis_bd (a k) (f k)
      omega
    · have e : updF f k v n = f n := by unfold updF; rw [if_neg (fun e => h e.symm)]
      rw [e]
      by_cases h2 : k < n
      · rw [if_pos h2] at ih; rw [if_pos (by omega)]; omega
      · rw [if_neg h2] at ih; rw [if_neg (by omega)]; omega
theorem cst_upd (a f : Nat → Int) (k : Nat) (v : Int) : cst a (updF f k v) ≤ cst a f + 1 := by
  have := sumK_upd a f k v 6
  unfold cst
  split at this <;> omega

theorem pick_dec : ∀ (a : Fin 32) (k : Fin 5), k.val < (sgK a.val 5).length → 0 ≤ (sgK a.val 5).getD k.val 0 ∧ (sgK a.val 5).getD k.val 0 < 5 ∧ mis a.val (2 ^ ((sgK a.val 5).getD k.val 0).toNat) = 0 := by decide +kernel
theorem sgK_len5 : ∀ a : Fin 32, (sgK a.val 5).length ≤ 5 := by decide +kernel
/-- Sharp: one sign. -/
def one1 (x : Int) : Prop := ∃ s : Nat, s < 5 ∧ x = 2 ^ s
theorem one_st {x : Int} (h : one1 x) : st x := by
  obtain ⟨s, hs, rfl⟩ := h
  rcases (by omega : s = 0 ∨ s = 1 ∨ s = 2 ∨ s = 3 ∨ s = 4) with rfl | rfl | rfl | rfl | rfl <;> exact ⟨by decide, by decide⟩
theorem sg_get {a : Int} (h : st a) {k : Nat} (hk : k < (sgK a 5).length) : 0 ≤ (sgK a 5).getD k 0 ∧ (sgK a 5).getD k 0 < 5 ∧ mis a (2 ^ ((sgK a 5).getD k 0).toNat) = 0 := by
  obtain ⟨f, rfl, _⟩ := st_fin h
  have := sgK_len5 f
  exact pick_dec f ⟨k, by omega⟩ hk
theorem pick_ok {a : Int} (h : st a) (p : Int) : one1 (pickS a p) ∧ mis a (pickS a p) = 0 := by
  have hl : 0 < (sgK a 5).length := (low_st h).2.2.2
  have g0 := Int.emod_nonneg p (by omega : ((sgK a 5).length : Int) ≠ 0)
  have g1 := Int.emod_lt_of_pos p (by omega : (0 : Int) < ((sgK a 5).length : Int))
  obtain ⟨a1, a2, a3⟩ := sg_get h (k := (p % ((sgK a 5).length : Int)).toNat) (by omega)
  exact ⟨⟨_, by omega, rfl⟩, a3⟩

section
variable {w0 w1 w2 w3 w4 : Int} {g : Giv} (hw : okW w0 w1 w2 w3 w4 = true) (hg : g.okB = true)
include hw hg
theorem wornV_at (p : List Int) (k : Nat) (hk : k < 6) : wornV w0 w1 w2 w3 w4 g.m0 g.m1 g.m2 g.m3 g.m4 g.m5 p k = pickS (wf w0 w1 w2 w3 w4 g k) (pickL p k) := by
  have : wornE w0 w1 w2 w3 w4 g.m0 g.m1 g.m2 g.m3 g.m4 g.m5 = 0 := by unfold wornE; rw [hw, show okM g.m0 g.m1 g.m2 g.m3 g.m4 g.m5 = true from hg]; rfl
  unfold wornV; rw [if_pos this]; unfold wornAt; rw [wf_g5 k hk]
theorem worn_one (p : List Int) (k : Nat) (hk : k < 6) : one1 (wornV w0 w1 w2 w3 w4 g.m0 g.m1 g.m2 g.m3 g.m4 g.m5 p k) ∧ mis (wf w0 w1 w2 w3 w4 g k) (wornV w0 w1 w2 w3 w4 g.m0 g.m1 g.m2 g.m3 g.m4 g.m5 p k) = 0 := by
  rw [wornV_at hw hg p k hk]; exact pick_ok (wf_st hw hg k hk) _
theorem worn_cst (p : List Int) : cst (wf w0 w1 w2 w3 w4 g) (wornV w0 w1 w2 w3 w4 g.m0 g.m1 g.m2 g.m3 g.m4 g.m5 p) = 0 := sumK_zero 6 fun k hk => (worn_one hw hg p k hk).2
end

/-- Places that are false. -/
def falseK (p : List Int) (i0 s0 : Int) (f : Nat → Int) : Nat → Nat → Int
  | 0 => f
  | j + 1 => updF (falseK p i0 s0 f j) (atL p ((j : Int) + i0) % 6).toNat (2 ^ (atL p ((j : Int) + s0) % 5).toNat)
theorem seenA_false (p : List Int) (f : Nat → Int) : ∀ k, seenA p f k = falseK p 2 5 f k
  | 0 => rfl
  | k + 1 => by rw [seenA, falseK, seenA_false p f k]
theorem false_cst (a f : Nat → Int) (p : List Int) (i0 s0 : Int) : ∀ k, cst a (falseK p i0 s0 f k) ≤ cst a f + k
  | 0 => by simp [falseK]
  | k + 1 => by
    have := false_cst a f p i0 s0 k
    have := cst_upd a (falseK p i0 s0 f k) (atL p ((k : Int) + i0) % 6).toNat (2 ^ (atL p ((k : Int) + s0) % 5).toNat)
    rw [falseK]; omega
theorem false_one {f : Nat → Int} (hf : ∀ k, k < 6 → one1 (f k)) (p : List Int) (i0 s0 : Int) : ∀ k j, j < 6 → one1 (falseK p i0 s0 f k j)
  | 0, j, hj => hf j hj
  | k + 1, j, hj => by
    rw [falseK]; unfold updF
    split
    · have g0 := Int.emod_nonneg (atL p ((k : Int) + s0)) (by decide : (5 : Int) ≠ 0)
      have g1 := Int.emod_lt_of_pos (atL p ((k : Int) + s0)) (by decide : (0 : Int) < 5)
      exact ⟨_, by omega, rfl⟩
    · exact false_one hf p i0 s0 k j hj

theorem or_st_dec : ∀ a b : Fin 32, a.val ≠ 0 → 1 ≤ bits BinOp.or IntKind.i64 a.val b.val ∧ bits BinOp.or IntKind.i64 a.val b.val ≤ 31 := by decide +kernel
theorem or_mis_dec : ∀ a x y : Fin 32, mis a.val (bits BinOp.or IntKind.i64 x.val y.val) ≤ mis a.val x.val := by decide +kernel
theorem more_st {f : Nat → Int} (hf : ∀ k, k < 6 → st (f k)) (p : List Int) : ∀ k j, j < 6 → st (seenB p f k j)
  | 0, j, hj => hf j hj
  | k + 1, j, hj => by
    rw [seenB]; unfold updF
    have g0 := Int.emod_nonneg (atL p ((k : Int) + 3)) (by decide : (32 : Int) ≠ 0)
    have g1 := Int.emod_lt_of_pos (atL p ((k : Int) + 3)) (by decide : (0 : Int) < 32)
    have i0 := Int.emod_nonneg (atL p ((k : Int) + 7)) (by decide : (6 : Int) ≠ 0)
    have i1 := Int.emod_lt_of_pos (atL p ((k : Int) + 7)) (by decide : (0 : Int) < 6)
    split
    · obtain ⟨fa, he, hne⟩ := st_fin (more_st hf p k (atL p ((k : Int) + 7) % 6).toNat (by omega))
      obtain ⟨b, hb⟩ := Int.eq_ofNat_of_zero_le g0
      rw [he, hb]
      exact or_st_dec fa ⟨b, by omega⟩ hne
    · exact more_st hf p k j hj
theorem more_cst {a f : Nat → Int} (ha : ∀ k, k < 6 → st (a k)) (hf : ∀ k, k < 6 → st (f k)) (p : List Int) : ∀ k, cst a (seenB p f k) ≤ cst a f
  | 0 => Int.le_refl _
  | k + 1 => by
    refine Int.le_trans ?_ (more_cst ha hf p k)
    refine sumK_mono 6 fun j hj => ?_
    rw [seenB]; unfold updF
    split
    · rename_i e
      subst e
      have g0 := Int.emod_nonneg (atL p ((k : Int) + 3)) (by decide : (32 : Int) ≠ 0)
      have g1 := Int.emod_lt_of_pos (atL p ((k : Int) + 3)) (by decide : (0 : Int) < 32)
      obtain ⟨fa, he, _⟩ := st_fin (more_st hf p k _ hj)
      obtain ⟨fb, he2, _⟩ := st_fin (ha _ hj)
      obtain ⟨b, hb⟩ := Int.eq_ofNat_of_zero_le g0
      rw [he, hb, he2]
      exact or_mis_dec fb fa ⟨b, by omega⟩
    · exact Int.le_refl _

/-- What is seen is a reading, and costs no more than may be false. -/
theorem seen_good {w0 w1 w2 w3 w4 : Int} {g : Giv} (hw : okW w0 w1 w2 w3 w4 = true) (hg : g.okB = true) {F : Int} (hF : 0 ≤ F) (p : List Int) :
    (∀ k, k < 6 → st (seenR w0 w1 w2 w3 w4 g.m0 g.m1 g.m2 g.m3 g.m4 g.m5 F p k)) ∧ cst (wf w0 w1 w2 w3 w4 g) (seenR w0 w1 w2 w3 w4 g.m0 g.m1 g.m2 g.m3 g.m4 g.m5 F p) ≤ F := by
  have h1 : ∀ k, k < 6 → one1 (wornV w0 w1 w2 w3 w4 g.m0 g.m1 g.m2 g.m3 g.m4 g.m5 p k) := fun k hk => (worn_one hw hg p k hk).1
  have h2 : ∀ k, k < 6 → st (seenA p (wornV w0 w1 w2 w3 w4 g.m0 g.m1 g.m2 g.m3 g.m4 g.m5 p) F.toNat k) := fun k hk => by rw [seenA_false]; exact one_st (false_one h1 p 2 5 _ k hk)
  refine ⟨fun k hk => more_st h2 p _ k hk, Int.le_trans (more_cst (wf_st hw hg) h2 p _) ?_⟩
  rw [seenA_false]
  have := false_cst (wf w0 w1 w2 w3 w4 g) (wornV w0 w1 w2 w3 w4 g.m0 g.m1 g.m2 g.m3 g.m4 g.m5 p) p 2 5 F.toNat
  rw [worn_cst hw hg] at this
  omega
end Go.Proofs.Ytbieopkohkomoaa

namespace Go.Proofs.Ytbieopkohkomoaa
open Go Go.RowKit
set_option maxHeartbeats 400000
set_option maxRecDepth 100000

theorem tri_dec' : ∀ (j : Fin 5) (a b : Fin 32), mis a.val b.val ≤ mis a.val (2 ^ j.val) + mis b.val (2 ^ j.val) := by decide +kernel
theorem tri' {a b x : Int} (ha : st a) (hb : st b) (hx : one1 x) : mis a b ≤ mis a x + mis b x := by
  obtain ⟨f, rfl, _⟩ := st_fin ha
  obtain ⟨g, rfl, _⟩ := st_fin hb
  obtain ⟨s, hs, rfl⟩ := hx
  exact tri_dec' ⟨s, hs⟩ f g
theorem cst_tri {a b f : Nat → Int} (ha : ∀ k, k < 6 → st (a k)) (hb : ∀ k, k < 6 → st (b k)) (hf : ∀ k, k < 6 → one1 (f k)) : cst a b ≤ cst a f + cst b f := by
  unfold cst
  rw [← sumK_add]
  exact sumK_mono 6 fun j hj => tri' (ha j hj) (hb j hj) (hf j hj)

/-- Any two given marks: the owners rise, and they are apart. -/
theorem ok_pair {w0 w1 w2 w3 w4 F : Int} {gs : List Giv} (h : okB w0 w1 w2 w3 w4 F gs = true) : gs.Pairwise fun g h => g.o < h.o ∧ 2 * F < cst (wf w0 w1 w2 w3 w4 g) (wf w0 w1 w2 w3 w4 h) := by
  obtain ⟨hw, hF, _⟩ := okB_F h
  have hok := okB_ok h
  have hall : ∀ k (hk : k < gs.length), lastO gs k < gs[k].o ∧ nearB w0 w1 w2 w3 w4 F gs[k].m0 gs[k].m1 gs[k].m2 gs[k].m3 gs[k].m4 gs[k].m5 (gs.take k) = false := fun k hk => by
    simp only [okB, Bool.and_eq_true] at h
    have := allK_at h.2 k hk
    rw [okAt_some (List.getElem?_eq_getElem hk)] at this
    simp only [Bool.and_eq_true, decide_eq_true_eq, Bool.not_eq_true'] at this
    exact ⟨this.1.1.1, this.2⟩
  have hrise : ∀ i d (hk : i + d + 1 < gs.length), gs[i].o < gs[i + d + 1].o := by
    intro i d
    induction d with
    | zero =>
      intro hk
      have := (hall (i + 1) hk).1
      simp only [lastO] at this
      rw [List.getD_eq_getElem?_getD, List.getElem?_eq_getElem (by omega)] at this
      exact this
    | succ d ih =>
      intro hk
      have h1 := ih (by omega)
      have := (hall (i + d + 1 + 1) hk).1
      simp only [lastO] at this
      rw [List.getD_eq_getElem?_getD, List.getElem?_eq_getElem (by omega)] at this
      have h2 : gs[i + d + 1].o < gs[i + d + 1 + 1].o := this
      exact Int.lt_trans h1 h2
  rw [List.pairwise_iff_getElem]
  intro i j hi hj hij
  obtain ⟨d, rfl⟩ : ∃ d, j = i + d + 1 := ⟨j - i - 1, by omega⟩
  refine ⟨hrise i d hj, ?_⟩
  have h2 := (hall (i + d + 1) hj).2
  rw [near_eq hw hF (fun g hg => hok g (List.mem_of_mem_take hg))] at h2
  unfold nearD at h2
  rw [List.any_eq_false] at h2
  have h3 := h2 gs[i] (List.mem_take_iff_getElem.2 ⟨i, by omega, rfl⟩)
  rw [wdist_cst] at h3
  simp at h3
  exact h3

theorem okB_at {w0 w1 w2 w3 w4 F : Int} {gs : List Giv} (h : okB w0 w1 w2 w3 w4 F gs = true) : ∀ g ∈ gs, g.okB = true := fun g hg => by
  have := okB_ok h g hg
  exact (okM_iff _ _ _ _ _ _).2 this
theorem filter_single {α : Type} {R : α → α → Prop} {P : α → Bool} {g : α} : ∀ (l : List α), l.Pairwise R → g ∈ l → P g = true → (∀ h, (R g h ∨ R h g) → P h = false) → l.filter P = [g]
  | [], _, hg, _, _ => by simp at hg
  | x :: r, hp, hg, hP, hn => by
    rw [List.pairwise_cons] at hp
    rcases List.mem_cons.1 hg with rfl | hr
    · rw [List.filter_cons_of_pos hP]
      have : r.filter P = [] := by
        rw [List.filter_eq_nil_iff]
        intro y hy
        rw [hn y (.inl (hp.1 y hy))]; simp
      rw [this]
    · have : P x = false := hn x (.inr (hp.1 g hr))
      rw [List.filter_cons_of_neg (by rw [this]; simp)]
      exact filter_single r hp.2 hr hP hn
theorem possG_filter (w0 w1 w2 w3 w4 F : Int) (rs : List Rd) : ∀ l : List Giv, possG w0 w1 w2 w3 w4 F rs l = l.filter (possAll w0 w1 w2 w3 w4 F rs)
  | [] => rfl
  | g :: r => by
    rw [possG, possG_filter]
    by_cases h : possAll w0 w1 w2 w3 w4 F rs g = true
    · rw [if_pos h, List.filter_cons_of_pos h]
    · rw [if_neg h, List.filter_cons_of_neg h]
/-- A reading that is given by a function. -/
def rdF (f : Nat → Int) : Rd := ⟨f 0, f 1, f 2, f 3, f 4, f 5⟩
theorem possR_F (w0 w1 w2 w3 w4 F : Int) (g : Giv) (f : Nat → Int) : possR w0 w1 w2 w3 w4 F g (rdF f) = decide (cst (wf w0 w1 w2 w3 w4 g) f ≤ F) := by
  unfold possR rdF; rw [← wcost_cst]
theorem rdF_ok {f : Nat → Int} (h : ∀ k, k < 6 → st (f k)) : (rdF f).ok = true := by
  show okR _ _ _ _ _ _ = true
  simp only [okR, Bool.and_eq_true]
  exact ⟨⟨⟨⟨⟨st_rdB (h 0 (by omega)), st_rdB (h 1 (by omega))⟩, st_rdB (h 2 (by omega))⟩, st_rdB (h 3 (by omega))⟩, st_rdB (h 4 (by omega))⟩, st_rdB (h 5 (by omega))⟩
theorem brE_okF {w0 w1 w2 w3 w4 F : Int} {gs : List Giv} {f : Nat → Int} (h : okB w0 w1 w2 w3 w4 F gs = true) (hf : ∀ k, k < 6 → st (f k)) : brE w0 w1 w2 w3 w4 F gs (rdF f) = 0 := brE_0 h (rdF_ok hf)
theorem brG_okF {w0 w1 w2 w3 w4 F : Int} {gs : List Giv} {f : Nat → Int} (h : okB w0 w1 w2 w3 w4 F gs = true) (hf : ∀ k, k < 6 → st (f k)) : brG w0 w1 w2 w3 w4 F gs (rdF f) = possG w0 w1 w2 w3 w4 F [rdF f] gs := by
  unfold brG; rw [if_pos (brE_okF h hf)]
/-- Alone. -/
theorem alone {w0 w1 w2 w3 w4 F : Int} {gs : List Giv} {g : Giv} {t : Nat → Int} {rs : List Rd} (h : okB w0 w1 w2 w3 w4 F gs = true) (hg : g ∈ gs) (ht : ∀ k, k < 6 → one1 (t k)) (hc : cst (wf w0 w1 w2 w3 w4 g) t ≤ F) (hin : rdF t ∈ rs) (hall : ∀ r ∈ rs, possR w0 w1 w2 w3 w4 F g r = true) :
    possG w0 w1 w2 w3 w4 F rs gs = [g] := by
  obtain ⟨hw, _, _⟩ := okB_F h
  rw [possG_filter]
  have hp : gs.Pairwise fun a b => a ∈ gs ∧ b ∈ gs ∧ 2 * F < cst (wf w0 w1 w2 w3 w4 a) (wf w0 w1 w2 w3 w4 b) :=
    (List.Pairwise.and_mem.1 (ok_pair h)).imp fun ⟨ha, hb, _, hd⟩ => ⟨ha, hb, hd⟩
  refine filter_single gs hp hg (by unfold possAll; rw [List.all_eq_true]; exact hall) fun x hx => ?_
  unfold possAll
  rw [List.all_eq_false]
  refine ⟨_, hin, ?_⟩
  rw [possR_F]
  simp only [decide_eq_true_eq, Int.not_le]
  have hgs := wf_st hw (okB_at h g hg)
  rcases hx with ⟨_, hxm, hd⟩ | ⟨hxm, _, hd⟩
  · have := cst_tri hgs (wf_st hw (okB_at h x hxm)) ht
    omega
  · have := cst_tri (wf_st hw (okB_at h x hxm)) hgs ht
    omega
theorem hasL_own {L : List Giv} {g : Giv} (h : g ∈ L) : hasL (own L) g.o = true := by
  unfold hasL own; rw [List.any_eq_true]; exact ⟨g.o, List.mem_map_of_mem h, by simp⟩
theorem poss_mem {w0 w1 w2 w3 w4 F : Int} {gs : List Giv} {g : Giv} {f : Nat → Int} (hg : g ∈ gs) (hc : cst (wf w0 w1 w2 w3 w4 g) f ≤ F) : g ∈ possG w0 w1 w2 w3 w4 F [rdF f] gs := by
  rw [possG_filter, List.mem_filter]
  exact ⟨hg, by unfold possAll; simp only [List.all_cons, List.all_nil, Bool.and_true]; rw [possR_F]; simpa using hc⟩
/-- With fewer signs there are no more. -/
theorem poss_fewer {w0 w1 w2 w3 w4 F : Int} {gs : List Giv} {f f' : Nat → Int} (h : ∀ g ∈ gs, cst (wf w0 w1 w2 w3 w4 g) f ≤ cst (wf w0 w1 w2 w3 w4 g) f') : ∀ x ∈ own (possG w0 w1 w2 w3 w4 F [rdF f'] gs), hasL (own (possG w0 w1 w2 w3 w4 F [rdF f] gs)) x = true := by
  intro x hx
  obtain ⟨g, hg, rfl⟩ := List.mem_map.1 hx
  rw [possG_filter, List.mem_filter] at hg
  obtain ⟨hg1, hg2⟩ := hg
  unfold possAll at hg2
  simp only [List.all_cons, List.all_nil, Bool.and_true] at hg2
  rw [possR_F] at hg2
  have := h g hg1
  exact hasL_own (poss_mem hg1 (by simp only [decide_eq_true_eq] at hg2; omega))
theorem put7_bk {w : World} {N : Nat} {c0 c1 c2 c3 c4 c5 c6 : Value} (h : Bk w N [c0, c1, c2, c3, c4, c5, c6]) (v0 v1 v2 v3 v4 v5 v6 : Value) :
    Bk (((((((w.setCell ⟨N, 0, none⟩ v0).setCell ⟨N, 1, none⟩ v1).setCell ⟨N, 2, none⟩ v2).setCell ⟨N, 3, none⟩ v3).setCell ⟨N, 4, none⟩ v4).setCell ⟨N, 5, none⟩ v5).setCell ⟨N, 6, none⟩ v6) N [v0, v1, v2, v3, v4, v5, v6] := by
  refine ⟨by simp; exact h.lt, fun j => ?_⟩
  by_cases hj : j < 7
  · exact put7 w N v0 v1 v2 v3 v4 v5 v6 (bk_some h) j hj
  · repeat (rw [World.cell?_setCell_other _ _ _ _ (by intro e; injection e; omega)])
    rw [h.get j, List.getElem?_eq_none (by simp; omega), List.getElem?_eq_none (by simp; omega)]
theorem made7 {w : World} {N : Nat} {c0 c1 c2 c3 c4 c5 c6 : Value} {ty : TypeId} (h : w.heap[N]? = some (.cells #[c0, c1, c2, c3, c4, c5, c6] ty (0, 0))) :
    Bk w N [c0, c1, c2, c3, c4, c5, c6] ∧ (∀ j, w.frozen? ⟨N, j, none⟩ = false) := by
  refine ⟨⟨(Array.getElem?_eq_some_iff.1 h).1, fun j => ?_⟩, fun j => ?_⟩
  · unfold World.cell?; rw [h]; simp
  · unfold World.frozen?; rw [h]; simp
end Go.Proofs.Ytbieopkohkomoaa

namespace Go.Proofs.Ytbieopkohkomoaa
open Go Go.RowKit
set_option maxHeartbeats 400000
set_option maxRecDepth 100000

/-- A sign is left out of a set that has more than one. -/
def dropV (p : List Int) (x : Int) (k : Nat) : Int := if 1 < (sgK x 5).length then bits BinOp.and IntKind.i64 x (bits BinOp.xor IntKind.i64 (-1) (2 ^ ((sgK x 5).getD (atL p k % ((sgK x 5).length : Int)).toNat 0).toNat)) else x
def dropK (p : List Int) (f : Nat → Int) (k : Nat) : Nat → Int := fun j => if j < k then dropV p (f j) j else f j
theorem dropK_0 (p : List Int) (f : Nat → Int) : dropK p f 0 = f := by funext j; simp [dropK]
theorem dropK_put (p : List Int) (f : Nat → Int) (k : Nat) : dropK p f (k + 1) = updF (dropK p f k) k (dropV p (f k) k) := by
  funext j; unfold dropK updF
  by_cases h : j = k
  · subst h; simp
  · rw [if_neg h]
    dsimp only
    by_cases h2 : j < k
    · rw [if_pos h2, if_pos (by omega)]
    · rw [if_neg h2, if_neg (by omega)]
theorem dropK_same (p : List Int) (f : Nat → Int) (k : Nat) (h : ¬ 1 < (sgK (f k) 5).length) : dropK p f (k + 1) = dropK p f k := by
  rw [dropK_put]
  funext j; unfold updF
  split
  · rename_i e; subst e; unfold dropV dropK; rw [if_neg h, if_neg (by omega)]
  · rfl
theorem drop_dec : ∀ (x : Fin 32) (k : Fin 5), 1 < (sgK x.val 5).length → k.val < (sgK x.val 5).length →
    1 ≤ bits BinOp.and IntKind.i64 x.val (bits BinOp.xor IntKind.i64 (-1) (2 ^ ((sgK x.val 5).getD k.val 0).toNat)) ∧ bits BinOp.and IntKind.i64 x.val (bits BinOp.xor IntKind.i64 (-1) (2 ^ ((sgK x.val 5).getD k.val 0).toNat)) ≤ 31 ∧
    ∀ a : Fin 32, mis a.val x.val ≤ mis a.val (bits BinOp.and IntKind.i64 x.val (bits BinOp.xor IntKind.i64 (-1) (2 ^ ((sgK x.val 5).getD k.val 0).toNat))) := by decide +kernel
theorem drop_ok {x : Int} (h : st x) (p : List Int) (k : Nat) : st (dropV p x k) ∧ ∀ a, st a → mis a x ≤ mis a (dropV p x k) := by
  unfold dropV
  by_cases h1 : 1 < (sgK x 5).length
  · rw [if_pos h1]
    have g0 := Int.emod_nonneg (atL p k) (by omega : ((sgK x 5).length : Int) ≠ 0)
    have g1 := Int.emod_lt_of_pos (atL p k) (by omega : (0 : Int) < ((sgK x 5).length : Int))
    obtain ⟨fx, rfl, _⟩ := st_fin h
    have hl := sgK_len5 fx
    obtain ⟨a1, a2, a3⟩ := drop_dec fx ⟨(atL p k % ((sgK fx.val 5).length : Int)).toNat, by omega⟩ h1 (by show (atL p k % ((sgK fx.val 5).length : Int)).toNat < _; omega)
    refine ⟨⟨a1, a2⟩, fun a ha => ?_⟩
    obtain ⟨fa, rfl, _⟩ := st_fin ha
    exact a3 fa
  · rw [if_neg h1]; exact ⟨h, fun _ _ => Int.le_refl _⟩
theorem dropK_st {f : Nat → Int} (hf : ∀ k, k < 6 → st (f k)) (p : List Int) : ∀ k, k < 6 → st (dropK p f 6 k) := fun k hk => by
  unfold dropK; rw [if_pos hk]; exact (drop_ok (hf k hk) p k).1
theorem dropK_cst {a f : Nat → Int} (ha : ∀ k, k < 6 → st (a k)) (hf : ∀ k, k < 6 → st (f k)) (p : List Int) : cst a f ≤ cst a (dropK p f 6) :=
  sumK_mono 6 fun j hj => by
    unfold dropK; rw [if_pos hj]; exact (drop_ok (hf j hj) p j).2 _ (ha j hj)
end Go.Proofs.Ytbieopkohkomoaa

