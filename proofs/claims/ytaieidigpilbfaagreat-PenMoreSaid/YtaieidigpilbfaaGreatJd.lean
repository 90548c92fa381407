/- Contracts of functions of the program and of the reference, and plain facts: a part of a proof. Own text. -/
import Derived.Test.YtaieidigpilbfaaGreatJc
set_option linter.unusedVariables false
set_option linter.unusedSimpArgs false
set_option linter.unusedSectionVars false
namespace Go.Proofs.YtaieidigpilbfaaGreat
open Go Go.RowKit
set_option maxHeartbeats 400000
set_option maxRecDepth 100000
section
variable {w w' : World} {base b : Nat} {v : Value} {l : List Int} {t : TypeId} {cs : List Value} {row : Option Nat}
theorem Bx.grown (K : Bx w b t cs) (hg : w.grownBy w' row) (hne : some b ≠ row) : Bx w' b t cs := ⟨(hg.block b K.lt hne).trans K.h⟩
theorem OI.not_row (h : OI w base v l) (K : Bx w b t cs) (ht : t ≠ 3) : some b ≠ v.ownBlock := by
  rcases h.h.2 with ⟨rfl, _⟩ | ⟨g, cap, cur, rfl, _, hgb, _⟩
  · simp [Value.ownBlock]
  · intro e'
    obtain rfl : b = g := by simpa [Value.ownBlock] using e'
    have := K.h.symm.trans hgb
    simp at this
    exact ht this.2
theorem Fr.grown {B N : Nat} (h : OI w base v l) (hg : w.grownBy w' v.ownBlock) : Fr B N w w' :=
  ⟨hg.size, fun _ _ _ _ _ ht K => K.grown hg (h.not_row K ht)⟩
theorem OI.shorter {A : Option Addr} {n c : Nat} {x : Int} (h : OI w base (.slice A n c) (l ++ [x])) : OI w base (.slice A l.length c) l := by
  rcases h.h.2 with ⟨_, h2⟩ | ⟨g, cap, cur, e, hb, hgb, hn, hm, hs, hx⟩
  · simp at h2
  · cases e
    rw [List.length_append, List.length_singleton] at hn hx
    refine ⟨by simp [ints], .inr ⟨g, _, cur, rfl, hb, hgb, by omega, hm, hs, ?_⟩⟩
    rw [ints_snoc] at hx
    have h3 : (ints l).length = l.length := by simp [ints]
    have h4 := congrArg (List.take l.length) hx
    rw [List.take_take, List.take_append_of_le_length (Nat.le_of_eq h3.symm), List.take_of_length_le (l := ints l) (Nat.le_of_eq h3)] at h4
    rw [Nat.mul_one, ← h4]; congr 1; omega
theorem OI.shape2 {x : Int} (h : OI w base v (l ++ [x])) : ∃ g c, v = .slice (some ⟨g, 0, none⟩) (l.length + 1) c ∧ l.length + 1 ≤ c ∧ c ≤ 9223372036854775807 := by
  rcases h.h.2 with ⟨_, h2⟩ | ⟨g, cap, cur, e, hb, hgb, hn, hm, hs, hx⟩
  · simp at h2
  · rw [List.length_append, List.length_singleton] at hn e
    exact ⟨g, cap, e, hn, by unfold maxLen at hm; omega⟩
end
section
variable {ops : Array Oper} {rest : List Oper} {o : Oper} {a : Act} {w : World} {Q : Exit → Act → World → Prop}
theorem wpList_appG {base : Nat} {v : Value} {l : List Int} (K : OI w base v l) (s x : Operand) (hgd : o.guard = none) (ho : o.op = .call { callee := .builtin .append, args := #[s, x], argTypes := #[22, 22] })
    (hs : a.eval s = v) {b : Nat} {y : Int} (hx : a.eval x = .slice (some ⟨b, 0, none⟩) 1 1) (hc : w.cell? ⟨b, 0, none⟩ = some (.int .i64 y)) (hn : l.length ≤ 1000000000) (hb : base ≤ w.heap.size)
    (h : ∀ A' c' w', OI w' base (.slice A' (l.length + 1) c') (l ++ [y]) → Below base w w' → w.grownBy w' v.ownBlock → wpList Tryz.prog ops Q rest (a.put o.dst (.slice A' (l.length + 1) c')) w') : wpList Tryz.prog ops Q (o :: rest) a w := by
  obtain ⟨i0, hi, hz0, hz1, hz2⟩ := info_parts info3
  refine wpList_append_own _ hgd s x 22 ho base 3 i0 (.int .i64 0) 1 8 Tryz.underlying22 hi hz0 hz1 hz2 rfl (by decide) v l.length (ints l) hs K.h ⟨b, 0, none⟩ 1 1 [.int .i64 y] hx rfl ?_ ?_ (by unfold maxLen; omega) (by omega) hb ?_
  · intro j u hu
    cases j with
    | zero => simp at hu; subst hu; simpa [Addr.add_lit] using hc
    | succ j => simp at hu
  · intro u hu; simp at hu; subst hu; rfl
  · intro v' w' h1 h2 _
    have h3 : OI w' base v' (l ++ [y]) := ⟨by rw [ints_snoc, List.length_append]; exact h1⟩
    obtain ⟨A', c', e⟩ := h3.shape
    rw [List.length_append, List.length_singleton] at e
    subst e
    exact h A' c' w' h3 (below_grown K.h hb h2) h2
end
/-- What put gives: the pens, and whether. -/
def putN (ap st : List Int) (k : Kd) (i : Nat) : List Int := if fullS ap st k i = true then ap0 else addS st k i
theorem putN_len {ap st : List Int} {k : Kd} {i : Nat} (h : st.length = 10) : (putN ap st k i).length = 10 := by
  unfold putN; split
  · rfl
  · rw [addS_len]; exact h
theorem put_b (A : Option Addr) (n c : Nat) (B : Option Addr) (m d : Nat) (ap st : List Int) (k : Kd) (i : Nat) (w : World) (hap : ap.length = 10) (hst : st.length = 10) (hi : i < 5) (hs : 1 ≤ k.s ∧ k.s ≤ 9) (hr : 0 ≤ k.r ∧ k.r ≤ 1000) (hf1 : st.getD (i * 2) 0 ≤ 1000000) (b : Bool) (h : fullS ap st k i = b) :
    Calls Tryz.prog 85 #[.agg ⟨ldL A n c (.slice B m d) ap⟩, .agg ⟨ints st⟩, .agg #[.int .i64 k.s, .int .i64 k.r, .int .i64 k.e, .int .i64 k.a], .int .i64 (i : Int)] w fun e w' => e = .returned (.tuple #[.agg ⟨ints (putN ap st k i)⟩, .bool !b]) ∧ Below w.heap.size w w' := by
  cases b
  · have := put_ok A n c B m d ap st k i w hap hst hi hs hr hf1 h
    unfold putN; rw [if_neg (by simp [h])]; exact this
  · have := put_no A n c B m d ap st k i w hap hst hi hs h
    unfold putN; rw [if_pos h]; exact this
theorem used_b (st : List Int) (w : World) (hl : st.length = 10) (u : Int) (h : usedS st = u) : Calls Tryz.prog 152 #[.agg ⟨ints st⟩] w fun e w' => e = .returned (.int .i64 u) ∧ Below w.heap.size w w' := by
  subst h; exact used_any st w hl
end Go.Proofs.YtaieidigpilbfaaGreat

namespace Go.Proofs.YtaieidigpilbfaaGreat
open Go Go.RowKit Go.Shelf
attribute [local go_sem] Oper.semAt_some
set_option maxHeartbeats 4000000
set_option maxRecDepth 100000

/-- What comes of a search from a state on. -/
def ExPost (A : Option Addr) (n c : Nat) (P : List Int) (B : Option Addr) (m d : Nat) (bs : List Kd) (a0 a1 a2 a3 a4 a5 a6 a7 a8 a9 : Int) (most w0 : Int) (N M base l : Nat) (W : World) (J Jx : List (List Int × Value) → World → Prop) (ALL : List (List Int))
    (ks : List Kd) (pre st : List Int) (done : List (List Int × Value)) (X : World) (e : Ending) (X' : World) : Prop :=
  (∃ zs pv ts, e = .returned (.bool true) ∧ zs.map Prod.fst = (plc [a0, a1, a2, a3, a4, a5, a6, a7, a8, a9] P.length most ks st).map (pre ++ ·) ∧ J (done ++ zs) X' ∧
      Sx A n c B m d a0 a1 a2 a3 a4 a5 a6 a7 a8 a9 most N M base l X' pre pv ((done ++ zs).length : Nat) ts ∧ TInv [a0, a1, a2, a3, a4, a5, a6, a7, a8, a9] P.length most bs w0 ts ∧ Fr W.heap.size N X X') ∨
  (∃ zs, e = .returned (.bool false) ∧ (∃ t, ALL = zs.map Prod.fst ++ t) ∧ Jx zs X')

section
variable (A : Option Addr) (n c : Nat) (P : List Int) (B : Option Addr) (m d : Nat) (bs : List Kd) (a0 a1 a2 a3 a4 a5 a6 a7 a8 a9 : Int) (most w0 : Int) (N M base l mm : Nat) (W : World)
  (J Jx : List (List Int × Value) → World → Prop) (ALL : List (List Int))

theorem extend_any (hJK : ∀ pre X, J pre X → Is X A n P ∧ Ks X B m bs) (hJ : On W.heap.size J)
    (hY : ∀ pre x X, (∃ t, ALL = (pre ++ [x]).map Prod.fst ++ t) → LiesL W.heap.size x X → J pre X → W.heap.size ≤ X.heap.size → YieldAt Fence.wide mm Tryz.prog l (encL x) X fun e X' =>
      (e = .returned (.bool true) ∧ J (pre ++ [x]) X' ∧ Above W.heap.size X X') ∨ (e = .returned (.bool false) ∧ Jx (pre ++ [x]) X'))
    (hN : W.heap.size ≤ N) (hNb : N < base) (hM : W.heap.size ≤ M) (hMb : M < base) (hMN : M ≠ N) (h8 : bs.length ≤ 1000) (h5 : P.length ≤ 5) (hg : goodB bs) (hal : ALL.length ≤ 1000000) :
    ∀ (ks : List Kd) (pre st : List Int) (done : List (List Int × Value)) (X : World) (pv : Value) (ts : List (List Int)) (rest : List (List Int)),
    bs.drop pre.length = ks → pre.length ≤ bs.length → st.length = 10 → smallS st → wt st = w0 - sumR (bs.take pre.length) → TInv [a0, a1, a2, a3, a4, a5, a6, a7, a8, a9] P.length most bs w0 ts →
    ALL = done.map Prod.fst ++ (plc [a0, a1, a2, a3, a4, a5, a6, a7, a8, a9] P.length most ks st).map (pre ++ ·) ++ rest → base ≤ X.heap.size → J done X →
    Sx A n c B m d a0 a1 a2 a3 a4 a5 a6 a7 a8 a9 most N M base l X pre pv (done.length : Nat) ts →
    Calls Tryz.prog 129 #[.pointer (some ⟨N, 0, none⟩), .agg ⟨ints st⟩] X (ExPost A n c P B m d bs a0 a1 a2 a3 a4 a5 a6 a7 a8 a9 most w0 N M base l W J Jx ALL ks pre st done X) := by
  intro ks
  induction ks with
  | nil =>
    intro pre st done X pv ts rest hks hpl hst hsm hwt hti hall hbX hj hs
    have hpl2 : pre.length = bs.length := by
      have := congrArg List.length hks
      simp at this; omega
    refine (extend_end A n c P B m d bs a0 a1 a2 a3 a4 a5 a6 a7 a8 a9 most N M base l mm W J Jx ALL hJK hJ hY hN hNb hM hMb hMN pre st done X pv ts rest hpl2 h8 hst (by rw [hall]; simp [plc]) hal hbX hj hs).mono ?_
    rintro e X' (⟨v, rfl, h1, h2, h3⟩ | ⟨v, rfl, h1⟩)
    · refine .inl ⟨[(pre, v)], pv, ts, rfl, by simp [plc], h1, ?_, hti, h3⟩
      rw [List.length_append, List.length_singleton, Int.natCast_add]; exact h2
    · exact .inr ⟨done ++ [(pre, v)], rfl, ⟨rest, by rw [hall]; simp [plc]⟩, h1⟩
  | cons k ks ih =>
    intro pre st done X pv ts rest hks hpl hst hsm hwt hti hall hbX hj hs
    have hi : pre.length < bs.length := by
      have := congrArg List.length hks
      simp at this; omega
    obtain ⟨hk, hks2⟩ : bs[pre.length] = k ∧ bs.drop (pre.length + 1) = ks := by
      have := List.drop_eq_getElem_cons hi
      rw [hks] at this
      simp only [List.cons.injEq] at this
      exact ⟨this.1.symm, this.2.symm⟩
    obtain ⟨⟨s1, s9⟩, r1, r9⟩ := hg k (by rw [← hk]; exact List.getElem_mem hi)
    obtain ⟨kn, ro, tm⟩ := hs
    obtain ⟨Ap, cp, rfl⟩ := ro.shape
    have hm : m = bs.length := (hJK _ _ hj).2.len
    have hn : n = P.length := (hJK _ _ hj).1.len
    have hn5 : n ≤ 5 := by omega
    have hpm : pre.length < m := by omega
    have him : ((pre.length : Int) == (m : Int)) = false := by simp; omega
    have hp1 : pre.length ≤ 1000 := by omega
    have hd1 : done.length ≤ 1000000 := by
      have := congrArg List.length hall
      simp at this; omega
    have Hone : Hid (∀ q, q < 5 → (addS st k q).length = 10 ∧ smallS (addS st k q) ∧ wt (addS st k q) = w0 - sumR (bs.take (pre.length + 1))) := Lib.hid (fun q hq => ⟨by rw [addS_len]; exact hst, addS_small hsm (by omega), by
      rw [wt_add hst hq, hwt, List.take_succ_eq_append_getElem hi, sumR_app, hk, sumR_cons]; show _ = _ - (_ + (_ + sumR [])); have : sumR [] = 0 := rfl; omega⟩)
    have Hskip : Hid (∀ ts' q, q < 5 → TInv [a0, a1, a2, a3, a4, a5, a6, a7, a8, a9] P.length most bs w0 ts' → addS st k q ∈ ts' → plc [a0, a1, a2, a3, a4, a5, a6, a7, a8, a9] P.length most ks (addS st k q) = []) := Lib.hid (fun ts' q hq h1 h2 => by
      have := h1.skip hg h2 (by omega : pre.length + 1 ≤ bs.length) (Hone.out q hq).2.2
      rwa [hks2] at this)
    have Hspl : Hid (∀ q (zs : List (List Int × Value)), q < n → zs.map Prod.fst = (plcQ [a0, a1, a2, a3, a4, a5, a6, a7, a8, a9] P.length most ks k st q).map (pre ++ ·) → ∃ t, ALL = (done ++ zs).map Prod.fst ++ ((plc1 [a0, a1, a2, a3, a4, a5, a6, a7, a8, a9] P.length most ks k st q).map (pre ++ ·) ++ t)) := Lib.hid (fun q zs hq hz => by
      obtain ⟨t, ht⟩ := plcQ_pre (ap := [a0, a1, a2, a3, a4, a5, a6, a7, a8, a9]) (np := P.length) (most := most) (ks := ks) (k := k) (st := st) (q + 1) (n - (q + 1))
      rw [show q + 1 + (n - (q + 1)) = P.length by omega, plcQ_succ] at ht
      refine ⟨t.map (pre ++ ·) ++ rest, ?_⟩
      rw [hall, plc_cons, ht]
      simp [List.map_append, hz])
    have Hadd : Hid (∀ ts', TInv [a0, a1, a2, a3, a4, a5, a6, a7, a8, a9] P.length most bs w0 ts' → plcQ [a0, a1, a2, a3, a4, a5, a6, a7, a8, a9] P.length most ks k st P.length = [] → TInv [a0, a1, a2, a3, a4, a5, a6, a7, a8, a9] P.length most bs w0 (ts' ++ [st])) := Lib.hid (fun ts' h1 h2 => h1.add (by omega : pre.length ≤ bs.length) hwt (by rw [hks, plc_cons]; exact h2))
    have Hih := Lib.hid ih
    have Hsm5 : Hid (∀ q, q < 5 → st.getD (q * 2) 0 ≤ 1000000) := Lib.hid (fun q hq => by have := hsm q hq; omega)
    have Hks2 := Lib.hid hks2
    have Hn := Lib.hid hn
    have Hlen : Hid (∀ q : Int, (pre ++ [q]).length = pre.length + 1) := Lib.hid (fun q => by simp)
    have Hbk : Hid (∀ h : pre.length < bs.length, bs[pre.length] = k) := Lib.hid (fun _ => hk)
    have Hpi := Lib.hid hi
    obtain ⟨t0, t1, t2, t3, t4, t5, t6, t7, t8, t9, rfl⟩ := list10 hst
    have hbX1 : Below X.heap.size X (X.alloc (.cells ⟨ints [t0, t1, t2, t3, t4, t5, t6, t7, t8, t9]⟩ 107)) := up_alloc _ _
    have KI : Bx (X.alloc (.cells ⟨ints [t0, t1, t2, t3, t4, t5, t6, t7, t8, t9]⟩ 107)) X.heap.size 107 (ints [t0, t1, t2, t3, t4, t5, t6, t7, t8, t9]) := Bx.new _ _ _
    have Hj := Lib.hid (hJ _ _ _ hj (hbX1.mono (by omega)))
    have Hro := Lib.hid (ro.keep hbX1)
    have Htm := Lib.hid (tm.keep hbX1)
    have Hti := Lib.hid hti
    have KN : Bx _ N 143 _ := kn.keep hbX1
    have HY := Lib.hid hY; have HJ := Lib.hid hJ; have HJK := Lib.hid hJK
    clear hJK hJ hY hj ro tm kn hall hal hm hn ih hks hks2 hk hi hti hwt hpl hsm hg
    unfold srL at KN
    go_enter Tryz.func129, Tryz.ntmps129
    go_upto_region 1 with fail
    generalize hV : World.alloc X _ = V
    rw [hV] at hbX1 Hj Hro Htm KN KI
    clear hV
    have KNl := KN.lt; have KNc := KN.get; have KNf := KN.fr
    refine wp_region_grow (by kernel_rfl) (by kernel_rfl) ?_
    repeat (go_big_quiet_step ((fail)))
    refine wpQuiet_nil ?_
    intro z
    have hb2 := grow_below V z
    generalize grow V z = Y at *
    replace Hj := Lib.hid (HJ.out _ _ _ Hj.out (hb2.mono (by have := hbX1.size; omega)))
    replace Hro := Lib.hid (Hro.out.keep hb2)
    replace Htm := Lib.hid (Htm.out.keep hb2)
    have hXY : Hid (Below X.heap.size X Y) := Lib.hid (up hbX1 hb2)
    clear KNl KNc KNf
    replace KN := KN.keep hb2
    replace KI := KI.keep hb2
    clear hb2 hbX1
    have KNl := KN.lt; have KNc := KN.get; have KNf := KN.fr
    go_wp2_with fail
    have hXs : X.heap.size < Y.heap.size := KI.lt
    generalize hb0 : X.heap.size = b0 at KI hXs hbX
    have HX0 := Lib.hid hb0
    clear hb0
    go_loopw [50] (fun i wr => ∃ (q : Nat) (zs : List (List Int × Value)) (pv : Value) (ts' : List (List Int)), q ≤ n ∧ i = .int .i64 q ∧ zs.map Prod.fst = (plcQ [a0, a1, a2, a3, a4, a5, a6, a7, a8, a9] P.length most ks k [t0, t1, t2, t3, t4, t5, t6, t7, t8, t9] q).map (pre ++ ·) ∧ J (done ++ zs) wr ∧
      Sx A n c B m d a0 a1 a2 a3 a4 a5 a6 a7 a8 a9 most N M base l wr pre pv ((done ++ zs).length : Nat) ts' ∧ TInv [a0, a1, a2, a3, a4, a5, a6, a7, a8, a9] P.length most bs w0 ts' ∧ Fr W.heap.size N Y wr ∧ Bx wr b0 107 (ints [t0, t1, t2, t3, t4, t5, t6, t7, t8, t9])) (fun i _ => n - (intOf i).toNat)
    case atStart => exact ⟨0, [], _, ts, by omega, rfl, rfl, by rw [List.append_nil]; exact Hj.out, ⟨by rw [List.append_nil]; exact KN, Hro.out, Htm.out⟩, Hti.out, Fr.refl _ _ _, KI⟩
    case round =>
      clear KNl KNc KNf KN KI Hj Hro Htm Hti
      obtain ⟨q, zs, pv, ts', hq, rfl, hz, hj, ⟨kn, ro, tm⟩, hti, hfr, KI⟩ := hrel
      obtain ⟨Aq, cq, rfl⟩ := ro.shape
      have Hj := Lib.hid hj; have Hro := Lib.hid ro; have Htm := Lib.hid tm; have Hti := Lib.hid hti; have Hfr := Lib.hid hfr; have Hz := Lib.hid hz
      have KN : Bx _ N 143 _ := kn
      have hBr : base ≤ wr.heap.size := by have := KI.lt; omega
      have KIn := KI.lt
      clear hj ro tm hti hfr kn hz
      unfold srL at KN
      have Hf1 : Hid (0 ≤ ((done ++ zs).length : Int)) := Lib.hid (by omega)
      by_cases hlt : q < n
      · have hq5 : q < 5 := by omega
        obtain ⟨t, ht⟩ := Hspl.out q zs hlt Hz.out
        have Hall := Lib.hid ht
        clear ht
        replace KI : Bx wr b0 107 [.int .i64 t0, .int .i64 t1, .int .i64 t2, .int .i64 t3, .int .i64 t4, .int .i64 t5, .int .i64 t6, .int .i64 t7, .int .i64 t8, .int .i64 t9] := KI
        have HB8 := Lib.hid (HJK.out _ _ Hj.out).2
        obtain ⟨b2, o2, rfl, hb2, hcs⟩ := HB8.out.get pre.length Hpi.out
        clear hb2 hcs
        have KNl := KN.lt; have KNc := KN.get; have KNf := KN.fr
        go_upto_region 8 with fail
        cases hf : fullS [a0, a1, a2, a3, a4, a5, a6, a7, a8, a9] [t0, t1, t2, t3, t4, t5, t6, t7, t8, t9] k q
        · have Hf := Lib.hid hf; clear hf
          obtain ⟨l1, l2, l3⟩ := Hone.out q hq5
          refine wp_region_alloc_late 19 18 8 17 19 (.cells #[.int .i64 0, .int .i64 0, .int .i64 0, .int .i64 0, .int .i64 0, .int .i64 0, .int .i64 0, .int .i64 0, .int .i64 0, .int .i64 0] 107) (by kernel_rfl) rfl (by decide) (by decide) rfl rfl (by decide) rfl rfl (by kernel_rfl) (by kernel_rfl) (by kernel_rfl) (fun N => by kernel_rfl) (fun a w => by simp [execOp, Act.eval, go_sem]) (by kernel_rfl) ?_
          apply Exists.intro
          refine ⟨fun b N8 hbN => ?_, fun N8 => ?_, fun W9 N8 hW9 hN9 hblk => ?_⟩
          · have KNb := KN.keep hbN
            have KIb := KI.keep hbN
            have KNbl := KNb.lt; have KNbc := KNb.get; have KNbf := KNb.fr; have KIbl := KIb.lt; have KIbc := KIb.get; have KIbf := KIb.fr
            have HB9 := HB8.out.keep hbN
            obtain ⟨b3, o3, e, hb2, hcs⟩ := HB9.get pre.length Hpi.out
            cases e
            rw [Hbk.out Hpi.out] at hcs
            obtain ⟨c0, c1, c2, c3⟩ := hcs
            clear HB9
            simp only [List.set_cons_succ, List.set_cons_zero, ptrOp, List.take_succ_cons, List.take_zero]
            repeat (go_big_quiet_step ((go_at_call 85; exact quiet_grow rfl (put_ok A n c (some ⟨b2, o2, none⟩) m d [a0, a1, a2, a3, a4, a5, a6, a7, a8, a9] [t0, t1, t2, t3, t4, t5, t6, t7, t8, t9] k q _ rfl rfl hq5 ⟨s1, s9⟩ ⟨by omega, r9⟩ (Hsm5.out q hq5) Hf.out))))
            refine wpQuiet_nil ?_
            rfl
          · rfl
          simp only [List.set_cons_succ, List.set_cons_zero, late, List.drop_succ_cons, List.drop_zero]
          have KX : Bx W9 N8 107 [.int .i64 0, .int .i64 0, .int .i64 0, .int .i64 0, .int .i64 0, .int .i64 0, .int .i64 0, .int .i64 0, .int .i64 0, .int .i64 0] := ⟨hblk⟩
          clear hblk
          go_wp2_with (refine wpList_put 107 8 69 rfl rfl KX rfl rfl (sI107 l1) (sIo l1) (ints_one _) ?_; intro U KXn hp)
          refine ⟨rfl, ?_⟩
          have hbU := upP hW9 hp hN9
          clear hp KX hW9
          replace KN := KN.keep hbU
          replace KI := KI.keep hbU
          clear KNl KNc KNf
          replace Hj := Lib.hid (HJ.out _ _ _ Hj.out (hbU.mono (by omega)))
          replace Hro := Lib.hid (Hro.out.keep hbU)
          replace Htm := Lib.hid (Htm.out.keep hbU)
          replace Hfr := Lib.hid (Hfr.out.trans (Fr.below hbU))
          have hUsz := hbU.size
          clear hbU
          have Hp1n : Hid (most < usedS (addS [t0, t1, t2, t3, t4, t5, t6, t7, t8, t9] k q) → plc1 [a0, a1, a2, a3, a4, a5, a6, a7, a8, a9] P.length most ks k [t0, t1, t2, t3, t4, t5, t6, t7, t8, t9] q = []) := Lib.hid (fun h => plc1_used Hf.out (decide_eq_true h))
          have Hp1y : Hid (¬ most < usedS (addS [t0, t1, t2, t3, t4, t5, t6, t7, t8, t9] k q) → plc1 [a0, a1, a2, a3, a4, a5, a6, a7, a8, a9] P.length most ks k [t0, t1, t2, t3, t4, t5, t6, t7, t8, t9] q = (plc [a0, a1, a2, a3, a4, a5, a6, a7, a8, a9] P.length most ks (addS [t0, t1, t2, t3, t4, t5, t6, t7, t8, t9] k q)).map fun r => (q : Int) :: r) := Lib.hid (fun h => plc1_yes Hf.out (decide_eq_false h))
          have Hskq : Hid (∀ ts', TInv [a0, a1, a2, a3, a4, a5, a6, a7, a8, a9] P.length most bs w0 ts' → addS [t0, t1, t2, t3, t4, t5, t6, t7, t8, t9] k q ∈ ts' → plc [a0, a1, a2, a3, a4, a5, a6, a7, a8, a9] P.length most ks (addS [t0, t1, t2, t3, t4, t5, t6, t7, t8, t9] k q) = []) := Lib.hid (fun ts' => Hskip.out ts' q hq5)
          clear Hskip Hone Hf
          generalize addS [t0, t1, t2, t3, t4, t5, t6, t7, t8, t9] k q = nx at *
          obtain ⟨x0, x1, x2, x3, x4, x5, x6, x7, x8, x9, rfl⟩ := list10 l1
          generalize hu0 : usedS [x0, x1, x2, x3, x4, x5, x6, x7, x8, x9] = u at *
          have Hus := Lib.hid hu0
          clear hu0 l1
          have KX : Bx U N8 107 [.int .i64 x0, .int .i64 x1, .int .i64 x2, .int .i64 x3, .int .i64 x4, .int .i64 x5, .int .i64 x6, .int .i64 x7, .int .i64 x8, .int .i64 x9] := KXn
          clear KXn
          have KNl := KN.lt; have KNc := KN.get; have KNf := KN.fr; have KXl := KX.lt; have KXc := KX.get; have KXf := KX.fr
          go_upto_region 9 with fail
          by_cases hu : most < u
          · skip
            refine wp_region_grow (by kernel_rfl) (by kernel_rfl) ?_
            repeat (go_big_quiet_step (((go_at_call 152; exact quiet_grow rfl (used_b [x0, x1, x2, x3, x4, x5, x6, x7, x8, x9] _ rfl u Hus.out)))))
            refine wpQuiet_nil ?_
            intro z
            have hb := grow_below U z
            generalize grow U z = Y2 at *
            go_wp2
            refine ⟨⟨q + 1, zs, .slice Aq pre.length cq, ts', by omega, by go_num, by rw [plcQ_succ, Hp1n.out hu, List.append_nil]; exact Hz.out, HJ.out _ _ _ Hj.out (hb.mono (by omega)), ⟨KN.keep hb, Hro.out.keep hb, Htm.out.keep hb⟩, Hti.out, Hfr.out.trans (Fr.below hb), KI.keep hb⟩, by simp [intOf]; omega⟩
          · cases hmem : decide ([x0, x1, x2, x3, x4, x5, x6, x7, x8, x9] ∈ ts')
            · have hlk : ∀ z, (Instr.lookup 141 (.map (some M)) (.agg #[.int .i64 x0, .int .i64 x1, .int .i64 x2, .int .i64 x3, .int .i64 x4, .int .i64 x5, .int .i64 x6, .int .i64 x7, .int .i64 x8, .int .i64 x9]) false).run Tryz.prog (grow U z) = .ok (.bool false) (grow U z) := fun z => look_tm (Htm.out.keep (grow_below U z)) [x0, x1, x2, x3, x4, x5, x6, x7, x8, x9] rfl _ hmem
              refine wp_region_grow (by kernel_rfl) (by kernel_rfl) ?_
              repeat (go_big_quiet_step (((go_at_call 152; exact quiet_grow rfl (used_b [x0, x1, x2, x3, x4, x5, x6, x7, x8, x9] _ rfl u Hus.out)))))
              refine wpQuiet_nil ?_
              intro z
              have hb := grow_below U z
              generalize grow U z = Y2 at *
              clear hlk KNl KNc KNf KXl KXc KXf
              have hb1 : Below U.heap.size U (Y2.alloc (.cells #[.int .i64 (q : Int)] 3)) := up hb (up_alloc _ _)
              have hsY := hb.size
              have hsA : (Y2.alloc (.cells #[.int .i64 (q : Int)] 3)).heap.size = Y2.heap.size + 1 := by simp
              have hcA : (Y2.alloc (.cells #[.int .i64 (q : Int)] 3)).cell? ⟨Y2.heap.size, 0, none⟩ = some (.int .i64 (q : Int)) := by rw [cell_of_row _ _ _ _ _ _ (heap_alloc_new _ _)]; rfl
              have HroA := Lib.hid (Hro.out.keep hb1)
              have HtmA := Lib.hid (Htm.out.keep hb1)
              have HjA := Lib.hid (HJ.out _ _ _ Hj.out (hb1.mono (by omega)))
              have HfrA := Lib.hid (Hfr.out.trans (Fr.below hb1))
              have KNA := KN.keep hb1
              have KIA := KI.keep hb1
              have KXA := KX.keep hb1
              have HcA := Lib.hid hcA
              have hsB : base ≤ (Y2.alloc (.cells #[.int .i64 (q : Int)] 3)).heap.size := by omega
              have KN2 := KN.keep hb
              clear hcA hb hb1 Hro Htm Hj Hfr KI KX hsY
              clear KN
              have KN2l := KN2.lt; have KN2c := KN2.get; have KN2f := KN2.fr
              go_upto_region 11 with (at_builtin; refine wpList_appG HroA.out (.tmp 94) (.tmp 96) rfl rfl rfl rfl HcA.out (by omega) hsB ?_; intro A3 c3 U3 hO hB3 hG3; have KN3 := KNA.keepB hB3 hNb; clear KN2l KN2c KN2f; have KN3l := KN3.lt; have KN3c := KN3.get; have KN3f := KN3.fr)
              have p := Put.cell U3 N 14 (.slice A3 (pre.length + 1) c3)
              have KN4 : Bx _ N 143 (srL A n c (some ⟨b2, o2, none⟩) m d a0 a1 a2 a3 a4 a5 a6 a7 a8 a9 most M (.slice A3 (pre.length + 1) c3) ((done ++ zs).length : Nat) l) := KN3.cell 14 (.slice A3 (pre.length + 1) c3)
              generalize hS : World.setCell U3 _ _ = S at *
              clear hS KN3 KN3l KN3c KN3f
              have hHro := HroA.out
              have KI4 := (KIA.grown hG3 (hHro.not_row KIA (by decide))).put p (by omega)
              have KX4 := (KXA.grown hG3 (hHro.not_row KXA (by decide))).put p (by omega)
              have HfrS := Lib.hid ((HfrA.out.trans (Fr.grown HroA.out hG3)).trans (Fr.putN p))
              have HroS := Lib.hid (hO.put p hNb)
              have HtmS := Lib.hid ((HtmA.out.keepB hB3 hMb).put p hMN)
              have HjS := Lib.hid (HJ.out _ _ _ (HJ.out _ _ _ HjA.out (hB3.mono (by omega))) (p.below hN))
              have hsS : base ≤ S.heap.size := by have := KI4.lt; have := hB3.size; rw [p.size]; omega
              have HC : Hid (∃ t, Calls Tryz.prog 129 #[.pointer (some ⟨N, 0, none⟩), .agg ⟨ints [x0, x1, x2, x3, x4, x5, x6, x7, x8, x9]⟩] S (ExPost A n c P (some ⟨b2, o2, none⟩) m d bs a0 a1 a2 a3 a4 a5 a6 a7 a8 a9 most w0 N M base l W J Jx ALL ks (pre ++ [(q : Int)]) [x0, x1, x2, x3, x4, x5, x6, x7, x8, x9] (done ++ zs) S) ∧ t = ()) := Lib.hid (by
                refine ⟨(), Hih.out (pre ++ [(q : Int)]) [x0, x1, x2, x3, x4, x5, x6, x7, x8, x9] (done ++ zs) S (.slice A3 (pre.length + 1) c3) ts' t (by rw [Hlen.out]; exact Hks2.out) (by rw [Hlen.out]; exact Hpi.out) rfl l2 (by rw [Hlen.out]; exact l3) Hti.out ?_ hsS HjS.out ⟨KN4, HroS.out, HtmS.out⟩, rfl⟩
                rw [Hall.out, Hp1y.out hu, List.map_map, ← List.append_assoc]
                congr 2
                apply List.map_congr_left
                intro r _
                simp)
              obtain ⟨_, hC, _⟩ := HC.out
              clear HC
              have HC := Lib.hid hC
              clear hC hHro p hB3 hG3 hO HcA HroA HtmA HjA HfrA KNA KIA KXA hsA hsB
              have KX4l := KX4.lt; have KX4c := KX4.get; have KX4f := KX4.fr
              go_upto_region 13 with (go_at_call 129; refine (HC.out).mono ?_; rintro e X3 hP; rcases hP with ⟨zs2, pv2, ts2, rfl, hz2, hj2, ⟨kn, ro, tm⟩, ht2, hf2⟩ | ⟨zs2, rfl, ht2, hjx⟩)
              · obtain ⟨g2, c2, rfl, hc1, hc2⟩ := ro.shape2
                have KN5 : Bx _ N 143 _ := kn
                unfold srL at KN5
                have KI5 := hf2.box b0 _ 107 (by omega) (by omega) (by decide) KI4
                have HfrX := Lib.hid (HfrS.out.trans hf2)
                have HroX := Lib.hid ro; have HtmX := Lib.hid tm; have HjX := Lib.hid hj2; have Hz2 := Lib.hid hz2; have Ht2 := Lib.hid ht2
                have hsX := hf2.size
                clear kn ro tm hj2 hz2 ht2 hf2 KX4l KX4c KX4f KX4 KI4 HfrS HroS HtmS HjS HC
                have KN5l := KN5.lt; have KN5c := KN5.get; have KN5f := KN5.fr
                go_wp2
                have p := Put.cell X3 N 14 (.slice (some ⟨g2, 0, none⟩) pre.length c2)
                have KN6 : Bx _ N 143 (srL A n c (some ⟨b2, o2, none⟩) m d a0 a1 a2 a3 a4 a5 a6 a7 a8 a9 most M (.slice (some ⟨g2, 0, none⟩) pre.length c2) (((done ++ zs) ++ zs2).length : Nat) l) := KN5.cell 14 (.slice (some ⟨g2, 0, none⟩) pre.length c2)
                generalize World.setCell X3 _ _ = S3 at *
                refine ⟨⟨q + 1, zs ++ zs2, .slice (some ⟨g2, 0, none⟩) pre.length c2, ts2, by omega, by go_num, ?_, ?_, ⟨?_, HroX.out.shorter.put p hNb, HtmX.out.put p hMN⟩, Ht2.out, HfrX.out.trans (Fr.putN p), KI5.put p (by omega)⟩, by simp [intOf]; omega⟩
                · rw [plcQ_succ, List.map_append, List.map_append, Hz.out, Hz2.out, Hp1y.out hu, List.map_map]
                  congr 1
                  apply List.map_congr_left
                  intro r _
                  simp
                · rw [← List.append_assoc]; exact HJ.out _ _ _ HjX.out (p.below hN)
                · rw [← List.append_assoc]; exact KN6
              · have Hjx := Lib.hid hjx
                have Ht := Lib.hid ht2
                clear hjx ht2
                go_wp2
                go_ret
                exact .inr ⟨zs2, rfl, Ht.out, Hjx.out⟩
            · have hlk : ∀ z, (Instr.lookup 141 (.map (some M)) (.agg #[.int .i64 x0, .int .i64 x1, .int .i64 x2, .int .i64 x3, .int .i64 x4, .int .i64 x5, .int .i64 x6, .int .i64 x7, .int .i64 x8, .int .i64 x9]) false).run Tryz.prog (grow U z) = .ok (.bool true) (grow U z) := fun z => look_tm (Htm.out.keep (grow_below U z)) [x0, x1, x2, x3, x4, x5, x6, x7, x8, x9] rfl _ hmem
              have Hsk2 := Lib.hid (Hskq.out ts' Hti.out (of_decide_eq_true hmem))
              refine wp_region_grow (by kernel_rfl) (by kernel_rfl) ?_
              repeat (go_big_quiet_step (((go_at_call 152; exact quiet_grow rfl (used_b [x0, x1, x2, x3, x4, x5, x6, x7, x8, x9] _ rfl u Hus.out)))))
              refine wpQuiet_nil ?_
              intro z
              have hb := grow_below U z
              generalize grow U z = Y2 at *
              go_wp2
              refine ⟨⟨q + 1, zs, .slice Aq pre.length cq, ts', by omega, by go_num, by rw [plcQ_succ, Hp1y.out hu, Hsk2.out, List.map_nil, List.append_nil]; exact Hz.out, HJ.out _ _ _ Hj.out (hb.mono (by omega)), ⟨KN.keep hb, Hro.out.keep hb, Htm.out.keep hb⟩, Hti.out, Hfr.out.trans (Fr.below hb), KI.keep hb⟩, by simp [intOf]; omega⟩
        · have Hf := Lib.hid hf; clear hf
          refine wp_region_alloc_late 19 18 8 17 19 (.cells #[.int .i64 0, .int .i64 0, .int .i64 0, .int .i64 0, .int .i64 0, .int .i64 0, .int .i64 0, .int .i64 0, .int .i64 0, .int .i64 0] 107) (by kernel_rfl) rfl (by decide) (by decide) rfl rfl (by decide) rfl rfl (by kernel_rfl) (by kernel_rfl) (by kernel_rfl) (fun N => by kernel_rfl) (fun a w => by simp [execOp, Act.eval, go_sem]) (by kernel_rfl) ?_
          apply Exists.intro
          refine ⟨fun b N8 hbN => ?_, fun N8 => ?_, fun W9 N8 hW9 hN9 hblk => ?_⟩
          · have KNb := KN.keep hbN
            have KIb := KI.keep hbN
            have KNbl := KNb.lt; have KNbc := KNb.get; have KNbf := KNb.fr; have KIbl := KIb.lt; have KIbc := KIb.get; have KIbf := KIb.fr
            have HB9 := HB8.out.keep hbN
            obtain ⟨b3, o3, e, hb2, hcs⟩ := HB9.get pre.length Hpi.out
            cases e
            rw [Hbk.out Hpi.out] at hcs
            obtain ⟨c0, c1, c2, c3⟩ := hcs
            clear HB9
            simp only [List.set_cons_succ, List.set_cons_zero, ptrOp, List.take_succ_cons, List.take_zero]
            repeat (go_big_quiet_step ((go_at_call 85; exact quiet_grow rfl (put_no A n c (some ⟨b2, o2, none⟩) m d [a0, a1, a2, a3, a4, a5, a6, a7, a8, a9] [t0, t1, t2, t3, t4, t5, t6, t7, t8, t9] k q _ rfl rfl hq5 ⟨s1, s9⟩ Hf.out))))
            refine wpQuiet_nil ?_
            rfl
          · rfl
          simp only [List.set_cons_succ, List.set_cons_zero, late, List.drop_succ_cons, List.drop_zero]
          have KX : Bx W9 N8 107 [.int .i64 0, .int .i64 0, .int .i64 0, .int .i64 0, .int .i64 0, .int .i64 0, .int .i64 0, .int .i64 0, .int .i64 0, .int .i64 0] := ⟨hblk⟩
          clear hblk
          go_wp2_with (refine wpList_put 107 8 69 rfl rfl KX rfl rfl (sI107 (l := ap0) rfl) (sIo (l := ap0) rfl) (ints_one _) ?_; intro U KXn hp)
          refine ⟨rfl, ?_⟩
          have hbU := upP hW9 hp hN9
          clear hp KX hW9
          replace KN := KN.keep hbU
          replace KI := KI.keep hbU
          clear KNl KNc KNf
          replace Hj := Lib.hid (HJ.out _ _ _ Hj.out (hbU.mono (by omega)))
          replace Hro := Lib.hid (Hro.out.keep hbU)
          replace Htm := Lib.hid (Htm.out.keep hbU)
          replace Hfr := Lib.hid (Hfr.out.trans (Fr.below hbU))
          have hUsz := hbU.size
          clear hbU
          have Hp1 := Lib.hid (plc1_no (ap := [a0, a1, a2, a3, a4, a5, a6, a7, a8, a9]) (np := P.length) (most := most) (ks := ks) (k := k) (st := [t0, t1, t2, t3, t4, t5, t6, t7, t8, t9]) (pen := q) Hf.out)
          clear Hf
          go_upto_region 9 with fail
          refine wp_region_grow (by kernel_rfl) (by kernel_rfl) ?_
          repeat (go_big_quiet_step ((fail)))
          refine wpQuiet_nil ?_
          intro z
          have hb := grow_below U z
          generalize grow U z = Y2 at *
          go_wp2
          refine ⟨⟨q + 1, zs, .slice Aq pre.length cq, ts', by omega, by go_num, by rw [plcQ_succ, Hp1.out, List.append_nil]; exact Hz.out, HJ.out _ _ _ Hj.out (hb.mono (by omega)), ⟨KN.keep hb, Hro.out.keep hb, Htm.out.keep hb⟩, Hti.out, Hfr.out.trans (Fr.below hb), KI.keep hb⟩, by simp [intOf]; omega⟩
      · obtain rfl : q = n := by omega
        by_cases hzs : zs = []
        · subst hzs
          have hfe : ((((done ++ []).length : Nat) : Int) == (done.length : Int)) = true := by simp
          have KNl := KN.lt; have KNc := KN.get; have KNf := KN.fr
          go_upto_region 16 with fail
          replace KI : Bx wr b0 107 [.int .i64 t0, .int .i64 t1, .int .i64 t2, .int .i64 t3, .int .i64 t4, .int .i64 t5, .int .i64 t6, .int .i64 t7, .int .i64 t8, .int .i64 t9] := KI
          have KIl := KI.lt; have KIc := KI.get; have KIf := KI.fr
          refine wp_region_grow_tail 5 (by kernel_rfl) (by kernel_rfl) ?_
          simp only [List.take_succ_cons, List.take_zero, List.drop_succ_cons, List.drop_zero]
          repeat (go_big_quiet_step ((fail)))
          refine wpQuiet_nil ?_
          intro z
          have hb := grow_below wr z
          generalize grow wr z = Y2 at *
          obtain ⟨U, ts2, hmu, hT2, hts2, p⟩ := tm_put (Htm.out.keep hb) [t0, t1, t2, t3, t4, t5, t6, t7, t8, t9] rfl
          have Hmu : Hid ((Instr.mapUpdate 141 (.map (some M)) (.agg #[.int .i64 t0, .int .i64 t1, .int .i64 t2, .int .i64 t3, .int .i64 t4, .int .i64 t5, .int .i64 t6, .int .i64 t7, .int .i64 t8, .int .i64 t9]) (.bool true)).run Tryz.prog Y2 = .ok () U) := Lib.hid hmu
          have hmu2 := Hmu.out
          clear hmu KNl KNc KNf KIl KIc KIf
          go_wp2
          go_ret
          have hz0 : plcQ [a0, a1, a2, a3, a4, a5, a6, a7, a8, a9] P.length most ks k [t0, t1, t2, t3, t4, t5, t6, t7, t8, t9] q = [] := by
            have := Hz.out
            simpa using this.symm
          have hz0' : plcQ [a0, a1, a2, a3, a4, a5, a6, a7, a8, a9] P.length most ks k [t0, t1, t2, t3, t4, t5, t6, t7, t8, t9] P.length = [] := by have e := Hn.out; rw [← e] at hz0 ⊢; exact hz0
          have KN2 := (KN.keep hb).put p (Ne.symm hMN)
          refine .inl ⟨[], .slice Aq pre.length cq, ts2, rfl, ?_, HJ.out _ _ _ Hj.out ((hb.mono (by omega)).trans (p.below hM)), ⟨KN2, (Hro.out.keep hb).put p hMb, hT2⟩, ?_, ((Fr.below hXY.out).trans Hfr.out).trans ((Fr.below hb).trans (Fr.putM p (Htm.out.keep hb)))⟩
          · rw [plc_cons, hz0']; rfl
          · rcases hts2 with rfl | rfl
            · exact Hti.out
            · exact Hadd.out _ Hti.out hz0'
        · generalize hdl : (done ++ zs).length = dl at KN
          have hfe : ((dl : Int) == (done.length : Int)) = false := by
            have : zs.length ≠ 0 := fun h => hzs (List.length_eq_zero_iff.1 h)
            rw [List.length_append] at hdl
            simp; omega
          have Hdl := Lib.hid hdl
          clear hdl Hf1
          have KNl := KN.lt; have KNc := KN.get; have KNf := KN.fr
          go_wp2
          go_ret
          refine .inl ⟨zs, .slice Aq pre.length cq, ts', rfl, ?_, Hj.out, ⟨by rw [Hdl.out]; exact KN, Hro.out, Htm.out⟩, Hti.out, (Fr.below hXY.out).trans Hfr.out⟩
          have e := Hn.out
          have hz := Hz.out
          rw [plc_cons]; rw [← e] at hz ⊢; exact hz
end
end Go.Proofs.YtaieidigpilbfaaGreat

namespace Go.Proofs.YtaieidigpilbfaaGreat
open Go Go.RowKit Go.Shelf
attribute [local go_sem] Oper.semAt_some
set_option maxHeartbeats 2000000
set_option maxRecDepth 100000

theorem len_flat {α : Type} (f : Nat → List α) (b : Nat) (h : ∀ i, (f i).length ≤ b) : ∀ n, ((List.range n).flatMap f).length ≤ n * b
  | 0 => by simp
  | n + 1 => by
    have := len_flat f b h n
    have := h n
    rw [List.range_succ, List.flatMap_append]
    simp only [List.length_append, List.flatMap_cons, List.flatMap_nil, List.append_nil]
    rw [Nat.add_mul]; omega
theorem plc_len (ap : List Int) (np : Nat) (most : Int) : ∀ (ks : List Kd) (st : List Int), (plc ap np most ks st).length ≤ np ^ ks.length
  | [], _ => by simp [plc]
  | k :: ks, st => by
    rw [plc, List.length_cons, Nat.pow_succ, Nat.mul_comm]
    refine len_flat _ _ (fun i => ?_) np
    split
    · simp
    · split
      · simp
      · rw [List.length_map]; exact plc_len ap np most ks _
theorem plc_few (ap : List Int) {np : Nat} (most : Int) {ks : List Kd} (st : List Int) (h5 : np ≤ 5) (h8 : ks.length ≤ 8) : (plc ap np most ks st).length ≤ 1000000 := by
  have h1 := plc_len ap np most ks st
  have h2 : np ^ ks.length ≤ 5 ^ ks.length := Nat.pow_le_pow_left h5 _
  have h3 : 5 ^ ks.length ≤ 5 ^ 8 := Nat.pow_le_pow_right (by omega) h8
  have : (5 : Nat) ^ 8 = 390625 := rfl
  omega

theorem places_iter (bL bM : Nat) (A : Option Addr) (n c : Nat) (P : List Int) (B : Option Addr) (m d : Nat) (bs : List Kd) (ap : List Int) (most : Int) (w : World)
    (kl : Bx w bL 83 (ldL A n c (.slice B m d) ap)) (km : Bx w bM 3 [.int .i64 most]) (hap : ap.length = 10) (h5 : P.length ≤ 5) (hP : psOk P = true) (hg : goodB bs) (h8 : bs.length ≤ 8) :
    Iter Tryz.prog 128 #[] #[.pointer (some ⟨bL, 0, none⟩), .pointer (some ⟨bM, 0, none⟩)] encL (fun B x X => LiesL B x X) (fun X => Is X A n P ∧ Ks X B m bs)
      (fun xs => xs.map Prod.fst = plc ap P.length most bs (st0 P)) (fun pre => ∃ t, plc ap P.length most bs (st0 P) = pre.map Prod.fst ++ t) w := by
  intro n9 l J Jx W hn hW hJ hK hY h0
  refine callsIn_wide.2 ?_
  show Calls Tryz.prog 128 #[.func (.yield l) #[] #[], .pointer (some ⟨bL, 0, none⟩), .pointer (some ⟨bM, 0, none⟩)] W _
  have KL := kl.keep hW
  have KM := km.keep hW
  have hst := st0_len P
  have hlen := plc_few ap (np := P.length) most (ks := bs) (st0 P) h5 h8
  have hPn : ∀ X pre, J pre X → Is X A n P := fun X pre h => (hK pre X h).1
  have HX := Lib.hid (extend_any A n c P B m d bs)
  have HK := Lib.hid hK; have HJ := Lib.hid hJ; have HY := Lib.hid hY; have H0 := Lib.hid h0; have Hg := Lib.hid hg; have HP := Lib.hid hP
  clear hK hJ hY h0 hg hP hPn
  obtain ⟨a0, a1, a2, a3, a4, a5, a6, a7, a8, a9, rfl⟩ := list10 hap
  replace KL : Bx W bL 83 [.slice A n c, .slice B m d, .int .i64 a0, .int .i64 a1, .int .i64 a2, .int .i64 a3, .int .i64 a4, .int .i64 a5, .int .i64 a6, .int .i64 a7, .int .i64 a8, .int .i64 a9] := KL
  have KLl := KL.lt; have KLc := KL.get; have KLf := KL.fr; have KMl := KM.lt; have KMc := KM.get; have KMf := KM.fr
  go_enter Tryz.func128, Tryz.ntmps128
  have hmk : ∀ w : World, (Instr.makeMap 141 none).run Tryz.prog w = .ok (.map (some w.heap.size)) (w.alloc (.map #[] 0)) := fun w => by kernel_rfl
  go_upto_region 1 with (refine wpList_putNew 143 4 9 rfl rfl (by rw [World.size_alloc]; rfl) rfl (by kernel_rfl) rfl (by simp [Value.oneCell']) ?_; intro U KS hbu hsu)
  have hW1 : (W.alloc (.map #[] 0)).heap.size = W.heap.size + 1 := World.size_alloc _ _
  rw [hW1] at KS hbu hsu
  have hTm : Tm U W.heap.size [] := ⟨⟨#[], 0, by rw [hbu.block W.heap.size (by omega)]; exact heap_alloc_new _ _, rfl⟩, by simp⟩
  have hbU : Below W.heap.size W U := (up_alloc W _).trans (hbu.mono (by omega))
  clear hbu hW1 hmk KMl KMc KMf KLl KLc KLf
  replace KL := KL.keep hbU
  replace H0 := Lib.hid (HJ.out _ _ _ H0.out hbU)
  have KS2 : Bx U (W.heap.size + 1) 143 (srL A n c B m d a0 a1 a2 a3 a4 a5 a6 a7 a8 a9 most W.heap.size (.slice none 0 0) ((0 : Nat) : Int) l) := KS
  clear KS
  have KLl := KL.lt; have KLc := KL.get; have KLf := KL.fr
  go_upto_region 2 with (go_at_call 130; refine (empty_any A n c P (.slice B m d) [a0, a1, a2, a3, a4, a5, a6, a7, a8, a9] _ (HK.out _ _ H0.out).1 h5).mono ?_; rintro e X ⟨rfl, hbx⟩)
  have hbW : Below W.heap.size W X := hbU.trans (hbx.mono hbU.size)
  have hsX := hbx.size
  have hC := HX.out a0 a1 a2 a3 a4 a5 a6 a7 a8 a9 most (wt (st0 P)) (W.heap.size + 1) W.heap.size (W.heap.size + 2) l (n9 - 1) W J Jx (plc [a0, a1, a2, a3, a4, a5, a6, a7, a8, a9] P.length most bs (st0 P)) HK.out HJ.out HY.out (by omega) (by omega) (by omega) (by omega) (by omega) (by omega) h5 Hg.out hlen bs [] (st0 P) [] X (.slice none 0 0) [] [] rfl (by simp) hst (st0_small HP.out) (by show _ = _ - sumR []; have : sumR [] = 0 := rfl; omega) (by intro s hs; simp at hs) (by simp) (by omega) (HJ.out _ _ _ H0.out (hbx.mono (by omega))) ⟨KS2.keep hbx, OI.nil _ _, hTm.keep hbx⟩
  refine hC.mono ?_
  clear KLl KLc KLf
  rintro e X2 (⟨zs, pv, ts, rfl, hz, hj, _⟩ | ⟨zs, rfl, ⟨t, ht⟩, hj⟩)
  · have Hz := Lib.hid hz; have Hj := Lib.hid hj
    clear hz hj
    go_wp2
    exact bodyPost_end (results_none rfl _ _ _) rfl ⟨⟨_, rfl⟩, .inl ⟨zs, by rw [Hz.out]; simp, by simpa using Hj.out⟩⟩
  · have Hj := Lib.hid hj; have Ht := Lib.hid ht
    clear hj ht
    go_wp2
    exact bodyPost_end (results_none rfl _ _ _) rfl ⟨⟨_, rfl⟩, .inr ⟨zs, ⟨t, Ht.out⟩, Hj.out⟩⟩
end Go.Proofs.YtaieidigpilbfaaGreat

namespace Go.Proofs.YtaieidigpilbfaaGreat
open Go Go.RowKit Go.Shelf
attribute [local go_sem] Oper.semAt_some
set_option maxHeartbeats 2000000
set_option maxRecDepth 100000

theorem placements_any (A : Option Addr) (n c : Nat) (v : Value) (ap : List Int) (most : Int) (w : World) (hap : ap.length = 10) :
    Calls Tryz.prog 78 #[.agg ⟨ldL A n c v ap⟩, .int .i64 most] w fun e w' => ∃ bL bM, e = .returned (.func (.func 128) #[] #[.pointer (some ⟨bL, 0, none⟩), .pointer (some ⟨bM, 0, none⟩)]) ∧ Below w.heap.size w w' ∧
      Bx w' bL 83 (ldL A n c v ap) ∧ Bx w' bM 3 [.int .i64 most] := by
  go_enter Tryz.func78, Tryz.ntmps78
  go_upto_region 1 with fail
  generalize hW : (World.alloc _ _) = W
  have HB : Hid (Below w.heap.size w W) := Lib.hid (by subst hW; go_grown)
  have KL : Bx W (w.heap.size) 83 (ldL A n c v ap) := by subst hW; repeat (first | (refine Bx.newAt _ _ _ ?_; first | rfl | (simp only [World.size_alloc]; done) | (simp only [World.size_alloc]; omega)) | refine Bx.old ?_ _)
  have KM : Bx W (w.heap.size + 1) 3 [.int .i64 most] := by subst hW; repeat (first | (refine Bx.newAt _ _ _ ?_; first | rfl | (simp only [World.size_alloc]; done) | (simp only [World.size_alloc]; omega)) | refine Bx.old ?_ _)
  clear hW
  have KLl := KL.lt; have KLc := KL.get; have KLf := KL.fr; have KMl := KM.lt; have KMc := KM.get; have KMf := KM.fr
  go_wp2
  go_ret
  exact ⟨_, _, rfl, HB.out, KL, KM⟩

structure NthI (w : World) (A : Option Addr) (n c : Nat) (v : Value) (ap : List Int) (r : Value) (b : Bool) (i : Int) (X : World) : Prop where
  bel : Below w.heap.size w X
  kl : Bx X w.heap.size 83 (ldL A n c v ap)
  ki : Bx X (w.heap.size + 1) 3 [.int .i64 i]
  kr : Bx X (w.heap.size + 1 + 1) 22 [r]
  kb : Bx X (w.heap.size + 1 + 1 + 1) 4 [.bool b]
theorem NthI.keepB {w X Y : World} {A : Option Addr} {n c : Nat} {v : Value} {ap : List Int} {r : Value} {b : Bool} {i : Int} {B : Nat} (h : NthI w A n c v ap r b i X) (hb : Below B X Y) (hB : w.heap.size + 1 + 1 + 1 < B) : NthI w A n c v ap r b i Y :=
  ⟨h.bel.trans (hb.mono (by omega)), h.kl.keepB hb (by omega), h.ki.keepB hb (by omega), h.kr.keepB hb (by omega), h.kb.keepB hb (by omega)⟩

theorem nth_any (A : Option Addr) (n c : Nat) (P : List Int) (B : Option Addr) (m d : Nat) (bs : List Kd) (ap : List Int) (i : Int) (w : World)
    (hA : Is w A n P) (hB : Ks w B m bs) (hap : ap.length = 10) (h5 : P.length ≤ 5) (hP : psOk P = true) (hg : goodB bs) (h8 : bs.length ≤ 8) (hi : 0 ≤ i ∧ i ≤ 1000000) :
    Calls Tryz.prog 75 #[.agg ⟨ldL A n c (.slice B m d) ap⟩, .int .i64 i] w fun e w' => Below w.heap.size w w' ∧
      ((∃ x C k c', (plc ap P.length P.length bs (st0 P))[i.toNat]? = some x ∧ e = .returned (.tuple #[.slice C k c', .bool true]) ∧ Is w' C k x ∧ (k ≤ c' ∧ c' ≤ 9223372036854775807) ∧ ∀ p, C = some p → w.heap.size ≤ p.block) ∨
       ((plc ap P.length P.length bs (st0 P))[i.toNat]? = none ∧ e = .returned (.tuple #[.slice none 0 0, .bool false]))) := by
  have Hn : Hid (n = P.length) := Lib.hid hA.len
  have hn5 : n ≤ 5 := by rw [hA.len]; exact h5
  have HA := Lib.hid hA; have HBs := Lib.hid hB; have HP := Lib.hid hP; have Hg := Lib.hid hg
  clear hA hB hP hg
  generalize hL : plc ap P.length P.length bs (st0 P) = L
  have HL := Lib.hid hL
  clear hL
  obtain ⟨a0, a1, a2, a3, a4, a5, a6, a7, a8, a9, rfl⟩ := list10 hap
  refine (callsIn_wide (n := 9)).1 (callsIn_of_wp_marks Tryz.func75 rfl trivial ?_ rfl)
  simp only [Tryz.ntmps75, List.size_toArray, List.length_cons, List.length_nil, Nat.reduceAdd, Nat.reduceSub, Array.replicate_succ, Array.replicate_zero, List.push_toArray, List.append_toArray, List.nil_append, List.cons_append]
  refine wpIn_wide.2 ?_
  go_upto_region 1 with fail
  generalize hW : (World.alloc _ _) = W
  have HB : Hid (Below w.heap.size w W) := Lib.hid (by subst hW; go_grown)
  have KL : Bx W (w.heap.size) 83 (ldL A n c (.slice B m d) [a0, a1, a2, a3, a4, a5, a6, a7, a8, a9]) := by subst hW; repeat (first | (refine Bx.newAt _ _ _ ?_; first | rfl | (simp only [World.size_alloc]; done) | (simp only [World.size_alloc]; omega)) | refine Bx.old ?_ _)
  have KI : Bx W (w.heap.size + 1) 3 [.int .i64 i] := by subst hW; repeat (first | (refine Bx.newAt _ _ _ ?_; first | rfl | (simp only [World.size_alloc]; done) | (simp only [World.size_alloc]; omega)) | refine Bx.old ?_ _)
  have KR : Bx W (w.heap.size + 1 + 1) 22 [.slice none 0 0] := by subst hW; repeat (first | (refine Bx.newAt _ _ _ ?_; first | rfl | (simp only [World.size_alloc]; done) | (simp only [World.size_alloc]; omega)) | refine Bx.old ?_ _)
  have KB : Bx W (w.heap.size + 1 + 1 + 1) 4 [.bool false] := by subst hW; repeat (first | (refine Bx.newAt _ _ _ ?_; first | rfl | (simp only [World.size_alloc]; done) | (simp only [World.size_alloc]; omega)) | refine Bx.old ?_ _)
  clear hW
  have KLl := KL.lt; have KLc := KL.get; have KLf := KL.fr; have KIl := KI.lt; have KIc := KI.get; have KIf := KI.fr; have KRl := KR.lt; have KRc := KR.get; have KRf := KR.fr; have KBl := KB.lt; have KBc := KB.get; have KBf := KB.fr
  replace KL : Bx W w.heap.size 83 [.slice A n c, .slice B m d, .int .i64 a0, .int .i64 a1, .int .i64 a2, .int .i64 a3, .int .i64 a4, .int .i64 a5, .int .i64 a6, .int .i64 a7, .int .i64 a8, .int .i64 a9] := KL
  clear KLl KLc KLf
  have KLl := KL.lt; have KLc := KL.get; have KLf := KL.fr
  go_wp2_with (go_at_call 78; refine (placements_any A n c (.slice B m d) [a0, a1, a2, a3, a4, a5, a6, a7, a8, a9] _ _ rfl).mono ?_; rintro e U ⟨bL, bM, rfl, hbu, kl, km⟩)
  clear KLl KLc KLf KIl KIc KIf KRl KRc KRf KBl KBc KBf
  have hws : w.heap.size + 1 + 1 + 1 < U.heap.size := by have := KB.lt; have := hbu.size; omega
  have I0 : NthI w A n c (.slice B m d) [a0, a1, a2, a3, a4, a5, a6, a7, a8, a9] (.slice none 0 0) false i U := ⟨up HB.out hbu, KL.keep hbu, KI.keep hbu, KR.keep hbu, KB.keep hbu⟩
  clear KL KI KR KB hbu HB
  refine (wpIn_wide (n := 9)).1 ?_
  have km' : Bx U bM 3 [.int .i64 ((P.length : Nat) : Int)] := by rw [← Hn.out]; exact km
  have hit := places_iter bL bM A n c P B m d bs [a0, a1, a2, a3, a4, a5, a6, a7, a8, a9] ((P.length : Nat) : Int) U kl km' rfl h5 HP.out Hg.out h8
  rw [HL.out] at hit
  clear kl km km'
  have Hbu := Lib.hid I0.bel
  refine rangeFunc_law (by omega) (gf := 128) (fa := #[]) (lb := #[.pointer (some ⟨bL, 0, none⟩), .pointer (some ⟨bM, 0, none⟩)]) rfl (enters_of Tryz.func128 (by kernel_rfl) rfl) hit (Below.refl _ _) (fun _ => rfl)
    (fun pre X => NthI w A n c (.slice B m d) [a0, a1, a2, a3, a4, a5, a6, a7, a8, a9] (.slice none 0 0) false (i - (pre.length : Nat)) X ∧ (pre.length : Int) ≤ i)
    (fun cd pre X => cd = .ret ∧ ∃ x C k c' j, L[i.toNat]? = some x ∧ NthI w A n c (.slice B m d) [a0, a1, a2, a3, a4, a5, a6, a7, a8, a9] (.slice C k c') true j X ∧ Is X C k x ∧ (k ≤ c' ∧ c' ≤ 9223372036854775807) ∧ ∀ p, C = some p → U.heap.size + 2 ≤ p.block)
    ?_ ?_ ?_ ⟨by simpa using I0, by simp; omega⟩ ?_ ?_ ?_
  · rintro pre X ⟨h, _⟩
    exact ⟨HA.out.keep h.bel, HBs.out.keep h.bel⟩
  · rintro s X Y ⟨h1, h2⟩ hb
    exact ⟨h1.keepB hb hws, h2⟩
  · rintro cd s X o ⟨rfl, x, C, k, c', j, h1, h2, h3, h4, h5⟩
    have hb : Below (U.heap.size + 1) X (X.putObj (U.heap.size + 1) o) := below_putObj X (by omega) o
    refine ⟨rfl, x, C, k, c', j, h1, h2.keepB hb (by omega), h3.off (by simp [World.putObj]) fun p hp _ => World.putObj_heap_other (by have := h5 p hp; omega), h4, h5⟩
  · rintro l pre x X ⟨t, ht⟩ ⟨C, k, c', hx, hkc, his, hfar⟩ ⟨hI, hpi⟩ hsz
    obtain ⟨xl, xv⟩ := x
    simp only at hx his
    subst hx
    have Hx : Hid (L[pre.length]? = some xl) := Lib.hid (by rw [ht]; simp)
    have His := Lib.hid his; have Hfar := Lib.hid hfar; have HI := Lib.hid hI
    clear ht his hfar hI
    simp only [encL]
    gi_wp2
    refine ⟨Above.refl _ _, ?_⟩
    intro Y hY1 hY2
    have KY := HI.out.keepB hY1 hws
    have HisY : Hid (Is Y C k xl) := Lib.hid (His.out.off hY2.size fun p hp hlt => hY2.block _ (Hfar.out p hp) hlt)
    have hsY := hY1.size
    clear hY1 hY2 HI
    obtain ⟨kb, kl, ki, kr, kbb⟩ := KY
    have HB := Lib.hid kb
    clear kb
    have kil := ki.lt; have kic := ki.get; have kif := ki.fr; have krl := kr.lt; have krc := kr.get; have krf := kr.fr; have kbbl := kbb.lt; have kbbc := kbb.get; have kbbf := kbb.fr
    have hpl : (0 : Int) ≤ (pre.length : Int) := by omega
    by_cases he : i = (pre.length : Int)
    · have e0 : ((i - (pre.length : Nat) : Int) == 0) = true := by simp; omega
      gi_wp2
      have p1 := Put.cell Y (w.heap.size + 1 + 1) 0 (.slice C k c')
      have k1 : Bx _ (w.heap.size + 1 + 1) 22 [.slice C k c'] := kr.cell 0 (.slice C k c')
      generalize Y.setCell ⟨w.heap.size + 1 + 1, 0, none⟩ _ = Y1 at *
      have p2 := Put.cell Y1 (w.heap.size + 1 + 1 + 1) 0 (.bool true)
      have k2 : Bx _ (w.heap.size + 1 + 1 + 1) 4 [.bool true] := (kbb.put p1 (by omega)).cell 0 (.bool true)
      generalize Y1.setCell ⟨w.heap.size + 1 + 1 + 1, 0, none⟩ _ = Y2 at *
      exact ⟨(Above.put p1 (by omega)).trans (Above.put p2 (by omega)), rfl, xl, C, k, c', i - (pre.length : Nat), by rw [he, Int.toNat_natCast]; exact Hx.out,
        ⟨upP (upP HB.out p1 (by omega)) p2 (by omega), (kl.put p1 (by omega)).put p2 (by omega), (ki.put p1 (by omega)).put p2 (by omega), k1.put p2 (by omega), k2⟩,
        (HisY.out.put p1 (fun q hq => by have := Hfar.out q hq; omega)).put p2 (fun q hq => by have := Hfar.out q hq; omega), hkc, Hfar.out⟩
    · have e0 : ((i - (pre.length : Nat) : Int) == 0) = false := by simp; omega
      gi_wp2
      have p1 := Put.cell Y (w.heap.size + 1) 0 (.int .i64 (i - (pre.length : Nat) - 1))
      have k1 : Bx _ (w.heap.size + 1) 3 [.int .i64 (i - (pre.length : Nat) - 1)] := ki.cell 0 (.int .i64 (i - (pre.length : Nat) - 1))
      generalize Y.setCell ⟨w.heap.size + 1, 0, none⟩ _ = Y1 at *
      exact ⟨Above.put p1 (by omega), ⟨upP HB.out p1 (by omega), kl.put p1 (by omega), by rw [List.length_append, List.length_singleton, show i - ((pre.length + 1 : Nat) : Int) = i - (pre.length : Nat) - 1 by omega]; exact k1, kr.put p1 (by omega), kbb.put p1 (by omega)⟩, by rw [List.length_append, List.length_singleton]; omega⟩
  · rintro xs X hS ⟨hI, hxi⟩ hdef
    have Hxl : Hid (L[i.toNat]? = none) := Lib.hid (by rw [List.getElem?_eq_none_iff, ← hS, List.length_map]; omega)
    have hd1 := Array.getElem?_eq_some_iff.1 hdef
    obtain ⟨hdl, -⟩ := hd1
    have Hdef := Lib.hid hdef
    clear hS hdef
    obtain ⟨kb, kl, ki, kr, kbb⟩ := hI
    have HB := Lib.hid kb
    clear kb
    have krl := kr.lt; have krc := kr.get; have krf := kr.fr; have kbbl := kbb.lt; have kbbc := kbb.get; have kbbf := kbb.fr
    gi_wp2
    go_wp2
    have p1 := Put.cell X (w.heap.size + 1 + 1) 0 (.slice none 0 0)
    have k1 : Bx _ (w.heap.size + 1 + 1) 22 [.slice none 0 0] := kr.cell 0 (.slice none 0 0)
    generalize X.setCell ⟨w.heap.size + 1 + 1, 0, none⟩ _ = Y1 at *
    have p2 := Put.cell Y1 (w.heap.size + 1 + 1 + 1) 0 (.bool false)
    have k2 : Bx _ (w.heap.size + 1 + 1 + 1) 4 [.bool false] := (kbb.put p1 (by omega)).cell 0 (.bool false)
    generalize Y1.setCell ⟨w.heap.size + 1 + 1 + 1, 0, none⟩ _ = Y2 at *
    have k3 := k1.put p2 (by omega)
    refine bodyPostM_marks [U.heap.size] rfl (by simp) ?_ fun Z hZ => ?_
    · intro D hD
      simp at hD; subst hD
      rw [p2.block _ (by omega), p1.block _ (by omega)]; exact Hdef.out
    · have z1 : Bx Z (w.heap.size + 1 + 1) 22 [.slice none 0 0] := ⟨(hZ.block _ (by simp; omega)).trans k3.h⟩
      have z2 : Bx Z (w.heap.size + 1 + 1 + 1) 4 [.bool false] := ⟨(hZ.block _ (by simp; omega)).trans k2.h⟩
      have c1 := z1.get 0
      have c2 := z2.get 0
      exact ⟨.tuple #[.slice none 0 0, .bool false], by simp [results, Tryz.results75, go_sem, c1, c2], hZ.below (upP (upP HB.out p1 (by omega)) p2 (by omega)) (by intro D hD; simp at hD; omega), .inr ⟨Hxl.out, rfl⟩⟩
  · rintro cd pre X ⟨t, ht⟩ ⟨rfl, x, C, k, c', j, h1, h2, h3, h4, h5⟩ hdef
    have H1 := Lib.hid h1; have H2 := Lib.hid h2; have H3 := Lib.hid h3; have H5 := Lib.hid h5
    have Hdef := Lib.hid hdef
    have hdl := (Array.getElem?_eq_some_iff.1 hdef).1
    clear ht h1 h2 h3 h5 hdef
    gi_wp2
    refine bodyPostM_marks [U.heap.size] rfl (by simp) ?_ fun Z hZ => ?_
    · intro D hD
      simp at hD; subst hD; exact Hdef.out
    · have z1 : Bx Z (w.heap.size + 1 + 1) 22 [.slice C k c'] := ⟨(hZ.block _ (by simp; omega)).trans H2.out.kr.h⟩
      have z2 : Bx Z (w.heap.size + 1 + 1 + 1) 4 [.bool true] := ⟨(hZ.block _ (by simp; omega)).trans H2.out.kb.h⟩
      have c1 := z1.get 0
      have c2 := z2.get 0
      refine ⟨.tuple #[.slice C k c', .bool true], by simp [results, Tryz.results75, go_sem, c1, c2], hZ.below H2.out.bel (by intro D hD; simp at hD; omega), .inl ⟨x, C, k, c', H1.out, rfl, H3.out.off (Nat.le_of_eq hZ.size.symm) (fun p hp _ => hZ.block _ (by have := H5.out p hp; simp; omega)), h4, fun p hp => by have := H5.out p hp; omega⟩⟩
end Go.Proofs.YtaieidigpilbfaaGreat

namespace Go.Proofs.YtaieidigpilbfaaGreat
open Go Go.RowKit
set_option maxHeartbeats 2000000
set_option maxRecDepth 100000

/-- All placements of these sorts. -/
def PL (P : List Int) (K : List Kd) (l : List Int) : List (List Int) := plc (apL K) P.length P.length (bsL K l) (st0 P)

theorem fits_any (A : Option Addr) (n c : Nat) (P : List Int) (B : Option Addr) (m d : Nat) (bs : List Kd) (ap : List Int) (w : World) (hA : Is w A n P) (hB : Ks w B m bs) (hap : ap.length = 10) (h5 : P.length ≤ 5) (hP : psOk P = true) (hg : goodB bs) (h8 : bs.length ≤ 8) :
    Calls Tryz.prog 92 #[.agg ⟨ldL A n c (.slice B m d) ap⟩] w fun e w' => e = .returned (.bool (plc ap P.length P.length bs (st0 P) != [])) ∧ Below w.heap.size w w' := by
  have HA := Lib.hid hA; have HBs := Lib.hid hB; have HP := Lib.hid hP; have Hg := Lib.hid hg
  clear hA hB hP hg
  generalize hL : plc ap P.length P.length bs (st0 P) = L
  have HL := Lib.hid hL
  clear hL
  go_enter Tryz.func92, Tryz.ntmps92
  go_upto_region 1 with fail
  generalize hW : (World.alloc _ _) = W
  have HB : Hid (Below w.heap.size w W) := Lib.hid (by subst hW; go_grown)
  have KL : Bx W (w.heap.size) 83 (ldL A n c (.slice B m d) ap) := by subst hW; repeat (first | (refine Bx.newAt _ _ _ ?_; first | rfl | (simp only [World.size_alloc]; done) | (simp only [World.size_alloc]; omega)) | refine Bx.old ?_ _)
  clear hW
  have KLl := KL.lt; have KLc := KL.get; have KLf := KL.fr
  cases L with
  | nil =>
    go_wp2_with (first
      | (refine wpList_get 83 1 rfl rfl KL rfl Tryz.underlying83 rfl (sL83' hap) ?_)
      | (go_at_call 75; refine (nth_any A n c P B m d bs ap 0 _ (HA.out.keep HB.out) (HBs.out.keep HB.out) hap h5 HP.out Hg.out h8 (by omega)).mono ?_; rw [HL.out]; rintro e V ⟨hbv, ⟨x, C, k, c', hx, _⟩ | ⟨_, rfl⟩⟩; (simp at hx); replace HB := Lib.hid (up HB.out hbv); clear hbv))
    go_ret
    exact ⟨rfl, HB.out⟩
  | cons x L =>
    go_wp2_with (first
      | (refine wpList_get 83 1 rfl rfl KL rfl Tryz.underlying83 rfl (sL83' hap) ?_)
      | (go_at_call 75; refine (nth_any A n c P B m d bs ap 0 _ (HA.out.keep HB.out) (HBs.out.keep HB.out) hap h5 HP.out Hg.out h8 (by omega)).mono ?_; rw [HL.out]; rintro e V ⟨hbv, ⟨x, C, k, c', hx, rfl, _⟩ | ⟨hx, _⟩⟩; rotate_left; (simp at hx); replace HB := Lib.hid (up HB.out hbv); clear hbv))
    go_ret
    exact ⟨rfl, HB.out⟩

theorem ret_vi {v : Value} {a b : Int} (h : b = a) : Ending.returned (.tuple #[v, .int .i64 a]) = .returned (.tuple #[v, .int .i64 b]) := by rw [h]
/-- A list of numbers that lies from a block on. -/
def Lst (base : Nat) (X : World) (v : Value) (x : List Int) : Prop := ∃ C k c', v = .slice C k c' ∧ (k ≤ c' ∧ c' ≤ 9223372036854775807) ∧ Is X C k x ∧ ∀ p, C = some p → base ≤ p.block
theorem Lst.nil (base : Nat) (X : World) : Lst base X (.slice none 0 0) [] := ⟨none, 0, 0, rfl, ⟨by omega, by omega⟩, is0 X, fun _ h => by cases h⟩
theorem Lst.keep {base : Nat} {X Y : World} {v : Value} {x : List Int} (h : Lst base X v x) (hb : Below X.heap.size X Y) : Lst base Y v x := by
  obtain ⟨C, k, c', h1, h2, h3, h4⟩ := h
  exact ⟨C, k, c', h1, h2, h3.keep hb, h4⟩
theorem Lst.mono {base b2 : Nat} {X : World} {v : Value} {x : List Int} (h : Lst base X v x) (hb : b2 ≤ base) : Lst b2 X v x := by
  obtain ⟨C, k, c', h1, h2, h3, h4⟩ := h
  exact ⟨C, k, c', h1, h2, h3, fun p hp => by have := h4 p hp; omega⟩
/-- What the n-th placement is, and its error. -/
def nthL (P : List Int) (K : List Kd) (l : List Int) (i : Nat) : List Int := if sE P K l = 0 then ((PL P K l)[i]?).getD [] else []
def nthE (P : List Int) (K : List Kd) (l : List Int) (i : Nat) (e : Int) : Int := if sE P K l = 0 then (if (PL P K l)[i]?.isSome = true then 0 else e) else sE P K l

/-- The n-th placement of a load that was checked. -/
theorem nth_pl (A : Option Addr) (n c : Nat) (P : List Int) (B : Option Addr) (d : Nat) (K : List Kd) (l : List Int) (i : Int) (w : World) (hA : Is w A n P) (hB : Ks w B l.length (bsL K l)) (h0 : sE P K l = 0) (hi : 0 ≤ i ∧ i ≤ 1000000) :
    Calls Tryz.prog 75 #[.agg ⟨ldL A n c (.slice B l.length d) (apL K)⟩, .int .i64 i] w fun e w' => ∃ v b, e = .returned (.tuple #[v, .bool b]) ∧ (PL P K l)[i.toNat]?.isSome = b ∧ Lst w.heap.size w' v (((PL P K l)[i.toNat]?).getD []) ∧ Below w.heap.size w w' := by
  obtain ⟨hy, h8, hl⟩ := sE_0 h0
  obtain ⟨h5, hP, hK⟩ := yOk_k hy
  refine (nth_any A n c P B l.length d (bsL K l) (apL K) i w hA hB (apL_len K) h5 hP (bsL_good hK hl) (by rw [bsL_len]; exact h8) hi).mono ?_
  rintro e w' ⟨hb, ⟨x, C, k, c', hx, rfl, his, hkc, hfar⟩ | ⟨hx, rfl⟩⟩
  · have hx2 : (PL P K l)[i.toNat]? = some x := hx
    exact ⟨_, true, rfl, by rw [hx2]; rfl, by rw [hx2]; exact ⟨C, k, c', rfl, hkc, his, hfar⟩, hb⟩
  · have hx2 : (PL P K l)[i.toNat]? = none := hx
    exact ⟨_, false, rfl, by rw [hx2]; rfl, by rw [hx2]; exact Lst.nil _ _, hb⟩

theorem Place_any (A : Option Addr) (n c : Nat) (P : List Int) (B : Option Addr) (m d : Nat) (K : List Kd) (L : Option Addr) (r s : Nat) (l : List Int) (w : World) (hp : Is w A n P) (hg : Ks w B m K) (hl : Is w L r l) :
    Calls Tryz.prog 23 #[.agg #[.slice A n c, .slice B m d], .slice L r s] w fun e w' => ∃ v, e = .returned (.tuple #[v, .int .i64 (nthE P K l 0 53)]) ∧ Lst w.heap.size w' v (nthL P K l 0) ∧ Below w.heap.size w w' := by
  have Hp := Lib.hid hp; have Hg := Lib.hid hg; have Hl := Lib.hid hl
  clear hp hg hl
  by_cases h0 : sE P K l = 0
  · have hap := apL_len K
    have H0 := Lib.hid h0
    have HE : Hid (nthE P K l 0 53 = err ((PL P K l)[0]?.isSome) 53) := Lib.hid (by unfold nthE err; rw [if_pos h0])
    have HLs : Hid (nthL P K l 0 = ((PL P K l)[0]?).getD []) := Lib.hid (by unfold nthL; rw [if_pos h0])
    clear h0
    go_enter Tryz.func23, Tryz.ntmps23
    go_upto_region 1 with fail
    generalize hW : (World.alloc _ _) = W
    have HB : Hid (Below w.heap.size w W) := Lib.hid (by subst hW; go_grown)
    have KY : Bx W (w.heap.size) 25 [.slice A n c, .slice B m d] := by subst hW; repeat (first | (refine Bx.newAt _ _ _ ?_; first | rfl | (simp only [World.size_alloc]; done) | (simp only [World.size_alloc]; omega)) | refine Bx.old ?_ _)
    clear hW
    have KYl := KY.lt; have KYc := KY.get; have KYf := KY.fr
    go_wp2_with (first
      | (go_at_call 63; refine (loadOf_ok _ _ _ P _ _ _ K _ _ _ l _ (Hp.out.keep HB.out) (Hg.out.keep HB.out) (Hl.out.keep HB.out) H0.out).mono ?_; rintro e X ⟨B', c', rfl, hlc, hks, -, hbx⟩; have Hks := Lib.hid hks; clear hks; clear KYl KYc KYf; replace KY := KY.keep hbx; have KYl := KY.lt; have KYc := KY.get; have KYf := KY.fr; replace HB := Lib.hid (up HB.out hbx); clear hbx)
      | (refine wpList_putNew 83 6 14 rfl rfl rfl rfl (sL83 hap) (sLo hap) ldL_one ?_; intro U KU hbu hsu; have HksU := Lib.hid (Hks.out.keep hbu); clear KYl KYc KYf; replace KY := KY.keep hbu; have KYl := KY.lt; have KYc := KY.get; have KYf := KY.fr; replace HB := Lib.hid (up HB.out hbu); clear hbu)
      | (refine wpList_get 83 6 rfl rfl KU rfl Tryz.underlying83 rfl (sL83' hap) ?_)
      | (go_at_call 75; refine (nth_pl _ _ _ P _ _ K l 0 _ (Hp.out.keep HB.out) HksU.out H0.out (by omega)).mono ?_; rintro e V ⟨v, b, rfl, hb, hv, hbv⟩; have Hv := Lib.hid (hv.mono HB.out.size); have Hb := Lib.hid hb; replace HB := Lib.hid (up HB.out hbv); clear hv hb hbv KU)
      | (go_at_call 76; refine (unless_any _ _ _).mono ?_; rintro e V2 ⟨rfl, rfl⟩))
    go_ret2
    exact ⟨v, ret_vi (HE.out.trans (by have := Hb.out; rw [show (0 : Int).toNat = 0 from rfl] at this; rw [this])), by rw [HLs.out]; exact Hv.out, HB.out⟩
  · have H0 := Lib.hid h0
    have hne : (sE P K l != 0) = true := by simpa using h0
    have HE : Hid (nthE P K l 0 53 = sE P K l) := Lib.hid (by unfold nthE; rw [if_neg h0])
    have HLs : Hid (nthL P K l 0 = []) := Lib.hid (by unfold nthL; rw [if_neg h0])
    clear h0
    go_enter Tryz.func23, Tryz.ntmps23
    go_upto_region 1 with fail
    generalize hW : (World.alloc _ _) = W
    have HB : Hid (Below w.heap.size w W) := Lib.hid (by subst hW; go_grown)
    have KY : Bx W (w.heap.size) 25 [.slice A n c, .slice B m d] := by subst hW; repeat (first | (refine Bx.newAt _ _ _ ?_; first | rfl | (simp only [World.size_alloc]; done) | (simp only [World.size_alloc]; omega)) | refine Bx.old ?_ _)
    clear hW
    have KYl := KY.lt; have KYc := KY.get; have KYf := KY.fr
    go_wp2_with (first
      | (go_at_call 63; refine (loadOf_no _ _ _ P _ _ _ K _ _ _ l _ (Hp.out.keep HB.out) (Hg.out.keep HB.out) (Hl.out.keep HB.out) H0.out).mono ?_; rintro e X ⟨rfl, hbx⟩; clear KYl KYc KYf; replace KY := KY.keep hbx; have KYl := KY.lt; have KYc := KY.get; have KYf := KY.fr; replace HB := Lib.hid (up HB.out hbx); clear hbx)
      | (refine wpList_putNew 83 6 14 rfl rfl rfl rfl (sL83 rfl) (sLo rfl) ldL_one ?_; intro U KU hbu hsu; clear KYl KYc KYf; replace KY := KY.keep hbu; have KYl := KY.lt; have KYc := KY.get; have KYf := KY.fr; replace HB := Lib.hid (up HB.out hbu); clear hbu))
    go_ret2
    exact ⟨.slice none 0 0, ret_vi HE.out, by rw [HLs.out]; exact Lst.nil _ _, HB.out⟩

/-- The error of an index of a placement. -/
def nthF (P : List Int) (K : List Kd) (l : List Int) (i : Int) : Int := if sE P K l = 0 then (if inB i 0 999 = true then (if (PL P K l)[i.toNat]?.isSome = true then 0 else 3) else 3) else sE P K l
def nthM (P : List Int) (K : List Kd) (l : List Int) (i : Int) : List Int := if sE P K l = 0 ∧ inB i 0 999 = true then ((PL P K l)[i.toNat]?).getD [] else []

theorem Nth_any (A : Option Addr) (n c : Nat) (P : List Int) (B : Option Addr) (m d : Nat) (K : List Kd) (L : Option Addr) (r s : Nat) (l : List Int) (i : Int) (w : World) (hp : Is w A n P) (hg : Ks w B m K) (hl : Is w L r l) :
    Calls Tryz.prog 27 #[.agg #[.slice A n c, .slice B m d], .slice L r s, .int .i64 i] w fun e w' => ∃ v, e = .returned (.tuple #[v, .int .i64 (nthF P K l i)]) ∧ Lst w.heap.size w' v (nthM P K l i) ∧ Below w.heap.size w w' := by
  have Hp := Lib.hid hp; have Hg := Lib.hid hg; have Hl := Lib.hid hl
  clear hp hg hl
  by_cases h0 : sE P K l = 0
  · have hap := apL_len K
    have H0 := Lib.hid h0
    cases hin : inB i 0 999
    · have Hin := Lib.hid hin
      have HE : Hid (nthF P K l i = 3) := Lib.hid (by unfold nthF; rw [if_pos h0, if_neg (by simp [hin])])
      have HLs : Hid (nthM P K l i = []) := Lib.hid (by unfold nthM; rw [if_neg (by simp [hin])])
      clear h0 hin
      go_enter Tryz.func27, Tryz.ntmps27
      go_upto_region 1 with fail
      generalize hW : (World.alloc _ _) = W
      have HB : Hid (Below w.heap.size w W) := Lib.hid (by subst hW; go_grown)
      have KY : Bx W (w.heap.size) 25 [.slice A n c, .slice B m d] := by subst hW; repeat (first | (refine Bx.newAt _ _ _ ?_; first | rfl | (simp only [World.size_alloc]; done) | (simp only [World.size_alloc]; omega)) | refine Bx.old ?_ _)
      clear hW
      have KYl := KY.lt; have KYc := KY.get; have KYf := KY.fr
      go_wp2_with (first
        | (go_at_call 63; refine (loadOf_ok _ _ _ P _ _ _ K _ _ _ l _ (Hp.out.keep HB.out) (Hg.out.keep HB.out) (Hl.out.keep HB.out) H0.out).mono ?_; rintro e X ⟨B', c', rfl, hlc, hks, -, hbx⟩; have Hks := Lib.hid hks; clear hks; clear KYl KYc KYf; replace KY := KY.keep hbx; have KYl := KY.lt; have KYc := KY.get; have KYf := KY.fr; replace HB := Lib.hid (up HB.out hbx); clear hbx)
        | (refine wpList_putNew 83 8 16 rfl rfl rfl rfl (sL83 hap) (sLo hap) ldL_one ?_; intro U KU hbu hsu; have HksU := Lib.hid (Hks.out.keep hbu); clear KYl KYc KYf; replace KY := KY.keep hbu; have KYl := KY.lt; have KYc := KY.get; have KYf := KY.fr; replace HB := Lib.hid (up HB.out hbu); clear hbu)
        | (go_at_call 70; refine (within_any _ _ _ _).mono ?_; rintro e V2 ⟨rfl, rfl⟩; rw [Hin.out]))
      go_ret2
      exact ⟨.slice none 0 0, ret_vi HE.out, by rw [HLs.out]; exact Lst.nil _ _, HB.out⟩
    · have Hin := Lib.hid hin
      have hi2 : 0 ≤ i ∧ i ≤ 1000000 := by have := inB_iff.1 hin; omega
      have HE : Hid (nthF P K l i = err ((PL P K l)[i.toNat]?.isSome) 3) := Lib.hid (by unfold nthF err; rw [if_pos h0, if_pos hin])
      have HLs : Hid (nthM P K l i = ((PL P K l)[i.toNat]?).getD []) := Lib.hid (by unfold nthM; rw [if_pos ⟨h0, hin⟩])
      clear h0 hin
      go_enter Tryz.func27, Tryz.ntmps27
      go_upto_region 1 with fail
      generalize hW : (World.alloc _ _) = W
      have HB : Hid (Below w.heap.size w W) := Lib.hid (by subst hW; go_grown)
      have KY : Bx W (w.heap.size) 25 [.slice A n c, .slice B m d] := by subst hW; repeat (first | (refine Bx.newAt _ _ _ ?_; first | rfl | (simp only [World.size_alloc]; done) | (simp only [World.size_alloc]; omega)) | refine Bx.old ?_ _)
      clear hW
      have KYl := KY.lt; have KYc := KY.get; have KYf := KY.fr
      go_wp2_with (first
        | (go_at_call 63; refine (loadOf_ok _ _ _ P _ _ _ K _ _ _ l _ (Hp.out.keep HB.out) (Hg.out.keep HB.out) (Hl.out.keep HB.out) H0.out).mono ?_; rintro e X ⟨B', c', rfl, hlc, hks, -, hbx⟩; have Hks := Lib.hid hks; clear hks; clear KYl KYc KYf; replace KY := KY.keep hbx; have KYl := KY.lt; have KYc := KY.get; have KYf := KY.fr; replace HB := Lib.hid (up HB.out hbx); clear hbx)
        | (refine wpList_putNew 83 8 16 rfl rfl rfl rfl (sL83 hap) (sLo hap) ldL_one ?_; intro U KU hbu hsu; have HksU := Lib.hid (Hks.out.keep hbu); clear KYl KYc KYf; replace KY := KY.keep hbu; have KYl := KY.lt; have KYc := KY.get; have KYf := KY.fr; replace HB := Lib.hid (up HB.out hbu); clear hbu)
        | (go_at_call 70; refine (within_any _ _ _ _).mono ?_; rintro e V2 ⟨rfl, rfl⟩; rw [Hin.out])
        | (refine wpList_get 83 8 rfl rfl KU rfl Tryz.underlying83 rfl (sL83' hap) ?_)
        | (go_at_call 75; refine (nth_pl _ _ _ P _ _ K l i _ (Hp.out.keep HB.out) HksU.out H0.out hi2).mono ?_; rintro e V ⟨v, b, rfl, hb, hv, hbv⟩; have Hv := Lib.hid (hv.mono HB.out.size); have Hb := Lib.hid hb; replace HB := Lib.hid (up HB.out hbv); clear hv hb hbv KU)
        | (go_at_call 76; refine (unless_any _ _ _).mono ?_; rintro e V2 ⟨rfl, rfl⟩))
      go_ret2
      exact ⟨v, ret_vi (HE.out.trans (by rw [Hb.out])), by rw [HLs.out]; exact Hv.out, HB.out⟩
  · have H0 := Lib.hid h0
    have hne : (sE P K l != 0) = true := by simpa using h0
    have HE : Hid (nthF P K l i = sE P K l) := Lib.hid (by unfold nthF; rw [if_neg h0])
    have HLs : Hid (nthM P K l i = []) := Lib.hid (by unfold nthM; rw [if_neg (by simp [h0])])
    clear h0
    go_enter Tryz.func27, Tryz.ntmps27
    go_upto_region 1 with fail
    generalize hW : (World.alloc _ _) = W
    have HB : Hid (Below w.heap.size w W) := Lib.hid (by subst hW; go_grown)
    have KY : Bx W (w.heap.size) 25 [.slice A n c, .slice B m d] := by subst hW; repeat (first | (refine Bx.newAt _ _ _ ?_; first | rfl | (simp only [World.size_alloc]; done) | (simp only [World.size_alloc]; omega)) | refine Bx.old ?_ _)
    clear hW
    have KYl := KY.lt; have KYc := KY.get; have KYf := KY.fr
    go_wp2_with (first
      | (go_at_call 63; refine (loadOf_no _ _ _ P _ _ _ K _ _ _ l _ (Hp.out.keep HB.out) (Hg.out.keep HB.out) (Hl.out.keep HB.out) H0.out).mono ?_; rintro e X ⟨rfl, hbx⟩; clear KYl KYc KYf; replace KY := KY.keep hbx; have KYl := KY.lt; have KYc := KY.get; have KYf := KY.fr; replace HB := Lib.hid (up HB.out hbx); clear hbx)
      | (refine wpList_putNew 83 8 16 rfl rfl rfl rfl (sL83 rfl) (sLo rfl) ldL_one ?_; intro U KU hbu hsu; clear KYl KYc KYf; replace KY := KY.keep hbu; have KYl := KY.lt; have KYc := KY.get; have KYf := KY.fr; replace HB := Lib.hid (up HB.out hbu); clear hbu))
    go_ret2
    exact ⟨.slice none 0 0, ret_vi HE.out, by rw [HLs.out]; exact Lst.nil _ _, HB.out⟩
end Go.Proofs.YtaieidigpilbfaaGreat

namespace Go.Proofs.YtaieidigpilbfaaGreat
open Go Go.RowKit Go.Shelf
attribute [local go_sem] Oper.semAt_some
set_option maxHeartbeats 2000000
set_option maxRecDepth 100000

/-- How many placements are counted. -/
def cntN (P : List Int) (K : List Kd) (l : List Int) : Int := if sE P K l = 0 then (min (PL P K l).length 1000 : Nat) else 0

theorem ret_ii {a b c d : Int} (h : b = a) (h2 : d = c) : Ending.returned (.tuple #[.int .i64 a, .int .i64 c]) = .returned (.tuple #[.int .i64 b, .int .i64 d]) := by rw [h, h2]
structure CntI (w : World) (N : Nat) (A : Option Addr) (n c : Nat) (B : Option Addr) (m d : Nat) (i : Int) (X : World) : Prop where
  bel : Below w.heap.size w X
  ky : Bx X w.heap.size 25 [.slice A n c, .slice B m d]
  ki : Bx X N 3 [.int .i64 i]
theorem CntI.keepB {w X Y : World} {N : Nat} {A : Option Addr} {n c : Nat} {B : Option Addr} {m d : Nat} {i : Int} {E : Nat} (h : CntI w N A n c B m d i X) (hb : Below E X Y) (hB : w.heap.size < E) (hN : N < E) : CntI w N A n c B m d i Y :=
  ⟨h.bel.trans (hb.mono (by omega)), h.ky.keepB hb hB, h.ki.keepB hb hN⟩

theorem Ks.keepO {w0 w w' : World} {A : Option Addr} {n : Nat} {gs : List Kd} (h : Ks w A n gs) (h0 : Ks w0 A n gs) (hb : ∀ b, b < w0.heap.size → w'.heap[b]? = w.heap[b]?) (hs : w.heap.size ≤ w'.heap.size) : Ks w' A n gs :=
  ⟨h.len, h.small, fun k hk => by
    obtain ⟨b1, o1, e1, hlt1, -⟩ := h0.get k hk
    obtain ⟨b2, o2, e2, hlt, hg⟩ := h.get k hk
    rw [e1] at e2; cases e2
    exact ⟨b1, o1, e1, by omega, hg.keep fun j => World.cell?_of_block (a := ⟨b1, j, none⟩) (hb b1 hlt1)⟩⟩

theorem Count_any (A : Option Addr) (n c : Nat) (P : List Int) (B : Option Addr) (m d : Nat) (K : List Kd) (L : Option Addr) (r s : Nat) (l : List Int) (w : World) (hp : Is w A n P) (hg : Ks w B m K) (hl : Is w L r l) :
    Calls Tryz.prog 25 #[.agg #[.slice A n c, .slice B m d], .slice L r s] w fun e w' => e = .returned (.tuple #[.int .i64 (cntN P K l), .int .i64 (sE P K l)]) ∧ Below w.heap.size w w' := by
  have Hp := Lib.hid hp; have Hg := Lib.hid hg; have Hl := Lib.hid hl
  have Hn : Hid (n = P.length) := Lib.hid hp.len
  clear hp hg hl
  by_cases h0 : sE P K l = 0
  rotate_left
  · have H0 := Lib.hid h0
    have hne : (sE P K l != 0) = true := by simpa using h0
    have HE : Hid (cntN P K l = 0) := Lib.hid (by unfold cntN; rw [if_neg h0])
    clear h0
    refine (callsIn_wide (n := 9)).1 (callsIn_of_wp_marks Tryz.func25 rfl trivial ?_ rfl)
    simp only [Tryz.ntmps25, List.size_toArray, List.length_cons, List.length_nil, Nat.reduceAdd, Nat.reduceSub, Array.replicate_succ, Array.replicate_zero, List.push_toArray, List.append_toArray, List.nil_append, List.cons_append]
    refine wpIn_wide.2 ?_
    go_upto_region 1 with fail
    generalize hW : (World.alloc _ _) = W
    have HB : Hid (Below w.heap.size w W) := Lib.hid (by subst hW; go_grown)
    have KY : Bx W (w.heap.size) 25 [.slice A n c, .slice B m d] := by subst hW; repeat (first | (refine Bx.newAt _ _ _ ?_; first | rfl | (simp only [World.size_alloc]; done) | (simp only [World.size_alloc]; omega)) | refine Bx.old ?_ _)
    clear hW
    have KYl := KY.lt; have KYc := KY.get; have KYf := KY.fr
    go_wp2_with (first
      | (go_at_call 63; refine (loadOf_no _ _ _ P _ _ _ K _ _ _ l _ (Hp.out.keep HB.out) (Hg.out.keep HB.out) (Hl.out.keep HB.out) H0.out).mono ?_; rintro e X ⟨rfl, hbx⟩; clear KYl KYc KYf; replace KY := KY.keep hbx; have KYl := KY.lt; have KYc := KY.get; have KYf := KY.fr; replace HB := Lib.hid (up HB.out hbx); clear hbx)
      | (refine wpList_putNew 83 6 13 rfl rfl rfl rfl (sL83 rfl) (sLo rfl) ldL_one ?_; intro U KU hbu hsu; clear KYl KYc KYf; replace KY := KY.keep hbu; have KYl := KY.lt; have KYc := KY.get; have KYf := KY.fr; replace HB := Lib.hid (up HB.out hbu); clear hbu))
    refine bodyPostM_marks [] rfl (by simp) (by simp) fun Z hZ => ⟨_, results_tmp2 rfl _ _ _, ?_, ?_⟩
    · rw [HE.out]; rfl
    · exact hZ.below HB.out (by simp)
  obtain ⟨hy, h8, hlo⟩ := sE_0 h0
  obtain ⟨h5, hP, hK⟩ := yOk_k hy
  have hn5 : n ≤ 5 := by rw [Hn.out]; exact h5
  have hap := apL_len K
  have H0 := Lib.hid h0
  have Hgood : Hid (goodB (bsL K l)) := Lib.hid (bsL_good hK hlo)
  have hbl : (bsL K l).length ≤ 8 := by rw [bsL_len]; exact h8
  have HE : Hid (cntN P K l = (min (PL P K l).length 1000 : Nat)) := Lib.hid (by unfold cntN; rw [if_pos h0])
  have HPL : Hid (plc (apL K) P.length P.length (bsL K l) (st0 P) = PL P K l) := Lib.hid rfl
  have HP := Lib.hid hP
  clear h0 hy hlo hP hK
  generalize PL P K l = G at *
  refine (callsIn_wide (n := 9)).1 (callsIn_of_wp_marks Tryz.func25 rfl trivial ?_ rfl)
  simp only [Tryz.ntmps25, List.size_toArray, List.length_cons, List.length_nil, Nat.reduceAdd, Nat.reduceSub, Array.replicate_succ, Array.replicate_zero, List.push_toArray, List.append_toArray, List.nil_append, List.cons_append]
  refine wpIn_wide.2 ?_
  go_upto_region 1 with fail
  generalize hW : (World.alloc _ _) = W
  have HB : Hid (Below w.heap.size w W) := Lib.hid (by subst hW; go_grown)
  have KY : Bx W (w.heap.size) 25 [.slice A n c, .slice B m d] := by subst hW; repeat (first | (refine Bx.newAt _ _ _ ?_; first | rfl | (simp only [World.size_alloc]; done) | (simp only [World.size_alloc]; omega)) | refine Bx.old ?_ _)
  clear hW
  have KYl := KY.lt; have KYc := KY.get; have KYf := KY.fr
  go_upto_region 4 with (first
    | (go_at_call 63; refine (loadOf_ok _ _ _ P _ _ _ K _ _ _ l _ (Hp.out.keep HB.out) (Hg.out.keep HB.out) (Hl.out.keep HB.out) H0.out).mono ?_; rintro e X ⟨B', c', rfl, hlc, hks, -, hbx⟩; have Hks := Lib.hid hks; clear hks; have hwx := KY.lt; have hxs := hbx.size; clear KYl KYc KYf; replace KY := KY.keep hbx; have KYl := KY.lt; have KYc := KY.get; have KYf := KY.fr; replace HB := Lib.hid (up HB.out hbx); clear hbx)
    | (refine wpList_putNew 83 6 13 rfl rfl rfl rfl (sL83 hap) (sLo hap) ldL_one ?_; intro U KU hbu hsu; have HksU := Lib.hid (Hks.out.keep hbu); clear KYl KYc KYf; replace KY := KY.keep hbu; have KYl := KY.lt; have KYc := KY.get; have KYf := KY.fr; replace HB := Lib.hid (up HB.out hbu); clear hbu))
  have hXU : X.heap.size < U.heap.size := KU.lt
  go_upto_region 5 with fail
  generalize hV : U.alloc (.cells #[.int .i64 0] 3) = V
  have hVs : V.heap.size = (U.alloc (.cells #[.int .i64 0] 3)).heap.size := by rw [hV]
  have hbV : Below U.heap.size U V := by subst hV; exact up_alloc _ _
  have KC : Bx V (X.heap.size + 1) 3 [.int .i64 0] := by subst hV; rw [← hsu]; exact Bx.new _ _ _
  clear hV
  have HksV := Lib.hid (HksU.out.keep hbV)
  replace KU := KU.keep hbV
  clear KYl KYc KYf; replace KY := KY.keep hbV; have KYl := KY.lt; have KYc := KY.get; have KYf := KY.fr; replace HB := Lib.hid (up HB.out hbV); clear hbV
  go_wp2_with (first
    | (refine wpList_get 83 6 rfl rfl KU rfl Tryz.underlying83 rfl (sL83' hap) ?_)
    | (go_at_call 78; refine (placements_any A n c (.slice B' l.length c') (apL K) _ _ hap).mono ?_; rintro e U2 ⟨bL, bM, rfl, hbu, kl, km⟩))
  have HKX := Lib.hid Hks.out
  have hsV : V.heap.size = U.heap.size + 1 := by rw [hVs]; simp
  have KsU2 := HksV.out.keep hbu
  have hU2 : X.heap.size + 1 < U2.heap.size := by have := hbu.size; omega
  have I0 : CntI w (X.heap.size + 1) A n c B m d 0 U2 := ⟨up HB.out hbu, KY.keep hbu, KC.keep hbu⟩
  have km' : Bx U2 bM 3 [.int .i64 ((P.length : Nat) : Int)] := by rw [← Hn.out]; exact km
  have hit := places_iter bL bM A n c P B' l.length c' (bsL K l) (apL K) ((P.length : Nat) : Int) U2 kl km' hap h5 HP.out Hgood.out hbl
  rw [HPL.out] at hit
  have Hks2 := Lib.hid KsU2
  clear kl km km' KY KYl KYc KYf KC KU HB hbu HksV HksU Hks KsU2 hsu
  refine (wpIn_wide (n := 9)).1 ?_
  refine rangeFunc_law (by omega) (gf := 128) (fa := #[]) (lb := #[.pointer (some ⟨bL, 0, none⟩), .pointer (some ⟨bM, 0, none⟩)]) rfl (enters_of Tryz.func128 (by kernel_rfl) rfl) hit (Below.refl _ _) (fun _ => rfl)
    (fun pre X' => CntI w (X.heap.size + 1) A n c B m d (pre.length : Nat) X' ∧ pre.length < 1000 ∧ Ks X' B' l.length (bsL K l))
    (fun cd pre X' => cd = .exit 0 ∧ CntI w (X.heap.size + 1) A n c B m d 1000 X' ∧ 1000 ≤ G.length)
    ?_ ?_ ?_ ⟨I0, by simp, Hks2.out⟩ ?_ ?_ ?_
  · rintro pre X' ⟨h, _, hk⟩
    exact ⟨Hp.out.keep h.bel, hk⟩
  · rintro q X1 X2 ⟨h1, h2, h3⟩ hb
    exact ⟨h1.keepB hb (by omega) hU2, h2, h3.keepO HKX.out (fun b hlt => hb.block b (by omega)) hb.size⟩
  · rintro cd q X1 o ⟨rfl, h1, h2⟩
    have hb : Below (U2.heap.size + 1) X1 (X1.putObj (U2.heap.size + 1) o) := below_putObj X1 (by omega) o
    exact ⟨rfl, h1.keepB hb (by omega) (by omega), h2⟩
  · rintro l2 pre x X1 ⟨t, ht⟩ - ⟨hI, hpn, hks⟩ hsz
    obtain ⟨xl, xv⟩ := x
    have HGl : Hid (pre.length + 1 ≤ G.length) := Lib.hid (by rw [ht]; simp)
    have HI := Lib.hid hI; have Hks := Lib.hid hks
    clear ht hI hks
    simp only [encL]
    gi_wp2
    refine ⟨Above.refl _ _, ?_⟩
    intro Y hY1 hY2
    have KYI := HI.out.keepB hY1 (by omega) hU2
    have HksY : Hid (Ks Y B' l.length (bsL K l)) := Lib.hid (Hks.out.keepO HKX.out (fun b hlt => hY1.block b (by omega)) hY1.size)
    have hsY := hY1.size
    clear hY1 hY2 HI Hks
    obtain ⟨kb, ky, ki⟩ := KYI
    have HB := Lib.hid kb
    clear kb
    have kil := ki.lt; have kic := ki.get; have kif := ki.fr
    have hpl : (0 : Int) ≤ (pre.length : Int) := by omega
    by_cases he : pre.length = 999
    · have e0 : (((pre.length : Nat) : Int) + 1 == 1000) = true := by simp; omega
      gi_wp2
      have p1 := Put.cell Y (X.heap.size + 1) 0 (.int .i64 1000)
      have k1 : Bx _ (X.heap.size + 1) 3 [.int .i64 1000] := ki.cell 0 (.int .i64 1000)
      generalize Y.setCell ⟨X.heap.size + 1, 0, none⟩ _ = Y1 at *
      exact ⟨Above.put p1 (by omega), rfl, ⟨upP HB.out p1 (by omega), ky.put p1 (by omega), k1⟩, by have := HGl.out; omega⟩
    · have e0 : (((pre.length : Nat) : Int) + 1 == 1000) = false := by simp; omega
      gi_wp2
      have p1 := Put.cell Y (X.heap.size + 1) 0 (.int .i64 ((pre.length : Nat) + 1))
      have k1 : Bx _ (X.heap.size + 1) 3 [.int .i64 ((pre.length : Nat) + 1)] := ki.cell 0 (.int .i64 ((pre.length : Nat) + 1))
      generalize Y.setCell ⟨X.heap.size + 1, 0, none⟩ _ = Y1 at *
      exact ⟨Above.put p1 (by omega), ⟨upP HB.out p1 (by omega), ky.put p1 (by omega), by rw [List.length_append, List.length_singleton]; exact k1⟩, by rw [List.length_append, List.length_singleton]; omega,
        HksY.out.keepO HKX.out (fun b hlt => p1.block b (by omega)) (Nat.le_of_eq p1.size.symm)⟩
  · rintro xs X1 hS ⟨hI, hxi, hks⟩ hdef
    have HGl : Hid (G.length = xs.length) := Lib.hid (by rw [← hS, List.length_map])
    have Hdef := Lib.hid hdef
    have hdl := (Array.getElem?_eq_some_iff.1 hdef).1
    clear hS hdef hks
    obtain ⟨kb, ky, ki⟩ := hI
    have HB := Lib.hid kb
    clear kb
    have kil := ki.lt; have kic := ki.get; have kif := ki.fr
    gi_wp2
    go_wp2
    refine bodyPostM_marks [U2.heap.size] rfl (by simp) ?_ fun Z hZ => ⟨_, results_tmp2 rfl _ _ _, ?_, hZ.below HB.out (by intro D hD; simp at hD; omega)⟩
    · intro D hD
      simp at hD; subst hD; exact Hdef.out
    · exact ret_ii (HE.out.trans (by have := HGl.out; omega)) H0.out
  · rintro cd pre X1 ⟨t, ht⟩ ⟨rfl, hI, hgl⟩ hdef
    have Hdef := Lib.hid hdef
    have hdl := (Array.getElem?_eq_some_iff.1 hdef).1
    clear ht hdef
    obtain ⟨kb, ky, ki⟩ := hI
    have HB := Lib.hid kb
    clear kb
    have kil := ki.lt; have kic := ki.get; have kif := ki.fr
    gi_wp2
    go_wp2
    refine bodyPostM_marks [U2.heap.size] rfl (by simp) ?_ fun Z hZ => ⟨_, results_tmp2 rfl _ _ _, ?_, hZ.below HB.out (by intro D hD; simp at hD; omega)⟩
    · intro D hD
      simp at hD; subst hD; exact Hdef.out
    · exact ret_ii (HE.out.trans (by omega)) H0.out
end Go.Proofs.YtaieidigpilbfaaGreat

