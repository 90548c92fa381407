/- Contracts of functions of the program and of the reference, and plain facts: a part of a proof. Own text. -/
import Derived.Test.YtaieidigpilbfaaGreatJa
import Derived.Scope
import Derived.OrdersHeld
set_option linter.unusedVariables false
set_option linter.unusedSimpArgs false
set_option linter.unusedSectionVars false
namespace Go.Proofs.YtaieidigpilbfaaGreat
open Go Go.RowKit Go.Shelf
attribute [local go_sem] Oper.semAt_some
set_option maxHeartbeats 400000
set_option maxRecDepth 100000

/-- Another world but at some blocks. -/
structure OffD (Ds : List Nat) (X Y : World) : Prop where
  os : Y.os = X.os
  tape : Y.tape = X.tape
  output : Y.output = X.output
  size : Y.heap.size = X.heap.size
  block : ∀ b, b ∉ Ds → Y.heap[b]? = X.heap[b]?
theorem OffD.below {Ds : List Nat} {X Y Z : World} {B : Nat} (h : OffD Ds X Y) (hb : Below B Z X) (hD : ∀ D ∈ Ds, B ≤ D) : Below B Z Y :=
  hb.trans ⟨h.os, h.tape, h.output, Nat.le_of_eq h.size.symm, fun k hk => h.block k (fun hm => by have := hD k hm; omega)⟩
def mkD (D : Nat) : Deferred := { target := .collected D, args := #[] }
theorem leaves_marks {F : Fence} {n : Nat} {P : Program} {fn : Func} {tmps : Array Value} {R : Ending → World → Prop} : ∀ (Ds : List Nat) (X : World), Ds.Nodup →
    (∀ D ∈ Ds, X.heap[D]? = some (.deferred (some []))) → (∀ Y, OffD Ds X Y → ∃ v, (results fn tmps).run P Y = .ok v Y ∧ R (.returned v) Y) →
    LeavesInM F n P fn tmps R (Ds.map mkD) .returning X
  | [], X, _, _, h => by
    obtain ⟨v, h1, h2⟩ := h X ⟨rfl, rfl, rfl, rfl, fun _ _ => rfl⟩
    exact ⟨v, h1, h2⟩
  | D :: Ds, X, hn, hD, h => by
    refine ⟨by simp, .inl ⟨D, _, rfl, run_takeDeferred (hD D (List.mem_cons_self ..)), ?_⟩⟩
    obtain ⟨hn1, hn2⟩ := List.nodup_cons.1 hn
    refine leaves_marks Ds _ hn2 (fun E hE => (World.putObj_heap_other (by rintro rfl; exact hn1 hE)).trans (hD E (List.mem_cons_of_mem _ hE))) fun Y hY => h Y ⟨hY.os, hY.tape, hY.output, by rw [hY.size]; simp [World.putObj], fun b hb => ?_⟩
    rw [hY.block b (fun hm => hb (List.mem_cons_of_mem _ hm))]
    exact World.putObj_heap_other (by rintro rfl; exact hb (List.mem_cons_self ..))
theorem bodyPostM_marks {F : Fence} {n : Nat} {P : Program} {fn : Func} {R : Ending → World → Prop} {a : Act} {w : World} (Ds : List Nat) (hd : a.defers = Ds.map mkD) (hn : Ds.Nodup)
    (hk : ∀ D ∈ Ds, w.heap[D]? = some (.deferred (some []))) (h : ∀ Y, OffD Ds w Y → ∃ v, (results fn a.tmps).run P Y = .ok v Y ∧ R (.returned v) Y) : bodyPostM F n P fn R .ret a w := by
  show LeavesInM F n P fn a.tmps R a.defers .returning w; rw [hd]; exact leaves_marks Ds w hn hk h

theorem Is.off {w w' : World} {A : Option Addr} {n : Nat} {l : List Int} (h : Is w A n l) (hs : w.heap.size ≤ w'.heap.size) (hA : ∀ p, A = some p → p.block < w.heap.size → w'.heap[p.block]? = w.heap[p.block]?) : Is w' A n l :=
  ⟨h.len, h.small, fun k hk => by
    obtain ⟨b, o, e, hb, hc⟩ := h.get k hk
    exact ⟨b, o, e, by omega, (World.cell?_of_block (a := ⟨b, o + k, none⟩) (hA ⟨b, o, none⟩ e hb)).trans hc⟩⟩

theorem cell_putObj (w : World) (b j l : Nat) (o : Obj) (h : b ≠ l) : (w.putObj l o).cell? ⟨b, j, none⟩ = w.cell? ⟨b, j, none⟩ :=
  World.cell?_of_block (a := ⟨b, j, none⟩) (World.putObj_heap_other h)
theorem wpIn_scope_wide {n : Nat} {P : Program} {Q : Exit → Act → World → Prop} {a : Act} {w : World} {c : Code} (h : c.wpIn Fence.wide n P (Exit.noGoto Q) a w) : (Code.scope c).wpIn Fence.wide n P Q a w :=
  wpIn_wide.2 (wp_scope_straight (wpIn_wide.1 h))
theorem noGoto_ret {Q : Exit → Act → World → Prop} {a : Act} {w : World} (h : Q .ret a w) : Exit.noGoto Q .ret a w := h
theorem bodyPostM_ret0 {F : Fence} {n : Nat} {P : Program} {fn : Func} {R : Ending → World → Prop} {a : Act} {w : World} {v : Value}
    (hr : (results fn a.tmps).run P w = .ok v w) (hd : a.defers = []) (hR : R (.returned v) w) : bodyPostM F n P fn R .ret a w := by
  show LeavesInM F n P fn a.tmps R a.defers .returning w; rw [hd]; exact ⟨v, hr, hR⟩
theorem bodyPostM_ret1 {F : Fence} {n D : Nat} {P : Program} {fn : Func} {R : Ending → World → Prop} {a : Act} {w : World} {v : Value}
    (hd : a.defers = [{ target := .collected D, args := #[] }]) (hk : w.heap[D]? = some (.deferred (some [])))
    (hr : (results fn a.tmps).run P (w.putObj D (.deferred none)) = .ok v (w.putObj D (.deferred none))) (hR : R (.returned v) (w.putObj D (.deferred none))) : bodyPostM F n P fn R .ret a w := by
  show LeavesInM F n P fn a.tmps R a.defers .returning w; rw [hd]; exact ⟨by simp, .inl ⟨_, _, rfl, run_takeDeferred hk, v, hr, hR⟩⟩

/-- All orders of a region come to one state. -/
theorem wpIn_same {F : Fence} {n : Nat} {P : Program} {c : Code} {Q : Exit → Act → World → Prop} {a : Act} {w : World} (h : ∃ A W, c.wpIn F n P (fun e a' w' => e = .normal ∧ a' = A ∧ w' = W) a w ∧ Q .normal A W) : c.wpIn F n P Q a w := by
  obtain ⟨A, W, h1, h2⟩ := h
  exact wpIn_mono h1 fun e a' w' ⟨x, y, z⟩ => by subst x; subst y; subst z; exact h2
theorem wp_same {P : Program} {c : Code} {Q : Exit → Act → World → Prop} {a : Act} {w : World} (h : ∃ A W, c.wp P (fun e a' w' => e = .normal ∧ a' = A ∧ w' = W) a w ∧ Q .normal A W) : c.wp P Q a w := by
  obtain ⟨A, W, h1, h2⟩ := h
  exact wp_mono h1 fun e a' w' ⟨x, y, z⟩ => by subst x; subst y; subst z; exact h2
theorem Bx.drew {w : World} {b : Nat} {t : TypeId} {cs : List Value} (K : Bx w b t cs) : Bx w.drew b t cs := ⟨K.h⟩
theorem Put.drew {w U : World} {b : Nat} (p : Put w b U) : Put w b U.drew := ⟨p.os, p.tape, p.output, p.size, p.block⟩
theorem Bx.putObj {w : World} {b : Nat} {t : TypeId} {cs : List Value} (K : Bx w b t cs) (l : Nat) (o : Obj) (h : b ≠ l) : Bx (w.putObj l o) b t cs := ⟨(World.putObj_heap_other h).trans K.h⟩
theorem Bx.above {w U : World} {b B : Nat} {t : TypeId} {cs : List Value} (K : Bx w b t cs) (h : Above B w U) (hB : B ≤ b) : Bx U b t cs := ⟨(h.block b hB K.lt).trans K.h⟩
theorem Bx.keepB {w U : World} {b B : Nat} {t : TypeId} {cs : List Value} (K : Bx w b t cs) (h : Below B w U) (hB : b < B) : Bx U b t cs := ⟨(h.block b hB).trans K.h⟩
theorem Above.put {B b : Nat} {w U : World} (p : Put w b U) (h : b < B) : Above B w U := ⟨Nat.le_of_eq p.size.symm, fun k hk _ => p.block k (by omega)⟩
end Go.Proofs.YtaieidigpilbfaaGreat

namespace Go.Proofs.YtaieidigpilbfaaGreat
open Go Go.RowKit Go.Shelf
attribute [local go_sem] Oper.semAt_some
set_option maxHeartbeats 400000
set_option maxRecDepth 100000

def enc1 (x : Int) : Array Value := #[.int .i64 x]
theorem each_iter (a : Int) (w : World) : Iter Tryz.prog 125 #[.int .i64 a] #[] enc1 (fun _ _ _ => True) (fun _ => True) (fun xs => xs = eachL a) (fun pre => ∃ t, eachL a = pre ++ t) w := by
  intro N l J Jx W hn hW hJ _ hY h0
  refine callsIn_of_wp Tryz.func125 rfl trivial ?_ rfl
  simp only [Tryz.ntmps125, List.size_toArray, List.length_cons, List.length_nil, Nat.reduceAdd, Nat.reduceSub, Array.replicate_succ, Array.replicate_zero, List.push_toArray, List.append_toArray, List.nil_append, List.cons_append, List.append_nil]
  have HJ := Lib.hid hJ
  have HY := Lib.hid hY
  clear hJ hY
  gi_wp2
  gi_loopw [6] (fun s wr => ∃ (k : Nat), k ≤ 9 ∧ s = .int .i64 k ∧ J (eachK a k) wr ∧ W.heap.size ≤ wr.heap.size) (fun s _ => (9 - intOf s).toNat)
  case atStart => exact ⟨0, by omega, rfl, h0, by omega⟩
  case round =>
    obtain ⟨k, hk, rfl, hjp, hsz⟩ := hrel
    by_cases hlt : k < 9
    · have e9 : IntKind.i64.wrap (9 - (k : Int)) = 9 - (k : Int) := by rw [IntWalk.i64_in _ (by omega)]
      cases hh : hasB a (9 - (k : Int))
      · have Hh := Lib.hid hh; clear hh
        gi_wp2_with (refine ⟨trivial, fun h => (by cases h), (callsIn_wide.2 (has_any a (9 - (k : Int)) wr (by omega) (by omega))).mono ?_⟩; rintro e x1 ⟨rfl, rfl⟩; rw [Hh.out])
        refine ⟨fun f h => (by cases h), ?_⟩
        gi_wp2
        refine ⟨⟨k + 1, by omega, by go_num, ?_, hsz⟩, by simp [intOf]; omega⟩
        rw [eachK, if_neg (by rw [Hh.out]; simp)]; exact hjp
      · have Hh := Lib.hid hh; clear hh
        have Hs : Hid (eachK a (k + 1) = eachK a k ++ [9 - (k : Int)]) := Lib.hid (by rw [eachK, if_pos Hh.out])
        obtain ⟨t, ht⟩ := eachK_pre a (k + 1) (8 - k)
        rw [show k + 1 + (8 - k) = 9 by omega] at ht
        obtain ⟨fn, tmps, assign, body, hy, hR⟩ := HY.out (eachK a k) (9 - (k : Int)) wr ⟨t, by rw [← Hs.out]; exact ht⟩ trivial hjp hsz
        clear ht
        dsimp only [enc1] at hy
        gi_wp2_with (refine ⟨trivial, fun h => (by cases h), (callsIn_wide.2 (has_any a (9 - (k : Int)) wr (by omega) (by omega))).mono ?_⟩; rintro e x1 ⟨rfl, rfl⟩; rw [Hh.out])
        refine ⟨fun h => (by cases h), hR.mono ?_⟩
        rintro e W' (⟨rfl, hJ', hAb⟩ | ⟨rfl, hJx'⟩)
        · have hs2 : W.heap.size ≤ W'.heap.size := by have := hAb.size; omega
          have HJ' := Lib.hid hJ'
          clear hJ' hR hy
          gi_wp2
          refine ⟨⟨k + 1, by omega, by go_num, ?_, hs2⟩, by simp [intOf]; omega⟩
          rw [Hs.out]; exact HJ'.out
        · have HJx := Lib.hid hJx'
          clear hJx' hR hy
          gi_wp2
          refine bodyPost_ret (results_none rfl _ _ _) rfl ⟨⟨_, rfl⟩, .inr ⟨_, ?_, HJx.out⟩⟩
          rw [← Hs.out]
          obtain ⟨t, ht⟩ := eachK_pre a (k + 1) (8 - k)
          rw [show k + 1 + (8 - k) = 9 by omega] at ht
          exact ⟨t, ht⟩
    · obtain rfl : k = 9 := by omega
      gi_wp2
      exact bodyPost_end (results_none rfl _ _ _) rfl ⟨⟨_, rfl⟩, .inl ⟨_, rfl, hjp⟩⟩
end Go.Proofs.YtaieidigpilbfaaGreat

namespace Go.Proofs.YtaieidigpilbfaaGreat
open Go Go.RowKit Go.Shelf
attribute [local go_sem] Oper.semAt_some
set_option maxHeartbeats 800000
set_option maxRecDepth 100000

theorem ints_get {l : List Int} {j : Nat} (h : j < l.length) : (ints l)[j]? = some (.int .i64 (l.getD j 0)) := by
  unfold ints; rw [List.getElem?_map, List.getElem?_eq_getElem h, List.getD_eq_getElem?_getD, List.getElem?_eq_getElem h]; rfl
theorem ints_set (l : List Int) (j : Nat) (x : Int) : (ints l).set j (.int .i64 x) = ints (l.set j x) := by unfold ints; rw [List.map_set]
theorem ints_one (l : List Int) : (⟨ints l⟩ : Array Value).all (·.oneCell') = true := by
  rw [Array.all_eq_true]; intro i hi; simp [ints, Value.oneCell']
theorem ints_len (l : List Int) : (ints l).length = l.length := by simp [ints]

theorem bor_small {a b : Int} (ha : 0 ≤ a ∧ a < 1024) (hb : 0 ≤ b ∧ b < 1024) : 0 ≤ bor a b ∧ bor a b < 1024 := by
  obtain ⟨x, rfl⟩ := Int.eq_ofNat_of_zero_le ha.1
  obtain ⟨y, rfl⟩ := Int.eq_ofNat_of_zero_le hb.1
  rw [bor_nat x y (by omega) (by omega)]
  have : x ||| y < 2 ^ 10 := Nat.or_lt_two_pow (by omega) (by omega)
  omega
theorem eachL_in {a t : Int} {pre : List Int} (h : ∃ r, eachL a = pre ++ [t] ++ r) : 1 ≤ t ∧ t ≤ 9 := by
  obtain ⟨r, hr⟩ := h
  exact eachK_in a 9 (by omega) t (by show t ∈ eachL a; rw [hr]; simp)

theorem sz81 : (Tryz.prog.info? 81).map (·.size) = some 10 := by kernel_rfl
theorem szl {t : TypeId} {n : Nat} (h : (Tryz.prog.info? t).map (·.size) = some n) {l : List Int} (hl : l.length = n) : (Tryz.prog.info? t).map (·.size) = some (ints l).length := by rw [ints_len, hl]; exact h
theorem sza {t : TypeId} {n : Nat} (h : (Tryz.prog.info? t).map (·.size) = some n) {l : List Int} (hl : l.length = n) : (Tryz.prog.info? t).map (·.size) = some (⟨ints l⟩ : Array Value).size := by
  show _ = some (ints l).length; exact szl h hl

/-- What holds between two rounds of the inner range. -/
structure ApI (w : World) (wr : Nat) (A : Option Addr) (n c : Nat) (B : Option Addr) (m d : Nat) (y : Kd) (Ds : List Nat) (ap : List Int) (X : World) : Prop where
  bel : Below w.heap.size w X
  ky : Bx X w.heap.size 25 [.slice A n c, .slice B m d]
  kz : Bx X (w.heap.size + 1) 81 (ints ap0)
  ka : Bx X (w.heap.size + 1 + 1) 81 (ints ap)
  kk : Bx X wr 72 [.int .i64 y.s, .int .i64 y.r, .int .i64 y.e, .int .i64 y.a]
  ds : ∀ D ∈ Ds, X.heap[D]? = some (.deferred (some []))

theorem apartnessOf_any (A : Option Addr) (n c : Nat) (B : Option Addr) (m d : Nat) (K : List Kd) (w : World) (hg : Ks w B m K) (hK : ksOk K = true) :
    Calls Tryz.prog 67 #[.agg #[.slice A n c, .slice B m d]] w fun e w' => e = .returned (.agg ⟨ints (apL K)⟩) ∧ Below w.heap.size w w' := by
  have Hl : Hid (m = K.length) := Lib.hid hg.len
  have hmx := hg.small
  have HK := Lib.hid (ksOk_kd hK)
  clear hK
  refine (callsIn_wide (n := 9)).1 (callsIn_of_wp_marks Tryz.func67 rfl trivial ?_ rfl)
  simp only [Tryz.ntmps67, List.size_toArray, List.length_cons, List.length_nil, Nat.reduceAdd, Nat.reduceSub, Array.replicate_succ, Array.replicate_zero, List.push_toArray, List.append_toArray, List.nil_append, List.cons_append]
  refine wpIn_wide.2 ?_
  go_upto_region 2 with fail
  generalize hW : (World.alloc _ _) = W
  have HB : Hid (Below w.heap.size w W) := Lib.hid (by subst hW; go_grown)
  have KY : Bx W (w.heap.size) 25 [.slice A n c, .slice B m d] := by subst hW; repeat (first | (refine Bx.newAt _ _ _ ?_; first | rfl | (simp only [World.size_alloc]; done) | (simp only [World.size_alloc]; omega)) | refine Bx.old ?_ _)
  have KZ : Bx W (w.heap.size + 1) 81 [.int .i64 0, .int .i64 0, .int .i64 0, .int .i64 0, .int .i64 0, .int .i64 0, .int .i64 0, .int .i64 0, .int .i64 0, .int .i64 0] := by subst hW; repeat (first | (refine Bx.newAt _ _ _ ?_; first | rfl | (simp only [World.size_alloc]; done) | (simp only [World.size_alloc]; omega)) | refine Bx.old ?_ _)
  have KA : Bx W (w.heap.size + 1 + 1) 81 [.int .i64 0, .int .i64 0, .int .i64 0, .int .i64 0, .int .i64 0, .int .i64 0, .int .i64 0, .int .i64 0, .int .i64 0, .int .i64 0] := by subst hW; repeat (first | (refine Bx.newAt _ _ _ ?_; first | rfl | (simp only [World.size_alloc]; done) | (simp only [World.size_alloc]; omega)) | refine Bx.old ?_ _)
  clear hW
  have KYl := KY.lt; have KYc := KY.get; have KYf := KY.fr; have KZl := KZ.lt; have KZc := KZ.get; have KZf := KZ.fr; have KAl := KA.lt; have KAc := KA.get; have KAf := KA.fr
  have Hg := Lib.hid hg; clear hg
  go_wp2_with fail
  clear KYl KYc KYf KZl KZc KZf KAl KAc KAf
  have HWs : Hid (w.heap.size + 1 + 1 < W.heap.size) := Lib.hid KA.lt
  refine (wpIn_wide (n := 9)).1 ?_
  refine wpIn_loop (fun a wr => ∃ (k : Nat) (Ds : List Nat) (t5 t11 t12 t13 t14 t15 t16 t34 : Value), a = { tmps := #[.agg #[.slice A n c, .slice B m d], .pointer (some ⟨w.heap.size, 0, none⟩), .pointer (some ⟨w.heap.size + 1, 0, none⟩), .pointer (some ⟨w.heap.size + 1 + 1, 0, none⟩), undef, t5, undef, .pointer (some ⟨w.heap.size, 1, none⟩), .slice B m d, .int .i64 m, .int .i64 k, t11, t12, t13, t14, t15, t16, undef, undef, undef, undef, undef, undef, undef, undef, undef, undef, undef, undef, undef, undef, undef, undef, undef, t34, undef], defers := Ds.map mkD } ∧
      k ≤ m ∧ Below w.heap.size w wr ∧ Bx wr w.heap.size 25 [.slice A n c, .slice B m d] ∧ Bx wr (w.heap.size + 1) 81 (ints ap0) ∧ Bx wr (w.heap.size + 1 + 1) 81 (ints ((K.take k).foldl apKd ap0)) ∧ Ds.Nodup ∧ (∀ D ∈ Ds, w.heap.size + 1 + 1 < D ∧ wr.heap[D]? = some (.deferred (some []))))
    (fun a _ => m - (intOf (a.tmps.getD 10 undef)).toNat) ?_ ?_
  · exact ⟨0, [], _, _, _, _, _, _, _, _, rfl, by omega, HB.out, KY, KZ, KA, List.nodup_nil, by simp⟩
  rintro a wr ⟨k, Ds, t5, t11, t12, t13, t14, t15, t16, t34, rfl, hk, hb, ky, kz, ka, hnd, hds⟩
  clear KY KZ KA
  have Hds := Lib.hid hds
  have HDw : Hid (∀ D ∈ Ds, D < wr.heap.size) := Lib.hid (fun D hD => (Array.getElem?_eq_some_iff.1 (hds D hD).2).1)
  have HB := Lib.hid hb
  clear hb hds
  have HG := Lib.hid (Hg.out.keep HB.out)
  by_cases hlt : k < m
  rotate_left
  · obtain rfl : k = m := by omega
    have Hap : Hid ((K.take k).foldl apKd ap0 = apL K) := Lib.hid (by unfold apL; rw [Hl.out, List.take_length])
    have hlen : (apL K).length = 10 := apL_len K
    rw [Hap.out] at ka
    gi_wp2
    go_wp2_with (first
      | (refine wpList_get 81 3 rfl rfl ka rfl Tryz.underlying81 rfl (szl sz81 hlen) ?_)
      | (refine wpList_put 81 2 35 rfl rfl kz rfl rfl (sza sz81 hlen) (by show _ = (ints _).length; rw [ints_len, ints_len, hlen]; rfl) (ints_one _) ?_; intro U kzn hp))
    have HBU := Lib.hid (upP HB.out hp (by omega))
    refine noGoto_ret (bodyPostM_marks Ds rfl hnd (fun D h => ?_) fun Y hY => ⟨_, results_1 rfl _ rfl (t := 81) (cs := ints (apL K)) ⟨?_⟩ Tryz.underlying81 rfl (szl sz81 hlen), rfl, ?_⟩)
    · rw [hp.block D (by have := (Hds.out D h).1; omega)]; exact (Hds.out D h).2
    · rw [hY.block _ (fun hD => by have := (Hds.out _ hD).1; omega)]; exact kzn.h
    · exact hY.below HBU.out (fun D h => by have := (Hds.out D h).1; omega)
  have hkl : k < K.length := by rw [← Hl.out]; exact hlt
  have Htk : Hid ((K.take (k + 1)).foldl apKd ap0 = apKd ((K.take k).foldl apKd ap0) K[k]) := Lib.hid (by rw [List.take_succ_eq_append_getElem hkl, List.foldl_append]; rfl)
  have Hy0 := (kdOk_iff.1 (HK.out K[k] (List.getElem_mem hkl)))
  have hlen : ((K.take k).foldl apKd ap0).length = 10 := by rw [apK_len]; rfl
  obtain ⟨b, o, rfl, hb, hcs⟩ := HG.out.get k hkl
  obtain ⟨c0, c1, c2, c3⟩ := hcs
  generalize K[k] = y at *
  generalize (K.take k).foldl apKd ap0 = ap at *
  obtain ⟨⟨s1, s9⟩, -, -, -, -⟩ := Hy0
  gi_wp2
  generalize hW : (World.alloc _ _) = X1
  have kk : Bx X1 wr.heap.size 72 [.int .i64 y.s, .int .i64 y.r, .int .i64 y.e, .int .i64 y.a] := by subst hW; exact Bx.new _ _ _
  have hbX : Below wr.heap.size wr X1 := by subst hW; exact up_alloc _ _
  have hX1s : X1.heap.size = wr.heap.size + 1 := by subst hW; simp
  clear hW
  have I0 : ApI w wr.heap.size A n c (some ⟨b, o, none⟩) m d y Ds ap X1 := ⟨up HB.out hbX, ky.keep hbX, kz.keep hbX, ka.keep hbX, kk, fun D hD => (hbX.block D (HDw.out D hD)).trans (Hds.out D hD).2⟩
  have HX1s := Lib.hid hX1s; clear hX1s
  have hws : w.heap.size + 1 + 1 < wr.heap.size := ka.lt
  clear ky kz ka kk hbX
  refine rangeFunc_law (by omega) (gf := 125) (fa := #[.int .i64 y.a]) (lb := #[]) rfl (enters_of Tryz.func125 (by kernel_rfl) rfl) (each_iter y.a X1) (Below.refl _ _) (fun _ => rfl)
    (fun pre X => ApI w wr.heap.size A n c (some ⟨b, o, none⟩) m d y Ds (pre.foldl (apStep y.s) ap) X) (fun c pre X => False) (fun _ _ _ => trivial) ?_ (fun _ _ _ _ h => h) I0 ?_ ?_ (fun _ _ _ _ h => h.elim)
  · rintro pre X Y ⟨h1, h2, h3, h4, h5, h6⟩ hb
    have e := HX1s.out
    exact ⟨h1.trans (hb.mono (by omega)), h2.keepB hb (by omega), h3.keepB hb (by omega), h4.keepB hb (by omega), h5.keepB hb (by omega), fun D hD => (hb.block D (by have := HDw.out D hD; omega)).trans (h6 D hD)⟩
  · rintro l pre x X hsp - hI hsz
    obtain ⟨x1, x9⟩ := eachL_in hsp
    clear hsp
    have hfl : (pre.foldl (apStep y.s) ap).length = 10 := by rw [apFold_len, hlen]
    have Hfs : Hid ((pre ++ [x]).foldl (apStep y.s) ap = apStep y.s (pre.foldl (apStep y.s) ap) x) := Lib.hid (by rw [List.foldl_append]; rfl)
    generalize pre.foldl (apStep y.s) ap = q at *
    have HI := Lib.hid hI; clear hI
    simp only [enc1]
    gi_wp2
    refine ⟨Above.refl _ _, ?_⟩
    intro Y hY1 hY2
    have e := HX1s.out
    have hb : Below X1.heap.size X Y := hY1
    obtain ⟨h1, h2, h3, h4, h5, h6⟩ := HI.out
    replace h1 := h1.trans (hb.mono (by omega)); replace h2 := h2.keepB hb (by omega); replace h3 := h3.keepB hb (by omega); replace h4 := h4.keepB hb (by omega); replace h5 := h5.keepB hb (by omega)
    have h6' : ∀ D ∈ Ds, Y.heap[D]? = some (.deferred (some [])) := fun D hD => (hb.block D (by have := HDw.out D hD; omega)).trans (h6 D hD)
    clear HI hY1 hY2 hb h6
    have H1 := Lib.hid h1; have H2 := Lib.hid h2; have H3 := Lib.hid h3; have H4 := Lib.hid h4; have H5 := Lib.hid h5; have H6 := Lib.hid h6'
    clear h1 h2 h3 h6'
    have k0 : Y.cell? ⟨wr.heap.size, 0, none⟩ = some (.int .i64 y.s) := by simpa using h5.get 0
    have a0 : Y.cell? ⟨w.heap.size + 1 + 1, y.s.toNat, none⟩ = some (.int .i64 (q.getD y.s.toNat 0)) := by rw [h4.get]; exact ints_get (by omega)
    have f0 : Y.frozen? ⟨w.heap.size + 1 + 1, y.s.toNat, none⟩ = false := h4.fr _
    clear h4 h5
    have Hq := Lib.hid hfl; clear hfl
    generalize hv1 : q.getD y.s.toNat 0 = v1 at a0
    have Hv := Lib.hid hv1; clear hv1
    gi_wp2
    refine wpIn_same ?_
    apply Exists.intro; apply Exists.intro; refine ⟨?_, ?_⟩
    · gi_region_with (refine ⟨trivial, (CallsIn.inRound l (callsIn_wide.2 (only_any _ _ (by omega) (by omega)))).mono ?_⟩; rintro e w' ⟨rfl, rfl⟩)
      all_goals exact ⟨rfl, rfl, rfl⟩
    have p1 := (Put.cell Y (w.heap.size + 1 + 1) y.s.toNat (.int .i64 (bits BinOp.or IntKind.i64 v1 (2 ^ x.toNat)))).drew
    have K1 : Bx _ _ _ _ := (H4.out.cell y.s.toNat (.int .i64 (bits BinOp.or IntKind.i64 v1 (2 ^ x.toNat)))).drew
    rw [ints_set] at K1
    have K1' : Bx _ _ _ (ints (q.set y.s.toNat (bor v1 (2 ^ x.toNat)))) := K1
    clear K1 k0 a0 f0
    have hq2 : (q.set y.s.toNat (bor v1 (2 ^ x.toNat))).length = 10 := by rw [List.length_set, Hq.out]
    have Hq2 : Hid (apStep y.s q x = (q.set y.s.toNat (bor v1 (2 ^ x.toNat))).set x.toNat (bor ((q.set y.s.toNat (bor v1 (2 ^ x.toNat))).getD x.toNat 0) (2 ^ y.s.toNat))) := Lib.hid (by unfold apStep; rw [Hv.out])
    generalize hU : World.drew _ = U at p1 K1' ⊢
    clear hU
    generalize q.set y.s.toNat (bor v1 (2 ^ x.toNat)) = q2 at *
    have HK1 := Lib.hid K1'; clear K1'
    have Hp1 := Lib.hid p1; clear p1
    have H5u := Lib.hid (H5.out.put Hp1.out (by omega))
    have k0 : U.cell? ⟨wr.heap.size, 0, none⟩ = some (.int .i64 y.s) := by simpa using H5u.out.get 0
    have a0 : U.cell? ⟨w.heap.size + 1 + 1, x.toNat, none⟩ = some (.int .i64 (q2.getD x.toNat 0)) := by rw [HK1.out.get]; exact ints_get (by omega)
    have f0 : U.frozen? ⟨w.heap.size + 1 + 1, x.toNat, none⟩ = false := HK1.out.fr _
    have Hql := Lib.hid hq2; clear hq2
    have Hv2 : Hid (q2.getD x.toNat 0 = q2.getD x.toNat 0) := Lib.hid rfl
    generalize hv2 : q2.getD x.toNat 0 = v2 at a0 Hv2 Hq2
    clear hv2
    gi_wp2
    refine wpIn_same ?_
    apply Exists.intro; apply Exists.intro; refine ⟨?_, ?_⟩
    · gi_region_with (refine ⟨trivial, (CallsIn.inRound l (callsIn_wide.2 (only_any _ _ (by omega) (by omega)))).mono ?_⟩; rintro e w' ⟨rfl, rfl⟩)
      all_goals exact ⟨rfl, rfl, rfl⟩
    have p2 := (Put.cell U (w.heap.size + 1 + 1) x.toNat (.int .i64 (bits BinOp.or IntKind.i64 v2 (2 ^ y.s.toNat)))).drew
    have K2 : Bx _ _ _ _ := (HK1.out.cell x.toNat (.int .i64 (bits BinOp.or IntKind.i64 v2 (2 ^ y.s.toNat)))).drew
    rw [ints_set] at K2
    have K2' : Bx _ _ _ (ints (q2.set x.toNat (bor v2 (2 ^ y.s.toNat)))) := K2
    clear K2 k0 a0 f0
    generalize hU : World.drew _ = V at p2 K2' ⊢
    clear hU
    gi_wp2
    have p12 := Hp1.out.trans p2
    refine ⟨Above.put p12 (by omega), ?_⟩
    show ApI _ _ _ _ _ _ _ _ _ _ (List.foldl (apStep y.s) ap (pre ++ [x])) _
    rw [Hfs.out, Hq2.out]
    exact ⟨H1.out.trans (p12.below (by omega)), H2.out.put p12 (by omega), H3.out.put p12 (by omega), K2', H5.out.put p12 (by omega), fun D hD => (p12.block D (by have := (Hds.out D hD).1; omega)).trans (H6.out D hD)⟩
  · rintro xs X rfl hI hdef
    obtain ⟨h1, h2, h3, h4, h5, h6⟩ := hI
    have e := HX1s.out
    have H1 := Lib.hid h1; have H2 := Lib.hid h2; have H3 := Lib.hid h3; have H4 := Lib.hid h4; have H6 := Lib.hid h6; have Hdef := Lib.hid hdef
    clear h1 h2 h3 h4 h5 h6 hdef
    gi_wp2
    refine ⟨⟨k + 1, X1.heap.size :: Ds, _, _, _, _, _, _, _, _, rfl, by omega, H1.out, H2.out, H3.out, ?_, List.nodup_cons.2 ⟨fun hm => by have := HDw.out _ hm; omega, hnd⟩, ?_⟩, by simp [intOf]; omega⟩
    · rw [Htk.out]; exact H4.out
    · intro D hD
      rcases List.mem_cons.1 hD with rfl | hD
      · exact ⟨by omega, Hdef.out⟩
      · exact ⟨(Hds.out D hD).1, H6.out D hD⟩
end Go.Proofs.YtaieidigpilbfaaGreat

namespace Go.Proofs.YtaieidigpilbfaaGreat
open Go Go.RowKit
set_option maxHeartbeats 400000
set_option maxRecDepth 100000

theorem own_keepB {w w' : World} {base B : Nat} {e : TypeId} {size n : Nat} {v : Value} {xs : List Value} (h : w.ownsRow base e size v n xs) (hb : ∀ g, v.ownBlock = some g → g < w.heap.size → w'.heap[g]? = w.heap[g]?) : w'.ownsRow base e size v n xs := by
  refine ⟨h.1, ?_⟩
  rcases h.2 with h2 | ⟨g, cap, cur, hv, hg, hc, r⟩
  · exact .inl h2
  · exact .inr ⟨g, cap, cur, hv, hg, (hb g (by rw [hv]; rfl) (Array.getElem?_eq_some_iff.1 hc).1).trans hc, r⟩

/-- A slice of the call's own that holds these numbers. -/
structure OI (w : World) (base : Nat) (v : Value) (l : List Int) : Prop where
  h : w.ownsRow base 3 1 v l.length (ints l)
section
variable {w w' : World} {base b : Nat} {v : Value} {l : List Int}
theorem OI.nil (w : World) (base : Nat) : OI w base (.slice none 0 0) [] := ⟨World.ownsRow_nil _ _ _ _⟩
theorem OI.keep (h : OI w base v l) (hb : Below w.heap.size w w') : OI w' base v l := ⟨own_keepB (B := 0) h.h fun g _ hlt => hb.block g hlt⟩
theorem OI.put (h : OI w base v l) (p : Put w b w') (hb : b < base) : OI w' base v l :=
  ⟨own_keepB (B := 0) h.h fun g hg _ => p.block g (fun e => by
    rcases h.h.2 with ⟨rfl, _⟩ | ⟨g', cap, cur, rfl, hge, _⟩
    · simp [Value.ownBlock] at hg
    · simp [Value.ownBlock] at hg; omega)⟩
theorem OI.is (h : OI w base v l) : ∃ A c, v = .slice A l.length c ∧ l.length ≤ c ∧ Is w A l.length l ∧ ∀ p, A = some p → base ≤ p.block := by
  obtain ⟨A, c, rfl, hnc, his⟩ := Is.of_own h.h
  refine ⟨A, c, rfl, hnc, his, ?_⟩
  rintro p rfl
  rcases h.h.2 with ⟨h1, h2⟩ | ⟨g, cap, cur, h1, h2, _⟩
  · cases h1
  · cases h1; exact h2
theorem OI.mono (h : OI w base v l) {base' : Nat} (hb : base' ≤ base) : OI w base' v l := by
  refine ⟨h.h.1, ?_⟩
  rcases h.h.2 with h2 | ⟨g, cap, cur, hv, hg, r⟩
  · exact .inl h2
  · exact .inr ⟨g, cap, cur, hv, Nat.le_trans hb hg, r⟩
end

theorem OI.shape {w : World} {base : Nat} {v : Value} {l : List Int} (h : OI w base v l) : ∃ A c, v = .slice A l.length c := by
  obtain ⟨A, c, h1, _⟩ := h.is; exact ⟨A, c, h1⟩
theorem Ks.put {w w' : World} {A : Option Addr} {n b : Nat} {gs : List Kd} (h : Ks w A n gs) (p : Put w b w') (hA : ∀ q, A = some q → q.block ≠ b) : Ks w' A n gs :=
  ⟨h.len, h.small, fun k hk => by
    obtain ⟨b2, o, e, hlt, hg⟩ := h.get k hk
    have hne := hA _ e
    exact ⟨b2, o, e, by rw [p.size]; exact hlt, hg.keep fun j => World.cell?_of_block (a := ⟨b2, j, none⟩) (p.block b2 hne)⟩⟩
theorem Is.put {w w' : World} {A : Option Addr} {n b : Nat} {gs : List Int} (h : Is w A n gs) (p : Put w b w') (hA : ∀ q, A = some q → q.block ≠ b) : Is w' A n gs :=
  ⟨h.len, h.small, fun k hk => by
    obtain ⟨b2, o, e, hlt, hg⟩ := h.get k hk
    have hne := hA _ e
    exact ⟨b2, o, e, by rw [p.size]; exact hlt, (World.cell?_of_block (a := ⟨b2, o + k, none⟩) (p.block b2 hne)).trans hg⟩⟩
theorem below_grown {w w' : World} {base : Nat} {v : Value} {e : TypeId} {size n : Nat} {xs : List Value} (h : w.ownsRow base e size v n xs) (hb : base ≤ w.heap.size) (hg : w.grownBy w' v.ownBlock) : Below base w w' :=
  ((Below.refl base w).grown hg hb (fun q hq => (h.lt q hq).1))

section
variable {ops : Array Oper} {rest : List Oper} {o : Oper} {a : Act} {w : World} {Q : Exit → Act → World → Prop}
/-- One number more. -/
theorem wpList_appI {base : Nat} {v : Value} {l : List Int} (K : OI w base v l) (s x : Operand) (hgd : o.guard = none) (ho : o.op = .call { callee := .builtin .append, args := #[s, x], argTypes := #[22, 22] })
    (hs : a.eval s = v) {b : Nat} {y : Int} (hx : a.eval x = .slice (some ⟨b, 0, none⟩) 1 1) (hc : w.cell? ⟨b, 0, none⟩ = some (.int .i64 y)) (hn : l.length ≤ 1000000000) (hb : base ≤ w.heap.size)
    (h : ∀ A' c' w', OI w' base (.slice A' (l.length + 1) c') (l ++ [y]) → Below base w w' → wpList Tryz.prog ops Q rest (a.put o.dst (.slice A' (l.length + 1) c')) w') : wpList Tryz.prog ops Q (o :: rest) a w := by
  obtain ⟨i0, hi, hz0, hz1, hz2⟩ := info_parts info3
  refine wpList_append_own _ hgd s x 22 ho base 3 i0 (.int .i64 0) 1 8 Tryz.underlying22 hi hz0 hz1 hz2 rfl (by decide) v l.length (ints l) hs K.h ⟨b, 0, none⟩ 1 1 [.int .i64 y] hx rfl ?_ ?_ (by unfold maxLen; omega) (by omega) hb ?_
  · intro j u hu
    cases j with
    | zero => simp at hu; subst hu; simpa [Addr.add_lit] using hc
    | succ j => simp at hu
  · intro u hu; simp at hu; subst hu; rfl
  · intro v' w' h1 h2 _
    have h3 : OI w' base v' (l ++ [y]) := ⟨by rw [ints_snoc, List.length_append]; exact h1⟩
    obtain ⟨A', c', e⟩ := h3.shape
    rw [List.length_append, List.length_singleton] at e
    subst e
    exact h A' c' w' h3 (below_grown K.h hb h2)
/-- A list more. -/
theorem wpList_appIs {base : Nat} {v : Value} {l : List Int} (K : OI w base v l) (s x : Operand) (hgd : o.guard = none) (ho : o.op = .call { callee := .builtin .append, args := #[s, x], argTypes := #[22, 22] })
    (hs : a.eval s = v) {B : Option Addr} {m c : Nat} {r : List Int} (hx : a.eval x = .slice B m c) (hI : Is w B m r) (hm : m ≠ 0) (hn : l.length + m ≤ 1000000000) (hb : base ≤ w.heap.size)
    (h : ∀ A' c' w', OI w' base (.slice A' (l.length + m) c') (l ++ r) → Below base w w' → wpList Tryz.prog ops Q rest (a.put o.dst (.slice A' (l.length + m) c')) w') : wpList Tryz.prog ops Q (o :: rest) a w := by
  obtain ⟨i0, hi, hz0, hz1, hz2⟩ := info_parts info3
  have hml := hI.len
  obtain ⟨b, ob, rfl, _, _⟩ := hI.get 0 (by omega)
  refine wpList_append_own _ hgd s x 22 ho base 3 i0 (.int .i64 0) 1 8 Tryz.underlying22 hi hz0 hz1 hz2 rfl (by decide) v l.length (ints l) hs K.h ⟨b, ob, none⟩ m c (ints r) hx (by simp [ints, hml]) ?_ ?_ (by unfold maxLen; omega) (by omega) hb ?_
  · intro j u hu
    have hj : j < r.length := by have := (List.getElem?_eq_some_iff.1 hu).1; simpa [ints] using this
    obtain ⟨b2, o2, e, _, hc⟩ := hI.get j hj
    cases e
    rw [Addr.add_lit, hc]
    simpa [ints, hj] using hu
  · intro u hu; simp [ints] at hu; obtain ⟨z, _, rfl⟩ := hu; rfl
  · intro v' w' h1 h2 _
    have h3 : OI w' base v' (l ++ r) := ⟨by rw [List.length_append, ← hml, show ints (l ++ r) = ints l ++ ints r by simp [ints]]; exact h1⟩
    obtain ⟨A', c', e⟩ := h3.shape
    rw [List.length_append, ← hml] at e
    subst e
    exact h A' c' w' h3 (below_grown K.h hb h2)
end

/-- Cells of kinds in a row. -/
def kcells : List Kd → List Value
  | [] => []
  | g :: r => [.int .i64 g.s, .int .i64 g.r, .int .i64 g.e, .int .i64 g.a] ++ kcells r
theorem kcells_snoc (l : List Kd) (g : Kd) : kcells (l ++ [g]) = kcells l ++ [.int .i64 g.s, .int .i64 g.r, .int .i64 g.e, .int .i64 g.a] := by
  induction l with
  | nil => rfl
  | cons x r ih => simp [kcells, ih]
theorem kcells_len (l : List Kd) : (kcells l).length = l.length * 4 := by
  induction l with
  | nil => rfl
  | cons x r ih => simp [kcells, ih]; omega
theorem kcells_at : ∀ (l : List Kd) (k : Nat) (h : k < l.length), (kcells l)[k * 4]? = some (.int .i64 l[k].s) ∧ (kcells l)[k * 4 + 1]? = some (.int .i64 l[k].r) ∧ (kcells l)[k * 4 + 2]? = some (.int .i64 l[k].e) ∧ (kcells l)[k * 4 + 3]? = some (.int .i64 l[k].a)
  | [], k, h => by simp at h
  | g :: r, 0, h => by simp [kcells]
  | g :: r, k + 1, h => by
    have := kcells_at r k (by simpa using h)
    have e : ∀ j, (kcells (g :: r))[(k + 1) * 4 + j]? = (kcells r)[k * 4 + j]? := fun j => by
      simp only [kcells]
      rw [List.getElem?_append_right (by simp; omega)]
      congr 1; simp; omega
    have e0 := e 0
    simp only [Nat.add_zero] at e0
    rw [e0, e, e, e]; simpa using this
theorem info72 : (Tryz.prog.info? 72).map (fun i => (i.zero, i.size, i.bytes)) = some (some (.agg #[.int .i64 0, .int .i64 0, .int .i64 0, .int .i64 0]), 4, 32) := by kernel_rfl
structure OK (w : World) (base : Nat) (v : Value) (l : List Kd) : Prop where
  h : w.ownsRow base 72 4 v l.length (kcells l)
section
variable {w w' : World} {base b : Nat} {v : Value} {l : List Kd}
theorem OK.nil (w : World) (base : Nat) : OK w base (.slice none 0 0) [] := ⟨World.ownsRow_nil _ _ _ _⟩
theorem OK.keep (h : OK w base v l) (hb : Below w.heap.size w w') : OK w' base v l := ⟨own_keepB (B := 0) h.h fun g _ hlt => hb.block g hlt⟩
theorem OK.put (h : OK w base v l) (p : Put w b w') (hb : b < base) : OK w' base v l :=
  ⟨own_keepB (B := 0) h.h fun g hg _ => p.block g (fun e => by
    rcases h.h.2 with ⟨rfl, _⟩ | ⟨g', cap, cur, rfl, hge, _⟩
    · simp [Value.ownBlock] at hg
    · simp [Value.ownBlock] at hg; omega)⟩
theorem OK.shape (h : OK w base v l) : ∃ A c, v = .slice A l.length c := by
  rcases h.h.2 with ⟨rfl, h0⟩ | ⟨g, cap, cur, rfl, _⟩
  · exact ⟨none, 0, by rw [h0]⟩
  · exact ⟨_, _, rfl⟩
theorem OK.ks (h : OK w base v l) (hl : l.length < 9223372036854775807) : ∃ A c, v = .slice A l.length c ∧ l.length ≤ c ∧ Ks w A l.length l ∧ ∀ p, A = some p → base ≤ p.block := by
  rcases h.h.2 with ⟨rfl, h0⟩ | ⟨g, cap, cur, rfl, hge, hg, hnc, hcm, hcs, htk⟩
  · exact ⟨none, 0, by rw [h0], by omega, ⟨rfl, hl, fun k hk => by omega⟩, fun p hp => by cases hp⟩
  · refine ⟨some ⟨g, 0, none⟩, cap, rfl, hnc, ⟨rfl, hl, fun k hk => ⟨g, 0, rfl, (Array.getElem?_eq_some_iff.1 hg).1, ?_⟩⟩, fun p hp => by cases hp; exact hge⟩
    have ha := kcells_at l k hk
    have key : ∀ j u, (kcells l)[j]? = some u → w.cell? ⟨g, j, none⟩ = some u := fun j u hu => by
      have := h.h.cells (g := g) rfl j u hu
      rw [Addr.add_lit] at this; simpa using this
    rw [Nat.zero_add]
    exact ⟨key _ _ ha.1, key _ _ ha.2.1, key _ _ ha.2.2.1, key _ _ ha.2.2.2⟩
end
section
variable {ops : Array Oper} {rest : List Oper} {o : Oper} {a : Act} {w : World} {Q : Exit → Act → World → Prop}
/-- One kind more. -/
theorem wpList_appK {base : Nat} {v : Value} {l : List Kd} (K : OK w base v l) (s x : Operand) (hgd : o.guard = none) (ho : o.op = .call { callee := .builtin .append, args := #[s, x], argTypes := #[23, 23] })
    (hs : a.eval s = v) {b : Nat} {y : Kd} (hx : a.eval x = .slice (some ⟨b, 0, none⟩) 1 1) (hc : ∀ j, w.cell? ⟨b, j, none⟩ = [Value.int .i64 y.s, .int .i64 y.r, .int .i64 y.e, .int .i64 y.a][j]?) (hn : l.length ≤ 1000000) (hb : base ≤ w.heap.size)
    (h : ∀ A' c' w', OK w' base (.slice A' (l.length + 1) c') (l ++ [y]) → Below base w w' → wpList Tryz.prog ops Q rest (a.put o.dst (.slice A' (l.length + 1) c')) w') : wpList Tryz.prog ops Q (o :: rest) a w := by
  obtain ⟨i0, hi, hz0, hz1, hz2⟩ := info_parts info72
  refine wpList_append_own _ hgd s x 23 ho base 72 i0 (.agg #[.int .i64 0, .int .i64 0, .int .i64 0, .int .i64 0]) 4 32 Tryz.underlying23 hi hz0 hz1 hz2 rfl (by decide) v l.length (kcells l) hs K.h ⟨b, 0, none⟩ 1 1 [.int .i64 y.s, .int .i64 y.r, .int .i64 y.e, .int .i64 y.a] hx rfl ?_ ?_ (by unfold maxLen; omega) (by omega) hb ?_
  · intro j u hu
    rw [Addr.add_lit, Nat.zero_add, hc]; exact hu
  · intro u hu; simp at hu; rcases hu with rfl | rfl | rfl | rfl <;> rfl
  · intro v' w' h1 h2 _
    have h3 : OK w' base v' (l ++ [y]) := ⟨by rw [kcells_snoc, List.length_append]; exact h1⟩
    obtain ⟨A', c', e⟩ := h3.shape
    rw [List.length_append, List.length_singleton] at e
    subst e
    exact h A' c' w' h3 (below_grown K.h hb h2)
end
end Go.Proofs.YtaieidigpilbfaaGreat

namespace Go.Proofs.YtaieidigpilbfaaGreat
open Go Go.RowKit
set_option maxHeartbeats 800000
set_option maxRecDepth 100000

def sumR (l : List Kd) : Int := l.foldl (fun n k => n + k.r) 0
theorem sumR_snoc (l : List Kd) (k : Kd) : sumR (l ++ [k]) = sumR l + k.r := by simp [sumR]
theorem sumR_nil : sumR [] = 0 := rfl
theorem foldR (l : List Kd) : ∀ n, l.foldl (fun n k => n + k.r) n = n + sumR l := by
  induction l with
  | nil => intro n; simp [sumR]
  | cons k l ih => intro n; unfold sumR; rw [List.foldl_cons, List.foldl_cons, ih, ih]; omega
theorem sumR_cons (k : Kd) (l : List Kd) : sumR (k :: l) = k.r + sumR l := by show List.foldl _ _ _ = _; rw [List.foldl_cons, foldR]; omega
theorem sumR_le {l : List Kd} (h : ∀ k ∈ l, 0 ≤ k.r ∧ k.r ≤ 1000) : 0 ≤ sumR l ∧ sumR l ≤ 1000 * l.length := by
  induction l with
  | nil => simp [sumR]
  | cons k l ih =>
    have h1 := h k (by simp)
    have h2 := ih fun x hx => h x (by simp [hx])
    rw [sumR_cons, List.length_cons]; omega
theorem take_in {α : Type} {l : List α} {k : Nat} {p : α → Prop} (h : ∀ x ∈ l, p x) : ∀ x ∈ l.take k, p x := fun x hx => h x (List.mem_of_mem_take hx)
/-- The kinds of beasts. -/
def bsL (K : List Kd) (l : List Int) : List Kd := l.map (kdD K)
theorem kdD_in {K : List Kd} (hK : ksOk K = true) (x : Int) : 0 ≤ (kdD K x).r ∧ (kdD K x).r ≤ 1000 := by
  cases h : kd? K x with
  | none => rw [(kdD_none h).1]; decide
  | some k =>
    rw [(kdD_some h).1]
    have := kdOk_iff.1 (ksOk_kd hK k (kd_mem h).1)
    omega
theorem bsL_in {K : List Kd} (hK : ksOk K = true) (l : List Int) : ∀ k ∈ bsL K l, 0 ≤ k.r ∧ k.r ≤ 1000 := by
  intro k hk
  obtain ⟨x, _, rfl⟩ := List.mem_map.1 hk
  exact kdD_in hK x

theorem room_any (A : Option Addr) (n c : Nat) (B : Option Addr) (m d : Nat) (bs : List Kd) (ap : List Int) (w : World) (hg : Ks w B m bs) (hr : ∀ k ∈ bs, 0 ≤ k.r ∧ k.r ≤ 1000) (h40 : bs.length ≤ 1000) :
    Calls Tryz.prog 64 #[.agg ⟨.slice A n c :: .slice B m d :: ints ap⟩] w fun e w' => e = .returned (.int .i64 (sumR bs)) ∧ Below w.heap.size w w' := by
  have Hl : Hid (m = bs.length) := Lib.hid hg.len
  have hmx := hg.small
  have HR := Lib.hid hr; clear hr
  go_enter Tryz.func64, Tryz.ntmps64
  go_upto_region 1 with fail
  generalize hW : (World.alloc _ _) = W
  have HB : Hid (Below w.heap.size w W) := Lib.hid (by subst hW; go_grown)
  have KL : Bx W (w.heap.size) 83 (.slice A n c :: .slice B m d :: ints ap) := by subst hW; repeat (first | (refine Bx.newAt _ _ _ ?_; first | rfl | (simp only [World.size_alloc]; done) | (simp only [World.size_alloc]; omega)) | refine Bx.old ?_ _)
  clear hW
  have KLl := KL.lt; have KLc := KL.get; have KLf := KL.fr
  have HG := Lib.hid (hg.keep HB.out)
  clear hg
  go_wp2_with fail
  clear KLl KLc KLf
  go_loopw [3, 9] (fun s i wr => ∃ (k : Nat), k ≤ m ∧ i = .int .i64 k ∧ s = .int .i64 (sumR (bs.take k)) ∧ Below W.heap.size W wr) (fun _ i _ => m - (intOf i).toNat)
  case atStart => exact ⟨0, by omega, rfl, rfl, Below.refl _ _⟩
  case round =>
    obtain ⟨k, hk, rfl, rfl, hb⟩ := hrel
    have HGr := Lib.hid (HG.out.keep hb)
    replace HB := Lib.hid (up HB.out hb)
    have HBr := Lib.hid hb
    clear hb
    by_cases hlt : k < m
    · have hkl : k < bs.length := by rw [← Hl.out]; exact hlt
      have Htk : Hid (sumR (bs.take (k + 1)) = sumR (bs.take k) + bs[k].r) := Lib.hid (by rw [List.take_succ_eq_append_getElem hkl, sumR_snoc])
      obtain ⟨l1, l2⟩ := sumR_le (take_in (k := k) HR.out)
      have l3 : (bs.take k).length ≤ 1000 := by rw [List.length_take]; omega
      obtain ⟨r1, r2⟩ := HR.out bs[k] (List.getElem_mem hkl)
      have l4 : sumR (bs.take k) ≤ 1000000 := by omega
      obtain ⟨b, o, rfl, hb, hcs⟩ := HGr.out.get k hkl
      obtain ⟨c0, c1, c2, c3⟩ := hcs
      clear l2 l3
      generalize bs[k] = y at *
      generalize sumR (bs.take k) = S at *
      go_wp2
      refine ⟨⟨k + 1, by omega, by go_num, ?_, up HBr.out (up_alloc _ _)⟩, by simp [intOf]; omega⟩
      rw [Htk.out]
    · obtain rfl : k = m := by omega
      have Hf : Hid (sumR (bs.take k) = sumR bs) := Lib.hid (by rw [Hl.out, List.take_length])
      generalize sumR (bs.take k) = S at *
      go_wp2
      go_ret
      exact ⟨ret_int Hf.out, HB.out⟩

theorem rrooms_any (A : Option Addr) (n c : Nat) (B : Option Addr) (m d : Nat) (K : List Kd) (L : Option Addr) (r s : Nat) (l : List Int) (w : World) (hg : Ks w B m K) (hl : Is w L r l) (hK : ksOk K = true) (h40 : l.length ≤ 1000) :
    Calls Tryz.prog 65 #[.agg #[.slice A n c, .slice B m d], .slice L r s] w fun e w' => e = .returned (.int .i64 (sumR (bsL K l))) ∧ Below w.heap.size w w' := by
  have Hr : Hid (r = l.length) := Lib.hid hl.len
  have hmx := hl.small
  have HR := Lib.hid (bsL_in hK l)
  have HR2 := Lib.hid (kdD_in hK)
  clear hK
  go_enter Tryz.func65, Tryz.ntmps65
  go_upto_region 1 with fail
  generalize hW : (World.alloc _ _) = W
  have HB : Hid (Below w.heap.size w W) := Lib.hid (by subst hW; go_grown)
  have KY : Bx W (w.heap.size) 25 [.slice A n c, .slice B m d] := by subst hW; repeat (first | (refine Bx.newAt _ _ _ ?_; first | rfl | (simp only [World.size_alloc]; done) | (simp only [World.size_alloc]; omega)) | refine Bx.old ?_ _)
  clear hW
  have KYl := KY.lt; have KYc := KY.get; have KYf := KY.fr
  have HG := Lib.hid (hg.keep HB.out)
  have HL := Lib.hid (hl.keep HB.out)
  clear hg hl
  go_wp2_with fail
  clear KYl KYc KYf
  go_loopw [5, 10] (fun s i wr => ∃ (k : Nat), k ≤ r ∧ i = .int .i64 k ∧ s = .int .i64 (sumR (bsL K (l.take k))) ∧ Below W.heap.size W wr) (fun _ i _ => r - (intOf i).toNat)
  case atStart => exact ⟨0, by omega, rfl, rfl, Below.refl _ _⟩
  case round =>
    obtain ⟨k, hk, rfl, rfl, hb⟩ := hrel
    have HGr := Lib.hid (HG.out.keep hb)
    have HLr := Lib.hid (HL.out.keep hb)
    replace KY := KY.keep hb; replace HB := Lib.hid (up HB.out hb)
    have HBr := Lib.hid hb
    clear hb
    have KYl := KY.lt; have KYc := KY.get; have KYf := KY.fr
    by_cases hlt : k < r
    · have hkl : k < l.length := by rw [← Hr.out]; exact hlt
      have Htk : Hid (sumR (bsL K (l.take (k + 1))) = sumR (bsL K (l.take k)) + (kdD K l[k]).r) := Lib.hid (by unfold bsL; rw [List.take_succ_eq_append_getElem hkl, List.map_append, List.map_singleton, sumR_snoc])
      have hin : ∀ x ∈ bsL K (l.take k), 0 ≤ x.r ∧ x.r ≤ 1000 := by
        intro x hx; obtain ⟨y, _, rfl⟩ := List.mem_map.1 hx; exact HR2.out y
      obtain ⟨l1, l2⟩ := sumR_le hin
      have l3 : (bsL K (l.take k)).length ≤ 1000 := by unfold bsL; rw [List.length_map, List.length_take]; omega
      obtain ⟨r1, r2⟩ := HR2.out l[k]
      have l4 : sumR (bsL K (l.take k)) ≤ 1000000 := by omega
      obtain ⟨b, o, rfl, hb, hc⟩ := HLr.out.get k hkl
      clear l2 l3 hin
      generalize l[k] = y at *
      generalize sumR (bsL K (l.take k)) = S at *
      go_wp2_with (go_at_call 81; refine (rroom_any _ _ _ _ _ _ K _ _ HGr.out).mono ?_; rintro e X ⟨rfl, hbx⟩; have HBx := Lib.hid (up HBr.out hbx); clear hbx)
      refine ⟨⟨k + 1, by omega, by go_num, ?_, HBx.out⟩, by simp [intOf]; omega⟩
      rw [Htk.out]
    · obtain rfl : k = r := by omega
      have Hf : Hid (sumR (bsL K (l.take k)) = sumR (bsL K l)) := Lib.hid (by rw [Hr.out, List.take_length])
      generalize sumR (bsL K (l.take k)) = S at *
      go_wp2
      go_ret
      exact ⟨ret_int Hf.out, HB.out⟩
end Go.Proofs.YtaieidigpilbfaaGreat

namespace Go.Proofs.YtaieidigpilbfaaGreat
open Go Go.RowKit

section alloc
variable {P : Program} {md : Region.Mode}

theorem tmps_put_ne (a : Act) (x : Option Tmp) (v : Value) (d : Nat) (h : x ≠ some d) : (a.put x v).tmps[d]? = a.tmps[d]? := by
  cases x with
  | none => rfl
  | some t =>
    have : t ≠ d := fun e => h (by rw [e])
    simp [Act.put, Array.getElem?_setIfInBounds, this]

/-- What a frame ends with, it has from where each of its slots was last written. -/
theorem headAny_pin {ops : Array Oper} {C : World → Prop} {n : Nat} {L : Array Bool → Act → Prop} {A : Act} {d : Nat} (hL : ∀ done a, L done a → a = A) (f : Nat) :
    ∀ done a, headAny P md ops C n L f done a → (∀ i o, done.getD i true = false → i < n → ops[i]? = some o → o.dst ≠ some d) → A.tmps[d]? = a.tmps[d]? := by
  induction f with
  | zero => intro done a h _; rw [hL _ _ h]
  | succ f ih =>
    intro done a h hd
    obtain ⟨i, hi⟩ := List.exists_mem_of_ne_nil _ h.1
    obtain ⟨hin, hq⟩ := h.2 i hi
    obtain ⟨hun, o, ho, _⟩ := mem_ready.1 hi
    obtain ⟨v, _, hk⟩ := yieldsIn_of_qOp ho hq
    rw [ih _ _ hk (fun j oj hj hjn hoj => hd j oj (by
      by_cases e : i = j
      · subst e; exact hun
      · rwa [getD_set_ne true e] at hj) hjn hoj), tmps_put_ne _ _ _ _ (hd i o hun hin ho)]

theorem put_same {a A A' : Act} {x : Option Tmp} {v v' : Value} (h : ∀ d, x = some d → A.tmps[d]? = A'.tmps[d]?) (h1 : ∀ d, x = some d → A.tmps[d]? = (a.put x v).tmps[d]?) (h2 : ∀ d, x = some d → A'.tmps[d]? = (a.put x v').tmps[d]?) : a.put x v = a.put x v' := by
  cases x with
  | none => rfl
  | some d =>
    have e := ((h1 d rfl).symm.trans (h d rfl)).trans (h2 d rfl)
    simp only [Act.put] at e ⊢
    by_cases hd : d < a.tmps.size
    · simp [Array.getElem?_setIfInBounds, hd] at e
      rw [e]
    · rw [Array.setIfInBounds_eq_of_size_le (Nat.not_lt.1 hd), Array.setIfInBounds_eq_of_size_le (Nat.not_lt.1 hd)]

theorem qOp_same {ops ops' : Array Oper} {C : World → Prop} {i : Nat} {K : Act → Prop} {a : Act} (h : ops'[i]? = ops[i]?) (hy : ∀ t, yielded ops' t = yielded ops t) (hq : qOp P ops' C i K a) : qOp P ops C i K a := by
  unfold qOp at *
  rw [h, hy] at hq
  exact hq

theorem alloc_done {ops ops' : Array Oper} {C : World → Prop} {n g m : Nat} {L : Array Bool → Act → Prop} {Q : Exit → Act → World → Prop} (hsame : ∀ i, i ≠ m → ops'[i]? = ops[i]?) (hy : ∀ t, yielded ops' t = yielded ops t)
    (hr : ∀ done, Region.ready md ops' done = Region.ready md ops done) (hL : ∀ done a w, C w → L done a → wpAny P md ops Q g done a w) (f : Nat) :
    ∀ done a w, C w → done.getD m true = true → headAny P md ops' C n L f done a → wpAny P md ops Q (f + g) done a w := by
  induction f with
  | zero => intro done a w hw _ h; rw [Nat.zero_add]; exact hL _ _ _ hw h
  | succ f ih =>
    intro done a w hw hm h
    rw [show f + 1 + g = (f + g) + 1 by omega]
    refine ⟨fun h0 => absurd (by rw [hr]; exact h0) h.1, fun i hi => ?_⟩
    have hi' : i ∈ Region.ready md ops' done := by rw [hr]; exact hi
    have hne : i ≠ m := fun e => by
      subst e
      rw [(mem_ready.1 hi).1] at hm
      cases hm
    exact wpOp_of_qOp hw (fun a' w' hw' hk => ih _ a' w' hw' (by rw [getD_set_ne true hne]; exact hm) hk) (qOp_same (hsame i hne) hy (h.2 i hi').2)

/-- The class of the worlds that have grown out of b. -/
def grown (b : World) : World → Prop := fun w' => ∃ z, w' = grow b z
theorem grown_self (b : World) : grown b b := ⟨⟨#[], b.drawn⟩, by simp [grow]⟩

theorem alloc_first {ops : Array Oper} {ops' : Nat → Array Oper} {n g m t : Nat} {obj : Obj} {oa : Oper} {oN : Nat → Oper} {A : Nat → Act} {L : Nat → Array Bool → Act → Prop} {Q : Exit → Act → World → Prop} {w : World}
    (hsame : ∀ N i, i ≠ m → (ops' N)[i]? = ops[i]?) (hy : ∀ N x, yielded (ops' N) x = yielded ops x) (hr : ∀ N done, Region.ready md (ops' N) done = Region.ready md ops done)
    (hmn : m < n) (ha : ops[m]? = some oa) (hwa : ∀ y, Region.wanted oa y = true) (hda : oa.dst = some t) (hrun : ∀ a w, (execOp (Act.eval a) oa).run P w = .ok (.value (.pointer (some ⟨w.heap.size, 0, none⟩))) (w.alloc obj))
    (hN : ∀ N, (ops' N)[m]? = some (oN N)) (hwN : ∀ N y, Region.wanted (oN N) y = true) (hdN : ∀ N, (oN N).dst = some t) (hrunN : ∀ N a w, (execOp (Act.eval a) (oN N)).run P w = .ok (.value (.pointer (some ⟨N, 0, none⟩))) w)
    (hnd : ∀ i j oi oj, i < n → j < n → i ≠ j → ops[i]? = some oi → ops[j]? = some oj → ∀ d, oi.dst = some d → oj.dst ≠ some d)
    (hA : ∀ N d, d ≠ t → (A N).tmps[d]? = (A 0).tmps[d]?) (hLA : ∀ N done a, L N done a → a = A N) (hLm : ∀ N done a, L N done a → done.getD m true = true)
    (hL : ∀ N b, Below w.heap.size w b → b.heap[N]? = some obj → w.heap.size ≤ N → ∀ done a w', grown b w' → L N done a → wpAny P md ops Q g done a w') (f : Nat) :
    ∀ done a w1, grown w w1 → done.getD m true = false → (∀ N b, Below w.heap.size w b → headAny P md (ops' N) (grown b) n (L N) f done a) → wpAny P md ops Q (f + g) done a w1 := by
  induction f with
  | zero =>
    intro done a w1 _ hm h
    have := hLm 0 done a (h 0 w (Below.refl _ _))
    rw [hm] at this
    cases this
  | succ f ih =>
    intro done a w1 hw1 hm h
    rw [show f + 1 + g = (f + g) + 1 by omega]
    have h0 := h 0 w (Below.refl _ _)
    refine ⟨fun e => absurd (by rw [hr]; exact e) h0.1, fun i hi => ?_⟩
    obtain ⟨z1, hz1⟩ := hw1
    have hbw1 : Below w.heap.size w w1 := hz1 ▸ grow_below w z1
    by_cases him : i = m
    · subst him
      have hb : Below w.heap.size w (w1.alloc obj) := up hbw1 (up_alloc _ _)
      have hi' : i ∈ Region.ready md (ops' w1.heap.size) done := by rw [hr]; exact hi
      have hq := ((h w1.heap.size (w1.alloc obj) hb).2 i hi').2
      obtain ⟨v, hyv, hk⟩ := yieldsIn_of_qOp (hN w1.heap.size) hq
      have hv : v = .pointer (some ⟨w1.heap.size, 0, none⟩) := by
        rcases hyv with ⟨_, hv⟩ | ⟨hv, _⟩
        · have := hv (w1.alloc obj) (grown_self _)
          unfold Oper.quietAt at this
          rw [hrunN] at this
          exact this.2.symm
        · rw [hwN] at hv; cases hv
      subst hv
      unfold wpOp
      simp only [ha, hwa, if_true]
      refine .inl ?_
      unfold Oper.wp
      rw [hrun]
      show wpAny P md ops Q (f + g) _ (a.put oa.dst _) (w1.alloc obj)
      rw [hda]
      rw [hdN] at hk
      have hblk : (w1.alloc obj).heap[w1.heap.size]? = some obj := by
        show (w1.heap.push obj)[w1.heap.size]? = _
        simp
      exact alloc_done (hsame _) (hy _) (hr _) (hL w1.heap.size (w1.alloc obj) hb hblk hbw1.size) f _ _ _ (grown_self _) (by
        obtain ⟨hu, o, ho, _⟩ := mem_ready.1 hi
        have hlt : i < done.size := by
          rcases Nat.lt_or_ge i done.size with h' | h'
          · exact h'
          · rw [show done.getD i true = true by simp [Array.getD, Nat.not_lt.2 h']] at hm; cases hm
        simp [Array.getD, hlt]) hk
    · have hi' : ∀ N, i ∈ Region.ready md (ops' N) done := fun N => by rw [hr]; exact hi
      obtain ⟨hin, hq⟩ := h0.2 i (hi' 0)
      obtain ⟨hun, o, ho, _⟩ := mem_ready.1 hi
      have ho' : ∀ N, (ops' N)[i]? = some o := fun N => (hsame N i him).trans ho
      obtain ⟨v, hyv, hk⟩ := yieldsIn_of_qOp (ho' 0) hq
      have left : ∀ (d : Nat), o.dst = some d → ∀ N j oj, (done.setIfInBounds i true).getD j true = false → j < n → (ops' N)[j]? = some oj → oj.dst ≠ some d := by
        intro d hd N j oj hj hjn hoj
        have hij : i ≠ j := fun e => by
          subst e
          by_cases hlt : i < done.size
          · simp [Array.getD, hlt] at hj
          · simp [Array.getD, hlt] at hun
        by_cases hjm : j = m
        · subst hjm
          rw [hN] at hoj
          obtain rfl := Option.some.inj hoj
          rw [hdN]
          intro e
          exact hnd i j o oa hin hjn hij ho ha d hd (by rw [hda]; exact e)
        · rw [hsame N j hjm] at hoj
          exact hnd i j o oj hin hjn hij ho hoj d hd
      have hdt : ∀ d, o.dst = some d → d ≠ t := fun d hd e => by
        subst e
        exact hnd i m o oa hin hmn him ho ha d hd hda
      have all : ∀ N b, Below w.heap.size w b → headAny P md (ops' N) (grown b) n (L N) f (done.setIfInBounds i true) (a.put o.dst v) := by
        intro N b hb
        obtain ⟨v', _, hk'⟩ := yieldsIn_of_qOp (ho' N) ((h N b hb).2 i (hi' N)).2
        have e : a.put o.dst v = a.put o.dst v' := put_same (A := A 0) (A' := A N) (fun d hd => (hA N d (hdt d hd)).symm)
          (fun d hd => headAny_pin (hLA 0) f _ _ hk (left d hd 0)) (fun d hd => headAny_pin (hLA N) f _ _ hk' (left d hd N))
        rw [e]
        exact hk'
      have hyv' : YieldsIn P ops (grown w) o v a := by
        unfold YieldsIn at *
        rw [← hy 0]
        exact hyv
      exact wpOp_of_qOp (C := grown w) ⟨z1, hz1⟩ (fun a' w' hw' hk2 => ih _ a' w' hw' (by rw [getD_set_ne true him]; exact hm) hk2)
        (hyv'.qOp ho (K := fun a' => ∀ N b, Below w.heap.size w b → headAny P md (ops' N) (grown b) n (L N) f (done.setIfInBounds i true) a') all)

/-- Each slot of the first n operations is written once. -/
def dstsB (ops : Array Oper) (n : Nat) : Bool := (List.range n).all fun i => (List.range n).all fun j => i == j || ((ops[i]?).bind (·.dst)).isNone || !(((ops[i]?).bind (·.dst)) == ((ops[j]?).bind (·.dst)))
theorem dstsB_spec {ops : Array Oper} {n : Nat} (h : dstsB ops n = true) : ∀ i j oi oj, i < n → j < n → i ≠ j → ops[i]? = some oi → ops[j]? = some oj → ∀ d, oi.dst = some d → oj.dst ≠ some d := by
  intro i j oi oj hi hj hij hoi hoj d hd e
  have := List.all_eq_true.1 (List.all_eq_true.1 h i (List.mem_range.2 hi)) j (List.mem_range.2 hj)
  simp [hoi, hoj, hd, e, hij] at this

/-- THE RULE: the m-th of the first n operations makes a variable; the others of these are quiet; what follows comes in its one order. -/
theorem any_grow_alloc {Q : Exit → Act → World → Prop} {a : Act} {w : World} {l : List Oper} (n m t : Nat) (obj : Obj) (oa : Oper) (oN : Nat → Oper) (l' : Nat → List Oper) (A : Nat → Act)
    (hB : ∀ N, Region.lexTailB .any (l' N).toArray n = true) (hlen : ∀ N, (l' N).length = l.length) (hmn : m < n)
    (hsame : ∀ N i, i ≠ m → (l' N)[i]? = l[i]?) (hafter : ∀ N, (oN N).after = oa.after) (hdst : ∀ N, (oN N).dst = oa.dst)
    (ha : l[m]? = some oa) (hN : ∀ N, (l' N)[m]? = some (oN N)) (hga : oa.guard = none) (hgN : ∀ N, (oN N).guard = none) (hfa : oa.after = #[]) (hda : oa.dst = some t)
    (hrun : ∀ a w, (execOp (Act.eval a) oa).run P w = .ok (.value (.pointer (some ⟨w.heap.size, 0, none⟩))) (w.alloc obj)) (hrunN : ∀ N a w, (execOp (Act.eval a) (oN N)).run P w = .ok (.value (.pointer (some ⟨N, 0, none⟩))) w)
    (hnd : dstsB l.toArray n = true) (hA : ∀ N, A N = (A 0).put (some t) (.pointer (some ⟨N, 0, none⟩)))
    (h : ∀ b N, Below w.heap.size w b → wpQuiet P (l' N).toArray (fun w' => ∃ z, w' = grow b z) (fun a' => a' = A N) ((l' N).take n) a)
    (htail : ∀ W' N, Below w.heap.size w W' → w.heap.size ≤ N → W'.heap[N]? = some obj → wpList P l.toArray Q (l.drop n) (A N) W') : wpAny P .any l.toArray Q l.toArray.size (Array.replicate l.toArray.size false) a { w with drawn := w.drawn + 1 } := by
  have hdrop : ∀ N, (l' N).drop n = l.drop n := fun N => by
    apply List.ext_getElem?
    intro i
    rw [List.getElem?_drop, List.getElem?_drop, hsame N _ (by omega)]
  have hr : ∀ N done, Region.ready .any (l' N).toArray done = Region.ready .any l.toArray done := fun N done => by
    unfold Region.ready
    simp only [List.size_toArray, hlen N, List.getElem?_toArray]
    congr 1
    funext i
    by_cases e : i = m
    · subst e; rw [hN, ha]; simp [hafter]
    · rw [hsame N i e]
  have hy : ∀ N x, yielded (l' N).toArray x = yielded l.toArray x := fun N x => by
    funext j
    unfold yielded
    simp only [List.getElem?_toArray]
    by_cases e : j = m
    · subst e; rw [hN, ha]; simp [hdst]
    · rw [hsame N j e]
  have hwa : ∀ y, Region.wanted oa y = true := fun y => by simp [Region.wanted, hga]
  have hwN : ∀ N y, Region.wanted (oN N) y = true := fun N y => by simp [Region.wanted, hgN]
  have hBB : ∀ N, Region.noSelect (l' N).toArray = true ∧ n < l.length ∧ Region.sinkB .any (l' N).toArray n = true ∧ Region.chainB .any (l' N).toArray n = true ∧ Region.lexHead .any (l' N).toArray (l.length - n) n 0 (Array.replicate l.length false) = true := fun N => by
    have := hB N
    simp only [Region.lexTailB, Bool.and_eq_true, decide_eq_true_eq, List.size_toArray, hlen N] at this
    exact ⟨this.1.1.1.1, this.1.1.1.2, this.1.1.2, this.1.2, this.2⟩
  have hn := (hBB 0).2.1
  have head : ∀ N b, Below w.heap.size w b → headAny P .any (l' N).toArray (grown b) n (fun d a' => Region.seqB .any (l' N).toArray (l.length - n) n d = true ∧ a' = A N) n (Array.replicate l.length false) a := by
    intro N b hb
    obtain ⟨b1, _, b3, b4, b5⟩ := hBB N
    have htl : ((l' N).take n).length = n := by simp [hlen N]; omega
    have inv0 : HeadInv .any (l' N).toArray n (Array.replicate l.length false) :=
      { size := by simp [hlen N]
        closed := fun j oj _ hl => by rw [getD_replicate_false] at hl; cases hl
        tail := fun t _ ht => getD_in (by simpa [hlen N] using ht) (getD_replicate_false _ _) }
    have := headAny_lex (md := .any) (C := grown b) (g := l.length - n) (G := fun a' => a' = A N) b1 b3 b4 (by simpa [hlen N] using hn) ((l' N).take n) 0 (Array.replicate l.length false) a
      (fun j hj => by rw [htl] at hj; simp [hj]) (by simpa using htl) inv0 (by rw [htl]; exact b5) (h b N hb)
    rwa [htl] at this
  have S := alloc_first (P := P) (md := .any) (ops := l.toArray) (ops' := fun N => (l' N).toArray) (n := n) (g := l.length - n) (m := m) (t := t) (obj := obj) (oa := oa) (oN := oN) (A := A)
    (L := fun N d a' => Region.seqB .any (l' N).toArray (l.length - n) n d = true ∧ a' = A N) (Q := Q) (w := w)
    (fun N i hi => by simpa using hsame N i hi) hy hr hmn (by simpa using ha) hwa hda hrun (fun N => by simpa using hN N) hwN (fun N => (hdst N).trans hda) hrunN (dstsB_spec hnd)
    (fun N d hd => by rw [hA N]; exact tmps_put_ne _ _ _ _ (fun e => hd (Option.some.inj e).symm)) (fun N done a' hL => hL.2)
    (fun N done a' hL => by
      cases hd : done.getD m true
      · exfalso
        have hm : m ∈ Region.ready .any (l' N).toArray done := mem_ready.2 ⟨hd, oN N, by simpa using hN N, fun e he => by rw [hafter, hfa] at he; simp at he⟩
        have := seqB_ready hL.1 m hm
        omega
      · rfl)
    (fun N b hb hblk hwN done a' w' hw' hL => by
      obtain ⟨z, rfl⟩ := hw'
      obtain ⟨hs, rfl⟩ := hL
      have hblk' : (grow b z).heap[N]? = some obj := ((grow_below b z).block N (Array.getElem?_eq_some_iff.1 hblk).1).trans hblk
      have hs' : ∀ (k g : Nat) (d : Array Bool), Region.seqB .any (l' N).toArray g k d = Region.seqB .any l.toArray g k d := by
        intro k g
        induction g generalizing k with
        | zero => intro d; simp only [Region.seqB, hr]
        | succ g ih => intro d; simp only [Region.seqB, hr, ih]
      have := wpAny_of_seq (md := .any) (ops := l.toArray) (Q' := Q) (l.drop n) n done (A N) (grow b z) (fun j => by simp [List.getElem?_drop]) (by rw [List.length_drop, ← hs']; exact hs)
        (htail (grow b z) N (up hb (grow_below b z)) hwN hblk')
      rwa [List.length_drop] at this)
    n (Array.replicate l.length false) a { w with drawn := w.drawn + 1 } ⟨⟨#[], w.drawn + 1⟩, by simp [grow]⟩ (getD_in (by simp; omega) (getD_replicate_false _ _)) head
  rw [show n + (l.length - n) = l.length by omega] at S
  simpa using S
theorem wp_region_grow_alloc {id : Nat} {Q : Exit → Act → World → Prop} {a : Act} {w : World} {l : List Oper} (n m t : Nat) (obj : Obj) (oa : Oper) (oN : Nat → Oper) (l' : Nat → List Oper) (A : Nat → Act)
    (hmo : P.follows .mixedOrders = true) (hB : ∀ N, Region.lexTailB .any (l' N).toArray n = true) (hlen : ∀ N, (l' N).length = l.length) (hmn : m < n)
    (hsame : ∀ N i, i ≠ m → (l' N)[i]? = l[i]?) (hafter : ∀ N, (oN N).after = oa.after) (hdst : ∀ N, (oN N).dst = oa.dst)
    (ha : l[m]? = some oa) (hN : ∀ N, (l' N)[m]? = some (oN N)) (hga : oa.guard = none) (hgN : ∀ N, (oN N).guard = none) (hfa : oa.after = #[]) (hda : oa.dst = some t)
    (hrun : ∀ a w, (execOp (Act.eval a) oa).run P w = .ok (.value (.pointer (some ⟨w.heap.size, 0, none⟩))) (w.alloc obj)) (hrunN : ∀ N a w, (execOp (Act.eval a) (oN N)).run P w = .ok (.value (.pointer (some ⟨N, 0, none⟩))) w)
    (hnd : dstsB l.toArray n = true) (hA : ∀ N, A N = (A 0).put (some t) (.pointer (some ⟨N, 0, none⟩)))
    (h : ∀ b N, Below w.heap.size w b → wpQuiet P (l' N).toArray (fun w' => ∃ z, w' = grow b z) (fun a' => a' = A N) ((l' N).take n) a)
    (htail : ∀ W' N, Below w.heap.size w W' → w.heap.size ≤ N → W'.heap[N]? = some obj → wpList P l.toArray Q (l.drop n) (A N) W') : (Code.region id l.toArray true).wp P Q a w :=
  wp_region_any hmo (any_grow_alloc n m t obj oa oN l' A hB hlen hmn hsame hafter hdst ha hN hga hgN hfa hda hrun hrunN hnd hA h htail)

/-- The operation that makes a variable, its pointer put in its place. -/
def ptrOp (t T : Nat) (p : String) (N : Nat) : Oper := { dst := some t, op := .assign (.const (.pointer (some ⟨N, 0, none⟩))), type := T, pos := p, after := #[], guard := none }
theorem wp_region_alloc {id : Nat} {Q : Exit → Act → World → Prop} {a : Act} {w : World} {l : List Oper} (n m t : Nat) (obj : Obj) {ty : TypeId} {T : Nat} {p : String}
    (hmo : P.follows .mixedOrders = true) (ha : l[m]? = some { dst := some t, op := .alloc ty, type := T, pos := p, after := #[], guard := none }) (hB : ∀ N, Region.lexTailB .any (l.set m (ptrOp t T p N)).toArray n = true) (hmn : m < n)
    (hrun : ∀ a w, (execOp (Act.eval a) { dst := some t, op := .alloc ty, type := T, pos := p, after := #[], guard := none }).run P w = .ok (.value (.pointer (some ⟨w.heap.size, 0, none⟩))) (w.alloc obj))
    (hnd : dstsB l.toArray n = true)
    (h : ∃ A : Nat → Act, (∀ b N, Below w.heap.size w b → wpQuiet P (l.set m (ptrOp t T p N)).toArray (fun w' => ∃ z, w' = grow b z) (fun a' => a' = A N) ((l.set m (ptrOp t T p N)).take n) a) ∧
      (∀ N, A N = (A 0).put (some t) (.pointer (some ⟨N, 0, none⟩))) ∧
      (∀ W' N, Below w.heap.size w W' → w.heap.size ≤ N → W'.heap[N]? = some obj → wpList P l.toArray Q (l.drop n) (A N) W')) : (Code.region id l.toArray true).wp P Q a w := by
  obtain ⟨A, h1, h2, h3⟩ := h
  have hm : m < l.length := (List.getElem?_eq_some_iff.1 ha).1
  exact wp_region_grow_alloc n m t obj _ (ptrOp t T p) (fun N => l.set m (ptrOp t T p N)) A hmo hB (fun N => by simp) hmn (fun N i hi => by rw [List.getElem?_set_ne (Ne.symm hi)]) (fun _ => rfl) (fun _ => rfl) ha
    (fun N => by rw [List.getElem?_set_self hm]) rfl (fun _ => rfl) rfl rfl hrun (fun N a w => by simp [ptrOp, execOp, Act.eval]) hnd h2 h1 h3

/-- Six cells that were made, written. -/
theorem made6 {w : World} {N : Nat} {c0 c1 c2 c3 c4 c5 : Value} {ty : TypeId} (h : w.heap[N]? = some (.cells #[c0, c1, c2, c3, c4, c5] ty (0, 0))) :
    N < w.heap.size ∧ (∀ j, w.cell? ⟨N, j, none⟩ = [c0, c1, c2, c3, c4, c5][j]?) ∧ (∀ j, w.frozen? ⟨N, j, none⟩ = false) := by
  refine ⟨(Array.getElem?_eq_some_iff.1 h).1, fun j => ?_, fun j => ?_⟩
  · unfold World.cell?; rw [h]; simp
  · unfold World.frozen?; rw [h]; simp
end alloc
end Go.Proofs.YtaieidigpilbfaaGreat

namespace Go.Proofs.YtaieidigpilbfaaGreat
open Go Go.RowKit
set_option maxHeartbeats 1000000
set_option maxRecDepth 100000

theorem list10 {l : List Int} (h : l.length = 10) : ∃ q0 q1 q2 q3 q4 q5 q6 q7 q8 q9, l = [q0, q1, q2, q3, q4, q5, q6, q7, q8, q9] := by
  match l, h with
  | [q0, q1, q2, q3, q4, q5, q6, q7, q8, q9], _ => exact ⟨_, _, _, _, _, _, _, _, _, _, rfl⟩
theorem sz83 : (Tryz.prog.info? 83).map (·.size) = some 12 := by kernel_rfl
/-- A load's cells. -/
def ldL (A : Option Addr) (n c : Nat) (v : Value) (ap : List Int) : List Value := .slice A n c :: v :: ints ap
theorem ldL_len {A : Option Addr} {n c : Nat} {v : Value} {ap : List Int} (h : ap.length = 10) : (ldL A n c v ap).length = 12 := by simp [ldL, ints, h]
theorem ldL_one {A : Option Addr} {n c : Nat} {B : Option Addr} {m d : Nat} {ap : List Int} : (⟨ldL A n c (.slice B m d) ap⟩ : Array Value).all (·.oneCell') = true := by
  have := ints_one ap
  simp only [List.all_toArray, ldL, List.all_cons] at this ⊢
  rw [this]; rfl
@[go_sem, simp] theorem ldL_0 {A : Option Addr} {n c : Nat} {v : Value} {ap : List Int} : (ldL A n c v ap)[0]? = some (.slice A n c) := rfl
@[go_sem, simp] theorem ldL_1 {A : Option Addr} {n c : Nat} {v : Value} {ap : List Int} : (ldL A n c v ap)[1]? = some v := rfl
theorem ldL_2 {A : Option Addr} {n c : Nat} {v : Value} {ap : List Int} (j : Nat) : (ldL A n c v ap)[2 + j]? = (ints ap)[j]? := by rw [Nat.add_comm]; rfl
def ld0 : List Value := ldL none 0 0 (.slice none 0 0) ap0

theorem apartnessOf_lit {q0 q1 q2 q3 q4 q5 q6 q7 q8 q9 : Int} (A : Option Addr) (n c : Nat) (B : Option Addr) (m d : Nat) (K : List Kd) (w : World) (hg : Ks w B m K) (hK : ksOk K = true) (hq : apL K = [q0, q1, q2, q3, q4, q5, q6, q7, q8, q9]) :
    Calls Tryz.prog 67 #[.agg #[.slice A n c, .slice B m d]] w fun e w' => e = .returned (.agg #[.int .i64 q0, .int .i64 q1, .int .i64 q2, .int .i64 q3, .int .i64 q4, .int .i64 q5, .int .i64 q6, .int .i64 q7, .int .i64 q8, .int .i64 q9]) ∧ Below w.heap.size w w' := by
  have := apartnessOf_any A n c B m d K w hg hK
  rw [hq] at this
  exact this

theorem newLoad_any (A : Option Addr) (n c : Nat) (B : Option Addr) (m d : Nat) (K : List Kd) (L : Option Addr) (r s : Nat) (l : List Int) (w : World) (hg : Ks w B m K) (hl : Is w L r l) (hK : ksOk K = true) (h40 : l.length ≤ 1000) :
    Calls Tryz.prog 124 #[.agg #[.slice A n c, .slice B m d], .slice L r s] w fun e w' => ∃ B' c', e = .returned (.agg ⟨ldL A n c (.slice B' l.length c') (apL K)⟩) ∧ l.length ≤ c' ∧ Ks w' B' l.length (bsL K l) ∧ (∀ q, B' = some q → w.heap.size ≤ q.block) ∧ Below w.heap.size w w' := by
  have Hr : Hid (r = l.length) := Lib.hid hl.len
  have hmx := hl.small
  have HK := Lib.hid hK
  clear hK
  obtain ⟨q0, q1, q2, q3, q4, q5, q6, q7, q8, q9, hq⟩ := list10 (apL_len K)
  have Hq := Lib.hid hq
  clear hq
  go_enter Tryz.func124, Tryz.ntmps124
  go_upto_region 1 with fail
  generalize hW : (World.alloc _ _) = W
  have HB : Hid (Below w.heap.size w W) := Lib.hid (by subst hW; go_grown)
  have KY : Bx W (w.heap.size) 25 [.slice A n c, .slice B m d] := by subst hW; repeat (first | (refine Bx.newAt _ _ _ ?_; first | rfl | (simp only [World.size_alloc]; done) | (simp only [World.size_alloc]; omega)) | refine Bx.old ?_ _)
  have KZ : Bx W (w.heap.size + 1) 83 [.slice none 0 0, .slice none 0 0, .int .i64 0, .int .i64 0, .int .i64 0, .int .i64 0, .int .i64 0, .int .i64 0, .int .i64 0, .int .i64 0, .int .i64 0, .int .i64 0] := by subst hW; repeat (first | (refine Bx.newAt _ _ _ ?_; first | rfl | (simp only [World.size_alloc]; done) | (simp only [World.size_alloc]; omega)) | refine Bx.old ?_ _)
  clear hW
  have KYl := KY.lt; have KYc := KY.get; have KYf := KY.fr; have KZl := KZ.lt; have KZc := KZ.get; have KZf := KZ.fr
  have Hg := Lib.hid hg
  have Hl := Lib.hid hl
  have HG := Lib.hid (hg.keep HB.out)
  clear hg hl
  refine wp_region_alloc 6 5 5 (.cells #[.slice none 0 0, .slice none 0 0, .int .i64 0, .int .i64 0, .int .i64 0, .int .i64 0, .int .i64 0, .int .i64 0, .int .i64 0, .int .i64 0, .int .i64 0, .int .i64 0] 83) (by kernel_rfl) rfl (fun N => by kernel_rfl) (by decide) (fun a w => by simp [execOp, Act.eval, go_sem]) (by kernel_rfl) ?_
  apply Exists.intro
  refine ⟨fun b N hbN => ?_, fun N => ?_, fun W9 N hW9 hN9 hblk => ?_⟩
  · have KYb := KY.keep hbN
    have KYbl := KYb.lt; have KYbc := KYb.get; have KYbf := KYb.fr
    have HGb := Lib.hid (HG.out.keep hbN)
    simp only [List.set_cons_succ, List.set_cons_zero, ptrOp, List.take_succ_cons, List.take_zero]
    repeat (go_big_quiet_step ((go_at_call 67; exact quiet_grow rfl (apartnessOf_lit _ _ _ _ _ _ K _ (HGb.out.keep (grow_below _ _)) HK.out Hq.out))))
    refine wpQuiet_nil ?_
    rfl
  · rfl
  simp only [List.drop_succ_cons, List.drop_zero]
  have KL : Bx W9 N 83 [.slice none 0 0, .slice none 0 0, .int .i64 0, .int .i64 0, .int .i64 0, .int .i64 0, .int .i64 0, .int .i64 0, .int .i64 0, .int .i64 0, .int .i64 0, .int .i64 0] := ⟨hblk⟩
  clear hblk
  clear HG
  have hWs := KZl
  clear KYl KYc KYf; replace KY := KY.keep hW9; have KYl := KY.lt; have KYc := KY.get; have KYf := KY.fr; clear KZl KZc KZf; replace KZ := KZ.keep hW9; have KZl := KZ.lt; have KZc := KZ.get; have KZf := KZ.fr; replace HB := Lib.hid (up HB.out hW9); clear hW9
  have KLl := KL.lt; have KLc := KL.get; have KLf := KL.fr
  go_wp2_with (refine wpList_put 83 5 14 rfl rfl KL rfl rfl (by kernel_rfl) rfl (by simp [Value.oneCell']) ?_; intro V KLn hp; clear KLl KLc KLf; clear KYl KYc KYf; replace KY := KY.put hp (by omega); have KYl := KY.lt; have KYc := KY.get; have KYf := KY.fr; clear KZl KZc KZf; replace KZ := KZ.put hp (by omega); have KZl := KZ.lt; have KZc := KZ.get; have KZf := KZ.fr; replace HB := Lib.hid (upP HB.out hp (by omega)); clear hp KL; have KL := KLn; clear KLn; have KLl := KL.lt; have KLc := KL.get; have KLf := KL.fr)
  have KL2 : Bx V N 83 (ldL A n c (.slice none 0 0) (apL K)) := by rw [Hq.out]; exact KL
  clear KL KLl KLc KLf
  have hNV : w.heap.size + 1 < N := by omega
  have HO : OK V (N + 1) (.slice none 0 0) (bsL K (l.take 0)) := OK.nil _ _
  have hNV2 := KL2.lt
  clear KYl KYc KYf KZl KZc KZf
  go_loopw [17] (fun i wr => ∃ (k : Nat) (v : Value), k ≤ r ∧ i = .int .i64 k ∧ Below w.heap.size w wr ∧ N < wr.heap.size ∧ Bx wr w.heap.size 25 [.slice A n c, .slice B m d] ∧ Bx wr (w.heap.size + 1) 83 ld0 ∧ Bx wr N 83 (ldL A n c v (apL K)) ∧ OK wr (N + 1) v (bsL K (l.take k))) (fun i _ => r - (intOf i).toNat)
  case atStart => exact ⟨0, _, by omega, rfl, HB.out, KL2.lt, KY, KZ, KL2, HO⟩
  case round =>
    obtain ⟨k, v, hk, rfl, hb, hNs, KY, KZ, KL, HO⟩ := hrel
    have HGr := Lib.hid (Hg.out.keep hb)
    have HLr := Lib.hid (Hl.out.keep hb)
    replace HB := Lib.hid hb
    have HOr := Lib.hid HO
    clear hb HO KL2 hNV2
    have KYl := KY.lt; have KYc := KY.get; have KYf := KY.fr; have KLl := KL.lt; have KLc := KL.get; have KLf := KL.fr; have KZl := KZ.lt; have KZc := KZ.get; have KZf := KZ.fr
    by_cases hlt : k < r
    · have hkl : k < l.length := by rw [← Hr.out]; exact hlt
      have Htk : Hid (bsL K (l.take (k + 1)) = bsL K (l.take k) ++ [kdD K l[k]]) := Lib.hid (by unfold bsL; rw [List.take_succ_eq_append_getElem hkl, List.map_append, List.map_singleton])
      have l3 : (bsL K (l.take k)).length ≤ 1000000 := by unfold bsL; rw [List.length_map, List.length_take]; omega
      obtain ⟨b, o, rfl, hb, hc⟩ := HLr.out.get k hkl
      generalize l[k] = y at *
      generalize bsL K (l.take k) = X at *
      go_upto_region 6 with (go_at_call 84; refine (kindOf_any _ _ _ _ _ _ K _ _ HGr.out).mono ?_; rintro e U ⟨rfl, hbx⟩; have HOU := Lib.hid (HOr.out.keep hbx); have hUs := hbx.size; clear KYl KYc KYf; replace KY := KY.keep hbx; have KYl := KY.lt; have KYc := KY.get; have KYf := KY.fr; clear KLl KLc KLf; replace KL := KL.keep hbx; have KLl := KL.lt; have KLc := KL.get; have KLf := KL.fr; clear KZl KZc KZf; replace KZ := KZ.keep hbx; have KZl := KZ.lt; have KZc := KZ.get; have KZf := KZ.fr; replace HB := Lib.hid (up HB.out hbx); clear hbx)
      generalize kdD K y = q at *
      generalize hT : World.alloc U _ = T
      have KQ : Bx T U.heap.size 72 [.int .i64 q.s, .int .i64 q.r, .int .i64 q.e, .int .i64 q.a] := by subst hT; exact Bx.new _ _ _
      have hbT : Below U.heap.size U T := by subst hT; exact up_alloc _ _
      have hTs : T.heap.size = U.heap.size + 1 := by subst hT; simp
      clear hT
      have HOT := Lib.hid (HOU.out.keep hbT)
      clear KYl KYc KYf; replace KY := KY.keep hbT; have KYl := KY.lt; have KYc := KY.get; have KYf := KY.fr; clear KLl KLc KLf; replace KL := KL.keep hbT; have KLl := KL.lt; have KLc := KL.get; have KLf := KL.fr; clear KZl KZc KZf; replace KZ := KZ.keep hbT; have KZl := KZ.lt; have KZc := KZ.get; have KZf := KZ.fr; replace HB := Lib.hid (up HB.out hbT); clear hbT
      clear KZl KZc KZf
      have KQl := KQ.lt; have KQc := KQ.get; have KQf := KQ.fr
      have hNT : N < T.heap.size := by omega
      go_wp2_with (refine wpList_appK ((HOT.out).keep (up_alloc T _)) (.tmp 28) (.tmp 30) rfl rfl rfl (y := q) rfl ?c1 ?c2 ?c3 ?_)
      case c1 => exact (Bx.newAt T _ 72 (by omega)).get
      case c2 => exact l3
      case c3 => rw [World.size_alloc]; omega
      intro Av cv U2 hO2 hb2
      have HO2 := Lib.hid hO2
      have hb3 : Below (N + 1) T U2 := ((up_alloc T _).mono (by omega)).trans hb2
      have hs3 := hb3.size
      clear hb2 hO2
      clear KYl KYc KYf KLl KLc KLf
      replace KY := KY.keepB hb3 (by omega); replace KL := KL.keepB hb3 (by omega); replace KZ := KZ.keepB hb3 (by omega)
      replace HB := Lib.hid (HB.out.trans (hb3.mono (by omega)))
      clear hb3
      have KYl := KY.lt; have KYc := KY.get; have KYf := KY.fr; have KLl := KL.lt; have KLc := KL.get; have KLf := KL.fr
      go_wp2
      have p := Put.cell U2 N 1 (.slice Av (X.length + 1) cv)
      refine ⟨⟨k + 1, _, by omega, by go_num, upP HB.out p (by omega), by rw [p.size]; omega, KY.put p (by omega), KZ.put p (by omega), KL.cell 1 _, ?_⟩, by simp [intOf]; omega⟩
      rw [Htk.out]; exact HO2.out.put p (by omega)
    · obtain rfl : k = r := by omega
      have Hf : Hid (bsL K (l.take k) = bsL K l) := Lib.hid (by rw [Hr.out, List.take_length])
      rw [Hf.out] at HOr
      have hbl : (bsL K l).length = l.length := by unfold bsL; rw [List.length_map]
      obtain ⟨B', c', rfl, hlc, hks, hfar⟩ := HOr.out.ks (by omega)
      rw [hbl] at hlc hks
      have Hks := Lib.hid hks
      clear hks
      go_wp2_with (first
        | (refine wpList_get 83 5 rfl rfl KL rfl Tryz.underlying83 rfl (by rw [ldL_len (apL_len K)]; exact sz83) ?_)
        | (refine wpList_put 83 4 34 rfl rfl KZ rfl rfl (by show _ = some (ldL _ _ _ _ _).length; rw [ldL_len (apL_len K)]; exact sz83) (by show _ = (ldL _ _ _ _ _).length; rw [ldL_len (apL_len K)]; rfl) ldL_one ?_; intro U KZn hp))
      refine post_1 rfl rfl rfl KZn Tryz.underlying83 rfl (by show _ = some (ldL _ _ _ _ _).length; rw [ldL_len (apL_len K)]; exact sz83) ⟨B', c', ?_, hlc, ?_, fun q hq => by (have := hfar q hq; omega), upP HB.out hp (by omega)⟩
      · rw [← hbl]
      · exact Hks.out.put hp fun p hp => by have := hfar p hp; omega
end Go.Proofs.YtaieidigpilbfaaGreat

namespace Go.Proofs.YtaieidigpilbfaaGreat
open Go Go.RowKit
section late
variable {P : Program} {md : Region.Mode}

/-- What an 'extract' yields, it yields in any world. -/
theorem extract_yields {ops ops' : Array Oper} {Q : Exit → Act → World → Prop} {e : Nat} {oe : Oper} {t : Operand} {ix : Nat} (hQ : ¬ LetsOut Q) (he : ops'[e]? = some oe) (hop : oe.op = .extract t ix) (hg : oe.guard = none) {K : Act → World → Prop} {a : Act} {w : World}
    (h : wpOp P ops' Q e K a w) : ∃ v, Yields P ops oe v a ∧ K (a.put oe.dst v) w := by
  have hw : ∀ y, Region.wanted oe y = true := fun y => by simp [Region.wanted, hg]
  unfold wpOp at h
  simp only [he, hw, if_true] at h
  rcases h with h | ⟨_, h⟩
  · obtain ⟨d, op, ty, ps, af, gd⟩ := oe
    dsimp only at hop
    subst hop
    have hx : ∃ v, ∀ w, (execOp a.eval { dst := d, op := Op.extract t ix, type := ty, pos := ps, after := af, guard := gd }).run P w = .ok (.value v) w := by
      unfold Oper.wp at h
      simp only [execOp, Instr.extract] at h ⊢
      generalize a.eval t = x at h ⊢
      cases x
      case tuple vs =>
        dsimp only at h ⊢
        cases hv : vs[ix]?
        · rw [hv] at h; exact absurd h (by intro h; exact h)
        · exact ⟨_, fun w => rfl⟩
      all_goals exact absurd h (by intro h; exact h)
    obtain ⟨v, hv⟩ := hx
    refine ⟨v, .inl ⟨hw _, hv⟩, ?_⟩
    unfold Oper.wp at h
    rw [hv] at h
    exact h
  · exact absurd h hQ

/-- The e-th operation is apart from each that it does not follow and that does not follow it. -/
def freeOf (md : Region.Mode) (ops : Array Oper) (oe : Oper) (e : Nat) : Bool :=
  (List.range ops.size).all fun j => j == e || oe.after.any (fun x => Region.binds md x && x.on == j) || match ops[j]? with
      | some oj => oj.after.any (fun x => Region.binds md x && x.on == e) || oe.apart ops oj
      | none => true
theorem freeOf_spec {ops : Array Oper} {oe : Oper} {e : Nat} (h : freeOf md ops oe e = true) (j : Nat) (oj : Oper) (hj : ops[j]? = some oj) (hne : j ≠ e) (hun : ∀ x ∈ oe.after, Region.binds md x = true → x.on ≠ j) (hno : ∀ x ∈ oj.after, Region.binds md x = true → x.on ≠ e) : oe.apart ops oj = true := by
  simp only [freeOf, List.all_eq_true, List.mem_range] at h
  have h1 := h j (Array.getElem?_eq_some_iff.1 hj).1
  simp only [hj, Bool.or_eq_true, beq_iff_eq, hne, false_or] at h1
  rcases h1 with h1 | h1 | h1
  · obtain ⟨x, hx, hb⟩ := Array.any_eq_true'.1 h1
    simp only [Bool.and_eq_true, beq_iff_eq] at hb
    exact absurd hb.2 (hun x hx hb.1)
  · obtain ⟨x, hx, hb⟩ := Array.any_eq_true'.1 h1
    simp only [Bool.and_eq_true, beq_iff_eq] at hb
    exact absurd hb.2 (hno x hx hb.1)
  · exact h1
/-- The s-th operation, after the e-th too. -/
def late (os : Oper) (e : Nat) : Oper := { os with after := os.after.push ⟨e, .data⟩ }
/-- An 'extract' that may come after the s-th operation: it is enough to have it before. -/
theorem wpAny_late {ops : Array Oper} {Q : Exit → Act → World → Prop} {e s : Nat} {oe os : Oper} {t : Operand} {ix : Nat} (hQ : ¬ LetsOut Q) (hQp : ∀ c a w, ¬ Q (.panic c) a w) (he : ops[e]? = some oe) (hs : ops[s]? = some os) (hes : e ≠ s) (hop : oe.op = .extract t ix) (hg : oe.guard = none)
    (hsel : Region.noSelect ops = true) (hfree : freeOf md ops oe e = true) (hdeps : ∀ x ∈ oe.after, Region.binds md x = true → ∃ y ∈ os.after, Region.binds md y = true ∧ y.on = x.on) :
    ∀ f done a w, done.size = ops.size → wpAny P md (ops.setIfInBounds s (late os e)) Q f done a w → wpAny P md ops Q f done a w := by
  have hne : ∀ i, i ≠ s → (ops.setIfInBounds s (late os e))[i]? = ops[i]? := fun i hi => Array.getElem?_setIfInBounds_ne (Ne.symm hi)
  have hslt : s < ops.size := (Array.getElem?_eq_some_iff.1 hs).1
  have helt : e < ops.size := (Array.getElem?_eq_some_iff.1 he).1
  have hss : (ops.setIfInBounds s (late os e))[s]? = some (late os e) := by simp [hslt]
  have hbd : Region.binds md ⟨e, .data⟩ = true := rfl
  have hy : ∀ x, yielded (ops.setIfInBounds s (late os e)) x = yielded ops x := fun x => by
    funext j
    unfold yielded
    by_cases h : j = s
    · subst h; rw [hss, hs]; rfl
    · rw [hne j h]
  have sub : ∀ done i, i ∈ Region.ready md (ops.setIfInBounds s (late os e)) done → i ∈ Region.ready md ops done := fun done i hi => by
    rw [mem_ready] at *
    obtain ⟨h0, o, ho, hall⟩ := hi
    by_cases h : i = s
    · subst h
      rw [hss] at ho
      obtain rfl := Option.some.inj ho
      exact ⟨h0, os, hs, fun x hx hb => hall x (Array.mem_push.2 (.inl hx)) hb⟩
    · rw [hne i h] at ho
      exact ⟨h0, o, ho, hall⟩
  have gap : ∀ done i, done.size = ops.size → i ∈ Region.ready md ops done → i ∈ Region.ready md (ops.setIfInBounds s (late os e)) done ∨ e ∈ Region.ready md (ops.setIfInBounds s (late os e)) done := fun done i hsz hi => by
    by_cases h : i = s
    · subst h
      obtain ⟨h0, o, ho, hall⟩ := mem_ready.1 hi
      rw [hs] at ho
      obtain rfl := Option.some.inj ho
      cases hd : done.getD e false
      · refine .inr (mem_ready.2 ⟨?_, oe, by rw [hne e hes]; exact he, fun x hx hb => ?_⟩)
        · simpa [Array.getD, hsz, helt] using hd
        · obtain ⟨y, hy1, hy2, hy3⟩ := hdeps x hx hb
          rw [← hy3]; exact hall y hy1 hy2
      · refine .inl (mem_ready.2 ⟨h0, late os e, hss, fun x hx hb => ?_⟩)
        rcases Array.mem_push.1 hx with hx | rfl
        · exact hall x hx hb
        · exact hd
    · left
      obtain ⟨h0, o, ho, hall⟩ := mem_ready.1 hi
      exact mem_ready.2 ⟨h0, o, by rw [hne i h]; exact ho, hall⟩
  have same : ∀ i K a w, wpOp P (ops.setIfInBounds s (late os e)) Q i K a w → wpOp P ops Q i K a w := fun i K a w h => by
    unfold wpOp at *
    rw [hy] at h
    by_cases hi : i = s
    · subst hi; rw [hss] at h; rw [hs]; exact h
    · rw [hne i hi] at h; exact h
  have first : ∀ f done a w, done.size = ops.size → (∀ done' a w, done'.size = ops.size → wpAny P md (ops.setIfInBounds s (late os e)) Q f done' a w → wpAny P md ops Q f done' a w) →
      e ∈ Region.ready md (ops.setIfInBounds s (late os e)) done → wpAny P md (ops.setIfInBounds s (late os e)) Q (f + 1) done a w → wpAny P md ops Q (f + 1) done a w := fun f done a w hsz ih her H => by
    obtain ⟨v, hyv, hK⟩ := extract_yields (ops := ops) hQ (by rw [hne e hes]; exact he) hop hg (H.2 e her)
    refine wpAny_first he (Region.noSelect_spec hsel) (fun c a w h => absurd h (hQp c _ w)) f done a w (fun j oj hj hje hun hno => freeOf_spec hfree j oj hj hje (fun x hx hb hxj => ?_) hno) (sub _ _ her) hyv (ih _ _ _ (by simpa using hsz) hK)
    obtain ⟨_, o, ho, hall⟩ := mem_ready.1 (sub _ _ her)
    rw [he] at ho
    obtain rfl := Option.some.inj ho
    have h1 := hall x hx hb
    have h2 : j < ops.size := (Array.getElem?_eq_some_iff.1 hj).1
    rw [hxj] at h1
    simp [Array.getD, hsz, h2] at h1 hun
    rw [h1] at hun
    cases hun
  intro f
  induction f with
  | zero =>
    intro done a w hsz H
    refine ⟨List.eq_nil_iff_forall_not_mem.2 fun i hi => ?_, H.2⟩
    rcases gap done i hsz hi with h | h <;> (rw [H.1] at h; cases h)
  | succ f ih =>
    intro done a w hsz H
    by_cases her : e ∈ Region.ready md (ops.setIfInBounds s (late os e)) done
    · exact first f done a w hsz ih her H
    · refine ⟨fun h0 => H.1 (List.eq_nil_iff_forall_not_mem.2 fun i hi => by have := sub _ _ hi; rw [h0] at this; cases this), fun i hi => ?_⟩
      rcases gap done i hsz hi with h | h
      · exact wpOp_mono (fun a' w' h' => ih _ a' w' (by simpa using hsz) h') (same _ _ _ _ (H.2 i h))
      · exact absurd h her

/-- The end that a walk of the tail comes to. -/
def Landed (Q : Exit → Act → World → Prop) (x : Exit) (a : Act) (w : World) : Prop := x = .normal ∧ Q x a w
/-- THE RULE: as 'wp_region_alloc', where an 'extract' (the e-th) may come after the store (the s-th). -/
theorem wp_region_alloc_late {id : Nat} {Q : Exit → Act → World → Prop} {a : Act} {w : World} {l : List Oper} (n m t e s : Nat) (obj : Obj) {ty : TypeId} {T : Nat} {p : String} {oe os : Oper} {x : Operand} {ix : Nat}
    (hmo : P.follows .mixedOrders = true) (ha : l[m]? = some { dst := some t, op := .alloc ty, type := T, pos := p, after := #[], guard := none }) (hmn : m < n) (hms : m ≠ s)
    (he : l[e]? = some oe) (hs : l[s]? = some os) (hes : e ≠ s) (hop : oe.op = .extract x ix) (hg : oe.guard = none)
    (hsel : Region.noSelect l.toArray = true) (hfree : freeOf .any l.toArray oe e = true)
    (hdeps : oe.after.all (fun x => !Region.binds .any x || os.after.any fun y => Region.binds .any y && y.on == x.on) = true)
    (hB : ∀ N, Region.lexTailB .any ((l.set s (late os e)).set m (ptrOp t T p N)).toArray n = true)
    (hrun : ∀ a w, (execOp (Act.eval a) { dst := some t, op := .alloc ty, type := T, pos := p, after := #[], guard := none }).run P w = .ok (.value (.pointer (some ⟨w.heap.size, 0, none⟩))) (w.alloc obj))
    (hnd : dstsB (l.set s (late os e)).toArray n = true)
    (h : ∃ A : Nat → Act, (∀ b N, Below w.heap.size w b → wpQuiet P ((l.set s (late os e)).set m (ptrOp t T p N)).toArray (fun w' => ∃ z, w' = grow b z) (fun a' => a' = A N) (((l.set s (late os e)).set m (ptrOp t T p N)).take n) a) ∧
      (∀ N, A N = (A 0).put (some t) (.pointer (some ⟨N, 0, none⟩))) ∧
      (∀ W' N, Below w.heap.size w W' → w.heap.size ≤ N → W'.heap[N]? = some obj → wpList P (l.set s (late os e)).toArray (Landed Q) ((l.set s (late os e)).drop n) (A N) W')) : (Code.region id l.toArray true).wp P Q a w := by
  obtain ⟨A, h1, h2, h3⟩ := h
  have hm : m < l.length := (List.getElem?_eq_some_iff.1 ha).1
  have ha' : (l.set s (late os e))[m]? = some { dst := some t, op := .alloc ty, type := T, pos := p, after := #[], guard := none } := by rw [List.getElem?_set_ne (Ne.symm hms)]; exact ha
  have S := any_grow_alloc (P := P) (Q := Landed Q) (a := a) (w := w) n m t obj _ (ptrOp t T p) (fun N => (l.set s (late os e)).set m (ptrOp t T p N)) A hB (fun N => by simp) hmn (fun N i hi => by rw [List.getElem?_set_ne (Ne.symm hi)]) (fun _ => rfl) (fun _ => rfl) ha'
    (fun N => by rw [List.getElem?_set_self (by simpa using hm)]) rfl (fun _ => rfl) rfl rfl hrun (fun N a w => by simp [ptrOp, execOp, Act.eval]) hnd h2 h1 h3
  have key := wpAny_late (P := P) (md := .any) (ops := l.toArray) (Q := Landed Q) (fun ⟨_, _, h, _⟩ => by cases h) (fun _ _ _ h => by cases h.1) (by simpa using he) (by simpa using hs) hes hop hg hsel hfree (fun x hx hb => by
    have := Array.all_eq_true_iff_forall_mem.1 hdeps x hx
    simp only [hb, Bool.not_true, Bool.false_or] at this
    obtain ⟨y, hy, hb2⟩ := Array.any_eq_true'.1 this
    simp only [Bool.and_eq_true, beq_iff_eq] at hb2
    exact ⟨y, hy, hb2.1, hb2.2⟩) l.toArray.size (Array.replicate l.toArray.size false) a { w with drawn := w.drawn + 1 } (by simp) (by simpa using S)
  exact Code.wp_mono (fun _ _ _ h => h.2) (wp_region_any hmo key)
end late
end Go.Proofs.YtaieidigpilbfaaGreat

namespace Go.Proofs.YtaieidigpilbfaaGreat
open Go Go.RowKit

section takes
variable {P : Program} {ops : Array Oper} {md : Region.Mode} {S : World → Prop} {Q : Exit → Act → World → Prop} {n : Nat}

/-- Whatever order is picked; S holds behind each operation of the head. -/
def wpAnyT (P : Program) (md : Region.Mode) (ops : Array Oper) (Q : Exit → Act → World → Prop) (S : World → Prop) (n : Nat) : Nat → Array Bool → Act → World → Prop
  | 0, listed, a, w => Region.ready md ops listed = [] ∧ Q .normal a w
  | fuel + 1, listed, a, w =>
    (Region.ready md ops listed = [] → Q .normal a w) ∧
    ∀ i ∈ Region.ready md ops listed, wpOp P ops Q i (fun a' w' => (i < n → S w') ∧ wpAnyT P md ops Q S n fuel (listed.setIfInBounds i true) a' w') a w

theorem wpAny_of_T : ∀ (fuel : Nat) (listed : Array Bool) (a : Act) (w : World), wpAnyT P md ops Q S n fuel listed a w → wpAny P md ops Q fuel listed a w
  | 0, _, _, _, h => h
  | fuel + 1, _, _, _, h => ⟨h.1, fun i hi => wpOp_mono (fun a' w' h' => wpAny_of_T fuel _ a' w' h'.2) (h.2 i hi)⟩

theorem wpAnyT_of (fuel : Nat) : ∀ (listed : Array Bool) (a : Act) (w : World), (∀ i, i < n → listed.getD i true = true) → wpAny P md ops Q fuel listed a w → wpAnyT P md ops Q S n fuel listed a w := by
  induction fuel with
  | zero => intro _ _ _ _ h; exact h
  | succ fuel ih =>
    intro listed a w hl h
    refine ⟨h.1, fun i hi => wpOp_mono (fun a' w' h' => ⟨fun hin => ?_, ih _ a' w' (fun j hj => ?_) h'⟩) (h.2 i hi)⟩
    · have := (mem_ready.1 hi).1
      rw [hl i hin] at this
      cases this
    · by_cases hij : i = j
      · subst hij
        by_cases hs : i < listed.size
        · simp [Array.getD, hs]
        · simp [Array.getD, hs]
      · rw [getD_set_ne true hij]; exact hl j hj

theorem wpAnyT_first {i : Nat} {oi : Oper} {v : Value} (hi : ops[i]? = some oi) (hsel : ∀ (j : Nat) (o : Oper) cs b, ops[j]? = some o → o.op ≠ .select cs b)
    (hs : Region.sinkB md ops n = true) (hc : Region.chainB md ops n = true) (hn : n < ops.size) (hin : i < n)
    (hQ : ∀ c a w, Q (.panic c) (a.put oi.dst v) w → Q (.panic c) a w) :
    ∀ (fuel : Nat) (listed : Array Bool) (a : Act) (w : World), HeadInv md ops n listed →
      (∀ j oj, ops[j]? = some oj → j ≠ i → listed.getD j true = false → (∀ e ∈ oj.after, Region.binds md e = true → e.on ≠ i) → oi.apart ops oj = true) →
      i ∈ Region.ready md ops listed → YieldsIf P ops S oi v a → S w →
      wpAnyT P md ops Q S n fuel (listed.setIfInBounds i true) (a.put oi.dst v) w → wpAnyT P md ops Q S n (fuel + 1) listed a w := by
  intro fuel
  induction fuel with
  | zero =>
    intro listed a w _ _ hr hy hS H
    refine ⟨fun h => (by rw [h] at hr; cases hr), fun j hj => ?_⟩
    by_cases hji : j = i
    · subst hji; exact hy.wpOp hi hS ⟨fun _ => hS, H⟩
    · have := ready_mono hj hji
      rw [H.1] at this
      cases this
  | succ fuel ih =>
    intro listed a w inv hfree hr hy hS H
    refine ⟨fun h => (by rw [h] at hr; cases hr), fun j hj => ?_⟩
    by_cases hji : j = i
    · subst hji; exact hy.wpOp hi hS ⟨fun _ => hS, H⟩
    · have hjn : j < n := by
        rcases Nat.lt_or_ge j n with h | h
        · exact h
        · exact absurd hj (tail_waits hs hc hn inv _ i rfl hin (mem_ready.1 hr).1 j h)
      have h1 := H.2 j (ready_mono hj hji)
      obtain ⟨hjun, oj, hoj, hall⟩ := mem_ready.1 hj
      have hnot : ∀ e ∈ oj.after, Region.binds md e = true → e.on ≠ i := fun e he hb heq => by
        have h1 := hall e he hb
        rw [heq, getD_both (mem_ready.1 hr).1] at h1
        cases h1
      have h2 := wpOp_putIf hoj (hfree j oj hoj hji hjun hnot) (fun cs b => hsel i oi cs b hi) (fun cs b => hsel j oj cs b hoj) hQ hy h1
      have hfree' : ∀ k ok, ops[k]? = some ok → k ≠ i → (listed.setIfInBounds j true).getD k true = false →
          (∀ e ∈ ok.after, Region.binds md e = true → e.on ≠ i) → oi.apart ops ok = true := fun k ok hk hki hun hno => by
        refine hfree k ok hk hki ?_ hno
        by_cases hjk : j = k
        · subst hjk; exact hjun
        · rw [getD_set_ne true hjk] at hun; exact hun
      refine wpOp_mono (fun a' w' h3 => ⟨fun _ => h3.2.1 hjn, ih (listed.setIfInBounds j true) a' w' (inv.set hj hjn) hfree' (ready_mono hr (Ne.symm hji)) h3.1 (h3.2.1 hjn) ?_⟩) h2
      rw [Array.setIfInBounds_comm _ _ hji]
      exact h3.2.2

/-- Each of these operations yields a value, in whatever world of S; then G. -/
def wpTakes (P : Program) (ops : Array Oper) (S : World → Prop) (G : Act → Prop) : List Nat → Act → Prop
  | [], a => G a
  | i :: l, a => ∃ o, ops[i]? = some o ∧ ∃ v, YieldsIf P ops S o v a ∧ wpTakes P ops S G l (a.put o.dst v)

theorem wpTakes_step {G : Act → Prop} {i : Nat} {l : List Nat} {a : Act} {o : Oper} {v : Value} (ho : ops[i]? = some o) (hw : Region.wanted o (yielded ops a.tmps) = true)
    (hy : ∀ w, S w → (execOp a.eval o).run P w = .ok (.value v) w) (h : wpTakes P ops S G l (a.put o.dst v)) : wpTakes P ops S G (i :: l) a := ⟨o, ho, v, .inl ⟨hw, hy⟩, h⟩

/-- They may be taken in this order. -/
def takesB (md : Region.Mode) (ops : Array Oper) (n : Nat) : List Nat → Array Bool → Bool
  | [], _ => true
  | i :: r, listed => decide (i < n) && (Region.free md ops listed i && ((Region.ready md ops listed).contains i && takesB md ops n r (listed.setIfInBounds i true)))
def marks (is : List Nat) (listed : Array Bool) : Array Bool := is.foldl (fun l i => l.setIfInBounds i true) listed

theorem wpAnyT_takes (hsel : Region.noSelect ops = true) (hs : Region.sinkB md ops n = true) (hc : Region.chainB md ops n = true) (hn : n < ops.size) (hQ : ∀ d v c a w, Q (.panic c) (a.put d v) w → Q (.panic c) a w)
    {G : Act → Prop} (is : List Nat) : ∀ (listed : Array Bool) (a : Act) (w : World) (fuel : Nat), takesB md ops n is listed = true → HeadInv md ops n listed → S w →
    wpTakes P ops S G is a → (∀ a', G a' → HeadInv md ops n (marks is listed) → wpAnyT P md ops Q S n fuel (marks is listed) a' w) → wpAnyT P md ops Q S n (fuel + is.length) listed a w := by
  induction is with
  | nil =>
    intro listed a w fuel _ inv _ h H
    exact H a h inv
  | cons i r ih =>
    intro listed a w fuel hB inv hS h H
    obtain ⟨o, ho, v, hy, h2⟩ := h
    simp only [takesB, Bool.and_eq_true, decide_eq_true_eq] at hB
    obtain ⟨hin, hf, hr, hB2⟩ := hB
    have hr' : i ∈ Region.ready md ops listed := by simpa using hr
    exact wpAnyT_first ho (Region.noSelect_spec hsel) hs hc hn hin (hQ _ _) _ listed a w inv (Region.free_spec ho hf) hr' hy hS
      (ih _ _ w fuel hB2 (inv.set hr' hin) hS h2 H)

/-- An operation that makes memory of its own. -/
def Makes (P : Program) (o : Oper) : Prop := ∀ (a : Act) (w : World), (∃ v w', (execOp (Act.eval a) o).run P w = .ok (.value v) w' ∧ Below w.heap.size w w') ∨ ∃ x w', (execOp (Act.eval a) o).run P w = .halt x w'
theorem Makes.wp {o : Oper} {a : Act} {w : World} {K : Act → World → Prop} (hm : Makes P o) (h : o.wp P a w K Q) : o.wp P a w (fun a' w' => Below w.heap.size w w' ∧ K a' w') Q := by
  unfold Oper.wp at *
  rcases hm a w with ⟨v, w', hr, hb⟩ | ⟨x, w', hr⟩
  · rw [hr] at h ⊢; exact ⟨hb, h⟩
  · rw [hr] at h ⊢
    cases x <;> first | exact h | exact h.elim
/-- One that makes memory, alone at its time. -/
theorem wpAnyT_one {b : World} {i fuel : Nat} {listed : Array Bool} {a : Act} {w : World} {o : Oper} {rest : List Oper} (hi : ops[i]? = some o) (hr : Region.ready md ops listed = [i]) (hg : o.guard = none) (hm : Makes P o) (hw : grown b w)
    (hT : ∀ a' w', wpList P ops Q rest a' w' → wpAnyT P md ops Q (grown b) n fuel (listed.setIfInBounds i true) a' w')
    (h : wpList P ops Q (o :: rest) a w) : wpAnyT P md ops Q (grown b) n (fuel + 1) listed a w := by
  refine ⟨fun h0 => absurd (hr.symm.trans h0) (by simp), fun j hj => ?_⟩
  rw [hr] at hj
  obtain rfl : j = i := by simpa using hj
  unfold wpList at h
  unfold wpOp
  simp only [hi, Region.wanted, hg, if_true] at h ⊢
  rcases h with h | h
  · refine .inl (Oper.wp_mono (fun a'' w'' h2 => ⟨fun _ => ?_, hT _ _ h2.2⟩) (hm.wp h))
    obtain ⟨z, rfl⟩ := hw
    obtain ⟨y, rfl⟩ := below_grow h2.1
    exact grow_grow b z y
  · exact .inr h
end takes

/-- A slice that is laid: a new block, or an end. -/
theorem buildSlice_run {P : Program} {t e : TypeId} {i : TypeInfo} {z : Value} (ht : P.underlying t = some (.slice e)) (hi : P.info? e = some i) (hz : i.zero = some z) (len : Nat) (parts : Array (Nat × Value)) (w : World) (h24 : len * i.size ≤ 16777216) :
    (∃ v o, (Instr.buildSlice t len parts).run P w = .ok v (w.alloc o)) ∨ ∃ x w', (Instr.buildSlice t len parts).run P w = .halt x w' := by
  have h24' : ¬ (16777216 < len * i.size) := by omega
  by_cases h0 : len * i.size = 0 <;>
  · simp [Instr.buildSlice, run_underlying ht, sizeOf, typeInfo, hi, zeroValue, hz, h24', h0]
    split
    · left; exact ⟨_, _, rfl⟩
    · right; exact ⟨_, _, rfl⟩

theorem makes_slice {P : Program} {t e : TypeId} {i : TypeInfo} {z : Value} (ht : P.underlying t = some (.slice e)) (hi : P.info? e = some i) (hz : i.zero = some z) {len : Nat} {parts : Array (Nat × Operand)} {o : Oper} (ho : o.op = .buildSlice t len parts) (h24 : len * i.size ≤ 16777216) : Makes P o := by
  intro a w
  have e : execOp (Act.eval a) o = (do let r ← Instr.buildSlice t len (parts.map fun (i, x) => (i, a.eval x)); pure (.value r)) := by
    unfold execOp; simp only [ho]
  rw [e]
  rcases buildSlice_run ht hi hz len (parts.map fun (i, x) => (i, a.eval x)) w h24 with ⟨v, ob, hr⟩ | ⟨x, w', hr⟩
  · left; exact ⟨v, w.alloc ob, by simp only [Sem.run_bind, hr, Result.andThen_ok, Sem.run_pure], up_alloc _ _⟩
  · right; exact ⟨x, w', by simp only [Sem.run_bind, hr]; rfl⟩

/-- THE RULE: 'is' are taken first (they read worlds grown out of w); then number m makes a block; the rest comes in its one order from n on. -/
theorem wp_region_takes {P : Program} {id : Nat} {Q : Exit → Act → World → Prop} {a : Act} {w : World} {l : List Oper} (n m : Nat) (is : List Nat) (om : Oper) (hmo : P.follows .mixedOrders = true)
    (hsel : Region.noSelect l.toArray = true) (hs : Region.sinkB .any l.toArray n = true) (hc : Region.chainB .any l.toArray n = true) (hn : n < l.length) (hmn : m < n)
    (hQ : ∀ d v c a w, Q (.panic c) (a.put d v) w → Q (.panic c) a w)
    (hB : takesB .any l.toArray n is (Array.replicate l.length false) = true) (hm : l[m]? = some om) (hgm : om.guard = none)
    (hrm : Region.ready .any l.toArray (marks is (Array.replicate l.length false)) = [m]) (hall : (List.range n).all (fun i => (marks (is ++ [m]) (Array.replicate l.length false)).getD i true) = true)
    (hseq : Region.seqB .any l.toArray (l.length - n) n (marks (is ++ [m]) (Array.replicate l.length false)) = true) (hlen : l.length = (l.length - n) + 1 + is.length)
    (hmk : Makes P om) (h : wpTakes P l.toArray (grown w) (fun a' => wpList P l.toArray Q (om :: l.drop n) a' w.drew) is a) : (Code.region id l.toArray true).wp P Q a w := by
  refine wp_region_any hmo ?_
  refine wpAny_of_T (S := grown w) (n := n) _ _ _ _ ?_
  have inv0 : HeadInv .any l.toArray n (Array.replicate l.length false) :=
    { size := by simp
      closed := fun j oj _ hl => by rw [getD_replicate_false] at hl; cases hl
      tail := fun t _ ht => getD_in (by simpa using ht) (getD_replicate_false _ _) }
  have hw0 : grown w { w with drawn := w.drawn + 1 } := ⟨⟨#[], w.drawn + 1⟩, by simp [grow]⟩
  have key := wpAnyT_takes (P := P) (Q := Q) (S := grown w) (md := .any) hsel hs hc (by simpa using hn) hQ is (Array.replicate l.length false) a { w with drawn := w.drawn + 1 } ((l.length - n) + 1) hB inv0 hw0 h
    (fun a' hG _ => by
      refine wpAnyT_one (o := om) (by simpa using hm) hrm hgm hmk hw0 (fun a'' w'' h2 => ?_) hG
      have e : marks (is ++ [m]) (Array.replicate l.length false) = (marks is (Array.replicate l.length false)).setIfInBounds m true := by simp [marks, List.foldl_append]
      rw [← e]
      refine wpAnyT_of _ _ _ _ (fun i hi => by have := List.all_eq_true.1 hall i (List.mem_range.2 hi); exact this) ?_
      have := wpAny_of_seq (md := .any) (ops := l.toArray) (Q' := Q) (l.drop n) n (marks (is ++ [m]) (Array.replicate l.length false)) a'' w'' (fun j => by simp [List.getElem?_drop]) (by rw [List.length_drop]; exact hseq) h2
      rwa [List.length_drop] at this)
  rw [← hlen] at key
  simpa using key
end Go.Proofs.YtaieidigpilbfaaGreat

