/- The owners that are left when places were looked at again. Own text. -/
import Derived.Test.YtpahbpgkmebieaaW20
import Derived.Test.YtpahbpgkmebieaaW19
namespace Go.Proofs.Ytpahbpgkmebieaa
open Go.RowKit
set_option maxHeartbeats 400000
set_option maxRecDepth 100000

/-- The error of a book, two readings, and places. -/
def lookE3 (w0 w1 w2 w3 w4 F : Int) (gs : List Giv) (r s : Rd) : Int := firstE [err (okB w0 w1 w2 w3 w4 F gs) 13, err r.ok 12, err s.ok 12]
def lookE (w0 w1 w2 w3 w4 F : Int) (gs : List Giv) (r s : Rd) (l : List Int) : Int := if lookE3 w0 w1 w2 w3 w4 F gs r s = 0 then err (riseB l (-1)) 18 else lookE3 w0 w1 w2 w3 w4 F gs r s
/-- Those whose rows meet a reading at places. -/
def keepG (w0 w1 w2 w3 w4 : Int) (s : Rd) (l : List Int) : List Giv → List Giv
  | [] => []
  | g :: r => if meetAll (rowOf w0 w1 w2 w3 w4 g) s l = true then g :: keepG w0 w1 w2 w3 w4 s l r else keepG w0 w1 w2 w3 w4 s l r
theorem keepG_yes {w0 w1 w2 w3 w4 : Int} {s : Rd} {l : List Int} {P : List Giv} {g : Giv} (h : meetAll (rowOf w0 w1 w2 w3 w4 g) s l = true) : keepG w0 w1 w2 w3 w4 s l (P ++ [g]) = keepG w0 w1 w2 w3 w4 s l P ++ [g] := by
  induction P with
  | nil => simp [keepG, h]
  | cons x r ih => simp only [List.cons_append, keepG, ih]; split <;> rfl
theorem keepG_no {w0 w1 w2 w3 w4 : Int} {s : Rd} {l : List Int} {P : List Giv} {g : Giv} (h : meetAll (rowOf w0 w1 w2 w3 w4 g) s l = false) : keepG w0 w1 w2 w3 w4 s l (P ++ [g]) = keepG w0 w1 w2 w3 w4 s l P := by
  induction P with
  | nil => simp [keepG, h]
  | cons x r ih => simp only [List.cons_append, keepG, ih]
theorem keepG_len (w0 w1 w2 w3 w4 : Int) (s : Rd) (l : List Int) (P : List Giv) : (keepG w0 w1 w2 w3 w4 s l P).length ≤ P.length := by
  induction P with
  | nil => exact Nat.le_refl _
  | cons x r ih => simp only [keepG]; split <;> simp <;> omega
def lookG (w0 w1 w2 w3 w4 F : Int) (gs : List Giv) (r s : Rd) (l : List Int) : List Giv := if lookE w0 w1 w2 w3 w4 F gs r s l = 0 then keepG w0 w1 w2 w3 w4 s l (possG w0 w1 w2 w3 w4 F [r] gs) else []

theorem lookE_18 {w0 w1 w2 w3 w4 F : Int} {gs : List Giv} {r s : Rd} {l : List Int} (h : lookE3 w0 w1 w2 w3 w4 F gs r s = 0) (h2 : riseB l (-1) = false) : lookE w0 w1 w2 w3 w4 F gs r s l = 18 := by
  unfold lookE; rw [if_pos h, h2]; rfl
theorem lookE_0 {w0 w1 w2 w3 w4 F : Int} {gs : List Giv} {r s : Rd} {l : List Int} (h : lookE3 w0 w1 w2 w3 w4 F gs r s = 0) (h2 : riseB l (-1) = true) : lookE w0 w1 w2 w3 w4 F gs r s l = 0 := by
  unfold lookE; rw [if_pos h, h2]; rfl

theorem looked_any (w0 w1 w2 w3 w4 F : Int) (A : Option Addr) (n c : Nat) (gs : List Giv) (r s : Rd) (B : Option Addr) (n' c' : Nat) (l : List Int) (w : World) (hg : Gs w A n gs) (hnc : n ≤ c) (hl : Is w B n' l) :
    Calls Try.prog 50 #[.agg #[.int .i64 w0, .int .i64 w1, .int .i64 w2, .int .i64 w3, .int .i64 w4, .int .i64 F, .slice A n c], .agg #[.int .i64 r.r0, .int .i64 r.r1, .int .i64 r.r2, .int .i64 r.r3, .int .i64 r.r4, .int .i64 r.r5], .agg #[.int .i64 s.r0, .int .i64 s.r1, .int .i64 s.r2, .int .i64 s.r3, .int .i64 s.r4, .int .i64 s.r5], .slice B n' c'] w fun e w' =>
      ∃ v, e = .returned (.tuple #[v, .int .i64 (lookE w0 w1 w2 w3 w4 F gs r s l)]) ∧ w'.ownsRow w.heap.size 3 1 v (lookG w0 w1 w2 w3 w4 F gs r s l).length (ints (own (lookG w0 w1 w2 w3 w4 F gs r s l))) ∧ Below w.heap.size w w' := by
  have Hl : Hid (n = gs.length) := Lib.hid hg.len
  go_enter Try.func50, Try.ntmps50
  go_wp2_with fail
  generalize hW : (World.alloc _ _) = W
  have HW : Hid (Below w.heap.size w W) := Lib.hid (by subst hW; go_grown)
  have hs : w.heap.size + 2 < W.heap.size := by subst hW; simp
  have hs1 : w.heap.size + 1 < W.heap.size := by omega
  have hs0 : w.heap.size < W.heap.size := by omega
  have hs2 : w.heap.size + 1 + 1 < W.heap.size := by omega
  have cm : ∀ j, W.cell? ⟨w.heap.size, j, none⟩ = [Value.int .i64 w0, .int .i64 w1, .int .i64 w2, .int .i64 w3, .int .i64 w4, .int .i64 F, .slice A n c][j]? := by subst hW; intro j; simp [go_sem]
  have cr : ∀ j, W.cell? ⟨w.heap.size + 1, j, none⟩ = [Value.int .i64 r.r0, .int .i64 r.r1, .int .i64 r.r2, .int .i64 r.r3, .int .i64 r.r4, .int .i64 r.r5][j]? := by subst hW; intro j; simp [go_sem]
  have cs : ∀ j, W.cell? ⟨w.heap.size + 1 + 1, j, none⟩ = [Value.int .i64 s.r0, .int .i64 s.r1, .int .i64 s.r2, .int .i64 s.r3, .int .i64 s.r4, .int .i64 s.r5][j]? := by subst hW; intro j; simp [go_sem]
  clear hW
  have Hg1 := Lib.hid (hg.keep HW.out)
  refine wp_region_grow_tail 6 (by kernel_rfl) (by kernel_rfl) ?_
  simp only [List.take_succ_cons, List.take_zero, List.drop_succ_cons, List.drop_zero]
  repeat (go_big_quiet_step ((first | (go_at_call 20; exact quiet_grow rfl (check_any _ _ _ _ _ _ _ _ _ gs _ (Hg1.out.keep (grow_below _ _)) hnc)) | (go_at_call 18; exact quiet_grow rfl (checkReading_any _ _ _ _ _ _ _)))))
  refine wpQuiet_nil ?_
  intro z
  go_wp2_with fail
  refine Calls.mono (first_any _ _ _ _ _ (is3 _ _ _ _ _ _ (by simp))) ?_
  rintro e x1 ⟨rfl, rfl⟩
  rw [show firstE [err (okB w0 w1 w2 w3 w4 F gs) 13, err (okR r.r0 r.r1 r.r2 r.r3 r.r4 r.r5) 12, err (okR s.r0 s.r1 s.r2 s.r3 s.r4 s.r5) 12] = lookE3 w0 w1 w2 w3 w4 F gs r s from rfl]
  generalize hV : World.alloc (grow W z) _ = V
  have HV : Hid (Below W.heap.size W V) := Lib.hid (by subst hV; exact up (grow_below W z) (up_alloc _ _))
  clear hV
  have v2 : w.heap.size + 1 + 1 < V.heap.size := by have := HV.out.size; omega
  have v1 : w.heap.size + 1 < V.heap.size := by omega
  have v0 : w.heap.size < V.heap.size := by omega
  have cm2 : ∀ j, V.cell? ⟨w.heap.size, j, none⟩ = [Value.int .i64 w0, .int .i64 w1, .int .i64 w2, .int .i64 w3, .int .i64 w4, .int .i64 F, .slice A n c][j]? := fun j => (HV.out.cell (p := ⟨w.heap.size, j, none⟩) hs0).trans (cm j)
  have cr2 : ∀ j, V.cell? ⟨w.heap.size + 1, j, none⟩ = [Value.int .i64 r.r0, .int .i64 r.r1, .int .i64 r.r2, .int .i64 r.r3, .int .i64 r.r4, .int .i64 r.r5][j]? := fun j => (HV.out.cell (p := ⟨w.heap.size + 1, j, none⟩) hs1).trans (cr j)
  have cs2 : ∀ j, V.cell? ⟨w.heap.size + 1 + 1, j, none⟩ = [Value.int .i64 s.r0, .int .i64 s.r1, .int .i64 s.r2, .int .i64 s.r3, .int .i64 s.r4, .int .i64 s.r5][j]? := fun j => (HV.out.cell (p := ⟨w.heap.size + 1 + 1, j, none⟩) hs2).trans (cs j)
  clear cm cr cs
  have HgV := Lib.hid (hg.keep (up HW.out HV.out))
  have HlV := Lib.hid (hl.keep (up HW.out HV.out))
  by_cases hE : lookE3 w0 w1 w2 w3 w4 F gs r s = 0
  rotate_left
  · have HE := Lib.hid hE
    have hb : (lookE3 w0 w1 w2 w3 w4 F gs r s != 0) = true := by simpa using hE
    clear hE
    go_wp2
    go_ret2
    refine ⟨_, by unfold lookE; rw [if_neg HE.out]; rfl, ?_, up HW.out HV.out⟩
    unfold lookG lookE; rw [if_neg HE.out, if_neg HE.out]; exact World.ownsRow_nil _ _ _ _
  have HE := Lib.hid hE
  rw [hE]
  have hE1 := hE
  unfold lookE3 at hE1
  obtain ⟨o1, _, _⟩ := firstE3_0 hE1
  have Ob := Lib.hid (err_0 (by decide) o1)
  clear hE hE1 o1
  cases hr : riseB l (-1)
  · have Hr := Lib.hid hr
    clear hr
    go_wp2_with (go_at_call 99; refine (validLook_any _ _ _ l _ HlV.out).mono ?_; rintro e x2 ⟨rfl, rfl⟩; rw [Hr.out])
    go_ret2
    refine ⟨_, by rw [lookE_18 HE.out Hr.out]; rfl, ?_, up HW.out HV.out⟩
    unfold lookG; rw [lookE_18 HE.out Hr.out]; exact World.ownsRow_nil _ _ _ _
  have Hr := Lib.hid hr
  clear hr
  have hpl : (possG w0 w1 w2 w3 w4 F [r] gs).length ≤ 40 := Nat.le_trans (possG_len w0 w1 w2 w3 w4 F [r] gs) (okB_40 Ob.out)
  have h40 : n ≤ 40 := by have := Hl.out; have := okB_40 Ob.out; omega
  go_wp2_with (first
    | (go_at_call 99; refine (validLook_any _ _ _ l _ HlV.out).mono ?_; rintro e x2 ⟨rfl, rfl⟩; rw [Hr.out])
    | (go_at_call 85; refine (possibleMarks_any _ _ _ _ _ _ _ _ _ gs _ _ _ [r] _ (HgV.out.keep (up_alloc _ _)) (rs1 _ r _ _ (by simp)) (okB_ok Ob.out) h40).mono ?_; rintro e U ⟨v, rfl, hown, hb1⟩; have HU := Lib.hid (up (up_alloc _ _) hb1); clear hb1; obtain ⟨A', c'', rfl, _, _, hgs⟩ := Gs.of_own hown; have HG := Lib.hid (hgs (by omega)); clear hgs hown))
  have HK : Hid (∀ g ∈ possG w0 w1 w2 w3 w4 F [r] gs, g.ok) := Lib.hid (fun g h => okB_ok Ob.out g (possG_sub g h))
  have Hin := Lib.hid (riseB_in l (-1) (by omega) Hr.out)
  generalize hP : possG w0 w1 w2 w3 w4 F [r] gs = P at *
  have HP := Lib.hid hP
  clear hP
  generalize hnP : P.length = nP at *
  have HnP := Lib.hid hnP
  clear hnP
  have u2 : w.heap.size + 1 + 1 < U.heap.size := by have := HU.out.size; omega
  have u1 : w.heap.size + 1 < U.heap.size := by omega
  have u0 : w.heap.size < U.heap.size := by omega
  have cm3 : ∀ j, U.cell? ⟨w.heap.size, j, none⟩ = [Value.int .i64 w0, .int .i64 w1, .int .i64 w2, .int .i64 w3, .int .i64 w4, .int .i64 F, .slice A n c][j]? := fun j => (HU.out.cell (p := ⟨w.heap.size, j, none⟩) v0).trans (cm2 j)
  have cs3 : ∀ j, U.cell? ⟨w.heap.size + 1 + 1, j, none⟩ = [Value.int .i64 s.r0, .int .i64 s.r1, .int .i64 s.r2, .int .i64 s.r3, .int .i64 s.r4, .int .i64 s.r5][j]? := fun j => (HU.out.cell (p := ⟨w.heap.size + 1 + 1, j, none⟩) v2).trans (cs2 j)
  clear cm2 cr2 cs2
  have HlU := Lib.hid (HlV.out.keep HU.out)
  obtain ⟨i0, hi, hz0, hz1, hz2⟩ := info_parts info30
  have HI := Lib.hid hi
  have HZ0 := Lib.hid hz0
  have HZ1 := Lib.hid hz1
  have HZ2 := Lib.hid hz2
  clear hi hz0 hz1 hz2
  go_loopw [11, 33] (fun v i wr => ∃ (k : Nat) (z : Gr), k ≤ nP ∧ i = .int .i64 k ∧ wr = grow U z ∧ (grow U z).ownsRow U.heap.size 30 7 v (keepG w0 w1 w2 w3 w4 s l (P.take k)).length (gcells (keepG w0 w1 w2 w3 w4 s l (P.take k)))) (fun _ i _ => nP - (intOf i).toNat)
  case atStart => exact ⟨0, ⟨#[], U.drawn⟩, by omega, rfl, by simp [grow], World.ownsRow_nil _ _ _ _⟩
  case round =>
    obtain ⟨k, y, hk, rfl, rfl, hown⟩ := hrel
    have Hown := Lib.hid hown; clear hown
    have e0 : w.heap.size < U.heap.size + y.blocks.size := by omega
    have e1 : w.heap.size + 1 + 1 < U.heap.size + y.blocks.size := by omega
    have e3 : w.heap.size < U.heap.size + y.blocks.size + 1 := by omega
    have e4 : w.heap.size + 1 + 1 < U.heap.size + y.blocks.size + 1 := by omega
    have hklen : (keepG w0 w1 w2 w3 w4 s l (P.take k)).length ≤ 40 := Nat.le_trans (keepG_len w0 w1 w2 w3 w4 s l (P.take k)) (by simp; omega)
    by_cases hlt : k < nP
    rotate_left
    · obtain rfl : k = nP := by omega
      have Hf : Hid (keepG w0 w1 w2 w3 w4 s l (P.take k) = keepG w0 w1 w2 w3 w4 s l P) := Lib.hid (by rw [List.take_of_length_le (by rw [HnP.out]; exact Nat.le_refl _)])
      obtain ⟨A2, c2, rfl, _, _, hgs⟩ := Gs.of_own Hown.out
      have HG2 := Lib.hid (hgs (by omega))
      clear hgs
      go_wp2_with (go_at_call 84; refine (ownersOf_any _ _ _ _ _ HG2.out (by omega)).mono ?_; rintro e x2 ⟨v, rfl, hown, hb2⟩; have Hown2 := Lib.hid hown; clear hown)
      go_ret2
      refine ⟨_, by rw [lookE_0 HE.out Hr.out]; rfl, ?_, up HW.out (up HV.out (up HU.out (up (grow_below U y) hb2)))⟩
      unfold lookG; rw [lookE_0 HE.out Hr.out, if_pos rfl, HP.out, ← Hf.out]
      exact own_mono Hown2.out (by simp; omega)
    have hkl : k < P.length := by rw [HnP.out]; exact hlt
    have Htk : Hid (P.take (k + 1) = P.take k ++ [P[k]]) := Lib.hid (List.take_succ_eq_append_getElem hkl)
    obtain ⟨b, o, rfl, hb, hc⟩ := HG.out.get k hkl
    obtain ⟨c0, c1, c2, c3, c4, c5, c6⟩ := hc
    obtain ⟨⟨p0, q0⟩, ⟨p1, q1⟩, ⟨p2, q2⟩, ⟨p3, q3⟩, ⟨p4, q4⟩, ⟨p5, q5⟩⟩ := HK.out _ (List.getElem_mem hkl)
    generalize P[k] = g at *
    generalize hX : keepG w0 w1 w2 w3 w4 s l (P.take k) = X at *
    have HX := Lib.hid hX
    clear hX
    generalize hnX : X.length = nX at *
    have HnX := Lib.hid hnX
    clear hnX
    have e5 : b < U.heap.size + y.blocks.size := by omega
    go_wp2
    generalize hT : World.alloc (grow U y) _ = T
    have HT : Hid (Below U.heap.size U T) := Lib.hid (by subst hT; exact up (grow_below U y) (up_alloc _ _))
    have HTy : Hid (Below (grow U y).heap.size (grow U y) T) := Lib.hid (by subst hT; exact up_alloc _ _)
    have t0 : w.heap.size < T.heap.size := by subst hT; simp; omega
    have t1 : w.heap.size + 1 + 1 < T.heap.size := by subst hT; simp; omega
    have t2 : U.heap.size + y.blocks.size < T.heap.size := by subst hT; simp
    have ct : ∀ j, T.cell? ⟨w.heap.size, j, none⟩ = [Value.int .i64 w0, .int .i64 w1, .int .i64 w2, .int .i64 w3, .int .i64 w4, .int .i64 F, .slice A n c][j]? := fun j => (HT.out.cell (p := ⟨w.heap.size, j, none⟩) u0).trans (cm3 j)
    have ct2 : ∀ j, T.cell? ⟨w.heap.size + 1 + 1, j, none⟩ = [Value.int .i64 s.r0, .int .i64 s.r1, .int .i64 s.r2, .int .i64 s.r3, .int .i64 s.r4, .int .i64 s.r5][j]? := fun j => (HT.out.cell (p := ⟨w.heap.size + 1 + 1, j, none⟩) u2).trans (cs3 j)
    have cg : ∀ j, T.cell? ⟨U.heap.size + y.blocks.size, j, none⟩ = [Value.int .i64 g.o, .int .i64 g.m0, .int .i64 g.m1, .int .i64 g.m2, .int .i64 g.m3, .int .i64 g.m4, .int .i64 g.m5][j]? := by
      subst hT; intro j
      rw [World.cell?_alloc_at _ _ _ _ (by simp)]; simp
    have HlT := Lib.hid (HlU.out.keep HT.out)
    clear hT c0 c1 c2 c3 c4 c5 c6
    refine wp_region_grow (by kernel_rfl) (by kernel_rfl) ?_
    repeat (go_big_quiet_step ((first | (go_at_call 77; exact quiet_grow rfl (wornRow_any _ _ _ _ _ _ _ _ _ _ _ _ (by assumption) (by assumption) (by assumption) (by assumption) (by assumption) (by assumption) (by assumption) (by assumption) (by assumption) (by assumption) (by assumption) (by assumption) )) | (go_at_call 78; exact quiet_grow rfl (seenRow_any _ _ _ _ _ _ _)) | (go_at_call 100; exact quiet_grow rfl (allMeet_any (rowOf w0 w1 w2 w3 w4 g) s _ _ _ l _ (HlT.out.keep (grow_below _ _)) Hin.out)))))
    refine wpQuiet_nil ?_
    intro z3
    have t3 : U.heap.size + y.blocks.size < T.heap.size + z3.blocks.size := by omega
    cases hm : meetAll (rowOf w0 w1 w2 w3 w4 g) s l
    · have Hm := Lib.hid hm
      clear hm
      go_wp2
      obtain ⟨y2, hy2⟩ := below_grow (up HT.out (grow_below T z3))
      refine ⟨⟨k + 1, y2, by omega, by go_num, hy2, ?_⟩, by simp [intOf]; omega⟩
      rw [← hy2, Htk.out, keepG_no Hm.out, HX.out, HnX.out]
      exact own_below (own_below Hown.out HTy.out) (grow_below T z3)
    · have Hm := Lib.hid hm
      clear hm
      have Ho := Lib.hid (own_below (own_below Hown.out HTy.out) (grow_below T z3))
      go_wp2_with (at_builtin; refine wpList_append_own _ rfl _ _ 24 rfl U.heap.size 30 i0 (.agg #[.int .i64 0, .int .i64 0, .int .i64 0, .int .i64 0, .int .i64 0, .int .i64 0, .int .i64 0]) 7 56 Try.underlying24 HI.out HZ0.out HZ1.out HZ2.out rfl (by decide) _ _ _ rfl (Ho.out.alloc _) ⟨T.heap.size + z3.blocks.size, 0, none⟩ 1 1 [.int .i64 g.o, .int .i64 g.m0, .int .i64 g.m1, .int .i64 g.m2, .int .i64 g.m3, .int .i64 g.m4, .int .i64 g.m5] rfl rfl ?c1 ?c2 ?c3 ?c4 ?c5 ?_)
      case c1 =>
        intro j u hu
        rw [Addr.add_lit, World.cell?_alloc_at _ _ _ _ (by simp), Nat.zero_add]
        simpa using hu
      case c2 => intro u hu; simp at hu; rcases hu with rfl | rfl | rfl | rfl | rfl | rfl | rfl <;> rfl
      case c3 => unfold maxLen; omega
      case c4 => omega
      case c5 => have := HT.out.size; simp; omega
      intro v' w' hown' hgr _
      have hbel : Below U.heap.size U w' := (up HT.out (up (grow_below T z3) (up_alloc _ _))).grown hgr (by have := HT.out.size; simp; omega) (fun q hq => (Ho.out.lt q hq).1)
      have Hown' := Lib.hid hown'
      clear hown' hgr
      obtain ⟨y3, rfl⟩ := below_grow hbel
      go_wp2
      refine ⟨⟨k + 1, y3, by omega, by go_num, rfl, ?_⟩, by simp [intOf]; omega⟩
      rw [Htk.out, keepG_yes Hm.out, HX.out, gcells_snoc, List.length_append, HnX.out]
      exact Hown'.out
end Go.Proofs.Ytpahbpgkmebieaa
