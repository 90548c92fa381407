/- Rows that meet at places; places that settle. Own text. -/
import Derived.Test.YtpahbpgkmebieaaW16
namespace Go.Proofs.Ytpahbpgkmebieaa
open Go.RowKit
set_option maxHeartbeats 400000
set_option maxRecDepth 100000

/-- Do two rows meet at a place, at all places? -/
def meetB (a b : Rd) (i : Int) : Bool := band (g6 a.r0 a.r1 a.r2 a.r3 a.r4 a.r5 i) (g6 b.r0 b.r1 b.r2 b.r3 b.r4 b.r5 i) != 0
def meetAll (a b : Rd) (l : List Int) : Bool := l.all (meetB a b)

theorem allMeet_any (a b : Rd) (A : Option Addr) (n c : Nat) (l : List Int) (w : World) (hg : Is w A n l) (hl : ∀ i ∈ l, 0 ≤ i ∧ i < 6) :
    Calls Try.prog 100 #[.agg #[.int .i64 a.r0, .int .i64 a.r1, .int .i64 a.r2, .int .i64 a.r3, .int .i64 a.r4, .int .i64 a.r5], .agg #[.int .i64 b.r0, .int .i64 b.r1, .int .i64 b.r2, .int .i64 b.r3, .int .i64 b.r4, .int .i64 b.r5], .slice A n c] w fun e w' => e = .returned (.bool (meetAll a b l)) ∧ Below w.heap.size w w' := by
  have hn := hg.small
  have Hl : Hid (n = l.length) := Lib.hid hg.len
  have HL := Lib.hid hl
  clear hl
  go_enter Try.func100, Try.ntmps100
  go_wp2
  generalize hW : (World.alloc _ _) = W
  have HW : Hid (Below w.heap.size w W) := Lib.hid (by subst hW; go_grown)
  have hs : w.heap.size + 1 < W.heap.size := by subst hW; simp
  have hs0 : w.heap.size < W.heap.size := by omega
  have ca : ∀ j, W.cell? ⟨w.heap.size, j, none⟩ = [Value.int .i64 a.r0, .int .i64 a.r1, .int .i64 a.r2, .int .i64 a.r3, .int .i64 a.r4, .int .i64 a.r5][j]? := by subst hW; intro j; simp [go_sem]
  have cb : ∀ j, W.cell? ⟨w.heap.size + 1, j, none⟩ = [Value.int .i64 b.r0, .int .i64 b.r1, .int .i64 b.r2, .int .i64 b.r3, .int .i64 b.r4, .int .i64 b.r5][j]? := by subst hW; intro j; simp [go_sem]
  clear hW
  have Hg1 := Lib.hid (hg.keep HW.out)
  go_loopw [11] (fun i wr => ∃ (k : Nat) (z : Gr), k ≤ n ∧ i = .int .i64 k ∧ wr = grow W z ∧ meetAll a b (l.take k) = true) (fun i _ => n - (intOf i).toNat)
  case atStart => exact ⟨0, ⟨#[], W.drawn⟩, by omega, rfl, by simp [grow], rfl⟩
  case round =>
    obtain ⟨k, z, hk, rfl, rfl, hm⟩ := hrel
    have Hm := Lib.hid hm; clear hm
    have hsz : w.heap.size + 1 < (grow W z).heap.size := by simp; omega
    have hsz0 : w.heap.size < (grow W z).heap.size := by simp; omega
    by_cases hlt : k < n
    · have hkl : k < l.length := by rw [← Hl.out]; exact hlt
      have Htk : Hid (l.take (k + 1) = l.take k ++ [l[k]]) := Lib.hid (List.take_succ_eq_append_getElem hkl)
      have Hno : Hid (meetB a b l[k] = false → meetAll a b l = false) := Lib.hid (fun h => by
        unfold meetAll; rw [List.all_eq_false]; exact ⟨l[k], List.getElem_mem hkl, by rw [h]; simp⟩)
      obtain ⟨hx0, hx1⟩ := HL.out _ (List.getElem_mem hkl)
      obtain ⟨bb, o, rfl, hb, hc⟩ := Hg1.out.get k hkl
      generalize l[k] = x at *
      have e5 : bb < W.heap.size + z.blocks.size := by omega
      have f5 : bb < (grow W z).heap.size := by simp; omega
      have Hmb : Hid (meetB a b x = (band (g6 a.r0 a.r1 a.r2 a.r3 a.r4 a.r5 x) (g6 b.r0 b.r1 b.r2 b.r3 b.r4 b.r5 x) != 0)) := Lib.hid rfl
      go_wp2
      refine wp_region_grow (by kernel_rfl) (by kernel_rfl) ?_
      repeat (go_big_quiet_step ((go_at_call 112; exact quiet_grow rfl (still_grow (meets_any _ _ _)))))
      refine wpQuiet_nil ?_
      intro z'
      obtain ⟨y, hy⟩ := grow_grow W z z'
      rw [hy]
      clear hy
      cases hmb : (band (g6 a.r0 a.r1 a.r2 a.r3 a.r4 a.r5 x) (g6 b.r0 b.r1 b.r2 b.r3 b.r4 b.r5 x) != 0)
      · have Hb := Lib.hid hmb
        go_wp2
        go_ret
        refine ⟨congrArg (fun v => Ending.returned (Value.bool v)) ?_, up HW.out (grow_below W y)⟩
        rw [Hno.out (Hmb.out.trans Hb.out)]
      · have Hb := Lib.hid hmb
        go_wp2
        refine ⟨⟨k + 1, y, by omega, by go_num, rfl, ?_⟩, by simp [intOf]; omega⟩
        rw [Htk.out]; unfold meetAll; rw [List.all_append, show (l.take k).all (meetB a b) = true from Hm.out]; simp [Hmb.out.trans Hb.out]
    · obtain rfl : k = n := by omega
      go_wp2
      go_ret
      refine ⟨congrArg (fun v => Ending.returned (Value.bool v)) ?_, up HW.out (grow_below W z)⟩
      have := Hm.out
      rw [List.take_of_length_le (by rw [← Hl.out]; exact Nat.le_refl _)] at this
      exact this.symm

/-- Strictly rising places. -/
def riseB : List Int → Int → Bool
  | [], _ => true
  | x :: r, p => decide (p < x) && decide (x < 6) && riseB r x

theorem validLook_any (A : Option Addr) (n c : Nat) (l : List Int) (w : World) (hg : Is w A n l) :
    Calls Try.prog 99 #[.slice A n c] w fun e w' => e = .returned (.bool (riseB l (-1))) ∧ w = w' := by
  have hn := hg.small
  have Hl : Hid (n = l.length) := Lib.hid hg.len
  go_enter Try.func99, Try.ntmps99
  go_wp2
  go_loop [3, 8] (fun p i => ∃ (k : Nat) (q : Int), k ≤ n ∧ i = .int .i64 k ∧ p = .int .i64 q ∧ riseB (l.drop k) q = riseB l (-1)) (fun _ i => n - (intOf i).toNat)
  case atStart => exact ⟨0, -1, by omega, rfl, rfl, rfl⟩
  case round =>
    obtain ⟨k, q, hk, rfl, rfl, hp⟩ := hrel
    have Hp := Lib.hid hp; clear hp
    by_cases hlt : k < n
    · have hkl : k < l.length := by rw [← Hl.out]; exact hlt
      have Hd : Hid (l.drop k = l[k] :: l.drop (k + 1)) := Lib.hid (List.drop_eq_getElem_cons hkl)
      obtain ⟨b, o, rfl, hb, hc⟩ := hg.get k hkl
      generalize l[k] = y at *
      by_cases h1 : y ≤ q
      · go_wp2
        go_ret
        refine ⟨congrArg (fun v => Ending.returned (Value.bool v)) ?_, rfl⟩
        rw [← Hp.out, Hd.out]; unfold riseB; simp; intros; omega
      · by_cases h2 : 6 ≤ y
        · go_wp2
          go_ret
          refine ⟨congrArg (fun v => Ending.returned (Value.bool v)) ?_, rfl⟩
          rw [← Hp.out, Hd.out]; unfold riseB; simp; intros; omega
        · go_wp2
          refine ⟨⟨k + 1, y, by omega, by go_num, rfl, ?_⟩, by simp [intOf]; omega⟩
          rw [← Hp.out, Hd.out, riseB]; simp [show q < y by omega, show y < 6 by omega]
    · obtain rfl : k = n := by omega
      go_wp2
      go_ret
      refine ⟨congrArg (fun v => Ending.returned (Value.bool v)) ?_, rfl⟩
      rw [← Hp.out, Hl.out, List.drop_length]; rfl
theorem riseB_in : ∀ (l : List Int) (p : Int), -1 ≤ p → riseB l p = true → ∀ i ∈ l, 0 ≤ i ∧ i < 6
  | [], _, _, _ => by simp
  | x :: r, p, hp, h => by
    simp only [riseB, Bool.and_eq_true, decide_eq_true_eq] at h
    intro i hi
    rcases List.mem_cons.1 hi with rfl | hi
    · omega
    · exact riseB_in r x (by omega) h.2 i hi

/-- Each two rows are parted at one of the places. -/
def settleAt (rs : List Rd) (l : List Int) (k : Nat) : Bool :=
  match rs[k]? with
  | none => true
  | some a => (rs.take k).all fun b => !meetAll a b l
def settleB (rs : List Rd) (l : List Int) : Bool := allK (settleAt rs l) rs.length
theorem settleAt_some {rs : List Rd} {l : List Int} {k : Nat} {a : Rd} (h : rs[k]? = some a) : settleAt rs l k = (rs.take k).all fun b => !meetAll a b l := by unfold settleAt; rw [h]

theorem settle_any (B : Option Addr) (n' c' : Nat) (rs : List Rd) (A : Option Addr) (n c : Nat) (l : List Int) (w : World) (hr : Rs w B n' rs) (hc' : n' ≤ c') (hg : Is w A n l) (hl : ∀ i ∈ l, 0 ≤ i ∧ i < 6) :
    Calls Try.prog 95 #[.slice B n' c', .slice A n c] w fun e w' => e = .returned (.bool (settleB rs l)) ∧ Below w.heap.size w w' := by
  have hn := hr.small
  have Hl : Hid (n' = rs.length) := Lib.hid hr.len
  have HL := Lib.hid hl
  clear hl
  go_enter Try.func95, Try.ntmps95
  go_wp2
  go_loopw [11] (fun i wr => ∃ (k : Nat) (z : Gr), k ≤ n' ∧ i = .int .i64 k ∧ wr = grow w z ∧ allK (settleAt rs l) k = true) (fun i _ => n' - (intOf i).toNat)
  case atStart => exact ⟨0, ⟨#[], w.drawn⟩, by omega, rfl, by simp [grow], rfl⟩
  case round =>
    obtain ⟨k, z, hk, rfl, rfl, hall⟩ := hrel
    have Hall := Lib.hid hall; clear hall
    by_cases hlt : k < n'
    rotate_left
    · obtain rfl : k = n' := by omega
      go_wp2
      go_ret
      refine ⟨congrArg (fun v => Ending.returned (Value.bool v)) ?_, grow_below w z⟩
      have := Hall.out
      rw [Hl.out] at this
      exact this.symm
    have hkl : k < rs.length := by rw [← Hl.out]; exact hlt
    have Hat := Lib.hid (settleAt_some (l := l) (List.getElem?_eq_getElem hkl))
    have Hno := Lib.hid (fun h => allK_no (settleAt rs l) k h rs.length hkl)
    have Hlen : Hid ((rs.take k).length = k) := Lib.hid (by simp; omega)
    obtain ⟨b, o, rfl, hb, hc⟩ := hr.get k hkl
    obtain ⟨c0, c1, c2, c3, c4, c5⟩ := hc
    have Hr := Lib.hid hr
    clear hr
    generalize rs[k] = a at *
    have e5 : b < w.heap.size + z.blocks.size := by omega
    go_wp2
    generalize hV : World.alloc (grow w z) _ = V
    have HV : Hid (Below w.heap.size w V) := Lib.hid (by subst hV; exact up (grow_below w z) (up_alloc _ _))
    have v1 : b < V.heap.size := by subst hV; simp; omega
    have v2 : w.heap.size + z.blocks.size < V.heap.size := by subst hV; simp
    have cg : ∀ j, V.cell? ⟨w.heap.size + z.blocks.size, j, none⟩ = [Value.int .i64 a.r0, .int .i64 a.r1, .int .i64 a.r2, .int .i64 a.r3, .int .i64 a.r4, .int .i64 a.r5][j]? := by
      subst hV; intro j
      rw [World.cell?_alloc_at _ _ _ _ (by simp)]; simp
    have HR := Lib.hid (Hr.out.keep HV.out)
    have HG := Lib.hid (hg.keep HV.out)
    clear hV c0 c1 c2 c3 c4 c5
    go_loopw [20] (fun j wr => ∃ (q : Nat) (y : Gr), q ≤ k ∧ j = .int .i64 q ∧ wr = grow V y ∧ ((rs.take k).take q).all (fun b => !meetAll a b l) = true) (fun j _ => k - (intOf j).toNat)
    case atStart => exact ⟨0, ⟨#[], V.drawn⟩, by omega, rfl, by simp [grow], rfl⟩
    case round =>
      obtain ⟨q, y, hq, rfl, rfl, hpa⟩ := hrel
      have Hpa := Lib.hid hpa; clear hpa
      have f1 : b < V.heap.size + y.blocks.size := by omega
      have f2 : b < V.heap.size + y.blocks.size + 1 := by omega
      have f3 : w.heap.size + z.blocks.size < V.heap.size + y.blocks.size := by omega
      have f4 : w.heap.size + z.blocks.size < V.heap.size + y.blocks.size + 1 := by omega
      by_cases hqk : q < k
      · have hql : q < (rs.take k).length := by rw [Hlen.out]; exact hqk
        have hql2 : q < rs.length := by omega
        have Hsn : Hid ((rs.take k).take (q + 1) = (rs.take k).take q ++ [rs[q]]) := Lib.hid (by rw [List.take_succ_eq_append_getElem hql]; simp)
        have hmem : rs[q] ∈ rs.take k := by have := List.getElem_mem hql; simpa using this
        obtain ⟨b', o', hbo, hb', hc'2⟩ := HR.out.get q hql2
        obtain ⟨rfl, rfl⟩ : b = b' ∧ o = o' := by simpa using hbo
        generalize rs[q] = x at *
        have Hmem := Lib.hid hmem
        obtain ⟨x0, x1, x2, x3, x4, x5⟩ := hc'2
        clear hmem hbo
        cases hm : meetAll a x l
        · have Hm := Lib.hid hm
          clear hm
          go_wp2_with (go_at_call 100; refine (allMeet_any a x _ _ _ l _ (HG.out.keep (up (grow_below V y) (up_alloc _ _))) HL.out).mono ?_; rintro e x9 ⟨rfl, hb1⟩; rw [Hm.out])
          obtain ⟨y2, hy2⟩ := below_grow (up (grow_below V y) (up (up_alloc _ _) hb1))
          refine ⟨⟨q + 1, y2, by omega, by go_num, hy2, ?_⟩, by simp [intOf]; omega⟩
          rw [Hsn.out, List.all_append, Hpa.out]; simp [Hm.out]
        · have Hm := Lib.hid hm
          clear hm
          go_wp2_with (go_at_call 100; refine (allMeet_any a x _ _ _ l _ (HG.out.keep (up (grow_below V y) (up_alloc _ _))) HL.out).mono ?_; rintro e x9 ⟨rfl, hb1⟩; rw [Hm.out])
          go_ret
          refine ⟨congrArg (fun v => Ending.returned (Value.bool v)) ?_, up HV.out (up (grow_below V y) (up (up_alloc _ _) hb1))⟩
          unfold settleB; rw [Hno.out]; rw [Hat.out, List.all_eq_false]; exact ⟨x, Hmem.out, by rw [Hm.out]; simp⟩
      · obtain rfl : q = k := by omega
        go_wp2
        obtain ⟨y2, hy2⟩ := below_grow (up HV.out (grow_below V y))
        refine ⟨⟨q + 1, y2, by omega, by go_num, hy2, ?_⟩, by simp [intOf]; omega⟩
        show (allK (settleAt rs l) q && settleAt rs l q) = true
        have := Hpa.out
        rw [List.take_of_length_le (by rw [Hlen.out]; exact Nat.le_refl _)] at this
        rw [Hall.out, Hat.out, this]; rfl
end Go.Proofs.Ytpahbpgkmebieaa
