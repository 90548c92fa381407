/- Contracts of functions of the program and of the reference, a calculus of states, and plain facts: a part of a proof. Own text. -/
import Derived.Test.YtjimjdhdnkhfnaaGreatJal
set_option linter.unusedVariables false
set_option linter.unusedSimpArgs false
set_option linter.unusedSectionVars false
namespace Go.Proofs.YtjimjdhdnkhfnaaGreat
open Go Go.RowKit
set_option maxHeartbeats 2000000
set_option maxRecDepth 100000
theorem tarAt_feed {T : List (List Int)} (hT : ∀ x ∈ T, tarOk x = true) (d : Int) : 0 ≤ (tarAt T d).getD 21 0 ∧ (tarAt T d).getD 21 0 ≤ 10000 := by
  unfold tarAt
  cases h : ifT T d with
  | none => exact ⟨by decide, by decide⟩
  | some x =>
    have := hT x (ifT_mem h)
    unfold tarOk at this
    simp only [Bool.and_eq_true] at this
    exact inB_iff.1 this.2.2.2.1
def feedD (T : List (List Int)) (e d : Int) : Int := e * (tarAt T d).getD 21 0 / 10
theorem feed_any (h : List Int) (A : Option Addr) (n c : Nat) (T : List (List Int)) (B : Option Addr) (m d : Nat) (kn : Int) (lt : List Int) (day : Int) (w : World) (hh : h.length = 9) (hlt : lt.length = 4) (hT : Rw w A n 24 T)
    (hok : ∀ x ∈ T, tarOk x = true) (he : 0 ≤ h.getD 3 0 ∧ h.getD 3 0 ≤ 100) :
    Calls Tryz.prog 132 #[.agg ⟨tld h A n c B m d kn lt⟩, .int .i64 day] w fun e w' => e = .returned (.int .i64 (feedD T (h.getD 3 0) day)) ∧ Below w.heap.size w w' := by
  have hl := tarAt_len hT.wid day
  have hf := tarAt_feed hok day
  have HF := Lib.hid (fun W (hW : Below w.heap.size w W) => tariff_any h A n c T B m d kn lt day W hh (hT.keep hW))
  have HD : Hid (feedD T (h.getD 3 0) day = h.getD 3 0 * (tarAt T day).getD 21 0 / 10) := Lib.hid rfl
  generalize tarAt T day = t at *
  clear hT hok
  obtain ⟨p0, p1, p2, p3, p4, p5, p6, p7, p8, p9, p10, p11, p12, p13, p14, p15, p16, p17, p18, p19, p20, p21, p22, p23, rfl⟩ := list24 hl
  replace HF : Hid (∀ W, Below w.heap.size w W → Calls Tryz.prog 133 #[.agg ⟨tld h A n c B m d kn lt⟩, .int .i64 day] W fun e w' => e = .returned (.agg #[.int .i64 p0, .int .i64 p1, .int .i64 p2, .int .i64 p3, .int .i64 p4, .int .i64 p5, .int .i64 p6, .int .i64 p7, .int .i64 p8, .int .i64 p9, .int .i64 p10, .int .i64 p11, .int .i64 p12, .int .i64 p13, .int .i64 p14, .int .i64 p15, .int .i64 p16, .int .i64 p17, .int .i64 p18, .int .i64 p19, .int .i64 p20, .int .i64 p21, .int .i64 p22, .int .i64 p23]) ∧ Below W.heap.size W w') := HF
  replace HD : Hid (feedD T (h.getD 3 0) day = h.getD 3 0 * p21 / 10) := HD
  replace hf : 0 ≤ p21 ∧ p21 ≤ 10000 := hf
  obtain ⟨f1, f2⟩ := hf
  obtain ⟨h3, hh3⟩ : ∃ x, h.getD 3 0 = x := ⟨_, rfl⟩
  rw [hh3] at he HD ⊢
  have Hh3 := Lib.hid hh3
  clear hh3
  obtain ⟨e1, e2⟩ := he
  go_enter Tryz.func132, Tryz.ntmps132
  go_upto_region 1 with fail
  generalize hW : (World.alloc _ _) = W
  have HB : Hid (Below w.heap.size w W) := Lib.hid (by subst hW; go_grown)
  have KD : Bx W (w.heap.size) 123 (tld h A n c B m d kn lt) := by subst hW; repeat (first | (refine Bx.newAt _ _ _ ?_; first | rfl | (simp only [World.size_alloc]; done) | (simp only [World.size_alloc]; omega)) | refine Bx.old ?_ _)
  have hWs : Hid (W.heap.size = w.heap.size + 1) := Lib.hid (by subst hW; simp)
  clear hW
  have KDl := KD.lt; have KDc := KD.get; have KDf := KD.fr
  have c3 : W.cell? ⟨w.heap.size, 3, none⟩ = some (.int .i64 h3) := by rw [KD.get, ← Hh3.out]; exact tld_h hh (by omega)
  have HKD := Lib.hid KD
  clear KDc
  have hmul : 0 ≤ h3 * p21 ∧ h3 * p21 ≤ 1000000 := ⟨Int.mul_nonneg e1 f1, by
    have := Int.mul_le_mul e2 f2 f1 (by decide); omega⟩
  obtain ⟨m1, m2⟩ := hmul
  have hfld : ∀ w : World, (Instr.field 30 (.agg #[.int .i64 p0, .int .i64 p1, .int .i64 p2, .int .i64 p3, .int .i64 p4, .int .i64 p5, .int .i64 p6, .int .i64 p7, .int .i64 p8, .int .i64 p9, .int .i64 p10, .int .i64 p11, .int .i64 p12, .int .i64 p13, .int .i64 p14, .int .i64 p15, .int .i64 p16, .int .i64 p17, .int .i64 p18, .int .i64 p19, .int .i64 p20, .int .i64 p21, .int .i64 p22, .int .i64 p23]) 3).run Tryz.prog w = .ok (.int .i64 p21) w := fun w => by kernel_rfl
  refine wp_region_grow (by kernel_rfl) (by kernel_rfl) ?_
  repeat (first
    | (refine wpQuiet_row 123 (.tmp 2) (by kernel_rfl) rfl rfl (by rintro _ ⟨z9, rfl⟩; exact rangeAt_keep KD.range KD.lt (grow_below W z9)) Tryz.underlying123 rfl (sz_tld hh hlt) ?_; simp only [Act.put, List.setIfInBounds_toArray, List.set_cons_zero, List.set_cons_succ])
    | go_big_quiet_step ((go_at_call 133; exact quiet_grow rfl (HF.out _ (HB.out.trans ((grow_below W _).mono HB.out.size))))))
  refine wpQuiet_nil ?_
  intro z
  have hbz := grow_below W z
  generalize grow W z = V at *
  replace HB := Lib.hid (up HB.out hbz)
  clear hbz KDl KDf KD HKD c3 HF
  go_wp2
  go_ret
  trace_state
  exact ⟨by rw [HD.out]; rfl, HB.out⟩
end Go.Proofs.YtjimjdhdnkhfnaaGreat
namespace Go.Proofs.YtjimjdhdnkhfnaaGreat
open Go Go.RowKit
set_option maxHeartbeats 2000000
set_option maxRecDepth 100000
theorem rinForce_any (A : Option Addr) (n c : Nat) (T : List (List Int)) (S : Option Addr) (r s : Nat) (B : Option Addr) (m e : Nat) (d : Int) (w : World) (hT : Rw w A n 24 T) :
    Calls Tryz.prog 85 #[.agg #[.slice A n c, .slice S r s, .slice B m e], .int .i64 d] w fun e w' => e = .returned (.tuple #[.agg ⟨ints ((ifT T d).getD zero24)⟩, .bool (ifT T d).isSome]) ∧ Below w.heap.size w w' := by
  have hns := hT.small
  have Hn : Hid (n = T.length) := Lib.hid hT.len
  have HT := Lib.hid hT
  clear hT
  go_enter Tryz.func85, Tryz.ntmps85
  go_upto_region 1 with fail
  generalize hW : (World.alloc _ _) = W
  have HB : Hid (Below w.heap.size w W) := Lib.hid (by subst hW; go_grown)
  have KA : Bx W (w.heap.size) 26 [.slice A n c, .slice S r s, .slice B m e] := by subst hW; repeat (first | (refine Bx.newAt _ _ _ ?_; first | rfl | (simp only [World.size_alloc]; done) | (simp only [World.size_alloc]; omega)) | refine Bx.old ?_ _)
  have KR : Bx W (w.heap.size + 1) 30 (ints zero24) := by subst hW; repeat (first | (refine Bx.newAt _ _ _ ?_; first | rfl | (simp only [World.size_alloc]; done) | (simp only [World.size_alloc]; omega)) | refine Bx.old ?_ _)
  have hWs : Hid (W.heap.size = w.heap.size + 1 + 1) := Lib.hid (by subst hW; simp)
  clear hW
  have KAl := KA.lt; have KAc := KA.get; have KAf := KA.fr; have KRl := KR.lt; have KRc := KR.get; have KRf := KR.fr
  go_wp2_with fail
  go_loopw [6] (fun i wr => ∃ (k : Nat), k ≤ n ∧ i = .int .i64 ((n : Int) - 1 - (k : Int)) ∧ missT d (bakK T k) ∧ wr = W) (fun i _ => (intOf i + 1).toNat)
  case atStart => exact ⟨0, by omega, by simp, fun y hy => absurd hy (by simp [bakK]), rfl⟩
  case round =>
    obtain ⟨k, hk, rfl, hm, rfl⟩ := hrel
    have HM := Lib.hid hm
    clear hm
    by_cases hlt : k < n
    · have hge : (0 : Int) ≤ (n : Int) - 1 - (k : Int) := by omega
      have hkT : n - 1 - k < T.length := by rw [← Hn.out]; omega
      have Hs := Lib.hid (bakK_succ T k)
      obtain ⟨t, ht⟩ := bakK_pre T (k + 1) (n - (k + 1))
      rw [show k + 1 + (n - (k + 1)) = n by omega] at ht
      have Ht := Lib.hid ht
      obtain ⟨b, o, rfl, hbl, hc⟩ := (HT.out.keep HB.out).get _ hkT
      have h24 : (T[n - 1 - k]).length = 24 := HT.out.at hkT
      have Hg : Hid (T.getD (T.length - 1 - k) [] = T[n - 1 - k]) := Lib.hid (by rw [← Hn.out]; simp [hkT])
      have Hc := Lib.hid hc
      clear ht hc
      generalize T[n - 1 - k] = q at *
      have en : ((n : Int) - 1 - (k : Int)).toNat = n - 1 - k := by omega
      have c0 : wr.cell? ⟨b, o + (n - 1 - k) * 24, none⟩ = some (.int .i64 (q.getD 0 0)) := by have := rangeAt_cell Hc.out (j := 0) (by omega); rwa [Nat.add_zero] at this
      by_cases he : q.getD 0 0 ≤ d
      · have Hx : Hid (ifT T d = some q) := Lib.hid (by
          have h1 := Hs.out; rw [Hg.out] at h1
          have h2 := Ht.out; rw [h1] at h2
          exact ifT_hit (x := ((T.length : Int) - 1 - (k : Int), q)) (by rw [Hn.out] at h2; exact h2) HM.out he)
        generalize q.getD 0 0 = q0 at *
        go_wp2_with (first
          | (refine wpList_getAt 30 26 rfl rfl Hc.out (by rw [← en]; rfl) Tryz.underlying30 rfl (sz_t h24) ?_)
          | (refine wpList_put 30 4 27 rfl rfl KR rfl rfl (sa_t h24) (show (ints zero24).length = (ints q).length by rw [ints_len, ints_len, h24]; rfl) (ints_one q) ?_; intro U KU hp))
        exact post_2 rfl rfl rfl KU Tryz.underlying30 rfl (sz_t h24) (v := .bool true) rfl ⟨by rw [Hx.out]; rfl, upP HB.out hp (by omega)⟩
      · have HMx : Hid (missT d (bakK T (k + 1))) := Lib.hid (by
          rw [Hs.out, Hg.out]
          intro y hy
          rcases List.mem_append.1 hy with hy | hy
          · exact HM.out y hy
          · simp only [List.mem_singleton] at hy; subst hy; exact he)
        generalize q.getD 0 0 = q0 at *
        go_wp2
        exact ⟨⟨k + 1, by omega, by go_num, HMx.out, trivial⟩, by simp [intOf]; omega⟩
    · obtain rfl : k = n := by omega
      have hge : ¬ (0 : Int) ≤ (k : Int) - 1 - (k : Int) := by omega
      have Hx : Hid (ifT T d = none) := Lib.hid (ifT_none (by rw [← Hn.out]; exact HM.out))
      go_wp2_with (refine wpList_put 30 4 28 rfl rfl KR rfl rfl (by kernel_rfl) rfl (by kernel_rfl) ?_; intro U KU hp)
      exact post_2 rfl rfl rfl KU Tryz.underlying30 rfl (by kernel_rfl) (v := .bool false) rfl ⟨by rw [Hx.out]; rfl, upP HB.out hp (by omega)⟩
theorem rfed_any (A : Option Addr) (n c : Nat) (T : List (List Int)) (S : Option Addr) (r s : Nat) (B : Option Addr) (m e : Nat) (h : List Int) (day : Int) (w : World) (hh : h.length = 9) (hT : Rw w A n 24 T)
    (hok : ∀ x ∈ T, tarOk x = true) (he : 0 ≤ h.getD 3 0 ∧ h.getD 3 0 ≤ 100) :
    Calls Tryz.prog 135 #[.agg #[.slice A n c, .slice S r s, .slice B m e], .agg ⟨ints h⟩, .int .i64 day] w fun e w' => e = .returned (.int .i64 (feedD T (h.getD 3 0) day)) ∧ Below w.heap.size w w' := by
  have hl := tarAt_len hT.wid day
  have hf := tarAt_feed hok day
  have HF := Lib.hid (fun W (hW : Below w.heap.size w W) => rinForce_any A n c T S r s B m e day W (hT.keep hW))
  have HD : Hid (feedD T (h.getD 3 0) day = h.getD 3 0 * (tarAt T day).getD 21 0 / 10) := Lib.hid rfl
  have HT : Hid (tarAt T day = (ifT T day).getD zero24) := Lib.hid rfl
  generalize (ifT T day).isSome = is at HF
  rw [← HT.out] at HF
  generalize tarAt T day = t at *
  clear hT hok HT
  obtain ⟨a0, a1, a2, a3, a4, a5, a6, a7, a8, rfl⟩ := list9 hh
  obtain ⟨f1, f2⟩ := hf
  obtain ⟨e1, e2⟩ := he
  replace e1 : 0 ≤ a3 := e1
  replace e2 : a3 ≤ 100 := e2
  replace HD : Hid (feedD T a3 day = a3 * t.getD 21 0 / 10) := HD
  show Calls Tryz.prog 135 #[.agg #[.slice A n c, .slice S r s, .slice B m e], .agg #[.int .i64 a0, .int .i64 a1, .int .i64 a2, .int .i64 a3, .int .i64 a4, .int .i64 a5, .int .i64 a6, .int .i64 a7, .int .i64 a8], .int .i64 day] w fun e w' => e = .returned (.int .i64 (feedD T a3 day)) ∧ Below w.heap.size w w'
  obtain ⟨p, hp⟩ : ∃ x, t.getD 21 0 = x := ⟨_, rfl⟩
  rw [hp] at f1 f2 HD
  have Hp := Lib.hid hp
  clear hp
  have hmul : 0 ≤ a3 * p ∧ a3 * p ≤ 1000000 := ⟨Int.mul_nonneg e1 f1, by
    have := Int.mul_le_mul e2 f2 f1 (by decide); omega⟩
  obtain ⟨m1, m2⟩ := hmul
  go_enter Tryz.func135, Tryz.ntmps135
  go_upto_region 1 with fail
  generalize hW : (World.alloc _ _) = W
  have HB : Hid (Below w.heap.size w W) := Lib.hid (by subst hW; go_grown)
  have KA : Bx W (w.heap.size) 26 [.slice A n c, .slice S r s, .slice B m e] := by subst hW; repeat (first | (refine Bx.newAt _ _ _ ?_; first | rfl | (simp only [World.size_alloc]; done) | (simp only [World.size_alloc]; omega)) | refine Bx.old ?_ _)
  have KH : Bx W (w.heap.size + 1) 32 [.int .i64 a0, .int .i64 a1, .int .i64 a2, .int .i64 a3, .int .i64 a4, .int .i64 a5, .int .i64 a6, .int .i64 a7, .int .i64 a8] := by subst hW; repeat (first | (refine Bx.newAt _ _ _ ?_; first | rfl | (simp only [World.size_alloc]; done) | (simp only [World.size_alloc]; omega)) | refine Bx.old ?_ _)
  have hWs : Hid (W.heap.size = w.heap.size + 1 + 1) := Lib.hid (by subst hW; simp)
  clear hW
  have KAl := KA.lt; have KAc := KA.get; have KAf := KA.fr; have KHl := KH.lt; have KHc := KH.get; have KHf := KH.fr
  go_wp2_with (first
    | (go_at_call 85; refine (HF.out _ HB.out).mono ?_; rintro e3 X ⟨rfl, hbx⟩; clear KAl KAc KAf; replace KA := KA.keep hbx; have KAl := KA.lt; have KAc := KA.get; have KAf := KA.fr; clear KHl KHc KHf; replace KH := KH.keep hbx; have KHl := KH.lt; have KHc := KH.get; have KHf := KH.fr; replace HB := Lib.hid (up HB.out hbx); clear hbx)
    | (refine wpList_putNew 30 7 13 rfl rfl rfl rfl (sa_t hl) (show 24 = (ints t).length by rw [ints_len, hl]) (ints_one t) ?_; intro U KU hbu hsu; clear KAl KAc KAf; replace KA := KA.keep hbu; have KAl := KA.lt; have KAc := KA.get; have KAf := KA.fr; clear KHl KHc KHf; replace KH := KH.keep hbu; have KHl := KH.lt; have KHc := KH.get; have KHf := KH.fr; replace HB := Lib.hid (up HB.out hbu); clear hbu; have KUl := KU.lt; have c21 : U.cell? ⟨X.heap.size, 21, none⟩ = some (.int .i64 p) := by (rw [KU.get, ← Hp.out]; exact ints_get (by omega))))
  go_ret
  exact ⟨by rw [HD.out]; rfl, HB.out⟩
end Go.Proofs.YtjimjdhdnkhfnaaGreat
namespace Go.Proofs.YtjimjdhdnkhfnaaGreat
open Go Go.RowKit
set_option maxHeartbeats 2000000
set_option maxRecDepth 100000
def marG (f : Int → Int) (p day lim : Int) : Nat → Int → Int → Int
  | 0, _, _ => -1
  | n + 1, d, acc => if d ≤ day ∧ d ≤ lim ∧ 0 < p then (if p ≤ acc + f d then d else marG f p day lim n (d + 1) (acc + f d)) else -1
def marN (T : List (List Int)) (h : List Int) (day : Int) : Int :=
  marG (feedD T (h.getD 3 0)) (h.getD 4 0) day (h.getD 6 0 + 720) 722 (h.getD 6 0) 0
theorem feedD_in {T : List (List Int)} {e : Int} (hok : ∀ x ∈ T, tarOk x = true) (he : 0 ≤ e ∧ e ≤ 100) (d : Int) : 0 ≤ feedD T e d ∧ feedD T e d ≤ 1000000 := by
  have hf := tarAt_feed hok d
  show 0 ≤ e * (tarAt T d).getD 21 0 / 10 ∧ e * (tarAt T d).getD 21 0 / 10 ≤ 1000000
  generalize (tarAt T d).getD 21 0 = p at *
  have hm : 0 ≤ e * p := Int.mul_nonneg he.1 hf.1
  have hm2 : e * p ≤ 1000000 := by have := Int.mul_le_mul he.2 hf.2 hf.1 (by decide); omega
  omega
theorem rmarket_any (A : Option Addr) (n c : Nat) (T : List (List Int)) (S : Option Addr) (r s : Nat) (B : Option Addr) (m e : Nat) (h : List Int) (day : Int) (w : World) (hh : h.length = 9) (hT : Rw w A n 24 T)
    (hok : ∀ x ∈ T, tarOk x = true) (he : 0 ≤ h.getD 3 0 ∧ h.getD 3 0 ≤ 100) (hs : 0 ≤ h.getD 6 0 ∧ h.getD 6 0 ≤ 1000000) :
    Calls Tryz.prog 130 #[.agg #[.slice A n c, .slice S r s, .slice B m e], .agg ⟨ints h⟩, .int .i64 day] w fun e w' => e = .returned (.int .i64 (marN T h day)) ∧ Below w.heap.size w w' := by
  have HF := Lib.hid (fun W d (hW : Below w.heap.size w W) => rfed_any A n c T S r s B m e h d W hh (hT.keep hW) hok he)
  have HI := Lib.hid (fun d => feedD_in hok he d)
  have HM : Hid (marN T h day = marG (feedD T (h.getD 3 0)) (h.getD 4 0) day (h.getD 6 0 + 720) 722 (h.getD 6 0) 0) := Lib.hid rfl
  generalize marN T h day = R at *
  generalize feedD T (h.getD 3 0) = f at *
  clear hT hok he
  obtain ⟨a0, a1, a2, a3, a4, a5, a6, a7, a8, rfl⟩ := list9 hh
  replace hs : 0 ≤ a6 ∧ a6 ≤ 1000000 := hs
  obtain ⟨s1, s2⟩ := hs
  replace HM : Hid (R = marG f a4 day (a6 + 720) 722 a6 0) := HM
  replace HF : Hid (∀ (W : World) (d : Int), Below w.heap.size w W → Calls Tryz.prog 135 #[.agg #[.slice A n c, .slice S r s, .slice B m e], .agg #[.int .i64 a0, .int .i64 a1, .int .i64 a2, .int .i64 a3, .int .i64 a4, .int .i64 a5, .int .i64 a6, .int .i64 a7, .int .i64 a8], .int .i64 d] W fun e w' => e = .returned (.int .i64 (f d)) ∧ Below W.heap.size W w') := HF
  show Calls Tryz.prog 130 #[.agg #[.slice A n c, .slice S r s, .slice B m e], .agg #[.int .i64 a0, .int .i64 a1, .int .i64 a2, .int .i64 a3, .int .i64 a4, .int .i64 a5, .int .i64 a6, .int .i64 a7, .int .i64 a8], .int .i64 day] w fun e w' => e = .returned (.int .i64 R) ∧ Below w.heap.size w w'
  clear hh
  have e0 : IntKind.i64.wrap (a6 + 720) = a6 + 720 := by rw [IntWalk.i64_in _ (by omega)]
  go_enter Tryz.func130, Tryz.ntmps130
  go_upto_region 1 with fail
  generalize hW : (World.alloc _ _) = W
  have HB : Hid (Below w.heap.size w W) := Lib.hid (by subst hW; go_grown)
  have KA : Bx W (w.heap.size) 26 [.slice A n c, .slice S r s, .slice B m e] := by subst hW; repeat (first | (refine Bx.newAt _ _ _ ?_; first | rfl | (simp only [World.size_alloc]; done) | (simp only [World.size_alloc]; omega)) | refine Bx.old ?_ _)
  have KH : Bx W (w.heap.size + 1) 32 [.int .i64 a0, .int .i64 a1, .int .i64 a2, .int .i64 a3, .int .i64 a4, .int .i64 a5, .int .i64 a6, .int .i64 a7, .int .i64 a8] := by subst hW; repeat (first | (refine Bx.newAt _ _ _ ?_; first | rfl | (simp only [World.size_alloc]; done) | (simp only [World.size_alloc]; omega)) | refine Bx.old ?_ _)
  have hWs : Hid (W.heap.size = w.heap.size + 1 + 1) := Lib.hid (by subst hW; simp)
  clear hW
  have KAl := KA.lt; have KAc := KA.get; have KAf := KA.fr; have KHl := KH.lt; have KHc := KH.get; have KHf := KH.fr
  go_wp2_with fail
  go_loopw [7, 8] (fun t i wr => ∃ (k : Nat) (acc : Int), k ≤ 721 ∧ i = .int .i64 (a6 + k) ∧ t = .int .i64 acc ∧ 0 ≤ acc ∧ acc ≤ 1000000 * (k : Int) ∧ marG f a4 day (a6 + 720) (722 - k) (a6 + k) acc = R ∧ Bx wr w.heap.size 26 [.slice A n c, .slice S r s, .slice B m e] ∧ Bx wr (w.heap.size + 1) 32 [.int .i64 a0, .int .i64 a1, .int .i64 a2, .int .i64 a3, .int .i64 a4, .int .i64 a5, .int .i64 a6, .int .i64 a7, .int .i64 a8] ∧ Below w.heap.size w wr) (fun _ i _ => (a6 + 721 - intOf i).toNat)
  case atStart => exact ⟨0, 0, by omega, by simp, rfl, by omega, by omega, by rw [HM.out]; simp, KA, KH, HB.out⟩
  case round =>
    clear KAl KAc KAf KA KHl KHc KHf KH HB
    obtain ⟨k, acc, hk, rfl, rfl, t1, t2, hr, KA, KH, hb⟩ := hrel
    have KAl := KA.lt; have KAc := KA.get; have KAf := KA.fr; have KHl := KH.lt; have KHc := KH.get; have KHf := KH.fr
    have HB := Lib.hid hb
    have hu : 722 - k = (721 - k) + 1 := by omega
    rw [hu, marG] at hr
    have Hr := Lib.hid hr
    clear hb hr hu
    obtain ⟨d, hd⟩ : ∃ d, a6 + (k : Int) = d := ⟨_, rfl⟩
    rw [hd] at Hr ⊢
    have hdd := Lib.hid hd
    have d1 : 0 ≤ d ∧ d ≤ 1001000 := by omega
    obtain ⟨d1, d2⟩ := d1
    clear hd
    by_cases c1 : d ≤ day
    · by_cases c2 : d ≤ a6 + 720
      · by_cases c3 : a4 > 0
        · have Hr2 : Hid ((if a4 ≤ acc + f d then d else marG f a4 day (a6 + 720) (721 - k) (d + 1) (acc + f d)) = R) := Lib.hid ((if_pos (show d ≤ day ∧ d ≤ a6 + 720 ∧ 0 < a4 from ⟨c1, c2, c3⟩)).symm.trans Hr.out)
          have hf := HI.out d
          have HFd := Lib.hid (fun W hW => HF.out W d hW)
          clear Hr
          generalize f d = fd at *
          obtain ⟨f1, f2⟩ := hf
          have ew : IntKind.i64.wrap (acc + fd) = acc + fd := by rw [IntWalk.i64_in _ (by omega)]
          by_cases c4 : acc + fd ≥ a4
          · have HR : Hid (R = d) := Lib.hid (by rw [← Hr2.out, if_pos c4])
            go_wp2_with (go_at_call 135; refine (HFd.out _ HB.out).mono ?_; rintro e3 X ⟨rfl, hbx⟩; clear KAl KAc KAf; replace KA := KA.keep hbx; have KAl := KA.lt; have KAc := KA.get; have KAf := KA.fr; clear KHl KHc KHf; replace KH := KH.keep hbx; have KHl := KH.lt; have KHc := KH.get; have KHf := KH.fr; replace HB := Lib.hid (up HB.out hbx); clear hbx)
            go_ret
            exact ⟨ret_int HR.out.symm, HB.out⟩
          · have HR : Hid (marG f a4 day (a6 + 720) (721 - k) (d + 1) (acc + fd) = R) := Lib.hid (by rw [← Hr2.out, if_neg c4])
            have ew2 : IntKind.i64.wrap (d + 1) = d + 1 := by rw [IntWalk.i64_in _ (by omega)]
            go_wp2_with (go_at_call 135; refine (HFd.out _ HB.out).mono ?_; rintro e3 X ⟨rfl, hbx⟩; clear KAl KAc KAf; replace KA := KA.keep hbx; have KAl := KA.lt; have KAc := KA.get; have KAf := KA.fr; clear KHl KHc KHf; replace KH := KH.keep hbx; have KHl := KH.lt; have KHc := KH.get; have KHf := KH.fr; replace HB := Lib.hid (up HB.out hbx); clear hbx)
            have h5 := hdd.out
            have hkn : d + 1 = a6 + ((k + 1 : Nat) : Int) := by omega
            exact ⟨⟨k + 1, acc + fd, by omega, by rw [← hkn], rfl, by omega, by omega, by rw [← HR.out, show 722 - (k + 1) = 721 - k by omega, ← hkn], KA, KH, HB.out⟩, by simp [intOf]; omega⟩
        · have HR : Hid (R = -1) := Lib.hid (by rw [← Hr.out, if_neg (fun hx => c3 hx.2.2)])
          go_wp2
          go_ret
          exact ⟨ret_int HR.out.symm, HB.out⟩
      · have HR : Hid (R = -1) := Lib.hid (by rw [← Hr.out, if_neg (fun hx => c2 hx.2.1)])
        go_wp2
        go_ret
        exact ⟨ret_int HR.out.symm, HB.out⟩
    · have HR : Hid (R = -1) := Lib.hid (by rw [← Hr.out, if_neg (fun hx => c1 hx.1)])
      go_wp2
      go_ret
      exact ⟨ret_int HR.out.symm, HB.out⟩
end Go.Proofs.YtjimjdhdnkhfnaaGreat
namespace Go.Proofs.YtjimjdhdnkhfnaaGreat
open Go Go.RowKit
set_option maxHeartbeats 1000000
set_option maxRecDepth 100000
theorem isC (X : World) (t : TypeId) (l : List Int) (h : l.length < 1000) : Is (X.alloc (.cells ⟨ints l⟩ t)) (some ⟨X.heap.size, 0, none⟩) l.length l :=
  ⟨rfl, by omega, fun k hk => ⟨X.heap.size, 0, rfl, by simp, by
    rw [cell_of_row _ _ _ _ _ _ (heap_alloc_new _ _)]
    simp [ints, hk]⟩⟩
theorem orE_step {l : List Int} {k : Nat} (hk : k < l.length) (h : l[k] = 0) : orE (l.drop k) = orE (l.drop (k + 1)) := by
  rw [List.drop_eq_getElem_cons hk, orE, if_pos h]
theorem orE_hit {l : List Int} {k : Nat} (hk : k < l.length) (h : l[k] ≠ 0) : orE (l.drop k) = l[k] := by
  rw [List.drop_eq_getElem_cons hk, orE, if_neg h]
theorem OrE_any (L : Option Addr) (r s : Nat) (l : List Int) (w : World) (hl : Is w L r l) :
    Calls Tryz.prog 60 #[.slice L r s] w fun e w' => e = .returned (.int .i64 (orE l)) ∧ w = w' := by
  have hn := hl.small
  have Hn : Hid (r = l.length) := Lib.hid hl.len
  have Hl := Lib.hid hl
  clear hl
  go_enter Tryz.func60, Tryz.ntmps60
  go_wp2_with fail
  go_loopw [8] (fun i wr => ∃ (k : Nat), k ≤ r ∧ i = .int .i64 k ∧ w = wr ∧ orE (l.drop k) = orE l) (fun i _ => r - (intOf i).toNat)
  case atStart => exact ⟨0, by omega, rfl, rfl, rfl⟩
  case round =>
    obtain ⟨k, hk, rfl, rfl, hor⟩ := hrel
    have Hor := Lib.hid hor
    clear hor
    by_cases hlt : k < r
    · have hkl : k < l.length := by rw [← Hn.out]; exact hlt
      obtain ⟨b, o, rfl, hb, hc⟩ := Hl.out.get k hkl
      by_cases h0 : l[k] = 0
      · have Ho := Lib.hid (orE_step hkl h0)
        rw [h0] at hc
        go_wp2
        refine ⟨⟨k + 1, by omega, by go_num, trivial, by rw [← Ho.out]; exact Hor.out⟩, by simp [intOf]; omega⟩
      · have Ho := Lib.hid (orE_hit hkl h0)
        generalize l[k] = x at *
        have hx : (x != 0) = true := by simpa using h0
        go_wp2
        go_ret
        exact ⟨ret_int (by rw [← Hor.out, Ho.out]), rfl⟩
    · obtain rfl : k = r := by omega
      have Ho : Hid (orE l = 0) := Lib.hid (by rw [← Hor.out, Hn.out, List.drop_length]; rfl)
      go_wp2
      go_ret
      exact ⟨ret_int Ho.out.symm, rfl⟩
theorem OrI_any (L : Option Addr) (r s : Nat) (l : List Int) (w : World) (hl : Is w L r l) :
    Calls Tryz.prog 158 #[.slice L r s] w fun e w' => e = .returned (.int .i64 (orE l)) ∧ w = w' := by
  have hn := hl.small
  have Hn : Hid (r = l.length) := Lib.hid hl.len
  have Hl := Lib.hid hl
  clear hl
  go_enter Tryz.func158, Tryz.ntmps158
  go_wp2_with fail
  go_loopw [8] (fun i wr => ∃ (k : Nat), k ≤ r ∧ i = .int .i64 k ∧ w = wr ∧ orE (l.drop k) = orE l) (fun i _ => r - (intOf i).toNat)
  case atStart => exact ⟨0, by omega, rfl, rfl, rfl⟩
  case round =>
    obtain ⟨k, hk, rfl, rfl, hor⟩ := hrel
    have Hor := Lib.hid hor
    clear hor
    by_cases hlt : k < r
    · have hkl : k < l.length := by rw [← Hn.out]; exact hlt
      obtain ⟨b, o, rfl, hb, hc⟩ := Hl.out.get k hkl
      by_cases h0 : l[k] = 0
      · have Ho := Lib.hid (orE_step hkl h0)
        rw [h0] at hc
        go_wp2
        refine ⟨⟨k + 1, by omega, by go_num, trivial, by rw [← Ho.out]; exact Hor.out⟩, by simp [intOf]; omega⟩
      · have Ho := Lib.hid (orE_hit hkl h0)
        generalize l[k] = x at *
        have hx : (x != 0) = true := by simpa using h0
        go_wp2
        go_ret
        exact ⟨ret_int (by rw [← Hor.out, Ho.out]), rfl⟩
    · obtain rfl : k = r := by omega
      have Ho : Hid (orE l = 0) := Lib.hid (by rw [← Hor.out, Hn.out, List.drop_length]; rfl)
      go_wp2
      go_ret
      exact ⟨ret_int Ho.out.symm, rfl⟩
def posI (l : List Int) (x : Int) (k : Nat) : Int :=
  match l with
  | [] => -1
  | y :: r => if (x == y) = true then k else posI r x (k + 1)
theorem posI_yes {y x : Int} (r : List Int) (k : Nat) (h : (x == y) = true) : posI (y :: r) x k = k := by unfold posI; rw [if_pos h]
theorem posI_no {y x : Int} (r : List Int) (k : Nat) (h : (x == y) = false) : posI (y :: r) x k = posI r x (k + 1) := by rw [posI, if_neg (by simp [h])]
theorem posI_ge (l : List Int) (x : Int) : ∀ k, decide (posI l x k ≥ 0) = l.contains x := by
  induction l with
  | nil => intro k; rfl
  | cons y r ih =>
    intro k
    cases h : (x == y)
    · rw [posI_no r k h, ih, List.contains_cons, h]; rfl
    · rw [posI_yes r k h, List.contains_cons, h]; simp
theorem Index_any (L : Option Addr) (r s : Nat) (l : List Int) (x : Int) (w : World) (hl : Is w L r l) :
    Calls Tryz.prog 163 #[.slice L r s, .int .i64 x] w fun e w' => e = .returned (.int .i64 (posI l x 0)) ∧ w = w' := by
  have hn := hl.small
  have Hn : Hid (r = l.length) := Lib.hid hl.len
  have Hl := Lib.hid hl
  clear hl
  go_enter Tryz.func163, Tryz.ntmps163
  go_wp2_with fail
  go_loopw [8] (fun i wr => ∃ (k : Nat), k ≤ r ∧ i = .int .i64 k ∧ w = wr ∧ posI (l.drop k) x k = posI l x 0) (fun i _ => r - (intOf i).toNat)
  case atStart => exact ⟨0, by omega, rfl, rfl, rfl⟩
  case round =>
    obtain ⟨k, hk, rfl, rfl, hor⟩ := hrel
    have Hor := Lib.hid hor
    clear hor
    by_cases hlt : k < r
    · have hkl : k < l.length := by rw [← Hn.out]; exact hlt
      obtain ⟨b, o, rfl, hb, hc⟩ := Hl.out.get k hkl
      have Hd := Lib.hid (List.drop_eq_getElem_cons hkl)
      generalize l[k] = y at *
      cases h0 : (x == y)
      · have Ho := Lib.hid (posI_no (l.drop (k + 1)) k h0)
        go_wp2
        refine ⟨⟨k + 1, by omega, by go_num, trivial, by rw [← Ho.out, ← Hd.out]; exact Hor.out⟩, by simp [intOf]; omega⟩
      · have Ho := Lib.hid (posI_yes (l.drop (k + 1)) k h0)
        go_wp2
        go_ret
        exact ⟨ret_int (by rw [← Hor.out, Hd.out, Ho.out]), rfl⟩
    · obtain rfl : k = r := by omega
      have Ho : Hid (posI l x 0 = -1) := Lib.hid (by rw [← Hor.out, Hn.out, List.drop_length]; rfl)
      go_wp2
      go_ret
      exact ⟨ret_int Ho.out.symm, rfl⟩
theorem Contains_any (L : Option Addr) (r s : Nat) (l : List Int) (x : Int) (w : World) (hl : Is w L r l) :
    Calls Tryz.prog 159 #[.slice L r s, .int .i64 x] w fun e w' => e = .returned (.bool (l.contains x)) ∧ w = w' := by
  have HP := Lib.hid (posI_ge l x 0)
  have HI := Lib.hid (Index_any L r s l x w hl)
  clear hl
  generalize posI l x 0 = q at *
  go_enter Tryz.func159, Tryz.ntmps159
  go_wp2_with (go_at_call 163; refine HI.out.mono ?_; rintro e w' ⟨rfl, rfl⟩)
  go_ret
  exact ⟨by rw [← HP.out]; rfl, rfl⟩
def sayN (n h : List Int) (d : Int) : Bool := cntB (n.getD 5 0) (n.getD 6 0) d && (n.getD 1 0 == h.getD 0 0 && inB (n.getD 4 0) (h.getD 6 0) d)
theorem saysOf_any (n h : List Int) (d : Int) (hn : n.length = 7) (hh : h.length = 9) (w : World) :
    Calls Tryz.prog 147 #[.agg ⟨ints n⟩, .agg ⟨ints h⟩, .int .i64 d] w fun e w' => e = .returned (.bool (sayN n h d)) ∧ Below w.heap.size w w' := by
  obtain ⟨n0, n1, n2, n3, n4, n5, n6, rfl⟩ := list7 hn
  obtain ⟨h0, h1, h2, h3, h4, h5, h6, h7, h8, rfl⟩ := list9 hh
  show Calls Tryz.prog 147 #[.agg #[.int .i64 n0, .int .i64 n1, .int .i64 n2, .int .i64 n3, .int .i64 n4, .int .i64 n5, .int .i64 n6], .agg #[.int .i64 h0, .int .i64 h1, .int .i64 h2, .int .i64 h3, .int .i64 h4, .int .i64 h5, .int .i64 h6, .int .i64 h7, .int .i64 h8], .int .i64 d] w _
  have HN : Hid (sayN [n0, n1, n2, n3, n4, n5, n6] [h0, h1, h2, h3, h4, h5, h6, h7, h8] d = (cntB n5 n6 d && (n1 == h0 && inB n4 h6 d))) := Lib.hid rfl
  clear hn hh
  go_enter Tryz.func147, Tryz.ntmps147
  go_upto_region 1 with fail
  generalize hW : (World.alloc _ _) = W
  have HB : Hid (Below w.heap.size w W) := Lib.hid (by subst hW; go_grown)
  have KN : Bx W (w.heap.size) 34 [.int .i64 n0, .int .i64 n1, .int .i64 n2, .int .i64 n3, .int .i64 n4, .int .i64 n5, .int .i64 n6] := by subst hW; repeat (first | (refine Bx.newAt _ _ _ ?_; first | rfl | (simp only [World.size_alloc]; done) | (simp only [World.size_alloc]; omega)) | refine Bx.old ?_ _)
  have KH : Bx W (w.heap.size + 1) 32 [.int .i64 h0, .int .i64 h1, .int .i64 h2, .int .i64 h3, .int .i64 h4, .int .i64 h5, .int .i64 h6, .int .i64 h7, .int .i64 h8] := by subst hW; repeat (first | (refine Bx.newAt _ _ _ ?_; first | rfl | (simp only [World.size_alloc]; done) | (simp only [World.size_alloc]; omega)) | refine Bx.old ?_ _)
  have hWs : Hid (W.heap.size = w.heap.size + 1 + 1) := Lib.hid (by subst hW; simp)
  clear hW
  have KNl := KN.lt; have KNc := KN.get; have KNf := KN.fr; have KHl := KH.lt; have KHc := KH.get; have KHf := KH.fr
  go_wp2_with (first
    | (go_at_call 125; refine (counts_any _ _ _ _).mono ?_; rintro e w' ⟨rfl, rfl⟩; generalize hq : cntB _ _ _ = q; cases q)
    | (go_at_call 76; refine (within_any _ _ _ _).mono ?_; rintro e w' ⟨rfl, rfl⟩; generalize hq2 : inB _ _ _ = q; cases q))
  all_goals (go_ret; refine ⟨?_, HB.out⟩; rw [HN.out]; first | (simp [*]; done) | (refine rbEq ?_; simp [*]))
end Go.Proofs.YtjimjdhdnkhfnaaGreat
namespace Go.Proofs.YtjimjdhdnkhfnaaGreat
open Go Go.RowKit
set_option maxHeartbeats 4000000
set_option maxRecDepth 100000
theorem infoN : (Tryz.prog.info? 34).map (fun i => (i.zero, i.size, i.bytes)) = some (some (.agg #[.int .i64 0, .int .i64 0, .int .i64 0, .int .i64 0, .int .i64 0, .int .i64 0, .int .i64 0]), 7, 56) := by kernel_rfl
theorem OV.monoB {w : World} {base k : Nat} {e : TypeId} {v : Value} {L : List (List Value)} (h : OV w base e k v L) {base' : Nat} (hb : base' ≤ base) : OV w base' e k v L := by
  refine ⟨⟨h.h.1, ?_⟩, h.wid⟩
  rcases h.h.2 with h2 | ⟨g, cap, cur, hv, hg, r⟩
  · exact .inl h2
  · exact .inr ⟨g, cap, cur, hv, Nat.le_trans hb hg, r⟩
def sayL (N : List (List Int)) (h : List Int) (d : Int) : List (List Int) := N.filter (fun n => sayN n h d)
def sayK (N : List (List Int)) (h : List Int) (d : Int) (k : Nat) : List (List Int) := (N.take k).filter (fun n => sayN n h d)
theorem sayK_yes {N : List (List Int)} {h : List Int} {d : Int} {k : Nat} (hk : k < N.length) (hs : sayN N[k] h d = true) : sayK N h d (k + 1) = sayK N h d k ++ [N[k]] := by
  unfold sayK; rw [List.take_succ_eq_append_getElem hk, List.filter_append]; simp [hs]
theorem sayK_no {N : List (List Int)} {h : List Int} {d : Int} {k : Nat} (hk : k < N.length) (hs : sayN N[k] h d = false) : sayK N h d (k + 1) = sayK N h d k := by
  unfold sayK; rw [List.take_succ_eq_append_getElem hk, List.filter_append]; simp [hs]
theorem sayK_all (N : List (List Int)) (h : List Int) (d : Int) : sayK N h d N.length = sayL N h d := by unfold sayK sayL; rw [List.take_length]
theorem sayK_len (N : List (List Int)) (h : List Int) (d : Int) (k : Nat) : (sayK N h d k).length ≤ k := by
  unfold sayK; exact Nat.le_trans (List.length_filter_le _ _) (by rw [List.length_take]; omega)
theorem rsays_any (A : Option Addr) (n c : Nat) (S : Option Addr) (r s : Nat) (B : Option Addr) (m e : Nat) (N : List (List Int)) (h : List Int) (d : Int) (w : World) (hh : h.length = 9) (hN : Rw w B m 7 N) (h60 : m ≤ 1000) :
    Calls Tryz.prog 93 #[.agg #[.slice A n c, .slice S r s, .slice B m e], .agg ⟨ints h⟩, .int .i64 d] w fun e w' => ∃ v, e = .returned v ∧ OR w' w.heap.size 34 7 v (sayL N h d) ∧ Below w.heap.size w w' := by
  have Hm : Hid (m = N.length) := Lib.hid hN.len
  have HN := Lib.hid hN
  clear hN
  have HSt : Hid (∀ q0 q1 q2 q3 q4 q5 q6 : Int, sayN [q0, q1, q2, q3, q4, q5, q6] h d = (cntB q5 q6 d && (q1 == h.getD 0 0 && inB q4 (h.getD 6 0) d))) := Lib.hid (fun _ _ _ _ _ _ _ => rfl)
  obtain ⟨h0, hh0⟩ : ∃ x, h.getD 0 0 = x := ⟨_, rfl⟩
  obtain ⟨h6, hh6⟩ : ∃ x, h.getD 6 0 = x := ⟨_, rfl⟩
  rw [hh0, hh6] at HSt
  have Hh0 := Lib.hid hh0; have Hh6 := Lib.hid hh6
  clear hh0 hh6
  go_enter Tryz.func93, Tryz.ntmps93
  go_upto_region 1 with fail
  generalize hW : (World.alloc _ _) = W
  have HB : Hid (Below w.heap.size w W) := Lib.hid (by subst hW; go_grown)
  have KA : Bx W (w.heap.size) 26 [.slice A n c, .slice S r s, .slice B m e] := by subst hW; repeat (first | (refine Bx.newAt _ _ _ ?_; first | rfl | (simp only [World.size_alloc]; done) | (simp only [World.size_alloc]; omega)) | refine Bx.old ?_ _)
  have KH : Bx W (w.heap.size + 1) 32 (ints h) := by subst hW; repeat (first | (refine Bx.newAt _ _ _ ?_; first | rfl | (simp only [World.size_alloc]; done) | (simp only [World.size_alloc]; omega)) | refine Bx.old ?_ _)
  have hWs : Hid (W.heap.size = w.heap.size + 1 + 1) := Lib.hid (by subst hW; simp)
  clear hW
  have KAl := KA.lt; have KAc := KA.get; have KAf := KA.fr; have KHl := KH.lt; have KHc := KH.get; have KHf := KH.fr
  go_wp2_with fail
  have hWw : w.heap.size ≤ W.heap.size := HB.out.size
  clear KAl KAc KAf KHl KHc KHf
  go_loopw [7, 8] (fun v i wr => ∃ (k : Nat), k ≤ m ∧ i = .int .i64 k ∧ OR wr W.heap.size 34 7 v (sayK N h d k) ∧ Below W.heap.size W wr) (fun _ i _ => m - (intOf i).toNat)
  case atStart => exact ⟨0, by omega, rfl, OV.nil _ _ _ _, Below.refl _ _⟩
  case round =>
    obtain ⟨k, hk, rfl, ho, hb⟩ := hrel
    have HO := Lib.hid ho
    have KAr := KA.keep hb
    have KHr := KH.keep hb
    have HBr := Lib.hid hb
    have hNr := HN.out.keep (up HB.out hb)
    have hWr := hb.size
    clear ho hb
    obtain ⟨V, cv, ev⟩ := OV.shape HO.out
    rw [List.length_map] at ev
    subst ev
    have hlk := sayK_len N h d k
    have KArl := KAr.lt; have KArc := KAr.get; have KArf := KAr.fr
    by_cases hkm : k < m
    · have hkl : k < N.length := by rw [← Hm.out]; exact hkm
      obtain ⟨b, o, rfl, hbl, hc⟩ := hNr.get k hkl
      have h7 : (N[k]).length = 7 := hNr.at hkl
      have Hy := Lib.hid (sayK_yes (h := h) (d := d) hkl)
      have Hn := Lib.hid (sayK_no (h := h) (d := d) hkl)
      have ch0 : wr.cell? ⟨w.heap.size + 1, 0, none⟩ = some (.int .i64 h0) := by rw [KHr.get, ← Hh0.out]; exact ints_get (by omega)
      have ch6 : wr.cell? ⟨w.heap.size + 1, 6, none⟩ = some (.int .i64 h6) := by rw [KHr.get, ← Hh6.out]; exact ints_get (by omega)
      have hKHl := KHr.lt
      generalize N[k] = q at *
      obtain ⟨q0, q1, q2, q3, q4, q5, q6, rfl⟩ := list7 h7
      rw [HSt.out] at Hy Hn
      have Hc := Lib.hid hc
      clear hc hNr
      go_upto_region 6 with (first
        | (refine wpList_getAt 34 20 rfl rfl Hc.out rfl Tryz.underlying34 rfl (sz_n h7) ?_)
        | (refine wpList_putNew 34 9 21 rfl rfl rfl rfl (sa_n h7) rfl (ints_one _) ?_; intro U KU hbu hsu; replace KU : Bx U wr.heap.size 34 [.int .i64 q0, .int .i64 q1, .int .i64 q2, .int .i64 q3, .int .i64 q4, .int .i64 q5, .int .i64 q6] := KU; have KUl := KU.lt; have KUc := KU.get; have KUf := KU.fr; replace ch0 := (hbu.cell (p := ⟨w.heap.size + 1, 0, none⟩) hKHl).trans ch0; replace ch6 := (hbu.cell (p := ⟨w.heap.size + 1, 6, none⟩) hKHl).trans ch6; have HOU := Lib.hid (OV.keep HO.out hbu); have HBU := Lib.hid (up HBr.out hbu); clear hsu))
      have hBX : Bx (U.alloc (.cells #[.int .i64 q0, .int .i64 q1, .int .i64 q2, .int .i64 q3, .int .i64 q4, .int .i64 q5, .int .i64 q6] 34)) U.heap.size 34 [.int .i64 q0, .int .i64 q1, .int .i64 q2, .int .i64 q3, .int .i64 q4, .int .i64 q5, .int .i64 q6] := Bx.new U [.int .i64 q0, .int .i64 q1, .int .i64 q2, .int .i64 q3, .int .i64 q4, .int .i64 q5, .int .i64 q6] 34
      have HOX := Lib.hid (OV.keep HOU.out (up_alloc U (.cells #[.int .i64 q0, .int .i64 q1, .int .i64 q2, .int .i64 q3, .int .i64 q4, .int .i64 q5, .int .i64 q6] 34)))
      have HBX := Lib.hid (up HBU.out (up_alloc U (.cells #[.int .i64 q0, .int .i64 q1, .int .i64 q2, .int .i64 q3, .int .i64 q4, .int .i64 q5, .int .i64 q6] 34)))
      have HRX := Lib.hid hBX.range
      have hWU : W.heap.size ≤ U.heap.size := HBU.out.size
      clear hBX
      rcases Bool.eq_false_or_eq_true (q1 == h0) with h1 | h1
      all_goals go_wp2_with (first
        | (go_at_call 90; refine (rcounts_any _ _ _ _).mono ?_; rintro e2 w' ⟨rfl, rfl⟩; generalize hq : cntB _ _ _ = z; cases z)
        | (go_at_call 77; refine (rIn_any _ _ _ _).mono ?_; rintro e2 w' ⟨rfl, rfl⟩; generalize hq2 : inB _ _ _ = z; cases z)
        | (at_builtin; refine wpList_appR HOX.out (.tmp 43) (.tmp 45) rfl rfl Tryz.underlying24 infoN rfl (by decide) (by decide) rfl (y := [q0, q1, q2, q3, q4, q5, q6]) rfl rfl HRX.out (by omega) (by simp; omega) ?_; intro A4 c4 X4 hO4 hB4))
      all_goals first
        | exact ⟨⟨k + 1, by omega, by go_num, by rw [Hn.out (by simp [*])]; exact HOU.out, HBU.out⟩, by simp [intOf]; omega⟩
        | exact ⟨⟨k + 1, by omega, by go_num, by rw [Hy.out (by simp [*])]; exact hO4, HBX.out.trans hB4⟩, by simp [intOf]; omega⟩
    · obtain rfl : k = m := by omega
      have Hf := Lib.hid (sayK_all N h d)
      rw [← Hm.out] at Hf
      go_wp2
      go_ret
      exact ⟨_, rfl, by rw [← Hf.out]; exact OV.monoB HO.out hWw, up HB.out HBr.out⟩
end Go.Proofs.YtjimjdhdnkhfnaaGreat
namespace Go.Proofs.YtjimjdhdnkhfnaaGreat
open Go Go.RowKit
set_option maxHeartbeats 4000000
set_option maxRecDepth 100000
def lotE (T N : List (List Int)) (h : List Int) (day : Int) : List Int :=
  [-1, leaN 2 (sayL N h day), marN T h day, if stoN (sayL N h day) < 0 ∨ stoN (sayL N h day) > h.getD 6 0 + 360 then h.getD 6 0 + 361 else -1, h.getD 6 0 + 720]
def lotS (E : List Int) (day : Int) (a : Int × Int) (i : Nat) : Int × Int :=
  if E.getD (i + 1) 0 ≥ 0 ∧ E.getD (i + 1) 0 ≤ day ∧ (a.2 < 0 ∨ E.getD (i + 1) 0 < a.2) then ((i : Int) + 1, E.getD (i + 1) 0) else a
def lotK (E : List Int) (day : Int) (k : Nat) : Int × Int := (List.range k).foldl (lotS E day) (0, -1)
def lotN (T N : List (List Int)) (h : List Int) (day : Int) : List Int :=
  [owrN (sayL N h day), stoN (sayL N h day), (lotK (lotE T N h day) day 4).1, (lotK (lotE T N h day) day 4).2]
theorem lotK_succ (E : List Int) (day : Int) (k : Nat) : lotK E day (k + 1) = lotS E day (lotK E day k) k := by
  unfold lotK; rw [List.range_succ, List.foldl_append]; rfl
theorem rlot_any (A : Option Addr) (n c : Nat) (T : List (List Int)) (S : Option Addr) (r s : Nat) (B : Option Addr) (m e : Nat) (N : List (List Int)) (h : List Int) (day : Int) (w : World) (hh : h.length = 9) (hT : Rw w A n 24 T) (hN : Rw w B m 7 N) (h60 : m ≤ 1000)
    (hok : ∀ x ∈ T, tarOk x = true) (he : 0 ≤ h.getD 3 0 ∧ h.getD 3 0 ≤ 100) (hs : 0 ≤ h.getD 6 0 ∧ h.getD 6 0 ≤ 1000000) :
    Calls Tryz.prog 94 #[.agg #[.slice A n c, .slice S r s, .slice B m e], .agg ⟨ints h⟩, .int .i64 day] w fun e w' => e = .returned (.agg ⟨ints (lotN T N h day)⟩) ∧ Below w.heap.size w w' := by
  have HS := Lib.hid (fun W (hW : Below w.heap.size w W) => rsays_any A n c S r s B m e N h day W hh (hN.keep hW) h60)
  have HM := Lib.hid (fun W (hW : Below w.heap.size w W) => rmarket_any A n c T S r s B m e h day W hh (hT.keep hW) hok he hs)
  have HE : Hid (lotE T N h day = [-1, leaN 2 (sayL N h day), marN T h day, if stoN (sayL N h day) < 0 ∨ stoN (sayL N h day) > h.getD 6 0 + 360 then h.getD 6 0 + 361 else -1, h.getD 6 0 + 720]) := Lib.hid rfl
  have HR : Hid (lotN T N h day = [owrN (sayL N h day), stoN (sayL N h day), (lotK (lotE T N h day) day 4).1, (lotK (lotE T N h day) day 4).2]) := Lib.hid rfl
  generalize lotN T N h day = R at *
  generalize lotE T N h day = E at *
  generalize sayL N h day = L at *
  generalize marN T h day = mk at *
  clear hT hN hok he
  obtain ⟨a0, a1, a2, a3, a4, a5, a6, a7, a8, rfl⟩ := list9 hh
  replace hs : 0 ≤ a6 ∧ a6 ≤ 1000000 := hs
  obtain ⟨s1, s2⟩ := hs
  replace HE : Hid (E = [-1, leaN 2 L, mk, if stoN L < 0 ∨ stoN L > a6 + 360 then a6 + 361 else -1, a6 + 720]) := HE
  replace HS : Hid (∀ (W : World), Below w.heap.size w W → Calls Tryz.prog 93 #[.agg #[.slice A n c, .slice S r s, .slice B m e], .agg #[.int .i64 a0, .int .i64 a1, .int .i64 a2, .int .i64 a3, .int .i64 a4, .int .i64 a5, .int .i64 a6, .int .i64 a7, .int .i64 a8], .int .i64 day] W fun e w' => ∃ v, e = .returned v ∧ OR w' W.heap.size 34 7 v L ∧ Below W.heap.size W w') := HS
  replace HM : Hid (∀ (W : World), Below w.heap.size w W → Calls Tryz.prog 130 #[.agg #[.slice A n c, .slice S r s, .slice B m e], .agg #[.int .i64 a0, .int .i64 a1, .int .i64 a2, .int .i64 a3, .int .i64 a4, .int .i64 a5, .int .i64 a6, .int .i64 a7, .int .i64 a8], .int .i64 day] W fun e w' => e = .returned (.int .i64 mk) ∧ Below W.heap.size W w') := HM
  show Calls Tryz.prog 94 #[.agg #[.slice A n c, .slice S r s, .slice B m e], .agg #[.int .i64 a0, .int .i64 a1, .int .i64 a2, .int .i64 a3, .int .i64 a4, .int .i64 a5, .int .i64 a6, .int .i64 a7, .int .i64 a8], .int .i64 day] w fun e w' => e = .returned (.agg ⟨ints R⟩) ∧ Below w.heap.size w w'
  clear hh
  have e0 : IntKind.i64.wrap (a6 + 720) = a6 + 720 := by rw [IntWalk.i64_in _ (by omega)]
  have e4 : IntKind.i64.wrap (a6 + 360) = a6 + 360 := by rw [IntWalk.i64_in _ (by omega)]
  have e5 : IntKind.i64.wrap (a6 + 361) = a6 + 361 := by rw [IntWalk.i64_in _ (by omega)]
  go_enter Tryz.func94, Tryz.ntmps94
  go_upto_region 1 with fail
  generalize hW : (World.alloc _ _) = W
  have HB : Hid (Below w.heap.size w W) := Lib.hid (by subst hW; go_grown)
  have KA : Bx W (w.heap.size) 26 [.slice A n c, .slice S r s, .slice B m e] := by subst hW; repeat (first | (refine Bx.newAt _ _ _ ?_; first | rfl | (simp only [World.size_alloc]; done) | (simp only [World.size_alloc]; omega)) | refine Bx.old ?_ _)
  have KH : Bx W (w.heap.size + 1) 32 [.int .i64 a0, .int .i64 a1, .int .i64 a2, .int .i64 a3, .int .i64 a4, .int .i64 a5, .int .i64 a6, .int .i64 a7, .int .i64 a8] := by subst hW; repeat (first | (refine Bx.newAt _ _ _ ?_; first | rfl | (simp only [World.size_alloc]; done) | (simp only [World.size_alloc]; omega)) | refine Bx.old ?_ _)
  have KR : Bx W (w.heap.size + 1 + 1) 56 (ints [0, 0, 0, 0]) := by subst hW; repeat (first | (refine Bx.newAt _ _ _ ?_; first | rfl | (simp only [World.size_alloc]; done) | (simp only [World.size_alloc]; omega)) | refine Bx.old ?_ _)
  have hWs : Hid (W.heap.size = w.heap.size + 1 + 1 + 1) := Lib.hid (by subst hW; simp)
  clear hW
  have KAl := KA.lt; have KAc := KA.get; have KAf := KA.fr; have KHl := KH.lt; have KHc := KH.get; have KHf := KH.fr; have KRl := KR.lt; have KRc := KR.get; have KRf := KR.fr
  go_upto_region 2 with (go_at_call 93; refine (HS.out _ HB.out).mono ?_; rintro e1 X ⟨v, rfl, hor, hbx⟩; obtain ⟨A2, c2, rfl, hc2, hL, -⟩ := OR.rw hor; clear KAl KAc KAf; replace KA := KA.keep hbx; have KAl := KA.lt; have KAc := KA.get; have KAf := KA.fr; clear KHl KHc KHf; replace KH := KH.keep hbx; have KHl := KH.lt; have KHc := KH.get; have KHf := KH.fr; clear KRl KRc KRf; replace KR := KR.keep hbx; have KRl := KR.lt; have KRc := KR.get; have KRf := KR.fr; replace HB := Lib.hid (up HB.out hbx); clear hbx)
  have HL := Lib.hid hL
  clear hL hor
  have hX3 := Lib.hid KRl
  obtain ⟨o, ho⟩ : ∃ x, owrN L = x := ⟨_, rfl⟩
  obtain ⟨st, hst⟩ : ∃ x, stoN L = x := ⟨_, rfl⟩
  obtain ⟨le, hle⟩ : ∃ x, leaN 2 L = x := ⟨_, rfl⟩
  have HO := Lib.hid (fun W hW => rowner_any A2 L.length c2 L W (HL.out.keep hW))
  have HT := Lib.hid (fun W hW => rstop_any A2 L.length c2 L W (HL.out.keep hW))
  have HLe := Lib.hid (fun W hW => rleast_any A2 L.length c2 L 2 W (HL.out.keep hW))
  rw [ho, hst] at HR
  rw [hle, hst] at HE
  rw [ho] at HO
  rw [hst] at HT
  rw [hle] at HLe
  clear ho hst hle
  have HX := Lib.hid (Below.refl X.heap.size X)
  go_upto_region 3 with (first
    | (go_at_call 127; refine (HO.out _ HX.out).mono ?_; rintro e2 Y ⟨rfl, hby⟩; replace HX := Lib.hid (up HX.out hby); have hXY1 := Lib.hid hby.size; clear KAl KAc KAf; replace KA := KA.keep hby; have KAl := KA.lt; have KAc := KA.get; have KAf := KA.fr; clear KHl KHc KHf; replace KH := KH.keep hby; have KHl := KH.lt; have KHc := KH.get; have KHf := KH.fr; clear KRl KRc KRf; replace KR := KR.keep hby; have KRl := KR.lt; have KRc := KR.get; have KRf := KR.fr; replace HB := Lib.hid (up HB.out hby); clear hby)
    | (go_at_call 128; refine (HT.out _ HX.out).mono ?_; rintro e3 Y2 ⟨rfl, rfl⟩)
    | (refine wpList_putNew 56 8 19 rfl rfl rfl rfl (by kernel_rfl) rfl (by kernel_rfl) ?_; intro U KU hbu hsu; have hbu' := hbu; clear KAl KAc KAf; replace KA := KA.keep hbu'; have KAl := KA.lt; have KAc := KA.get; have KAf := KA.fr; clear KHl KHc KHf; replace KH := KH.keep hbu'; have KHl := KH.lt; have KHc := KH.get; have KHf := KH.fr; clear KRl KRc KRf; replace KR := KR.keep hbu'; have KRl := KR.lt; have KRc := KR.get; have KRf := KR.fr; replace HB := Lib.hid (up HB.out hbu'); clear hbu'; replace KU : Bx U Y.heap.size 56 (ints [o, st, 0, -1]) := KU; have KUl := KU.lt; clear hsu))
  simp only [Act.put]
  replace HX := Lib.hid (up HX.out hbu)
  clear hbu
  clear KAl KAc KAf KHl KHc KHf KRl KRc KRf
  refine wp_region_alloc 11 10 9 (.cells #[.int .i64 0, .int .i64 0, .int .i64 0, .int .i64 0, .int .i64 0] 167) (by kernel_rfl) rfl (fun N => by kernel_rfl) (by decide) (fun a w => by simp [execOp, Act.eval, go_sem]) (by kernel_rfl) ?_
  apply Exists.intro
  refine ⟨fun b N hbN => ?_, fun N => ?_, fun W9 N hW9 hN9 hblk => ?_⟩
  · have HXb := Lib.hid (up HX.out hbN)
    have HBb := Lib.hid (up HB.out hbN)
    have KAb := KA.keep hbN
    have KHb := KH.keep hbN
    have KAbl := KAb.lt; have KAbc := KAb.get; have KAbf := KAb.fr; have KHbl := KHb.lt; have KHbc := KHb.get; have KHbf := KHb.fr
    simp only [List.set_cons_succ, List.set_cons_zero, ptrOp, List.take_succ_cons, List.take_zero]
    repeat (go_big_quiet_step ((first | (go_at_call 129; exact quiet_grow rfl ((HLe.out _ (up HXb.out (grow_below _ _))).mono (by rintro e w' ⟨rfl, rfl⟩; exact ⟨rfl, Below.refl _ _⟩))) | (go_at_call 130; exact quiet_grow rfl (HM.out _ (up HBb.out (grow_below _ _)))))))
    refine wpQuiet_nil ?_
    rfl
  · rfl
  simp only [List.drop_succ_cons, List.drop_zero]
  have KE : Bx W9 N 167 [.int .i64 0, .int .i64 0, .int .i64 0, .int .i64 0, .int .i64 0] := ⟨hblk⟩
  have hNU : U.heap.size ≤ N := by first | exact hN9 | omega
  clear hblk
  have KAl := KA.lt; have KAc := KA.get; have KAf := KA.fr; have KHl := KH.lt; have KHc := KH.get; have KHf := KH.fr; have KRl := KR.lt; have KRc := KR.get; have KRf := KR.fr
  have hXY : w.heap.size + 2 < Y.heap.size := by have h1 := hX3.out; have h2 := hXY1.out; omega
  have hYN : Y.heap.size < N := by omega
  have HB2 := Lib.hid (up HB.out hW9)
  clear HB
  have HB := HB2
  clear HB2
  replace KU := KU.keep hW9
  clear KUl
  clear KAl KAc KAf KHl KHc KHf KRl KRc KRf
  replace KA := KA.keep hW9
  replace KH := KH.keep hW9
  replace KR := KR.keep hW9
  clear hW9
  have KAl := KA.lt; have KAc := KA.get; have KAf := KA.fr; have KHl := KH.lt; have KHc := KH.get; have KHf := KH.fr; have KRl := KR.lt; have KRc := KR.get; have KRf := KR.fr; have KUl := KU.lt; have KUc := KU.get; have KUf := KU.fr; have KEl := KE.lt; have KEc := KE.get; have KEf := KE.fr
  go_upto_region 4 with (refine wpList_put 167 9 29 rfl rfl KE rfl rfl (by kernel_rfl) rfl (by kernel_rfl) ?_; intro V KV hp)
  replace KV : Bx V N 167 (ints [-1, le, mk, -1, a6 + 720]) := KV
  have HB3 := Lib.hid (upP HB.out hp (by omega))
  clear HB
  have HB := HB3
  clear HB3
  clear KAl KAc KAf KHl KHc KHf KRl KRc KRf KUl KUc KUf KEl KEc KEf
  clear KE
  replace KA := KA.put hp (by omega)
  replace KH := KH.put hp (by omega)
  replace KR := KR.put hp (by omega)
  replace KU := KU.put hp (by omega)
  have hNV := KV.lt
  have c1 : V.cell? ⟨Y.heap.size, 1, none⟩ = some (.int .i64 st) := KU.get 1
  clear hp HX HS HM HO HT HLe HL
  by_cases q1 : st < 0
  · replace HE : Hid (E = [-1, le, mk, a6 + 361, a6 + 720]) := Lib.hid (by rw [HE.out, if_pos (.inl q1)])
    have KAl := KA.lt; have KAc := KA.get; have KAf := KA.fr; have KHl := KH.lt; have KHc := KH.get; have KHf := KH.fr; have KUl := KU.lt; have KUc := KU.get; have KUf := KU.fr; have KVl := KV.lt; have KVc := KV.get; have KVf := KV.fr
    go_upto_region 6 with fail
    have p1 := Put.cell V N 3 (.int .i64 (a6 + 361))
    have k1 : Bx _ N 167 (ints [-1, le, mk, a6 + 361, a6 + 720]) := KV.cell 3 (.int .i64 (a6 + 361))
    clear KAl KAc KAf KHl KHc KHf KUl KUc KUf KVl KVc KVf KA KH KV
    replace KR := KR.put p1 (by omega)
    replace KU := KU.put p1 (by omega)
    replace HB := Lib.hid (upP HB.out p1 (by omega))
    have hNV2 : N < (V.setCell ⟨N, 3, none⟩ (.int .i64 (a6 + 361))).heap.size := k1.lt
    clear p1 hNV c1
    generalize V.setCell ⟨N, 3, none⟩ (.int .i64 (a6 + 361)) = V2 at *
    have KV : Bx V2 N 167 (ints E) := by rw [HE.out]; exact k1
    clear k1
    have HE5 : Hid (E.length = 5) := Lib.hid (by rw [HE.out]; rfl)
    clear HE q1
    clear hNU
    try clear hNV
    generalize Y.heap.size = y at *
    go_wp2_with fail
    go_loopw [10] (fun i wr => ∃ (k j : Nat) (acc : Int × Int), k ≤ 4 ∧ j = k + 1 ∧ i = .int .i64 (j : Int) ∧ lotK E day k = acc ∧ Bx wr N 167 (ints E) ∧ Bx wr y 56 (ints [o, st, acc.1, acc.2]) ∧ Bx wr (w.heap.size + 1 + 1) 56 (ints [0, 0, 0, 0]) ∧ Below w.heap.size w wr) (fun i _ => 5 - (intOf i).toNat)
    case atStart => exact ⟨0, 1, (0, -1), by omega, rfl, rfl, rfl, KV, KU, KR, HB.out⟩
    case round =>
      clear KV KU KR HB
      obtain ⟨k, j, acc, hk, hj, rfl, ha, KV, KU, KR, hb⟩ := hrel
      have HB := Lib.hid hb
      obtain ⟨b1, b2⟩ := acc
      replace KU : Bx wr y 56 (ints [o, st, b1, b2]) := KU
      have Ha := Lib.hid ha
      have Hj := Lib.hid hj
      clear hb ha
      by_cases hlt : k < 4
      · have Hs : Hid (lotK E day (k + 1) = lotS E day (b1, b2) k) := Lib.hid (by rw [lotK_succ, Ha.out])
        have HT2 : Hid (lotS E day (b1, b2) k = if E.getD j 0 ≥ 0 ∧ E.getD j 0 ≤ day ∧ (b2 < 0 ∨ E.getD j 0 < b2) then ((j : Int), E.getD j 0) else (b1, b2)) := Lib.hid (by subst hj; rfl)
        have hj5 : j < 5 := by omega
        have cj : wr.cell? ⟨N, j, none⟩ = some (.int .i64 (E.getD j 0)) := by rw [KV.get]; exact ints_get (by rw [HE5.out]; omega)
        generalize E.getD j 0 = v at *
        clear hj
        have HNO : (¬(v ≥ 0 ∧ v ≤ day ∧ (b2 < 0 ∨ v < b2))) → Hid (lotK E day (k + 1) = (b1, b2)) := fun hx => Lib.hid (by rw [Hs.out, HT2.out, if_neg hx])
        have HYES : (v ≥ 0 ∧ v ≤ day ∧ (b2 < 0 ∨ v < b2)) → Hid (lotK E day (k + 1) = ((j : Int), v)) := fun hx => Lib.hid (by rw [Hs.out, HT2.out, if_pos hx])
        have HNOh := Lib.hid HNO
        have HYESh := Lib.hid HYES
        clear HNO HYES
        by_cases v0 : v ≥ 0
        · by_cases v1 : v ≤ day
          · by_cases v2 : b2 < 0
            · have HX := HYESh.out ⟨v0, v1, .inl v2⟩
              have cb : wr.cell? ⟨y, 3, none⟩ = some (.int .i64 b2) := KU.get 3
              have KVl := KV.lt; have KVc := KV.get; have KVf := KV.fr; have KUl := KU.lt; have KUc := KU.get; have KUf := KU.fr
              go_upto_region 9 with fail
              refine wp_region_grow (by kernel_rfl) (by kernel_rfl) ?_
              repeat (go_big_quiet_step ((fail)))
              refine wpQuiet_nil ?_
              intro z
              have hNw := KV.lt
              have hbz := grow_below wr z
              generalize grow wr z = G at *
              clear KVl KVc KVf KUl KUc KUf
              clear cb
              replace KV := KV.keep hbz
              replace KU := KU.keep hbz
              replace KR := KR.keep hbz
              replace HB := Lib.hid (up HB.out hbz)
              replace cj : G.cell? ⟨N, j, none⟩ = some (.int .i64 v) := (hbz.cell (p := ⟨N, j, none⟩) hNw).trans cj
              clear hbz
              have KVl := KV.lt; have KVc := KV.get; have KVf := KV.fr; have KUl := KU.lt; have KUc := KU.get; have KUf := KU.fr
              have hyN : y ≠ N := by omega
              go_upto_region 11 with fail
              have p1 := Put.cell G y 2 (.int .i64 (j : Int))
              have k1 : Bx _ y 56 (ints [o, st, (j : Int), b2]) := KU.cell 2 (.int .i64 (j : Int))
              clear KVl KVc KVf KUl KUc KUf
              replace KV := KV.put p1 (by omega)
              replace KR := KR.put p1 (by omega)
              replace HB := Lib.hid (upP HB.out p1 (by omega))
              have cj2 : (G.setCell ⟨y, 2, none⟩ (.int .i64 (j : Int))).cell? ⟨N, j, none⟩ = some (.int .i64 v) := by rw [← cj]; simp only [World.cell?, p1.block N (Ne.symm hyN)]
              clear cj
              generalize G.setCell ⟨y, 2, none⟩ (.int .i64 (j : Int)) = G2 at *
              clear p1 KU
              have KVl := KV.lt; have KVc := KV.get; have KVf := KV.fr; have k1l := k1.lt; have k1c := k1.get; have k1f := k1.fr
              go_wp2
              have p2 := Put.cell G2 y 3 (.int .i64 v)
              have k2 : Bx _ y 56 (ints [o, st, (j : Int), v]) := k1.cell 3 (.int .i64 v)
              exact ⟨⟨k + 1, j + 1, ((j : Int), v), by omega, by have := Hj.out; omega, by go_num, HX.out, KV.put p2 (by omega), k2, KR.put p2 (by omega), upP HB.out p2 (by omega)⟩, by simp [intOf]; omega⟩
            · by_cases v3 : v < b2
              · have HX := HYESh.out ⟨v0, v1, .inr v3⟩
                have cb : wr.cell? ⟨y, 3, none⟩ = some (.int .i64 b2) := KU.get 3
                have KVl := KV.lt; have KVc := KV.get; have KVf := KV.fr; have KUl := KU.lt; have KUc := KU.get; have KUf := KU.fr
                go_upto_region 9 with fail
                refine wp_region_grow (by kernel_rfl) (by kernel_rfl) ?_
                repeat (go_big_quiet_step ((fail)))
                refine wpQuiet_nil ?_
                intro z
                have hNw := KV.lt
                have hbz := grow_below wr z
                generalize grow wr z = G at *
                clear KVl KVc KVf KUl KUc KUf
                clear cb
                replace KV := KV.keep hbz
                replace KU := KU.keep hbz
                replace KR := KR.keep hbz
                replace HB := Lib.hid (up HB.out hbz)
                replace cj : G.cell? ⟨N, j, none⟩ = some (.int .i64 v) := (hbz.cell (p := ⟨N, j, none⟩) hNw).trans cj
                clear hbz
                have KVl := KV.lt; have KVc := KV.get; have KVf := KV.fr; have KUl := KU.lt; have KUc := KU.get; have KUf := KU.fr
                have hyN : y ≠ N := by omega
                go_upto_region 11 with fail
                have p1 := Put.cell G y 2 (.int .i64 (j : Int))
                have k1 : Bx _ y 56 (ints [o, st, (j : Int), b2]) := KU.cell 2 (.int .i64 (j : Int))
                clear KVl KVc KVf KUl KUc KUf
                replace KV := KV.put p1 (by omega)
                replace KR := KR.put p1 (by omega)
                replace HB := Lib.hid (upP HB.out p1 (by omega))
                have cj2 : (G.setCell ⟨y, 2, none⟩ (.int .i64 (j : Int))).cell? ⟨N, j, none⟩ = some (.int .i64 v) := by rw [← cj]; simp only [World.cell?, p1.block N (Ne.symm hyN)]
                clear cj
                generalize G.setCell ⟨y, 2, none⟩ (.int .i64 (j : Int)) = G2 at *
                clear p1 KU
                have KVl := KV.lt; have KVc := KV.get; have KVf := KV.fr; have k1l := k1.lt; have k1c := k1.get; have k1f := k1.fr
                go_wp2
                have p2 := Put.cell G2 y 3 (.int .i64 v)
                have k2 : Bx _ y 56 (ints [o, st, (j : Int), v]) := k1.cell 3 (.int .i64 v)
                exact ⟨⟨k + 1, j + 1, ((j : Int), v), by omega, by have := Hj.out; omega, by go_num, HX.out, KV.put p2 (by omega), k2, KR.put p2 (by omega), upP HB.out p2 (by omega)⟩, by simp [intOf]; omega⟩
              · have HX := HNOh.out (fun hx => hx.2.2.elim v2 v3)
                have cb : wr.cell? ⟨y, 3, none⟩ = some (.int .i64 b2) := KU.get 3
                have KVl := KV.lt; have KVc := KV.get; have KVf := KV.fr; have KUl := KU.lt; have KUc := KU.get; have KUf := KU.fr
                go_upto_region 9 with fail
                refine wp_region_grow (by kernel_rfl) (by kernel_rfl) ?_
                repeat (go_big_quiet_step ((fail)))
                refine wpQuiet_nil ?_
                intro z
                have hNw := KV.lt
                have hbz := grow_below wr z
                generalize grow wr z = G at *
                clear KVl KVc KVf KUl KUc KUf
                clear cb
                replace KV := KV.keep hbz
                replace KU := KU.keep hbz
                replace KR := KR.keep hbz
                replace HB := Lib.hid (up HB.out hbz)
                replace cj : G.cell? ⟨N, j, none⟩ = some (.int .i64 v) := (hbz.cell (p := ⟨N, j, none⟩) hNw).trans cj
                clear hbz
                have KVl := KV.lt; have KVc := KV.get; have KVf := KV.fr; have KUl := KU.lt; have KUc := KU.get; have KUf := KU.fr
                go_wp2
                exact ⟨⟨k + 1, j + 1, (b1, b2), by omega, by have := Hj.out; omega, by go_num, HX.out, KV, KU, KR, HB.out⟩, by simp [intOf]; omega⟩
          · have HX := HNOh.out (fun hx => v1 hx.2.1)
            have cb : wr.cell? ⟨y, 3, none⟩ = some (.int .i64 b2) := KU.get 3
            have KVl := KV.lt; have KVc := KV.get; have KVf := KV.fr; have KUl := KU.lt; have KUc := KU.get; have KUf := KU.fr
            go_upto_region 9 with fail
            refine wp_region_grow (by kernel_rfl) (by kernel_rfl) ?_
            repeat (go_big_quiet_step ((fail)))
            refine wpQuiet_nil ?_
            intro z
            have hNw := KV.lt
            have hbz := grow_below wr z
            generalize grow wr z = G at *
            clear KVl KVc KVf KUl KUc KUf
            clear cb
            replace KV := KV.keep hbz
            replace KU := KU.keep hbz
            replace KR := KR.keep hbz
            replace HB := Lib.hid (up HB.out hbz)
            replace cj : G.cell? ⟨N, j, none⟩ = some (.int .i64 v) := (hbz.cell (p := ⟨N, j, none⟩) hNw).trans cj
            clear hbz
            have KVl := KV.lt; have KVc := KV.get; have KVf := KV.fr; have KUl := KU.lt; have KUc := KU.get; have KUf := KU.fr
            go_wp2
            exact ⟨⟨k + 1, j + 1, (b1, b2), by omega, by have := Hj.out; omega, by go_num, HX.out, KV, KU, KR, HB.out⟩, by simp [intOf]; omega⟩
        · have HX := HNOh.out (fun hx => v0 hx.1)
          have cb : wr.cell? ⟨y, 3, none⟩ = some (.int .i64 b2) := KU.get 3
          have KVl := KV.lt; have KVc := KV.get; have KVf := KV.fr; have KUl := KU.lt; have KUc := KU.get; have KUf := KU.fr
          go_upto_region 9 with fail
          refine wp_region_grow (by kernel_rfl) (by kernel_rfl) ?_
          repeat (go_big_quiet_step ((fail)))
          refine wpQuiet_nil ?_
          intro z
          have hNw := KV.lt
          have hbz := grow_below wr z
          generalize grow wr z = G at *
          clear KVl KVc KVf KUl KUc KUf
          clear cb
          replace KV := KV.keep hbz
          replace KU := KU.keep hbz
          replace KR := KR.keep hbz
          replace HB := Lib.hid (up HB.out hbz)
          replace cj : G.cell? ⟨N, j, none⟩ = some (.int .i64 v) := (hbz.cell (p := ⟨N, j, none⟩) hNw).trans cj
          clear hbz
          have KVl := KV.lt; have KVc := KV.get; have KVf := KV.fr; have KUl := KU.lt; have KUc := KU.get; have KUf := KU.fr
          go_wp2
          exact ⟨⟨k + 1, j + 1, (b1, b2), by omega, by have := Hj.out; omega, by go_num, HX.out, KV, KU, KR, HB.out⟩, by simp [intOf]; omega⟩
      · obtain rfl : k = 4 := by omega
        have hj5 : ¬ (j : Int) < 5 := by omega
        clear hj
        have HX : Hid (R = [o, st, b1, b2]) := Lib.hid (by rw [HR.out, Ha.out])
        clear HR Ha
        subst_vars
        go_wp2_with (first
          | (refine wpList_get 56 8 rfl rfl KU rfl Tryz.underlying56 rfl (by kernel_rfl) ?_)
          | (refine wpList_put 56 6 79 rfl rfl KR rfl rfl (by kernel_rfl) rfl (by kernel_rfl) ?_; intro U2 KU2 hp2))
        exact post_1 rfl rfl rfl KU2 Tryz.underlying56 rfl (by kernel_rfl) ⟨by first | rfl | (rw [HX.out]; rfl), upP HB.out hp2 (by omega)⟩
  · by_cases q2 : st > a6 + 360
    · replace HE : Hid (E = [-1, le, mk, a6 + 361, a6 + 720]) := Lib.hid (by rw [HE.out, if_pos (.inr q2)])
      have KAl := KA.lt; have KAc := KA.get; have KAf := KA.fr; have KHl := KH.lt; have KHc := KH.get; have KHf := KH.fr; have KUl := KU.lt; have KUc := KU.get; have KUf := KU.fr; have KVl := KV.lt; have KVc := KV.get; have KVf := KV.fr
      go_upto_region 6 with fail
      have p1 := Put.cell V N 3 (.int .i64 (a6 + 361))
      have k1 : Bx _ N 167 (ints [-1, le, mk, a6 + 361, a6 + 720]) := KV.cell 3 (.int .i64 (a6 + 361))
      clear KAl KAc KAf KHl KHc KHf KUl KUc KUf KVl KVc KVf KA KH KV
      replace KR := KR.put p1 (by omega)
      replace KU := KU.put p1 (by omega)
      replace HB := Lib.hid (upP HB.out p1 (by omega))
      have hNV2 : N < (V.setCell ⟨N, 3, none⟩ (.int .i64 (a6 + 361))).heap.size := k1.lt
      clear p1 hNV c1
      generalize V.setCell ⟨N, 3, none⟩ (.int .i64 (a6 + 361)) = V2 at *
      have KV : Bx V2 N 167 (ints E) := by rw [HE.out]; exact k1
      clear k1
      have HE5 : Hid (E.length = 5) := Lib.hid (by rw [HE.out]; rfl)
      clear HE q1
      clear hNU
      try clear hNV
      generalize Y.heap.size = y at *
      go_wp2_with fail
      go_loopw [10] (fun i wr => ∃ (k j : Nat) (acc : Int × Int), k ≤ 4 ∧ j = k + 1 ∧ i = .int .i64 (j : Int) ∧ lotK E day k = acc ∧ Bx wr N 167 (ints E) ∧ Bx wr y 56 (ints [o, st, acc.1, acc.2]) ∧ Bx wr (w.heap.size + 1 + 1) 56 (ints [0, 0, 0, 0]) ∧ Below w.heap.size w wr) (fun i _ => 5 - (intOf i).toNat)
      case atStart => exact ⟨0, 1, (0, -1), by omega, rfl, rfl, rfl, KV, KU, KR, HB.out⟩
      case round =>
        clear KV KU KR HB
        obtain ⟨k, j, acc, hk, hj, rfl, ha, KV, KU, KR, hb⟩ := hrel
        have HB := Lib.hid hb
        obtain ⟨b1, b2⟩ := acc
        replace KU : Bx wr y 56 (ints [o, st, b1, b2]) := KU
        have Ha := Lib.hid ha
        have Hj := Lib.hid hj
        clear hb ha
        by_cases hlt : k < 4
        · have Hs : Hid (lotK E day (k + 1) = lotS E day (b1, b2) k) := Lib.hid (by rw [lotK_succ, Ha.out])
          have HT2 : Hid (lotS E day (b1, b2) k = if E.getD j 0 ≥ 0 ∧ E.getD j 0 ≤ day ∧ (b2 < 0 ∨ E.getD j 0 < b2) then ((j : Int), E.getD j 0) else (b1, b2)) := Lib.hid (by subst hj; rfl)
          have hj5 : j < 5 := by omega
          have cj : wr.cell? ⟨N, j, none⟩ = some (.int .i64 (E.getD j 0)) := by rw [KV.get]; exact ints_get (by rw [HE5.out]; omega)
          generalize E.getD j 0 = v at *
          clear hj
          have HNO : (¬(v ≥ 0 ∧ v ≤ day ∧ (b2 < 0 ∨ v < b2))) → Hid (lotK E day (k + 1) = (b1, b2)) := fun hx => Lib.hid (by rw [Hs.out, HT2.out, if_neg hx])
          have HYES : (v ≥ 0 ∧ v ≤ day ∧ (b2 < 0 ∨ v < b2)) → Hid (lotK E day (k + 1) = ((j : Int), v)) := fun hx => Lib.hid (by rw [Hs.out, HT2.out, if_pos hx])
          have HNOh := Lib.hid HNO
          have HYESh := Lib.hid HYES
          clear HNO HYES
          by_cases v0 : v ≥ 0
          · by_cases v1 : v ≤ day
            · by_cases v2 : b2 < 0
              · have HX := HYESh.out ⟨v0, v1, .inl v2⟩
                have cb : wr.cell? ⟨y, 3, none⟩ = some (.int .i64 b2) := KU.get 3
                have KVl := KV.lt; have KVc := KV.get; have KVf := KV.fr; have KUl := KU.lt; have KUc := KU.get; have KUf := KU.fr
                go_upto_region 9 with fail
                refine wp_region_grow (by kernel_rfl) (by kernel_rfl) ?_
                repeat (go_big_quiet_step ((fail)))
                refine wpQuiet_nil ?_
                intro z
                have hNw := KV.lt
                have hbz := grow_below wr z
                generalize grow wr z = G at *
                clear KVl KVc KVf KUl KUc KUf
                clear cb
                replace KV := KV.keep hbz
                replace KU := KU.keep hbz
                replace KR := KR.keep hbz
                replace HB := Lib.hid (up HB.out hbz)
                replace cj : G.cell? ⟨N, j, none⟩ = some (.int .i64 v) := (hbz.cell (p := ⟨N, j, none⟩) hNw).trans cj
                clear hbz
                have KVl := KV.lt; have KVc := KV.get; have KVf := KV.fr; have KUl := KU.lt; have KUc := KU.get; have KUf := KU.fr
                have hyN : y ≠ N := by omega
                go_upto_region 11 with fail
                have p1 := Put.cell G y 2 (.int .i64 (j : Int))
                have k1 : Bx _ y 56 (ints [o, st, (j : Int), b2]) := KU.cell 2 (.int .i64 (j : Int))
                clear KVl KVc KVf KUl KUc KUf
                replace KV := KV.put p1 (by omega)
                replace KR := KR.put p1 (by omega)
                replace HB := Lib.hid (upP HB.out p1 (by omega))
                have cj2 : (G.setCell ⟨y, 2, none⟩ (.int .i64 (j : Int))).cell? ⟨N, j, none⟩ = some (.int .i64 v) := by rw [← cj]; simp only [World.cell?, p1.block N (Ne.symm hyN)]
                clear cj
                generalize G.setCell ⟨y, 2, none⟩ (.int .i64 (j : Int)) = G2 at *
                clear p1 KU
                have KVl := KV.lt; have KVc := KV.get; have KVf := KV.fr; have k1l := k1.lt; have k1c := k1.get; have k1f := k1.fr
                go_wp2
                have p2 := Put.cell G2 y 3 (.int .i64 v)
                have k2 : Bx _ y 56 (ints [o, st, (j : Int), v]) := k1.cell 3 (.int .i64 v)
                exact ⟨⟨k + 1, j + 1, ((j : Int), v), by omega, by have := Hj.out; omega, by go_num, HX.out, KV.put p2 (by omega), k2, KR.put p2 (by omega), upP HB.out p2 (by omega)⟩, by simp [intOf]; omega⟩
              · by_cases v3 : v < b2
                · have HX := HYESh.out ⟨v0, v1, .inr v3⟩
                  have cb : wr.cell? ⟨y, 3, none⟩ = some (.int .i64 b2) := KU.get 3
                  have KVl := KV.lt; have KVc := KV.get; have KVf := KV.fr; have KUl := KU.lt; have KUc := KU.get; have KUf := KU.fr
                  go_upto_region 9 with fail
                  refine wp_region_grow (by kernel_rfl) (by kernel_rfl) ?_
                  repeat (go_big_quiet_step ((fail)))
                  refine wpQuiet_nil ?_
                  intro z
                  have hNw := KV.lt
                  have hbz := grow_below wr z
                  generalize grow wr z = G at *
                  clear KVl KVc KVf KUl KUc KUf
                  clear cb
                  replace KV := KV.keep hbz
                  replace KU := KU.keep hbz
                  replace KR := KR.keep hbz
                  replace HB := Lib.hid (up HB.out hbz)
                  replace cj : G.cell? ⟨N, j, none⟩ = some (.int .i64 v) := (hbz.cell (p := ⟨N, j, none⟩) hNw).trans cj
                  clear hbz
                  have KVl := KV.lt; have KVc := KV.get; have KVf := KV.fr; have KUl := KU.lt; have KUc := KU.get; have KUf := KU.fr
                  have hyN : y ≠ N := by omega
                  go_upto_region 11 with fail
                  have p1 := Put.cell G y 2 (.int .i64 (j : Int))
                  have k1 : Bx _ y 56 (ints [o, st, (j : Int), b2]) := KU.cell 2 (.int .i64 (j : Int))
                  clear KVl KVc KVf KUl KUc KUf
                  replace KV := KV.put p1 (by omega)
                  replace KR := KR.put p1 (by omega)
                  replace HB := Lib.hid (upP HB.out p1 (by omega))
                  have cj2 : (G.setCell ⟨y, 2, none⟩ (.int .i64 (j : Int))).cell? ⟨N, j, none⟩ = some (.int .i64 v) := by rw [← cj]; simp only [World.cell?, p1.block N (Ne.symm hyN)]
                  clear cj
                  generalize G.setCell ⟨y, 2, none⟩ (.int .i64 (j : Int)) = G2 at *
                  clear p1 KU
                  have KVl := KV.lt; have KVc := KV.get; have KVf := KV.fr; have k1l := k1.lt; have k1c := k1.get; have k1f := k1.fr
                  go_wp2
                  have p2 := Put.cell G2 y 3 (.int .i64 v)
                  have k2 : Bx _ y 56 (ints [o, st, (j : Int), v]) := k1.cell 3 (.int .i64 v)
                  exact ⟨⟨k + 1, j + 1, ((j : Int), v), by omega, by have := Hj.out; omega, by go_num, HX.out, KV.put p2 (by omega), k2, KR.put p2 (by omega), upP HB.out p2 (by omega)⟩, by simp [intOf]; omega⟩
                · have HX := HNOh.out (fun hx => hx.2.2.elim v2 v3)
                  have cb : wr.cell? ⟨y, 3, none⟩ = some (.int .i64 b2) := KU.get 3
                  have KVl := KV.lt; have KVc := KV.get; have KVf := KV.fr; have KUl := KU.lt; have KUc := KU.get; have KUf := KU.fr
                  go_upto_region 9 with fail
                  refine wp_region_grow (by kernel_rfl) (by kernel_rfl) ?_
                  repeat (go_big_quiet_step ((fail)))
                  refine wpQuiet_nil ?_
                  intro z
                  have hNw := KV.lt
                  have hbz := grow_below wr z
                  generalize grow wr z = G at *
                  clear KVl KVc KVf KUl KUc KUf
                  clear cb
                  replace KV := KV.keep hbz
                  replace KU := KU.keep hbz
                  replace KR := KR.keep hbz
                  replace HB := Lib.hid (up HB.out hbz)
                  replace cj : G.cell? ⟨N, j, none⟩ = some (.int .i64 v) := (hbz.cell (p := ⟨N, j, none⟩) hNw).trans cj
                  clear hbz
                  have KVl := KV.lt; have KVc := KV.get; have KVf := KV.fr; have KUl := KU.lt; have KUc := KU.get; have KUf := KU.fr
                  go_wp2
                  exact ⟨⟨k + 1, j + 1, (b1, b2), by omega, by have := Hj.out; omega, by go_num, HX.out, KV, KU, KR, HB.out⟩, by simp [intOf]; omega⟩
            · have HX := HNOh.out (fun hx => v1 hx.2.1)
              have cb : wr.cell? ⟨y, 3, none⟩ = some (.int .i64 b2) := KU.get 3
              have KVl := KV.lt; have KVc := KV.get; have KVf := KV.fr; have KUl := KU.lt; have KUc := KU.get; have KUf := KU.fr
              go_upto_region 9 with fail
              refine wp_region_grow (by kernel_rfl) (by kernel_rfl) ?_
              repeat (go_big_quiet_step ((fail)))
              refine wpQuiet_nil ?_
              intro z
              have hNw := KV.lt
              have hbz := grow_below wr z
              generalize grow wr z = G at *
              clear KVl KVc KVf KUl KUc KUf
              clear cb
              replace KV := KV.keep hbz
              replace KU := KU.keep hbz
              replace KR := KR.keep hbz
              replace HB := Lib.hid (up HB.out hbz)
              replace cj : G.cell? ⟨N, j, none⟩ = some (.int .i64 v) := (hbz.cell (p := ⟨N, j, none⟩) hNw).trans cj
              clear hbz
              have KVl := KV.lt; have KVc := KV.get; have KVf := KV.fr; have KUl := KU.lt; have KUc := KU.get; have KUf := KU.fr
              go_wp2
              exact ⟨⟨k + 1, j + 1, (b1, b2), by omega, by have := Hj.out; omega, by go_num, HX.out, KV, KU, KR, HB.out⟩, by simp [intOf]; omega⟩
          · have HX := HNOh.out (fun hx => v0 hx.1)
            have cb : wr.cell? ⟨y, 3, none⟩ = some (.int .i64 b2) := KU.get 3
            have KVl := KV.lt; have KVc := KV.get; have KVf := KV.fr; have KUl := KU.lt; have KUc := KU.get; have KUf := KU.fr
            go_upto_region 9 with fail
            refine wp_region_grow (by kernel_rfl) (by kernel_rfl) ?_
            repeat (go_big_quiet_step ((fail)))
            refine wpQuiet_nil ?_
            intro z
            have hNw := KV.lt
            have hbz := grow_below wr z
            generalize grow wr z = G at *
            clear KVl KVc KVf KUl KUc KUf
            clear cb
            replace KV := KV.keep hbz
            replace KU := KU.keep hbz
            replace KR := KR.keep hbz
            replace HB := Lib.hid (up HB.out hbz)
            replace cj : G.cell? ⟨N, j, none⟩ = some (.int .i64 v) := (hbz.cell (p := ⟨N, j, none⟩) hNw).trans cj
            clear hbz
            have KVl := KV.lt; have KVc := KV.get; have KVf := KV.fr; have KUl := KU.lt; have KUc := KU.get; have KUf := KU.fr
            go_wp2
            exact ⟨⟨k + 1, j + 1, (b1, b2), by omega, by have := Hj.out; omega, by go_num, HX.out, KV, KU, KR, HB.out⟩, by simp [intOf]; omega⟩
        · obtain rfl : k = 4 := by omega
          have hj5 : ¬ (j : Int) < 5 := by omega
          clear hj
          have HX : Hid (R = [o, st, b1, b2]) := Lib.hid (by rw [HR.out, Ha.out])
          clear HR Ha
          subst_vars
          go_wp2_with (first
            | (refine wpList_get 56 8 rfl rfl KU rfl Tryz.underlying56 rfl (by kernel_rfl) ?_)
            | (refine wpList_put 56 6 79 rfl rfl KR rfl rfl (by kernel_rfl) rfl (by kernel_rfl) ?_; intro U2 KU2 hp2))
          exact post_1 rfl rfl rfl KU2 Tryz.underlying56 rfl (by kernel_rfl) ⟨by first | rfl | (rw [HX.out]; rfl), upP HB.out hp2 (by omega)⟩
    · replace HE : Hid (E = [-1, le, mk, -1, a6 + 720]) := Lib.hid (by rw [HE.out, if_neg (by omega)])
      have KAl := KA.lt; have KAc := KA.get; have KAf := KA.fr; have KHl := KH.lt; have KHc := KH.get; have KHf := KH.fr; have KUl := KU.lt; have KUc := KU.get; have KUf := KU.fr; have KVl := KV.lt; have KVc := KV.get; have KVf := KV.fr
      go_upto_region 6 with fail
      clear KAl KAc KAf KHl KHc KHf KUl KUc KUf KVl KVc KVf KA KH
      replace KV : Bx V N 167 (ints E) := by rw [HE.out]; exact KV
      clear c1
      generalize V = V2 at *
      have HE5 : Hid (E.length = 5) := Lib.hid (by rw [HE.out]; rfl)
      clear HE q1
      clear hNU
      try clear hNV
      generalize Y.heap.size = y at *
      go_wp2_with fail
      go_loopw [10] (fun i wr => ∃ (k j : Nat) (acc : Int × Int), k ≤ 4 ∧ j = k + 1 ∧ i = .int .i64 (j : Int) ∧ lotK E day k = acc ∧ Bx wr N 167 (ints E) ∧ Bx wr y 56 (ints [o, st, acc.1, acc.2]) ∧ Bx wr (w.heap.size + 1 + 1) 56 (ints [0, 0, 0, 0]) ∧ Below w.heap.size w wr) (fun i _ => 5 - (intOf i).toNat)
      case atStart => exact ⟨0, 1, (0, -1), by omega, rfl, rfl, rfl, KV, KU, KR, HB.out⟩
      case round =>
        clear KV KU KR HB
        obtain ⟨k, j, acc, hk, hj, rfl, ha, KV, KU, KR, hb⟩ := hrel
        have HB := Lib.hid hb
        obtain ⟨b1, b2⟩ := acc
        replace KU : Bx wr y 56 (ints [o, st, b1, b2]) := KU
        have Ha := Lib.hid ha
        have Hj := Lib.hid hj
        clear hb ha
        by_cases hlt : k < 4
        · have Hs : Hid (lotK E day (k + 1) = lotS E day (b1, b2) k) := Lib.hid (by rw [lotK_succ, Ha.out])
          have HT2 : Hid (lotS E day (b1, b2) k = if E.getD j 0 ≥ 0 ∧ E.getD j 0 ≤ day ∧ (b2 < 0 ∨ E.getD j 0 < b2) then ((j : Int), E.getD j 0) else (b1, b2)) := Lib.hid (by subst hj; rfl)
          have hj5 : j < 5 := by omega
          have cj : wr.cell? ⟨N, j, none⟩ = some (.int .i64 (E.getD j 0)) := by rw [KV.get]; exact ints_get (by rw [HE5.out]; omega)
          generalize E.getD j 0 = v at *
          clear hj
          have HNO : (¬(v ≥ 0 ∧ v ≤ day ∧ (b2 < 0 ∨ v < b2))) → Hid (lotK E day (k + 1) = (b1, b2)) := fun hx => Lib.hid (by rw [Hs.out, HT2.out, if_neg hx])
          have HYES : (v ≥ 0 ∧ v ≤ day ∧ (b2 < 0 ∨ v < b2)) → Hid (lotK E day (k + 1) = ((j : Int), v)) := fun hx => Lib.hid (by rw [Hs.out, HT2.out, if_pos hx])
          have HNOh := Lib.hid HNO
          have HYESh := Lib.hid HYES
          clear HNO HYES
          by_cases v0 : v ≥ 0
          · by_cases v1 : v ≤ day
            · by_cases v2 : b2 < 0
              · have HX := HYESh.out ⟨v0, v1, .inl v2⟩
                have cb : wr.cell? ⟨y, 3, none⟩ = some (.int .i64 b2) := KU.get 3
                have KVl := KV.lt; have KVc := KV.get; have KVf := KV.fr; have KUl := KU.lt; have KUc := KU.get; have KUf := KU.fr
                go_upto_region 9 with fail
                refine wp_region_grow (by kernel_rfl) (by kernel_rfl) ?_
                repeat (go_big_quiet_step ((fail)))
                refine wpQuiet_nil ?_
                intro z
                have hNw := KV.lt
                have hbz := grow_below wr z
                generalize grow wr z = G at *
                clear KVl KVc KVf KUl KUc KUf
                clear cb
                replace KV := KV.keep hbz
                replace KU := KU.keep hbz
                replace KR := KR.keep hbz
                replace HB := Lib.hid (up HB.out hbz)
                replace cj : G.cell? ⟨N, j, none⟩ = some (.int .i64 v) := (hbz.cell (p := ⟨N, j, none⟩) hNw).trans cj
                clear hbz
                have KVl := KV.lt; have KVc := KV.get; have KVf := KV.fr; have KUl := KU.lt; have KUc := KU.get; have KUf := KU.fr
                have hyN : y ≠ N := by omega
                go_upto_region 11 with fail
                have p1 := Put.cell G y 2 (.int .i64 (j : Int))
                have k1 : Bx _ y 56 (ints [o, st, (j : Int), b2]) := KU.cell 2 (.int .i64 (j : Int))
                clear KVl KVc KVf KUl KUc KUf
                replace KV := KV.put p1 (by omega)
                replace KR := KR.put p1 (by omega)
                replace HB := Lib.hid (upP HB.out p1 (by omega))
                have cj2 : (G.setCell ⟨y, 2, none⟩ (.int .i64 (j : Int))).cell? ⟨N, j, none⟩ = some (.int .i64 v) := by rw [← cj]; simp only [World.cell?, p1.block N (Ne.symm hyN)]
                clear cj
                generalize G.setCell ⟨y, 2, none⟩ (.int .i64 (j : Int)) = G2 at *
                clear p1 KU
                have KVl := KV.lt; have KVc := KV.get; have KVf := KV.fr; have k1l := k1.lt; have k1c := k1.get; have k1f := k1.fr
                go_wp2
                have p2 := Put.cell G2 y 3 (.int .i64 v)
                have k2 : Bx _ y 56 (ints [o, st, (j : Int), v]) := k1.cell 3 (.int .i64 v)
                exact ⟨⟨k + 1, j + 1, ((j : Int), v), by omega, by have := Hj.out; omega, by go_num, HX.out, KV.put p2 (by omega), k2, KR.put p2 (by omega), upP HB.out p2 (by omega)⟩, by simp [intOf]; omega⟩
              · by_cases v3 : v < b2
                · have HX := HYESh.out ⟨v0, v1, .inr v3⟩
                  have cb : wr.cell? ⟨y, 3, none⟩ = some (.int .i64 b2) := KU.get 3
                  have KVl := KV.lt; have KVc := KV.get; have KVf := KV.fr; have KUl := KU.lt; have KUc := KU.get; have KUf := KU.fr
                  go_upto_region 9 with fail
                  refine wp_region_grow (by kernel_rfl) (by kernel_rfl) ?_
                  repeat (go_big_quiet_step ((fail)))
                  refine wpQuiet_nil ?_
                  intro z
                  have hNw := KV.lt
                  have hbz := grow_below wr z
                  generalize grow wr z = G at *
                  clear KVl KVc KVf KUl KUc KUf
                  clear cb
                  replace KV := KV.keep hbz
                  replace KU := KU.keep hbz
                  replace KR := KR.keep hbz
                  replace HB := Lib.hid (up HB.out hbz)
                  replace cj : G.cell? ⟨N, j, none⟩ = some (.int .i64 v) := (hbz.cell (p := ⟨N, j, none⟩) hNw).trans cj
                  clear hbz
                  have KVl := KV.lt; have KVc := KV.get; have KVf := KV.fr; have KUl := KU.lt; have KUc := KU.get; have KUf := KU.fr
                  have hyN : y ≠ N := by omega
                  go_upto_region 11 with fail
                  have p1 := Put.cell G y 2 (.int .i64 (j : Int))
                  have k1 : Bx _ y 56 (ints [o, st, (j : Int), b2]) := KU.cell 2 (.int .i64 (j : Int))
                  clear KVl KVc KVf KUl KUc KUf
                  replace KV := KV.put p1 (by omega)
                  replace KR := KR.put p1 (by omega)
                  replace HB := Lib.hid (upP HB.out p1 (by omega))
                  have cj2 : (G.setCell ⟨y, 2, none⟩ (.int .i64 (j : Int))).cell? ⟨N, j, none⟩ = some (.int .i64 v) := by rw [← cj]; simp only [World.cell?, p1.block N (Ne.symm hyN)]
                  clear cj
                  generalize G.setCell ⟨y, 2, none⟩ (.int .i64 (j : Int)) = G2 at *
                  clear p1 KU
                  have KVl := KV.lt; have KVc := KV.get; have KVf := KV.fr; have k1l := k1.lt; have k1c := k1.get; have k1f := k1.fr
                  go_wp2
                  have p2 := Put.cell G2 y 3 (.int .i64 v)
                  have k2 : Bx _ y 56 (ints [o, st, (j : Int), v]) := k1.cell 3 (.int .i64 v)
                  exact ⟨⟨k + 1, j + 1, ((j : Int), v), by omega, by have := Hj.out; omega, by go_num, HX.out, KV.put p2 (by omega), k2, KR.put p2 (by omega), upP HB.out p2 (by omega)⟩, by simp [intOf]; omega⟩
                · have HX := HNOh.out (fun hx => hx.2.2.elim v2 v3)
                  have cb : wr.cell? ⟨y, 3, none⟩ = some (.int .i64 b2) := KU.get 3
                  have KVl := KV.lt; have KVc := KV.get; have KVf := KV.fr; have KUl := KU.lt; have KUc := KU.get; have KUf := KU.fr
                  go_upto_region 9 with fail
                  refine wp_region_grow (by kernel_rfl) (by kernel_rfl) ?_
                  repeat (go_big_quiet_step ((fail)))
                  refine wpQuiet_nil ?_
                  intro z
                  have hNw := KV.lt
                  have hbz := grow_below wr z
                  generalize grow wr z = G at *
                  clear KVl KVc KVf KUl KUc KUf
                  clear cb
                  replace KV := KV.keep hbz
                  replace KU := KU.keep hbz
                  replace KR := KR.keep hbz
                  replace HB := Lib.hid (up HB.out hbz)
                  replace cj : G.cell? ⟨N, j, none⟩ = some (.int .i64 v) := (hbz.cell (p := ⟨N, j, none⟩) hNw).trans cj
                  clear hbz
                  have KVl := KV.lt; have KVc := KV.get; have KVf := KV.fr; have KUl := KU.lt; have KUc := KU.get; have KUf := KU.fr
                  go_wp2
                  exact ⟨⟨k + 1, j + 1, (b1, b2), by omega, by have := Hj.out; omega, by go_num, HX.out, KV, KU, KR, HB.out⟩, by simp [intOf]; omega⟩
            · have HX := HNOh.out (fun hx => v1 hx.2.1)
              have cb : wr.cell? ⟨y, 3, none⟩ = some (.int .i64 b2) := KU.get 3
              have KVl := KV.lt; have KVc := KV.get; have KVf := KV.fr; have KUl := KU.lt; have KUc := KU.get; have KUf := KU.fr
              go_upto_region 9 with fail
              refine wp_region_grow (by kernel_rfl) (by kernel_rfl) ?_
              repeat (go_big_quiet_step ((fail)))
              refine wpQuiet_nil ?_
              intro z
              have hNw := KV.lt
              have hbz := grow_below wr z
              generalize grow wr z = G at *
              clear KVl KVc KVf KUl KUc KUf
              clear cb
              replace KV := KV.keep hbz
              replace KU := KU.keep hbz
              replace KR := KR.keep hbz
              replace HB := Lib.hid (up HB.out hbz)
              replace cj : G.cell? ⟨N, j, none⟩ = some (.int .i64 v) := (hbz.cell (p := ⟨N, j, none⟩) hNw).trans cj
              clear hbz
              have KVl := KV.lt; have KVc := KV.get; have KVf := KV.fr; have KUl := KU.lt; have KUc := KU.get; have KUf := KU.fr
              go_wp2
              exact ⟨⟨k + 1, j + 1, (b1, b2), by omega, by have := Hj.out; omega, by go_num, HX.out, KV, KU, KR, HB.out⟩, by simp [intOf]; omega⟩
          · have HX := HNOh.out (fun hx => v0 hx.1)
            have cb : wr.cell? ⟨y, 3, none⟩ = some (.int .i64 b2) := KU.get 3
            have KVl := KV.lt; have KVc := KV.get; have KVf := KV.fr; have KUl := KU.lt; have KUc := KU.get; have KUf := KU.fr
            go_upto_region 9 with fail
            refine wp_region_grow (by kernel_rfl) (by kernel_rfl) ?_
            repeat (go_big_quiet_step ((fail)))
            refine wpQuiet_nil ?_
            intro z
            have hNw := KV.lt
            have hbz := grow_below wr z
            generalize grow wr z = G at *
            clear KVl KVc KVf KUl KUc KUf
            clear cb
            replace KV := KV.keep hbz
            replace KU := KU.keep hbz
            replace KR := KR.keep hbz
            replace HB := Lib.hid (up HB.out hbz)
            replace cj : G.cell? ⟨N, j, none⟩ = some (.int .i64 v) := (hbz.cell (p := ⟨N, j, none⟩) hNw).trans cj
            clear hbz
            have KVl := KV.lt; have KVc := KV.get; have KVf := KV.fr; have KUl := KU.lt; have KUc := KU.get; have KUf := KU.fr
            go_wp2
            exact ⟨⟨k + 1, j + 1, (b1, b2), by omega, by have := Hj.out; omega, by go_num, HX.out, KV, KU, KR, HB.out⟩, by simp [intOf]; omega⟩
        · obtain rfl : k = 4 := by omega
          have hj5 : ¬ (j : Int) < 5 := by omega
          clear hj
          have HX : Hid (R = [o, st, b1, b2]) := Lib.hid (by rw [HR.out, Ha.out])
          clear HR Ha
          subst_vars
          go_wp2_with (first
            | (refine wpList_get 56 8 rfl rfl KU rfl Tryz.underlying56 rfl (by kernel_rfl) ?_)
            | (refine wpList_put 56 6 79 rfl rfl KR rfl rfl (by kernel_rfl) rfl (by kernel_rfl) ?_; intro U2 KU2 hp2))
          exact post_1 rfl rfl rfl KU2 Tryz.underlying56 rfl (by kernel_rfl) ⟨by first | rfl | (rw [HX.out]; rfl), upP HB.out hp2 (by omega)⟩
end Go.Proofs.YtjimjdhdnkhfnaaGreat
namespace Go.Proofs.YtjimjdhdnkhfnaaGreat
open Go Go.RowKit
set_option maxHeartbeats 1000000
set_option maxRecDepth 100000
def modI (n m : Int) : Int := (Int.tmod n m + m) % m
theorem tmod_in {n m : Int} (hm : 0 < m) : -m < Int.tmod n m ∧ Int.tmod n m < m := by
  have h1 := Int.emod_nonneg n (show m ≠ 0 by omega)
  have h2 := Int.emod_lt_of_pos n hm
  rw [Int.tmod_eq_emod]
  split
  · omega
  · rename_i h
    have : n % m ≠ 0 := fun h0 => h (.inr (Int.dvd_of_emod_eq_zero h0))
    omega
theorem modI_in {n m : Int} (hm : 0 < m) : 0 ≤ modI n m ∧ modI n m < m := by
  unfold modI
  exact ⟨Int.emod_nonneg _ (by omega), Int.emod_lt_of_pos _ hm⟩
theorem rMod_any (n m : Int) (w : World) (hm : 0 < m) (hm2 : m ≤ 1000000) :
    Calls Tryz.prog 57 #[.int .i64 n, .int .i64 m] w fun e w' => e = .returned (.int .i64 (modI n m)) ∧ w = w' := by
  have h1 : -m < Int.tmod n m ∧ Int.tmod n m < m := tmod_in hm
  have hne : (m == 0) = false := by simp; omega
  have HM : Hid (modI n m = (Int.tmod n m + m) % m) := Lib.hid rfl
  generalize hq : Int.tmod n m = q at *
  have e1 : IntKind.i64.wrap (q + m) = q + m := by rw [IntWalk.i64_in _ (by omega)]
  have e0 : IntKind.i64.wrap q = q := by rw [IntWalk.i64_in _ (by omega)]
  go_enter Tryz.func57, Tryz.ntmps57
  go_wp2
  go_ret
  exact ⟨ret_int HM.out.symm, rfl⟩
theorem rHas_any (L : Option Addr) (r s : Nat) (l : List Int) (x : Int) (w : World) (hl : Is w L r l) :
    Calls Tryz.prog 55 #[.slice L r s, .int .i64 x] w fun e w' => e = .returned (.bool (l.contains x)) ∧ w = w' := by
  have hn := hl.small
  have Hn : Hid (r = l.length) := Lib.hid hl.len
  have Hl := Lib.hid hl
  clear hl
  go_enter Tryz.func55, Tryz.ntmps55
  go_wp2_with fail
  go_loopw [5] (fun i wr => ∃ (k : Nat), k ≤ r ∧ i = .int .i64 k ∧ w = wr ∧ (l.drop k).contains x = l.contains x) (fun i _ => r - (intOf i).toNat)
  case atStart => exact ⟨0, by omega, rfl, rfl, rfl⟩
  case round =>
    obtain ⟨k, hk, rfl, rfl, hor⟩ := hrel
    have Hor := Lib.hid hor
    clear hor
    by_cases hlt : k < r
    · have hkl : k < l.length := by rw [← Hn.out]; exact hlt
      obtain ⟨b, o, rfl, hb, hc⟩ := Hl.out.get k hkl
      have Hd := Lib.hid (List.drop_eq_getElem_cons hkl)
      generalize l[k] = y at *
      rcases Bool.eq_false_or_eq_true (y == x) with h0 | h0
      · have hf : l.contains x = true := by rw [← Hor.out, Hd.out, List.contains_cons, show (x == y) = true by rw [eq_of_beq h0]; simp]; rfl
        have Hf := Lib.hid hf
        clear hf
        go_wp2
        go_ret
        exact ⟨ret_bool Hf.out.symm, rfl⟩
      · have Hs : Hid ((l.drop (k + 1)).contains x = l.contains x) := Lib.hid (by
          rw [← Hor.out, Hd.out, List.contains_cons, show (x == y) = false by rw [← h0]; exact BEq.comm]; simp)
        go_wp2
        exact ⟨⟨k + 1, by omega, by go_num, trivial, Hs.out⟩, by simp [intOf]; omega⟩
    · obtain rfl : k = r := by omega
      have Hf : Hid (l.contains x = false) := Lib.hid (by rw [← Hor.out, Hn.out, List.drop_length]; rfl)
      go_wp2
      go_ret
      exact ⟨ret_bool Hf.out.symm, rfl⟩
def lasN (lt : List Int) (kn : Int) : Int := if lt.getD 2 0 = 0 then kn else if lt.getD 2 0 = 2 then lt.getD 3 0 else lt.getD 3 0 - 1
theorem rlast_any (lt : List Int) (kn : Int) (w : World) (hl : lt.length = 4) (hd : -1 ≤ lt.getD 3 0 ∧ lt.getD 3 0 ≤ 1000000) :
    Calls Tryz.prog 97 #[.agg ⟨ints lt⟩, .int .i64 kn] w fun e w' => e = .returned (.int .i64 (lasN lt kn)) ∧ Below w.heap.size w w' := by
  obtain ⟨a0, a1, a2, a3, rfl⟩ := list4 hl
  replace hd : -1 ≤ a3 ∧ a3 ≤ 1000000 := hd
  obtain ⟨d1, d2⟩ := hd
  show Calls Tryz.prog 97 #[.agg #[.int .i64 a0, .int .i64 a1, .int .i64 a2, .int .i64 a3], .int .i64 kn] w _
  have HL : Hid (lasN [a0, a1, a2, a3] kn = if a2 = 0 then kn else if a2 = 2 then a3 else a3 - 1) := Lib.hid rfl
  by_cases h0 : a2 = 0
  · have h0b : (a2 == 0) = true := by simpa using h0
    have HR : Hid (lasN [a0, a1, a2, a3] kn = kn) := Lib.hid (by rw [HL.out, if_pos h0])
    clear h0
    go_enter Tryz.func97, Tryz.ntmps97
    go_wp2; go_ret; exact ⟨ret_int HR.out.symm, by go_grown⟩
  · have h0b : (a2 == 0) = false := by simpa using h0
    by_cases h2 : a2 = 2
    · have h2b : (a2 == 2) = true := by simpa using h2
      have HR : Hid (lasN [a0, a1, a2, a3] kn = a3) := Lib.hid (by rw [HL.out, if_neg h0, if_pos h2])
      clear h0 h2
      go_enter Tryz.func97, Tryz.ntmps97
      go_wp2; go_ret; exact ⟨ret_int HR.out.symm, by go_grown⟩
    · have h2b : (a2 == 2) = false := by simpa using h2
      have HR : Hid (lasN [a0, a1, a2, a3] kn = a3 - 1) := Lib.hid (by rw [HL.out, if_neg h0, if_neg h2])
      clear h0 h2
      go_enter Tryz.func97, Tryz.ntmps97
      go_wp2; go_ret; exact ⟨ret_int HR.out.symm, by go_grown⟩
end Go.Proofs.YtjimjdhdnkhfnaaGreat
namespace Go.Proofs.YtjimjdhdnkhfnaaGreat
open Go Go.RowKit
set_option maxHeartbeats 1000000
set_option maxRecDepth 100000
def smK {α : Type} [BEq α] (a b : List α) (k : Nat) : Bool := decide (a.length = b.length) && (a.take k == b.take k)
theorem smK_all {α : Type} [BEq α] [LawfulBEq α] (a b : List α) : smK a b a.length = (a == b) := by
  unfold smK
  by_cases h : a.length = b.length
  · rw [decide_eq_true h, Bool.true_and, List.take_length, h, List.take_length]
  · rw [decide_eq_false h, Bool.false_and]
    exact (beq_eq_false_iff_ne.2 (fun e => h (by rw [e]))).symm
theorem smK_no {α : Type} [BEq α] [LawfulBEq α] {a b : List α} {k : Nat} (h : smK a b k = false) : (a == b) = false := by
  rw [beq_eq_false_iff_ne]
  intro e
  subst e
  unfold smK at h
  simp at h
theorem smK_succ {α : Type} [BEq α] [LawfulBEq α] {a b : List α} {k : Nat} (ha : k < a.length) (hb : k < b.length) (h : smK a b k = true) : smK a b (k + 1) = (a[k] == b[k]) := by
  unfold smK at h ⊢
  rw [Bool.and_eq_true] at h
  rw [h.1, Bool.true_and, List.take_succ_eq_append_getElem ha, List.take_succ_eq_append_getElem hb, eq_of_beq h.2]
  rw [Bool.eq_iff_iff, beq_iff_eq, beq_iff_eq, List.append_right_inj]
  simp
theorem rSameInts_any (L : Option Addr) (r s : Nat) (a : List Int) (C : Option Addr) (u v : Nat) (b : List Int) (w : World) (hl : Is w L r a) (hc : Is w C u b) :
    Calls Tryz.prog 29 #[.slice L r s, .slice C u v] w fun e w' => e = .returned (.bool (a == b)) ∧ Below w.heap.size w w' := by
  have hn := hl.small
  have hu := hc.small
  have Hn : Hid (r = a.length) := Lib.hid hl.len
  have Hu : Hid (u = b.length) := Lib.hid hc.len
  have Hl := Lib.hid hl; have Hc := Lib.hid hc
  clear hl hc
  have H0 : Hid (smK a b 0 = ((r : Int) == (u : Int))) := Lib.hid (by
    unfold smK; rw [← Hn.out, ← Hu.out]
    by_cases h : r = u
    · subst h; simp
    · rw [decide_eq_false h, Bool.false_and]; symm; rw [beq_eq_false_iff_ne]; omega)
  go_enter Tryz.func29, Tryz.ntmps29
  go_upto_region 2 with fail
  rw [← H0.out]
  go_wp2_with fail
  go_loopw [5, 6] (fun y i wr => ∃ (k : Nat), k ≤ r ∧ i = .int .i64 k ∧ y = .bool (smK a b k) ∧ Below w.heap.size w wr) (fun _ i _ => r - (intOf i).toNat)
  case atStart => exact ⟨0, by omega, rfl, rfl, Below.refl _ _⟩
  case round =>
    obtain ⟨k, hk, rfl, rfl, hb⟩ := hrel
    have HB := Lib.hid hb
    clear hb
    cases hs : smK a b k
    · have Hf := Lib.hid (smK_no hs)
      clear hs
      by_cases hlt : k < r
      · go_wp2; go_ret; exact ⟨ret_bool Hf.out.symm, HB.out⟩
      · go_wp2; go_ret; exact ⟨ret_bool Hf.out.symm, HB.out⟩
    · by_cases hlt : k < r
      · have hkl : k < a.length := by rw [← Hn.out]; exact hlt
        have heq : a.length = b.length := by unfold smK at hs; rw [Bool.and_eq_true] at hs; exact of_decide_eq_true hs.1
        have hkb : k < b.length := by omega
        have hku : k < u := by rw [Hu.out]; exact hkb
        have Hs := Lib.hid (smK_succ hkl hkb hs)
        clear hs heq
        obtain ⟨b1, o1, rfl, hb1, hc1⟩ := (Hl.out.keep HB.out).get k hkl
        obtain ⟨b2, o2, rfl, hb2, hc2⟩ := (Hc.out.keep HB.out).get k hkb
        generalize a[k] = x at *
        generalize b[k] = y at *
        go_upto_region 5 with fail
        refine wp_region_grow (by kernel_rfl) (by kernel_rfl) ?_
        repeat (go_big_quiet_step ((fail)))
        refine wpQuiet_nil ?_
        intro z
        have hbz := grow_below wr z
        generalize grow wr z = V at *
        replace HB := Lib.hid (up HB.out hbz)
        clear hbz hc1 hc2 hb1 hb2
        go_wp2
        exact ⟨⟨k + 1, by omega, by go_num, by rw [Hs.out], HB.out⟩, by simp [intOf]; omega⟩
      · obtain rfl : k = r := by omega
        have Hf : Hid ((a == b) = true) := Lib.hid (by rw [← smK_all, ← Hn.out]; exact hs)
        clear hs
        go_wp2; go_ret; exact ⟨ret_bool Hf.out.symm, HB.out⟩
end Go.Proofs.YtjimjdhdnkhfnaaGreat
namespace Go.Proofs.YtjimjdhdnkhfnaaGreat
open Go Go.RowKit
set_option maxHeartbeats 2000000
set_option maxRecDepth 100000
def lsAt (ok : List Int → Bool) (L : List (List Int)) (i : Nat) : Bool := ok (L.getD i []) && (i == 0 || decide ((L.getD (i - 1) []).getD 0 0 < (L.getD i []).getD 0 0))
def lsK (ok : List Int → Bool) (L : List (List Int)) (k : Nat) : Bool := (List.range k).all (lsAt ok L)
def lsOk (ok : List Int → Bool) (most : Nat) (L : List (List Int)) : Bool := decide (L.length ≤ most) && lsK ok L L.length
theorem lsK_succ (ok : List Int → Bool) (L : List (List Int)) (k : Nat) : lsK ok L (k + 1) = (lsK ok L k && lsAt ok L k) := by
  unfold lsK; rw [List.range_succ, List.all_append]; simp
theorem lsK_bad {ok : List Int → Bool} {L : List (List Int)} {k : Nat} (h : k < L.length) (hb : lsAt ok L k = false) : lsK ok L L.length = false := by
  unfold lsK; rw [List.all_eq_false]; exact ⟨k, List.mem_range.2 h, by simp [hb]⟩
theorem lsAt_eq {ok : List Int → Bool} {L : List (List Int)} {k : Nat} (h : k < L.length) : lsAt ok L k = (ok L[k] && (k == 0 || decide ((L.getD (k - 1) []).getD 0 0 < L[k].getD 0 0))) := by
  unfold lsAt; rw [show L.getD k [] = L[k] by simp [h]]
theorem sourceOfNote_any (n : List Int) (hn : n.length = 7) (w : World) :
    Calls Tryz.prog 72 #[.agg ⟨ints n⟩] w fun e w' => e = .returned (.int .i64 (n.getD 0 0)) ∧ Below w.heap.size w w' := by
  obtain ⟨n0, n1, n2, n3, n4, n5, n6, rfl⟩ := list7 hn
  show Calls Tryz.prog 72 #[.agg #[.int .i64 n0, .int .i64 n1, .int .i64 n2, .int .i64 n3, .int .i64 n4, .int .i64 n5, .int .i64 n6]] w _
  go_enter Tryz.func72, Tryz.ntmps72
  go_wp2; go_ret; exact ⟨rfl, by go_grown⟩
theorem validNotes_any (A : Option Addr) (n c : Nat) (L : List (List Int)) (most : Nat) (w : World) (hL : Rw w A n 7 L) (hm : most ≤ 1000) :
    Calls Tryz.prog 71 #[.slice A n c, .int .i64 (most : Int), .func (.func 21) #[] #[], .func (.func 72) #[] #[]] w fun e w' => e = .returned (.bool (lsOk noteOk most L)) ∧ Below w.heap.size w w' := by
  have hs := hL.small
  have Hn : Hid (n = L.length) := Lib.hid hL.len
  have HL := Lib.hid hL
  clear hL
  by_cases hnm : (n : Int) > (most : Int)
  · have HX : Hid (lsOk noteOk most L = false) := Lib.hid (by unfold lsOk; rw [decide_eq_false (by rw [← Hn.out]; omega)]; rfl)
    go_enter Tryz.func71, Tryz.ntmps71
    go_wp2
    go_ret; exact ⟨by rw [HX.out]; rfl, Below.refl _ _⟩
  · have HX : Hid (lsOk noteOk most L = lsK noteOk L L.length) := Lib.hid (by unfold lsOk; rw [decide_eq_true (by rw [← Hn.out]; omega)]; rfl)
    go_enter Tryz.func71, Tryz.ntmps71
    go_wp2_with fail
    go_loopw [17] (fun i wr => ∃ (k : Nat), k ≤ n ∧ i = .int .i64 k ∧ lsK noteOk L k = true ∧ Below w.heap.size w wr) (fun i _ => n - (intOf i).toNat)
    case atStart => exact ⟨0, by omega, rfl, rfl, Below.refl _ _⟩
    case round =>
      obtain ⟨k, hk, rfl, hr, hb⟩ := hrel
      have Hr := Lib.hid hr
      have HB := Lib.hid hb
      clear hr hb
      by_cases hlt : k < n
      · have hkl : k < L.length := by rw [← Hn.out]; exact hlt
        obtain ⟨b, o, rfl, hbl, hc⟩ := (HL.out.keep HB.out).get k hkl
        have h7 : (L[k]).length = 7 := HL.out.at hkl
        have Hs := Lib.hid (lsK_succ noteOk L k)
        have Ha := Lib.hid (lsAt_eq (ok := noteOk) hkl)
        have Hbad := Lib.hid (fun h => lsK_bad (ok := noteOk) hkl h)
        have Hc := Lib.hid hc
        have HCk := Lib.hid (fun W => checkNote_any L[k] h7 W)
        have HSo : Hid (∀ (a0 a1 a2 a3 a4 a5 a6 : Int) W, Calls Tryz.prog 72 #[.agg #[.int .i64 a0, .int .i64 a1, .int .i64 a2, .int .i64 a3, .int .i64 a4, .int .i64 a5, .int .i64 a6]] W fun e w' => e = .returned (.int .i64 a0) ∧ Below W.heap.size W w') := Lib.hid (fun a0 a1 a2 a3 a4 a5 a6 W => sourceOfNote_any [a0, a1, a2, a3, a4, a5, a6] rfl W)
        have HRw := Lib.hid (HL.out.keep HB.out)
        generalize L[k] = q at *
        generalize noteOk q = okq at *
        obtain ⟨q0, q1, q2, q3, q4, q5, q6, rfl⟩ := list7 h7
        replace HCk : Hid (∀ W, Calls Tryz.prog 21 #[.agg #[.int .i64 q0, .int .i64 q1, .int .i64 q2, .int .i64 q3, .int .i64 q4, .int .i64 q5, .int .i64 q6]] W fun e w' => e = .returned (.int .i64 (err okq 62)) ∧ Below W.heap.size W w') := HCk
        clear hc
        go_upto_region 6 with (first
          | (refine wpList_getAt 34 20 rfl rfl Hc.out rfl Tryz.underlying34 rfl (sz_n h7) ?_)
          | (refine wpList_putNew 34 10 21 rfl rfl rfl rfl (sa_n h7) rfl (ints_one _) ?_; intro U KU hbu hsu; replace KU : Bx U wr.heap.size 34 [.int .i64 q0, .int .i64 q1, .int .i64 q2, .int .i64 q3, .int .i64 q4, .int .i64 q5, .int .i64 q6] := KU; have KUl := KU.lt; have KUc := KU.get; have KUf := KU.fr; replace HB := Lib.hid (up HB.out hbu)))
        cases okq
        · replace HCk : Hid (∀ W, Calls Tryz.prog 21 #[.agg #[.int .i64 q0, .int .i64 q1, .int .i64 q2, .int .i64 q3, .int .i64 q4, .int .i64 q5, .int .i64 q6]] W fun e w' => e = .returned (.int .i64 62) ∧ Below W.heap.size W w') := HCk
          have Hbd : Hid (lsK noteOk L L.length = false) := Lib.hid (Hbad.out (by rw [Ha.out]; rfl))
          simp only [Act.put]
          refine wp_region_grow (by kernel_rfl) (by kernel_rfl) ?_
          repeat (go_big_quiet_step ((first | (go_at_call 21; exact quiet_grow rfl (HCk.out _)) | (go_at_call 72; exact quiet_grow rfl (HSo.out _ _ _ _ _ _ _ _)))))
          refine wpQuiet_nil ?_
          intro z
          have hbz := grow_below U z
          generalize grow U z = V at *
          clear KUl KUc KUf; replace KU := KU.keep hbz; have KUl := KU.lt; have KUc := KU.get; have KUf := KU.fr; replace HB := Lib.hid (up HB.out hbz); clear hbz
          go_wp2
          go_ret; exact ⟨by rw [HX.out, Hbd.out]; rfl, HB.out⟩
        · replace HCk : Hid (∀ W, Calls Tryz.prog 21 #[.agg #[.int .i64 q0, .int .i64 q1, .int .i64 q2, .int .i64 q3, .int .i64 q4, .int .i64 q5, .int .i64 q6]] W fun e w' => e = .returned (.int .i64 0) ∧ Below W.heap.size W w') := HCk
          rcases Nat.eq_zero_or_pos k with rfl | hk0
          · have Hgd : Hid (lsK noteOk L (0 + 1) = true) := Lib.hid (by rw [Hs.out, Hr.out, Ha.out]; rfl)
            simp only [Act.put]
            refine wp_region_grow (by kernel_rfl) (by kernel_rfl) ?_
            repeat (go_big_quiet_step ((first | (go_at_call 21; exact quiet_grow rfl (HCk.out _)) | (go_at_call 72; exact quiet_grow rfl (HSo.out _ _ _ _ _ _ _ _)))))
            refine wpQuiet_nil ?_
            intro z
            have hbz := grow_below U z
            generalize grow U z = V at *
            clear KUl KUc KUf; replace KU := KU.keep hbz; have KUl := KU.lt; have KUc := KU.get; have KUf := KU.fr; replace HB := Lib.hid (up HB.out hbz); clear hbz
            go_wp2
            exact ⟨⟨0 + 1, by omega, by go_num, Hgd.out, HB.out⟩, by simp [intOf]; omega⟩
          · obtain ⟨k1, hk1⟩ : ∃ k1 : Nat, (k : Int) - 1 = (k1 : Int) := ⟨k - 1, by omega⟩
            have hkk : k1 + 1 = k := by omega
            have hk1l : k1 < L.length := by omega
            have e1 : IntKind.i64.wrap ((k : Int) - 1) = (k1 : Int) := by rw [IntWalk.i64_in _ (by omega), hk1]
            have hkpos : (k : Int) > 0 := by omega
            have hk1n : k1 < n := by omega
            obtain ⟨b2, o2, eb, hbl2, hc2⟩ := HRw.out.get k1 hk1l
            cases eb
            have hp7 : (L[k1]).length = 7 := HRw.out.at hk1l
            have Hg2 : Hid (L.getD (k - 1) [] = L[k1]) := Lib.hid (by rw [show k - 1 = k1 by omega]; simp [hk1l])
            generalize L[k1] = p at *
            obtain ⟨p0, p1, p2, p3, p4, p5, p6, rfl⟩ := list7 hp7
            have hbU : b < U.heap.size := by omega
            obtain ⟨d0, d1, d2, d3, d4, d5, d6⟩ := cells7 (rangeAt_keep hc2 hbl hbu)
            clear hc2 hkk
            by_cases hpq : p0 < q0
            · have Hgd : Hid (lsK noteOk L (k + 1) = true) := Lib.hid (by rw [Hs.out, Hr.out, Ha.out, Hg2.out]; simp [hpq])
              have hge : ¬ p0 ≥ q0 := by omega
              simp only [Act.put]
              refine wp_region_grow (by kernel_rfl) (by kernel_rfl) ?_
              repeat (go_big_quiet_step ((first | (go_at_call 21; exact quiet_grow rfl (HCk.out _)) | (go_at_call 72; exact quiet_grow rfl (HSo.out _ _ _ _ _ _ _ _)))))
              refine wpQuiet_nil ?_
              intro z
              have hbz := grow_below U z
              generalize grow U z = V at *
              clear KUl KUc KUf; replace KU := KU.keep hbz; have KUl := KU.lt; have KUc := KU.get; have KUf := KU.fr; replace HB := Lib.hid (up HB.out hbz); clear hbz
              clear d0 d1 d2 d3 d4 d5 d6 hbu hsu
              go_wp2
              exact ⟨⟨k + 1, by omega, by go_num, Hgd.out, HB.out⟩, by simp [intOf]; omega⟩
            · have Hbd : Hid (lsK noteOk L L.length = false) := Lib.hid (Hbad.out (by rw [Ha.out, Hg2.out]; simp [hpq]; omega))
              have hge : p0 ≥ q0 := by omega
              simp only [Act.put]
              refine wp_region_grow (by kernel_rfl) (by kernel_rfl) ?_
              repeat (go_big_quiet_step ((first | (go_at_call 21; exact quiet_grow rfl (HCk.out _)) | (go_at_call 72; exact quiet_grow rfl (HSo.out _ _ _ _ _ _ _ _)))))
              refine wpQuiet_nil ?_
              intro z
              have hbz := grow_below U z
              generalize grow U z = V at *
              clear KUl KUc KUf; replace KU := KU.keep hbz; have KUl := KU.lt; have KUc := KU.get; have KUf := KU.fr; replace HB := Lib.hid (up HB.out hbz); clear hbz
              clear d0 d1 d2 d3 d4 d5 d6 hbu hsu
              go_wp2
              go_ret; exact ⟨by rw [HX.out, Hbd.out]; rfl, HB.out⟩
      · obtain rfl : k = n := by omega
        have Hfin : Hid (lsK noteOk L L.length = true) := Lib.hid (by rw [← Hn.out]; exact Hr.out)
        go_wp2
        go_ret; exact ⟨by rw [HX.out, Hfin.out]; rfl, HB.out⟩
end Go.Proofs.YtjimjdhdnkhfnaaGreat
