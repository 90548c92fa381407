/- Contracts of functions of the program and of the reference, and plain facts: a part of a proof. Own text. -/
import Derived.Test.YtaieidigpilbfaaGreatJa
import Derived.Test.YtaieidigpilbfaaGreatJb
import Derived.Lib.AppendZeros
set_option linter.unusedVariables false
set_option linter.unusedSimpArgs false
set_option linter.unusedSectionVars false
namespace Go.Proofs.YtaieidigpilbfaaGreat
open Go Go.RowKit
set_option maxHeartbeats 400000
set_option maxRecDepth 100000
section
variable {P : Program} {ops : Array Oper} {rest : List Oper} {o : Oper} {a : Act} {X : World} {Q : Exit → Act → World → Prop} {t : TypeId} {old : List Value}
theorem wpList_putNew (ty : TypeId) (p s : Tmp) (hg : o.guard = none) (ho : o.op = .store ty (.tmp p) (.tmp s)) {cs : Array Value} (hx : a.eval (.tmp p) = .pointer (some ⟨X.heap.size, 0, none⟩))
    (hy : a.eval (.tmp s) = .agg cs) (hi : (P.info? ty).map (·.size) = some cs.size) (hold : old.length = cs.size) (h1 : cs.all (·.oneCell') = true)
    (h : ∀ U, Bx U X.heap.size t cs.toList → Below X.heap.size X U → U.heap.size = X.heap.size + 1 → wpList P ops Q rest (a.put o.dst undef) U) : wpList P ops Q (o :: rest) a (X.alloc (.cells ⟨old⟩ t)) :=
  wpList_put ty p s hg ho (Bx.new X old t) hx hy hi hold h1 fun U K hp => h U K ((up_alloc X _).trans (hp.below (Nat.le_refl _))) (by rw [hp.size]; simp)
end
theorem sz107 : (Tryz.prog.info? 107).map (·.size) = some 10 := by kernel_rfl
theorem sz72 : (Tryz.prog.info? 72).map (·.size) = some 4 := by kernel_rfl
theorem sL83 {A : Option Addr} {n c : Nat} {v : Value} {ap : List Int} (h : ap.length = 10) : (Tryz.prog.info? 83).map (·.size) = some (⟨ldL A n c v ap⟩ : Array Value).size := by
  show _ = some (ldL _ _ _ _ _).length; rw [ldL_len h]; exact sz83
theorem sL83' {A : Option Addr} {n c : Nat} {v : Value} {ap : List Int} (h : ap.length = 10) : (Tryz.prog.info? 83).map (·.size) = some (ldL A n c v ap).length := by rw [ldL_len h]; exact sz83
theorem sLo {A : Option Addr} {n c : Nat} {v : Value} {ap : List Int} (h : ap.length = 10) : 12 = (⟨ldL A n c v ap⟩ : Array Value).size := by show _ = (ldL _ _ _ _ _).length; rw [ldL_len h]
theorem sI107 {l : List Int} (h : l.length = 10) : (Tryz.prog.info? 107).map (·.size) = some (⟨ints l⟩ : Array Value).size := by show _ = some (ints l).length; rw [ints_len, h]; exact sz107
theorem sI107' {l : List Int} (h : l.length = 10) : (Tryz.prog.info? 107).map (·.size) = some (ints l).length := by rw [ints_len, h]; exact sz107
theorem sIo {l : List Int} (h : l.length = 10) : 10 = (⟨ints l⟩ : Array Value).size := by show _ = (ints l).length; rw [ints_len, h]
theorem sE_0 {P : List Int} {K : List Kd} {l : List Int} (h : sE P K l = 0) : yOk P K = true ∧ l.length ≤ 8 ∧ lOk K l = true := by
  unfold sE at h
  cases hy : yOk P K
  · rw [hy] at h; simp at h
  · rw [hy, if_pos rfl] at h
    unfold err at h
    split at h
    · rename_i h2; simp at h2; exact ⟨rfl, h2⟩
    · omega
theorem yOk_k {P : List Int} {K : List Kd} (h : yOk P K = true) : P.length ≤ 5 ∧ psOk P = true ∧ ksOk K = true := by simpa [yOk] using h
theorem ks0 (w : World) : Ks w none 0 [] := ⟨rfl, by omega, fun k hk => by simp at hk⟩
theorem is0 (w : World) : Is w none 0 [] := ⟨rfl, by omega, fun k hk => by simp at hk⟩
end Go.Proofs.YtaieidigpilbfaaGreat

namespace Go.Proofs.YtaieidigpilbfaaGreat
open Go Go.RowKit
set_option maxHeartbeats 1000000
set_option maxRecDepth 100000

theorem loadOf_ok (A : Option Addr) (n c : Nat) (P : List Int) (B : Option Addr) (m d : Nat) (K : List Kd) (L : Option Addr) (r s : Nat) (l : List Int) (w : World) (hp : Is w A n P) (hg : Ks w B m K) (hl : Is w L r l) (h0 : sE P K l = 0) :
    Calls Tryz.prog 63 #[.agg #[.slice A n c, .slice B m d], .slice L r s] w fun e w' => ∃ B' c', e = .returned (.tuple #[.agg ⟨ldL A n c (.slice B' l.length c') (apL K)⟩, .int .i64 0]) ∧ l.length ≤ c' ∧ Ks w' B' l.length (bsL K l) ∧ (∀ q, B' = some q → w.heap.size ≤ q.block) ∧ Below w.heap.size w w' := by
  obtain ⟨hy, h8, -⟩ := sE_0 h0
  have HK := Lib.hid (yOk_k hy).2.2
  have H0 := Lib.hid h0
  have Hp := Lib.hid hp; have Hg := Lib.hid hg; have Hl := Lib.hid hl
  clear hp hg hl h0 hy
  have hap := apL_len K
  go_enter Tryz.func63, Tryz.ntmps63
  go_upto_region 1 with fail
  generalize hW : (World.alloc _ _) = W
  have HB : Hid (Below w.heap.size w W) := Lib.hid (by subst hW; go_grown)
  have KY : Bx W (w.heap.size) 25 [.slice A n c, .slice B m d] := by subst hW; repeat (first | (refine Bx.newAt _ _ _ ?_; first | rfl | (simp only [World.size_alloc]; done) | (simp only [World.size_alloc]; omega)) | refine Bx.old ?_ _)
  have KZ : Bx W (w.heap.size + 1) 83 [.slice none 0 0, .slice none 0 0, .int .i64 0, .int .i64 0, .int .i64 0, .int .i64 0, .int .i64 0, .int .i64 0, .int .i64 0, .int .i64 0, .int .i64 0, .int .i64 0] := by subst hW; repeat (first | (refine Bx.newAt _ _ _ ?_; first | rfl | (simp only [World.size_alloc]; done) | (simp only [World.size_alloc]; omega)) | refine Bx.old ?_ _)
  clear hW
  have KYl := KY.lt; have KYc := KY.get; have KYf := KY.fr; have KZl := KZ.lt; have KZc := KZ.get; have KZf := KZ.fr
  go_wp2_with (first
    | (go_at_call 20; refine (checkSorts_any _ _ _ P _ _ _ K _ _ _ l _ (Hp.out.keep HB.out) (Hg.out.keep HB.out) (Hl.out.keep HB.out)).mono ?_; rintro e X ⟨rfl, hbx⟩; have hx0 := KZ.lt; have hx1 := hbx.size; clear KYl KYc KYf; replace KY := KY.keep hbx; have KYl := KY.lt; have KYc := KY.get; have KYf := KY.fr; clear KZl KZc KZf; replace KZ := KZ.keep hbx; have KZl := KZ.lt; have KZc := KZ.get; have KZf := KZ.fr; replace HB := Lib.hid (up HB.out hbx); clear hbx; rw [H0.out])
    | (go_at_call 124; refine (newLoad_any _ _ _ _ _ _ K _ _ _ l _ (Hg.out.keep HB.out) (Hl.out.keep HB.out) HK.out (by omega)).mono ?_; rintro e V ⟨B', c', rfl, hlc, hks, hfar, hbx⟩; have Hks := Lib.hid hks; have Hfar := Lib.hid hfar; have hxs := hbx.size; clear hks hfar; clear KYl KYc KYf; replace KY := KY.keep hbx; have KYl := KY.lt; have KYc := KY.get; have KYf := KY.fr; clear KZl KZc KZf; replace KZ := KZ.keep hbx; have KZl := KZ.lt; have KZc := KZ.get; have KZf := KZ.fr; replace HB := Lib.hid (up HB.out hbx); clear hbx)
    | (refine wpList_put 83 4 16 rfl rfl KZ rfl rfl (sL83 hap) (sLo hap) ldL_one ?_; intro U KZn hp))
  refine post_2 rfl rfl rfl KZn Tryz.underlying83 rfl (sL83' hap) (v := .int .i64 0) rfl ⟨B', c', rfl, hlc, Hks.out.put hp (fun q hq => by have := Hfar.out q hq; omega), fun q hq => by (have := Hfar.out q hq; omega), upP HB.out hp (by omega)⟩

theorem loadOf_no (A : Option Addr) (n c : Nat) (P : List Int) (B : Option Addr) (m d : Nat) (K : List Kd) (L : Option Addr) (r s : Nat) (l : List Int) (w : World) (hp : Is w A n P) (hg : Ks w B m K) (hl : Is w L r l) (h0 : sE P K l ≠ 0) :
    Calls Tryz.prog 63 #[.agg #[.slice A n c, .slice B m d], .slice L r s] w fun e w' => e = .returned (.tuple #[.agg ⟨ldL none 0 0 (.slice none 0 0) ap0⟩, .int .i64 (sE P K l)]) ∧ Below w.heap.size w w' := by
  have Hp := Lib.hid hp; have Hg := Lib.hid hg; have Hl := Lib.hid hl
  clear hp hg hl
  have hne : (sE P K l != 0) = true := by simpa using h0
  clear h0
  generalize hE : sE P K l = E at *
  have HE := Lib.hid hE; clear hE
  go_enter Tryz.func63, Tryz.ntmps63
  go_upto_region 1 with fail
  generalize hW : (World.alloc _ _) = W
  have HB : Hid (Below w.heap.size w W) := Lib.hid (by subst hW; go_grown)
  have KY : Bx W (w.heap.size) 25 [.slice A n c, .slice B m d] := by subst hW; repeat (first | (refine Bx.newAt _ _ _ ?_; first | rfl | (simp only [World.size_alloc]; done) | (simp only [World.size_alloc]; omega)) | refine Bx.old ?_ _)
  have KZ : Bx W (w.heap.size + 1) 83 [.slice none 0 0, .slice none 0 0, .int .i64 0, .int .i64 0, .int .i64 0, .int .i64 0, .int .i64 0, .int .i64 0, .int .i64 0, .int .i64 0, .int .i64 0, .int .i64 0] := by subst hW; repeat (first | (refine Bx.newAt _ _ _ ?_; first | rfl | (simp only [World.size_alloc]; done) | (simp only [World.size_alloc]; omega)) | refine Bx.old ?_ _)
  clear hW
  have KYl := KY.lt; have KYc := KY.get; have KYf := KY.fr; have KZl := KZ.lt; have KZc := KZ.get; have KZf := KZ.fr
  go_wp2_with (first
    | (go_at_call 20; refine (checkSorts_any _ _ _ P _ _ _ K _ _ _ l _ (Hp.out.keep HB.out) (Hg.out.keep HB.out) (Hl.out.keep HB.out)).mono ?_; rintro e X ⟨rfl, hbx⟩; clear KYl KYc KYf; replace KY := KY.keep hbx; have KYl := KY.lt; have KYc := KY.get; have KYf := KY.fr; clear KZl KZc KZf; replace KZ := KZ.keep hbx; have KZl := KZ.lt; have KZc := KZ.get; have KZf := KZ.fr; replace HB := Lib.hid (up HB.out hbx); clear hbx; rw [HE.out])
    | (refine wpList_put 83 4 12 rfl rfl KZ rfl rfl (by kernel_rfl) rfl (by simp [Value.oneCell']) ?_; intro U KZn hp; clear KZl KZc KZf; clear KYl KYc KYf; replace KY := KY.put hp (by omega); have KYl := KY.lt; have KYc := KY.get; have KYf := KY.fr; replace HB := Lib.hid (upP HB.out hp (by omega)); clear hp KZ; have KZ := KZn; clear KZn; have KZl := KZ.lt; have KZc := KZ.get; have KZf := KZ.fr))
  exact post_2 rfl rfl rfl KZ Tryz.underlying83 rfl sz83 (v := .int .i64 E) rfl ⟨rfl, HB.out⟩

theorem Room_any (A : Option Addr) (n c : Nat) (P : List Int) (B : Option Addr) (m d : Nat) (K : List Kd) (L : Option Addr) (r s : Nat) (l : List Int) (w : World) (hp : Is w A n P) (hg : Ks w B m K) (hl : Is w L r l) :
    Calls Tryz.prog 14 #[.agg #[.slice A n c, .slice B m d], .slice L r s] w fun e w' => e = .returned (.tuple #[.int .i64 (if sE P K l = 0 then sumR (bsL K l) else 0), .int .i64 (sE P K l)]) ∧ Below w.heap.size w w' := by
  have Hp := Lib.hid hp; have Hg := Lib.hid hg; have Hl := Lib.hid hl
  clear hp hg hl
  by_cases h0 : sE P K l = 0
  · obtain ⟨hy, h8, -⟩ := sE_0 h0
    have HK := Lib.hid (yOk_k hy).2.2
    have hap := apL_len K
    have hbl : (bsL K l).length ≤ 1000 := by unfold bsL; rw [List.length_map]; omega
    have H0 := Lib.hid h0; clear h0
    go_enter Tryz.func14, Tryz.ntmps14
    go_upto_region 1 with fail
    generalize hW : (World.alloc _ _) = W
    have HB : Hid (Below w.heap.size w W) := Lib.hid (by subst hW; go_grown)
    have KY : Bx W (w.heap.size) 25 [.slice A n c, .slice B m d] := by subst hW; repeat (first | (refine Bx.newAt _ _ _ ?_; first | rfl | (simp only [World.size_alloc]; done) | (simp only [World.size_alloc]; omega)) | refine Bx.old ?_ _)
    clear hW
    have KYl := KY.lt; have KYc := KY.get; have KYf := KY.fr
    go_wp2_with (first
      | (go_at_call 63; refine (loadOf_ok _ _ _ P _ _ _ K _ _ _ l _ (Hp.out.keep HB.out) (Hg.out.keep HB.out) (Hl.out.keep HB.out) H0.out).mono ?_; rintro e X ⟨B', c', rfl, hlc, hks, -, hbx⟩; have Hks := Lib.hid hks; clear hks; clear KYl KYc KYf; replace KY := KY.keep hbx; have KYl := KY.lt; have KYc := KY.get; have KYf := KY.fr; replace HB := Lib.hid (up HB.out hbx); clear hbx)
      | (refine wpList_putNew 83 6 12 rfl rfl rfl rfl (sL83 hap) (sLo hap) ldL_one ?_; intro U KU hbu hsu; have HksU := Lib.hid (Hks.out.keep hbu); clear KYl KYc KYf; replace KY := KY.keep hbu; have KYl := KY.lt; have KYc := KY.get; have KYf := KY.fr; replace HB := Lib.hid (up HB.out hbu); clear hbu)
      | (refine wpList_get 83 6 rfl rfl KU rfl Tryz.underlying83 rfl (sL83' hap) ?_)
      | (go_at_call 64; refine (room_any _ _ _ _ _ _ (bsL K l) _ _ HksU.out (bsL_in HK.out l) hbl).mono ?_; rintro e V ⟨rfl, hbv⟩; replace HB := Lib.hid (up HB.out hbv)))
    go_ret2
    exact ⟨rfl, HB.out⟩
  · have H0 := Lib.hid h0; clear h0
    go_enter Tryz.func14, Tryz.ntmps14
    go_upto_region 1 with fail
    generalize hW : (World.alloc _ _) = W
    have HB : Hid (Below w.heap.size w W) := Lib.hid (by subst hW; go_grown)
    have KY : Bx W (w.heap.size) 25 [.slice A n c, .slice B m d] := by subst hW; repeat (first | (refine Bx.newAt _ _ _ ?_; first | rfl | (simp only [World.size_alloc]; done) | (simp only [World.size_alloc]; omega)) | refine Bx.old ?_ _)
    clear hW
    have KYl := KY.lt; have KYc := KY.get; have KYf := KY.fr
    go_wp2_with (first
      | (go_at_call 63; refine (loadOf_no _ _ _ P _ _ _ K _ _ _ l _ (Hp.out.keep HB.out) (Hg.out.keep HB.out) (Hl.out.keep HB.out) H0.out).mono ?_; rintro e X ⟨rfl, hbx⟩; clear KYl KYc KYf; replace KY := KY.keep hbx; have KYl := KY.lt; have KYc := KY.get; have KYf := KY.fr; replace HB := Lib.hid (up HB.out hbx); clear hbx)
      | (refine wpList_putNew 83 6 12 rfl rfl rfl rfl (sL83 rfl) (sLo rfl) ldL_one ?_; intro U KU hbu hsu; clear KYl KYc KYf; replace KY := KY.keep hbu; have KYl := KY.lt; have KYc := KY.get; have KYf := KY.fr; replace HB := Lib.hid (up HB.out hbu); clear hbu)
      | (refine wpList_get 83 6 rfl rfl KU rfl Tryz.underlying83 rfl (sL83' rfl) ?_)
      | (go_at_call 64; refine (room_any _ _ _ _ _ _ [] _ _ (ks0 _) (by simp) (by simp)).mono ?_; rintro e V ⟨rfl, hbv⟩; replace HB := Lib.hid (up HB.out hbv)))
    go_ret2
    exact ⟨rfl, HB.out⟩

theorem rRoom_any (A : Option Addr) (n c : Nat) (P : List Int) (B : Option Addr) (m d : Nat) (K : List Kd) (L : Option Addr) (r s : Nat) (l : List Int) (w : World) (hp : Is w A n P) (hg : Ks w B m K) (hl : Is w L r l) :
    Calls Tryz.prog 15 #[.agg #[.slice A n c, .slice B m d], .slice L r s] w fun e w' => e = .returned (.tuple #[.int .i64 (if sE P K l = 0 then sumR (bsL K l) else 0), .int .i64 (sE P K l)]) ∧ Below w.heap.size w w' := by
  have Hp := Lib.hid hp; have Hg := Lib.hid hg; have Hl := Lib.hid hl
  clear hp hg hl
  by_cases h0 : sE P K l = 0
  · obtain ⟨hy, h8, -⟩ := sE_0 h0
    have HK := Lib.hid (yOk_k hy).2.2
    have H0 := Lib.hid h0; clear h0
    go_enter Tryz.func15, Tryz.ntmps15
    go_upto_region 1 with fail
    generalize hW : (World.alloc _ _) = W
    have HB : Hid (Below w.heap.size w W) := Lib.hid (by subst hW; go_grown)
    have KY : Bx W (w.heap.size) 25 [.slice A n c, .slice B m d] := by subst hW; repeat (first | (refine Bx.newAt _ _ _ ?_; first | rfl | (simp only [World.size_alloc]; done) | (simp only [World.size_alloc]; omega)) | refine Bx.old ?_ _)
    clear hW
    have KYl := KY.lt; have KYc := KY.get; have KYf := KY.fr
    go_wp2_with (first
      | (go_at_call 21; refine (rcheckSorts_any _ _ _ P _ _ _ K _ _ _ l _ (Hp.out.keep HB.out) (Hg.out.keep HB.out) (Hl.out.keep HB.out)).mono ?_; rintro e X ⟨rfl, hbx⟩; clear KYl KYc KYf; replace KY := KY.keep hbx; have KYl := KY.lt; have KYc := KY.get; have KYf := KY.fr; replace HB := Lib.hid (up HB.out hbx); clear hbx; rw [H0.out])
      | (go_at_call 65; refine (rrooms_any _ _ _ _ _ _ K _ _ _ l _ (Hg.out.keep HB.out) (Hl.out.keep HB.out) HK.out (by omega)).mono ?_; rintro e V ⟨rfl, hbv⟩; replace HB := Lib.hid (up HB.out hbv)))
    go_ret2
    exact ⟨rfl, HB.out⟩
  · have hne : (sE P K l != 0) = true := by simpa using h0
    have H0 := Lib.hid h0; clear h0
    go_enter Tryz.func15, Tryz.ntmps15
    go_upto_region 1 with fail
    generalize hW : (World.alloc _ _) = W
    have HB : Hid (Below w.heap.size w W) := Lib.hid (by subst hW; go_grown)
    have KY : Bx W (w.heap.size) 25 [.slice A n c, .slice B m d] := by subst hW; repeat (first | (refine Bx.newAt _ _ _ ?_; first | rfl | (simp only [World.size_alloc]; done) | (simp only [World.size_alloc]; omega)) | refine Bx.old ?_ _)
    clear hW
    have KYl := KY.lt; have KYc := KY.get; have KYf := KY.fr
    go_wp2_with (go_at_call 21; refine (rcheckSorts_any _ _ _ P _ _ _ K _ _ _ l _ (Hp.out.keep HB.out) (Hg.out.keep HB.out) (Hl.out.keep HB.out)).mono ?_; rintro e X ⟨rfl, hbx⟩; clear KYl KYc KYf; replace KY := KY.keep hbx; have KYl := KY.lt; have KYc := KY.get; have KYf := KY.fr; replace HB := Lib.hid (up HB.out hbx); clear hbx)
    go_ret2
    exact ⟨rfl, HB.out⟩
end Go.Proofs.YtaieidigpilbfaaGreat

namespace Go.Proofs.YtaieidigpilbfaaGreat
open Go Go.RowKit

/-- The pens before a beast stands in them. -/
def emK (P : List Int) : Nat → List Int
  | 0 => ap0
  | k + 1 => (emK P k).set (k * 2) (P.getD k 0)
def st0 (P : List Int) : List Int := emK P P.length
theorem emK_len (P : List Int) (k : Nat) : (emK P k).length = 10 := by
  induction k with
  | zero => rfl
  | succ k ih => rw [emK, List.length_set, ih]
theorem st0_len (P : List Int) : (st0 P).length = 10 := emK_len _ _
/-- A beast may not stand in a pen. -/
def fullS (ap st : List Int) (k : Kd) (i : Nat) : Bool := decide (st.getD (i * 2) 0 < k.r) || band (st.getD (i * 2 + 1) 0) (ap.getD k.s.toNat 0) != 0
/-- The pens with one beast more. -/
def addS (st : List Int) (k : Kd) (i : Nat) : List Int := (st.set (i * 2) (st.getD (i * 2) 0 - k.r)).set (i * 2 + 1) (bor (st.getD (i * 2 + 1) 0) (2 ^ k.s.toNat))
def putS (ap st : List Int) (k : Kd) (i : Nat) : Option (List Int) := if fullS ap st k i = true then none else some (addS st k i)
theorem addS_len (st : List Int) (k : Kd) (i : Nat) : (addS st k i).length = st.length := by simp [addS]
theorem putS_len {ap st st' : List Int} {k : Kd} {i : Nat} (h : putS ap st k i = some st') : st'.length = st.length := by
  unfold putS at h; split at h
  · cases h
  · cases h; exact addS_len _ _ _
/-- In how many pens a beast stands. -/
def usedK (st : List Int) : Nat → Int
  | 0 => 0
  | k + 1 => if (st.getD (k * 2 + 1) 0 != 0) = true then usedK st k + 1 else usedK st k
def usedS (st : List Int) : Int := usedK st 5
theorem usedK_le (st : List Int) (k : Nat) : 0 ≤ usedK st k ∧ usedK st k ≤ k := by
  induction k with
  | zero => simp [usedK]
  | succ k ih => rw [usedK]; split <;> omega
end Go.Proofs.YtaieidigpilbfaaGreat

namespace Go.Proofs.YtaieidigpilbfaaGreat
open Go Go.RowKit
set_option maxHeartbeats 1000000
set_option maxRecDepth 100000

theorem empty_any (A : Option Addr) (n c : Nat) (P : List Int) (v : Value) (ap : List Int) (w : World) (hp : Is w A n P) (h5 : P.length ≤ 5) :
    Calls Tryz.prog 130 #[.agg ⟨ldL A n c v ap⟩] w fun e w' => e = .returned (.agg ⟨ints (st0 P)⟩) ∧ Below w.heap.size w w' := by
  have Hn : Hid (n = P.length) := Lib.hid hp.len
  have Hp := Lib.hid hp
  have hn5 : n ≤ 5 := by rw [hp.len]; exact h5
  clear hp h5
  go_enter Tryz.func130, Tryz.ntmps130
  go_upto_region 2 with fail
  generalize hW : (World.alloc _ _) = W
  have HB : Hid (Below w.heap.size w W) := Lib.hid (by subst hW; go_grown)
  have KL : Bx W (w.heap.size) 83 (ldL A n c v ap) := by subst hW; repeat (first | (refine Bx.newAt _ _ _ ?_; first | rfl | (simp only [World.size_alloc]; done) | (simp only [World.size_alloc]; omega)) | refine Bx.old ?_ _)
  have KZ : Bx W (w.heap.size + 1) 107 (ints ap0) := by subst hW; repeat (first | (refine Bx.newAt _ _ _ ?_; first | rfl | (simp only [World.size_alloc]; done) | (simp only [World.size_alloc]; omega)) | refine Bx.old ?_ _)
  have KE : Bx W (w.heap.size + 1 + 1) 107 (ints ap0) := by subst hW; repeat (first | (refine Bx.newAt _ _ _ ?_; first | rfl | (simp only [World.size_alloc]; done) | (simp only [World.size_alloc]; omega)) | refine Bx.old ?_ _)
  clear hW
  have KLl := KL.lt; have KLc := KL.get; have KLf := KL.fr; have KZl := KZ.lt; have KZc := KZ.get; have KZf := KZ.fr; have KEl := KE.lt; have KEc := KE.get; have KEf := KE.fr
  go_wp2_with fail
  have hs3 := KEl
  clear KLl KLc KLf KZl KZc KZf KEl KEc KEf
  clear KL
  have HW := HB
  go_loopw [9] (fun i wr => ∃ (k : Nat), k ≤ n ∧ i = .int .i64 k ∧ Below w.heap.size w wr ∧ Bx wr (w.heap.size + 1) 107 (ints ap0) ∧ Bx wr (w.heap.size + 1 + 1) 107 (ints (emK P k))) (fun i _ => n - (intOf i).toNat)
  case atStart => exact ⟨0, by omega, rfl, HB.out, KZ, KE⟩
  case round =>
    obtain ⟨k, hk, rfl, hb, KZ, KE⟩ := hrel
    have Hpr := Lib.hid (Hp.out.keep hb)
    replace HB := Lib.hid hb
    have hw := KE.lt
    have hel := emK_len P k
    clear hb
    by_cases hlt : k < n
    · have hkl : k < P.length := by rw [← Hn.out]; exact hlt
      have Hs : Hid (emK P (k + 1) = (emK P k).set (k * 2) P[k]) := Lib.hid (by rw [emK]; simp [hkl])
      obtain ⟨b, o, rfl, hb, hc⟩ := Hpr.out.get k hkl
      generalize P[k] = y at *
      have c1 : wr.cell? ⟨w.heap.size + 1 + 1, k * 2, none⟩ = some (.int .i64 ((emK P k).getD (k * 2) 0)) := by rw [KE.get]; exact ints_get (by omega)
      have f1 : wr.frozen? ⟨w.heap.size + 1 + 1, k * 2, none⟩ = false := KE.fr _
      go_wp2
      have p := Put.cell wr (w.heap.size + 1 + 1) (k * 2) (.int .i64 y)
      refine ⟨⟨k + 1, by omega, by go_num, upP HB.out p (by omega), KZ.put p (by omega), ?_⟩, by simp [intOf]; omega⟩
      rw [Hs.out, ← ints_set]; exact KE.cell _ _
    · obtain rfl : k = n := by omega
      have Hst : Hid (emK P k = st0 P) := Lib.hid (by unfold st0; rw [Hn.out])
      rw [Hst.out] at KE
      have hsl := st0_len P
      go_wp2_with (first
        | (refine wpList_get 107 3 rfl rfl KE rfl Tryz.underlying107 rfl (sI107' hsl) ?_)
        | (refine wpList_put 107 2 19 rfl rfl KZ rfl rfl (sI107 hsl) (sIo hsl) (ints_one _) ?_; intro U KZn hp))
      exact post_1 rfl rfl rfl KZn Tryz.underlying107 rfl (sI107' hsl) ⟨rfl, upP HB.out hp (by omega)⟩

theorem meets_b (a b : Int) (x : Bool) (w : World) (h : (band a b != 0) = x) : Calls Tryz.prog 133 #[.int .i64 a, .int .i64 b] w fun e w' => e = .returned (.bool x) ∧ Below w.heap.size w w' :=
  (meets_any a b w).mono fun e w' g => ⟨by rw [g.1, h], g.2 ▸ Below.refl _ _⟩
theorem put_no (A : Option Addr) (n c : Nat) (B : Option Addr) (m d : Nat) (ap st : List Int) (k : Kd) (i : Nat) (w : World) (hap : ap.length = 10) (hst : st.length = 10) (hi : i < 5) (hs : 1 ≤ k.s ∧ k.s ≤ 9) (h : fullS ap st k i = true) :
    Calls Tryz.prog 85 #[.agg ⟨ldL A n c (.slice B m d) ap⟩, .agg ⟨ints st⟩, .agg #[.int .i64 k.s, .int .i64 k.r, .int .i64 k.e, .int .i64 k.a], .int .i64 (i : Int)] w fun e w' => e = .returned (.tuple #[.agg ⟨ints ap0⟩, .bool false]) ∧ Below w.heap.size w w' := by
  obtain ⟨s1, s9⟩ := hs
  go_enter Tryz.func85, Tryz.ntmps85
  go_upto_region 1 with fail
  generalize hW : (World.alloc _ _) = W
  have HB : Hid (Below w.heap.size w W) := Lib.hid (by subst hW; go_grown)
  have KL : Bx W (w.heap.size) 83 (ldL A n c (.slice B m d) ap) := by subst hW; repeat (first | (refine Bx.newAt _ _ _ ?_; first | rfl | (simp only [World.size_alloc]; done) | (simp only [World.size_alloc]; omega)) | refine Bx.old ?_ _)
  have KS : Bx W (w.heap.size + 1) 107 (ints st) := by subst hW; repeat (first | (refine Bx.newAt _ _ _ ?_; first | rfl | (simp only [World.size_alloc]; done) | (simp only [World.size_alloc]; omega)) | refine Bx.old ?_ _)
  have KK : Bx W (w.heap.size + 1 + 1) 72 [.int .i64 k.s, .int .i64 k.r, .int .i64 k.e, .int .i64 k.a] := by subst hW; repeat (first | (refine Bx.newAt _ _ _ ?_; first | rfl | (simp only [World.size_alloc]; done) | (simp only [World.size_alloc]; omega)) | refine Bx.old ?_ _)
  have KZ : Bx W (w.heap.size + 1 + 1 + 1) 107 (ints ap0) := by subst hW; repeat (first | (refine Bx.newAt _ _ _ ?_; first | rfl | (simp only [World.size_alloc]; done) | (simp only [World.size_alloc]; omega)) | refine Bx.old ?_ _)
  clear hW
  have KLl := KL.lt; have KLc := KL.get; have KLf := KL.fr; have KSl := KS.lt; have KSc := KS.get; have KSf := KS.fr; have KKl := KK.lt; have KKc := KK.get; have KKf := KK.fr; have KZl := KZ.lt; have KZc := KZ.get; have KZf := KZ.fr
  have cf : W.cell? ⟨w.heap.size + 1, i * 2, none⟩ = some (.int .i64 (st.getD (i * 2) 0)) := by rw [KS.get]; exact ints_get (by omega)
  have ch : W.cell? ⟨w.heap.size + 1, i * 2 + 1, none⟩ = some (.int .i64 (st.getD (i * 2 + 1) 0)) := by rw [KS.get]; exact ints_get (by omega)
  have ca : W.cell? ⟨w.heap.size, 2 + k.s.toNat, none⟩ = some (.int .i64 (ap.getD k.s.toNat 0)) := by rw [KL.get, ldL_2]; exact ints_get (by omega)
  have hi2 : (i : Int) < 5 := by omega
  unfold fullS at h
  clear KSc KSf KLc KLf
  generalize st.getD (i * 2) 0 = f at *
  generalize st.getD (i * 2 + 1) 0 = g at *
  generalize ap.getD k.s.toNat 0 = q at *
  by_cases hf : f < k.r
  · have Hx := Lib.hid h; clear h
    refine wp_region_grow (by kernel_rfl) (by kernel_rfl) ?_
    repeat (go_big_quiet_step (((go_at_call 133; exact quiet_grow rfl (still_grow (meets_any _ _ _))))))
    refine wpQuiet_nil ?_
    intro z
    have hb := grow_below W z
    have e2 := KZ.lt
    generalize grow W z = V at *
    clear cf ch ca
    clear KKl KKc KKf KSl KLl
    clear KZl KZc KZf; replace KZ := KZ.keep hb; have KZl := KZ.lt; have KZc := KZ.get; have KZf := KZ.fr; replace HB := Lib.hid (up HB.out hb); clear hb
    go_wp2_with (refine wpList_put 107 8 29 rfl rfl KZ rfl rfl (sI107 (l := ap0) rfl) rfl (ints_one ap0) ?_; intro U KZn hp)
    exact post_2 rfl rfl rfl KZn Tryz.underlying107 rfl (sI107' (l := ap0) rfl) (v := .bool false) rfl ⟨rfl, upP HB.out hp (by omega)⟩
  · have hg : (band g q != 0) = true := by simpa [hf] using h
    have Hg := Lib.hid hg; clear hg h
    have hf2 : decide (f < k.r) = false := by simpa using hf
    refine wp_region_grow (by kernel_rfl) (by kernel_rfl) ?_
    repeat (go_big_quiet_step (((go_at_call 133; exact quiet_grow rfl (meets_b _ _ _ _ Hg.out)))))
    refine wpQuiet_nil ?_
    intro z
    have hb := grow_below W z
    have e2 := KZ.lt
    generalize grow W z = V at *
    clear cf ch ca
    clear KKl KKc KKf KSl KLl
    clear KZl KZc KZf; replace KZ := KZ.keep hb; have KZl := KZ.lt; have KZc := KZ.get; have KZf := KZ.fr; replace HB := Lib.hid (up HB.out hb); clear hb
    go_wp2_with (refine wpList_put 107 8 29 rfl rfl KZ rfl rfl (sI107 (l := ap0) rfl) rfl (ints_one ap0) ?_; intro U KZn hp)
    exact post_2 rfl rfl rfl KZn Tryz.underlying107 rfl (sI107' (l := ap0) rfl) (v := .bool false) rfl ⟨rfl, upP HB.out hp (by omega)⟩

theorem put_ok (A : Option Addr) (n c : Nat) (B : Option Addr) (m d : Nat) (ap st : List Int) (k : Kd) (i : Nat) (w : World) (hap : ap.length = 10) (hst : st.length = 10) (hi : i < 5) (hs : 1 ≤ k.s ∧ k.s ≤ 9) (hr : 0 ≤ k.r ∧ k.r ≤ 1000) (hf1 : st.getD (i * 2) 0 ≤ 1000000) (h : fullS ap st k i = false) :
    Calls Tryz.prog 85 #[.agg ⟨ldL A n c (.slice B m d) ap⟩, .agg ⟨ints st⟩, .agg #[.int .i64 k.s, .int .i64 k.r, .int .i64 k.e, .int .i64 k.a], .int .i64 (i : Int)] w fun e w' => e = .returned (.tuple #[.agg ⟨ints (addS st k i)⟩, .bool true]) ∧ Below w.heap.size w w' := by
  obtain ⟨s1, s9⟩ := hs
  obtain ⟨r1, r2⟩ := hr
  go_enter Tryz.func85, Tryz.ntmps85
  go_upto_region 1 with fail
  generalize hW : (World.alloc _ _) = W
  have HB : Hid (Below w.heap.size w W) := Lib.hid (by subst hW; go_grown)
  have KL : Bx W (w.heap.size) 83 (ldL A n c (.slice B m d) ap) := by subst hW; repeat (first | (refine Bx.newAt _ _ _ ?_; first | rfl | (simp only [World.size_alloc]; done) | (simp only [World.size_alloc]; omega)) | refine Bx.old ?_ _)
  have KS : Bx W (w.heap.size + 1) 107 (ints st) := by subst hW; repeat (first | (refine Bx.newAt _ _ _ ?_; first | rfl | (simp only [World.size_alloc]; done) | (simp only [World.size_alloc]; omega)) | refine Bx.old ?_ _)
  have KK : Bx W (w.heap.size + 1 + 1) 72 [.int .i64 k.s, .int .i64 k.r, .int .i64 k.e, .int .i64 k.a] := by subst hW; repeat (first | (refine Bx.newAt _ _ _ ?_; first | rfl | (simp only [World.size_alloc]; done) | (simp only [World.size_alloc]; omega)) | refine Bx.old ?_ _)
  have KZ : Bx W (w.heap.size + 1 + 1 + 1) 107 (ints ap0) := by subst hW; repeat (first | (refine Bx.newAt _ _ _ ?_; first | rfl | (simp only [World.size_alloc]; done) | (simp only [World.size_alloc]; omega)) | refine Bx.old ?_ _)
  clear hW
  have KLl := KL.lt; have KLc := KL.get; have KLf := KL.fr; have KSl := KS.lt; have KSc := KS.get; have KSf := KS.fr; have KKl := KK.lt; have KKc := KK.get; have KKf := KK.fr; have KZl := KZ.lt; have KZc := KZ.get; have KZf := KZ.fr
  have cf : W.cell? ⟨w.heap.size + 1, i * 2, none⟩ = some (.int .i64 (st.getD (i * 2) 0)) := by rw [KS.get]; exact ints_get (by omega)
  have ch : W.cell? ⟨w.heap.size + 1, i * 2 + 1, none⟩ = some (.int .i64 (st.getD (i * 2 + 1) 0)) := by rw [KS.get]; exact ints_get (by omega)
  have ca : W.cell? ⟨w.heap.size, 2 + k.s.toNat, none⟩ = some (.int .i64 (ap.getD k.s.toNat 0)) := by rw [KL.get, ldL_2]; exact ints_get (by omega)
  have hi2 : (i : Int) < 5 := by omega
  unfold fullS at h
  have HA : Hid (addS st k i = (st.set (i * 2) (st.getD (i * 2) 0 - k.r)).set (i * 2 + 1) (bor (st.getD (i * 2 + 1) 0) (2 ^ k.s.toNat))) := Lib.hid rfl
  clear KSc KSf KLc KLf
  generalize st.getD (i * 2) 0 = f at *
  generalize hgg : st.getD (i * 2 + 1) 0 = g at *
  have Hgg := Lib.hid hgg
  clear hgg
  generalize ap.getD k.s.toNat 0 = q at *
  obtain ⟨hf2, hg⟩ : decide (f < k.r) = false ∧ (band g q != 0) = false := by simpa only [Bool.or_eq_false_iff] using h
  have Hg := Lib.hid hg; clear hg h
  have hfk : k.r ≤ f := by simpa using hf2
  refine wp_region_grow (by kernel_rfl) (by kernel_rfl) ?_
  repeat (go_big_quiet_step (((go_at_call 133; exact quiet_grow rfl (meets_b _ _ _ _ Hg.out)))))
  refine wpQuiet_nil ?_
  intro z
  clear hf2
  have hb := grow_below W z
  have e0 := KS.lt
  have e2 := KZ.lt
  generalize grow W z = V at *
  replace cf := (hb.cell (p := ⟨w.heap.size + 1, i * 2, none⟩) e0).trans cf
  replace ch := (hb.cell (p := ⟨w.heap.size + 1, i * 2 + 1, none⟩) e0).trans ch
  clear ca KSl KLl KL
  replace KS := KS.keep hb
  have e1 := KK.lt
  clear KZl KZc KZf; replace KZ := KZ.keep hb; have KZl := KZ.lt; have KZc := KZ.get; have KZf := KZ.fr; clear KKl KKc KKf; replace KK := KK.keep hb; have KKl := KK.lt; have KKc := KK.get; have KKf := KK.fr; replace HB := Lib.hid (up HB.out hb); clear hb
  have ff : V.frozen? ⟨w.heap.size + 1, i * 2, none⟩ = false := KS.fr _
  go_upto_region 3 with fail
  refine wp_region_grow_tail 9 (by kernel_rfl) (by kernel_rfl) ?_
  simp only [List.take_succ_cons, List.take_zero, List.drop_succ_cons, List.drop_zero]
  repeat (go_big_quiet_step ((fail)))
  refine wpQuiet_nil ?_
  intro z
  have hb := grow_below V z
  generalize grow V z = X at *
  replace cf := (hb.cell (p := ⟨w.heap.size + 1, i * 2, none⟩) KS.lt).trans cf
  replace ch := (hb.cell (p := ⟨w.heap.size + 1, i * 2 + 1, none⟩) KS.lt).trans ch
  replace KS := KS.keep hb
  clear KZl KZc KZf; replace KZ := KZ.keep hb; have KZl := KZ.lt; have KZc := KZ.get; have KZf := KZ.fr; clear KKl KKc KKf; replace KK := KK.keep hb; have KKl := KK.lt; have KKc := KK.get; have KKf := KK.fr; replace HB := Lib.hid (up HB.out hb); clear hb
  have fx : X.frozen? ⟨w.heap.size + 1, i * 2, none⟩ = false := KS.fr _
  clear ff
  go_upto_region 4 with fail
  have p := Put.cell X (w.heap.size + 1) (i * 2) (.int .i64 (f - k.r))
  have KS1 := KS.cell (i * 2) (.int .i64 (f - k.r))
  rw [ints_set] at KS1
  have hl1 : (st.set (i * 2) (f - k.r)).length = 10 := by simp [hst]
  have hg1 : (st.set (i * 2) (f - k.r)).getD (i * 2 + 1) 0 = g := by
    rw [← Hgg.out]
    simp only [List.getD_eq_getElem?_getD]; rw [List.getElem?_set_ne (by omega)]
  generalize hY : World.setCell X _ _ = Y at *
  clear hY
  have e1 := KK.lt
  have e2 := KZ.lt
  clear KKl KKc KKf KZl KZc KZf
  replace KK := KK.put p (by omega); replace KZ := KZ.put p (by omega)
  replace HB := Lib.hid (upP HB.out p (by omega))
  clear p fx KS
  have KKl := KK.lt; have KKc := KK.get; have KKf := KK.fr; have KZl := KZ.lt; have KZc := KZ.get; have KZf := KZ.fr
  have cg : Y.cell? ⟨w.heap.size + 1, i * 2 + 1, none⟩ = some (.int .i64 ((st.set (i * 2) (f - k.r)).getD (i * 2 + 1) 0)) := by rw [KS1.get]; exact ints_get (by omega)
  rw [hg1] at cg
  clear hg1
  generalize st.set (i * 2) (f - k.r) = st1 at *
  refine wp_region_grow_tail 10 (by kernel_rfl) (by kernel_rfl) ?_
  simp only [List.take_succ_cons, List.take_zero, List.drop_succ_cons, List.drop_zero]
  repeat (go_big_quiet_step (((go_at_call 126; exact quiet_grow rfl (still_grow (only_any _ _ (by omega) (by omega)))))))
  refine wpQuiet_nil ?_
  intro z
  clear hf1 hfk
  have hb := grow_below Y z
  generalize grow Y z = V2 at *
  replace cg := (hb.cell (p := ⟨w.heap.size + 1, i * 2 + 1, none⟩) KS1.lt).trans cg
  replace KS1 := KS1.keep hb
  clear KZl KZc KZf; replace KZ := KZ.keep hb; have KZl := KZ.lt; have KZc := KZ.get; have KZf := KZ.fr; clear KKl KKc KKf; replace KK := KK.keep hb; have KKl := KK.lt; have KKc := KK.get; have KKf := KK.fr; replace HB := Lib.hid (up HB.out hb); clear hb
  have fx : V2.frozen? ⟨w.heap.size + 1, i * 2 + 1, none⟩ = false := KS1.fr _
  go_upto_region 5 with fail
  have p := Put.cell V2 (w.heap.size + 1) (i * 2 + 1) (.int .i64 (bor g (2 ^ k.s.toNat)))
  have KS2 := KS1.cell (i * 2 + 1) (.int .i64 (bor g (2 ^ k.s.toNat)))
  rw [ints_set, ← HA.out] at KS2
  have hl2 : (addS st k i).length = 10 := by rw [addS_len]; exact hst
  have p2 : Put V2 (w.heap.size + 1) (V2.setCell ⟨w.heap.size + 1, i * 2 + 1, none⟩ (.int .i64 (bits BinOp.or IntKind.i64 g (2 ^ k.s.toNat)))) := p
  have KS3 : Bx (V2.setCell ⟨w.heap.size + 1, i * 2 + 1, none⟩ (.int .i64 (bits BinOp.or IntKind.i64 g (2 ^ k.s.toNat)))) (w.heap.size + 1) 107 (ints (addS st k i)) := KS2
  clear p KS2
  generalize hZ : World.setCell V2 _ _ = Z at *
  clear hZ
  have e2 := KZ.lt
  clear KKl KKc KKf KZl KZc KZf
  replace KZ := KZ.put p2 (by omega)
  replace HB := Lib.hid (upP HB.out p2 (by omega))
  go_wp2_with (first
    | (refine wpList_get 107 5 rfl rfl KS3 rfl Tryz.underlying107 rfl (sI107' hl2) ?_)
    | (refine wpList_put 107 8 49 rfl rfl KZ rfl rfl (sI107 hl2) (sIo hl2) (ints_one _) ?_; intro U KZn hp))
  exact post_2 rfl rfl rfl KZn Tryz.underlying107 rfl (sI107' hl2) (v := .bool true) rfl ⟨rfl, upP HB.out hp (by omega)⟩
end Go.Proofs.YtaieidigpilbfaaGreat

namespace Go.Proofs.YtaieidigpilbfaaGreat
open Go Go.RowKit
set_option maxHeartbeats 1000000
set_option maxRecDepth 100000
theorem used_any (st : List Int) (w : World) (hl : st.length = 10) :
    Calls Tryz.prog 152 #[.agg ⟨ints st⟩] w fun e w' => e = .returned (.int .i64 (usedS st)) ∧ Below w.heap.size w w' := by
  obtain ⟨t0, t1, t2, t3, t4, t5, t6, t7, t8, t9, rfl⟩ := list10 hl
  show Calls Tryz.prog 152 #[.agg #[.int .i64 t0, .int .i64 t1, .int .i64 t2, .int .i64 t3, .int .i64 t4, .int .i64 t5, .int .i64 t6, .int .i64 t7, .int .i64 t8, .int .i64 t9]] w _
  have hx : ∀ (i : Nat) (w : World), i < 5 → (Instr.index 107 (.agg #[.int .i64 t0, .int .i64 t1, .int .i64 t2, .int .i64 t3, .int .i64 t4, .int .i64 t5, .int .i64 t6, .int .i64 t7, .int .i64 t8, .int .i64 t9]) (.int .i64 (i : Int))).run Tryz.prog w = .ok (.agg #[.int .i64 ([t0, t1, t2, t3, t4, t5, t6, t7, t8, t9].getD (i * 2) 0), .int .i64 ([t0, t1, t2, t3, t4, t5, t6, t7, t8, t9].getD (i * 2 + 1) 0)]) w := by
    intro i w hi
    rcases (by omega : i = 0 ∨ i = 1 ∨ i = 2 ∨ i = 3 ∨ i = 4) with rfl | rfl | rfl | rfl | rfl <;> kernel_rfl
  have Hx := Lib.hid hx; clear hx
  go_enter Tryz.func152, Tryz.ntmps152
  go_wp2_with fail
  generalize hW : World.alloc w _ = W
  have HB : Hid (Below w.heap.size w W) := Lib.hid (by subst hW; exact up_alloc _ _)
  clear hW
  go_loopw [3, 7] (fun s i wr => ∃ (k : Nat), k ≤ 5 ∧ i = .int .i64 k ∧ s = .int .i64 (usedK [t0, t1, t2, t3, t4, t5, t6, t7, t8, t9] k) ∧ Below w.heap.size w wr) (fun _ i _ => 5 - (intOf i).toNat)
  case atStart => exact ⟨0, by omega, rfl, rfl, HB.out⟩
  case round =>
    obtain ⟨k, hk, rfl, rfl, hb⟩ := hrel
    replace HB := Lib.hid hb
    clear hb
    by_cases hlt : k < 5
    · have hx := fun w => Hx.out k w hlt
      have Hs : Hid (usedK [t0, t1, t2, t3, t4, t5, t6, t7, t8, t9] (k + 1) = if ([t0, t1, t2, t3, t4, t5, t6, t7, t8, t9].getD (k * 2 + 1) 0 != 0) = true then usedK [t0, t1, t2, t3, t4, t5, t6, t7, t8, t9] k + 1 else usedK [t0, t1, t2, t3, t4, t5, t6, t7, t8, t9] k) := Lib.hid rfl
      obtain ⟨u0, u1⟩ := usedK_le [t0, t1, t2, t3, t4, t5, t6, t7, t8, t9] k
      have u2 : usedK [t0, t1, t2, t3, t4, t5, t6, t7, t8, t9] k ≤ 5 := by omega
      clear u1
      generalize usedK [t0, t1, t2, t3, t4, t5, t6, t7, t8, t9] k = U at *
      generalize [t0, t1, t2, t3, t4, t5, t6, t7, t8, t9].getD (k * 2) 0 = f at *
      generalize [t0, t1, t2, t3, t4, t5, t6, t7, t8, t9].getD (k * 2 + 1) 0 = g at *
      cases hg : (g != 0)
      · rw [hg] at Hs
        have Hg := Lib.hid hg
        go_wp2
        refine ⟨⟨k + 1, by omega, by go_num, ?_, up HB.out (up_alloc _ _)⟩, by simp [intOf]; omega⟩
        rw [Hs.out]; rfl
      · rw [hg] at Hs
        have Hg := Lib.hid hg
        go_wp2
        refine ⟨⟨k + 1, by omega, by go_num, ?_, up HB.out (up_alloc _ _)⟩, by simp [intOf]; omega⟩
        rw [Hs.out]; rfl
    · obtain rfl : k = 5 := by omega
      have Hf : Hid (usedK [t0, t1, t2, t3, t4, t5, t6, t7, t8, t9] 5 = usedS [t0, t1, t2, t3, t4, t5, t6, t7, t8, t9]) := Lib.hid rfl
      generalize usedK [t0, t1, t2, t3, t4, t5, t6, t7, t8, t9] 5 = U at *
      go_wp2
      go_ret
      exact ⟨ret_int Hf.out, HB.out⟩
end Go.Proofs.YtaieidigpilbfaaGreat

namespace Go.Proofs.YtaieidigpilbfaaGreat
open Go Go.RowKit

/-- Beasts of a valid yard. -/
def goodB (bs : List Kd) : Prop := ∀ k ∈ bs, (1 ≤ k.s ∧ k.s ≤ 9) ∧ (1 ≤ k.r ∧ k.r ≤ 1000)
/-- The room that is left is small. -/
def smallS (st : List Int) : Prop := ∀ i, i < 5 → st.getD (i * 2) 0 ≤ 1000
theorem getD_set {l : List Int} {i j : Nat} {x : Int} : (l.set i x).getD j 0 = if i = j ∧ j < l.length then x else l.getD j 0 := by
  simp only [List.getD_eq_getElem?_getD, List.getElem?_set]
  by_cases h : i = j
  · subst h
    by_cases h2 : i < l.length
    · simp [h2]
    · simp [h2]
  · simp [h]
theorem addS_small {st : List Int} {k : Kd} {i : Nat} (h : smallS st) (hr : 0 ≤ k.r) : smallS (addS st k i) := by
  intro j hj
  unfold addS
  rw [getD_set, getD_set]
  have := h j hj
  rw [if_neg (by omega)]
  split
  · rename_i e; have := h i (by omega); omega
  · exact this
theorem emK_small {P : List Int} (h : psOk P = true) (k : Nat) : smallS (emK P k) := by
  induction k with
  | zero => intro i hi; rcases (by omega : i = 0 ∨ i = 1 ∨ i = 2 ∨ i = 3 ∨ i = 4) with rfl | rfl | rfl | rfl | rfl <;> (show (0 : Int) ≤ 1000; decide)
  | succ k ih =>
    intro i hi
    rw [emK, getD_set]
    split
    · by_cases hk : k < P.length
      · have := (List.all_eq_true.1 h) P[k] (List.getElem_mem hk)
        rw [inB_iff] at this
        rw [show P.getD k 0 = P[k] by simp [hk]]; exact this.2
      · rw [show P.getD k 0 = 0 by rw [List.getD_eq_getElem?_getD, List.getElem?_eq_none (by omega)]; rfl]; decide
    · exact ih i hi
theorem st0_small {P : List Int} (h : psOk P = true) : smallS (st0 P) := emK_small h _

/-- The pens with the first k beasts in them, by a list. -/
def standK (P : List Int) (ap : List Int) (bs : List Kd) (p : List Int) : Nat → Option (List Int)
  | 0 => some (st0 P)
  | k + 1 => match standK P ap bs p k with
    | none => none
    | some st => if inB (p.getD k 0) 0 ((P.length : Int) - 1) = true then putS ap st (bs.getD k kd0) (p.getD k 0).toNat else none
def standS (P : List Int) (ap : List Int) (bs : List Kd) (p : List Int) : Option (List Int) := if p.length = bs.length then standK P ap bs p p.length else none
theorem standK_some {P ap : List Int} {bs : List Kd} {p : List Int} {k : Nat} {st : List Int} (h : standK P ap bs p k = some st) :
    standK P ap bs p (k + 1) = if inB (p.getD k 0) 0 ((P.length : Int) - 1) = true then putS ap st (bs.getD k kd0) (p.getD k 0).toNat else none := by rw [standK, h]
theorem standK_none {P ap : List Int} {bs : List Kd} {p : List Int} {k : Nat} (h : standK P ap bs p k = none) : ∀ j, standK P ap bs p (k + j) = none
  | 0 => h
  | j + 1 => by rw [← Nat.add_assoc, standK, standK_none h j]
theorem standS_none {P ap : List Int} {bs : List Kd} {p : List Int} {k : Nat} (hk : k < p.length) (h : standK P ap bs p (k + 1) = none) : standS P ap bs p = none := by
  unfold standS
  split
  · have := standK_none h (p.length - (k + 1))
    rwa [show k + 1 + (p.length - (k + 1)) = p.length by omega] at this
  · rfl
theorem standS_len {P ap : List Int} {bs : List Kd} {p : List Int} (h : p.length ≠ bs.length) : standS P ap bs p = none := by unfold standS; rw [if_neg h]
theorem standS_eq {P ap : List Int} {bs : List Kd} {p : List Int} (h : p.length = bs.length) : standS P ap bs p = standK P ap bs p p.length := by unfold standS; rw [if_pos h]
theorem standK_ok {P ap : List Int} {bs : List Kd} {p : List Int} (hP : psOk P = true) (hb : goodB bs) : ∀ k st, k ≤ bs.length → standK P ap bs p k = some st → st.length = 10 ∧ smallS st := by
  intro k
  induction k with
  | zero => intro st _ h; cases h; exact ⟨st0_len P, st0_small hP⟩
  | succ k ih =>
    intro st hk h
    rw [standK] at h
    cases hs : standK P ap bs p k with
    | none => rw [hs] at h; cases h
    | some s =>
      rw [hs] at h
      obtain ⟨l1, l2⟩ := ih s (by omega) hs
      dsimp only at h
      split at h
      · have hkd := hb bs[k] (List.getElem_mem (by omega))
        rw [show bs.getD k kd0 = bs[k]'(by omega) by simp [show k < bs.length by omega]] at h
        unfold putS at h
        split at h
        · cases h
        · cases h; exact ⟨by rw [addS_len]; exact l1, addS_small l2 (by omega)⟩
      · cases h
theorem bsL_good {K : List Kd} {l : List Int} (hK : ksOk K = true) (hl : lOk K l = true) : goodB (bsL K l) := by
  intro k hk
  obtain ⟨x, hx, rfl⟩ := List.mem_map.1 hk
  have h1 : kdI K x = true := List.all_eq_true.1 hl x hx
  cases h : kd? K x with
  | none => rw [(kdD_none h).2] at h1; cases h1
  | some q =>
    rw [(kdD_some h).1]
    have := kdOk_iff.1 (ksOk_kd hK q (kd_mem h).1)
    omega
theorem bsL_len (K : List Kd) (l : List Int) : (bsL K l).length = l.length := by simp [bsL]
end Go.Proofs.YtaieidigpilbfaaGreat

namespace Go.Proofs.YtaieidigpilbfaaGreat
open Go Go.RowKit

/-- Two sorts must stand apart. -/
def aptB (K : List Kd) (x y : Int) : Bool := hasB (kdD K x).a y || hasB (kdD K y).a x
/-- The room of those ahead in a pen, and of the beast; none if one of them must stand apart. -/
def fitK (K : List Kd) (l p : List Int) (i : Nat) (pen : Int) : Nat → Option Int
  | 0 => some (kdD K (l.getD i 0)).r
  | k + 1 => match fitK K l p i pen k with
    | none => none
    | some n => if (p.getD k 0 != pen || k == i) = true then some n else if aptB K (l.getD k 0) (l.getD i 0) = true then none else some (n + (kdD K (l.getD k 0)).r)
def fitS (P : List Int) (K : List Kd) (l p : List Int) (i : Nat) (pen : Int) : Bool := match fitK K l p i pen p.length with
  | none => false
  | some n => decide (n ≤ P.getD pen.toNat 0)
theorem fitK_none {K : List Kd} {l p : List Int} {i : Nat} {pen : Int} {k : Nat} (h : fitK K l p i pen k = none) : ∀ j, fitK K l p i pen (k + j) = none
  | 0 => h
  | j + 1 => by rw [← Nat.add_assoc, fitK, fitK_none h j]
theorem fitS_none {P : List Int} {K : List Kd} {l p : List Int} {i : Nat} {pen : Int} {k : Nat} (hk : k < p.length) (h : fitK K l p i pen (k + 1) = none) : fitS P K l p i pen = false := by
  have := fitK_none h (p.length - (k + 1))
  rw [show k + 1 + (p.length - (k + 1)) = p.length by omega] at this
  unfold fitS; rw [this]
theorem fitK_le {K : List Kd} {l p : List Int} {i : Nat} {pen : Int} (hK : ksOk K = true) : ∀ k n, fitK K l p i pen k = some n → 0 ≤ n ∧ n ≤ 1000 * (k + 1) := by
  intro k
  induction k with
  | zero => intro n h; cases h; have := kdD_in hK (l.getD i 0); omega
  | succ k ih =>
    intro n h
    rw [fitK] at h
    cases hs : fitK K l p i pen k with
    | none => rw [hs] at h; cases h
    | some q =>
      rw [hs] at h
      have := ih q hs
      have h2 := kdD_in hK (l.getD k 0)
      dsimp only at h
      split at h
      · cases h; omega
      · split at h
        · cases h
        · cases h; omega
def isPlK (P : List Int) (K : List Kd) (l p : List Int) (i : Nat) : Bool := inB (p.getD i 0) 0 ((P.length : Int) - 1) && fitS P K l p i (p.getD i 0)
def isPlB (P : List Int) (K : List Kd) (l p : List Int) : Bool := decide (l.length = p.length) && (List.range l.length).all (isPlK P K l p)
def rplE (P : List Int) (K : List Kd) (l p : List Int) : Int := if sE P K l = 0 then (if isPlB P K l p = true then 0 else 52) else sE P K l
theorem isPlB_no {P : List Int} {K : List Kd} {l p : List Int} {i : Nat} (hi : i < l.length) (h : isPlK P K l p i = false) : isPlB P K l p = false := by
  unfold isPlB
  rw [Bool.and_eq_false_iff]; right
  rw [List.all_eq_false]
  exact ⟨i, List.mem_range.2 hi, by rw [h]; simp⟩
theorem isPlB_yes {P : List Int} {K : List Kd} {l p : List Int} (hl : l.length = p.length) (h : ∀ i, i < l.length → isPlK P K l p i = true) : isPlB P K l p = true := by
  unfold isPlB
  rw [Bool.and_eq_true]
  exact ⟨by simpa using hl, List.all_eq_true.2 fun i hi => h i (by simpa using hi)⟩
/-- A bit by a shift. -/
theorem shr_bit {a s : Int} (ha : 0 ≤ a ∧ a ≤ 1023) (hs : 0 ≤ s ∧ s ≤ 9) : (bits BinOp.and IntKind.i64 (a / 2 ^ s.toNat) 1 == 1) = hasB a s := by
  obtain ⟨x, rfl⟩ := Int.eq_ofNat_of_zero_le ha.1
  obtain ⟨t, rfl⟩ := Int.eq_ofNat_of_zero_le hs.1
  rw [hasB_nat x t (by omega) (by omega)]
  have e : ((x : Int) / 2 ^ (t : Int).toNat) = ((x / 2 ^ t : Nat) : Int) := by simp
  rw [e]
  have h2 : x / 2 ^ t < 2 ^ 62 := Nat.lt_of_le_of_lt (Nat.div_le_self _ _) (by omega)
  have := band_nat (x / 2 ^ t) 1 h2
  unfold band at this
  rw [show ((1 : Nat) : Int) = 1 from rfl] at this
  rw [this, Nat.testBit_eq_decide_div_mod_eq]
  rw [show (1 % 2 ^ 64 : Nat) = 1 by decide, Nat.and_one_is_mod]
  by_cases h : x / 2 ^ t % 2 = 1
  · rw [h]; simp
  · have : x / 2 ^ t % 2 = 0 := by omega
    rw [this]; simp
end Go.Proofs.YtaieidigpilbfaaGreat

namespace Go.Proofs.YtaieidigpilbfaaGreat
open Go Go.RowKit

/-- The placements of beasts from a state on that use at most so many pens, in their order. -/
def plc (ap : List Int) (np : Nat) (most : Int) : List Kd → List Int → List (List Int)
  | [], _ => [[]]
  | k :: ks, st => (List.range np).flatMap fun pen => match putS ap st k pen with
    | none => []
    | some s => if decide (most < usedS s) = true then [] else (plc ap np most ks s).map fun r => (pen : Int) :: r
/-- Those that begin with one pen. -/
def plc1 (ap : List Int) (np : Nat) (most : Int) (ks : List Kd) (k : Kd) (st : List Int) (pen : Nat) : List (List Int) := match putS ap st k pen with
    | none => []
    | some s => if decide (most < usedS s) = true then [] else (plc ap np most ks s).map fun r => (pen : Int) :: r
def plcQ (ap : List Int) (np : Nat) (most : Int) (ks : List Kd) (k : Kd) (st : List Int) (q : Nat) : List (List Int) := (List.range q).flatMap (plc1 ap np most ks k st)
theorem plc_cons {ap : List Int} {np : Nat} {most : Int} {k : Kd} {ks : List Kd} {st : List Int} : plc ap np most (k :: ks) st = plcQ ap np most ks k st np := rfl
theorem plcQ_succ {ap : List Int} {np : Nat} {most : Int} {k : Kd} {ks : List Kd} {st : List Int} (q : Nat) : plcQ ap np most ks k st (q + 1) = plcQ ap np most ks k st q ++ plc1 ap np most ks k st q := by
  unfold plcQ; rw [List.range_succ, List.flatMap_append]; simp
theorem plcQ_pre {ap : List Int} {np : Nat} {most : Int} {k : Kd} {ks : List Kd} {st : List Int} (q j : Nat) : ∃ t, plcQ ap np most ks k st (q + j) = plcQ ap np most ks k st q ++ t := by
  induction j with
  | zero => exact ⟨[], by simp⟩
  | succ j ih =>
    obtain ⟨t, ht⟩ := ih
    rw [← Nat.add_assoc, plcQ_succ, ht]
    exact ⟨t ++ plc1 ap np most ks k st (q + j), by rw [List.append_assoc]⟩
theorem plc1_no {ap : List Int} {np : Nat} {most : Int} {ks : List Kd} {k : Kd} {st : List Int} {pen : Nat} (h : fullS ap st k pen = true) : plc1 ap np most ks k st pen = [] := by
  unfold plc1 putS; rw [if_pos h]
theorem plc1_used {ap : List Int} {np : Nat} {most : Int} {ks : List Kd} {k : Kd} {st : List Int} {pen : Nat} (h : fullS ap st k pen = false) (h2 : decide (most < usedS (addS st k pen)) = true) : plc1 ap np most ks k st pen = [] := by
  unfold plc1 putS; rw [if_neg (by simp [h])]; dsimp only; rw [if_pos h2]
theorem plc1_yes {ap : List Int} {np : Nat} {most : Int} {ks : List Kd} {k : Kd} {st : List Int} {pen : Nat} (h : fullS ap st k pen = false) (h2 : decide (most < usedS (addS st k pen)) = false) :
    plc1 ap np most ks k st pen = (plc ap np most ks (addS st k pen)).map fun r => (pen : Int) :: r := by
  unfold plc1 putS; rw [if_neg (by simp [h])]; dsimp only; rw [if_neg (by simp [h2])]
/-- The room that is left in all pens. -/
def wt (st : List Int) : Int := st.getD 0 0 + st.getD 2 0 + st.getD 4 0 + st.getD 6 0 + st.getD 8 0
theorem wt_add {st : List Int} {k : Kd} {i : Nat} (hs : st.length = 10) (hi : i < 5) : wt (addS st k i) = wt st - k.r := by
  unfold wt addS
  simp only [getD_set, List.length_set, hs]
  rcases (by omega : i = 0 ∨ i = 1 ∨ i = 2 ∨ i = 3 ∨ i = 4) with rfl | rfl | rfl | rfl | rfl <;> simp <;> omega
/-- Each state that was tried has no placement, at the depth that its room tells. -/
def TInv (ap : List Int) (np : Nat) (most : Int) (bs : List Kd) (w0 : Int) (ts : List (List Int)) : Prop := ∀ s ∈ ts, ∃ i, i ≤ bs.length ∧ wt s = w0 - sumR (bs.take i) ∧ plc ap np most (bs.drop i) s = []
theorem sumR_app (a b : List Kd) : sumR (a ++ b) = sumR a + sumR b := by unfold sumR; rw [List.foldl_append, foldR]; rfl
theorem sumR_take_lt {bs : List Kd} (hb : goodB bs) {i j : Nat} (hij : i < j) (hj : j ≤ bs.length) : sumR (bs.take i) < sumR (bs.take j) := by
  obtain ⟨d, rfl⟩ : ∃ d, j = i + (d + 1) := ⟨j - i - 1, by omega⟩
  rw [List.take_add, sumR_app]
  have hl : i < bs.length := by omega
  have hg : ∀ k ∈ (bs.drop i).take (d + 1), 0 ≤ k.r ∧ k.r ≤ 1000 := fun k hk => by have := hb k (List.mem_of_mem_drop (List.mem_of_mem_take hk)); omega
  rw [List.drop_eq_getElem_cons hl, List.take_succ_cons, sumR_cons]
  have h1 := hb bs[i] (List.getElem_mem hl)
  have h2 := sumR_le (l := (bs.drop (i + 1)).take d) fun k hk => by have := hb k (List.mem_of_mem_drop (List.mem_of_mem_take hk)); omega
  omega
theorem TInv.skip {ap : List Int} {np : Nat} {most : Int} {bs : List Kd} {w0 : Int} {ts : List (List Int)} (h : TInv ap np most bs w0 ts) (hb : goodB bs) {s : List Int} (hs : s ∈ ts) {j : Nat} (hj : j ≤ bs.length) (hw : wt s = w0 - sumR (bs.take j)) : plc ap np most (bs.drop j) s = [] := by
  obtain ⟨i, hi, h1, h2⟩ := h s hs
  obtain rfl : i = j := by
    rcases Nat.lt_trichotomy i j with h3 | h3 | h3
    · have := sumR_take_lt hb h3 hj; omega
    · exact h3
    · have := sumR_take_lt hb h3 hi; omega
  exact h2
theorem TInv.add {ap : List Int} {np : Nat} {most : Int} {bs : List Kd} {w0 : Int} {ts : List (List Int)} (h : TInv ap np most bs w0 ts) {s : List Int} {j : Nat} (hj : j ≤ bs.length) (hw : wt s = w0 - sumR (bs.take j)) (hp : plc ap np most (bs.drop j) s = []) : TInv ap np most bs w0 (ts ++ [s]) := by
  intro x hx
  rcases List.mem_append.1 hx with hx | hx
  · exact h x hx
  · simp at hx; subst hx; exact ⟨j, hj, hw, hp⟩
end Go.Proofs.YtaieidigpilbfaaGreat

namespace Go.Proofs.YtaieidigpilbfaaGreat
open Go Go.RowKit
set_option maxHeartbeats 1000000
set_option maxRecDepth 100000

theorem ck107 (b : Bool) (st : List Int) (w : World) (hl : st.length = 10) : (Instr.checkKey b 10000 107 (.agg ⟨ints st⟩)).run Tryz.prog w = .ok () w := by
  obtain ⟨t0, t1, t2, t3, t4, t5, t6, t7, t8, t9, rfl⟩ := list10 hl
  show (Instr.checkKey b 10000 107 (.agg #[.int .i64 t0, .int .i64 t1, .int .i64 t2, .int .i64 t3, .int .i64 t4, .int .i64 t5, .int .i64 t6, .int .i64 t7, .int .i64 t8, .int .i64 t9])).run Tryz.prog w = .ok () w
  cases b <;> kernel_rfl
theorem eqI (d : Nat) (t : TypeId) (h : Tryz.prog.underlying t = some (.int .i64)) (a b : Int) (w : World) : (Op.equalIn (d + 1) t (.int .i64 a) (.int .i64 b)).run Tryz.prog w = .ok (a == b) w := by
  unfold Op.equalIn
  simp [run_underlying h]
theorem eq105 (d : Nat) (a b a' b' : Int) (w : World) : (Op.equalIn (d + 2) 105 (.agg #[.int .i64 a, .int .i64 b]) (.agg #[.int .i64 a', .int .i64 b'])).run Tryz.prog w = .ok (a == a' && b == b') w := by
  have p0 : ∀ (x y : Int) (w : World), (part 3 #[.int .i64 x, .int .i64 y] 0).run Tryz.prog w = .ok (.int .i64 x) w := fun x y w => by kernel_rfl
  have p1 : ∀ (x y : Int) (w : World), (part 79 #[.int .i64 x, .int .i64 y] 1).run Tryz.prog w = .ok (.int .i64 y) w := fun x y w => by kernel_rfl
  have e0 := fun x y (w : World) => eqI d 3 Tryz.underlying3 x y w
  have e1 := fun x y (w : World) => eqI d 79 Tryz.underlying79 x y w
  rw [show d + 2 = (d + 1) + 1 from rfl]
  unfold Op.equalIn
  have hst : Tryz.prog.stoodInHeld 105 = false := by kernel_rfl
  simp only [Sem.run_bind, run_underlying Tryz.underlying105, Result.andThen_ok]
  simp [go_sem, hst, p0, p1, e0, e1]
  by_cases h1 : a = a' <;> by_cases h2 : b = b' <;> simp [h1, h2]
theorem eq107 (st su : List Int) (w : World) (hl : st.length = 10) (hu : su.length = 10) : (Op.equal 107 (.agg ⟨ints st⟩) (.agg ⟨ints su⟩)).run Tryz.prog w = .ok (st == su) w := by
  obtain ⟨t0, t1, t2, t3, t4, t5, t6, t7, t8, t9, rfl⟩ := list10 hl
  obtain ⟨u0, u1, u2, u3, u4, u5, u6, u7, u8, u9, rfl⟩ := list10 hu
  show (Op.equalIn 10000 107 (.agg #[.int .i64 t0, .int .i64 t1, .int .i64 t2, .int .i64 t3, .int .i64 t4, .int .i64 t5, .int .i64 t6, .int .i64 t7, .int .i64 t8, .int .i64 t9]) (.agg #[.int .i64 u0, .int .i64 u1, .int .i64 u2, .int .i64 u3, .int .i64 u4, .int .i64 u5, .int .i64 u6, .int .i64 u7, .int .i64 u8, .int .i64 u9])).run Tryz.prog w = _
  have hs : ∀ w, (sizeOf 105).run Tryz.prog w = .ok 2 w := fun w => by kernel_rfl
  have q0 : ∀ (x0 x1 x2 x3 x4 x5 x6 x7 x8 x9 : Int) (w : World), (part 105 #[.int .i64 x0, .int .i64 x1, .int .i64 x2, .int .i64 x3, .int .i64 x4, .int .i64 x5, .int .i64 x6, .int .i64 x7, .int .i64 x8, .int .i64 x9] 0).run Tryz.prog w = .ok (.agg #[.int .i64 x0, .int .i64 x1]) w := fun _ _ _ _ _ _ _ _ _ _ w => by kernel_rfl
  have q1 : ∀ (x0 x1 x2 x3 x4 x5 x6 x7 x8 x9 : Int) (w : World), (part 105 #[.int .i64 x0, .int .i64 x1, .int .i64 x2, .int .i64 x3, .int .i64 x4, .int .i64 x5, .int .i64 x6, .int .i64 x7, .int .i64 x8, .int .i64 x9] 2).run Tryz.prog w = .ok (.agg #[.int .i64 x2, .int .i64 x3]) w := fun _ _ _ _ _ _ _ _ _ _ w => by kernel_rfl
  have q2 : ∀ (x0 x1 x2 x3 x4 x5 x6 x7 x8 x9 : Int) (w : World), (part 105 #[.int .i64 x0, .int .i64 x1, .int .i64 x2, .int .i64 x3, .int .i64 x4, .int .i64 x5, .int .i64 x6, .int .i64 x7, .int .i64 x8, .int .i64 x9] 4).run Tryz.prog w = .ok (.agg #[.int .i64 x4, .int .i64 x5]) w := fun _ _ _ _ _ _ _ _ _ _ w => by kernel_rfl
  have q3 : ∀ (x0 x1 x2 x3 x4 x5 x6 x7 x8 x9 : Int) (w : World), (part 105 #[.int .i64 x0, .int .i64 x1, .int .i64 x2, .int .i64 x3, .int .i64 x4, .int .i64 x5, .int .i64 x6, .int .i64 x7, .int .i64 x8, .int .i64 x9] 6).run Tryz.prog w = .ok (.agg #[.int .i64 x6, .int .i64 x7]) w := fun _ _ _ _ _ _ _ _ _ _ w => by kernel_rfl
  have q4 : ∀ (x0 x1 x2 x3 x4 x5 x6 x7 x8 x9 : Int) (w : World), (part 105 #[.int .i64 x0, .int .i64 x1, .int .i64 x2, .int .i64 x3, .int .i64 x4, .int .i64 x5, .int .i64 x6, .int .i64 x7, .int .i64 x8, .int .i64 x9] 8).run Tryz.prog w = .ok (.agg #[.int .i64 x8, .int .i64 x9]) w := fun _ _ _ _ _ _ _ _ _ _ w => by kernel_rfl
  have e := fun a b a' b' (w : World) => eq105 9997 a b a' b' w
  rw [show (10000 : Nat) = 9999 + 1 from rfl]
  unfold Op.equalIn
  simp only [Sem.run_bind, run_underlying Tryz.underlying107, Result.andThen_ok, hs]
  simp only [Nat.reduceAdd] at e
  simp [Std.Legacy.Range.forIn_eq_forIn_range', Std.Legacy.Range.size, List.range'_succ, q0, q1, q2, q3, q4, e]
  by_cases a0 : t0 = u0
  rotate_left
  · simp [a0]
  by_cases a1 : t1 = u1
  rotate_left
  · simp [a0, a1]
  by_cases a2 : t2 = u2
  rotate_left
  · simp [a0, a1, a2]
  by_cases a3 : t3 = u3
  rotate_left
  · simp [a0, a1, a2, a3]
  by_cases a4 : t4 = u4
  rotate_left
  · simp [a0, a1, a2, a3, a4]
  by_cases a5 : t5 = u5
  rotate_left
  · simp [a0, a1, a2, a3, a4, a5]
  by_cases a6 : t6 = u6
  rotate_left
  · simp [a0, a1, a2, a3, a4, a5, a6]
  by_cases a7 : t7 = u7
  rotate_left
  · simp [a0, a1, a2, a3, a4, a5, a6, a7]
  by_cases a8 : t8 = u8
  rotate_left
  · simp [a0, a1, a2, a3, a4, a5, a6, a7, a8]
  by_cases a9 : t9 = u9
  rotate_left
  · simp [a0, a1, a2, a3, a4, a5, a6, a7, a8, a9]
  simp [a0, a1, a2, a3, a4, a5, a6, a7, a8, a9]

/-- The map's entries are these states. -/
def TmE (es : Array MapEntry) (ts : List (List Int)) : Prop := es.toList.map (fun e => (e.key, e.val)) = ts.map (fun s => (Value.agg ⟨ints s⟩, Value.bool true))
structure Tm (X : World) (M : Nat) (ts : List (List Int)) : Prop where
  h : ∃ es clock, X.heap[M]? = some (.map es clock) ∧ TmE es ts
  l : ∀ s ∈ ts, s.length = 10

theorem find107 (st : List Int) (hl : st.length = 10) (w : World) : ∀ (es : List MapEntry) (ts : List (List Int)) (j : Nat), (∀ s ∈ ts, s.length = 10) → es.map (fun e => (e.key, e.val)) = ts.map (fun s => (Value.agg ⟨ints s⟩, Value.bool true)) →
    (st ∉ ts → (Instr.findAsking 107 (.agg ⟨ints st⟩) es j).run Tryz.prog w = .ok none w) ∧ (st ∈ ts → ∃ i e, es[i]? = some e ∧ e.key = .agg ⟨ints st⟩ ∧ e.val = .bool true ∧ (Instr.findAsking 107 (.agg ⟨ints st⟩) es j).run Tryz.prog w = .ok (some (j + i, .bool true)) w) := by
  intro es
  induction es with
  | nil =>
    intro ts j _ h
    cases ts with
    | nil => exact ⟨fun _ => rfl, fun h => by cases h⟩
    | cons s ts => simp at h
  | cons e es ih =>
    intro ts j hls h
    cases ts with
    | nil => simp at h
    | cons s ts =>
      simp only [List.map_cons, List.cons.injEq, Prod.mk.injEq] at h
      obtain ⟨⟨hk, hv⟩, ht⟩ := h
      have he := eq107 st s w hl (hls s (by simp))
      obtain ⟨i1, i2⟩ := ih ts (j + 1) (fun x hx => hls x (by simp [hx])) ht
      by_cases hs : st = s
      · subst hs
        refine ⟨fun h => absurd (List.mem_cons_self ..) h, fun _ => ⟨0, e, rfl, hk, hv, ?_⟩⟩
        unfold Instr.findAsking
        rw [hk, Sem.run_bind, he, hv]
        simp
      · have hb : (st == s) = false := by simpa using hs
        rw [hb] at he
        have step : (Instr.findAsking 107 (.agg ⟨ints st⟩) (e :: es) j).run Tryz.prog w = (Instr.findAsking 107 (.agg ⟨ints st⟩) es (j + 1)).run Tryz.prog w := by
          conv => lhs; unfold Instr.findAsking
          rw [hk, Sem.run_bind, he]
          simp
        refine ⟨fun h => ?_, fun h => ?_⟩
        · rw [step]; exact i1 (fun h2 => h (List.mem_cons_of_mem _ h2))
        · rcases List.mem_cons.1 h with h | h
          · exact absurd h hs
          · obtain ⟨i, e', a1, a2, a3, a4⟩ := i2 h
            exact ⟨i + 1, e', by simpa using a1, a2, a3, by rw [step, a4]; congr 3; omega⟩

theorem findKey107 (st : List Int) (hl : st.length = 10) (w : World) (es : List MapEntry) (ts : List (List Int)) (hls : ∀ s ∈ ts, s.length = 10) (h : es.map (fun e => (e.key, e.val)) = ts.map (fun s => (Value.agg ⟨ints s⟩, Value.bool true))) :
    (st ∉ ts → (Instr.findKey 107 (.agg ⟨ints st⟩) es).run Tryz.prog w = .ok none w) ∧ (st ∈ ts → ∃ i e, es[i]? = some e ∧ e.key = .agg ⟨ints st⟩ ∧ e.val = .bool true ∧ (Instr.findKey 107 (.agg ⟨ints st⟩) es).run Tryz.prog w = .ok (some (i, .bool true)) w) := by
  obtain ⟨f1, f2⟩ := find107 st hl w es ts 0 hls h
  cases es with
  | nil =>
    cases ts with
    | nil =>
      refine ⟨fun _ => ?_, fun h => by cases h⟩
      unfold Instr.findKey
      rw [Sem.run_bind, run_underlying Tryz.underlying107]
      rfl
    | cons s ts => simp at h
  | cons e es =>
    have hn : Instr.findNow (.array 5 105) (.agg ⟨ints st⟩) (e :: es) 0 = none := by
      unfold Instr.findNow
      rfl
    have step : (Instr.findKey 107 (.agg ⟨ints st⟩) (e :: es)).run Tryz.prog w = (Instr.findAsking 107 (.agg ⟨ints st⟩) (e :: es)).run Tryz.prog w := by
      unfold Instr.findKey
      rw [Sem.run_bind, run_underlying Tryz.underlying107, Result.andThen_ok]
      rw [hn]
    refine ⟨fun h => by rw [step]; exact f1 h, fun h => ?_⟩
    obtain ⟨i, e', a1, a2, a3, a4⟩ := f2 h
    exact ⟨i, e', a1, a2, a3, by rw [step, a4, Nat.zero_add]⟩

theorem look_tm {X : World} {M : Nat} {ts : List (List Int)} (T : Tm X M ts) (st : List Int) (hl : st.length = 10) (b : Bool) (hb : decide (st ∈ ts) = b) :
    (Instr.lookup 141 (.map (some M)) (.agg ⟨ints st⟩) false).run Tryz.prog X = .ok (.bool b) X := by
  obtain ⟨es, clock, hh, he⟩ := T.h
  obtain ⟨f1, f2⟩ := findKey107 st hl X es.toList ts T.l he
  have hg : (getObj M).run Tryz.prog X = .ok (.map es clock) X := by simp [getObj, Sem.run, hh, pure]
  have hz : (zeroValue 4).run Tryz.prog X = .ok (.bool false) X := by kernel_rfl
  unfold Instr.lookup
  simp only [Sem.run_bind, run_underlying Tryz.underlying141, Result.andThen_ok, hg, ck107 _ _ _ hl]
  subst hb
  by_cases hm : st ∈ ts
  · obtain ⟨i, e, _, _, _, hf⟩ := f2 hm
    simp [hg, ck107 _ _ _ hl, hf, hm]
  · simp [hg, ck107 _ _ _ hl, f1 hm, hm, hz]

theorem tm_put {X : World} {M : Nat} {ts : List (List Int)} (T : Tm X M ts) (st : List Int) (hl : st.length = 10) :
    ∃ w' ts', (Instr.mapUpdate 141 (.map (some M)) (.agg ⟨ints st⟩) (.bool true)).run Tryz.prog X = .ok () w' ∧ Tm w' M ts' ∧ (ts' = ts ∨ ts' = ts ++ [st]) ∧ Put X M w' := by
  obtain ⟨es, clock, hh, he⟩ := T.h
  obtain ⟨f1, f2⟩ := findKey107 st hl X es.toList ts T.l he
  have hg : (getObj M).run Tryz.prog X = .ok (.map es clock) X := by simp [getObj, Sem.run, hh, pure]
  have hlt : M < X.heap.size := (Array.getElem?_eq_some_iff.1 hh).1
  have hset : ∀ o : Obj, (setObj M o).run Tryz.prog X = .ok () { X with heap := X.heap.setIfInBounds M o } := fun o => by simp [setObj, Sem.run, hh, pure]
  have hput : ∀ o : Obj, Put X M { X with heap := X.heap.setIfInBounds M o } := fun o => ⟨rfl, rfl, rfl, by simp, fun k hk => by simp [Array.getElem?_setIfInBounds, Ne.symm hk]⟩
  by_cases hm : st ∈ ts
  · obtain ⟨i, e, h1, h2, h3, hf⟩ := f2 hm
    refine ⟨_, ts, ?_, ?_, .inl rfl, hput (.map (es.modify i fun e => { e with key := .agg ⟨ints st⟩, val := .bool true }) clock)⟩
    · unfold Instr.mapUpdate
      simp only [Sem.run_bind, run_underlying Tryz.underlying141, Result.andThen_ok, hg, ck107 _ _ _ hl, hf]
      have hk : (((es[i]?).map (·.key)).getD (.agg ⟨ints st⟩)) = .agg ⟨ints st⟩ := by
        have : es[i]? = some e := by simpa using h1
        rw [this]; simp [h2]
      have hs : Instr.sameBits 10000 (.agg ⟨ints st⟩) (.agg ⟨ints st⟩) = true := by
        rw [show (10000 : Nat) = 9999 + 1 from rfl]
        unfold Instr.sameBits
        simp
        intro a b hab
        have h4 : a = b := by
          have := List.mem_iff_getElem.1 hab
          obtain ⟨j, hj, he⟩ := this
          simp at he
          rw [← he.1, ← he.2]
        subst h4
        have h5 := (List.of_mem_zip hab).1
        simp [ints] at h5
        obtain ⟨x, _, rfl⟩ := h5
        rw [show (9999 : Nat) = 9998 + 1 from rfl]
        simp [Instr.sameBits]
      rw [hk]
      simp [Instr.keyThatStays, hs, hset]
    · refine ⟨⟨es.modify i fun e => { e with key := .agg ⟨ints st⟩, val := .bool true }, clock, by simp [hlt], ?_⟩, T.l⟩
      have e2 : es[i]? = some e := by simpa using h1
      have e3 : (es.modify i fun e => { e with key := .agg ⟨ints st⟩, val := .bool true }) = es := by
        apply Array.ext_getElem?
        intro j
        rw [Array.getElem?_modify]
        split
        · rename_i hij
          subst hij
          rw [e2]
          simp
          cases e
          simp_all
        · rfl
      rw [e3]; exact he
  · refine ⟨_, ts ++ [st], ?_, ?_, .inr rfl, hput (.map (es.push { key := .agg ⟨ints st⟩, val := .bool true, born := clock }) (clock + 1))⟩
    · unfold Instr.mapUpdate
      simp only [Sem.run_bind, run_underlying Tryz.underlying141, Result.andThen_ok, hg, ck107 _ _ _ hl, f1 hm]
      simp [hset]
    · refine ⟨⟨es.push { key := .agg ⟨ints st⟩, val := .bool true, born := clock }, clock + 1, by simp [hlt], ?_⟩, ?_⟩
      · unfold TmE at *
        simp [he]
      · intro s hs
        rcases List.mem_append.1 hs with h | h
        · exact T.l s h
        · simp at h; subst h; exact hl
theorem Tm.keep {X Y : World} {M : Nat} {ts : List (List Int)} (T : Tm X M ts) (hb : Below X.heap.size X Y) : Tm Y M ts := by
  obtain ⟨es, clock, hh, he⟩ := T.h
  exact ⟨⟨es, clock, (hb.block M (Array.getElem?_eq_some_iff.1 hh).1).trans hh, he⟩, T.l⟩
theorem Tm.lt {X : World} {M : Nat} {ts : List (List Int)} (T : Tm X M ts) : M < X.heap.size := by
  obtain ⟨es, clock, hh, he⟩ := T.h; exact (Array.getElem?_eq_some_iff.1 hh).1
theorem Tm.keepB {X Y : World} {M B : Nat} {ts : List (List Int)} (T : Tm X M ts) (hb : Below B X Y) (hM : M < B) : Tm Y M ts := by
  obtain ⟨es, clock, hh, he⟩ := T.h
  exact ⟨⟨es, clock, (hb.block M hM).trans hh, he⟩, T.l⟩
theorem Tm.put {X Y : World} {M b : Nat} {ts : List (List Int)} (T : Tm X M ts) (p : Put X b Y) (hM : M ≠ b) : Tm Y M ts := by
  obtain ⟨es, clock, hh, he⟩ := T.h
  exact ⟨⟨es, clock, (p.block M hM).trans hh, he⟩, T.l⟩
theorem Tm.above {X Y : World} {M B : Nat} {ts : List (List Int)} (T : Tm X M ts) (h : Above B X Y) (hM : B ≤ M) : Tm Y M ts := by
  obtain ⟨es, clock, hh, he⟩ := T.h
  exact ⟨⟨es, clock, (h.block M hM (Array.getElem?_eq_some_iff.1 hh).1).trans hh, he⟩, T.l⟩
end Go.Proofs.YtaieidigpilbfaaGreat

namespace Go.Proofs.YtaieidigpilbfaaGreat
open Go Go.RowKit
set_option maxHeartbeats 400000
set_option maxRecDepth 100000

theorem growNil_any (n : Nat) (w : World) (hn : n ≤ 100000) :
    Calls Tryz.prog 153 #[.slice none 0 0, .int .i64 n] w fun e w' => ∃ v, e = .returned v ∧ w'.ownsRow w.heap.size 3 1 v 0 [] ∧ Below w.heap.size w w' := by
  obtain ⟨i0, hi, hz0, hz1, hz2⟩ := info_parts info3
  by_cases h0 : n = 0
  · subst h0
    go_enter Tryz.func153, Tryz.ntmps153
    go_wp2
    go_ret
    exact ⟨_, rfl, World.ownsRow_nil _ _ _ _, Below.refl _ _⟩
  · have hr := Lib.run_append_nil_zeros (P := Tryz.prog) w 22 3 22 3 i0 (.int .i64 0) .i64 .i64 Tryz.underlying22 Tryz.underlying3 hi hz0 n (by omega) (by rw [hz1]; decide) (by omega) (by rw [hz2]; omega)
    have hge := grownCap_ge w n 0 3
    have hcm : grownCap w n 0 3 ≤ maxLen := grownCap_le_maxLen w n 0 3 (by unfold maxLen; omega)
    have HR := Lib.hid hr
    clear hr hi hz0 hz1 hz2
    generalize grownCap w n 0 3 = cap at *
    have hsz : ∀ z : Array Value, z.size = 1 → (Builtin.zeroCells z n ++ Builtin.zeroCells z (cap - n)).size = cap * 1 := fun z hz => by
      rw [Array.size_append, size_zeroCells, size_zeroCells, hz]; omega
    have hown := World.ownsRow_made (w := w.drew) (base := w.heap.size) (e := 3) (size := 1) _ cap (Nat.le_refl _) hcm (hsz #[.int .i64 0] rfl)
    have HO := Lib.hid hown
    clear hown hsz
    have hp : (0 : Int) < n := by omega
    have hb : Below w.heap.size w (w.drew.alloc (.cells (Builtin.zeroCells #[.int .i64 0] n ++ Builtin.zeroCells #[.int .i64 0] (cap - n)) 3)) := by go_grown
    have HB := Lib.hid hb
    clear hb hcm
    go_enter Tryz.func153, Tryz.ntmps153
    go_wp2_with (at_builtin; refine Lib.wpList_append_run _ rfl _ _ _ _ rfl _ _ rfl rfl _ _ HR.out ?_)
    go_wp2
    go_ret
    exact ⟨_, rfl, HO.out, HB.out⟩

theorem Is.cells {w : World} {b o n : Nat} {l : List Int} (h : Is w (some ⟨b, o, none⟩) n l) : ∀ j u, (ints l)[j]? = some u → w.cell? ((⟨b, o, none⟩ : Addr).add j) = some u := by
  intro j u hu
  have hj : j < l.length := by have := (List.getElem?_eq_some_iff.1 hu).1; simpa [ints] using this
  obtain ⟨b2, o2, e, _, hc⟩ := h.get j hj
  cases e
  rw [Addr.add_lit, hc]
  simpa [ints, hj] using hu
theorem ints_one' : ∀ l : List Int, ∀ u ∈ ints l, u.oneCell' = true := by intro l u hu; simp [ints] at hu; obtain ⟨z, _, rfl⟩ := hu; rfl
theorem ints_app (a b : List Int) : ints (a ++ b) = ints a ++ ints b := by simp [ints]

/-- Slices of given marks, in a block. -/
def Parts (w : World) (B : Nat) (ps : List (List Int)) : Prop := ∀ k (h : k < ps.length), ∃ A n c, w.cell? ⟨B, k, none⟩ = some (.slice A n c) ∧ Is w A n ps[k]
theorem Parts.keep {w w' : World} {B : Nat} {ps : List (List Int)} (h : Parts w B ps) (hB : B < w.heap.size) (hb : Below w.heap.size w w') : Parts w' B ps := fun k hk => by
  obtain ⟨A, n, c, h1, h2⟩ := h k hk
  exact ⟨A, n, c, (hb.cell (p := ⟨B, k, none⟩) hB).trans h1, h2.keep hb⟩
/-- Nothing appended. -/
theorem run_append_empty (ty : TypeId) (w : World) (base : Nat) (v : Value) (n : Nat) (xs : List Value) (A : Option Addr) (c : Nat) (hown : w.ownsRow base 3 1 v n xs) :
    (Builtin.append_ #[22, 22] ty #[v, .slice A 0 c]).run Tryz.prog w = .ok v w := by
  obtain ⟨i0, hi, hz0, hz1, hz2⟩ := info_parts info3
  rcases hown.2 with ⟨rfl, rfl⟩ | ⟨g, cap, cur, rfl, _, _, hnc, _⟩ <;> cases A <;>
    simp [Builtin.append_, run_underlying Tryz.underlying22, run_underlying Tryz.underlying30, sizeOf, typeInfo, hi, hz1, Builtin.lenOf, Builtin.firstCells, loadCells, loadCellsFrom, storeCells, *]
theorem flat_take {α : Type} (ps : List (List α)) (k : Nat) (h : k < ps.length) : (ps.take (k + 1)).flatten = (ps.take k).flatten ++ ps[k] := by
  rw [List.take_succ_eq_append_getElem h, List.flatten_append]; simp
theorem flat_le {α : Type} (ps : List (List α)) (k : Nat) : (ps.take k).flatten.length ≤ ps.flatten.length := by
  conv => rhs; rw [← List.take_append_drop k ps, List.flatten_append, List.length_append]
  omega

/-- How many there are in the first k. -/
def totK (ps : List (List Int)) (k : Nat) : Nat := (ps.take k).flatten.length

theorem concat_any (B m c : Nat) (ps : List (List Int)) (w : World) (hm : m = ps.length) (hB : B < w.heap.size) (hp : Parts w B ps) (hsm : ps.flatten.length ≤ 1000) (hm2 : m ≤ 1000) :
    Calls Tryz.prog 134 #[.slice (some ⟨B, 0, none⟩) m c] w fun e w' => ∃ v, e = .returned v ∧ w'.ownsRow w.heap.size 3 1 v ps.flatten.length (ints ps.flatten) ∧ Below w.heap.size w w' := by
  obtain ⟨i0, hi, hz0, hz1, hz2⟩ := info_parts info3
  have HI := Lib.hid hi
  have HZ0 := Lib.hid hz0
  have HZ1 := Lib.hid hz1
  have HZ2 := Lib.hid hz2
  clear hi hz0 hz1 hz2
  have Hm := Lib.hid hm
  have Hp := Lib.hid hp
  clear hm hp
  go_enter Tryz.func134, Tryz.ntmps134
  go_wp2
  go_loop [3, 11] (fun s i => ∃ k : Nat, k ≤ m ∧ i = .int .i64 k ∧ s = .int .i64 (totK ps k : Nat)) (fun _ i => m - (intOf i).toNat)
  case atStart => exact ⟨0, by omega, rfl, by simp [totK]⟩
  case round =>
    obtain ⟨k, hk, rfl, rfl⟩ := hrel
    by_cases hlt : k < m
    · have hk' : k < ps.length := by rw [← Hm.out]; exact hlt
      obtain ⟨A, n', c', hcell, hgs⟩ := Hp.out k hk'
      have hlen := hgs.len
      have hft := flat_take ps k hk'
      have hle := flat_le ps (k + 1)
      have hsum : totK ps (k + 1) = totK ps k + n' := by unfold totK; rw [hft, List.length_append, hlen]
      have Hsum := Lib.hid hsum
      have hb1 : totK ps k + n' ≤ 1000 := by unfold totK at *; omega
      clear hsum hft hle hlen hgs
      generalize totK ps k = s at *
      go_wp2
      refine ⟨⟨k + 1, by omega, by go_num, ?_⟩, by simp [intOf]; omega⟩
      rw [Hsum.out]; go_num
    · obtain rfl : k = m := by omega
      have he : totK ps k ≤ 1000 := by unfold totK; rw [Hm.out, List.take_length]; exact hsm
      generalize totK ps k = T at *
      go_wp2_with (go_at_call 153; refine (growNil_any _ _ (by omega)).mono ?_; rintro e x1 ⟨v, rfl, hown, hb1⟩; have Hown := Lib.hid hown; have HB1 := Lib.hid hb1; clear hown hb1)
      obtain ⟨z1, rfl⟩ := below_grow HB1.out
      go_loopw [6, 27] (fun v i wr => ∃ (q : Nat) (z : Gr), q ≤ k ∧ i = .int .i64 q ∧ wr = grow w z ∧ (grow w z).ownsRow w.heap.size 3 1 v (ps.take q).flatten.length (ints (ps.take q).flatten)) (fun _ i _ => k - (intOf i).toNat)
      case atStart => exact ⟨0, z1, by omega, rfl, rfl, by simpa [ints] using Hown.out⟩
      case round =>
        obtain ⟨q, z, hq, rfl, rfl, hown⟩ := hrel
        have Ho := Lib.hid hown; clear hown
        have e1 : B < w.heap.size + z.blocks.size := by omega
        by_cases hqk : q < k
        · have hq' : q < ps.length := by rw [← Hm.out]; exact hqk
          have HPz := Lib.hid (Hp.out.keep hB (grow_below w z))
          obtain ⟨A, n', c', hcell, hgs⟩ := HPz.out q hq'
          rw [grow_cell_lt _ _ _ _ hB] at hcell
          have hft := flat_take ps q hq'
          have hle := flat_le ps (q + 1)
          have hlen := hgs.len
          have Hft := Lib.hid hft
          have hb1 : (ps.take q).flatten.length + n' ≤ 1000 := by rw [hft, List.length_append] at hle; omega
          have HG := Lib.hid hgs
          have Hlen := Lib.hid hlen
          clear hft hle hgs hlen
          generalize (ps.take q).flatten = X at *
          generalize hnX : X.length = nX at *
          have HnX := Lib.hid hnX
          clear hnX
          by_cases h0 : n' = 0
          · subst h0
            go_wp2_with (at_builtin; refine Lib.wpList_append_run _ rfl _ _ _ _ rfl _ _ rfl rfl _ _ (run_append_empty _ _ _ _ _ _ _ _ Ho.out) ?_)
            refine ⟨⟨q + 1, z, by omega, by go_num, rfl, ?_⟩, by simp [intOf]; omega⟩
            have hnil : ps[q] = [] := List.length_eq_zero_iff.1 Hlen.out.symm
            rw [Hft.out, hnil, List.append_nil, HnX.out]; exact Ho.out
          · obtain ⟨b, o, rfl, hb, _⟩ := HG.out.get 0 (by rw [← Hlen.out]; omega)
            go_wp2_with (at_builtin; refine wpList_append_own _ rfl _ _ 22 rfl w.heap.size 3 i0 (.int .i64 0) 1 8 Tryz.underlying22 HI.out HZ0.out HZ1.out HZ2.out rfl (by decide) _ _ _ rfl Ho.out ⟨b, o, none⟩ n' c' (ints ps[q]) rfl ?c0 ?c1 ?c2 ?c3 ?c4 ?c5 ?_)
            case c0 => rw [ints_len, Hlen.out, Nat.mul_one]
            case c1 => exact HG.out.cells
            case c2 => exact ints_one' _
            case c3 => unfold maxLen; omega
            case c4 => omega
            case c5 => simp
            intro v' w' hown' hgr _
            have hbel : Below w.heap.size w w' := (grow_below w z).grown hgr (by simp) (fun q hq => (Ho.out.lt q hq).1)
            have Hown' := Lib.hid hown'
            clear hown' hgr
            obtain ⟨y2, rfl⟩ := below_grow hbel
            go_wp2
            refine ⟨⟨q + 1, y2, by omega, by go_num, rfl, ?_⟩, by simp [intOf]; omega⟩
            rw [Hft.out, ints_app, List.length_append, HnX.out, ← Hlen.out]
            exact Hown'.out
        · obtain rfl : q = k := by omega
          go_wp2
          go_ret
          refine ⟨_, rfl, ?_, grow_below w z⟩
          have := Ho.out
          rw [Hm.out, List.take_length] at this
          exact this
end Go.Proofs.YtaieidigpilbfaaGreat

namespace Go.Proofs.YtaieidigpilbfaaGreat
open Go Go.RowKit
set_option maxHeartbeats 1000000
set_option maxRecDepth 100000

theorem Is.take {w : World} {A : Option Addr} {n : Nat} {l : List Int} (h : Is w A n l) (i : Nat) (hi : i ≤ n) : Is w A i (l.take i) := by
  have hl := h.len
  have hs := h.small
  refine ⟨by simp; omega, by omega, fun k hk => ?_⟩
  have hk' : k < l.length := by simp at hk; omega
  obtain ⟨b, o, e, hlt, hg⟩ := h.get k hk'
  exact ⟨b, o, e, hlt, by rw [List.getElem_take]; exact hg⟩
theorem Is.drop {w : World} {b o n : Nat} {l : List Int} (h : Is w (some ⟨b, o, none⟩) n l) (i : Nat) : Is w (some ⟨b, o + i, none⟩) (n - i) (l.drop i) := by
  have hl := h.len
  have hs := h.small
  refine ⟨by simp; omega, by omega, fun k hk => ?_⟩
  have hk' : i + k < l.length := by simp at hk; omega
  obtain ⟨b2, o2, e, hlt, hg⟩ := h.get (i + k) hk'
  cases e
  exact ⟨b, o + i, rfl, hlt, by rw [List.getElem_drop, Nat.add_assoc]; exact hg⟩
theorem Is.nil (w : World) (A : Option Addr) : Is w A 0 [] := ⟨rfl, by omega, fun k hk => by simp at hk⟩

theorem clone_any (A : Option Addr) (n c : Nat) (l : List Int) (w : World) (hl : Is w A n l) (h40 : l.length ≤ 100000) :
    Calls Tryz.prog 80 #[.slice A n c] w fun e w' => ∃ A' c', e = .returned (.slice A' l.length c') ∧ OI w' w.heap.size (.slice A' l.length c') l ∧ Below w.heap.size w w' := by
  have Hn : Hid (n = l.length) := Lib.hid hl.len
  have hn40 : n ≤ 100000 := by rw [hl.len]; exact h40
  have hnil : ∀ w : World, (binOp BinOp.eql 22 (.slice A n c) (.slice none 0 0)).run Tryz.prog w = .ok (.bool A.isNone) w := fun w => Lib.run_eql_slice_nil (P := Tryz.prog) w 22 3 A n c 0 0 Tryz.underlying22
  cases A with
  | none =>
    have h0 : l = [] := by
      cases l with
      | nil => rfl
      | cons x r => obtain ⟨b, o, e, _⟩ := hl.get 0 (by simp); cases e
    subst h0
    obtain rfl : n = 0 := Hn.out
    go_enter Tryz.func80, Tryz.ntmps80
    go_wp2
    go_ret
    exact ⟨none, 0, rfl, OI.nil _ _, Below.refl _ _⟩
  | some a =>
    have hbs : ∀ w : World, (Instr.buildSlice 22 0 #[]).run Tryz.prog w = .ok (.slice (some ⟨w.heap.size, 0, none⟩) 0 0) (w.alloc (.cells #[] 3)) := fun w => by kernel_rfl
    have HO : Hid (OI (w.alloc (.cells #[] 3)) w.heap.size (.slice (some ⟨w.heap.size, 0, none⟩) 0 0) []) := Lib.hid ⟨⟨rfl, .inr ⟨w.heap.size, 0, #[], rfl, Nat.le_refl _, heap_alloc_new _ _, Nat.le_refl _, by unfold maxLen; omega, rfl, rfl⟩⟩⟩
    by_cases h0 : n = 0
    · subst h0
      have hl0 : l = [] := List.length_eq_zero_iff.1 Hn.out.symm
      subst hl0
      have hap : Hid ((Builtin.append_ #[22, 22] 22 #[.slice (some ⟨w.heap.size, 0, none⟩) 0 0, .slice (some a) 0 c]).run Tryz.prog (w.alloc (.cells #[] 3)) = .ok (.slice (some ⟨w.heap.size, 0, none⟩) 0 0) (w.alloc (.cells #[] 3))) := Lib.hid (run_append_empty 22 _ w.heap.size _ 0 [] _ _ HO.out.h)
      go_enter Tryz.func80, Tryz.ntmps80
      go_wp2_with (at_builtin; refine Lib.wpList_append_run _ rfl _ _ _ _ rfl _ _ rfl rfl _ _ hap.out ?_)
      go_ret
      exact ⟨_, _, rfl, HO.out, up_alloc _ _⟩
    · have Hl := Lib.hid (hl.keep (up_alloc w (.cells #[] 3)))
      clear hl
      go_enter Tryz.func80, Tryz.ntmps80
      go_wp2_with (at_builtin; refine wpList_appIs HO.out (.tmp 5) (.tmp 6) rfl rfl rfl rfl Hl.out h0 ?c1 ?c2 ?_)
      case c1 => simp; omega
      case c2 => simp
      intro A' c' U hO hb
      have HO2 := Lib.hid hO; have HB2 := Lib.hid hb
      clear hO hb
      go_wp2
      go_ret
      have e := Hn.out
      subst e
      exact ⟨A', c', rfl, HO2.out, (Below.mono (up_alloc w _) (Nat.le_refl _)).trans HB2.out⟩

theorem parts2 {w : World} {A1 A2 : Option Addr} {n1 c1 n2 c2 b : Nat} {l1 l2 : List Int} (h1 : Is w A1 n1 l1) (h2 : Is w A2 n2 l2) (hc0 : w.cell? ⟨b, 0, none⟩ = some (.slice A1 n1 c1)) (hc1 : w.cell? ⟨b, 1, none⟩ = some (.slice A2 n2 c2)) : Parts w b [l1, l2] := by
  intro k hk
  rcases (by simp at hk; omega : k = 0 ∨ k = 1) with rfl | rfl
  · exact ⟨_, _, _, hc0, h1⟩
  · exact ⟨_, _, _, hc1, h2⟩
theorem erase_eq (l : List Int) (i : Nat) : [l.take i, l.drop (i + 1)].flatten = l.eraseIdx i := by simp [List.eraseIdx_eq_take_drop_succ]
theorem OI.of_len {w : World} {base n : Nat} {v : Value} {l : List Int} (h : w.ownsRow base 3 1 v n (ints l)) : OI w base v l := by
  have : n = l.length := by have := h.1; simp [ints] at this; omega
  subst this; exact ⟨h⟩

theorem without_any (A : Option Addr) (n c : Nat) (l : List Int) (i : Nat) (w : World) (hl : Is w A n l) (hi : i < l.length) (hnc : n ≤ c) (hcm : c ≤ 9223372036854775807) (h40 : l.length ≤ 1000) :
    Calls Tryz.prog 90 #[.slice A n c, .int .i64 (i : Int)] w fun e w' => ∃ A' c', e = .returned (.slice A' (l.eraseIdx i).length c') ∧ OI w' w.heap.size (.slice A' (l.eraseIdx i).length c') (l.eraseIdx i) ∧ Below w.heap.size w w' := by
  have Hn : Hid (n = l.length) := Lib.hid hl.len
  have hin : i < n := by rw [hl.len]; exact hi
  have hn40 : n ≤ 1000 := by rw [hl.len]; exact h40
  obtain ⟨b, o, rfl, hb, _⟩ := hl.get 0 (by omega)
  have HT := Lib.hid (hl.take i (by omega))
  have HD := Lib.hid (hl.drop (i + 1))
  clear hl
  have e1 : IntKind.i64.wrap ((i : Int) + 1) = (i : Int) + 1 := by rw [IntWalk.i64_in _ (by omega)]
  have e2 : ((i : Int) + 1).toNat = i + 1 := by omega
  have hsz : [l.take i, l.drop (i + 1)].flatten.length ≤ 1000 := by rw [erase_eq]; have := List.length_eraseIdx_le (l := l) i; omega
  by_cases hc : c = i + 1
  · subst hc
    obtain rfl : n = i + 1 := by omega
    have HD0 : Hid (l.drop (i + 1) = []) := Lib.hid (by rw [Hn.out]; exact List.drop_length)
    go_enter Tryz.func90, Tryz.ntmps90
    go_upto_region 1 with fail
    refine wp_region_grow_tail 7 (by kernel_rfl) (by kernel_rfl) ?_
    simp only [List.take_succ_cons, List.take_zero, List.drop_succ_cons, List.drop_zero]
    repeat (go_big_quiet_step ((fail)))
    refine wpQuiet_nil ?_
    intro z
    have hb0 := grow_below w z
    generalize grow w z = V at *
    have HT2 := Lib.hid (HT.out.keep hb0)
    have HB0 := Lib.hid hb0
    clear hb0 e1 e2
    go_wp2_with fail
    generalize hX : World.alloc V _ = X
    have KX : Bx X V.heap.size 22 [.slice (some ⟨b, o, none⟩) i (i + 1), .slice (some ⟨b, o, none⟩) 0 0] := by subst hX; exact Bx.new _ _ _
    have hbx : Below V.heap.size V X := by subst hX; exact up_alloc _ _
    clear hX
    have hP : Parts X V.heap.size [l.take i, l.drop (i + 1)] := parts2 (HT2.out.keep hbx) (by rw [HD0.out]; exact Is.nil _ _) (KX.get 0) (KX.get 1)
    refine Calls.mono (concat_any V.heap.size 2 _ [l.take i, l.drop (i + 1)] X rfl KX.lt hP hsz (by omega)) ?_
    rintro e U ⟨v, rfl, hown, hbu⟩
    go_wp2
    go_ret
    have HO := OI.of_len hown
    rw [erase_eq] at HO
    obtain ⟨A', c', rfl⟩ := HO.shape
    exact ⟨A', c', rfl, HO.mono (by have := HB0.out.size; have := hbx.size; omega), up HB0.out (up hbx hbu)⟩
  · have hic : i + 1 < c := by omega
    go_enter Tryz.func90, Tryz.ntmps90
    go_upto_region 1 with fail
    refine wp_region_grow_tail 7 (by kernel_rfl) (by kernel_rfl) ?_
    simp only [List.take_succ_cons, List.take_zero, List.drop_succ_cons, List.drop_zero]
    repeat (go_big_quiet_step ((fail)))
    refine wpQuiet_nil ?_
    intro z
    have hb0 := grow_below w z
    generalize grow w z = V at *
    have HT2 := Lib.hid (HT.out.keep hb0)
    have HD2 := Lib.hid (HD.out.keep hb0)
    have HB0 := Lib.hid hb0
    clear hb0 e1 e2
    go_wp2_with fail
    generalize hX : World.alloc V _ = X
    have KX : Bx X V.heap.size 22 [.slice (some ⟨b, o, none⟩) i c, .slice (some ⟨b, o + (i + 1), none⟩) (n - (i + 1)) (c - (i + 1))] := by subst hX; exact Bx.new _ _ _
    have hbx : Below V.heap.size V X := by subst hX; exact up_alloc _ _
    clear hX
    have hP : Parts X V.heap.size [l.take i, l.drop (i + 1)] := parts2 (HT2.out.keep hbx) (HD2.out.keep hbx) (KX.get 0) (KX.get 1)
    refine Calls.mono (concat_any V.heap.size 2 _ [l.take i, l.drop (i + 1)] X rfl KX.lt hP hsz (by omega)) ?_
    rintro e U ⟨v, rfl, hown, hbu⟩
    go_wp2
    go_ret
    have HO := OI.of_len hown
    rw [erase_eq] at HO
    obtain ⟨A', c', rfl⟩ := HO.shape
    exact ⟨A', c', rfl, HO.mono (by have := HB0.out.size; have := hbx.size; omega), up HB0.out (up hbx hbu)⟩
end Go.Proofs.YtaieidigpilbfaaGreat

namespace Go.Proofs.YtaieidigpilbfaaGreat
open Go Go.RowKit
section
variable {P : Program}
theorem any_head_tail {Q : Exit → Act → World → Prop} {a : Act} {w : World} {l : List Oper} {C : World → Prop} (n : Nat)
    (hB : Region.lexTailB .any l.toArray n = true) (hC : C { w with drawn := w.drawn + 1 })
    (h : wpQuiet P l.toArray C (fun a' => ∀ w', C w' → wpList P l.toArray Q (l.drop n) a' w') (l.take n) a) : wpAny P .any l.toArray Q l.toArray.size (Array.replicate l.toArray.size false) a { w with drawn := w.drawn + 1 } := by
  simp only [Region.lexTailB, Bool.and_eq_true, decide_eq_true_eq] at hB
  obtain ⟨⟨⟨⟨hsel, hn⟩, hs⟩, hc⟩, hlex⟩ := hB
  have hn' : n < l.length := by simpa using hn
  have htl : (l.take n).length = n := by simp; omega
  have hdl : (l.drop n).length = l.toArray.size - n := by simp
  have inv0 : HeadInv .any l.toArray n (Array.replicate l.toArray.size false) :=
    { size := by simp
      closed := fun j oj _ hl => by rw [getD_replicate_false] at hl; cases hl
      tail := fun t _ ht => getD_in (by simpa using ht) (getD_replicate_false _ _) }
  have H := headAny_lex (md := .any) (C := C) (g := l.toArray.size - n) hsel hs hc hn (l.take n) 0 _ a
    (fun j hj => by rw [htl] at hj; simp [hj]) (by simpa using htl) inv0 (by rw [htl]; exact hlex) h
  have S := headAny_sound (Q := Q) (g := l.toArray.size - n) (fun d a' w' hw' hL => by
    have := wpAny_of_seq (md := .any) (Q' := Q) (l.drop n) n d a' w' (fun j => by simp [List.getElem?_drop]) (by rw [hdl]; exact hL.1) (hL.2 w' hw')
    rwa [hdl] at this) _ _ _ _ hC H
  rw [htl, show n + (l.toArray.size - n) = l.toArray.size by omega] at S
  exact S

/-- THE RULE. -/
theorem wp_region_late {id : Nat} {Q : Exit → Act → World → Prop} {a : Act} {w : World} {l : List Oper} (n e s : Nat) {oe os : Oper} {x : Operand} {ix : Nat}
    (hmo : P.follows .mixedOrders = true)
    (he : l[e]? = some oe) (hs : l[s]? = some os) (hes : e ≠ s) (hop : oe.op = .extract x ix) (hg : oe.guard = none)
    (hsel : Region.noSelect l.toArray = true) (hfree : freeOf .any l.toArray oe e = true)
    (hdeps : oe.after.all (fun x => !Region.binds .any x || os.after.any fun y => Region.binds .any y && y.on == x.on) = true)
    (hB : Region.lexTailB .any (l.set s (late os e)).toArray n = true)
    (h : wpQuiet P (l.set s (late os e)).toArray (fun w' => ∃ z, w' = grow w z) (fun a' => ∀ z, wpList P (l.set s (late os e)).toArray (Landed Q) ((l.set s (late os e)).drop n) a' (grow w z)) ((l.set s (late os e)).take n) a) : (Code.region id l.toArray true).wp P Q a w := by
  have S := any_head_tail (P := P) (Q := Landed Q) (a := a) (w := w) (l := l.set s (late os e)) (C := fun w' => ∃ z, w' = grow w z) n hB ⟨⟨#[], w.drawn + 1⟩, by simp [grow]⟩ (by
    have e : (fun a' => ∀ z, wpList P (l.set s (late os e)).toArray (Landed Q) ((l.set s (late os e)).drop n) a' (grow w z)) = (fun a' => ∀ w', (∃ z, w' = grow w z) → wpList P (l.set s (late os e)).toArray (Landed Q) ((l.set s (late os e)).drop n) a' w') := by
      funext a'; exact propext ⟨fun h w' ⟨z, hz⟩ => hz ▸ h z, fun h z => h _ ⟨z, rfl⟩⟩
    rw [← e]; exact h)
  have key := wpAny_late (P := P) (md := .any) (ops := l.toArray) (Q := Landed Q) (fun ⟨_, _, h, _⟩ => by cases h) (fun _ _ _ h => by cases h.1) (by simpa using he) (by simpa using hs) hes hop hg hsel hfree (fun x hx hb => by
    have := Array.all_eq_true_iff_forall_mem.1 hdeps x hx
    simp only [hb, Bool.not_true, Bool.false_or] at this
    obtain ⟨y, hy, hb2⟩ := Array.any_eq_true'.1 this
    simp only [Bool.and_eq_true, beq_iff_eq] at hb2
    exact ⟨y, hy, hb2.1, hb2.2⟩) l.toArray.size (Array.replicate l.toArray.size false) a { w with drawn := w.drawn + 1 } (by simp) (by simpa using S)
  exact Code.wp_mono (fun _ _ _ h => h.2) (wp_region_any hmo key)
end
end Go.Proofs.YtaieidigpilbfaaGreat

namespace Go.Proofs.YtaieidigpilbfaaGreat
open Go Go.RowKit Go.Shelf
set_option maxHeartbeats 400000
set_option maxRecDepth 100000

/-- A search's cells. -/
def srL (A : Option Addr) (n c : Nat) (B : Option Addr) (m d : Nat) (a0 a1 a2 a3 a4 a5 a6 a7 a8 a9 : Int) (most : Int) (M : Nat) (pv : Value) (fnd : Int) (l : Nat) : List Value :=
  [.slice A n c, .slice B m d, .int .i64 a0, .int .i64 a1, .int .i64 a2, .int .i64 a3, .int .i64 a4, .int .i64 a5, .int .i64 a6, .int .i64 a7, .int .i64 a8, .int .i64 a9, .int .i64 most, .map (some M), pv, .int .i64 fnd, .func (.yield l) #[] #[]]
/-- The state of a search. -/
structure Sx (A : Option Addr) (n c : Nat) (B : Option Addr) (m d : Nat) (a0 a1 a2 a3 a4 a5 a6 a7 a8 a9 : Int) (most : Int) (N M base l : Nat) (X : World) (pre : List Int) (pv : Value) (fnd : Int) (ts : List (List Int)) : Prop where
  kn : Bx X N 143 (srL A n c B m d a0 a1 a2 a3 a4 a5 a6 a7 a8 a9 most M pv fnd l)
  ro : OI X base pv pre
  tm : Tm X M ts
/-- What the steps leave as it was. -/
structure Fr (B N : Nat) (X Y : World) : Prop where
  size : X.heap.size ≤ Y.heap.size
  box : ∀ k cs t, B ≤ k → k ≠ N → t ≠ 3 → Bx X k t cs → Bx Y k t cs
theorem Fr.refl (B N : Nat) (X : World) : Fr B N X X := ⟨Nat.le_refl _, fun _ _ _ _ _ _ h => h⟩
theorem Fr.trans {B N : Nat} {X Y Z : World} (h : Fr B N X Y) (k : Fr B N Y Z) : Fr B N X Z := ⟨Nat.le_trans h.size k.size, fun i cs t h1 h2 h3 b => k.box i cs t h1 h2 h3 (h.box i cs t h1 h2 h3 b)⟩
theorem Fr.below {B N : Nat} {X Y : World} (h : Below X.heap.size X Y) : Fr B N X Y := ⟨h.size, fun _ _ _ _ _ _ b => b.keep h⟩
theorem Fr.above {B N : Nat} {X Y : World} (h : Above B X Y) : Fr B N X Y := ⟨h.size, fun _ _ _ hk _ _ b => b.above h hk⟩
theorem Fr.putN {B N : Nat} {X Y : World} (p : Put X N Y) : Fr B N X Y := ⟨Nat.le_of_eq p.size.symm, fun _ _ _ _ hk _ b => b.put p hk⟩
theorem Fr.putM {B N M : Nat} {X Y : World} {ts : List (List Int)} (p : Put X M Y) (T : Tm X M ts) : Fr B N X Y := ⟨Nat.le_of_eq p.size.symm, fun k cs t _ _ _ b => b.put p fun e => by
  subst e
  obtain ⟨es, clock, hh, _⟩ := T.h
  have := b.h
  rw [hh] at this; cases this⟩
theorem OI.above {X Y : World} {base B : Nat} {v : Value} {l : List Int} (h : OI X base v l) (hb : Above B X Y) (hB : B ≤ base) : OI Y base v l :=
  ⟨own_keepB (B := 0) h.h fun g hg hlt => hb.block g (by
    rcases h.h.2 with ⟨rfl, _⟩ | ⟨g', cap, cur, rfl, hge, _⟩
    · simp [Value.ownBlock] at hg
    · simp [Value.ownBlock] at hg; omega) hlt⟩
def encL (x : List Int × Value) : Array Value := #[x.2]
theorem OI.cap {w : World} {base n c : Nat} {A : Option Addr} {l : List Int} (h : OI w base (.slice A n c) l) : c ≤ 9223372036854775807 := by
  rcases h.h.2 with ⟨h1, _⟩ | ⟨g, cap, cur, h1, _, _, _, hcm, _⟩
  · cases h1; omega
  · cases h1; unfold maxLen at hcm; omega
/-- A list that is yielded lies there. -/
def LiesL (B : Nat) (x : List Int × Value) (X : World) : Prop := ∃ A k c, x.2 = .slice A k c ∧ (k ≤ c ∧ c ≤ 9223372036854775807) ∧ Is X A k x.1 ∧ ∀ p, A = some p → B ≤ p.block
end Go.Proofs.YtaieidigpilbfaaGreat

namespace Go.Proofs.YtaieidigpilbfaaGreat
open Go Go.RowKit Go.Shelf
attribute [local go_sem] Oper.semAt_some
set_option maxHeartbeats 2000000
set_option maxRecDepth 100000
theorem yield_one {F : Fence} {mm : Nat} {P : Program} {l : Nat} {f : FuncId} {tmps : Array Value} {assign body : Code} {w : World} {p q : World → Prop}
    (h : RoundIn F mm P l f tmps assign body w fun e X' => (e = .returned (.bool true) ∧ p X') ∨ (e = .returned (.bool false) ∧ q X')) :
    RoundIn F mm P l f tmps assign body w fun e X' => ∃ b, e = .returned (.bool b) ∧ ((b = true ∧ p X') ∨ (b = false ∧ q X')) :=
  h.mono fun e X' h => by
    rcases h with ⟨rfl, h⟩ | ⟨rfl, h⟩
    · exact ⟨true, rfl, .inl ⟨rfl, h⟩⟩
    · exact ⟨false, rfl, .inr ⟨rfl, h⟩⟩
section
variable (A : Option Addr) (n c : Nat) (P : List Int) (B : Option Addr) (m d : Nat) (bs : List Kd) (a0 a1 a2 a3 a4 a5 a6 a7 a8 a9 : Int) (most w0 : Int) (N M base l mm : Nat) (W : World)
  (J Jx : List (List Int × Value) → World → Prop) (ALL : List (List Int))

theorem extend_end (hJK : ∀ pre X, J pre X → Is X A n P ∧ Ks X B m bs) (hJ : On W.heap.size J)
    (hY : ∀ pre x X, (∃ t, ALL = (pre ++ [x]).map Prod.fst ++ t) → LiesL W.heap.size x X → J pre X → W.heap.size ≤ X.heap.size → YieldAt Fence.wide mm Tryz.prog l (encL x) X fun e X' =>
      (e = .returned (.bool true) ∧ J (pre ++ [x]) X' ∧ Above W.heap.size X X') ∨ (e = .returned (.bool false) ∧ Jx (pre ++ [x]) X'))
    (hN : W.heap.size ≤ N) (hNb : N < base) (hM : W.heap.size ≤ M) (hMb : M < base) (hMN : M ≠ N)
    (pre : List Int) (st : List Int) (done : List (List Int × Value)) (X : World) (pv : Value) (ts : List (List Int)) (rest : List (List Int))
    (hpl : pre.length = bs.length) (h8 : bs.length ≤ 1000) (hst : st.length = 10) (hall : ALL = done.map Prod.fst ++ [pre] ++ rest) (hal : ALL.length ≤ 1000000) (hbX : base ≤ X.heap.size) (hj : J done X)
    (hs : Sx A n c B m d a0 a1 a2 a3 a4 a5 a6 a7 a8 a9 most N M base l X pre pv (done.length : Nat) ts) :
    Calls Tryz.prog 129 #[.pointer (some ⟨N, 0, none⟩), .agg ⟨ints st⟩] X fun e X' =>
      (∃ v, e = .returned (.bool true) ∧ J (done ++ [(pre, v)]) X' ∧ Sx A n c B m d a0 a1 a2 a3 a4 a5 a6 a7 a8 a9 most N M base l X' pre pv ((done.length : Nat) + 1) ts ∧ Fr W.heap.size N X X') ∨
      (∃ v, e = .returned (.bool false) ∧ Jx (done ++ [(pre, v)]) X') := by
  obtain ⟨kn, ro, tm⟩ := hs
  obtain ⟨Ap, cp, rfl⟩ := ro.shape
  have hm : m = bs.length := (hJK _ _ hj).2.len
  have Hpl := Lib.hid hpl
  have hdl : done.length ≤ 1000000 := by
    have := congrArg List.length hall
    simp at this; omega
  have him : ((pre.length : Int) == (m : Int)) = true := by simp; omega
  have hbX1 : Below X.heap.size X (X.alloc (.cells ⟨ints st⟩ 107)) := up_alloc _ _
  have Hj := Lib.hid (hJ _ _ _ hj (hbX1.mono (by omega)))
  have Hro := Lib.hid (ro.keep hbX1)
  have Htm := Lib.hid (tm.keep hbX1)
  have KN : Bx _ N 143 _ := kn.keep hbX1
  have Hp5 : pre.length ≤ 1000 := by omega
  have HY := Lib.hid hY; have HJ := Lib.hid hJ; have HJK := Lib.hid hJK; have Hall := Lib.hid hall
  have Hd : Hid (0 ≤ (done.length : Int)) := Lib.hid (by omega)
  have hd1 : (done.length : Int) ≤ 1000000 := by omega
  have Hrl := ro.h
  clear hJK hJ hY hj ro tm kn hall hal hm hpl Hrl
  unfold srL at KN
  go_enter Tryz.func129, Tryz.ntmps129
  go_upto_region 1 with fail
  generalize hV : World.alloc X _ = V
  rw [hV] at hbX1 Hj Hro Htm KN
  clear hV
  have KNl := KN.lt; have KNc := KN.get; have KNf := KN.fr
  refine wp_region_grow (by kernel_rfl) (by kernel_rfl) ?_
  repeat (go_big_quiet_step ((fail)))
  refine wpQuiet_nil ?_
  intro z
  have hb2 := grow_below V z
  generalize grow V z = Y at *
  replace Hj := Lib.hid (HJ.out _ _ _ Hj.out (hb2.mono (by have := hbX1.size; omega)))
  replace Hro := Lib.hid (Hro.out.keep hb2)
  replace Htm := Lib.hid (Htm.out.keep hb2)
  have hXY := Lib.hid (up hbX1 hb2)
  clear KNl KNc KNf
  replace KN := KN.keep hb2
  clear hb2 hbX1
  have KNl := KN.lt; have KNc := KN.get; have KNf := KN.fr
  go_upto_region 4 with fail
  have p := Put.cell Y N 15 (.int .i64 ((done.length : Int) + 1))
  have KN2 : Bx _ N 143 (srL A n c B m d a0 a1 a2 a3 a4 a5 a6 a7 a8 a9 most M (.slice Ap pre.length cp) ((done.length : Nat) + 1) l) := KN.cell 15 (.int .i64 ((done.length : Int) + 1))
  generalize hU : World.setCell Y _ _ = U at *
  clear hU KNl KNc KNf KN
  have HjU := Lib.hid (HJ.out _ _ _ Hj.out (p.below hN))
  have HroU := Lib.hid (Hro.out.put p hNb)
  have HtmU := Lib.hid (Htm.out.put p hMN)
  have HFr : Hid (Fr W.heap.size N X U) := Lib.hid ((Fr.below hXY.out).trans (Fr.putN p))
  have hbU : base ≤ U.heap.size := by have := hXY.out.size; rw [p.size]; omega
  clear p Hj Hro Htm
  obtain ⟨A1, c1, e1, hc1, his, hfar⟩ := HroU.out.is
  have HIs : Hid (Is U Ap pre.length pre) := Lib.hid (by cases e1; exact his)
  clear e1 hc1 his hfar
  have HKN := Lib.hid KN2
  unfold srL at KN2
  have KN2l := KN2.lt; have KN2c := KN2.get; have KN2f := KN2.fr
  refine (wpIn_wide (n := mm + 1)).1 ?_
  have Hsp : Hid (∀ v : Value, ∃ t, ALL = (done ++ [(pre, v)]).map Prod.fst ++ t) := Lib.hid (fun v => ⟨rest, by rw [Hall.out]; simp⟩)
  have hNU : N < U.heap.size := KN2l
  have hWU : W.heap.size ≤ U.heap.size := by omega
  gi_region_with (first
    | (refine ⟨trivial, (callsIn_wide.2 (clone_any _ _ _ pre _ (HIs.out.keep (by go_grown)) (by omega))).mono ?_⟩; rintro e U2 ⟨A', c', rfl, hO, hbu⟩; have Hbu : Hid (Below U.heap.size U U2) := Lib.hid (Below.trans (by go_grown) hbu); obtain ⟨A2, c2, e2, hc2, his2, hfar2⟩ := hO.is; cases e2; obtain ⟨fn, tmps, assign, body, hy, hR⟩ := HY.out done (pre, .slice A' pre.length c') U2 (Hsp.out _) ⟨A', _, c', rfl, ⟨hc2, hO.cap⟩, his2, fun p hp => (by have := hfar2 p hp; simp at this; omega)⟩ (HJ.out _ _ _ HjU.out (Hbu.out.mono hWU)) (by have := Hbu.out.size; omega); dsimp only [encL] at hy; have KN3 := KN2.keep Hbu.out; have KN3l := KN3.lt; have KN3c := KN3.get; clear hbu hO hc2 his2 hfar2)
    | (refine (yield_one hR).mono ?_; have HbU2 := Hbu; clear hy hR; rintro e X2 ⟨bb, rfl, hP⟩))
  all_goals
    rcases hP with ⟨rfl, hJ', hAb⟩ | ⟨rfl, hJx'⟩
    · have HJ2 := Lib.hid hJ'; have HAb := Lib.hid hAb
      clear hJ' hAb KN3 KN3l KN3c
      gi_wp2
      go_wp2
      go_ret
      refine .inl ⟨.slice A' pre.length c', rfl, HJ2.out, ⟨(HKN.out.keep HbU2.out).above HAb.out hN, (HroU.out.keep HbU2.out).above HAb.out (by omega), (HtmU.out.keep HbU2.out).above HAb.out hM⟩, (HFr.out.trans (Fr.below HbU2.out)).trans (Fr.above HAb.out)⟩
    · have HJ2 := Lib.hid hJx'
      clear hJx' KN3 KN3l KN3c
      gi_wp2
      go_wp2
      go_ret
      exact .inr ⟨.slice A' pre.length c', rfl, HJ2.out⟩
end
end Go.Proofs.YtaieidigpilbfaaGreat

