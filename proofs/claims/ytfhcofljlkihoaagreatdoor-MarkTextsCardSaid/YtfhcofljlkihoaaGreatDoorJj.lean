/- Contracts of functions of the program and of the reference, and plain facts: a part of a proof. Own text. -/
import Derived.Test.YtfhcofljlkihoaaGreatDoorJi
import Derived.RangeFuncNested
import Derived.RangeFuncBound
import Derived.RangeFuncCalls
import Derived.RangeFuncLeaves
import Derived.Shelf.Abstract
import Derived.Shelf.RegionOpen
import Derived.WalkKit
import Derived.OwnWalkIn
import Derived.TacticsInMore
import Derived.LoopNIn
import Derived.LoopIn
import Derived.CallsIn
set_option linter.unusedVariables false
set_option linter.unusedSimpArgs false
set_option linter.unusedSectionVars false
namespace Go.Proofs.YtfhcofljlkihoaaGreatDoor
open Go Go.RowKit

/-- What lies from B on, and was there, lies as it lay. -/
structure Above (B : Nat) (W W' : World) : Prop where
  size : W.heap.size ≤ W'.heap.size
  block : ∀ k, B ≤ k → k < W.heap.size → W'.heap[k]? = W.heap[k]?
theorem Above.refl (B : Nat) (W : World) : Above B W W := ⟨Nat.le_refl _, fun _ _ _ => rfl⟩
theorem Above.trans {B : Nat} {X Y Z : World} (h : Above B X Y) (k : Above B Y Z) : Above B X Z :=
  ⟨Nat.le_trans h.size k.size, fun i hi hl => (k.block i hi (Nat.lt_of_lt_of_le hl h.size)).trans (h.block i hi hl)⟩
theorem Above.mono {B B' : Nat} {X Y : World} (h : Above B X Y) (hB : B ≤ B') : Above B' X Y := ⟨h.size, fun i hi hl => h.block i (Nat.le_trans hB hi) hl⟩
theorem Above.of_below {B : Nat} {X Y : World} (h : Below X.heap.size X Y) : Above B X Y := ⟨h.size, fun i _ hl => h.block i hl⟩
theorem Above.setCell {B : Nat} (X : World) {p : Addr} (hp : p.block < B) (v : Value) : Above B X (X.setCell p v) :=
  ⟨by simp [World.setCell], fun i hi _ => Below.heap_setCell X p v i (by omega)⟩
theorem Above.putObj {B : Nat} (X : World) {l : Nat} (hl : l < B) (o : Obj) : Above B X (X.putObj l o) :=
  ⟨by simp [World.putObj], fun i hi _ => World.putObj_heap_other (by omega)⟩
theorem below_putObj {B : Nat} (X : World) {l : Nat} (hl : B ≤ l) (o : Obj) : Below B X (X.putObj l o) :=
  ⟨rfl, rfl, rfl, by simp [World.putObj], fun i hi => World.putObj_heap_other (by omega)⟩

/-- What is said hangs on the blocks below B alone. -/
def On {β : Type} (B : Nat) (J : β → World → Prop) : Prop := ∀ s A A', J s A → Below B A A' → J s A'

/-- An iterator's contract: J between two rounds, Jx where a round has said no; Kx is what it relies on, Fx what it lays for what it yields. -/
def Iter {α : Type} (P : Program) (g : Nat) (lb : Array Value) (encs : α → Array Value) (Fx : Nat → α → World → Prop) (Kx : World → Prop) (S Sp : List α → Prop) (w : World) : Prop :=
  ∀ (n l : Nat) (J Jx : List α → World → Prop) (W : World), 3 ≤ n → Below w.heap.size w W → On W.heap.size J → (∀ pre A, J pre A → Kx A) →
    (∀ pre x A, Sp (pre ++ [x]) → Fx W.heap.size x A → J pre A → W.heap.size ≤ A.heap.size → YieldAt Fence.wide (n - 1) P l (encs x) A fun e A' =>
      (e = .returned (.bool true) ∧ J (pre ++ [x]) A' ∧ Above W.heap.size A A') ∨ (e = .returned (.bool false) ∧ Jx (pre ++ [x]) A')) →
    J [] W →
    CallsIn Fence.wide n P g (#[.func (.yield l) #[] #[]] ++ lb) W fun e W' => (∃ v, e = .returned v) ∧ ((∃ xs, S xs ∧ J xs W') ∨ (∃ pre, Sp pre ∧ Jx pre W'))

/-- How a round of the caller's is left. -/
def leftBy {α : Type} (B : Nat) (I : List α → World → Prop) (Ix : Code → List α → World → Prop) (xs : List α) (W : World) : Exit → Act → World → Prop
  | .normal, _, W' => Above B W W' ∧ I xs W'
  | .ret, _, W' => Above B W W' ∧ Ix .ret xs W'
  | .exit id, _, W' => Above B W W' ∧ Ix (.exit id) xs W'
  | .goto t, _, W' => Above B W W' ∧ Ix (.goto t) xs W'
  | _, _, _ => False

variable {n : Nat} {P : Program}

theorem rangeFunc_law {α : Type} {g : Operand} {ps : Array Tmp} {assign body : Code} {Q : Exit → Act → World → Prop} {a : Act} {w : World} (hn : 5 ≤ n)
    {gf : Nat} {lb : Array Value} (hg : a.eval g = .func (.func gf) #[] lb) (eg : ∀ args w, (callFunc gf args).run P w = .ok (.enter gf args) w)
    {encs : α → Array Value} {Fx : Nat → α → World → Prop} {Kx : World → Prop} {S Sp : List α → Prop} {w0 : World} (hseq : Iter P gf lb encs Fx Kx S Sp w0) (hb0 : Below w0.heap.size w0 w) (hps : ∀ x, (encs x).size = ps.size)
    (I : List α → World → Prop) (Ix : Code → List α → World → Prop) (hK : ∀ pre A, I pre A → Kx A) (hI : On w.heap.size I) (hIx : ∀ c pre X o, Ix c pre X → Ix c pre (X.putObj (w.heap.size + 1) o)) (h0 : I [] w)
    (hround : ∀ (l : Nat) (pre : List α) (x : α) (W : World), Sp (pre ++ [x]) → Fx (w.heap.size + 2) x W → I pre W → w.heap.size + 2 ≤ W.heap.size →
      assign.wpIn (Fence.wide.inRound l) (n - 1 - 1) P (Exit.then (fun a₁ w₁ => Above w.heap.size W w₁ ∧ ∀ w₂, Below w.heap.size w₁ w₂ → Above (w.heap.size + 2) w₁ w₂ →
        body.wpIn (Fence.wide.inRound l) (n - 1 - 1) P (leftBy w.heap.size I Ix (pre ++ [x]) w₂) a₁ w₂) (fun _ _ _ => False)) { tmps := (ps.zip (encs x)).foldl (fun t (p, v) => t.setIfInBounds p v) a.tmps, defers := [] } W)
    (hdone : ∀ (xs : List α) (W : World), S xs → I xs W → W.heap[w.heap.size]? = some (.deferred (some [])) → Q .normal { a with defers := { target := .collected w.heap.size, args := #[] } :: a.defers } W)
    (hstop : ∀ (c : Code) (pre : List α) (W : World), Sp pre → Ix c pre W → W.heap[w.heap.size]? = some (.deferred (some [])) → c.wpIn Fence.wide n P Q { a with defers := { target := .collected w.heap.size, args := #[] } :: a.defers } W) :
    (Code.rangeFunc g ps assign body).wpIn Fence.wide n P Q a w := by
  refine wpIn_rangeFunc ?_
  intro fn hfn
  obtain ⟨B, hB⟩ : ∃ B, w.heap.size = B := ⟨_, rfl⟩
  let rec_ : LoopState → Option Code → Loop := fun st pe => { state := st, pending := pe, fn, tmps := a.tmps, params := ps, assign, body, defers := B }
  let U : World := (w.alloc (.deferred (some []))).alloc (.loop (rec_ .ready none))
  have hU1 : U.heap[B + 1]? = some (.loop (rec_ .ready none)) := by
    have := World.alloc_heap_new (w.alloc (.deferred (some []))) (.loop (rec_ .ready none))
    rw [World.size_alloc, hB] at this; exact this
  have hU0 : U.heap[B]? = some (.deferred (some [])) := by
    have h1 := World.alloc_heap_new w (.deferred (some []))
    have h2 := Below.heap_alloc (w.alloc (.deferred (some []))) (.loop (rec_ .ready none)) B (by simp; omega)
    rw [hB] at h1; exact h2.trans h1
  have hUs : U.heap.size = B + 2 := by show (World.alloc (World.alloc w _) _).heap.size = _; simp; omega
  have hUb : Below B w U := by
    rw [← hB]; exact ((Below.refl _ w).alloc (Nat.le_refl _) _).alloc (by simp) _
  refine ⟨B + 1, [{ target := .collected B, args := #[] }], U, { target := .fn (.func gf) lb, args := #[.func (.yield (B + 1)) #[] #[]] }, U, gf,
    #[.func (.yield (B + 1)) #[] #[]] ++ lb, U, ?_, ?_, fun f' _ => trivial, ?_, fun h => (by cases h), ?_⟩
  · have := run_enterLoop_outer (P := P) (w := w) fn a.tmps ps assign body
    rw [hB] at this; exact this
  · simp only [resolve, hg]; simp [go_sem]
  · simp [invoke, go_sem, eg]
  have still : ∀ {X Y : World}, Below (B + 2) X Y → X.heap[B + 1]? = some (.loop (rec_ .ready none)) → Y.heap[B + 1]? = some (.loop (rec_ .ready none)) := fun h k => (h.block _ (by omega)).trans k
  refine (hseq (n - 1) (B + 1)
    (fun pre W => I pre W ∧ B + 2 ≤ W.heap.size ∧ W.heap[B + 1]? = some (.loop (rec_ .ready none)) ∧ W.heap[B]? = some (.deferred (some [])))
    (fun pre W => ∃ c, Ix c pre W ∧ W.heap[B + 1]? = some (.loop (rec_ .done (some c))) ∧ W.heap[B]? = some (.deferred (some [])))
    U (by omega) (hb0.trans ((hB ▸ hUb).mono hb0.size)) ?_ (fun pre A h => hK pre A h.1) ?_ ⟨hI _ _ _ h0 (hB ▸ hUb), by omega, hU1, hU0⟩).mono ?_
  · rintro s X Y ⟨h1, h2, h3, h4⟩ hb
    rw [hUs] at hb
    exact ⟨hI _ _ _ h1 (hb.mono (by omega)), Nat.le_trans h2 hb.size, (hb.block _ (by omega)).trans h3, (hb.block _ (by omega)).trans h4⟩
  · rintro pre x W hsp hfx ⟨hi, hsz, hl, hk⟩ _
    have hy := run_yield (P := P) (args := encs x) hl (hps x)
    refine ⟨fn, _, assign, body, hy, roundIn_of_wpIn hfn ?_⟩
    have hr := hround (B + 1) pre x W hsp (by rw [hB]; rw [hUs] at hfx; exact hfx) hi (by omega)
    refine wpIn_mono hr ?_
    intro e a₁ w₁ hp
    cases e with
    | normal =>
      obtain ⟨hab, hbody⟩ := hp
      rw [hB] at hab
      have hl1 : w₁.heap[B + 1]? = some (.loop (rec_ .ready none)) := (hab.block _ (by omega) (by omega)).trans hl
      have hk1 : w₁.heap[B]? = some (.deferred (some [])) := (hab.block _ (by omega) (by omega)).trans hk
      have hs1 : B + 2 ≤ w₁.heap.size := Nat.le_trans hsz hab.size
      refine ⟨_, run_beginRound hl1 rfl, ?_⟩
      have hl2 : (w₁.putObj (B + 1) (.loop (rec_ .busy none))).heap[B + 1]? = some (.loop (rec_ .busy none)) := World.putObj_heap_same (by omega)
      have hk2 : (w₁.putObj (B + 1) (.loop (rec_ .busy none))).heap[B]? = some (.deferred (some [])) := (World.putObj_heap_other (by omega)).trans hk1
      have hs2 : B + 2 ≤ (w₁.putObj (B + 1) (.loop (rec_ .busy none))).heap.size := by simp [World.putObj]; omega
      have hA2 : Above (B + 2) W (w₁.putObj (B + 1) (.loop (rec_ .busy none))) := (hab.mono (by omega)).trans (Above.putObj _ (by omega) _)
      refine wpIn_mono (hbody (w₁.putObj (B + 1) (.loop (rec_ .busy none))) (below_putObj _ (by omega) _) (Above.putObj _ (by omega) _)) ?_
      have fin : ∀ (jump : Option Code) (X : World), Above B (w₁.putObj (B + 1) (.loop (rec_ .busy none))) X →
          (Instr.endRound (B + 1) jump).run P X = .ok (.bool jump.isNone) (X.putObj (B + 1) (.loop (rec_ (if jump.isNone then .ready else .done) jump))) ∧
          (X.putObj (B + 1) (.loop (rec_ (if jump.isNone then .ready else .done) jump))).heap[B + 1]? = some (.loop (rec_ (if jump.isNone then .ready else .done) jump)) ∧
          (X.putObj (B + 1) (.loop (rec_ (if jump.isNone then .ready else .done) jump))).heap[B]? = some (.deferred (some [])) ∧ B + 2 ≤ X.heap.size := fun jump X hX => by
        have hlX := (hX.block _ (by omega) (by omega)).trans hl2
        have hkX := (hX.block _ (by omega) (by omega)).trans hk2
        have hsX : B + 2 ≤ X.heap.size := Nat.le_trans hs2 hX.size
        exact ⟨run_endRound (P := P) jump hlX, World.putObj_heap_same (by omega), (World.putObj_heap_other (by omega)).trans hkX, hsX⟩
      have after : ∀ {β : Type} (J : β → World → Prop) (s : β) (X : World) (o : Obj), On w.heap.size J → J s X → J s (X.putObj (B + 1) o) := fun J s X o hJ h => hJ _ _ _ h (below_putObj _ (by omega) _)
      intro e a₃ X hX
      cases e with
      | normal =>
        obtain ⟨hA, hI3⟩ := hX
        rw [hB] at hA
        obtain ⟨r1, r2, r3, r4⟩ := fin none X hA
        exact ⟨_, _, r1, .inl ⟨rfl, ⟨after I _ _ _ hI hI3, by simp [World.putObj]; omega, r2, r3⟩, by
          rw [hUs]; exact (hA2.trans (hA.mono (by omega))).trans (Above.putObj _ (by omega) _)⟩⟩
      | ret =>
        obtain ⟨hA, hI3⟩ := hX
        rw [hB] at hA
        obtain ⟨r1, r2, r3, _⟩ := fin (some .ret) X hA
        exact ⟨_, _, r1, .inr ⟨rfl, .ret, (hB ▸ hIx _ _ _ _ hI3), r2, r3⟩⟩
      | exit id =>
        obtain ⟨hA, hI3⟩ := hX
        rw [hB] at hA
        obtain ⟨r1, r2, r3, _⟩ := fin (some (.exit id)) X hA
        exact ⟨_, _, r1, .inr ⟨rfl, .exit id, (hB ▸ hIx _ _ _ _ hI3), r2, r3⟩⟩
      | goto t =>
        obtain ⟨hA, hI3⟩ := hX
        rw [hB] at hA
        obtain ⟨r1, r2, r3, _⟩ := fin (some (.goto t)) X hA
        exact ⟨_, _, r1, .inr ⟨rfl, .goto t, (hB ▸ hIx _ _ _ _ hI3), r2, r3⟩⟩
      | panic ch => exact hX.elim
      | outgrown => exact hX.elim
    | ret => exact hp.elim
    | exit id => exact hp.elim
    | goto t => exact hp.elim
    | panic ch => exact hp.elim
    | outgrown => exact hp.elim
  · rintro e X ⟨⟨v, rfl⟩, (⟨xs, hS, hi, hsz, hl, hk⟩ | ⟨pre, hSp, c, hi, hl, hk⟩)⟩
    · refine ⟨none, _, run_endLoop (P := P) hl (by simp [rec_]), ?_⟩
      have := hdone xs (X.putObj (B + 1) (.loop (rec_ .exhausted none))) hS (hI _ _ _ hi (below_putObj _ (by omega) _)) (by rw [hB]; exact (World.putObj_heap_other (by omega)).trans hk)
      rw [hB] at this; exact this
    · refine ⟨some c, _, run_endLoop (P := P) hl (by simp [rec_]), ?_⟩
      have := hstop c pre (X.putObj (B + 1) (.loop (rec_ .exhausted (some c)))) hSp (hB ▸ hIx c _ _ _ hi) (by rw [hB]; exact (World.putObj_heap_other (by omega)).trans hk)
      rw [hB] at this; exact this
end Go.Proofs.YtfhcofljlkihoaaGreatDoor

namespace Go.Proofs.YtfhcofljlkihoaaGreatDoor
open Go.RowKit
set_option maxHeartbeats 400000
set_option maxRecDepth 100000

/-- Do two rows meet at a place, at all places? -/
def meetB (a b : Rd) (i : Int) : Bool := band (g6 a.r0 a.r1 a.r2 a.r3 a.r4 a.r5 i) (g6 b.r0 b.r1 b.r2 b.r3 b.r4 b.r5 i) != 0
def meetAll (a b : Rd) (l : List Int) : Bool := l.all (meetB a b)

theorem allMeet_any (a b : Rd) (A : Option Addr) (n c : Nat) (l : List Int) (w : World) (hg : Is w A n l) (hl : ∀ i ∈ l, 0 ≤ i ∧ i < 6) :
    Calls Tryz.prog 50 #[.agg #[.int .i64 a.r0, .int .i64 a.r1, .int .i64 a.r2, .int .i64 a.r3, .int .i64 a.r4, .int .i64 a.r5], .agg #[.int .i64 b.r0, .int .i64 b.r1, .int .i64 b.r2, .int .i64 b.r3, .int .i64 b.r4, .int .i64 b.r5], .slice A n c] w fun e w' => e = .returned (.bool (meetAll a b l)) ∧ Below w.heap.size w w' := by
  have hn := hg.small
  have Hl : Hid (n = l.length) := Lib.hid hg.len
  have HL := Lib.hid hl
  clear hl
  go_enter Tryz.func50, Tryz.ntmps50
  go_wp2
  generalize hW : (World.alloc _ _) = W
  have HW : Hid (Below w.heap.size w W) := Lib.hid (by subst hW; go_grown)
  have hs : w.heap.size + 1 < W.heap.size := by subst hW; simp
  have hs0 : w.heap.size < W.heap.size := by omega
  have ca : ∀ j, W.cell? ⟨w.heap.size, j, none⟩ = [Value.int .i64 a.r0, .int .i64 a.r1, .int .i64 a.r2, .int .i64 a.r3, .int .i64 a.r4, .int .i64 a.r5][j]? := by subst hW; intro j; simp [go_sem]
  have cb : ∀ j, W.cell? ⟨w.heap.size + 1, j, none⟩ = [Value.int .i64 b.r0, .int .i64 b.r1, .int .i64 b.r2, .int .i64 b.r3, .int .i64 b.r4, .int .i64 b.r5][j]? := by subst hW; intro j; simp [go_sem]
  clear hW
  have Hg1 := Lib.hid (hg.keep HW.out)
  go_loopw [11] (fun i wr => ∃ (k : Nat) (z : Gr), k ≤ n ∧ i = .int .i64 k ∧ wr = grow W z ∧ meetAll a b (l.take k) = true) (fun i _ => n - (intOf i).toNat)
  case atStart => exact ⟨0, ⟨#[], W.drawn⟩, by omega, rfl, by simp [grow], rfl⟩
  case round =>
    obtain ⟨k, z, hk, rfl, rfl, hm⟩ := hrel
    have Hm := Lib.hid hm; clear hm
    have hsz : w.heap.size + 1 < (grow W z).heap.size := by simp; omega
    have hsz0 : w.heap.size < (grow W z).heap.size := by simp; omega
    by_cases hlt : k < n
    · have hkl : k < l.length := by rw [← Hl.out]; exact hlt
      have Htk : Hid (l.take (k + 1) = l.take k ++ [l[k]]) := Lib.hid (List.take_succ_eq_append_getElem hkl)
      have Hno : Hid (meetB a b l[k] = false → meetAll a b l = false) := Lib.hid (fun h => by
        unfold meetAll; rw [List.all_eq_false]; exact ⟨l[k], List.getElem_mem hkl, by rw [h]; simp⟩)
      obtain ⟨hx0, hx1⟩ := HL.out _ (List.getElem_mem hkl)
      obtain ⟨bb, o, rfl, hb, hc⟩ := Hg1.out.get k hkl
      generalize l[k] = x at *
      have e5 : bb < W.heap.size + z.blocks.size := by omega
      have f5 : bb < (grow W z).heap.size := by simp; omega
      have Hmb : Hid (meetB a b x = (band (g6 a.r0 a.r1 a.r2 a.r3 a.r4 a.r5 x) (g6 b.r0 b.r1 b.r2 b.r3 b.r4 b.r5 x) != 0)) := Lib.hid rfl
      go_wp2
      refine wp_region_grow (by kernel_rfl) (by kernel_rfl) ?_
      repeat (go_big_quiet_step ((go_at_call 72; exact quiet_grow rfl (still_grow (meets_any _ _ _)))))
      refine wpQuiet_nil ?_
      intro z'
      obtain ⟨y, hy⟩ := grow_grow W z z'
      rw [hy]
      clear hy
      cases hmb : (band (g6 a.r0 a.r1 a.r2 a.r3 a.r4 a.r5 x) (g6 b.r0 b.r1 b.r2 b.r3 b.r4 b.r5 x) != 0)
      · have Hb := Lib.hid hmb
        go_wp2
        go_ret
        refine ⟨congrArg (fun v => Ending.returned (Value.bool v)) ?_, up HW.out (grow_below W y)⟩
        rw [Hno.out (Hmb.out.trans Hb.out)]
      · have Hb := Lib.hid hmb
        go_wp2
        refine ⟨⟨k + 1, y, by omega, by go_num, rfl, ?_⟩, by simp [intOf]; omega⟩
        rw [Htk.out]; unfold meetAll; rw [List.all_append, show (l.take k).all (meetB a b) = true from Hm.out]; simp [Hmb.out.trans Hb.out]
    · obtain rfl : k = n := by omega
      go_wp2
      go_ret
      refine ⟨congrArg (fun v => Ending.returned (Value.bool v)) ?_, up HW.out (grow_below W z)⟩
      have := Hm.out
      rw [List.take_of_length_le (by rw [← Hl.out]; exact Nat.le_refl _)] at this
      exact this.symm

/-- Strictly rising places. -/
def riseB : List Int → Int → Bool
  | [], _ => true
  | x :: r, p => decide (p < x) && decide (x < 6) && riseB r x

theorem validLook_any (A : Option Addr) (n c : Nat) (l : List Int) (w : World) (hg : Is w A n l) :
    Calls Tryz.prog 49 #[.slice A n c] w fun e w' => e = .returned (.bool (riseB l (-1))) ∧ w = w' := by
  have hn := hg.small
  have Hl : Hid (n = l.length) := Lib.hid hg.len
  go_enter Tryz.func49, Tryz.ntmps49
  go_wp2
  go_loop [3, 8] (fun p i => ∃ (k : Nat) (q : Int), k ≤ n ∧ i = .int .i64 k ∧ p = .int .i64 q ∧ riseB (l.drop k) q = riseB l (-1)) (fun _ i => n - (intOf i).toNat)
  case atStart => exact ⟨0, -1, by omega, rfl, rfl, rfl⟩
  case round =>
    obtain ⟨k, q, hk, rfl, rfl, hp⟩ := hrel
    have Hp := Lib.hid hp; clear hp
    by_cases hlt : k < n
    · have hkl : k < l.length := by rw [← Hl.out]; exact hlt
      have Hd : Hid (l.drop k = l[k] :: l.drop (k + 1)) := Lib.hid (List.drop_eq_getElem_cons hkl)
      obtain ⟨b, o, rfl, hb, hc⟩ := hg.get k hkl
      generalize l[k] = y at *
      by_cases h1 : y ≤ q
      · go_wp2
        go_ret
        refine ⟨congrArg (fun v => Ending.returned (Value.bool v)) ?_, rfl⟩
        rw [← Hp.out, Hd.out]; unfold riseB; simp; intros; omega
      · by_cases h2 : 6 ≤ y
        · go_wp2
          go_ret
          refine ⟨congrArg (fun v => Ending.returned (Value.bool v)) ?_, rfl⟩
          rw [← Hp.out, Hd.out]; unfold riseB; simp; intros; omega
        · go_wp2
          refine ⟨⟨k + 1, y, by omega, by go_num, rfl, ?_⟩, by simp [intOf]; omega⟩
          rw [← Hp.out, Hd.out, riseB]; simp [show q < y by omega, show y < 6 by omega]
    · obtain rfl : k = n := by omega
      go_wp2
      go_ret
      refine ⟨congrArg (fun v => Ending.returned (Value.bool v)) ?_, rfl⟩
      rw [← Hp.out, Hl.out, List.drop_length]; rfl
theorem riseB_in : ∀ (l : List Int) (p : Int), -1 ≤ p → riseB l p = true → ∀ i ∈ l, 0 ≤ i ∧ i < 6
  | [], _, _, _ => by simp
  | x :: r, p, hp, h => by
    simp only [riseB, Bool.and_eq_true, decide_eq_true_eq] at h
    intro i hi
    rcases List.mem_cons.1 hi with rfl | hi
    · omega
    · exact riseB_in r x (by omega) h.2 i hi

/-- Each two rows are parted at one of the places. -/
def settleAt (rs : List Rd) (l : List Int) (k : Nat) : Bool :=
  match rs[k]? with
  | none => true
  | some a => (rs.take k).all fun b => !meetAll a b l
def settleB (rs : List Rd) (l : List Int) : Bool := allK (settleAt rs l) rs.length
theorem settleAt_some {rs : List Rd} {l : List Int} {k : Nat} {a : Rd} (h : rs[k]? = some a) : settleAt rs l k = (rs.take k).all fun b => !meetAll a b l := by unfold settleAt; rw [h]

theorem settle_any (B : Option Addr) (n' c' : Nat) (rs : List Rd) (A : Option Addr) (n c : Nat) (l : List Int) (w : World) (hr : Rs w B n' rs) (hc' : n' ≤ c') (hg : Is w A n l) (hl : ∀ i ∈ l, 0 ≤ i ∧ i < 6) :
    Calls Tryz.prog 48 #[.slice B n' c', .slice A n c] w fun e w' => e = .returned (.bool (settleB rs l)) ∧ Below w.heap.size w w' := by
  have hn := hr.small
  have Hl : Hid (n' = rs.length) := Lib.hid hr.len
  have HL := Lib.hid hl
  clear hl
  go_enter Tryz.func48, Tryz.ntmps48
  go_wp2
  go_loopw [11] (fun i wr => ∃ (k : Nat) (z : Gr), k ≤ n' ∧ i = .int .i64 k ∧ wr = grow w z ∧ allK (settleAt rs l) k = true) (fun i _ => n' - (intOf i).toNat)
  case atStart => exact ⟨0, ⟨#[], w.drawn⟩, by omega, rfl, by simp [grow], rfl⟩
  case round =>
    obtain ⟨k, z, hk, rfl, rfl, hall⟩ := hrel
    have Hall := Lib.hid hall; clear hall
    by_cases hlt : k < n'
    rotate_left
    · obtain rfl : k = n' := by omega
      go_wp2
      go_ret
      refine ⟨congrArg (fun v => Ending.returned (Value.bool v)) ?_, grow_below w z⟩
      have := Hall.out
      rw [Hl.out] at this
      exact this.symm
    have hkl : k < rs.length := by rw [← Hl.out]; exact hlt
    have Hat := Lib.hid (settleAt_some (l := l) (List.getElem?_eq_getElem hkl))
    have Hno := Lib.hid (fun h => allK_no (settleAt rs l) k h rs.length hkl)
    have Hlen : Hid ((rs.take k).length = k) := Lib.hid (by simp; omega)
    obtain ⟨b, o, rfl, hb, hc⟩ := hr.get k hkl
    obtain ⟨c0, c1, c2, c3, c4, c5⟩ := hc
    have Hr := Lib.hid hr
    clear hr
    generalize rs[k] = a at *
    have e5 : b < w.heap.size + z.blocks.size := by omega
    go_wp2
    generalize hV : World.alloc (grow w z) _ = V
    have HV : Hid (Below w.heap.size w V) := Lib.hid (by subst hV; exact up (grow_below w z) (up_alloc _ _))
    have v1 : b < V.heap.size := by subst hV; simp; omega
    have v2 : w.heap.size + z.blocks.size < V.heap.size := by subst hV; simp
    have cg : ∀ j, V.cell? ⟨w.heap.size + z.blocks.size, j, none⟩ = [Value.int .i64 a.r0, .int .i64 a.r1, .int .i64 a.r2, .int .i64 a.r3, .int .i64 a.r4, .int .i64 a.r5][j]? := by
      subst hV; intro j
      rw [World.cell?_alloc_at _ _ _ _ (by simp)]; simp
    have HR := Lib.hid (Hr.out.keep HV.out)
    have HG := Lib.hid (hg.keep HV.out)
    clear hV c0 c1 c2 c3 c4 c5
    go_loopw [20] (fun j wr => ∃ (q : Nat) (y : Gr), q ≤ k ∧ j = .int .i64 q ∧ wr = grow V y ∧ ((rs.take k).take q).all (fun b => !meetAll a b l) = true) (fun j _ => k - (intOf j).toNat)
    case atStart => exact ⟨0, ⟨#[], V.drawn⟩, by omega, rfl, by simp [grow], rfl⟩
    case round =>
      obtain ⟨q, y, hq, rfl, rfl, hpa⟩ := hrel
      have Hpa := Lib.hid hpa; clear hpa
      have f1 : b < V.heap.size + y.blocks.size := by omega
      have f2 : b < V.heap.size + y.blocks.size + 1 := by omega
      have f3 : w.heap.size + z.blocks.size < V.heap.size + y.blocks.size := by omega
      have f4 : w.heap.size + z.blocks.size < V.heap.size + y.blocks.size + 1 := by omega
      by_cases hqk : q < k
      · have hql : q < (rs.take k).length := by rw [Hlen.out]; exact hqk
        have hql2 : q < rs.length := by omega
        have Hsn : Hid ((rs.take k).take (q + 1) = (rs.take k).take q ++ [rs[q]]) := Lib.hid (by rw [List.take_succ_eq_append_getElem hql]; simp)
        have hmem : rs[q] ∈ rs.take k := by have := List.getElem_mem hql; simpa using this
        obtain ⟨b', o', hbo, hb', hc'2⟩ := HR.out.get q hql2
        obtain ⟨rfl, rfl⟩ : b = b' ∧ o = o' := by simpa using hbo
        generalize rs[q] = x at *
        have Hmem := Lib.hid hmem
        obtain ⟨x0, x1, x2, x3, x4, x5⟩ := hc'2
        clear hmem hbo
        cases hm : meetAll a x l
        · have Hm := Lib.hid hm
          clear hm
          go_wp2_with (go_at_call 50; refine (allMeet_any a x _ _ _ l _ (HG.out.keep (up (grow_below V y) (up_alloc _ _))) HL.out).mono ?_; rintro e x9 ⟨rfl, hb1⟩; rw [Hm.out])
          obtain ⟨y2, hy2⟩ := below_grow (up (grow_below V y) (up (up_alloc _ _) hb1))
          refine ⟨⟨q + 1, y2, by omega, by go_num, hy2, ?_⟩, by simp [intOf]; omega⟩
          rw [Hsn.out, List.all_append, Hpa.out]; simp [Hm.out]
        · have Hm := Lib.hid hm
          clear hm
          go_wp2_with (go_at_call 50; refine (allMeet_any a x _ _ _ l _ (HG.out.keep (up (grow_below V y) (up_alloc _ _))) HL.out).mono ?_; rintro e x9 ⟨rfl, hb1⟩; rw [Hm.out])
          go_ret
          refine ⟨congrArg (fun v => Ending.returned (Value.bool v)) ?_, up HV.out (up (grow_below V y) (up (up_alloc _ _) hb1))⟩
          unfold settleB; rw [Hno.out]; rw [Hat.out, List.all_eq_false]; exact ⟨x, Hmem.out, by rw [Hm.out]; simp⟩
      · obtain rfl : q = k := by omega
        go_wp2
        obtain ⟨y2, hy2⟩ := below_grow (up HV.out (grow_below V y))
        refine ⟨⟨q + 1, y2, by omega, by go_num, hy2, ?_⟩, by simp [intOf]; omega⟩
        show (allK (settleAt rs l) q && settleAt rs l q) = true
        have := Hpa.out
        rw [List.take_of_length_le (by rw [Hlen.out]; exact Nat.le_refl _)] at this
        rw [Hall.out, Hat.out, this]; rfl
end Go.Proofs.YtfhcofljlkihoaaGreatDoor

namespace Go.Proofs.YtfhcofljlkihoaaGreatDoor
open Go.RowKit
set_option maxHeartbeats 400000
set_option maxRecDepth 100000

/-- Cells of rows. -/
def rcells : List Rd → List Value
  | [] => []
  | g :: r => [.int .i64 g.r0, .int .i64 g.r1, .int .i64 g.r2, .int .i64 g.r3, .int .i64 g.r4, .int .i64 g.r5] ++ rcells r
theorem rcells_snoc (l : List Rd) (g : Rd) : rcells (l ++ [g]) = rcells l ++ [.int .i64 g.r0, .int .i64 g.r1, .int .i64 g.r2, .int .i64 g.r3, .int .i64 g.r4, .int .i64 g.r5] := by
  induction l with
  | nil => rfl
  | cons x r ih => simp [rcells, ih]
theorem rcells_len (l : List Rd) : (rcells l).length = l.length * 6 := by
  induction l with
  | nil => rfl
  | cons x r ih => simp [rcells, ih]; omega
theorem rcells_at : ∀ (l : List Rd) (k : Nat) (h : k < l.length), (rcells l)[k * 6]? = some (.int .i64 l[k].r0) ∧ (rcells l)[k * 6 + 1]? = some (.int .i64 l[k].r1) ∧ (rcells l)[k * 6 + 2]? = some (.int .i64 l[k].r2) ∧ (rcells l)[k * 6 + 3]? = some (.int .i64 l[k].r3) ∧ (rcells l)[k * 6 + 4]? = some (.int .i64 l[k].r4) ∧ (rcells l)[k * 6 + 5]? = some (.int .i64 l[k].r5)
  | [], k, h => by simp at h
  | g :: r, 0, h => by simp [rcells]
  | g :: r, k + 1, h => by
    have := rcells_at r k (by simpa using h)
    have e : ∀ j, (rcells (g :: r))[(k + 1) * 6 + j]? = (rcells r)[k * 6 + j]? := fun j => by
      simp only [rcells]
      rw [List.getElem?_append_right (by simp; omega)]
      congr 1; simp; omega
    have e0 := e 0
    simp only [Nat.add_zero] at e0
    rw [e0, e, e, e, e, e]; simpa using this
theorem Rs.of_own {w : World} {base n : Nat} {v : Value} {t : TypeId} {l : List Rd} (h : w.ownsRow base t 6 v n (rcells l)) : ∃ A c, v = .slice A n c ∧ n ≤ c ∧ Rs w A n l := by
  have hl : n = l.length := by have := h.1; rw [rcells_len] at this; omega
  rcases h.2 with ⟨rfl, rfl⟩ | ⟨g, cap, cur, rfl, _, hg, hnc, hcm, hcs, htk⟩
  · exact ⟨none, 0, rfl, Nat.le_refl _, hl, by omega, fun k hk => by omega⟩
  · refine ⟨some ⟨g, 0, none⟩, cap, rfl, hnc, hl, by unfold maxLen at hcm; omega, fun k hk => ⟨g, 0, rfl, (Array.getElem?_eq_some_iff.1 hg).1, ?_⟩⟩
    have ha := rcells_at l k hk
    have key : ∀ j u, (rcells l)[j]? = some u → w.cell? ⟨g, j, none⟩ = some u := fun j u hu => by
      have := h.cells (g := g) rfl j u hu
      rw [Addr.add_lit] at this; simpa using this
    rw [Nat.zero_add]
    exact ⟨key _ _ ha.1, key _ _ ha.2.1, key _ _ ha.2.2.1, key _ _ ha.2.2.2.1, key _ _ ha.2.2.2.2.1, key _ _ ha.2.2.2.2.2⟩

theorem info98 : (Tryz.prog.info? 85).map (fun i => (i.zero, i.size, i.bytes)) = some (some (.agg #[.int .i64 0, .int .i64 0, .int .i64 0, .int .i64 0, .int .i64 0, .int .i64 0]), 6, 48) := by kernel_rfl

/-- The worn signs of a given mark. -/
def rowOf (w0 w1 w2 w3 w4 : Int) (g : Giv) : Rd := ⟨g5 w0 w1 w2 w3 w4 g.m0, g5 w0 w1 w2 w3 w4 g.m1, g5 w0 w1 w2 w3 w4 g.m2, g5 w0 w1 w2 w3 w4 g.m3, g5 w0 w1 w2 w3 w4 g.m4, g5 w0 w1 w2 w3 w4 g.m5⟩
theorem possG_sub {w0 w1 w2 w3 w4 F : Int} {rs : List Rd} {l : List Giv} : ∀ g ∈ possG w0 w1 w2 w3 w4 F rs l, g ∈ l := by
  induction l with
  | nil => intro g h; simp [possG] at h
  | cons x r ih =>
    intro g h
    simp only [possG] at h
    split at h
    · rcases List.mem_cons.1 h with rfl | h
      · exact List.mem_cons_self ..
      · exact List.mem_cons_of_mem _ (ih g h)
    · exact List.mem_cons_of_mem _ (ih g h)
def rowsOf (w0 w1 w2 w3 w4 : Int) (l : List Giv) : List Rd := l.map (rowOf w0 w1 w2 w3 w4)
theorem rowsOf_snoc (w0 w1 w2 w3 w4 : Int) (l : List Giv) (g : Giv) : rowsOf w0 w1 w2 w3 w4 (l ++ [g]) = rowsOf w0 w1 w2 w3 w4 l ++ [rowOf w0 w1 w2 w3 w4 g] := by simp [rowsOf]
theorem rowsOf_len (w0 w1 w2 w3 w4 : Int) (l : List Giv) : (rowsOf w0 w1 w2 w3 w4 l).length = l.length := by simp [rowsOf]

theorem possibleRows_any (w0 w1 w2 w3 w4 F : Int) (A : Option Addr) (n c : Nat) (gs : List Giv) (r : Rd) (w : World) (hg : Gs w A n gs) (hok : ∀ g ∈ gs, g.ok) (h40 : n ≤ 40) :
    Calls Tryz.prog 46 #[.agg #[.int .i64 w0, .int .i64 w1, .int .i64 w2, .int .i64 w3, .int .i64 w4, .int .i64 F, .slice A n c], .agg #[.int .i64 r.r0, .int .i64 r.r1, .int .i64 r.r2, .int .i64 r.r3, .int .i64 r.r4, .int .i64 r.r5]] w fun e w' =>
      ∃ v, e = .returned v ∧ w'.ownsRow w.heap.size 85 6 v (possG w0 w1 w2 w3 w4 F [r] gs).length (rcells (rowsOf w0 w1 w2 w3 w4 (possG w0 w1 w2 w3 w4 F [r] gs))) ∧ Below w.heap.size w w' := by
  have Hl : Hid (n = gs.length) := Lib.hid hg.len
  have hpl : (possG w0 w1 w2 w3 w4 F [r] gs).length ≤ 40 := Nat.le_trans (possG_len w0 w1 w2 w3 w4 F [r] gs) (by have := Hl.out; omega)
  have HK : Hid (∀ g ∈ possG w0 w1 w2 w3 w4 F [r] gs, g.ok) := Lib.hid (fun g h => hok g (possG_sub g h))
  have Hok := Lib.hid hok
  clear hok
  obtain ⟨i0, hi, hz0, hz1, hz2⟩ := info_parts info98
  have HI := Lib.hid hi
  have HZ0 := Lib.hid hz0
  have HZ1 := Lib.hid hz1
  have HZ2 := Lib.hid hz2
  clear hi hz0 hz1 hz2
  go_enter Tryz.func46, Tryz.ntmps46
  go_wp2_with fail
  refine Calls.mono (possibleMarks_any _ _ _ _ _ _ _ _ _ gs _ _ _ [r] _ (hg.keep (up (up_alloc _ _) (up (up_alloc _ _) (up_alloc _ _)))) (rs1 _ r _ _ (by simp)) Hok.out h40) ?_
  rintro e W ⟨v, rfl, hown, hb1⟩
  have HW : Hid (Below w.heap.size w W) := Lib.hid (up (up_alloc _ _) (up (up_alloc _ _) (up (up_alloc _ _) hb1)))
  have hs : w.heap.size + 2 < W.heap.size := by have := hb1.size; simp at this; omega
  have hs0 : w.heap.size < W.heap.size := by omega
  have cm : ∀ j, W.cell? ⟨w.heap.size, j, none⟩ = [Value.int .i64 w0, .int .i64 w1, .int .i64 w2, .int .i64 w3, .int .i64 w4, .int .i64 F, .slice A n c][j]? := fun j =>
    (hb1.cell (p := ⟨w.heap.size, j, none⟩) (by simp; omega)).trans (by simp [go_sem])
  clear hb1
  obtain ⟨A', c', rfl, _, _, hgs⟩ := Gs.of_own hown
  have HG := Lib.hid (hgs (by omega))
  clear hgs hown
  generalize hP : possG w0 w1 w2 w3 w4 F [r] gs = P at *
  have HP := Lib.hid hP
  clear hP
  generalize hnP : P.length = nP at *
  have HnP := Lib.hid hnP
  clear hnP
  go_wp2
  go_loopw [5, 13] (fun v i wr => ∃ (k : Nat) (z : Gr), k ≤ nP ∧ i = .int .i64 k ∧ wr = grow W z ∧ (grow W z).ownsRow W.heap.size 85 6 v k (rcells (rowsOf w0 w1 w2 w3 w4 (P.take k)))) (fun _ i _ => nP - (intOf i).toNat)
  case atStart => exact ⟨0, ⟨#[], W.drawn⟩, by omega, rfl, by simp [grow], World.ownsRow_nil _ _ _ _⟩
  case round =>
    obtain ⟨k, z, hk, rfl, rfl, hown⟩ := hrel
    have Hown := Lib.hid hown; clear hown
    have e1 : w.heap.size < W.heap.size + z.blocks.size := by omega
    have e3 : w.heap.size < W.heap.size + z.blocks.size + 1 := by omega
    by_cases hlt : k < nP
    rotate_left
    · obtain rfl : k = nP := by omega
      go_wp2
      go_ret
      refine ⟨_, rfl, ?_, up HW.out (grow_below W z)⟩
      have := Hown.out
      rw [List.take_of_length_le (by rw [HnP.out]; exact Nat.le_refl _)] at this
      rw [HP.out, HnP.out]
      exact own_mono this (by omega)
    have hkl : k < P.length := by rw [HnP.out]; exact hlt
    have Htk : Hid (rcells (rowsOf w0 w1 w2 w3 w4 (P.take (k + 1))) = rcells (rowsOf w0 w1 w2 w3 w4 (P.take k)) ++ [.int .i64 (g5 w0 w1 w2 w3 w4 P[k].m0), .int .i64 (g5 w0 w1 w2 w3 w4 P[k].m1), .int .i64 (g5 w0 w1 w2 w3 w4 P[k].m2), .int .i64 (g5 w0 w1 w2 w3 w4 P[k].m3), .int .i64 (g5 w0 w1 w2 w3 w4 P[k].m4), .int .i64 (g5 w0 w1 w2 w3 w4 P[k].m5)]) := Lib.hid (by
      rw [List.take_succ_eq_append_getElem hkl, rowsOf_snoc, rcells_snoc]; rfl)
    obtain ⟨b, o, rfl, hb, hc⟩ := HG.out.get k hkl
    obtain ⟨c0, c1, c2, c3, c4, c5, c6⟩ := hc
    obtain ⟨⟨p0, q0⟩, ⟨p1, q1⟩, ⟨p2, q2⟩, ⟨p3, q3⟩, ⟨p4, q4⟩, ⟨p5, q5⟩⟩ := HK.out _ (List.getElem_mem hkl)
    generalize P[k] = g at *
    generalize rcells (rowsOf w0 w1 w2 w3 w4 (P.take k)) = X at *
    have e5 : b < W.heap.size + z.blocks.size := by omega
    go_wp2_with (first
      | (go_at_call 51; refine (wornRow_any _ _ _ _ _ _ _ _ _ _ _ _ (by assumption) (by assumption) (by assumption) (by assumption) (by assumption) (by assumption) (by assumption) (by assumption) (by assumption) (by assumption) (by assumption) (by assumption)).mono ?_; rintro e x1 ⟨rfl, hb1⟩; have HV := Lib.hid (up (grow_below W z) (up (up_alloc _ _) hb1)); have Ho := Lib.hid (own_below Hown.out (up (up_alloc _ _) hb1)); clear hb1)
      | (at_builtin; refine wpList_append_own _ rfl _ _ 76 rfl W.heap.size 85 i0 (.agg #[.int .i64 0, .int .i64 0, .int .i64 0, .int .i64 0, .int .i64 0, .int .i64 0]) 6 48 Tryz.underlying76 HI.out HZ0.out HZ1.out HZ2.out rfl (by decide) _ _ _ rfl (Ho.out.alloc _) ⟨x1.heap.size, 0, none⟩ 1 1 [.int .i64 (g5 w0 w1 w2 w3 w4 g.m0), .int .i64 (g5 w0 w1 w2 w3 w4 g.m1), .int .i64 (g5 w0 w1 w2 w3 w4 g.m2), .int .i64 (g5 w0 w1 w2 w3 w4 g.m3), .int .i64 (g5 w0 w1 w2 w3 w4 g.m4), .int .i64 (g5 w0 w1 w2 w3 w4 g.m5)] rfl rfl ?c1 ?c2 ?c3 ?c4 ?c5 ?_))
    case c1 =>
      intro j u hu
      rw [Addr.add_lit, World.cell?_alloc_at _ _ _ _ (by simp), Nat.zero_add]
      simpa using hu
    case c2 => intro u hu; simp at hu; rcases hu with rfl | rfl | rfl | rfl | rfl | rfl <;> rfl
    case c3 => unfold maxLen; omega
    case c4 => omega
    case c5 => have := HV.out.size; simp; omega
    intro v' w' hown' hgr _
    have hbel : Below W.heap.size W w' := (up HV.out (up_alloc _ _)).grown hgr (by have := HV.out.size; simp; omega) (fun q hq => (Ho.out.lt q hq).1)
    have Hown' := Lib.hid hown'
    clear hown' hgr
    obtain ⟨y3, rfl⟩ := below_grow hbel
    go_wp2
    refine ⟨⟨k + 1, y3, by omega, by go_num, rfl, ?_⟩, by simp [intOf]; omega⟩
    rw [Htk.out]
    exact Hown'.out
end Go.Proofs.YtfhcofljlkihoaaGreatDoor

namespace Go.Proofs.YtfhcofljlkihoaaGreatDoor
open Go.RowKit
set_option maxHeartbeats 400000
set_option maxRecDepth 100000

theorem err_0 {b : Bool} {n : Int} (hn : n ≠ 0) (h : err b n = 0) : b = true := by
  cases b
  · exact absurd ((err_f n (by simp)).symm.trans h) hn
  · rfl
theorem firstE_cons (x : Int) (r : List Int) : firstE (x :: r) = if x = 0 then firstE r else x := by
  by_cases h : x = 0
  · rw [if_pos h, firstE_no _ (by simp [h])]
  · rw [if_neg h, firstE_yes _ (by simpa using h)]
theorem firstE3_0 {a b c : Int} (h : firstE [a, b, c] = 0) : a = 0 ∧ b = 0 ∧ c = 0 := by
  rw [firstE_cons, firstE_cons, firstE_cons] at h
  by_cases h1 : a = 0
  · by_cases h2 : b = 0
    · by_cases h3 : c = 0
      · exact ⟨h1, h2, h3⟩
      · simp [h1, h2, h3] at h
    · simp [h1, h2] at h
  · simp [h1] at h
theorem firstE2_0 {a b : Int} (h : firstE [a, b] = 0) : a = 0 ∧ b = 0 := by
  rw [firstE_cons, firstE_cons] at h
  by_cases h1 : a = 0
  · by_cases h2 : b = 0
    · exact ⟨h1, h2⟩
    · simp [h1, h2] at h
  · simp [h1] at h

/-- The error, and the distance where there is none. -/
def distE (w0 w1 w2 w3 w4 a0 a1 a2 a3 a4 a5 b0 b1 b2 b3 b4 b5 : Int) : Int := firstE [err (okW w0 w1 w2 w3 w4) 11, err (okM a0 a1 a2 a3 a4 a5) 10, err (okM b0 b1 b2 b3 b4 b5) 10]
def distV (w0 w1 w2 w3 w4 a0 a1 a2 a3 a4 a5 b0 b1 b2 b3 b4 b5 : Int) : Int := if distE w0 w1 w2 w3 w4 a0 a1 a2 a3 a4 a5 b0 b1 b2 b3 b4 b5 = 0 then wdist w0 w1 w2 w3 w4 a0 a1 a2 a3 a4 a5 b0 b1 b2 b3 b4 b5 else 0

theorem distance_any (w0 w1 w2 w3 w4 a0 a1 a2 a3 a4 a5 b0 b1 b2 b3 b4 b5 : Int) (w : World) :
    Calls Tryz.prog 24 #[.agg #[.int .i64 w0, .int .i64 w1, .int .i64 w2, .int .i64 w3, .int .i64 w4], .agg #[.int .i64 a0, .int .i64 a1, .int .i64 a2, .int .i64 a3, .int .i64 a4, .int .i64 a5], .agg #[.int .i64 b0, .int .i64 b1, .int .i64 b2, .int .i64 b3, .int .i64 b4, .int .i64 b5]] w fun e w' => e = .returned (.tuple #[.int .i64 (distV w0 w1 w2 w3 w4 a0 a1 a2 a3 a4 a5 b0 b1 b2 b3 b4 b5), .int .i64 (distE w0 w1 w2 w3 w4 a0 a1 a2 a3 a4 a5 b0 b1 b2 b3 b4 b5)]) ∧ Below w.heap.size w w' := by
  go_enter Tryz.func24, Tryz.ntmps24
  go_wp2_with fail
  generalize hW : (World.alloc _ _) = W
  have HW : Hid (Below w.heap.size w W) := Lib.hid (by subst hW; go_grown)
  have hs : w.heap.size + 2 < W.heap.size := by subst hW; simp
  have hs1 : w.heap.size + 1 < W.heap.size := by omega
  have hs0 : w.heap.size < W.heap.size := by omega
  have cw : ∀ j, W.cell? ⟨w.heap.size, j, none⟩ = [Value.int .i64 w0, Value.int .i64 w1, Value.int .i64 w2, Value.int .i64 w3, Value.int .i64 w4][j]? := by subst hW; intro j; simp [go_sem]
  have ca : ∀ j, W.cell? ⟨w.heap.size + 1, j, none⟩ = [Value.int .i64 a0, Value.int .i64 a1, Value.int .i64 a2, Value.int .i64 a3, Value.int .i64 a4, Value.int .i64 a5][j]? := by subst hW; intro j; simp [go_sem]
  have cb : ∀ j, W.cell? ⟨w.heap.size + 1 + 1, j, none⟩ = [Value.int .i64 b0, Value.int .i64 b1, Value.int .i64 b2, Value.int .i64 b3, Value.int .i64 b4, Value.int .i64 b5][j]? := by subst hW; intro j; simp [go_sem]
  clear hW
  refine wp_region_grow_tail 6 (by kernel_rfl) (by kernel_rfl) ?_
  simp only [List.take_succ_cons, List.take_zero, List.drop_succ_cons, List.drop_zero]
  repeat (go_big_quiet_step ((first | (go_at_call 27; exact quiet_grow rfl (checkWear_any _ _ _ _ _ _)) | (go_at_call 30; exact quiet_grow rfl (checkMark_any _ _ _ _ _ _ _)))))
  refine wpQuiet_nil ?_
  intro z
  have e1 : w.heap.size < W.heap.size + z.blocks.size := by omega
  have e2 : w.heap.size + 1 < W.heap.size + z.blocks.size := by omega
  have e3 : w.heap.size + 1 + 1 < W.heap.size + z.blocks.size := by omega
  have e4 : w.heap.size + 1 + 1 < W.heap.size := by omega
  by_cases hE : distE w0 w1 w2 w3 w4 a0 a1 a2 a3 a4 a5 b0 b1 b2 b3 b4 b5 = 0
  · have HE := Lib.hid hE
    have hE1 := hE
    unfold distE at hE1
    obtain ⟨o1, o2, o3⟩ := firstE3_0 hE1
    have m2 := (okM_iff _ _ _ _ _ _).1 (err_0 (by decide) o2)
    have m3 := (okM_iff _ _ _ _ _ _).1 (err_0 (by decide) o3)
    clear o1 o2 o3
    obtain ⟨⟨p0, q0⟩, ⟨p1, q1⟩, ⟨p2, q2⟩, ⟨p3, q3⟩, ⟨p4, q4⟩, ⟨p5, q5⟩⟩ := m2
    obtain ⟨⟨r0, s0⟩, ⟨r1, s1⟩, ⟨r2, s2⟩, ⟨r3, s3⟩, ⟨r4, s4⟩, ⟨r5, s5⟩⟩ := m3
    have HE1 := Lib.hid hE1
    clear hE hE1
    go_wp2_with (go_at_call 42; refine (first_any _ _ _ _ _ (is3 _ _ _ _ _ _ (by simp))).mono ?_; rintro e x1 ⟨rfl, rfl⟩; rw [HE1.out])
    refine wp_region_grow (by kernel_rfl) (by kernel_rfl) ?_
    repeat (go_big_quiet_step ((first | (go_at_call 51; exact quiet_grow rfl (wornRow_any _ _ _ _ _ _ _ _ _ _ _ _ (by assumption) (by assumption) (by assumption) (by assumption) (by assumption) (by assumption) (by assumption) (by assumption) (by assumption) (by assumption) (by assumption) (by assumption))) | (go_at_call 55; exact quiet_grow rfl (false_any _ _ _ _ _ _ _ _ _ _ _ _ _)))))
    refine wpQuiet_nil ?_
    intro z2
    go_wp2
    go_ret2
    refine ⟨ret_ii ?_ HE.out.symm, up HW.out (up (grow_below W z) (up (up_alloc _ _) (grow_below _ z2)))⟩
    unfold distV; rw [if_pos HE.out]; rfl
  · have HE := Lib.hid hE
    have hb : (distE w0 w1 w2 w3 w4 a0 a1 a2 a3 a4 a5 b0 b1 b2 b3 b4 b5 != 0) = true := by simpa using hE
    clear hE
    go_wp2_with (go_at_call 42; refine (first_any _ _ _ _ _ (is3 _ _ _ _ _ _ (by simp))).mono ?_; rintro e x1 ⟨rfl, rfl⟩; rw [show firstE [err (okW w0 w1 w2 w3 w4) 11, err (okM a0 a1 a2 a3 a4 a5) 10, err (okM b0 b1 b2 b3 b4 b5) 10] = distE w0 w1 w2 w3 w4 a0 a1 a2 a3 a4 a5 b0 b1 b2 b3 b4 b5 from rfl])
    go_ret2
    refine ⟨ret_ii ?_ rfl, up HW.out (up (grow_below W z) (up_alloc _ _))⟩
    unfold distV; rw [if_neg HE.out]

theorem tmod_neg_add {a n : Int} (hn : 0 < n) (h : a.tmod n < 0) : a.tmod n + n = a % n := by
  rw [Int.tmod_eq_emod] at *
  have := Int.emod_nonneg a (by omega : n ≠ 0)
  have := Int.emod_lt_of_pos a hn
  split at h
  · omega
  · rw [if_neg (by assumption)]; omega
theorem tmod_pos_eq {a n : Int} (hn : 0 < n) (h : ¬ a.tmod n < 0) : a.tmod n = a % n := by
  rw [Int.tmod_eq_emod] at *
  have := Int.emod_nonneg a (by omega : n ≠ 0)
  have := Int.emod_lt_of_pos a hn
  split at h
  · rw [if_pos (by assumption)]; omega
  · omega

theorem modulo_any (a n : Int) (w : World) (hn : 0 < n) (hn2 : n ≤ 1000) :
    Calls Tryz.prog 58 #[.int .i64 a, .int .i64 n] w fun e w' => e = .returned (.int .i64 (a % n)) ∧ w = w' := by
  have hb : (n == 0) = false := by simp; omega
  have h1 : n ≠ 0 := by omega
  have b1 := Int.tmod_lt_of_pos a hn
  have b2 : -n < a.tmod n := by
    rw [Int.tmod_eq_emod]
    have := Int.emod_nonneg a (by omega : n ≠ 0)
    split <;> omega
  by_cases h : a.tmod n < 0
  · have H := Lib.hid (tmod_neg_add hn h)
    go_enter Tryz.func58, Tryz.ntmps58
    go_wp2
    go_ret
    exact ⟨congrArg (fun v => Ending.returned (Value.int .i64 v)) H.out, rfl⟩
  · have H := Lib.hid (tmod_pos_eq hn h)
    go_enter Tryz.func58, Tryz.ntmps58
    go_wp2
    go_ret
    exact ⟨congrArg (fun v => Ending.returned (Value.int .i64 v)) H.out, rfl⟩

/-- The choice with an index. -/
def pickL (l : List Int) (k : Nat) : Int := l.getD (k % l.length) 0
theorem pickAt_any (A : Option Addr) (n c : Nat) (l : List Int) (k : Nat) (w : World) (hg : Is w A n l) (hk : k < 9223372036854775807) :
    Calls Tryz.prog 59 #[.slice A n c, .int .i64 k] w fun e w' => e = .returned (.int .i64 (pickL l k)) ∧ w = w' := by
  have hn := hg.small
  have Hl : Hid (n = l.length) := Lib.hid hg.len
  by_cases h0 : n = 0
  · have hb : ((n : Int) == 0) = true := by simp [h0]
    have H0 := Lib.hid h0
    clear h0
    go_enter Tryz.func59, Tryz.ntmps59
    go_wp2
    go_ret
    refine ⟨congrArg (fun v => Ending.returned (Value.int .i64 v)) ?_, rfl⟩
    have : l = [] := List.eq_nil_of_length_eq_zero (by rw [← Hl.out]; exact H0.out)
    rw [this]; rfl
  · have hb : ((n : Int) == 0) = false := by simp [h0]
    have hlt : k % n < n := Nat.mod_lt _ (by omega)
    have hkl : k % n < l.length := by rw [← Hl.out]; exact hlt
    obtain ⟨b, o, rfl, hbl, hc⟩ := hg.get (k % n) hkl
    have Hv : Hid (pickL l k = l[k % n]) := Lib.hid (by unfold pickL; rw [← Hl.out]; simp [hkl])
    generalize l[k % n] = y at *
    have hm : ((k : Int)).tmod (n : Int) = ((k % n : Nat) : Int) := by rw [Int.tmod_eq_emod_of_nonneg (by omega)]; rfl
    generalize hq : k % n = q at *
    have Hq := Lib.hid hq
    clear hq
    go_enter Tryz.func59, Tryz.ntmps59
    go_wp2
    go_ret
    exact ⟨by rw [Hv.out]; rfl, rfl⟩
end Go.Proofs.YtfhcofljlkihoaaGreatDoor

namespace Go.Proofs.YtfhcofljlkihoaaGreatDoor
open Go.RowKit
set_option maxHeartbeats 400000
set_option maxRecDepth 100000

/-- The signs of a set below k, rising. -/
def sgK (a : Int) : Nat → List Int
  | 0 => []
  | k + 1 => if hasB a k = true then sgK a k ++ [(k : Int)] else sgK a k
theorem sgK_len (a : Int) (k : Nat) : (sgK a k).length ≤ k := by
  induction k with
  | zero => exact Nat.le_refl _
  | succ k ih =>
    unfold sgK
    split
    · simp; omega
    · omega
theorem sgK_in (a : Int) (k : Nat) : ∀ x ∈ sgK a k, 0 ≤ x ∧ x < k := by
  induction k with
  | zero => intro x hx; simp [sgK] at hx
  | succ k ih =>
    intro x hx
    unfold sgK at hx
    split at hx
    · rcases List.mem_append.1 hx with h | h
      · have := ih x h; omega
      · simp at h; omega
    · have := ih x hx; omega

theorem list_any (a : Int) (w : World) :
    Calls Tryz.prog 56 #[.int .i64 a] w fun e w' => ∃ v, e = .returned v ∧ w'.ownsRow w.heap.size 3 1 v (sgK a 5).length (ints (sgK a 5)) ∧ Below w.heap.size w w' := by
  obtain ⟨i0, hi, hz0, hz1, hz2⟩ := info_parts info3
  have HI := Lib.hid hi
  have HZ0 := Lib.hid hz0
  have HZ1 := Lib.hid hz1
  have HZ2 := Lib.hid hz2
  clear hi hz0 hz1 hz2
  go_enter Tryz.func56, Tryz.ntmps56
  go_wp2
  go_loopw [3, 5] (fun v i wr => ∃ (k : Nat) (z : Gr), k ≤ 5 ∧ i = .int .i64 k ∧ wr = grow w z ∧ (grow w z).ownsRow w.heap.size 3 1 v (sgK a k).length (ints (sgK a k))) (fun _ i _ => 5 - (intOf i).toNat)
  case atStart => exact ⟨0, ⟨#[], w.drawn⟩, by omega, rfl, by simp [grow], World.ownsRow_nil _ _ _ _⟩
  case round =>
    obtain ⟨k, z, hk, rfl, rfl, hown⟩ := hrel
    have Hown := Lib.hid hown; clear hown
    by_cases hlt : k < 5
    · have hln := sgK_len a k
      have Hy : Hid (hasB a k = true → sgK a (k + 1) = sgK a k ++ [(k : Int)]) := Lib.hid (fun h => by rw [sgK, if_pos h])
      have Hn : Hid (hasB a k = false → sgK a (k + 1) = sgK a k) := Lib.hid (fun h => by rw [sgK, if_neg (by rw [h]; simp)])
      have hkt : ((k : Int)).toNat = k := by simp
      generalize hX : sgK a k = X at *
      have HX := Lib.hid hX
      clear hX
      generalize hnX : X.length = nX at *
      have HnX := Lib.hid hnX
      clear hnX
      cases hh : hasB a k
      · have Hh := Lib.hid hh
        clear hh
        go_wp2_with (go_at_call 61; refine (has_any _ _ _ (by omega) (by omega)).mono ?_; rintro e x1 ⟨rfl, rfl⟩; rw [show (band a (2 ^ (k : Int).toNat) != 0) = false from Hh.out])
        refine ⟨⟨k + 1, z, by omega, by go_num, rfl, ?_⟩, by simp [intOf]; omega⟩
        rw [Hn.out Hh.out, HnX.out]; exact Hown.out
      · have Hh := Lib.hid hh
        clear hh
        go_wp2_with (first
          | (go_at_call 61; refine (has_any _ _ _ (by omega) (by omega)).mono ?_; rintro e x1 ⟨rfl, rfl⟩; rw [show (band a (2 ^ (k : Int).toNat) != 0) = true from Hh.out])
          | (at_builtin; refine wpList_append_own _ rfl _ _ 37 rfl w.heap.size 3 i0 (.int .i64 0) 1 8 Tryz.underlying37 HI.out HZ0.out HZ1.out HZ2.out rfl (by decide) _ _ _ rfl (Hown.out.alloc _) ⟨w.heap.size + z.blocks.size, 0, none⟩ 1 1 [.int .i64 k] rfl rfl ?c1 ?c2 ?c3 ?c4 ?c5 ?_))
        case c1 =>
          intro j u hu
          rw [Addr.add_lit, World.cell?_alloc_at _ _ _ _ (by simp), Nat.zero_add]
          simpa using hu
        case c2 => intro u hu; simp at hu; subst hu; rfl
        case c3 => unfold maxLen; omega
        case c4 => omega
        case c5 => simp; omega
        intro v' w' hown' hgr _
        have hbel : Below w.heap.size w w' := (up (grow_below w z) (up_alloc _ _)).grown hgr (by simp; omega) (fun q hq => (Hown.out.lt q hq).1)
        have Hown' := Lib.hid hown'
        clear hown' hgr
        obtain ⟨y3, rfl⟩ := below_grow hbel
        go_wp2
        refine ⟨⟨k + 1, y3, by omega, by go_num, rfl, ?_⟩, by simp [intOf]; omega⟩
        rw [Hy.out Hh.out, ints_snoc, List.length_append, HnX.out]
        exact Hown'.out
    · obtain rfl : k = 5 := by omega
      go_wp2
      go_ret
      exact ⟨_, rfl, Hown.out, grow_below w z⟩

/-- What is read of a set, by a number. -/
def pickS (a p : Int) : Int := 2 ^ ((sgK a 5).getD (p % ((sgK a 5).length : Int)).toNat 0).toNat
theorem sgK_ne {a : Int} {k n : Nat} (h : hasB a k = true) (hk : k < n) : 0 < (sgK a n).length := by
  induction n with
  | zero => omega
  | succ n ih =>
    unfold sgK
    by_cases e : k = n
    · subst e; rw [if_pos h]; simp
    · have := ih (by omega)
      split
      · simp
      · exact this
/-- A sign of a valid mark has worn signs. -/
theorem worn_ne {w0 w1 w2 w3 w4 : Int} (h : okW w0 w1 w2 w3 w4 = true) {s : Int} (h0 : 0 ≤ s) (h1 : s < 5) : 0 < (sgK (g5 w0 w1 w2 w3 w4 s) 5).length := by
  simp only [okW, wrB, Bool.and_eq_true, decide_eq_true_eq] at h
  obtain ⟨⟨⟨⟨⟨⟨a0, b0⟩, c0⟩, ⟨a1, b1⟩, c1⟩, ⟨a2, b2⟩, c2⟩, ⟨a3, b3⟩, c3⟩, ⟨a4, b4⟩, c4⟩ := h
  rcases (by omega : s = 0 ∨ s = 1 ∨ s = 2 ∨ s = 3 ∨ s = 4) with rfl | rfl | rfl | rfl | rfl
  · exact sgK_ne c0 (by decide)
  · exact sgK_ne c1 (by decide)
  · exact sgK_ne c2 (by decide)
  · exact sgK_ne c3 (by decide)
  · exact sgK_ne c4 (by decide)

/-- The error of Worn, and what is read at a place. -/
def wornE (w0 w1 w2 w3 w4 m0 m1 m2 m3 m4 m5 : Int) : Int := firstE [err (okW w0 w1 w2 w3 w4) 11, err (okM m0 m1 m2 m3 m4 m5) 10]
def wornAt (w0 w1 w2 w3 w4 m0 m1 m2 m3 m4 m5 : Int) (l : List Int) (k : Nat) : Int := pickS (g5 w0 w1 w2 w3 w4 (g6 m0 m1 m2 m3 m4 m5 k)) (pickL l k)
def wornV (w0 w1 w2 w3 w4 m0 m1 m2 m3 m4 m5 : Int) (l : List Int) (k : Nat) : Int := if wornE w0 w1 w2 w3 w4 m0 m1 m2 m3 m4 m5 = 0 then wornAt w0 w1 w2 w3 w4 m0 m1 m2 m3 m4 m5 l k else 0

/-- A box of six that is being filled. -/
structure RBox (wr : World) (N : Nat) (f : Nat → Int) (k : Nat) : Prop where
  lt : N < wr.heap.size
  cell : ∀ j, j < 6 → wr.cell? ⟨N, j, none⟩ = some (.int .i64 (if j < k then f j else 0))
  fro : ∀ j, wr.frozen? ⟨N, j, none⟩ = false
theorem RBox.keep {wr w' : World} {N : Nat} {f : Nat → Int} {k : Nat} (h : RBox wr N f k) (hb : Below wr.heap.size wr w') : RBox w' N f k :=
  ⟨by have := hb.size; have := h.lt; omega, fun j hj => (hb.cell (p := ⟨N, j, none⟩) h.lt).trans (h.cell j hj), fun j => (hb.frozen (p := ⟨N, j, none⟩) h.lt).trans (h.fro j)⟩
theorem RBox.put {wr : World} {N : Nat} {f : Nat → Int} {k : Nat} (h : RBox wr N f k) (hk : k < 6) : RBox (wr.setCell ⟨N, k, none⟩ (.int .i64 (f k))) N f (k + 1) := by
  refine ⟨by simpa [World.setCell] using h.lt, fun j hj => ?_, fun j => by rw [World.frozen?_setCell]; exact h.fro j⟩
  by_cases e : j = k
  · subst e; rw [World.cell?_setCell_same' _ _ _ (by rw [h.cell j hj]; rfl), if_pos (by omega)]
  · rw [World.cell?_setCell_other _ _ _ _ (by intro h; injection h with _ h2; exact e h2.symm), h.cell j hj]
    by_cases e2 : j < k
    · rw [if_pos e2, if_pos (by omega)]
    · rw [if_neg e2, if_neg (by omega)]

theorem Is.keep2 {w w' : World} {A : Option Addr} {n : Nat} {l : List Int} (h : Is w A n l) (hb : Below w.heap.size w w') : Is w' A n l := h.keep hb
theorem worn_any (w0 w1 w2 w3 w4 m0 m1 m2 m3 m4 m5 : Int) (A : Option Addr) (n c : Nat) (l : List Int) (w : World) (hg : Is w A n l) :
    Calls Tryz.prog 25 #[.agg #[.int .i64 w0, .int .i64 w1, .int .i64 w2, .int .i64 w3, .int .i64 w4], .agg #[.int .i64 m0, .int .i64 m1, .int .i64 m2, .int .i64 m3, .int .i64 m4, .int .i64 m5], .slice A n c] w fun e w' => e = .returned (.tuple #[.agg #[.int .i64 (wornV w0 w1 w2 w3 w4 m0 m1 m2 m3 m4 m5 l 0), .int .i64 (wornV w0 w1 w2 w3 w4 m0 m1 m2 m3 m4 m5 l 1), .int .i64 (wornV w0 w1 w2 w3 w4 m0 m1 m2 m3 m4 m5 l 2), .int .i64 (wornV w0 w1 w2 w3 w4 m0 m1 m2 m3 m4 m5 l 3), .int .i64 (wornV w0 w1 w2 w3 w4 m0 m1 m2 m3 m4 m5 l 4), .int .i64 (wornV w0 w1 w2 w3 w4 m0 m1 m2 m3 m4 m5 l 5)], .int .i64 (wornE w0 w1 w2 w3 w4 m0 m1 m2 m3 m4 m5)]) ∧ Below w.heap.size w w' := by
  go_enter Tryz.func25, Tryz.ntmps25
  go_wp2_with fail
  generalize hW : (World.alloc _ _) = W
  have HW : Hid (Below w.heap.size w W) := Lib.hid (by subst hW; go_grown)
  have hs : w.heap.size + 2 < W.heap.size := by subst hW; simp
  have hs1 : w.heap.size + 1 < W.heap.size := by omega
  have hs0 : w.heap.size < W.heap.size := by omega
  have cw : ∀ j, W.cell? ⟨w.heap.size, j, none⟩ = [Value.int .i64 w0, Value.int .i64 w1, Value.int .i64 w2, Value.int .i64 w3, Value.int .i64 w4][j]? := by subst hW; intro j; simp [go_sem]
  have ca : ∀ j, W.cell? ⟨w.heap.size + 1, j, none⟩ = [Value.int .i64 m0, Value.int .i64 m1, Value.int .i64 m2, Value.int .i64 m3, Value.int .i64 m4, Value.int .i64 m5][j]? := by subst hW; intro j; simp [go_sem]
  have Cr : Hid (∀ j, W.cell? ⟨w.heap.size + 1 + 1, j, none⟩ = [Value.int .i64 0, .int .i64 0, .int .i64 0, .int .i64 0, .int .i64 0, .int .i64 0][j]?) := Lib.hid (by subst hW; intro j; simp [go_sem])
  have fr : ∀ j, W.frozen? ⟨w.heap.size + 1 + 1, j, none⟩ = false := by subst hW; intro j; simp [go_sem]
  clear hW
  refine wp_region_grow_tail 4 (by kernel_rfl) (by kernel_rfl) ?_
  simp only [List.take_succ_cons, List.take_zero, List.drop_succ_cons, List.drop_zero]
  repeat (go_big_quiet_step ((first | (go_at_call 27; exact quiet_grow rfl (checkWear_any _ _ _ _ _ _)) | (go_at_call 30; exact quiet_grow rfl (checkMark_any _ _ _ _ _ _ _)))))
  refine wpQuiet_nil ?_
  intro z
  have e1 : w.heap.size < W.heap.size + z.blocks.size := by omega
  have e2 : w.heap.size + 1 < W.heap.size + z.blocks.size := by omega
  have e3 : w.heap.size + 1 + 1 < W.heap.size + z.blocks.size := by omega
  have e4 : w.heap.size + 1 + 1 < W.heap.size := by omega
  go_wp2_with fail
  refine Calls.mono (first_any _ _ _ _ _ (is2 _ _ _ _ _ (by simp))) ?_
  rintro e x1 ⟨rfl, rfl⟩
  rw [show firstE [err (okW w0 w1 w2 w3 w4) 11, err (okM m0 m1 m2 m3 m4 m5) 10] = wornE w0 w1 w2 w3 w4 m0 m1 m2 m3 m4 m5 from rfl]
  generalize hV : World.alloc (grow W z) _ = V
  have HV : Hid (Below W.heap.size W V) := Lib.hid (by subst hV; exact up (grow_below W z) (up_alloc _ _))
  clear hV
  have v4 : w.heap.size + 1 + 1 < V.heap.size := by have := HV.out.size; omega
  have v3 : w.heap.size + 1 < V.heap.size := by omega
  have v2 : w.heap.size < V.heap.size := by omega
  have cw2 : ∀ j, V.cell? ⟨w.heap.size, j, none⟩ = [Value.int .i64 w0, Value.int .i64 w1, Value.int .i64 w2, Value.int .i64 w3, Value.int .i64 w4][j]? := fun j => (HV.out.cell (p := ⟨w.heap.size, j, none⟩) hs0).trans (cw j)
  have ca2 : ∀ j, V.cell? ⟨w.heap.size + 1, j, none⟩ = [Value.int .i64 m0, Value.int .i64 m1, Value.int .i64 m2, Value.int .i64 m3, Value.int .i64 m4, Value.int .i64 m5][j]? := fun j => (HV.out.cell (p := ⟨w.heap.size + 1, j, none⟩) hs1).trans (ca j)
  have cr2 : ∀ j, V.cell? ⟨w.heap.size + 1 + 1, j, none⟩ = [Value.int .i64 0, .int .i64 0, .int .i64 0, .int .i64 0, .int .i64 0, .int .i64 0][j]? := fun j => (HV.out.cell (p := ⟨w.heap.size + 1 + 1, j, none⟩) e4).trans (Cr.out j)
  have fr2 : ∀ j, V.frozen? ⟨w.heap.size + 1 + 1, j, none⟩ = false := fun j => (HV.out.frozen (p := ⟨w.heap.size + 1 + 1, j, none⟩) e4).trans (fr j)
  have hgV := Lib.hid (hg.keep (up HW.out HV.out))
  clear cw ca fr e1 e2 e3
  by_cases hE : wornE w0 w1 w2 w3 w4 m0 m1 m2 m3 m4 m5 = 0
  rotate_left
  · have HE := Lib.hid hE
    have hb : (wornE w0 w1 w2 w3 w4 m0 m1 m2 m3 m4 m5 != 0) = true := by simpa using hE
    have Hv : Hid (∀ k, wornV w0 w1 w2 w3 w4 m0 m1 m2 m3 m4 m5 l k = 0) := Lib.hid (fun k => by unfold wornV; rw [if_neg hE])
    have Ex : Hid (∀ j, j < 6 → (V.cell? ⟨w.heap.size + 1 + 1, j, none⟩).isSome = true) := Lib.hid (by
      intro j hj
      rw [cr2 j]
      rcases (by omega : j = 0 ∨ j = 1 ∨ j = 2 ∨ j = 3 ∨ j = 4 ∨ j = 5) with rfl | rfl | rfl | rfl | rfl | rfl <;> rfl)
    clear hE
    go_wp2
    have P := put6 V (w.heap.size + 1 + 1) (.int .i64 0) (.int .i64 0) (.int .i64 0) (.int .i64 0) (.int .i64 0) (.int .i64 0) Ex.out
    have B := put6_below (up HW.out HV.out) (by omega : w.heap.size ≤ w.heap.size + 1 + 1) (.int .i64 0) (.int .i64 0) (.int .i64 0) (.int .i64 0) (.int .i64 0) (.int .i64 0)
    generalize World.setCell _ ⟨w.heap.size + 1 + 1, 5, none⟩ _ = U at P B ⊢
    have p0 := P 0 (by omega); have p1 := P 1 (by omega); have p2 := P 2 (by omega); have p3 := P 3 (by omega); have p4 := P 4 (by omega); have p5 := P 5 (by omega)
    clear P
    simp at p0 p1 p2 p3 p4 p5
    refine bodyPost_ret (v := .tuple #[.agg #[.int .i64 0, .int .i64 0, .int .i64 0, .int .i64 0, .int .i64 0, .int .i64 0], .int .i64 (wornE w0 w1 w2 w3 w4 m0 m1 m2 m3 m4 m5)]) (by simp [results, Tryz.results25, go_sem, p0, p1, p2, p3, p4, p5]) rfl ⟨by rw [Hv.out, Hv.out, Hv.out, Hv.out, Hv.out, Hv.out], B⟩
  have HE := Lib.hid hE
  have hE1 := hE
  unfold wornE at hE1
  obtain ⟨o1, o2⟩ := firstE2_0 hE1
  have ow := err_0 (by decide) o1
  have m2 := (okM_iff _ _ _ _ _ _).1 (err_0 (by decide) o2)
  clear o1 o2 hE1
  obtain ⟨⟨p0, q0⟩, ⟨p1, q1⟩, ⟨p2, q2⟩, ⟨p3, q3⟩, ⟨p4, q4⟩, ⟨p5, q5⟩⟩ := m2
  have Ow := Lib.hid ow
  clear ow
  rw [hE]
  clear hE
  go_wp2_with (go_at_call 51; refine (wornRow_any _ _ _ _ _ _ _ _ _ _ _ _ (by assumption) (by assumption) (by assumption) (by assumption) (by assumption) (by assumption) (by assumption) (by assumption) (by assumption) (by assumption) (by assumption) (by assumption)).mono ?_; rintro e x2 ⟨rfl, hb2⟩)
  have HB2 := Lib.hid ((show Below V.heap.size V _ from up_alloc _ _).trans (hb2.mono (by simp)))
  have Hbx : Hid (RBox x2 V.heap.size (wornAt w0 w1 w2 w3 w4 m0 m1 m2 m3 m4 m5 l) 0) := Lib.hid (RBox.keep ⟨by simp, fun j hj => by
    rw [World.cell?_alloc_at _ _ _ _ rfl, if_neg (by omega)]
    rcases (by omega : j = 0 ∨ j = 1 ∨ j = 2 ∨ j = 3 ∨ j = 4 ∨ j = 5) with rfl | rfl | rfl | rfl | rfl | rfl <;> rfl, fun j => World.frozen?_alloc_at _ _ _ _ rfl⟩ hb2)
  have HgV := hgV
  clear hb2
  go_loopw [26] (fun i wr => ∃ (k : Nat), k ≤ 6 ∧ i = .int .i64 k ∧ Below V.heap.size V wr ∧ RBox wr V.heap.size (wornAt w0 w1 w2 w3 w4 m0 m1 m2 m3 m4 m5 l) k) (fun i _ => 6 - (intOf i).toNat)
  case atStart => exact ⟨0, by omega, rfl, HB2.out, Hbx.out⟩
  case round =>
    obtain ⟨k, hk, rfl, hbw, hbx⟩ := hrel
    have Hbw := Lib.hid hbw
    have Hbx2 := Lib.hid hbx
    clear hbw hbx
    by_cases hlt : k < 6
    · have hget : (#[Value.int .i64 (g5 w0 w1 w2 w3 w4 m0), .int .i64 (g5 w0 w1 w2 w3 w4 m1), .int .i64 (g5 w0 w1 w2 w3 w4 m2), .int .i64 (g5 w0 w1 w2 w3 w4 m3), .int .i64 (g5 w0 w1 w2 w3 w4 m4), .int .i64 (g5 w0 w1 w2 w3 w4 m5)] : Array Value).getD k undef = .int .i64 (g5 w0 w1 w2 w3 w4 (g6 m0 m1 m2 m3 m4 m5 k)) := by
        rcases (by omega : k = 0 ∨ k = 1 ∨ k = 2 ∨ k = 3 ∨ k = 4 ∨ k = 5) with rfl | rfl | rfl | rfl | rfl | rfl <;> rfl
      have hidx : ∀ w', (Instr.index 85 (.agg #[.int .i64 (g5 w0 w1 w2 w3 w4 m0), .int .i64 (g5 w0 w1 w2 w3 w4 m1), .int .i64 (g5 w0 w1 w2 w3 w4 m2), .int .i64 (g5 w0 w1 w2 w3 w4 m3), .int .i64 (g5 w0 w1 w2 w3 w4 m4), .int .i64 (g5 w0 w1 w2 w3 w4 m5)]) (.int .i64 (k : Int))).run Tryz.prog w' = .ok (.int .i64 (g5 w0 w1 w2 w3 w4 (g6 m0 m1 m2 m3 m4 m5 k))) w' := fun w' => by
        rw [index98 w' _ _ (by omega) (by omega) (by simp; omega), show ((k : Int)).toNat = k by simp, hget]
      clear hget
      have bm : 0 ≤ g6 m0 m1 m2 m3 m4 m5 k ∧ g6 m0 m1 m2 m3 m4 m5 k < 5 := by
        rcases (by omega : k = 0 ∨ k = 1 ∨ k = 2 ∨ k = 3 ∨ k = 4 ∨ k = 5) with rfl | rfl | rfl | rfl | rfl | rfl <;> exact ⟨by assumption, by assumption⟩
      have hne := worn_ne Ow.out bm.1 bm.2
      have Hval : Hid (wornAt w0 w1 w2 w3 w4 m0 m1 m2 m3 m4 m5 l k = pickS (g5 w0 w1 w2 w3 w4 (g6 m0 m1 m2 m3 m4 m5 k)) (pickL l k)) := Lib.hid rfl
      generalize g5 w0 w1 w2 w3 w4 (g6 m0 m1 m2 m3 m4 m5 k) = a at *
      generalize hp : pickL l k = p at *
      have Hp := Lib.hid hp
      clear hp
      have hln := sgK_len a 5
      obtain ⟨q, hq⟩ := Int.eq_ofNat_of_zero_le (Int.emod_nonneg p (by omega : ((sgK a 5).length : Int) ≠ 0))
      have hql : q < (sgK a 5).length := by have := Int.emod_lt_of_pos p (by omega : (0 : Int) < ((sgK a 5).length : Int)); omega
      have hx := sgK_in a 5 _ (List.getElem_mem hql)
      have Hv2 : Hid (pickS a p = 2 ^ ((sgK a 5)[q]).toNat) := Lib.hid (by unfold pickS; rw [hq]; simp [hql])
      obtain ⟨hx0, hx5⟩ := hx
      have Hq := Lib.hid hq
      clear hq bm
      have HS : Hid (∀ (w1 : World) (A' : Option Addr) (c' : Nat), Is w1 A' (sgK a 5).length (sgK a 5) → ∃ b o, A' = some ⟨b, o, none⟩ ∧ b < w1.heap.size ∧ w1.cell? ⟨b, o + q, none⟩ = some (.int .i64 (sgK a 5)[q])) := Lib.hid (fun w1 A' c' h => h.get q hql)
      generalize (sgK a 5)[q] = x at *
      go_wp2_with (first
        | (go_at_call 56; refine (list_any _ _).mono ?_; rintro e x3 ⟨v, rfl, hown, hb3⟩; have HRB := Lib.hid (Hbx2.out.keep hb3); have HB3 := Lib.hid (Hbw.out.trans (hb3.mono (by have := Hbx2.out.lt; omega))); clear hb3; obtain ⟨A', c', rfl, _, his⟩ := Is.of_own hown; clear hown; obtain ⟨bb, oo, rfl, hbb, hcc⟩ := HS.out _ _ c' his; clear his; have f1 := HRB.out.cell k hlt; have f2 := HRB.out.fro k)
        | (go_at_call 59; refine (pickAt_any _ _ _ l k _ (HgV.out.keep2 HB3.out) (by omega)).mono ?_; rintro e x4 ⟨rfl, rfl⟩; rw [Hp.out])
        | (go_at_call 58; refine (modulo_any _ _ _ (by omega) (by omega)).mono ?_; rintro e x4 ⟨rfl, rfl⟩; rw [Hq.out])
        | (go_at_call 57; refine (only_any _ _ hx0 hx5).mono ?_; rintro e x4 ⟨rfl, rfl⟩))
      have Hfin : Hid (wornAt w0 w1 w2 w3 w4 m0 m1 m2 m3 m4 m5 l k = 2 ^ x.toNat) := Lib.hid (Hval.out.trans Hv2.out)
      refine ⟨⟨k + 1, by omega, by go_num, HB3.out.setCell (Nat.le_refl _) _, ?_⟩, by simp [intOf]; omega⟩
      rw [← Hfin.out]
      exact HRB.out.put hlt
    · obtain rfl : k = 6 := by omega
      have hlt6 := Hbx2.out.lt
      have d0 := Hbx2.out.cell 0 (by omega); have d1 := Hbx2.out.cell 1 (by omega); have d2 := Hbx2.out.cell 2 (by omega); have d3 := Hbx2.out.cell 3 (by omega); have d4 := Hbx2.out.cell 4 (by omega); have d5 := Hbx2.out.cell 5 (by omega)
      simp only [show (0 : Nat) < 6 by decide, show (1 : Nat) < 6 by decide, show (2 : Nat) < 6 by decide, show (3 : Nat) < 6 by decide, show (4 : Nat) < 6 by decide, show (5 : Nat) < 6 by decide, if_true] at d0 d1 d2 d3 d4 d5
      have Hv : Hid (∀ k, wornV w0 w1 w2 w3 w4 m0 m1 m2 m3 m4 m5 l k = wornAt w0 w1 w2 w3 w4 m0 m1 m2 m3 m4 m5 l k) := Lib.hid (fun k => by unfold wornV; rw [if_pos HE.out])
      have cr3 : ∀ j, wr.cell? ⟨w.heap.size + 1 + 1, j, none⟩ = [Value.int .i64 0, .int .i64 0, .int .i64 0, .int .i64 0, .int .i64 0, .int .i64 0][j]? := fun j => (Hbw.out.cell (p := ⟨w.heap.size + 1 + 1, j, none⟩) v4).trans (cr2 j)
      have fr3 : ∀ j, wr.frozen? ⟨w.heap.size + 1 + 1, j, none⟩ = false := fun j => (Hbw.out.frozen (p := ⟨w.heap.size + 1 + 1, j, none⟩) v4).trans (fr2 j)
      have Ex : Hid (∀ j, j < 6 → (wr.cell? ⟨w.heap.size + 1 + 1, j, none⟩).isSome = true) := Lib.hid (by
        intro j hj
        rw [cr3 j]
        rcases (by omega : j = 0 ∨ j = 1 ∨ j = 2 ∨ j = 3 ∨ j = 4 ∨ j = 5) with rfl | rfl | rfl | rfl | rfl | rfl <;> rfl)
      clear cw2 ca2 cr2 fr2
      generalize wornAt w0 w1 w2 w3 w4 m0 m1 m2 m3 m4 m5 l = f at *
      go_wp2
      have P := put6 wr (w.heap.size + 1 + 1) (.int .i64 (f 0)) (.int .i64 (f 1)) (.int .i64 (f 2)) (.int .i64 (f 3)) (.int .i64 (f 4)) (.int .i64 (f 5)) Ex.out
      have B := put6_below ((up HW.out HV.out).trans (Hbw.out.mono (by omega : w.heap.size ≤ V.heap.size))) (by omega : w.heap.size ≤ w.heap.size + 1 + 1) (.int .i64 (f 0)) (.int .i64 (f 1)) (.int .i64 (f 2)) (.int .i64 (f 3)) (.int .i64 (f 4)) (.int .i64 (f 5))
      generalize World.setCell _ ⟨w.heap.size + 1 + 1, 5, none⟩ _ = U at P B ⊢
      have p0 := P 0 (by omega); have p1 := P 1 (by omega); have p2 := P 2 (by omega); have p3 := P 3 (by omega); have p4 := P 4 (by omega); have p5 := P 5 (by omega)
      clear P
      simp at p0 p1 p2 p3 p4 p5
      refine bodyPost_ret (v := .tuple #[.agg #[.int .i64 (f 0), .int .i64 (f 1), .int .i64 (f 2), .int .i64 (f 3), .int .i64 (f 4), .int .i64 (f 5)], .int .i64 0]) (by simp [results, Tryz.results25, go_sem, p0, p1, p2, p3, p4, p5]) rfl ⟨by rw [Hv.out, Hv.out, Hv.out, Hv.out, Hv.out, Hv.out, HE.out], B⟩
end Go.Proofs.YtfhcofljlkihoaaGreatDoor

namespace Go.Proofs.YtfhcofljlkihoaaGreatDoor
open Go.RowKit
set_option maxHeartbeats 400000
set_option maxRecDepth 100000

/-- The error of a book, two readings, and places. -/
def lookE3 (w0 w1 w2 w3 w4 F : Int) (gs : List Giv) (r s : Rd) : Int := firstE [err (okB w0 w1 w2 w3 w4 F gs) 13, err r.ok 12, err s.ok 12]
def lookE (w0 w1 w2 w3 w4 F : Int) (gs : List Giv) (r s : Rd) (l : List Int) : Int := if lookE3 w0 w1 w2 w3 w4 F gs r s = 0 then err (riseB l (-1)) 18 else lookE3 w0 w1 w2 w3 w4 F gs r s
/-- Those whose rows meet a reading at places. -/
def keepG (w0 w1 w2 w3 w4 : Int) (s : Rd) (l : List Int) : List Giv → List Giv
  | [] => []
  | g :: r => if meetAll (rowOf w0 w1 w2 w3 w4 g) s l = true then g :: keepG w0 w1 w2 w3 w4 s l r else keepG w0 w1 w2 w3 w4 s l r
theorem keepG_yes {w0 w1 w2 w3 w4 : Int} {s : Rd} {l : List Int} {P : List Giv} {g : Giv} (h : meetAll (rowOf w0 w1 w2 w3 w4 g) s l = true) : keepG w0 w1 w2 w3 w4 s l (P ++ [g]) = keepG w0 w1 w2 w3 w4 s l P ++ [g] := by
  induction P with
  | nil => simp [keepG, h]
  | cons x r ih => simp only [List.cons_append, keepG, ih]; split <;> rfl
theorem keepG_no {w0 w1 w2 w3 w4 : Int} {s : Rd} {l : List Int} {P : List Giv} {g : Giv} (h : meetAll (rowOf w0 w1 w2 w3 w4 g) s l = false) : keepG w0 w1 w2 w3 w4 s l (P ++ [g]) = keepG w0 w1 w2 w3 w4 s l P := by
  induction P with
  | nil => simp [keepG, h]
  | cons x r ih => simp only [List.cons_append, keepG, ih]
theorem keepG_len (w0 w1 w2 w3 w4 : Int) (s : Rd) (l : List Int) (P : List Giv) : (keepG w0 w1 w2 w3 w4 s l P).length ≤ P.length := by
  induction P with
  | nil => exact Nat.le_refl _
  | cons x r ih => simp only [keepG]; split <;> simp <;> omega
def lookG (w0 w1 w2 w3 w4 F : Int) (gs : List Giv) (r s : Rd) (l : List Int) : List Giv := if lookE w0 w1 w2 w3 w4 F gs r s l = 0 then keepG w0 w1 w2 w3 w4 s l (possG w0 w1 w2 w3 w4 F [r] gs) else []

theorem lookE_18 {w0 w1 w2 w3 w4 F : Int} {gs : List Giv} {r s : Rd} {l : List Int} (h : lookE3 w0 w1 w2 w3 w4 F gs r s = 0) (h2 : riseB l (-1) = false) : lookE w0 w1 w2 w3 w4 F gs r s l = 18 := by
  unfold lookE; rw [if_pos h, h2]; rfl
theorem lookE_0 {w0 w1 w2 w3 w4 F : Int} {gs : List Giv} {r s : Rd} {l : List Int} (h : lookE3 w0 w1 w2 w3 w4 F gs r s = 0) (h2 : riseB l (-1) = true) : lookE w0 w1 w2 w3 w4 F gs r s l = 0 := by
  unfold lookE; rw [if_pos h, h2]; rfl

theorem looked_any (w0 w1 w2 w3 w4 F : Int) (A : Option Addr) (n c : Nat) (gs : List Giv) (r s : Rd) (B : Option Addr) (n' c' : Nat) (l : List Int) (w : World) (hg : Gs w A n gs) (hnc : n ≤ c) (hl : Is w B n' l) :
    Calls Tryz.prog 22 #[.agg #[.int .i64 w0, .int .i64 w1, .int .i64 w2, .int .i64 w3, .int .i64 w4, .int .i64 F, .slice A n c], .agg #[.int .i64 r.r0, .int .i64 r.r1, .int .i64 r.r2, .int .i64 r.r3, .int .i64 r.r4, .int .i64 r.r5], .agg #[.int .i64 s.r0, .int .i64 s.r1, .int .i64 s.r2, .int .i64 s.r3, .int .i64 s.r4, .int .i64 s.r5], .slice B n' c'] w fun e w' =>
      ∃ v, e = .returned (.tuple #[v, .int .i64 (lookE w0 w1 w2 w3 w4 F gs r s l)]) ∧ w'.ownsRow w.heap.size 3 1 v (lookG w0 w1 w2 w3 w4 F gs r s l).length (ints (own (lookG w0 w1 w2 w3 w4 F gs r s l))) ∧ Below w.heap.size w w' := by
  have Hl : Hid (n = gs.length) := Lib.hid hg.len
  go_enter Tryz.func22, Tryz.ntmps22
  go_wp2_with fail
  generalize hW : (World.alloc _ _) = W
  have HW : Hid (Below w.heap.size w W) := Lib.hid (by subst hW; go_grown)
  have hs : w.heap.size + 2 < W.heap.size := by subst hW; simp
  have hs1 : w.heap.size + 1 < W.heap.size := by omega
  have hs0 : w.heap.size < W.heap.size := by omega
  have hs2 : w.heap.size + 1 + 1 < W.heap.size := by omega
  have cm : ∀ j, W.cell? ⟨w.heap.size, j, none⟩ = [Value.int .i64 w0, .int .i64 w1, .int .i64 w2, .int .i64 w3, .int .i64 w4, .int .i64 F, .slice A n c][j]? := by subst hW; intro j; simp [go_sem]
  have cr : ∀ j, W.cell? ⟨w.heap.size + 1, j, none⟩ = [Value.int .i64 r.r0, .int .i64 r.r1, .int .i64 r.r2, .int .i64 r.r3, .int .i64 r.r4, .int .i64 r.r5][j]? := by subst hW; intro j; simp [go_sem]
  have cs : ∀ j, W.cell? ⟨w.heap.size + 1 + 1, j, none⟩ = [Value.int .i64 s.r0, .int .i64 s.r1, .int .i64 s.r2, .int .i64 s.r3, .int .i64 s.r4, .int .i64 s.r5][j]? := by subst hW; intro j; simp [go_sem]
  clear hW
  have Hg1 := Lib.hid (hg.keep HW.out)
  refine wp_region_grow_tail 6 (by kernel_rfl) (by kernel_rfl) ?_
  simp only [List.take_succ_cons, List.take_zero, List.drop_succ_cons, List.drop_zero]
  repeat (go_big_quiet_step ((first | (go_at_call 10; exact quiet_grow rfl (check_any _ _ _ _ _ _ _ _ _ gs _ (Hg1.out.keep (grow_below _ _)) hnc)) | (go_at_call 43; exact quiet_grow rfl (checkReading_any _ _ _ _ _ _ _)))))
  refine wpQuiet_nil ?_
  intro z
  go_wp2_with fail
  refine Calls.mono (first_any _ _ _ _ _ (is3 _ _ _ _ _ _ (by simp))) ?_
  rintro e x1 ⟨rfl, rfl⟩
  rw [show firstE [err (okB w0 w1 w2 w3 w4 F gs) 13, err (okR r.r0 r.r1 r.r2 r.r3 r.r4 r.r5) 12, err (okR s.r0 s.r1 s.r2 s.r3 s.r4 s.r5) 12] = lookE3 w0 w1 w2 w3 w4 F gs r s from rfl]
  generalize hV : World.alloc (grow W z) _ = V
  have HV : Hid (Below W.heap.size W V) := Lib.hid (by subst hV; exact up (grow_below W z) (up_alloc _ _))
  clear hV
  have v2 : w.heap.size + 1 + 1 < V.heap.size := by have := HV.out.size; omega
  have v1 : w.heap.size + 1 < V.heap.size := by omega
  have v0 : w.heap.size < V.heap.size := by omega
  have cm2 : ∀ j, V.cell? ⟨w.heap.size, j, none⟩ = [Value.int .i64 w0, .int .i64 w1, .int .i64 w2, .int .i64 w3, .int .i64 w4, .int .i64 F, .slice A n c][j]? := fun j => (HV.out.cell (p := ⟨w.heap.size, j, none⟩) hs0).trans (cm j)
  have cr2 : ∀ j, V.cell? ⟨w.heap.size + 1, j, none⟩ = [Value.int .i64 r.r0, .int .i64 r.r1, .int .i64 r.r2, .int .i64 r.r3, .int .i64 r.r4, .int .i64 r.r5][j]? := fun j => (HV.out.cell (p := ⟨w.heap.size + 1, j, none⟩) hs1).trans (cr j)
  have cs2 : ∀ j, V.cell? ⟨w.heap.size + 1 + 1, j, none⟩ = [Value.int .i64 s.r0, .int .i64 s.r1, .int .i64 s.r2, .int .i64 s.r3, .int .i64 s.r4, .int .i64 s.r5][j]? := fun j => (HV.out.cell (p := ⟨w.heap.size + 1 + 1, j, none⟩) hs2).trans (cs j)
  clear cm cr cs
  have HgV := Lib.hid (hg.keep (up HW.out HV.out))
  have HlV := Lib.hid (hl.keep (up HW.out HV.out))
  by_cases hE : lookE3 w0 w1 w2 w3 w4 F gs r s = 0
  rotate_left
  · have HE := Lib.hid hE
    have hb : (lookE3 w0 w1 w2 w3 w4 F gs r s != 0) = true := by simpa using hE
    clear hE
    go_wp2
    go_ret2
    refine ⟨_, by unfold lookE; rw [if_neg HE.out]; rfl, ?_, up HW.out HV.out⟩
    unfold lookG lookE; rw [if_neg HE.out, if_neg HE.out]; exact World.ownsRow_nil _ _ _ _
  have HE := Lib.hid hE
  rw [hE]
  have hE1 := hE
  unfold lookE3 at hE1
  obtain ⟨o1, _, _⟩ := firstE3_0 hE1
  have Ob := Lib.hid (err_0 (by decide) o1)
  clear hE hE1 o1
  cases hr : riseB l (-1)
  · have Hr := Lib.hid hr
    clear hr
    go_wp2_with (go_at_call 49; refine (validLook_any _ _ _ l _ HlV.out).mono ?_; rintro e x2 ⟨rfl, rfl⟩; rw [Hr.out])
    go_ret2
    refine ⟨_, by rw [lookE_18 HE.out Hr.out]; rfl, ?_, up HW.out HV.out⟩
    unfold lookG; rw [lookE_18 HE.out Hr.out]; exact World.ownsRow_nil _ _ _ _
  have Hr := Lib.hid hr
  clear hr
  have hpl : (possG w0 w1 w2 w3 w4 F [r] gs).length ≤ 40 := Nat.le_trans (possG_len w0 w1 w2 w3 w4 F [r] gs) (okB_40 Ob.out)
  have h40 : n ≤ 40 := by have := Hl.out; have := okB_40 Ob.out; omega
  go_wp2_with (first
    | (go_at_call 49; refine (validLook_any _ _ _ l _ HlV.out).mono ?_; rintro e x2 ⟨rfl, rfl⟩; rw [Hr.out])
    | (go_at_call 45; refine (possibleMarks_any _ _ _ _ _ _ _ _ _ gs _ _ _ [r] _ (HgV.out.keep (up_alloc _ _)) (rs1 _ r _ _ (by simp)) (okB_ok Ob.out) h40).mono ?_; rintro e U ⟨v, rfl, hown, hb1⟩; have HU := Lib.hid (up (up_alloc _ _) hb1); clear hb1; obtain ⟨A', c'', rfl, _, _, hgs⟩ := Gs.of_own hown; have HG := Lib.hid (hgs (by omega)); clear hgs hown))
  have HK : Hid (∀ g ∈ possG w0 w1 w2 w3 w4 F [r] gs, g.ok) := Lib.hid (fun g h => okB_ok Ob.out g (possG_sub g h))
  have Hin := Lib.hid (riseB_in l (-1) (by omega) Hr.out)
  generalize hP : possG w0 w1 w2 w3 w4 F [r] gs = P at *
  have HP := Lib.hid hP
  clear hP
  generalize hnP : P.length = nP at *
  have HnP := Lib.hid hnP
  clear hnP
  have u2 : w.heap.size + 1 + 1 < U.heap.size := by have := HU.out.size; omega
  have u1 : w.heap.size + 1 < U.heap.size := by omega
  have u0 : w.heap.size < U.heap.size := by omega
  have cm3 : ∀ j, U.cell? ⟨w.heap.size, j, none⟩ = [Value.int .i64 w0, .int .i64 w1, .int .i64 w2, .int .i64 w3, .int .i64 w4, .int .i64 F, .slice A n c][j]? := fun j => (HU.out.cell (p := ⟨w.heap.size, j, none⟩) v0).trans (cm2 j)
  have cs3 : ∀ j, U.cell? ⟨w.heap.size + 1 + 1, j, none⟩ = [Value.int .i64 s.r0, .int .i64 s.r1, .int .i64 s.r2, .int .i64 s.r3, .int .i64 s.r4, .int .i64 s.r5][j]? := fun j => (HU.out.cell (p := ⟨w.heap.size + 1 + 1, j, none⟩) v2).trans (cs2 j)
  clear cm2 cr2 cs2
  have HlU := Lib.hid (HlV.out.keep HU.out)
  obtain ⟨i0, hi, hz0, hz1, hz2⟩ := info_parts info30
  have HI := Lib.hid hi
  have HZ0 := Lib.hid hz0
  have HZ1 := Lib.hid hz1
  have HZ2 := Lib.hid hz2
  clear hi hz0 hz1 hz2
  go_loopw [11, 33] (fun v i wr => ∃ (k : Nat) (z : Gr), k ≤ nP ∧ i = .int .i64 k ∧ wr = grow U z ∧ (grow U z).ownsRow U.heap.size 41 7 v (keepG w0 w1 w2 w3 w4 s l (P.take k)).length (gcells (keepG w0 w1 w2 w3 w4 s l (P.take k)))) (fun _ i _ => nP - (intOf i).toNat)
  case atStart => exact ⟨0, ⟨#[], U.drawn⟩, by omega, rfl, by simp [grow], World.ownsRow_nil _ _ _ _⟩
  case round =>
    obtain ⟨k, y, hk, rfl, rfl, hown⟩ := hrel
    have Hown := Lib.hid hown; clear hown
    have e0 : w.heap.size < U.heap.size + y.blocks.size := by omega
    have e1 : w.heap.size + 1 + 1 < U.heap.size + y.blocks.size := by omega
    have e3 : w.heap.size < U.heap.size + y.blocks.size + 1 := by omega
    have e4 : w.heap.size + 1 + 1 < U.heap.size + y.blocks.size + 1 := by omega
    have hklen : (keepG w0 w1 w2 w3 w4 s l (P.take k)).length ≤ 40 := Nat.le_trans (keepG_len w0 w1 w2 w3 w4 s l (P.take k)) (by simp; omega)
    by_cases hlt : k < nP
    rotate_left
    · obtain rfl : k = nP := by omega
      have Hf : Hid (keepG w0 w1 w2 w3 w4 s l (P.take k) = keepG w0 w1 w2 w3 w4 s l P) := Lib.hid (by rw [List.take_of_length_le (by rw [HnP.out]; exact Nat.le_refl _)])
      obtain ⟨A2, c2, rfl, _, _, hgs⟩ := Gs.of_own Hown.out
      have HG2 := Lib.hid (hgs (by omega))
      clear hgs
      go_wp2_with (go_at_call 44; refine (ownersOf_any _ _ _ _ _ HG2.out (by omega)).mono ?_; rintro e x2 ⟨v, rfl, hown, hb2⟩; have Hown2 := Lib.hid hown; clear hown)
      go_ret2
      refine ⟨_, by rw [lookE_0 HE.out Hr.out]; rfl, ?_, up HW.out (up HV.out (up HU.out (up (grow_below U y) hb2)))⟩
      unfold lookG; rw [lookE_0 HE.out Hr.out, if_pos rfl, HP.out, ← Hf.out]
      exact own_mono Hown2.out (by simp; omega)
    have hkl : k < P.length := by rw [HnP.out]; exact hlt
    have Htk : Hid (P.take (k + 1) = P.take k ++ [P[k]]) := Lib.hid (List.take_succ_eq_append_getElem hkl)
    obtain ⟨b, o, rfl, hb, hc⟩ := HG.out.get k hkl
    obtain ⟨c0, c1, c2, c3, c4, c5, c6⟩ := hc
    obtain ⟨⟨p0, q0⟩, ⟨p1, q1⟩, ⟨p2, q2⟩, ⟨p3, q3⟩, ⟨p4, q4⟩, ⟨p5, q5⟩⟩ := HK.out _ (List.getElem_mem hkl)
    generalize P[k] = g at *
    generalize hX : keepG w0 w1 w2 w3 w4 s l (P.take k) = X at *
    have HX := Lib.hid hX
    clear hX
    generalize hnX : X.length = nX at *
    have HnX := Lib.hid hnX
    clear hnX
    have e5 : b < U.heap.size + y.blocks.size := by omega
    go_wp2
    generalize hT : World.alloc (grow U y) _ = T
    have HT : Hid (Below U.heap.size U T) := Lib.hid (by subst hT; exact up (grow_below U y) (up_alloc _ _))
    have HTy : Hid (Below (grow U y).heap.size (grow U y) T) := Lib.hid (by subst hT; exact up_alloc _ _)
    have t0 : w.heap.size < T.heap.size := by subst hT; simp; omega
    have t1 : w.heap.size + 1 + 1 < T.heap.size := by subst hT; simp; omega
    have t2 : U.heap.size + y.blocks.size < T.heap.size := by subst hT; simp
    have ct : ∀ j, T.cell? ⟨w.heap.size, j, none⟩ = [Value.int .i64 w0, .int .i64 w1, .int .i64 w2, .int .i64 w3, .int .i64 w4, .int .i64 F, .slice A n c][j]? := fun j => (HT.out.cell (p := ⟨w.heap.size, j, none⟩) u0).trans (cm3 j)
    have ct2 : ∀ j, T.cell? ⟨w.heap.size + 1 + 1, j, none⟩ = [Value.int .i64 s.r0, .int .i64 s.r1, .int .i64 s.r2, .int .i64 s.r3, .int .i64 s.r4, .int .i64 s.r5][j]? := fun j => (HT.out.cell (p := ⟨w.heap.size + 1 + 1, j, none⟩) u2).trans (cs3 j)
    have cg : ∀ j, T.cell? ⟨U.heap.size + y.blocks.size, j, none⟩ = [Value.int .i64 g.o, .int .i64 g.m0, .int .i64 g.m1, .int .i64 g.m2, .int .i64 g.m3, .int .i64 g.m4, .int .i64 g.m5][j]? := by
      subst hT; intro j
      rw [World.cell?_alloc_at _ _ _ _ (by simp)]; simp
    have HlT := Lib.hid (HlU.out.keep HT.out)
    clear hT c0 c1 c2 c3 c4 c5 c6
    refine wp_region_grow (by kernel_rfl) (by kernel_rfl) ?_
    repeat (go_big_quiet_step ((first | (go_at_call 51; exact quiet_grow rfl (wornRow_any _ _ _ _ _ _ _ _ _ _ _ _ (by assumption) (by assumption) (by assumption) (by assumption) (by assumption) (by assumption) (by assumption) (by assumption) (by assumption) (by assumption) (by assumption) (by assumption) )) | (go_at_call 52; exact quiet_grow rfl (seenRow_any _ _ _ _ _ _ _)) | (go_at_call 50; exact quiet_grow rfl (allMeet_any (rowOf w0 w1 w2 w3 w4 g) s _ _ _ l _ (HlT.out.keep (grow_below _ _)) Hin.out)))))
    refine wpQuiet_nil ?_
    intro z3
    have t3 : U.heap.size + y.blocks.size < T.heap.size + z3.blocks.size := by omega
    cases hm : meetAll (rowOf w0 w1 w2 w3 w4 g) s l
    · have Hm := Lib.hid hm
      clear hm
      go_wp2
      obtain ⟨y2, hy2⟩ := below_grow (up HT.out (grow_below T z3))
      refine ⟨⟨k + 1, y2, by omega, by go_num, hy2, ?_⟩, by simp [intOf]; omega⟩
      rw [← hy2, Htk.out, keepG_no Hm.out, HX.out, HnX.out]
      exact own_below (own_below Hown.out HTy.out) (grow_below T z3)
    · have Hm := Lib.hid hm
      clear hm
      have Ho := Lib.hid (own_below (own_below Hown.out HTy.out) (grow_below T z3))
      go_wp2_with (at_builtin; refine wpList_append_own _ rfl _ _ 24 rfl U.heap.size 41 i0 (.agg #[.int .i64 0, .int .i64 0, .int .i64 0, .int .i64 0, .int .i64 0, .int .i64 0, .int .i64 0]) 7 56 Tryz.underlying24 HI.out HZ0.out HZ1.out HZ2.out rfl (by decide) _ _ _ rfl (Ho.out.alloc _) ⟨T.heap.size + z3.blocks.size, 0, none⟩ 1 1 [.int .i64 g.o, .int .i64 g.m0, .int .i64 g.m1, .int .i64 g.m2, .int .i64 g.m3, .int .i64 g.m4, .int .i64 g.m5] rfl rfl ?c1 ?c2 ?c3 ?c4 ?c5 ?_)
      case c1 =>
        intro j u hu
        rw [Addr.add_lit, World.cell?_alloc_at _ _ _ _ (by simp), Nat.zero_add]
        simpa using hu
      case c2 => intro u hu; simp at hu; rcases hu with rfl | rfl | rfl | rfl | rfl | rfl | rfl <;> rfl
      case c3 => unfold maxLen; omega
      case c4 => omega
      case c5 => have := HT.out.size; simp; omega
      intro v' w' hown' hgr _
      have hbel : Below U.heap.size U w' := (up HT.out (up (grow_below T z3) (up_alloc _ _))).grown hgr (by have := HT.out.size; simp; omega) (fun q hq => (Ho.out.lt q hq).1)
      have Hown' := Lib.hid hown'
      clear hown' hgr
      obtain ⟨y3, rfl⟩ := below_grow hbel
      go_wp2
      refine ⟨⟨k + 1, y3, by omega, by go_num, rfl, ?_⟩, by simp [intOf]; omega⟩
      rw [Htk.out, keepG_yes Hm.out, HX.out, gcells_snoc, List.length_append, HnX.out]
      exact Hown'.out
end Go.Proofs.YtfhcofljlkihoaaGreatDoor

namespace Go.Proofs.YtfhcofljlkihoaaGreatDoor
open Go Go.RowKit Go.Shelf
attribute [local go_sem] Oper.semAt_some
set_option maxHeartbeats 400000
set_option maxRecDepth 100000

/-- The mark with a number; the first k marks. -/
def markNo (k : Nat) : Rd := ⟨((k / 3125 % 5 : Nat) : Int), ((k / 625 % 5 : Nat) : Int), ((k / 125 % 5 : Nat) : Int), ((k / 25 % 5 : Nat) : Int), ((k / 5 % 5 : Nat) : Int), ((k % 5 : Nat) : Int)⟩
def upto (k : Nat) : List Rd := (List.range k).map markNo
theorem upto_succ (k : Nat) : upto (k + 1) = upto k ++ [markNo k] := by simp [upto, List.range_succ]
def valR (r : Rd) : Int := ((((r.r0 * 5 + r.r1) * 5 + r.r2) * 5 + r.r3) * 5 + r.r4) * 5 + r.r5
def Rd.dig (r : Rd) : Prop := (0 ≤ r.r0 ∧ r.r0 < 5) ∧ (0 ≤ r.r1 ∧ r.r1 < 5) ∧ (0 ≤ r.r2 ∧ r.r2 < 5) ∧ (0 ≤ r.r3 ∧ r.r3 < 5) ∧ (0 ≤ r.r4 ∧ r.r4 < 5) ∧ (0 ≤ r.r5 ∧ r.r5 < 5)
theorem markNo_dig (k : Nat) : (markNo k).dig := by simp only [markNo, Rd.dig]; omega
theorem markNo_val (k : Nat) (h : k < 15625) : valR (markNo k) = k := by simp only [markNo, valR]; omega
theorem markNo_of (r : Rd) (k : Nat) (h : r.dig) (hv : valR r = k) : r = markNo k := by
  obtain ⟨a, b, c, d, e, f⟩ := r
  simp only [Rd.dig, valR] at h hv
  simp only [markNo, Rd.mk.injEq]
  omega

/-- The variable's six cells. -/
structure MBox (w : World) (N : Nat) (r : Rd) : Prop where
  lt : N < w.heap.size
  c0 : w.cell? ⟨N, 0, none⟩ = some (.int .i64 r.r0)
  c1 : w.cell? ⟨N, 1, none⟩ = some (.int .i64 r.r1)
  c2 : w.cell? ⟨N, 2, none⟩ = some (.int .i64 r.r2)
  c3 : w.cell? ⟨N, 3, none⟩ = some (.int .i64 r.r3)
  c4 : w.cell? ⟨N, 4, none⟩ = some (.int .i64 r.r4)
  c5 : w.cell? ⟨N, 5, none⟩ = some (.int .i64 r.r5)
  fro : ∀ j, w.frozen? ⟨N, j, none⟩ = false
theorem MBox.above {w w' : World} {N B : Nat} {r : Rd} (h : MBox w N r) (ha : Above B w w') (hN : B ≤ N) : MBox w' N r := by
  have e := ha.block N hN h.lt
  have k : ∀ j, w'.cell? ⟨N, j, none⟩ = w.cell? ⟨N, j, none⟩ := fun j => World.cell?_of_block (a := ⟨N, j, none⟩) e
  exact ⟨by have := ha.size; have := h.lt; omega, (k 0).trans h.c0, (k 1).trans h.c1, (k 2).trans h.c2, (k 3).trans h.c3, (k 4).trans h.c4, (k 5).trans h.c5, fun j => (World.frozen?_of_block (a := ⟨N, j, none⟩) e).trans (h.fro j)⟩
theorem MBox.set0 {w : World} {N : Nat} {r : Rd} (h : MBox w N r) (v : Int) : MBox (w.setCell ⟨N, 0, none⟩ (.int .i64 v)) N { r with r0 := v } :=
  ⟨by simpa [World.setCell] using h.lt, World.cell?_setCell_same' _ _ _ (by rw [h.c0]; rfl), by rw [World.cell?_setCell_other _ _ _ _ (by simp)]; exact h.c1, by rw [World.cell?_setCell_other _ _ _ _ (by simp)]; exact h.c2, by rw [World.cell?_setCell_other _ _ _ _ (by simp)]; exact h.c3, by rw [World.cell?_setCell_other _ _ _ _ (by simp)]; exact h.c4, by rw [World.cell?_setCell_other _ _ _ _ (by simp)]; exact h.c5, fun i => by rw [World.frozen?_setCell]; exact h.fro i⟩
theorem MBox.set1 {w : World} {N : Nat} {r : Rd} (h : MBox w N r) (v : Int) : MBox (w.setCell ⟨N, 1, none⟩ (.int .i64 v)) N { r with r1 := v } :=
  ⟨by simpa [World.setCell] using h.lt, by rw [World.cell?_setCell_other _ _ _ _ (by simp)]; exact h.c0, World.cell?_setCell_same' _ _ _ (by rw [h.c1]; rfl), by rw [World.cell?_setCell_other _ _ _ _ (by simp)]; exact h.c2, by rw [World.cell?_setCell_other _ _ _ _ (by simp)]; exact h.c3, by rw [World.cell?_setCell_other _ _ _ _ (by simp)]; exact h.c4, by rw [World.cell?_setCell_other _ _ _ _ (by simp)]; exact h.c5, fun i => by rw [World.frozen?_setCell]; exact h.fro i⟩
theorem MBox.set2 {w : World} {N : Nat} {r : Rd} (h : MBox w N r) (v : Int) : MBox (w.setCell ⟨N, 2, none⟩ (.int .i64 v)) N { r with r2 := v } :=
  ⟨by simpa [World.setCell] using h.lt, by rw [World.cell?_setCell_other _ _ _ _ (by simp)]; exact h.c0, by rw [World.cell?_setCell_other _ _ _ _ (by simp)]; exact h.c1, World.cell?_setCell_same' _ _ _ (by rw [h.c2]; rfl), by rw [World.cell?_setCell_other _ _ _ _ (by simp)]; exact h.c3, by rw [World.cell?_setCell_other _ _ _ _ (by simp)]; exact h.c4, by rw [World.cell?_setCell_other _ _ _ _ (by simp)]; exact h.c5, fun i => by rw [World.frozen?_setCell]; exact h.fro i⟩
theorem MBox.set3 {w : World} {N : Nat} {r : Rd} (h : MBox w N r) (v : Int) : MBox (w.setCell ⟨N, 3, none⟩ (.int .i64 v)) N { r with r3 := v } :=
  ⟨by simpa [World.setCell] using h.lt, by rw [World.cell?_setCell_other _ _ _ _ (by simp)]; exact h.c0, by rw [World.cell?_setCell_other _ _ _ _ (by simp)]; exact h.c1, by rw [World.cell?_setCell_other _ _ _ _ (by simp)]; exact h.c2, World.cell?_setCell_same' _ _ _ (by rw [h.c3]; rfl), by rw [World.cell?_setCell_other _ _ _ _ (by simp)]; exact h.c4, by rw [World.cell?_setCell_other _ _ _ _ (by simp)]; exact h.c5, fun i => by rw [World.frozen?_setCell]; exact h.fro i⟩
theorem MBox.set4 {w : World} {N : Nat} {r : Rd} (h : MBox w N r) (v : Int) : MBox (w.setCell ⟨N, 4, none⟩ (.int .i64 v)) N { r with r4 := v } :=
  ⟨by simpa [World.setCell] using h.lt, by rw [World.cell?_setCell_other _ _ _ _ (by simp)]; exact h.c0, by rw [World.cell?_setCell_other _ _ _ _ (by simp)]; exact h.c1, by rw [World.cell?_setCell_other _ _ _ _ (by simp)]; exact h.c2, by rw [World.cell?_setCell_other _ _ _ _ (by simp)]; exact h.c3, World.cell?_setCell_same' _ _ _ (by rw [h.c4]; rfl), by rw [World.cell?_setCell_other _ _ _ _ (by simp)]; exact h.c5, fun i => by rw [World.frozen?_setCell]; exact h.fro i⟩
theorem MBox.set5 {w : World} {N : Nat} {r : Rd} (h : MBox w N r) (v : Int) : MBox (w.setCell ⟨N, 5, none⟩ (.int .i64 v)) N { r with r5 := v } :=
  ⟨by simpa [World.setCell] using h.lt, by rw [World.cell?_setCell_other _ _ _ _ (by simp)]; exact h.c0, by rw [World.cell?_setCell_other _ _ _ _ (by simp)]; exact h.c1, by rw [World.cell?_setCell_other _ _ _ _ (by simp)]; exact h.c2, by rw [World.cell?_setCell_other _ _ _ _ (by simp)]; exact h.c3, by rw [World.cell?_setCell_other _ _ _ _ (by simp)]; exact h.c4, World.cell?_setCell_same' _ _ _ (by rw [h.c5]; rfl), fun i => by rw [World.frozen?_setCell]; exact h.fro i⟩
theorem MBox.other {w : World} {N : Nat} {r : Rd} (h : MBox w N r) {p : Addr} (hp : p.block ≠ N) (v : Value) : MBox (w.setCell p v) N r := by
  have k : ∀ j, (w.setCell p v).cell? ⟨N, j, none⟩ = w.cell? ⟨N, j, none⟩ := fun j => World.cell?_setCell_other _ _ _ _ (by intro e; exact hp (by rw [e]))
  exact ⟨by simpa [World.setCell] using h.lt, (k 0).trans h.c0, (k 1).trans h.c1, (k 2).trans h.c2, (k 3).trans h.c3, (k 4).trans h.c4, (k 5).trans h.c5, fun i => by rw [World.frozen?_setCell]; exact h.fro i⟩
theorem MBox.keep {w w' : World} {N B : Nat} {r : Rd} (h : MBox w N r) (hb : Below B w w') (hN : N < B) : MBox w' N r := by
  have k : ∀ j, w'.cell? ⟨N, j, none⟩ = w.cell? ⟨N, j, none⟩ := fun j => hb.cell (p := ⟨N, j, none⟩) hN
  exact ⟨by have := hb.size; have := h.lt; omega, (k 0).trans h.c0, (k 1).trans h.c1, (k 2).trans h.c2, (k 3).trans h.c3, (k 4).trans h.c4, (k 5).trans h.c5, fun i => (hb.frozen (p := ⟨N, i, none⟩) hN).trans (h.fro i)⟩
def ci (w : World) (N j : Nat) : Int := match w.cell? ⟨N, j, none⟩ with | some (.int _ q) => q | _ => 0
def valW (w : World) (N : Nat) : Int := valR ⟨ci w N 0, ci w N 1, ci w N 2, ci w N 3, ci w N 4, ci w N 5⟩
theorem MBox.val {w : World} {N : Nat} {r : Rd} (h : MBox w N r) : valW w N = valR r := by
  unfold valW ci; rw [h.c0, h.c1, h.c2, h.c3, h.c4, h.c5]

def encM (r : Rd) : Array Value := #[.agg #[.int .i64 r.r0, .int .i64 r.r1, .int .i64 r.r2, .int .i64 r.r3, .int .i64 r.r4, .int .i64 r.r5]]

theorem every_iter (w : World) : Iter Tryz.prog 53 #[] encM (fun _ _ _ => True) (fun _ => True) (fun xs => xs = upto 15625) (fun pre => ∃ k, k < 15625 ∧ pre = upto (k + 1)) w := by
  intro n l J Jx W hn hW hJ _ hY h0
  refine callsIn_of_wp Tryz.func53 rfl trivial ?_ rfl
  simp only [Tryz.ntmps53, List.size_toArray, List.length_cons, List.length_nil, Nat.reduceAdd, Nat.reduceSub, Array.replicate_succ, Array.replicate_zero, List.push_toArray, List.append_toArray, List.nil_append, List.cons_append]
  gi_wp2
  have hJ0 : J [] (W.alloc (.cells #[.int .i64 0, .int .i64 0, .int .i64 0, .int .i64 0, .int .i64 0, .int .i64 0] 39)) := hJ _ _ _ h0 (up_alloc _ _)
  have HJ := Lib.hid hJ
  have HY := Lib.hid hY
  have hB0 : MBox (W.alloc (.cells #[.int .i64 0, .int .i64 0, .int .i64 0, .int .i64 0, .int .i64 0, .int .i64 0] 39)) W.heap.size (markNo 0) := by
    constructor <;> simp [go_sem, markNo]
  have hS0 : Below W.heap.size W (W.alloc (.cells #[.int .i64 0, .int .i64 0, .int .i64 0, .int .i64 0, .int .i64 0, .int .i64 0] 39)) := up_alloc _ _
  generalize World.alloc W _ = W1 at *
  clear hJ hY
  gi_loopw [3] (fun _ wr => ∃ (k : Nat), k < 15625 ∧ MBox wr W.heap.size (markNo k) ∧ J (upto k) wr) (fun _ wr => (15625 - valW wr W.heap.size).toNat)
  case atStart => exact ⟨0, by omega, hB0, hJ0⟩
  case round =>
    obtain ⟨k, hk, hbx, hjk⟩ := hrel
    have Hbx := Lib.hid hbx
    have hdg := markNo_dig k
    have hvl := markNo_val k hk
    have Hvw := Lib.hid (hbx.val)
    obtain ⟨fn, tmps, assign, body, hy, hR⟩ := HY.out (upto k) (markNo k) wr ⟨k, hk, (upto_succ k).symm⟩ trivial hjk (by have := hbx.lt; omega)
    have Hup := Lib.hid (upto_succ k)
    have Hnx : Hid (∀ r : Rd, r.dig → valR r = k + 1 → r = markNo (k + 1)) := Lib.hid (fun r h1 h2 => markNo_of r (k + 1) h1 (by rw [h2]; rfl))
    generalize markNo k = r at *
    dsimp only [encM] at hy
    have Hlt := Lib.hid hbx.lt
    obtain ⟨_, d0, d1, d2, d3, d4, d5, _⟩ := hbx
    gi_wp2
    refine ⟨fun h => (by cases h), hR.mono ?_⟩
    rintro e W' (⟨rfl, hJ', hAb⟩ | ⟨rfl, hJx'⟩)
    rotate_left
    · gi_wp2
      exact ⟨rfl, _, results_none rfl _ _ _, ⟨⟨_, rfl⟩, .inr ⟨upto k ++ [r], ⟨k, by omega, Hup.out.symm⟩, hJx'⟩⟩⟩
    have HJ' := Lib.hid hJ'
    have Hb' := Lib.hid (Hbx.out.above hAb (Nat.le_refl _))
    clear hJ' hAb hR hy d0 d1 d2 d3 d4 d5
    obtain ⟨l', d0, d1, d2, d3, d4, d5, fro⟩ := Hb'.out
    obtain ⟨⟨a0, b0⟩, ⟨a1, b1⟩, ⟨a2, b2⟩, ⟨a3, b3⟩, ⟨a4, b4⟩, ⟨a5, b5⟩⟩ := hdg
    gi_wp2
    have hjk' := HJ'.out
    have fin : ∀ (V : World) (s : Rd), MBox V W.heap.size s → s.dig → valR s = k + 1 → Below W.heap.size W' V →
        (∃ k, k < 15625 ∧ MBox V W.heap.size (markNo k) ∧ J (upto k) V) ∧ (15625 - valW V W.heap.size).toNat < (15625 - valW wr W.heap.size).toNat := by
      intro V s hs hd hv hb
      have hk1 : k + 1 < 15625 := by simp only [Rd.dig, valR] at hd hv; omega
      have he := Hnx.out s hd hv
      refine ⟨⟨k + 1, hk1, he ▸ hs, ?_⟩, ?_⟩
      · rw [Hup.out]; exact HJ.out _ _ _ hjk' hb
      · rw [hs.val, Hvw.out, hv, hvl]; omega
    have Hfin := Lib.hid fin
    have Hvl := Lib.hid hvl
    clear fin hvl hjk'
    refine wpIn_loop_rounds 7 ?_
    rw [roundsIn_succ]
    by_cases e5 : r.r5 = 4
    rotate_left
    · gi_wp2
      exact Hfin.out _ _ (Hb'.out.set5 _) (by simp only [Rd.dig]; omega) (by have := Hvl.out; simp only [valR] at this ⊢; omega) ((Below.refl _ _).setCell (by simp) _)
    gi_wp2
    rw [roundsIn_succ]
    by_cases e4 : r.r4 = 4
    rotate_left
    · gi_wp2
      exact Hfin.out _ _ ((Hb'.out.set5 _).set4 _) (by simp only [Rd.dig]; omega) (by have := Hvl.out; simp only [valR] at this ⊢; omega) (((Below.refl _ _).setCell (by simp) _).setCell (by simp) _)
    gi_wp2
    rw [roundsIn_succ]
    by_cases e3 : r.r3 = 4
    rotate_left
    · gi_wp2
      exact Hfin.out _ _ (((Hb'.out.set5 _).set4 _).set3 _) (by simp only [Rd.dig]; omega) (by have := Hvl.out; simp only [valR] at this ⊢; omega) ((((Below.refl _ _).setCell (by simp) _).setCell (by simp) _).setCell (by simp) _)
    gi_wp2
    rw [roundsIn_succ]
    by_cases e2 : r.r2 = 4
    rotate_left
    · gi_wp2
      exact Hfin.out _ _ ((((Hb'.out.set5 _).set4 _).set3 _).set2 _) (by simp only [Rd.dig]; omega) (by have := Hvl.out; simp only [valR] at this ⊢; omega) (((((Below.refl _ _).setCell (by simp) _).setCell (by simp) _).setCell (by simp) _).setCell (by simp) _)
    gi_wp2
    rw [roundsIn_succ]
    by_cases e1 : r.r1 = 4
    rotate_left
    · gi_wp2
      exact Hfin.out _ _ (((((Hb'.out.set5 _).set4 _).set3 _).set2 _).set1 _) (by simp only [Rd.dig]; omega) (by have := Hvl.out; simp only [valR] at this ⊢; omega) ((((((Below.refl _ _).setCell (by simp) _).setCell (by simp) _).setCell (by simp) _).setCell (by simp) _).setCell (by simp) _)
    gi_wp2
    rw [roundsIn_succ]
    by_cases e0 : r.r0 = 4
    rotate_left
    · gi_wp2
      exact Hfin.out _ _ ((((((Hb'.out.set5 _).set4 _).set3 _).set2 _).set1 _).set0 _) (by simp only [Rd.dig]; omega) (by have := Hvl.out; simp only [valR] at this ⊢; omega) (((((((Below.refl _ _).setCell (by simp) _).setCell (by simp) _).setCell (by simp) _).setCell (by simp) _).setCell (by simp) _).setCell (by simp) _)
    gi_wp2
    rw [roundsIn_succ]
    gi_wp2
    refine bodyPost_ret (results_none rfl _ _ _) rfl ?_
    refine ⟨⟨_, rfl⟩, .inl ⟨_, rfl, ?_⟩⟩
    have hk' : k + 1 = 15625 := by have := Hvl.out; simp only [valR] at this; omega
    rw [← hk', Hup.out]
    exact HJ.out _ _ _ HJ'.out (((((((Below.refl _ _).setCell (by simp) _).setCell (by simp) _).setCell (by simp) _).setCell (by simp) _).setCell (by simp) _).setCell (by simp) _)
end Go.Proofs.YtfhcofljlkihoaaGreatDoor

