/- Contracts of functions of the program and of the reference, a calculus of states, and plain facts: a part of a proof. Own text. -/
import Derived.RangeFuncNested
import Derived.RangeFuncBound
import Derived.RangeFuncCalls
import Derived.RangeFuncLeaves
import Derived.Shelf.Abstract
import Derived.Shelf.RegionOpen
import Derived.WalkKit
import Derived.OwnWalkIn
import Derived.TacticsInMore
import Derived.LoopNIn
import Derived.LoopIn
import Derived.CallsIn
set_option linter.unusedVariables false
set_option linter.unusedSimpArgs false
set_option linter.unusedSectionVars false
namespace Go.Proofs.Ytjimjdhdnkhfnaa
open Go Go.RowKit
structure Above (B : Nat) (W W' : World) : Prop where
  size : W.heap.size ≤ W'.heap.size
  block : ∀ k, B ≤ k → k < W.heap.size → W'.heap[k]? = W.heap[k]?
theorem Above.refl (B : Nat) (W : World) : Above B W W := ⟨Nat.le_refl _, fun _ _ _ => rfl⟩
theorem Above.trans {B : Nat} {X Y Z : World} (h : Above B X Y) (k : Above B Y Z) : Above B X Z :=
  ⟨Nat.le_trans h.size k.size, fun i hi hl => (k.block i hi (Nat.lt_of_lt_of_le hl h.size)).trans (h.block i hi hl)⟩
theorem Above.mono {B B' : Nat} {X Y : World} (h : Above B X Y) (hB : B ≤ B') : Above B' X Y := ⟨h.size, fun i hi hl => h.block i (Nat.le_trans hB hi) hl⟩
theorem Above.of_below {B : Nat} {X Y : World} (h : Below X.heap.size X Y) : Above B X Y := ⟨h.size, fun i _ hl => h.block i hl⟩
theorem Above.setCell {B : Nat} (X : World) {p : Addr} (hp : p.block < B) (v : Value) : Above B X (X.setCell p v) :=
  ⟨by simp [World.setCell], fun i hi _ => Below.heap_setCell X p v i (by omega)⟩
theorem Above.putObj {B : Nat} (X : World) {l : Nat} (hl : l < B) (o : Obj) : Above B X (X.putObj l o) :=
  ⟨by simp [World.putObj], fun i hi _ => World.putObj_heap_other (by omega)⟩
theorem below_putObj {B : Nat} (X : World) {l : Nat} (hl : B ≤ l) (o : Obj) : Below B X (X.putObj l o) :=
  ⟨rfl, rfl, rfl, by simp [World.putObj], fun i hi => World.putObj_heap_other (by omega)⟩
def On {β : Type} (B : Nat) (J : β → World → Prop) : Prop := ∀ s A A', J s A → Below B A A' → J s A'
def Iter {α : Type} (P : Program) (g : Nat) (fa lb : Array Value) (encs : α → Array Value) (Fx : Nat → α → World → Prop) (Kx : World → Prop) (S Sp : List α → Prop) (w : World) : Prop :=
  ∀ (n l : Nat) (J Jx : List α → World → Prop) (W : World), 3 ≤ n → Below w.heap.size w W → On W.heap.size J → (∀ pre A, J pre A → Kx A) →
    (∀ pre x A, Sp (pre ++ [x]) → Fx W.heap.size x A → J pre A → W.heap.size ≤ A.heap.size → YieldAt Fence.wide (n - 1) P l (encs x) A fun e A' =>
      (e = .returned (.bool true) ∧ J (pre ++ [x]) A' ∧ Above W.heap.size A A') ∨ (e = .returned (.bool false) ∧ Jx (pre ++ [x]) A')) →
    J [] W →
    CallsIn Fence.wide n P g (fa ++ #[.func (.yield l) #[] #[]] ++ lb) W fun e W' => (∃ v, e = .returned v) ∧ ((∃ xs, S xs ∧ J xs W') ∨ (∃ pre, Sp pre ∧ Jx pre W'))
def leftBy {α : Type} (B : Nat) (I : List α → World → Prop) (Ix : Code → List α → World → Prop) (xs : List α) (W : World) : Exit → Act → World → Prop
  | .normal, _, W' => Above B W W' ∧ I xs W'
  | .ret, _, W' => Above B W W' ∧ Ix .ret xs W'
  | .exit id, _, W' => Above B W W' ∧ Ix (.exit id) xs W'
  | .goto t, _, W' => Above B W W' ∧ Ix (.goto t) xs W'
  | _, _, _ => False
variable {n : Nat} {P : Program}
theorem rangeFunc_law {α : Type} {g : Operand} {ps : Array Tmp} {assign body : Code} {Q : Exit → Act → World → Prop} {a : Act} {w : World} (hn : 5 ≤ n)
    {gf : Nat} {fa lb : Array Value} (hg : a.eval g = .func (.func gf) fa lb) (eg : ∀ args w, (callFunc gf args).run P w = .ok (.enter gf args) w)
    {encs : α → Array Value} {Fx : Nat → α → World → Prop} {Kx : World → Prop} {S Sp : List α → Prop} {w0 : World} (hseq : Iter P gf fa lb encs Fx Kx S Sp w0) (hb0 : Below w0.heap.size w0 w) (hps : ∀ x, (encs x).size = ps.size)
    (I : List α → World → Prop) (Ix : Code → List α → World → Prop) (hK : ∀ pre A, I pre A → Kx A) (hI : On w.heap.size I) (hIx : ∀ c pre X o, Ix c pre X → Ix c pre (X.putObj (w.heap.size + 1) o)) (h0 : I [] w)
    (hround : ∀ (l : Nat) (pre : List α) (x : α) (W : World), Sp (pre ++ [x]) → Fx (w.heap.size + 2) x W → I pre W → w.heap.size + 2 ≤ W.heap.size →
      assign.wpIn (Fence.wide.inRound l) (n - 1 - 1) P (Exit.then (fun a₁ w₁ => Above w.heap.size W w₁ ∧ ∀ w₂, Below w.heap.size w₁ w₂ → Above (w.heap.size + 2) w₁ w₂ →
        body.wpIn (Fence.wide.inRound l) (n - 1 - 1) P (leftBy w.heap.size I Ix (pre ++ [x]) w₂) a₁ w₂) (fun _ _ _ => False)) { tmps := (ps.zip (encs x)).foldl (fun t (p, v) => t.setIfInBounds p v) a.tmps, defers := [] } W)
    (hdone : ∀ (xs : List α) (W : World), S xs → I xs W → W.heap[w.heap.size]? = some (.deferred (some [])) → Q .normal { a with defers := { target := .collected w.heap.size, args := #[] } :: a.defers } W)
    (hstop : ∀ (c : Code) (pre : List α) (W : World), Sp pre → Ix c pre W → W.heap[w.heap.size]? = some (.deferred (some [])) → c.wpIn Fence.wide n P Q { a with defers := { target := .collected w.heap.size, args := #[] } :: a.defers } W) :
    (Code.rangeFunc g ps assign body).wpIn Fence.wide n P Q a w := by
  refine wpIn_rangeFunc ?_
  intro fn hfn
  obtain ⟨B, hB⟩ : ∃ B, w.heap.size = B := ⟨_, rfl⟩
  let rec_ : LoopState → Option Code → Loop := fun st pe => { state := st, pending := pe, fn, tmps := a.tmps, params := ps, assign, body, defers := B }
  let U : World := (w.alloc (.deferred (some []))).alloc (.loop (rec_ .ready none))
  have hU1 : U.heap[B + 1]? = some (.loop (rec_ .ready none)) := by
    have := World.alloc_heap_new (w.alloc (.deferred (some []))) (.loop (rec_ .ready none))
    rw [World.size_alloc, hB] at this; exact this
  have hU0 : U.heap[B]? = some (.deferred (some [])) := by
    have h1 := World.alloc_heap_new w (.deferred (some []))
    have h2 := Below.heap_alloc (w.alloc (.deferred (some []))) (.loop (rec_ .ready none)) B (by simp; omega)
    rw [hB] at h1; exact h2.trans h1
  have hUs : U.heap.size = B + 2 := by show (World.alloc (World.alloc w _) _).heap.size = _; simp; omega
  have hUb : Below B w U := by
    rw [← hB]; exact ((Below.refl _ w).alloc (Nat.le_refl _) _).alloc (by simp) _
  refine ⟨B + 1, [{ target := .collected B, args := #[] }], U, { target := .fn (.func gf) lb, args := fa ++ #[.func (.yield (B + 1)) #[] #[]] }, U, gf,
    fa ++ #[.func (.yield (B + 1)) #[] #[]] ++ lb, U, ?_, ?_, fun f' _ => trivial, ?_, fun h => (by cases h), ?_⟩
  · have := run_enterLoop_outer (P := P) (w := w) fn a.tmps ps assign body
    rw [hB] at this; exact this
  · simp only [resolve, hg]; simp [go_sem]
  · simp [invoke, go_sem, eg]
  have still : ∀ {X Y : World}, Below (B + 2) X Y → X.heap[B + 1]? = some (.loop (rec_ .ready none)) → Y.heap[B + 1]? = some (.loop (rec_ .ready none)) := fun h k => (h.block _ (by omega)).trans k
  refine (hseq (n - 1) (B + 1)
    (fun pre W => I pre W ∧ B + 2 ≤ W.heap.size ∧ W.heap[B + 1]? = some (.loop (rec_ .ready none)) ∧ W.heap[B]? = some (.deferred (some [])))
    (fun pre W => ∃ c, Ix c pre W ∧ W.heap[B + 1]? = some (.loop (rec_ .done (some c))) ∧ W.heap[B]? = some (.deferred (some [])))
    U (by omega) (hb0.trans ((hB ▸ hUb).mono hb0.size)) ?_ (fun pre A h => hK pre A h.1) ?_ ⟨hI _ _ _ h0 (hB ▸ hUb), by omega, hU1, hU0⟩).mono ?_
  · rintro s X Y ⟨h1, h2, h3, h4⟩ hb
    rw [hUs] at hb
    exact ⟨hI _ _ _ h1 (hb.mono (by omega)), Nat.le_trans h2 hb.size, (hb.block _ (by omega)).trans h3, (hb.block _ (by omega)).trans h4⟩
  · rintro pre x W hsp hfx ⟨hi, hsz, hl, hk⟩ _
    have hy := run_yield (P := P) (args := encs x) hl (hps x)
    refine ⟨fn, _, assign, body, hy, roundIn_of_wpIn hfn ?_⟩
    have hr := hround (B + 1) pre x W hsp (by rw [hB]; rw [hUs] at hfx; exact hfx) hi (by omega)
    refine wpIn_mono hr ?_
    intro e a₁ w₁ hp
    cases e with
    | normal =>
      obtain ⟨hab, hbody⟩ := hp
      rw [hB] at hab
      have hl1 : w₁.heap[B + 1]? = some (.loop (rec_ .ready none)) := (hab.block _ (by omega) (by omega)).trans hl
      have hk1 : w₁.heap[B]? = some (.deferred (some [])) := (hab.block _ (by omega) (by omega)).trans hk
      have hs1 : B + 2 ≤ w₁.heap.size := Nat.le_trans hsz hab.size
      refine ⟨_, run_beginRound hl1 rfl, ?_⟩
      have hl2 : (w₁.putObj (B + 1) (.loop (rec_ .busy none))).heap[B + 1]? = some (.loop (rec_ .busy none)) := World.putObj_heap_same (by omega)
      have hk2 : (w₁.putObj (B + 1) (.loop (rec_ .busy none))).heap[B]? = some (.deferred (some [])) := (World.putObj_heap_other (by omega)).trans hk1
      have hs2 : B + 2 ≤ (w₁.putObj (B + 1) (.loop (rec_ .busy none))).heap.size := by simp [World.putObj]; omega
      have hA2 : Above (B + 2) W (w₁.putObj (B + 1) (.loop (rec_ .busy none))) := (hab.mono (by omega)).trans (Above.putObj _ (by omega) _)
      refine wpIn_mono (hbody (w₁.putObj (B + 1) (.loop (rec_ .busy none))) (below_putObj _ (by omega) _) (Above.putObj _ (by omega) _)) ?_
      have fin : ∀ (jump : Option Code) (X : World), Above B (w₁.putObj (B + 1) (.loop (rec_ .busy none))) X →
          (Instr.endRound (B + 1) jump).run P X = .ok (.bool jump.isNone) (X.putObj (B + 1) (.loop (rec_ (if jump.isNone then .ready else .done) jump))) ∧
          (X.putObj (B + 1) (.loop (rec_ (if jump.isNone then .ready else .done) jump))).heap[B + 1]? = some (.loop (rec_ (if jump.isNone then .ready else .done) jump)) ∧
          (X.putObj (B + 1) (.loop (rec_ (if jump.isNone then .ready else .done) jump))).heap[B]? = some (.deferred (some [])) ∧ B + 2 ≤ X.heap.size := fun jump X hX => by
        have hlX := (hX.block _ (by omega) (by omega)).trans hl2
        have hkX := (hX.block _ (by omega) (by omega)).trans hk2
        have hsX : B + 2 ≤ X.heap.size := Nat.le_trans hs2 hX.size
        exact ⟨run_endRound (P := P) jump hlX, World.putObj_heap_same (by omega), (World.putObj_heap_other (by omega)).trans hkX, hsX⟩
      have after : ∀ {β : Type} (J : β → World → Prop) (s : β) (X : World) (o : Obj), On w.heap.size J → J s X → J s (X.putObj (B + 1) o) := fun J s X o hJ h => hJ _ _ _ h (below_putObj _ (by omega) _)
      intro e a₃ X hX
      cases e with
      | normal =>
        obtain ⟨hA, hI3⟩ := hX
        rw [hB] at hA
        obtain ⟨r1, r2, r3, r4⟩ := fin none X hA
        exact ⟨_, _, r1, .inl ⟨rfl, ⟨after I _ _ _ hI hI3, by simp [World.putObj]; omega, r2, r3⟩, by
          rw [hUs]; exact (hA2.trans (hA.mono (by omega))).trans (Above.putObj _ (by omega) _)⟩⟩
      | ret =>
        obtain ⟨hA, hI3⟩ := hX
        rw [hB] at hA
        obtain ⟨r1, r2, r3, _⟩ := fin (some .ret) X hA
        exact ⟨_, _, r1, .inr ⟨rfl, .ret, (hB ▸ hIx _ _ _ _ hI3), r2, r3⟩⟩
      | exit id =>
        obtain ⟨hA, hI3⟩ := hX
        rw [hB] at hA
        obtain ⟨r1, r2, r3, _⟩ := fin (some (.exit id)) X hA
        exact ⟨_, _, r1, .inr ⟨rfl, .exit id, (hB ▸ hIx _ _ _ _ hI3), r2, r3⟩⟩
      | goto t =>
        obtain ⟨hA, hI3⟩ := hX
        rw [hB] at hA
        obtain ⟨r1, r2, r3, _⟩ := fin (some (.goto t)) X hA
        exact ⟨_, _, r1, .inr ⟨rfl, .goto t, (hB ▸ hIx _ _ _ _ hI3), r2, r3⟩⟩
      | panic ch => exact hX.elim
      | outgrown => exact hX.elim
    | ret => exact hp.elim
    | exit id => exact hp.elim
    | goto t => exact hp.elim
    | panic ch => exact hp.elim
    | outgrown => exact hp.elim
  · rintro e X ⟨⟨v, rfl⟩, (⟨xs, hS, hi, hsz, hl, hk⟩ | ⟨pre, hSp, c, hi, hl, hk⟩)⟩
    · refine ⟨none, _, run_endLoop (P := P) hl (by simp [rec_]), ?_⟩
      have := hdone xs (X.putObj (B + 1) (.loop (rec_ .exhausted none))) hS (hI _ _ _ hi (below_putObj _ (by omega) _)) (by rw [hB]; exact (World.putObj_heap_other (by omega)).trans hk)
      rw [hB] at this; exact this
    · refine ⟨some c, _, run_endLoop (P := P) hl (by simp [rec_]), ?_⟩
      have := hstop c pre (X.putObj (B + 1) (.loop (rec_ .exhausted (some c)))) hSp (hB ▸ hIx c _ _ _ hi) (by rw [hB]; exact (World.putObj_heap_other (by omega)).trans hk)
      rw [hB] at this; exact this
end Go.Proofs.Ytjimjdhdnkhfnaa
